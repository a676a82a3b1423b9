import PyProof.Rows.All
import Wide.All
import OpenK.AllK
import Wide.FinOn
import Lean
import PyProof.EqAt
import PyProof.EqKinds
import PyProof.TupleCall
import PyProof.CodeObjX
import PyProof.NeKinds
import PyProof.ZipIter
import PyProof.EnumStmt
import PyProof.EnumMake
import KE.KDictOf
import PyProof.AttrMissHeap
import PyProof.Rows.SeqMore2
import PyProof.Rows.MinMaxN
import PyProof.ListMulRoad
import PyProof.FactsAll.tuple_2
import PyProof.Rows.Range3
import PyProof.DefMake
import PyProof.DefStmt
import PyProof.RaisesMany
import PyProof.ExcClass2
import PyProof.Rows.Own
import PyProof.Rows.CatchOwn
import PyProof.RulesDel
import KE.KIsAll
import PyProof.IsiH_list
import PyProof.ExcArgsOwn
import OpenK.KOwn
import PyProof.ExcBaseAll.ValueError
import PySem.Challenge.RW_setsays_k38_rows_by_numbers
set_option Elab.async false
set_option linter.all false
set_option maxRecDepth 100000
/-! THE HAND LAYER, for ints, bools, texts, own classes, LISTS and tuples (index, slices, in, append, pop ..), calls, loops. Paste it whole ahead of your own text; what your proof does not reach may be deleted. -/
namespace L2
open PySem PySem.Spec PyProof.Rows

/-- a key: an int or a str -/
abbrev Key := Sum Int Str
/-- a truth as the number that it is -/
def blI (b : Bool) : Int := if b = true then 1 else 0
def isBl (k : Int) : Value → Bool
  | .bool b => k == blI b
  | _ => false
def keyIs : Key → Value → Bool
  | .inl k, v => Value.isInt k v || isBl k v
  | .inr x, v => Value.isStrOf x v
def keyH (w : World) : Key → Int
  | .inl k => hashInt k
  | .inr x => hashStr w x
theorem isBl_shape {k : Int} : ∀ {v : Value}, isBl k v = true → ∃ b, k = blI b ∧ v = Value.bool b := by
  intro v h
  cases v
  case bool b => exact ⟨b, eq_of_beq h, rfl⟩
  all_goals exact absurd h Bool.false_ne_true
theorem keyIs_shape : ∀ {k : Key} {v : Value}, keyIs k v = true → (∃ i t, k = Sum.inl i ∧ v = Value.int i t) ∨ (∃ x t, k = Sum.inr x ∧ v = Value.str x t) ∨ ∃ b, k = Sum.inl (blI b) ∧ v = Value.bool b
  | .inl i, v, h => by
    rcases (Bool.or_eq_true _ _).mp (show (Value.isInt i v || isBl i v) = true from h) with h | h
    · obtain ⟨t, e⟩ := Value.isInt_shape (k := i) (v := v) h
      exact .inl ⟨i, t, rfl, e⟩
    · obtain ⟨b, e, e'⟩ := isBl_shape h
      exact .inr (.inr ⟨b, by rw [e], e'⟩)
  | .inr x, v, h => by
    obtain ⟨t, e⟩ := Value.isStrOf_shape (x := x) (v := v) h
    exact .inr (.inl ⟨x, t, rfl, e⟩)
theorem keyIs_int (i : Int) (t : Tok) : keyIs (.inl i) (.int i t) = true := by simp [keyIs, Value.isInt]
theorem keyIs_bl (b : Bool) : keyIs (.inl (blI b)) (.bool b) = true := by simp [keyIs, isBl]
theorem hash_bl {prog : Program} {w : World} {A : Around} {E : Value → Shared → Prop} {s : Shared} {b : Bool} {Q : Int → Shared → Prop} (h : Q (hashInt (blI b)) { s with toks := s.toks + 1 }) : wpAny (model prog w) A (pyHash (.bool b)) Q E s := by
  have hT : s.TypeIs (.bool b) "bool" := rfl
  have hr := rawHash_range (blI b)
  unfold pyHash
  refine wpAny_bind ?_
  rw [cRoomFor, if_neg (show ¬ [Value.bool b].any Value.onHeap = true from Bool.false_ne_true)]
  refine wpAny_pure (wpAny_bind (wpAny_specialOf hT PySem.F.slot_bool_hash.lookup ?_))
  show wpAny _ _ (if (some (Value.builtin "int.__hash__") == some Value.none) = true then _ else _) Q E s
  rw [if_neg (show ¬ (some (Value.builtin "int.__hash__") == some Value.none) = true from Bool.false_ne_true)]
  refine wpAny_bind (wpAny_specialOf hT PySem.F.slot_bool_hash.lookup ?_)
  show wpAny _ _ (callSpecialIfBoundUnlessNone? (.bool b) "__hash__" _ >>= _) Q E s
  refine wpAny_bind (wpAny_callSpecialIfBoundUnlessNone?_slot hT PySem.F.slot_bool_hash (wpAny_call_entry PySem.F.slot_bool_hash hT PySem.F.entry_int_hash ?_ (PySem.F.args_int_hash_1 _)))
  refine (show wpAny _ _ (do ret (← mkInt (rawHash (blI b)))) _ _ s from wpAny_ret_mkInt ?_)
  show wpAny _ _ (if (decide (-(2 : Int) ^ 63 ≤ rawHash (blI b)) && decide (rawHash (blI b) < 2 ^ 63)) = true then _ else _) Q E _
  rw [if_pos (by rw [decide_eq_true hr.1, decide_eq_true hr.2]; rfl)]
  exact wpAny_pure h
theorem keyIs_str (x : Str) (t : Tok) : keyIs (.inr x) (.str x t) = true := by simp [keyIs, Value.isStrOf]
theorem key_ll (a b : Int) : decide ((Sum.inl a : Key) = Sum.inl b) = (a == b) := by
  by_cases e : a = b
  · subst e; simp
  · have h : ¬ (Sum.inl a : Key) = Sum.inl b := fun q => e (Sum.inl.inj q)
    rw [decide_eq_false h]
    exact (beq_eq_false_iff_ne.mpr e).symm
theorem key_rr (a b : Str) : decide ((Sum.inr a : Key) = Sum.inr b) = decide (a = b) := by
  by_cases e : a = b
  · subst e; simp
  · have h : ¬ (Sum.inr a : Key) = Sum.inr b := fun q => e (Sum.inr.inj q)
    rw [decide_eq_false h, decide_eq_false e]
theorem key_lr (a : Int) (b : Str) : decide ((Sum.inl a : Key) = Sum.inr b) = false := decide_eq_false (fun q => nomatch q)
theorem key_rl (a : Str) (b : Int) : decide ((Sum.inr a : Key) = Sum.inl b) = false := decide_eq_false (fun q => nomatch q)

def mixKind (prog : Program) (w : World) : PySem.KeyKind prog w Key where
  is := keyIs
  hash := keyH w
  inj := fun v a b ha hb => by
    rcases keyIs_shape ha with ⟨i, t, rfl, rfl⟩ | ⟨x, t, rfl, rfl⟩ | ⟨c, rfl, rfl⟩
    · rcases keyIs_shape hb with ⟨j, u, rfl, e⟩ | ⟨y, u, rfl, e⟩ | ⟨d, rfl, e⟩
      · injection e with e1 _; rw [e1]
      · exact nomatch e
      · exact nomatch e
    · rcases keyIs_shape hb with ⟨j, u, rfl, e⟩ | ⟨y, u, rfl, e⟩ | ⟨d, rfl, e⟩
      · exact nomatch e
      · injection e with e1 _; rw [e1]
      · exact nomatch e
    · rcases keyIs_shape hb with ⟨j, u, rfl, e⟩ | ⟨y, u, rfl, e⟩ | ⟨d, rfl, e⟩
      · exact nomatch e
      · exact nomatch e
      · injection e with e1; rw [e1]
  byValue := fun k v h => by
    rcases keyIs_shape h with ⟨i, t, rfl, rfl⟩ | ⟨x, t, rfl, rfl⟩ | ⟨c, rfl, rfl⟩ <;> rfl
  pyHash := fun hv h => by
    rcases keyIs_shape hv with ⟨i, t, rfl, rfl⟩ | ⟨x, t, rfl, rfl⟩ | ⟨c, rfl, rfl⟩
    · exact wpAny_pyHash_int h
    · exact wpAny_pyHash_str h
    · exact hash_bl h
  eqBool := fun hu hv h => by
    rcases keyIs_shape hu with ⟨i, t, rfl, rfl⟩ | ⟨x, t, rfl, rfl⟩ | ⟨c, rfl, rfl⟩
    · rcases keyIs_shape hv with ⟨j, u, rfl, rfl⟩ | ⟨y, u, rfl, rfl⟩ | ⟨d, rfl, rfl⟩
      · rw [key_ll] at h; exact wpAny_eqBool_int h
      · rw [key_lr] at h; exact SeqAt.EqAt.int_str i t y u _ _ _ _ h
      · rw [key_ll] at h; exact SeqAt.EqAt.int_bool i t d _ _ _ _ h
    · rcases keyIs_shape hv with ⟨j, u, rfl, rfl⟩ | ⟨y, u, rfl, rfl⟩ | ⟨d, rfl, rfl⟩
      · rw [key_rl] at h; exact SeqAt.EqAt.str_int x t j u _ _ _ _ h
      · rw [key_rr] at h; exact wpAny_eqBool_str h
      · rw [key_rl] at h; exact SeqAt.EqAt.str_bool x t d _ _ _ _ h
    · rcases keyIs_shape hv with ⟨j, u, rfl, rfl⟩ | ⟨y, u, rfl, rfl⟩ | ⟨d, rfl, rfl⟩
      · rw [key_ll] at h; exact SeqAt.EqAt.bool_int c j u _ _ _ _ h
      · rw [key_lr] at h; exact SeqAt.EqAt.bool_str c y u _ _ _ _ h
      · rw [key_ll, show (blI c == blI d) = (c == d) by cases c <;> cases d <;> rfl] at h
        exact SeqAt.EqAt.bool_bool c d _ _ _ _ h
  «strs» := fun k x t v h => by
    rcases keyIs_shape h with ⟨i, u, rfl, e⟩ | ⟨y, u, rfl, e⟩ | ⟨d, rfl, e⟩
    · exact nomatch e
    · injection e with e1 _
      subst e1
      cases v <;> rfl
    · exact nomatch e

theorem mixKind_int (prog : Program) (w : World) (i : Int) (t : Tok) : (mixKind prog w).is (.inl i) (.int i t) = true := keyIs_int i t
theorem mixKind_str (prog : Program) (w : World) (x : Str) (t : Tok) : (mixKind prog w).is (.inr x) (.str x t) = true := keyIs_str x t
end L2

namespace L2
open PySem PySem.Spec PyProof.Rows

/-- a value, without the heap -/
inductive V where
  | non | bl (b : Bool) | int (i : Int) | str (x : Str) | byt (b : Array UInt8) | flt (b : UInt64) | ref (a : Addr) | ty (n : String)
  deriving DecidableEq

def RelV : V → Value → Prop
  | .non, u => u = Value.none
  | .bl b, u => u = Value.bool b
  | .int i, u => ∃ t, u = Value.int i t
  | .str x, u => ∃ t, u = Value.str x t
  | .byt b, u => ∃ t, u = Value.bytes b t
  | .flt b, u => ∃ t, u = Value.float b t
  | .ref a, u => u = Value.ref a
  | .ty n, u => u = Value.type n

abbrev Vals : List V → List Value → Prop := Paired RelV
theorem Vals.length {xs : List V} {us : List Value} (r : Vals xs us) : xs.length = us.length := Paired.length r
theorem Vals.get : ∀ {xs : List V} {us : List Value} {i : Nat} {x : V}, Vals xs us → xs[i]? = some x → ∃ u, us[i]? = some u ∧ RelV x u
  | _, _, _, _, .nil, e => by simp at e
  | _, _, 0, _, .cons r _, e => by simp at e; subst e; exact ⟨_, rfl, r⟩
  | _, _, i + 1, x, .cons _ t, e => by
    obtain ⟨u, h1, h2⟩ := Vals.get (i := i) (x := x) t (by simpa using e)
    exact ⟨u, by simpa using h1, h2⟩
theorem Vals.set {x : V} {u : Value} (r : RelV x u) : ∀ {xs : List V} {us : List Value} (i : Nat), Vals xs us → Vals (xs.set i x) (us.set i u)
  | _, _, _, .nil => .nil
  | _, _, 0, .cons _ t => .cons r t
  | _, _, i + 1, .cons q t => .cons q (Vals.set r i t)
theorem Vals.append : ∀ {xs ys : List V} {us ws : List Value}, Vals xs us → Vals ys ws → Vals (xs ++ ys) (us ++ ws)
  | _, _, _, _, .nil, s => s
  | _, _, _, _, .cons r t, s => .cons r (Vals.append t s)
theorem Vals.take : ∀ {xs : List V} {us : List Value} (n : Nat), Vals xs us → Vals (xs.take n) (us.take n)
  | _, _, 0, _ => .nil
  | _, _, _ + 1, .nil => .nil
  | _, _, n + 1, .cons r t => .cons r (Vals.take n t)
theorem Vals.drop : ∀ {xs : List V} {us : List Value} (n : Nat), Vals xs us → Vals (xs.drop n) (us.drop n)
  | _, _, 0, r => r
  | _, _, _ + 1, .nil => .nil
  | _, _, n + 1, .cons _ t => Vals.drop n t
theorem Vals.none_of : ∀ {xs : List V} {us : List Value} {i : Nat}, Vals xs us → xs[i]? = none → us[i]? = none := fun {xs us i} r e => by
  have h1 := r.length
  have h2 : xs.length ≤ i := List.getElem?_eq_none_iff.mp e
  exact List.getElem?_eq_none_iff.mpr (by omega)

def RelO : Option V → Option Value → Prop
  | some v, some u => RelV v u
  | none, none => True
  | _, _ => False
def KV {κ : Type} : List (κ × V) → List (κ × Value) → Prop := Paired fun (p : κ × V) (q : κ × Value) => p.1 = q.1 ∧ RelV p.2 q.2

/-- a key of a dict (00_mix): an int or a text -/
def kV : Key → V
  | .inl i => .int i
  | .inr x => .str x

/-- what stands at a tracked address -/
inductive HO where
  /-- a list -/
  | lst (xs : List V)
  /-- a tuple (never changes) -/
  | tup (xs : List V)
  /-- a dict whose keys are ints and texts; one whose keys are tuples of ints and texts (the empty one is both) -/
  | dK (kvs : List (Key × V)) | dT (kvs : List (List Key × V))
  /-- a set of ints: its members, its size -/
  | set (S : Int → Bool) (n : Nat)
  /-- an instance of the class at C, its dict at dx, its attributes -/
  | ins (C dx : Addr) (fs : List (Str × V))
  /-- the dict of the instance at x -/
  | own (x : Addr)
  /-- the dict of an exception -/
  | xd (fs : List (Str × V))
  /-- a bound method, f of x -/
  | met (f x : Addr)
  /-- a range object lo, lo + 1, .. below hi -/
  | rng (lo hi : Int)
  /-- a thing that is known to the object (the script; a dict while a loop walks it): read, never written while it is so -/
  | frz (o : Obj) (u : HO)
  /-- a code object's table -/
  | tbl (qs : List (Pos × Str)) (ps : Array Value)
  /-- any other thing, by what is true of its one object (a def of one's own: SetO a S n := HO.ext fun h => ..) -/
  | ext (φ : Heap → Prop)

abbrev Hp := Addr → Option HO
def upd (H : Hp) (a : Addr) (o : HO) : Hp := fun b => if b = a then some o else H b
theorem upd_same {H : Hp} {a : Addr} {o : HO} : upd H a o a = some o := by unfold upd; rw [if_pos rfl]
theorem upd_ne {H : Hp} {a b : Addr} {o : HO} (h : b ≠ a) : upd H a o b = H b := by unfold upd; rw [if_neg h]
/-- two objects of different content stand apart -/
theorem ne_of {H : Hp} {a b : Addr} {o u : HO} (h : H a = some o) (h' : H b = some u) (d : o ≠ u) : a ≠ b := by
  intro e; subst e; rw [h] at h'; exact d (Option.some.inj h')
theorem ne_of_none {H : Hp} {a b : Addr} {o : HO} (h : H a = some o) (h' : H b = none) : a ≠ b := by
  intro e; subst e; rw [h] at h'; cases h'

section
variable (P : Program) (w : World)
def CodeObj (o : Obj) (q : Str) : Prop := ∃ vs t, o.data = .fields vs ∧ vs[1]? = some (.str q t)
def ObjOk (H : Hp) (h : Heap) (a : Addr) : HO → Prop
  | .lst xs => xs.length ≤ sizeLine ∧ ∃ (its : List Value) (n : Nat), Vals xs its ∧ h.get? a = some { cls := .type "list", data := .seq its.toArray n }
  | .tup xs => xs.length ≤ sizeLine ∧ ∃ its : List Value, Vals xs its ∧ IsTup h a its.toArray
  | .dK kvs => kvs.length ≤ sizeLine ∧ (a == sysModules) = false ∧ ∃ vs, KV kvs vs ∧ h.DictOf (mixKind P w) a vs
  | .dT kvs => kvs.length ≤ sizeLine ∧ (a == sysModules) = false ∧ ∃ xs : List (List Key × Addr × Value),
      Paired (fun (p : List Key × V) (q : List Key × Addr × Value) => p.1 = q.1 ∧ H q.2.1 = some (.tup (p.1.map kV)) ∧ RelV p.2 q.2.2) kvs xs ∧
      ∃ o es ep, h.get? a = some o ∧ o.ExactDict ∧ o.data = .dict es ep ∧ es.toList = xs.map (entryOfKey (tupleKind (mixKind P w))) ∧ (xs.map (·.1)).Nodup
  | .set S n => h.SetOf (intKind P w) a S n
  | .ins C dx fs => H dx = some (.own a) ∧ fs.length ≤ 1000 ∧ dx ≠ a ∧ h.get? a = some (PySem.W.instObj C dx) ∧
      ∃ mA, h.Ns1 dx mA ∧ (∀ f, RelO (fs.lookup f) (mA f)) ∧ PySem.Within mA (fs.map (·.1))
  | .own _ => ∃ o, h.get? a = some o
  | .xd fs => ∃ mA, h.Ns1 a mA ∧ ∀ f, RelO (fs.lookup f) (mA f)
  | .rng lo hi => ∃ t u v, h.get? a = some { cls := .type "range", data := .fields #[.int lo t, .int hi u, .int 1 v] }
  | .frz o u => h.get? a = some o ∧ ObjOk H h a u
  | .tbl qs ps => ∃ more : Array Value, h.get? a = some { cls := .none, data := .fields (ps ++ more) } ∧ TriplesOk (ps ++ more).toList ∧ ∀ p ∈ qs, ∀ v, codeAmong p.1 (ps ++ more).toList = some v → ∃ c o, v = .ref c ∧ H c = some (.frz o (.own c)) ∧ CodeObj o p.2
  | .met f x => h.get? a = some (PySem.W.methodObj (.ref f) (.ref x))
  | .ext φ => φ h ∧ (∃ o, h.get? a = some o) ∧ ∀ h1 h2 : Heap, φ h1 → (∀ o, h1.get? a = some o → h2.get? a = some o) → φ h2
/-- the abstract heap is held -/
def HOk (H : Hp) (h : Heap) : Prop := ∀ a o, H a = some o → ObjOk P w H h a o
end

section
variable {P : Program} {w : World} {H H' : Hp} {h h' : Heap} {a : Addr} {o : HO}
theorem ObjOk.lt (x : ObjOk P w H h a o) : a < h.objs.size := by
  cases o with
  | lst xs => obtain ⟨_, _, _, _, e⟩ := x; exact Heap.lt_size e
  | tup xs => obtain ⟨_, _, _, p⟩ := x; exact p.lt
  | dK kvs => obtain ⟨_, _, _, _, o, _, _, e, _⟩ := x; exact Heap.lt_size e
  | dT kvs => obtain ⟨_, _, _, _, o, _, _, e, _⟩ := x; exact Heap.lt_size e
  | set S n => obtain ⟨o, _, _, _, e, _⟩ := x; exact Heap.lt_size e
  | ins C dx fs => obtain ⟨_, _, _, e, _⟩ := x; exact Heap.lt_size e
  | own y => obtain ⟨_, e⟩ := x; exact Heap.lt_size e
  | xd fs => obtain ⟨_, ⟨_, _, _, e, _⟩, _⟩ := x; exact Heap.lt_size e
  | rng lo hi => obtain ⟨_, _, _, e⟩ := x; exact Heap.lt_size e
  | frz ob u => obtain ⟨e, _⟩ := x; exact Heap.lt_size e
  | tbl qs ps => obtain ⟨_, e, _⟩ := x; exact Heap.lt_size e
  | met f y => exact Heap.lt_size (show h.get? a = some _ from x)
  | ext φ => obtain ⟨_, ⟨_, e⟩, _⟩ := x; exact Heap.lt_size e
theorem Paired.mapP {α β : Type} {F G : α → β → Prop} : ∀ {l₁ : List α} {l₂ : List β}, Paired F l₁ l₂ → (∀ a b, F a b → G a b) → Paired G l₁ l₂
  | _, _, .nil, _ => .nil
  | _, _, .cons r t, f => .cons (f _ _ r) (Paired.mapP t f)
/-- what an object's description leans on: its own object, its own dict, the tuples -/
theorem ObjOk.stay (x : ObjOk P w H h a o) (k : ∀ b u, (b = a ∨ H b = some (.own a)) → h.get? b = some u → h'.get? b = some u)
    (ho : ∀ b, H b = some (.own a) → H' b = some (.own a)) (hf : ∀ b o u q, CodeObj o q → H b = some (.frz o u) → H' b = some (.frz o u)) (ht : ∀ b xs, H b = some (.tup xs) → H' b = some (.tup xs)) : ObjOk P w H' h' a o := by
  induction o with
  | lst xs => obtain ⟨z, its, n, r, e⟩ := x; exact ⟨z, its, n, r, k _ _ (.inl rfl) e⟩
  | tup xs => obtain ⟨z, its, r, ob, e, c⟩ := x; exact ⟨z, its, r, ob, k _ _ (.inl rfl) e, c⟩
  | dK kvs => obtain ⟨z, y, vs, r, ob, es, ep, e, c⟩ := x; exact ⟨z, y, vs, r, ob, es, ep, k _ _ (.inl rfl) e, c⟩
  | dT kvs =>
    obtain ⟨z, y, xs, r, ob, es, ep, e, c⟩ := x
    exact ⟨z, y, xs, Paired.mapP r fun p q z => ⟨z.1, ht _ _ z.2.1, z.2.2⟩, ob, es, ep, k _ _ (.inl rfl) e, c⟩
  | set S n => obtain ⟨ob, es, ep, t, e, c⟩ := x; exact ⟨ob, es, ep, t, k _ _ (.inl rfl) e, c⟩
  | ins C dx fs =>
    obtain ⟨d, z, ne, e, mA, ⟨od, es, ep, e2, c⟩, r⟩ := x
    exact ⟨ho _ d, z, ne, k _ _ (.inl rfl) e, mA, ⟨od, es, ep, k _ _ (.inr d) e2, c⟩, r⟩
  | own y => obtain ⟨ob, e⟩ := x; exact ⟨ob, k _ _ (.inl rfl) e⟩
  | xd fs => obtain ⟨mA, ⟨od, es, ep, e, c⟩, r⟩ := x; exact ⟨mA, ⟨od, es, ep, k _ _ (.inl rfl) e, c⟩, r⟩
  | rng lo hi => obtain ⟨t, u, v, e⟩ := x; exact ⟨t, u, v, k _ _ (.inl rfl) e⟩
  | frz ob u ih => obtain ⟨e, q⟩ := x; exact ⟨k _ _ (.inl rfl) e, ih q⟩
  | tbl qs ps => obtain ⟨more, e, t, c⟩ := x; exact ⟨more, k _ _ (.inl rfl) e, t, fun p hp v q => let ⟨c1, o, r, z, co⟩ := c p hp v q; ⟨c1, o, r, hf _ _ _ _ co z, co⟩⟩
  | met f y =>
    have e : h.get? a = some (PySem.W.methodObj (.ref f) (.ref y)) := x
    show h'.get? a = some (PySem.W.methodObj (.ref f) (.ref y))
    exact k a _ (.inl rfl) e
  | ext φ => obtain ⟨p, ⟨o, e⟩, st⟩ := x; exact ⟨st _ _ p fun o q => k _ _ (.inl rfl) q, ⟨o, k _ _ (.inl rfl) e⟩, st⟩
theorem HOk.lt (x : HOk P w H h) (e : H a = some o) : a < h.objs.size := (x a o e).lt
theorem HOk.fresh (x : HOk P w H h) (e : h.objs.size ≤ a) : H a = none := by
  cases q : H a with
  | none => rfl
  | some u => exact absurd (Nat.lt_of_lt_of_le (x.lt q) e) (Nat.lt_irrefl _)
/-- every object of the heap is kept -/
theorem HOk.kept (x : HOk P w H h) (k : ∀ b u, h.get? b = some u → h'.get? b = some u) : HOk P w H h' := fun a o e =>
  (x a o e).stay (fun b u _ q => k b u q) (fun _ q => q) (fun _ _ _ _ _ q => q) fun _ _ q => q
/-- a new object is laid and tracked -/
theorem HOk.laid (x : HOk P w H h) (k : ∀ b u, h.get? b = some u → h'.get? b = some u) (hp : h.objs.size ≤ a) (new : ObjOk P w (upd H a o) h' a o) : HOk P w (upd H a o) h' := fun b u e => by
  have hn := x.fresh hp
  by_cases hb : b = a
  · subst hb; rw [upd_same] at e; cases e; exact new
  · rw [upd_ne hb] at e
    exact (x b u e).stay (fun c v _ q => k c v q) (fun c q => by rw [upd_ne (ne_of_none q hn)]; exact q) (fun c _ _ _ _ q => by rw [upd_ne (ne_of_none q hn)]; exact q) fun c xs q => by rw [upd_ne (ne_of_none q hn)]; exact q
end

/-- what may be read as u: it is u, or a known u -/
def Rd (H : Hp) (a : Addr) (u : HO) : Prop := H a = some u ∨ ∃ o, H a = some (.frz o u)
theorem Rd.of {H : Hp} {a : Addr} {u : HO} (h : H a = some u) : Rd H a u := .inl h
theorem Rd.ok {P : Program} {w : World} {H : Hp} {h : Heap} {a : Addr} {u : HO} (r : Rd H a u) (x : HOk P w H h) : ObjOk P w H h a u := by
  rcases r with r | ⟨o, r⟩
  · exact x a u r
  · obtain ⟨_, q⟩ := x a _ r
    exact q
/-- what may be written -/
def Mut : Option HO → Prop
  | some (.lst _) => True
  | some (.dK _) => True
  | some (.dT _) => True
  | some (.set _ _) => True
  | some (.ins _ _ _) => True
  | some (.ext _) => True
  | _ => False
section
variable {P : Program} {w : World} {H : Hp} {h h' : Heap} {x e : Addr} {o' : HO}
/-- the object at e is changed: x itself, or the dict of the instance x -/
theorem HOk.write (ok : HOk P w H h) (mu : Mut (H x)) (he : e = x ∨ H e = some (.own x)) (k : ∀ b u, b ≠ e → h.get? b = some u → h'.get? b = some u) (heo : ∃ u, h'.get? e = some u)
    (new : ObjOk P w (upd H x o') h' x o') : HOk P w (upd H x o') h' := fun b u q => by
  have nown : ∀ c y, H c = some (.own y) → c ≠ x := fun c y r z => by subst z; rw [r] at mu; exact mu
  have ntup : ∀ c xs, H c = some (.tup xs) → c ≠ x := fun c xs r z => by subst z; rw [r] at mu; exact mu
  have nfrz : ∀ c o y, H c = some (.frz o y) → c ≠ x := fun c o y r z => by subst z; rw [r] at mu; exact mu
  by_cases hb : b = x
  · subst hb; rw [upd_same] at q; cases q; exact new
  · rw [upd_ne hb] at q
    by_cases hbe : b = e
    · have q' : H b = some (.own x) := by
        rcases he with z | z
        · exact absurd (hbe.trans z) hb
        · rw [hbe]; exact z
      rw [q] at q'; cases q'
      obtain ⟨v, hv⟩ := heo
      exact ⟨v, by rw [hbe]; exact hv⟩
    · refine (ok b u q).stay (fun c v hc r => k c v ?_ r) (fun c r => by rw [upd_ne (nown c b r)]; exact r) (fun c o y _ _ r => by rw [upd_ne (nfrz c o y r)]; exact r) fun c xs r => by rw [upd_ne (ntup c xs r)]; exact r
      rcases hc with rfl | hc
      · exact hbe
      · rintro rfl
        rcases he with z | z
        · exact nown c b hc z
        · rw [hc] at z; cases z; exact hb rfl
end

/-! ### kept unless tracked; of the frames at fs (the callers') the slots may change (an exception that passes writes there); of the records at ex (iterators) nothing is said -/
structure Un (fs ex : List Addr) (H H' : Hp) (h h' : Heap) : Prop where
  keep : ∀ b o, h.get? b = some o → H b = none → b ∉ fs → b ∉ ex → h'.get? b = some o
  slot : ∀ b o, h.get? b = some o → H b = none → b ∈ fs → b ∉ ex → ∃ sl, h'.get? b = some { o with slots := sl }
  free : ∀ b o, h.get? b = some o → H b = none → b ∉ ex → H' b = none
  there : ∀ b o, h.get? b = some o → b ∉ ex → ∃ o', h'.get? b = some o'
  tups : ∀ b xs, H b = some (.tup xs) → H' b = some (.tup xs)
  frzs : ∀ b o u, H b = some (.frz o u) → H' b = some (.frz o u)
  tbls : ∀ b qs ps, H b = some (.tbl qs ps) → H' b = some (.tbl qs ps)
section
variable {fs fs' ex ex' : List Addr} {H H1 H2 : Hp} {h h1 h2 h' : Heap} {a x e : Addr} {o : HO}
theorem Un.any (u : Un fs ex H H1 h h1) {b : Addr} {ob : Obj} (q : h.get? b = some ob) (n : H b = none) (hx : b ∉ ex) : ∃ sl, h1.get? b = some { ob with slots := sl } := by
  by_cases hb : b ∈ fs
  · exact u.slot b ob q n hb hx
  · exact ⟨ob.slots, u.keep b ob q n hb hx⟩
theorem Un.trans (a : Un fs ex H H1 h h1) (b : Un fs ex H1 H2 h1 h2) : Un fs ex H H2 h h2 where
  keep := fun c ob q n hc hx => b.keep c ob (a.keep c ob q n hc hx) (a.free c ob q n hx) hc hx
  slot := fun c ob q n hc hx => by
    obtain ⟨sl, e1⟩ := a.slot c ob q n hc hx
    obtain ⟨sl', e2⟩ := b.slot c _ e1 (a.free c ob q n hx) hc hx
    exact ⟨sl', e2⟩
  free := fun c ob q n hx => by
    obtain ⟨o', e1⟩ := a.there c ob q hx
    exact b.free c o' e1 (a.free c ob q n hx) hx
  there := fun c ob q hx => by
    obtain ⟨o', e1⟩ := a.there c ob q hx
    exact b.there c o' e1 hx
  tups := fun c xs q => b.tups c xs (a.tups c xs q)
  frzs := fun c ob xs q => b.frzs c ob xs (a.frzs c ob xs q)
  tbls := fun c qs ps q => b.tbls c qs ps (a.tbls c qs ps q)
theorem Un.kept (k : ∀ b u, h.get? b = some u → h'.get? b = some u) : Un fs ex H H h h' :=
  ⟨fun b ob q _ _ _ => k b ob q, fun b ob q _ _ _ => ⟨ob.slots, k b ob q⟩, fun _ _ _ n _ => n, fun b ob q _ => ⟨ob, k b ob q⟩, fun _ _ q => q, fun _ _ _ q => q, fun _ _ _ q => q⟩
theorem Un.refl : Un fs ex H H h h := Un.kept fun _ _ q => q
theorem Un.laid (k : ∀ b u, h.get? b = some u → h'.get? b = some u) (hp : h.objs.size ≤ a) (hn : H a = none) : Un fs ex H (upd H a o) h h' where
  keep := fun b u q _ _ _ => k b u q
  slot := fun b u q _ _ _ => ⟨u.slots, k b u q⟩
  free := fun b u q n _ => by rw [upd_ne (Nat.ne_of_lt (Nat.lt_of_lt_of_le (Heap.lt_size q) hp))]; exact n
  there := fun b u q _ => ⟨u, k b u q⟩
  tups := fun b xs q => by rw [upd_ne (ne_of_none q hn)]; exact q
  frzs := fun b u xs q => by rw [upd_ne (ne_of_none q hn)]; exact q
  tbls := fun b qs ps q => by rw [upd_ne (ne_of_none q hn)]; exact q
theorem Un.write (mu : Mut (H x)) (he : e = x ∨ H e = some (.own x)) (k : ∀ b u, b ≠ e → h.get? b = some u → h'.get? b = some u) (heo : ∃ u, h'.get? e = some u) : Un fs ex H (upd H x o) h h' := by
  have hx : ∀ b, H b = none → b ≠ x := fun b n z => by subst z; rw [n] at mu; exact mu
  have hb : ∀ b, H b = none → b ≠ e := fun b n z => by
    subst z
    rcases he with r | r
    · exact hx b n r
    · rw [n] at r; cases r
  have hm : ∀ b u, H b = some u → ¬ Mut (some u) → b ≠ x := fun b u q nm z => by subst z; rw [q] at mu; exact nm mu
  refine ⟨fun b u q n _ _ => k b u (hb b n) q, fun b u q n _ _ => ⟨u.slots, k b u (hb b n) q⟩, fun b u q n _ => by rw [upd_ne (hx b n)]; exact n, fun b u q _ => ?_,
    fun b xs q => by rw [upd_ne (hm b _ q fun z => z)]; exact q, fun b u xs q => by rw [upd_ne (hm b _ q fun z => z)]; exact q, fun b qs ps q => by rw [upd_ne (hm b _ q fun z => z)]; exact q⟩
  by_cases hbe : b = e
  · subst hbe; exact heo
  · exact ⟨u, k b u hbe q⟩
theorem Un.mono (u : Un fs ex H H1 h h1) (hs : ∀ b ∈ fs, b ∈ fs') (hx : ∀ b ∈ ex, b ∈ ex') : Un fs' ex' H H1 h h1 :=
  ⟨fun b ob q n hb he => u.keep b ob q n (fun z => hb (hs b z)) fun z => he (hx b z), fun _ _ q n _ he => u.any q n fun z => he (hx _ z), fun b ob q n he => u.free b ob q n fun z => he (hx b z), fun b ob q he => u.there b ob q fun z => he (hx b z), u.tups, u.frzs, u.tbls⟩
end

/-! ### the heap without what is tracked -/
def trk (h : Heap) (H : Hp) : List Addr := (List.range h.objs.size).filter fun a => (H a).isSome
def hidT (h : Heap) (H : Hp) : Heap := PySem.W.hideAll h (trk h H)
theorem hidT_size (h : Heap) (H : Hp) : (hidT h H).objs.size = h.objs.size := PySem.W.hideAll_size _ _
theorem hidT_get {h : Heap} {H : Hp} {b : Addr} {o : Obj} (e : h.get? b = some o) (n : H b = none) : (hidT h H).get? b = some o :=
  PySem.W.hideAll_get _ e fun hm => by
    have q : (H b).isSome = true := (List.mem_filter.mp hm).2
    rw [n] at q; simp at q
theorem of_hidT {h : Heap} {H : Hp} {b : Addr} {o : Obj} (e : (hidT h H).get? b = some o) : h.get? b = some o ∧ H b = none := by
  have e' : h.get? b = some o := PySem.W.of_hideAll (trk h H) e
  refine ⟨e', ?_⟩
  cases q : H b with
  | none => rfl
  | some x =>
    have hm : b ∈ trk h H := List.mem_filter.mpr ⟨List.mem_range.mpr (Heap.lt_size e'), by simp [q]⟩
    have z : (hidT h H).get? b = none := PySem.W.hideAll_none (trk h H) hm
    rw [z] at e; cases e

/-! ### OpenK's ledger, filled with every new object but one -/
def allNews (g h : Heap) (L : Addr) : List (Addr × Obj) := (List.range h.objs.size).filterMap fun a => if a = L ∨ (g.get? a).isSome = true then none else (h.get? a).map fun o => (a, o)
def rest (g h : Heap) (L d : Addr) : List (Addr × Obj) := (allNews g h L).filter fun p => decide (p.1 ≠ d)
end L2

namespace L2
open PySem PySem.Spec PyProof.Rows

/-- the module's facts, over the base: the heap at the law's entry without what is tracked there -/
structure Mod (K : PySem.W.Frag) (mg : Str → Option Value) (base : Heap) : Prop where
  kin : K.In base
  glob : base.Ns mainGlobals mg
  blt : ∃ mb, base.Ns builtinsNs mb ∧ ∀ x : Str, x ≠ "__name__" → mb x = bootBuiltins x
  nolimit : base.NoLimit

/-- the context: a def's body (or a comprehension's block) running. base: fixed through the whole law; s₀, H₀: the entry; outer: the frames whose slots others may change (a def's callers); stack: all frames that run;
   ex: iterators that were made ahead of the entry and are walked here (a comprehension's); fn: the names whose cells were made at the entry (a def: all; a comprehension's block: its own); calm: not within an except suite; pn: pins that every state bears; xe: what is wanted of an exception that leaves the code -/
structure Cx where
  prog : Program
  w : World
  K : PySem.W.Frag
  mg : Str → Option Value
  base : Heap
  A : Around
  N : List Str
  s₀ : Shared
  H₀ : Hp
  env : Env
  outer : List Env
  stack : List Env
  ex : List Addr
  fn : Str → Bool
  calm : Bool
  pn : List (Addr × Obj)
  xe : Value → Shared → Prop
/-- the callers' frames -/
def frs (l : List Env) : List Addr := l.filterMap (·.frame)
abbrev Cx.fs (X : Cx) : List Addr := frs X.outer

def Vis (sc : Scope) (x : Str) : Prop := sc.names.lookup x = some .local ∨ sc.names.lookup x = some .cell ∨ sc.names.lookup x = some .free
def Loc (sc : Scope) (x : Str) : Prop := sc.names.lookup x = some .local ∨ sc.names.lookup x = some .cell
def Look (env : Env) (h : Heap) (m : Str → Option Value) (x : Str) (u : Value) : Prop :=
  (env.kindOf x = some .local ∧ m x = some u) ∨ ((env.kindOf x = some .cell ∨ env.kindOf x = some .free) ∧ ∃ c, env.cells.lookup x = some c ∧ h.IsCell c (some u))

structure Cx.Ok (X : Cx) : Prop where
  mod : Mod X.K X.mg X.base
  kind : X.env.scope.kind = .function
  glob : X.env.globals = mainGlobals
  blt : X.env.builtins = builtinsNs
  above : X.s₀.heap.objs.size ≤ X.env.locals
  inj : ∀ x y c, X.env.cells.lookup x = some c → X.env.cells.lookup y = some c → x = y
  has : ∀ x, (X.env.kindOf x = some .cell ∨ X.env.kindOf x = some .free) → ∃ c, X.env.cells.lookup x = some c
  cab : ∀ x c, X.fn x = true → X.env.cells.lookup x = some c → X.s₀.heap.objs.size ≤ c
  hd : X.calm = true → X.A.handled = none
  frames : X.A.frames = some X.stack
  stk : X.stack = X.outer ∨ (X.stack = X.env :: X.outer ∧ X.env.frame = some X.env.locals)
  exf : ∀ b ∈ X.ex, b ≠ X.env.locals ∧ ∀ x c, X.env.cells.lookup x = some c → c ≠ b
  bs : ∀ b o, X.base.get? b = some o → X.s₀.heap.get? b = some o ∧ X.H₀ b = none
  bsz : X.base.objs.size ≤ X.s₀.heap.objs.size
  noex : ∀ b o, X.base.get? b = some o → b ∉ X.ex
  exfs : ∀ b ∈ X.ex, b ∉ X.fs
  funs : X.s₀.heap.FunFrames X.base X.outer
  frf : ∀ b ∈ X.fs, X.H₀ b = none

structure Inv (X : Cx) (pins : List (Addr × Obj)) (σ : List (Option V)) (H : Hp) (s : Shared) : Prop where
  ok : X.Ok
  os : s.os = X.s₀.os
  bare : AllBare s.gens
  base : Un X.fs X.ex X.H₀ H X.s₀.heap s.heap
  loc : ∃ m, s.heap.Ns X.env.locals m ∧ ∀ (i : Nat) (x : Str) (v : V), X.N[i]? = some x → σ[i]? = some (some v) → Vis X.env.scope x → ∃ u, RelV v u ∧ Look X.env s.heap m x u
  cell : ∀ x c, X.env.cells.lookup x = some c → ∃ v, s.heap.IsCell c v
  free : H X.env.locals = none
  freeC : ∀ x c, X.env.cells.lookup x = some c → H c = none
  pin : ∀ p ∈ X.pn ++ pins, s.heap.get? p.1 = some p.2 ∧ H p.1 = none ∧ p.1 ≠ X.env.locals ∧ p.1 ∉ X.fs ∧ ∀ v, p.2.data ≠ .cell v
  hok : HOk X.prog X.w H s.heap
  len : σ.length = X.N.length

section
variable {X : Cx} {pins : List (Addr × Obj)} {σ : List (Option V)} {H H' : Hp} {s : Shared} {h' : Heap}

theorem Cx.Ok.nofr (ok : X.Ok) {b : Addr} {o : Obj} (e : X.base.get? b = some o) : b ∉ X.fs := fun hb => by
  have := (ok.funs.mem hb).1
  rw [e] at this; cases this
theorem Inv.bs (I : Inv X pins σ H s) : ∀ b o, X.base.get? b = some o → s.heap.get? b = some o ∧ H b = none := fun b o e =>
  ⟨I.base.keep b o (I.ok.bs b o e).1 (I.ok.bs b o e).2 (I.ok.nofr e) (I.ok.noex b o e), I.base.free b o (I.ok.bs b o e).1 (I.ok.bs b o e).2 (I.ok.noex b o e)⟩
theorem Inv.bk (I : Inv X pins σ H s) : ∀ b o, X.base.get? b = some o → s.heap.get? b = some o := fun b o e => (I.bs b o e).1
theorem Inv.mod (I : Inv X pins σ H s) : Mod X.K X.mg X.base := I.ok.mod
theorem Inv.kIn (I : Inv X pins σ H s) : X.K.In s.heap := I.ok.mod.kin.keeps I.bk
theorem Inv.nolimit (I : Inv X pins σ H s) : s.heap.NoLimit := I.ok.mod.nolimit.keeps I.bk
/-- the frame over the base: for OpenK's rules (K.In X.base is I.mod.kin) -/
theorem Inv.fr (I : Inv X pins σ H s) : ∃ m, Fr X.base X.env.locals s.heap m :=
  let ⟨m, hn, _⟩ := I.loc
  ⟨m, hn, I.bk, Nat.le_trans I.ok.bsz I.ok.above⟩
theorem Inv.lt (I : Inv X pins σ H s) : X.env.locals < s.heap.objs.size := let ⟨_, hn, _⟩ := I.loc; hn.lt
theorem Inv.sz (I : Inv X pins σ H s) : X.s₀.heap.objs.size ≤ s.heap.objs.size := Nat.le_trans I.ok.above (Nat.le_of_lt I.lt)
theorem Inv.nofs (I : Inv X pins σ H s) {a : Addr} (h : s.heap.objs.size ≤ a) : a ∉ X.fs := fun hb => by
  obtain ⟨_, o, ho, _⟩ := I.ok.funs.mem hb
  exact absurd (Nat.lt_of_lt_of_le (Heap.lt_size ho) (Nat.le_trans I.sz h)) (Nat.lt_irrefl _)
theorem Inv.cne (I : Inv X pins σ H s) : ∀ x c, X.env.cells.lookup x = some c → c ≠ X.env.locals := fun x c e z => by
  obtain ⟨v, o, ho, hd⟩ := I.cell x c e
  obtain ⟨m, ⟨o', es, ep, ho', hd', _⟩, _⟩ := I.loc
  rw [z, ho'] at ho; cases ho; rw [hd'] at hd; cases hd
theorem Inv.funs (I : Inv X pins σ H s) : s.heap.FunFrames X.base X.outer := by
  have all : ∀ (l : List Env), (∀ b ∈ frs l, b ∈ X.fs) → X.s₀.heap.FunFrames X.base l → s.heap.FunFrames X.base l := by
    intro l
    induction l with
    | nil => intro _ _; trivial
    | cons env r ih =>
      intro hs hl
      obtain ⟨hk, ⟨L, o, hf, hn, ho, hd⟩, hr⟩ := hl
      have hL : L ∈ X.fs := hs L (by unfold frs; rw [List.filterMap_cons, hf]; exact List.mem_cons_self)
      obtain ⟨sl, e⟩ := I.base.slot L o ho (I.ok.frf L hL) hL fun z => I.ok.exfs L z hL
      exact ⟨hk, ⟨L, _, hf, hn, e, hd⟩, ih (fun b hb => hs b (by unfold frs; rw [List.filterMap_cons, hf]; exact List.mem_cons_of_mem _ hb)) hr⟩
  exact all X.outer (fun _ hb => hb) I.ok.funs

/-- the frames that run, for a call -/
theorem Inv.stack (I : Inv X pins σ H s) : s.heap.FunFrames X.base X.stack := by
  rcases I.ok.stk with e | ⟨e, hf⟩
  · rw [e]; exact I.funs
  · rw [e]
    obtain ⟨m, hn, _⟩ := I.loc
    refine .cons (by rw [I.ok.kind]; decide) hf hn ?_ I.funs
    exact Heap.get?_none_of_le (Nat.le_trans I.ok.bsz I.ok.above)
theorem Inv.stkSub (I : Inv X pins σ H s) : ∀ b ∈ frs X.stack, b ∈ X.env.locals :: X.fs := fun b hb => by
  rcases I.ok.stk with e | ⟨e, hf⟩
  · rw [e] at hb; exact List.mem_cons_of_mem _ hb
  · rw [e] at hb
    unfold frs at hb
    rw [List.filterMap_cons, hf] at hb
    exact hb
theorem Inv.stkFree (I : Inv X pins σ H s) : ∀ b ∈ frs X.stack, H b = none := fun b hb => by
  rcases List.mem_cons.mp (I.stkSub b hb) with e | hb
  · rw [e]; exact I.free
  · obtain ⟨_, o, ho, _⟩ := I.ok.funs.mem hb
    exact I.base.free b o ho (I.ok.frf b hb) fun z => I.ok.exfs b z hb

/-- THE STEP: the untracked objects but the frame and the records at ch are kept (the callers' frames up to slots), the frame's map is kept, the new abstract heap is held -/
theorem Inv.step {g' : Array GenState} {t' : Nat} {d' : Drawn} {ch : List Addr} (I : Inv X pins σ H s)
    (hch : ∀ b ∈ ch, (b ∈ X.ex ∨ X.s₀.heap.objs.size ≤ b) ∧ b ≠ X.env.locals ∧ (∀ x c, X.env.cells.lookup x = some c → c ≠ b) ∧ ∀ p ∈ X.pn ++ pins, p.1 ≠ b)
    (keep : ∀ b o, b ≠ X.env.locals → b ∉ X.fs → b ∉ ch → s.heap.get? b = some o → H b = none → h'.get? b = some o)
    (slot : ∀ b o, b ≠ X.env.locals → b ∈ X.fs → b ∉ ch → s.heap.get? b = some o → H b = none → ∃ sl, h'.get? b = some { o with slots := sl }) (free : ∀ b o, b ∉ ch → s.heap.get? b = some o → H b = none → H' b = none)
    (there : ∀ b o, b ∉ ch → s.heap.get? b = some o → ∃ o', h'.get? b = some o')
    (tups : ∀ b xs, H b = some (.tup xs) → H' b = some (.tup xs)) (frzs : ∀ b o u, H b = some (.frz o u) → H' b = some (.frz o u)) (tbls : ∀ b qs ps, H b = some (.tbl qs ps) → H' b = some (.tbl qs ps))
    (ns : ∀ m, s.heap.Ns X.env.locals m → h'.Ns X.env.locals m) (hok : HOk X.prog X.w H' h') (hg : AllBare g') :
    Inv X pins σ H' { s with heap := h', gens := g', drawn := d', toks := t' } := by
  have neL : ∀ b o, X.s₀.heap.get? b = some o → b ≠ X.env.locals := fun b o e => Nat.ne_of_lt (Nat.lt_of_lt_of_le (Heap.lt_size e) I.ok.above)
  have neC : ∀ b o, X.s₀.heap.get? b = some o → b ∉ X.ex → b ∉ ch := fun b o e hx hb => by
    rcases (hch b hb).1 with z | z
    · exact hx z
    · exact absurd (Nat.lt_of_lt_of_le (Heap.lt_size e) z) (Nat.lt_irrefl _)
  have cellK : ∀ x c, X.env.cells.lookup x = some c → ∀ v, s.heap.IsCell c v → h'.IsCell c v := fun x c e v ⟨o, ho, hd⟩ => by
    have nch : c ∉ ch := fun z => (hch c z).2.2.1 x c e rfl
    by_cases hc : c ∈ X.fs
    · obtain ⟨sl, q⟩ := slot c o (I.cne x c e) hc nch ho (I.freeC x c e)
      exact ⟨_, q, hd⟩
    · exact ⟨o, keep c o (I.cne x c e) hc nch ho (I.freeC x c e), hd⟩
  refine ⟨I.ok, I.os, hg, ⟨fun b o e n hb hx => ?_, fun b o e n hb hx => ?_, fun b o e n hx => ?_, fun b o e hx => ?_, fun b xs e => tups b xs (I.base.tups b xs e), fun b o xs e => frzs b o xs (I.base.frzs b o xs e), fun b qs ps e => tbls b qs ps (I.base.tbls b qs ps e)⟩, ?_, fun x c e => ?_, ?_, fun x c e => ?_, fun p hp => ?_, hok, I.len⟩
  · exact keep b o (neL b o e) hb (neC b o e hx) (I.base.keep b o e n hb hx) (I.base.free b o e n hx)
  · obtain ⟨sl, e1⟩ := I.base.slot b o e n hb hx
    obtain ⟨sl', e2⟩ := slot b _ (neL b o e) hb (neC b o e hx) e1 (I.base.free b o e n hx)
    exact ⟨sl', e2⟩
  · obtain ⟨o', e1⟩ := I.base.there b o e hx
    exact free b o' (neC b o e hx) e1 (I.base.free b o e n hx)
  · obtain ⟨o', e1⟩ := I.base.there b o e hx
    exact there b o' (neC b o e hx) e1
  · obtain ⟨m, hn, hl⟩ := I.loc
    refine ⟨m, ns m hn, fun i x v e1 e2 e3 => ?_⟩
    obtain ⟨u, r, l⟩ := hl i x v e1 e2 e3
    refine ⟨u, r, ?_⟩
    rcases l with l | ⟨k, c, e, z⟩
    · exact .inl l
    · exact .inr ⟨k, c, e, cellK x c e _ z⟩
  · obtain ⟨v, z⟩ := I.cell x c e
    exact ⟨v, cellK x c e v z⟩
  · obtain ⟨m, ⟨o, _, _, ho, _⟩, _⟩ := I.loc
    exact free _ o (fun z => (hch _ z).2.1 rfl) ho I.free
  · obtain ⟨v, o, ho, hd⟩ := I.cell x c e
    exact free c o (fun z => (hch c z).2.2.1 x c e rfl) ho (I.freeC x c e)
  · obtain ⟨e, n, ne, nf, d⟩ := I.pin p hp
    have nch : p.1 ∉ ch := fun z => (hch p.1 z).2.2.2 p hp rfl
    exact ⟨keep p.1 p.2 ne nf nch e n, free p.1 p.2 nch e n, ne, nf, d⟩
/-- .. where the frame's own object is kept too -/
theorem Inv.un {t' : Nat} (I : Inv X pins σ H s) (u : Un X.fs [] H H' s.heap h') (hok : HOk X.prog X.w H' h') : Inv X pins σ H' { s with heap := h', toks := t' } := by
  obtain ⟨m, ⟨o, es, ep, ho, r⟩, _⟩ := id I.loc
  obtain ⟨sl, hL⟩ := u.any ho I.free (by simp)
  exact I.step (g' := s.gens) (d' := s.drawn) (ch := []) (fun _ z => nomatch z) (fun b o _ hb _ e n => u.keep b o e n hb (by simp)) (fun b o _ hb _ e n => u.slot b o e n hb (by simp)) (fun b o _ e n => u.free b o e n (by simp)) (fun b o _ e => u.there b o e (by simp)) u.tups u.frzs u.tbls (fun m' hm => by
    obtain ⟨o', es', ep', ho', r'⟩ := hm
    rw [ho] at ho'; cases ho'
    exact ⟨_, es', ep', hL, r'⟩) hok I.bare
/-- behind a call (or a comprehension's block): the slots of this frame may have changed too, the records at ch may have turned -/
theorem Inv.call {g' : Array GenState} {t' : Nat} {d' : Drawn} {ch : List Addr} (I : Inv X pins σ H s) (u : Un (frs X.stack) ch H H' s.heap h') (hok : HOk X.prog X.w H' h') (hg : AllBare g')
    (hch : ∀ b ∈ ch, (b ∈ X.ex ∨ X.s₀.heap.objs.size ≤ b) ∧ b ≠ X.env.locals ∧ (∀ x c, X.env.cells.lookup x = some c → c ≠ b) ∧ ∀ p ∈ X.pn ++ pins, p.1 ≠ b) :
    Inv X pins σ H' { s with heap := h', gens := g', drawn := d', toks := t' } := by
  obtain ⟨m, ⟨o, es, ep, ho, r⟩, _⟩ := id I.loc
  obtain ⟨sl, hL⟩ := u.any ho I.free fun z => (hch _ z).2.1 rfl
  exact I.step (ch := ch) hch (fun b o hL hb hc e n => u.keep b o e n (fun z => (List.mem_cons.mp (I.stkSub b z)).elim hL hb) hc) (fun b o _ _ hc e n => u.any e n hc) (fun b o hc e n => u.free b o e n hc) (fun b o hc e => u.there b o e hc) u.tups u.frzs u.tbls (fun m' hm => by
    obtain ⟨o', es', ep', ho', r'⟩ := hm
    rw [ho] at ho'; cases ho'
    exact ⟨_, es', ep', hL, r'⟩) hok hg
/-- an untracked record of ours (an iterator) has turned -/
theorem Inv.turned {t' : Nat} {it : Addr} (I : Inv X pins σ H s) (k : ∀ b o, b ≠ it → s.heap.get? b = some o → h'.get? b = some o) (hn : H it = none) (hL : it ≠ X.env.locals)
    (h1 : it ∈ X.ex ∨ X.s₀.heap.objs.size ≤ it) (h2 : ∀ x c, X.env.cells.lookup x = some c → c ≠ it) (h3 : ∀ p ∈ X.pn ++ pins, p.1 ≠ it) : Inv X pins σ H { s with heap := h', toks := t' } := by
  have nit : ∀ b u, H b = some u → b ≠ it := fun b u e z => by rw [z, hn] at e; cases e
  refine I.step (g' := s.gens) (d' := s.drawn) (ch := [it]) (fun b hb => ?_) (fun b o _ _ hc e _ => k b o (fun z => hc (by simp [z])) e) (fun b o _ _ hc e _ => ⟨o.slots, k b o (fun z => hc (by simp [z])) e⟩) (fun _ _ _ _ n => n)
    (fun b o hc e => ⟨o, k b o (fun z => hc (by simp [z])) e⟩) (fun _ _ e => e) (fun _ _ _ e => e) (fun _ _ _ e => e) (fun m hm => ?_) (fun b u e => ?_) I.bare
  · have e : b = it := by simpa using hb
    subst e
    exact ⟨h1, hL, h2, h3⟩
  · obtain ⟨o, es, ep, ho, r⟩ := hm
    exact ⟨o, es, ep, k _ o (Ne.symm hL) ho, r⟩
  · refine (I.hok b u e).stay (fun c v hc q => k c v ?_ q) (fun _ q => q) (fun _ _ _ _ _ q => q) fun _ _ q => q
    rcases hc with z | z
    · rw [z]; exact nit b u e
    · exact nit c _ z
theorem Inv.tok (I : Inv X pins σ H s) (t : Nat) : Inv X pins σ H { s with toks := t } := I.un (h' := s.heap) (t' := t) Un.refl I.hok
/-- all objects kept -/
theorem Inv.kept {t' : Nat} (I : Inv X pins σ H s) (k : ∀ b u, s.heap.get? b = some u → h'.get? b = some u) : Inv X pins σ H { s with heap := h', toks := t' } := I.un (Un.kept k) (I.hok.kept k)
/-- a new object laid and tracked -/
theorem Inv.laid {a : Addr} {o : HO} {t' : Nat} (I : Inv X pins σ H s) (k : ∀ b u, s.heap.get? b = some u → h'.get? b = some u) (hp : s.heap.objs.size ≤ a) (new : ObjOk X.prog X.w (upd H a o) h' a o) :
    Inv X pins σ (upd H a o) { s with heap := h', toks := t' } := I.un (Un.laid k hp (I.hok.fresh hp)) (I.hok.laid k hp new)
/-- an object written -/
theorem Inv.write {x e : Addr} {o : HO} {t' : Nat} (I : Inv X pins σ H s) (mu : Mut (H x)) (he : e = x ∨ H e = some (.own x)) (k : ∀ b u, b ≠ e → s.heap.get? b = some u → h'.get? b = some u) (heo : ∃ u, h'.get? e = some u)
    (new : ObjOk X.prog X.w (upd H x o) h' x o) : Inv X pins σ (upd H x o) { s with heap := h', toks := t' } := I.un (Un.write mu he k heo) (I.hok.write mu he k heo new)
theorem Inv.pins_of {pins' : List (Addr × Obj)} (I : Inv X pins σ H s) (h : ∀ p ∈ pins', s.heap.get? p.1 = some p.2 ∧ H p.1 = none ∧ p.1 ≠ X.env.locals ∧ p.1 ∉ X.fs ∧ ∀ v, p.2.data ≠ .cell v) : Inv X pins' σ H s :=
  ⟨I.ok, I.os, I.bare, I.base, I.loc, I.cell, I.free, I.freeC, fun p hp => (List.mem_append.mp hp).elim (fun z => I.pin p (List.mem_append_left _ z)) (h p), I.hok, I.len⟩

theorem nodup_ix {N : List Str} (hN : N.Nodup) {i j : Nat} {x : Str} (a : N[i]? = some x) (b : N[j]? = some x) : i = j := by
  obtain ⟨h1, e1⟩ := List.getElem?_eq_some_iff.mp a
  obtain ⟨h2, e2⟩ := List.getElem?_eq_some_iff.mp b
  exact (List.getElem_inj hN).mp (e1.trans e2.symm)

/-- a name is stored; what changed -/
theorem store_ok2 {M : Model} {A : Around} {E : Value → Shared → Prop} {i : Nat} {x : Str} {v : V} {u : Value} {Q : Unit → Shared → Prop} (I : Inv X pins σ H s) (hN : X.N.Nodup) (hi : X.N[i]? = some x) (hx : Loc X.env.scope x) (r : RelV v u)
    (h : ∀ s', Inv X pins (σ.set i (some v)) H s' → (∃ a, Heap.SameBut a s.heap s'.heap ∧ (a = X.env.locals ∨ X.env.cells.lookup x = some a)) → Q () s') (hf : X.fn x = true ∨ X.env.scope.names.lookup x = some .local := by first | exact .inl rfl | exact .inr rfl | assumption) : wpAny M A (storeName X.env x u) Q E s := by
  obtain ⟨m, hn, hl⟩ := id I.loc
  have hcls : (X.env.scope.kind == .class || (X.env.scope.kind == .module && X.env.locals != X.env.globals)) = false := by rw [I.ok.kind]; rfl
  have hiσ : i < σ.length := by rw [I.len]; exact (List.getElem?_eq_some_iff.mp hi).1
  have cne := I.cne
  have tracked : ∀ {a : Addr} {h' : Heap}, (∃ o, s.heap.get? a = some o ∧ H a = none) → Heap.SameBut a s.heap h' → HOk X.prog X.w H h' := fun {a h'} ha hs b ob e => by
    obtain ⟨_, _, hfree⟩ := ha
    refine (I.hok b ob e).stay (fun c w' hc q => (hs.2 c ?_).trans q) (fun _ q => q) (fun _ _ _ _ _ q => q) fun _ _ q => q
    rintro rfl
    rcases hc with rfl | hc
    · rw [hfree] at e; cases e
    · rw [hfree] at hc; cases hc
  rcases hx with hk | hk
  · refine wpAny_storeName_local hk hn (fun h' hn' hs => ?_) hcls
    obtain ⟨oL, _, _, hoL, _⟩ := id hn
    refine h _ ⟨I.ok, I.os, I.bare, ⟨fun b o e n hb hx => ?_, fun b o e n hb hx => ?_, I.base.free, fun b o e hx => ?_, I.base.tups, I.base.frzs, I.base.tbls⟩, ⟨_, hn', fun j y v' e1 e2 e3 => ?_⟩, fun y c e => ?_, I.free, I.freeC, fun p hp => ?_, tracked ⟨oL, hoL, I.free⟩ hs, by simpa using I.len⟩ ⟨_, hs, .inl rfl⟩
    · exact (hs.2 b (Nat.ne_of_lt (Nat.lt_of_lt_of_le (Heap.lt_size e) I.ok.above))).trans (I.base.keep b o e n hb hx)
    · obtain ⟨sl, e1⟩ := I.base.slot b o e n hb hx
      exact ⟨sl, (hs.2 b (Nat.ne_of_lt (Nat.lt_of_lt_of_le (Heap.lt_size e) I.ok.above))).trans e1⟩
    · obtain ⟨o', e1⟩ := I.base.there b o e hx
      exact ⟨o', (hs.2 b (Nat.ne_of_lt (Nat.lt_of_lt_of_le (Heap.lt_size e) I.ok.above))).trans e1⟩
    · by_cases hj : j = i
      · subst hj
        rw [hi] at e1; cases e1
        rw [List.getElem?_set_self hiσ] at e2
        cases e2
        exact ⟨u, r, .inl ⟨hk, by simp⟩⟩
      · rw [List.getElem?_set_ne (Ne.symm hj)] at e2
        obtain ⟨u', r', q⟩ := hl j y v' e1 e2 e3
        refine ⟨u', r', ?_⟩
        rcases q with ⟨k, e⟩ | ⟨k, c, e, z⟩
        · refine .inl ⟨k, ?_⟩
          have : y ≠ x := fun e => hj (nodup_ix hN e1 (e ▸ hi))
          simp [this, e]
        · exact .inr ⟨k, c, e, z.sameBut hs (cne y c e)⟩
    · obtain ⟨w', z⟩ := I.cell y c e
      exact ⟨w', z.sameBut hs (cne y c e)⟩
    · obtain ⟨e, n, ne, nf, d⟩ := I.pin p hp
      exact ⟨(hs.2 p.1 ne).trans e, n, ne, nf, d⟩
  · have hfn : X.fn x = true := by
      rcases hf with z | z
      · exact z
      · rw [z] at hk; cases hk
    obtain ⟨c, hc⟩ := I.ok.has x (.inl hk)
    obtain ⟨w', z⟩ := I.cell x c hc
    refine wpAny_storeName_cell I.ok.kind hk hc z (fun h' hc' hs => ?_)
    obtain ⟨oc, hoc, hocd⟩ := id z
    refine h { s with heap := h' } ⟨I.ok, I.os, I.bare, ⟨fun b o e n hb hx => ?_, fun b o e n hb hx => ?_, I.base.free, fun b o e hx => ?_, I.base.tups, I.base.frzs, I.base.tbls⟩, ⟨m, hn.sameBut hs (Ne.symm (cne x c hc)), fun j y v' e1 e2 e3 => ?_⟩, fun y c' e => ?_, I.free, I.freeC, fun p hp => ?_, tracked ⟨oc, hoc, I.freeC x c hc⟩ hs, by simpa using I.len⟩ ⟨c, hs, .inr hc⟩
    · exact (hs.2 b (Nat.ne_of_lt (Nat.lt_of_lt_of_le (Heap.lt_size e) (I.ok.cab x c hfn hc)))).trans (I.base.keep b o e n hb hx)
    · obtain ⟨sl, e1⟩ := I.base.slot b o e n hb hx
      exact ⟨sl, (hs.2 b (Nat.ne_of_lt (Nat.lt_of_lt_of_le (Heap.lt_size e) (I.ok.cab x c hfn hc)))).trans e1⟩
    · obtain ⟨o', e1⟩ := I.base.there b o e hx
      exact ⟨o', (hs.2 b (Nat.ne_of_lt (Nat.lt_of_lt_of_le (Heap.lt_size e) (I.ok.cab x c hfn hc)))).trans e1⟩
    · by_cases hj : j = i
      · subst hj
        rw [hi] at e1; cases e1
        rw [List.getElem?_set_self hiσ] at e2
        cases e2
        exact ⟨u, r, .inr ⟨.inl hk, c, hc, hc'⟩⟩
      · rw [List.getElem?_set_ne (Ne.symm hj)] at e2
        obtain ⟨u', r', q⟩ := hl j y v' e1 e2 e3
        refine ⟨u', r', ?_⟩
        rcases q with q | ⟨k, c', e, z'⟩
        · exact .inl q
        · refine .inr ⟨k, c', e, z'.sameBut hs ?_⟩
          rintro rfl
          exact hj (nodup_ix hN e1 (I.ok.inj _ _ _ e hc ▸ hi))
    · by_cases hcc : c' = c
      · subst hcc; exact ⟨_, hc'⟩
      · obtain ⟨w2, z2⟩ := I.cell y c' e
        exact ⟨w2, z2.sameBut hs hcc⟩
    · obtain ⟨e, n, ne, nf, d⟩ := I.pin p hp
      refine ⟨(hs.2 p.1 ?_).trans e, n, ne, nf, d⟩
      intro q
      rw [q, hoc] at e
      have q' : oc = p.2 := Option.some.inj e
      exact d w' (by rw [← q']; exact hocd)
theorem store_ok {M : Model} {A : Around} {E : Value → Shared → Prop} {i : Nat} {x : Str} {v : V} {u : Value} {Q : Unit → Shared → Prop} (I : Inv X pins σ H s) (hN : X.N.Nodup) (hi : X.N[i]? = some x) (hx : Loc X.env.scope x) (r : RelV v u)
    (h : ∀ s', Inv X pins (σ.set i (some v)) H s' → Q () s') (hf : X.fn x = true ∨ X.env.scope.names.lookup x = some .local := by first | exact .inl rfl | exact .inr rfl | assumption) : wpAny M A (storeName X.env x u) Q E s :=
  store_ok2 I hN hi hx r (fun s' I' _ => h s' I') hf
/-- behind a call or a block, the state as it is -/
theorem Inv.call' {s' : Shared} {ch : List Addr} (I : Inv X pins σ H s) (ho : s'.os = s.os) (u : Un (frs X.stack) ch H H' s.heap s'.heap) (hok : HOk X.prog X.w H' s'.heap) (hg : AllBare s'.gens)
    (hch : ∀ b ∈ ch, (b ∈ X.ex ∨ X.s₀.heap.objs.size ≤ b) ∧ b ≠ X.env.locals ∧ (∀ x c, X.env.cells.lookup x = some c → c ≠ b) ∧ ∀ p ∈ X.pn ++ pins, p.1 ≠ b) : Inv X pins σ H' s' := by
  obtain ⟨h', g', d', t', o'⟩ := s'
  have e : o' = s.os := ho
  subst e
  exact I.call (g' := g') (t' := t') (d' := d') u hok hg hch
end

/-! ### the judgements -/
/-- an exception: its class, its own dict's address (where it has one), the abstract heap behind it -/
abbrev XK := Value → Option Addr → Hp → Prop
abbrev St := List (Option V)
abbrev VK := V → Hp → Prop
/-- an expression's reading; a test's; an argument list's -/
abbrev TE := St → Hp → VK → Prop
abbrev TT := St → Hp → (Bool → Hp → Prop) → Prop
abbrev TA := St → Hp → (List V → Hp → Prop) → Prop
/-- what is wanted behind a statement -/
structure Ends where
  nx : St → Hp → Prop
  rt : VK
  bk : St → Hp → Prop := fun _ _ => False
  ct : St → Hp → Prop := fun _ _ => False
abbrev TS := Ends → St → Hp → Prop

def EP (X : Cx) (pins : List (Addr × Obj)) (σ : St) (Q : VK) (u : Value) (s' : Shared) : Prop := ∃ v H', Inv X pins σ H' s' ∧ RelV v u ∧ Q v H'
def TP (X : Cx) (pins : List (Addr × Obj)) (σ : St) (Q : Bool → Hp → Prop) (b : Bool) (s' : Shared) : Prop := ∃ H', Inv X pins σ H' s' ∧ Q b H'
def AP (X : Cx) (pins : List (Addr × Obj)) (σ : St) (Q : List V → Hp → Prop) (us : List Value) (s' : Shared) : Prop := ∃ vs H', Inv X pins σ H' s' ∧ Vals vs us ∧ Q vs H'
def SP (X : Cx) (pins : List (Addr × Obj)) (D : Ends) (f : Flow) (s' : Shared) : Prop :=
  match f with
  | .next => ∃ σ' H', Inv X pins σ' H' s' ∧ D.nx σ' H'
  | .brk => ∃ σ' H', Inv X pins σ' H' s' ∧ D.bk σ' H'
  | .cont => ∃ σ' H', Inv X pins σ' H' s' ∧ D.ct σ' H'
  | .ret u => ∃ v σ' H', Inv X pins σ' H' s' ∧ RelV v u ∧ D.rt v H'

def PE (X : Cx) (e : Expr) (t : TE) : Prop :=
  ∀ (pins : List (Addr × Obj)) (s : Shared) (σ : St) (H : Hp) (Q : VK), Inv X pins σ H s → t σ H Q → wpAny (model X.prog X.w) X.A (eval e X.env) (EP X pins σ Q) X.xe s
def PT (X : Cx) (e : Expr) (t : TT) : Prop :=
  ∀ (pins : List (Addr × Obj)) (s : Shared) (σ : St) (H : Hp) (Q : Bool → Hp → Prop), Inv X pins σ H s → t σ H Q → wpAny (model X.prog X.w) X.A (isTrue e X.env (eval e X.env)) (TP X pins σ Q) X.xe s
/-- a test whatever its 'whole' is (and, or) -/
def PW (X : Cx) (e : Expr) (t : TT) : Prop :=
  ∀ (whole : Sem Value) (pins : List (Addr × Obj)) (s : Shared) (σ : St) (H : Hp) (Q : Bool → Hp → Prop), Inv X pins σ H s → t σ H Q → wpAny (model X.prog X.w) X.A (isTrue e X.env whole) (TP X pins σ Q) X.xe s
theorem PW.pt {X : Cx} {e : Expr} {t : TT} (h : PW X e t) : PT X e t := h _
/-- an argument list (no star), from the left -/
def PA (X : Cx) (es : List Expr) (t : TA) : Prop :=
  ∀ (pos : Pos) (pins : List (Addr × Obj)) (s : Shared) (σ : St) (H : Hp) (Q : List V → Hp → Prop), Inv X pins σ H s → t σ H Q → wpAny (model X.prog X.w) X.A (spliced (backTo pos (starEach es X.env))) (AP X pins σ Q) X.xe s
def PS (X : Cx) (st : Stmt) (t : TS) : Prop :=
  ∀ (pins : List (Addr × Obj)) (s : Shared) (σ : St) (H : Hp) (D : Ends), Inv X pins σ H s → t D σ H → wpAny (model X.prog X.w) X.A (exec st X.env) (SP X pins D) X.xe s
def PSs (X : Cx) (st : List Stmt) (t : TS) : Prop :=
  ∀ (pins : List (Addr × Obj)) (s : Shared) (σ : St) (H : Hp) (D : Ends), Inv X pins σ H s → t D σ H → wpAny (model X.prog X.w) X.A (execs st X.env) (SP X pins D) X.xe s
/-- weaken the end -/
theorem thn {α : Type} {t : Sem α} {Q Q' : α → Shared → Prop} {M : Model} {A : Around} {E : Value → Shared → Prop} {s : Shared} (h : wpAny M A t Q E s) (hQ : ∀ a s, Q a s → Q' a s) : wpAny M A t Q' E s := wpAny_mono h hQ fun _ _ x => x
end L2

namespace L2
open PySem PySem.Spec PyProof.Rows
section
variable {X : Cx}

/-! ### names and constants -/
def tVar (i : Nat) : TE := fun σ H Q => ∃ v, σ[i]? = some (some v) ∧ Q v H
def tC (v : V) : TE := fun _ H Q => Q v H
theorem pe_var {i : Nat} {x : Str} {pos : Pos} (hN : X.N[i]? = some x) (hv : Vis X.env.scope x) (hd : (x == ("__debug__" : Str)) = false := by decide) (hcd : (x == ("__classdict__" : Str)) = false := by decide) : PE X (.Name x pos) (tVar i) := by
  intro pins s σ H Q I h
  obtain ⟨v, e, h⟩ := h
  obtain ⟨m, hn, hl⟩ := I.loc
  obtain ⟨u, r, l⟩ := hl i x v hN e hv
  have fin : EP X pins σ Q u s := ⟨v, H, I, r, h⟩
  rcases l with ⟨hk, hm⟩ | ⟨hk, c, hc, hcell⟩
  · exact wpAny_Name (wpAny_loadName_local I.ok.kind hk hn hm fin) hd
  · rcases hk with hk | hk
    · exact wpAny_Name (wpAny_loadName_cell I.ok.kind hk hc hcell fin) hd
    · exact wpAny_Name (wpAny_loadName_free I.ok.kind hk hc hcell fin hcd) hd
theorem pe_int {i j pos} : PE X (.Constant (.int i) j pos) (tC (.int i)) := fun _ _ _ H _ I h => wpAny_Constant_int ⟨.int i, H, I.tok _, ⟨_, rfl⟩, h⟩
theorem pe_bl {b j pos} : PE X (.Constant (.bool b) j pos) (tC (.bl b)) := fun _ _ _ H _ I h => Constant_bool ⟨.bl b, H, I, rfl, h⟩
theorem pe_non {j pos} : PE X (.Constant .none j pos) (tC .non) := fun _ _ _ H _ I h => Constant_none ⟨.non, H, I, rfl, h⟩
theorem pe_str {x j pos} : PE X (.Constant (.str x) j pos) (tC (.str x)) := fun _ _ _ H _ I h => Calls.Constant_str ⟨.str x, H, I.tok _, ⟨_, rfl⟩, h⟩

/-- a global name of the def -/
def Gl (X : Cx) (x : Str) : Prop := X.env.kindOf x = some .globalImplicit
theorem ld_glob {E : Value → Shared → Prop} {pins : List (Addr × Obj)} {s : Shared} {σ : St} {H : Hp} {x : Str} {u : Value} {pos : Pos} {Q : Value → Shared → Prop} (I : Inv X pins σ H s) (hg : Gl X x) (hm : X.mg x = some u) (h : Q u s)
    (hd : (x == ("__debug__" : Str)) = false := by decide) : wpAny (model X.prog X.w) X.A (eval (.Name x pos) X.env) Q E s :=
  Calls.Name_function_global I.ok.kind hg (Calls.loadGlobal_global (by rw [I.ok.glob]; exact I.mod.glob.keeps I.bk) hm h) hd
theorem ld_blt {E : Value → Shared → Prop} {pins : List (Addr × Obj)} {s : Shared} {σ : St} {H : Hp} {x : Str} {u : Value} {pos : Pos} {Q : Value → Shared → Prop} (I : Inv X pins σ H s) (hg : Gl X x) (hm : X.mg x = none) (hv : bootBuiltins x = some u) (h : Q u s)
    (hn : x ≠ "__name__" := by decide) (hd : (x == ("__debug__" : Str)) = false := by decide) : wpAny (model X.prog X.w) X.A (eval (.Name x pos) X.env) Q E s := by
  obtain ⟨mb, h1, h2⟩ := I.mod.blt
  exact Calls.Name_function_global I.ok.kind hg (Calls.loadGlobal_builtin (by rw [I.ok.glob]; exact I.mod.glob.keeps I.bk) hm (by rw [I.ok.blt]; exact h1.keeps I.bk) ((h2 x hn).trans hv) h) hd
/-- a module's constant, a class, a function, as a value -/
theorem pe_glob {x : Str} {v : V} {u : Value} {pos : Pos} (hg : Gl X x) (hm : X.mg x = some u) (r : RelV v u) (hd : (x == ("__debug__" : Str)) = false := by decide) : PE X (.Name x pos) (tC v) :=
  fun _ _ _ H _ I h => ld_glob I hg hm ⟨v, H, I, r, h⟩ hd
theorem pe_bltn {x : Str} {v : V} {u : Value} {pos : Pos} (hg : Gl X x) (hm : X.mg x = none) (hv : bootBuiltins x = some u) (r : RelV v u) (hn : x ≠ "__name__" := by decide) (hd : (x == ("__debug__" : Str)) = false := by decide) : PE X (.Name x pos) (tC v) :=
  fun _ _ _ H _ I h => ld_blt I hg hm hv ⟨v, H, I, r, h⟩ hn hd

/-! ### arithmetic -/
variable {a b : Expr} {ta tb : TE} {pos : Pos}
/-! ### comparisons -/
/-- a comparison as a value, as a test -/
def tB (t : TE) : TT := fun σ H Q => t σ H fun x H1 => ∃ c, x = .bl c ∧ Q c H1
/-- an expression whose value is a bool, as a test -/
theorem pt_val {e : Expr} {t : TE} (h : PE X e t) (he : ∀ whole, isTrue e X.env whole = (do let v ← whole; standAt e.pos; holding [v] (truthy v)) := by intro _; rfl) : PT X e (tB t) := by
  intro pins s σ H Q I hw
  refine isTrue_plain (thn (h pins s σ H _ I hw) fun v s1 ⟨x, H1, I1, r1, q1⟩ => ?_) (he _)
  obtain ⟨d, rfl, q⟩ := q1
  cases r1
  exact wpAny_truthy_bool ⟨H1, I1, q⟩

/-! ### and, or, not -/
variable {tA tB' : TT} {rest : List Expr}
def tAnd (t u : TT) : TT := fun σ H Q => t σ H fun c H1 => if c = true then u σ H1 Q else Q false H1
def tOr (t u : TT) : TT := fun σ H Q => t σ H fun c H1 => if c = true then Q true H1 else u σ H1 Q
def tNot (t : TT) : TT := fun σ H Q => t σ H fun c H1 => Q (!c) H1
theorem pw_and1 (ha : PT X a tA) : PW X (.BoolOp .And [a] pos) tA := by
  intro wh pins s σ H Q I h
  refine isTrue_and (thn (ha pins s σ H Q I h) fun c s1 e => ?_)
  cases c with
  | true => exact isTrue_and_nil e
  | false => exact e
theorem pw_or1 (ha : PT X a tA) : PW X (.BoolOp .Or [a] pos) tA := by
  intro wh pins s σ H Q I h
  refine isTrue_or (thn (ha pins s σ H Q I h) fun c s1 e => ?_)
  cases c with
  | false => exact isTrue_or_nil e
  | true => exact e
theorem pw_and (ha : PT X a tA) (hb : PW X (.BoolOp .And (b :: rest) pos) tB') : PW X (.BoolOp .And (a :: b :: rest) pos) (tAnd tA tB') := by
  intro wh pins s σ H Q I h
  refine isTrue_and (thn (ha pins s σ H _ I h) fun c s1 ⟨H1, I1, q1⟩ => ?_)
  cases c with
  | true => exact hb wh pins s1 σ H1 Q I1 q1
  | false => exact ⟨H1, I1, q1⟩
theorem pw_or (ha : PT X a tA) (hb : PW X (.BoolOp .Or (b :: rest) pos) tB') : PW X (.BoolOp .Or (a :: b :: rest) pos) (tOr tA tB') := by
  intro wh pins s σ H Q I h
  refine isTrue_or (thn (ha pins s σ H _ I h) fun c s1 ⟨H1, I1, q1⟩ => ?_)
  cases c with
  | true => exact ⟨H1, I1, q1⟩
  | false => exact hb wh pins s1 σ H1 Q I1 q1
theorem pt_not (ha : PT X a tA) : PT X (.UnaryOp .Not a pos) (tNot tA) := by
  intro pins s σ H Q I h
  exact isTrue_not (ha pins s σ H (fun c H1 => Q (!c) H1) I h)
/-- .. as values (bools) -/
def tAndV (ta tb : TE) : TE := fun σ H Q => ta σ H fun x H1 => ∃ c, x = .bl c ∧ if c = true then tb σ H1 Q else Q (.bl false) H1
def tOrV (ta tb : TE) : TE := fun σ H Q => ta σ H fun x H1 => ∃ c, x = .bl c ∧ if c = true then Q (.bl true) H1 else tb σ H1 Q
def tNotV (ta : TE) : TE := fun σ H Q => ta σ H fun x H1 => ∃ c, x = .bl c ∧ Q (.bl (!c)) H1
theorem pe_one {op} {t : TE} (h : PE X a t) : PE X (.BoolOp op [a] pos) t := fun pins s σ H Q I hw => BoolOp_one (h pins s σ H Q I hw)
theorem pe_and (ha : PE X a ta) (hb : PE X (.BoolOp .And (b :: rest) pos) tb) : PE X (.BoolOp .And (a :: b :: rest) pos) (tAndV ta tb) := by
  intro pins s σ H Q I h
  refine BoolOp_and (thn (ha pins s σ H _ I h) fun v s1 ⟨x, H1, I1, r1, q1⟩ => ?_)
  obtain ⟨c, rfl, q1⟩ := q1
  cases r1
  refine wpAny_truthy_bool ?_
  cases c with
  | true => exact hb pins s1 σ H1 Q I1 q1
  | false => exact ⟨.bl false, H1, I1, rfl, q1⟩
theorem pe_not (ha : PE X a ta) : PE X (.UnaryOp .Not a pos) (tNotV ta) := by
  intro pins s σ H Q I h
  refine UnaryOp_ (thn (ha pins s σ H _ I h) fun v s1 ⟨x, H1, I1, r1, q1⟩ => ?_)
  obtain ⟨c, rfl, q1⟩ := q1
  cases r1
  exact not_of (wpAny_truthy_bool ⟨.bl (!c), H1, I1, rfl, q1⟩)
/-- a if t else b -/
def tIf (t : TT) (ta tb : TE) : TE := fun σ H Q => t σ H fun c H1 => if c = true then ta σ H1 Q else tb σ H1 Q
end
end L2

namespace L2
open PySem PySem.Spec PyProof.Rows

/-! ### a list, a tuple that is read: tracked, frozen, or an object of the module -/
def SqL (K : PySem.W.Frag) (H : Hp) (a : Addr) (xs : List V) : Prop :=
  Rd H a (.lst xs) ∨
    ∃ (o : Obj) (its : Array Value) (n : Nat), K.lookup a = some o ∧ o.cls = .type "list" ∧ o.dict = none ∧ o.data = .seq its n ∧ its.size ≤ sizeLine ∧ Vals xs its.toList
def SqT (K : PySem.W.Frag) (H : Hp) (a : Addr) (xs : List V) : Prop :=
  Rd H a (.tup xs) ∨
    ∃ (o : Obj) (its : Array Value) (n : Nat), K.lookup a = some o ∧ o.cls = .type "tuple" ∧ o.data = .seq its n ∧ its.size ≤ sizeLine ∧ Vals xs its.toList
def absV : Value → Option V
  | .none => some .non
  | .bool b => some (.bl b)
  | .int i _ => some (.int i)
  | .str x _ => some (.str x)
  | .bytes b _ => some (.byt b)
  | .float b _ => some (.flt b)
  | .ref a => some (.ref a)
  | .type n => some (.ty n)
  | _ => none
theorem RelV.abs {x : V} {u : Value} (r : RelV x u) : absV u = some x := by
  cases x with
  | non => cases r; rfl
  | bl _ => cases r; rfl
  | int _ => obtain ⟨t, rfl⟩ := r; rfl
  | str _ => obtain ⟨t, rfl⟩ := r; rfl
  | byt _ => obtain ⟨t, rfl⟩ := r; rfl
  | flt _ => obtain ⟨t, rfl⟩ := r; rfl
  | ref _ => cases r; rfl
  | ty _ => cases r; rfl
theorem RelV.inj {x y : V} {u : Value} (r : RelV x u) (q : RelV y u) : x = y := Option.some.inj (r.abs.symm.trans q.abs)
theorem Vals.inj : ∀ {xs ys : List V} {us : List Value}, Vals xs us → Vals ys us → xs = ys
  | _, _, _, .nil, .nil => rfl
  | _, _, _, .cons r t, .cons r' t' => by rw [r.inj r', Vals.inj t t']
section
variable {X : Cx} {pins : List (Addr × Obj)} {σ : St} {H : Hp} {s : Shared} {a : Addr} {xs ys : List V}
theorem SqL.of {K : PySem.W.Frag} (h : H a = some (.lst xs)) : SqL K H a xs := .inl (.inl h)
theorem SqT.of {K : PySem.W.Frag} (h : H a = some (.tup xs)) : SqT K H a xs := .inl (.inl h)
theorem Inv.list (I : Inv X pins σ H s) (h : SqL X.K H a xs) : ∃ its : List Value, Vals xs its ∧ PlainL s.heap a its.toArray ∧ xs.length ≤ sizeLine := by
  rcases h with h | ⟨o, its, n, hk, hc, hd, hs, hz, r⟩
  · obtain ⟨z, its, n, r, e⟩ := h.ok I.hok
    exact ⟨its, r, ⟨_, n, e, rfl, rfl, rfl⟩, z⟩
  · refine ⟨its.toList, r, ⟨o, n, I.kIn a o hk, hc, hd, by simpa using hs⟩, ?_⟩
    have e := r.length
    simp only [Array.length_toList] at e
    omega
theorem Inv.tuple (I : Inv X pins σ H s) (h : SqT X.K H a xs) : ∃ its : List Value, Vals xs its ∧ IsTup s.heap a its.toArray ∧ xs.length ≤ sizeLine := by
  rcases h with h | ⟨o, its, n, hk, hc, hs, hz, r⟩
  · obtain ⟨z, its, r, p⟩ := h.ok I.hok
    exact ⟨its, r, p, z⟩
  · refine ⟨its.toList, r, ⟨o, I.kIn a o hk, hc, n, by simpa using hs⟩, ?_⟩
    have e := r.length
    simp only [Array.length_toList] at e
    omega
theorem Inv.list_inj (I : Inv X pins σ H s) (h : SqL X.K H a xs) (h' : SqL X.K H a ys) : xs = ys := by
  obtain ⟨its, r, ⟨o, n, e, _, _, d⟩, _⟩ := I.list h
  obtain ⟨its', r', ⟨o', n', e', _, _, d'⟩, _⟩ := I.list h'
  rw [e] at e'; cases e'
  rw [d] at d'
  injection d' with d1 _
  have : its = its' := by simpa using congrArg Array.toList d1
  subst this
  exact r.inj r'
theorem Inv.tuple_inj (I : Inv X pins σ H s) (h : SqT X.K H a xs) (h' : SqT X.K H a ys) : xs = ys := by
  obtain ⟨its, r, ⟨o, e, _, n, d⟩, _⟩ := I.tuple h
  obtain ⟨its', r', ⟨o', e', _, n', d'⟩, _⟩ := I.tuple h'
  rw [e] at e'; cases e'
  rw [d] at d'
  injection d' with d1 _
  have : its = its' := by simpa using congrArg Array.toList d1
  subst this
  exact r.inj r'
end

/-! ### another wish about exceptions -/
abbrev Cx.wish (X : Cx) (E : Value → Shared → Prop) : Cx := { X with xe := E }
/-- no exception leaves -/
abbrev Cx.nox (X : Cx) : Cx := X.wish fun _ _ => False
theorem Cx.Ok.wish {X : Cx} (ok : X.Ok) (E : Value → Shared → Prop) : (X.wish E).Ok :=
  ⟨ok.mod, ok.kind, ok.glob, ok.blt, ok.above, ok.inj, ok.has, ok.cab, ok.hd, ok.frames, ok.stk, ok.exf, ok.bs, ok.bsz, ok.noex, ok.exfs, ok.funs, ok.frf⟩
theorem Cx.Ok.unwish {X : Cx} {E : Value → Shared → Prop} (ok : (X.wish E).Ok) : X.Ok :=
  ⟨ok.mod, ok.kind, ok.glob, ok.blt, ok.above, ok.inj, ok.has, ok.cab, ok.hd, ok.frames, ok.stk, ok.exf, ok.bs, ok.bsz, ok.noex, ok.exfs, ok.funs, ok.frf⟩
section
variable {X : Cx} {pins : List (Addr × Obj)} {σ : St} {H : Hp} {s : Shared} {E : Value → Shared → Prop}
theorem Inv.wish (I : Inv X pins σ H s) (E : Value → Shared → Prop) : Inv (X.wish E) pins σ H s := ⟨I.ok.wish E, I.os, I.bare, I.base, I.loc, I.cell, I.free, I.freeC, I.pin, I.hok, I.len⟩
theorem Inv.unwish (I : Inv (X.wish E) pins σ H s) : Inv X pins σ H s := ⟨I.ok.unwish, I.os, I.bare, I.base, I.loc, I.cell, I.free, I.freeC, I.pin, I.hok, I.len⟩
theorem SP.unwish {D : Ends} {f : Flow} {s' : Shared} (h : SP (X.wish E) pins D f s') : SP X pins D f s' := by
  cases f with
  | next => obtain ⟨σ', H', I, q⟩ := h; exact ⟨σ', H', I.unwish, q⟩
  | brk => obtain ⟨σ', H', I, q⟩ := h; exact ⟨σ', H', I.unwish, q⟩
  | cont => obtain ⟨σ', H', I, q⟩ := h; exact ⟨σ', H', I.unwish, q⟩
  | ret u => obtain ⟨v, σ', H', I, r, q⟩ := h; exact ⟨v, σ', H', I.unwish, r, q⟩
theorem PE.nox {e : Expr} {t : TE} (h : PE X.nox e t) : PE X e t := fun pins s σ H Q I hw =>
  wpAny_mono (h pins s σ H Q (I.wish _) hw) (fun _ _ ⟨v, H', I', r, q⟩ => ⟨v, H', I'.unwish, r, q⟩) fun _ _ z => False.elim z
theorem PT.nox {e : Expr} {t : TT} (h : PT X.nox e t) : PT X e t := fun pins s σ H Q I hw =>
  wpAny_mono (h pins s σ H Q (I.wish _) hw) (fun _ _ ⟨H', I', q⟩ => ⟨H', I'.unwish, q⟩) fun _ _ z => False.elim z
theorem PSs.nox {st : List Stmt} {t : TS} (h : PSs X.nox st t) : PSs X st t := fun pins s σ H D I hw =>
  wpAny_mono (h pins s σ H D (I.wish _) hw) (fun _ _ q => q.unwish) fun _ _ z => False.elim z
end

/-! ### blocks and small statements -/
section
variable {X : Cx} {st : Stmt} {rest : List Stmt} {t u : TS} {e : Expr} {te : TE} {pos : Pos}
def tNext : TS := fun D σ H => D.nx σ H
def tSeq (t u : TS) : TS := fun D σ H => t { D with nx := u D } σ H
theorem pss_nil : PSs X [] tNext := fun _ _ σ H _ I h => wpAny_execs_nil ⟨σ, H, I, h⟩
theorem pss_cons (h1 : PS X st t) (h2 : PSs X rest u) : PSs X (st :: rest) (tSeq t u) := by
  intro pins s σ H D I h
  refine wpAny_execs_cons (thn (h1 pins s σ H { D with nx := u D } I h) fun f s1 q => ?_)
  cases f with
  | next =>
    obtain ⟨σ', H', I', q⟩ := q
    exact h2 pins s1 σ' H' D I' q
  | ret v => exact q
  | brk => exact q
  | cont => exact q
theorem pss_one (h1 : PS X st t) : PSs X [st] t := by
  intro pins s σ H D I h
  refine wpAny_execs_cons (thn (h1 pins s σ H D I h) fun f s1 q => ?_)
  cases f with
  | next => exact wpAny_execs_nil q
  | ret v => exact q
  | brk => exact q
  | cont => exact q
def tBreak : TS := fun D σ H => D.bk σ H
def tCont : TS := fun D σ H => D.ct σ H
/-- in a def's body nothing is shown -/
theorem Inv.quiet {pins : List (Addr × Obj)} {σ : St} {H : Hp} {s : Shared} (I : Inv X pins σ H s) : interactive X.env = false := by simp [interactive, I.ok.kind]
/-- an expression whose value is dropped -/
def tDrop (te : TE) : TS := fun D σ H => te σ H fun _ H1 => D.nx σ H1
theorem ps_expr (he : PE X e te) (hs : swapsWith e none pos.line X.env = pure false := by rfl) : PS X (.Expr e pos) (tDrop te) := by
  intro pins s σ H D I h
  exact wpAny_Expr_any (thn (he pins s σ H _ I h) fun v s1 ⟨x, H1, I1, r1, q1⟩ => ⟨σ, H1, I1, q1⟩) I.quiet hs
def tRet (te : TE) : TS := fun D σ H => te σ H D.rt
theorem ps_ret (he : PE X e te) : PS X (.Return (some e) pos) (tRet te) := by
  intro pins s σ H D I h
  exact wpAny_Return_some (thn (he pins s σ H _ I h) fun v s1 ⟨x, H1, I1, r1, q1⟩ => ⟨x, σ, H1, I1, r1, q1⟩)
def tRetN : TS := fun D _ H => D.rt .non H
def tIfS (c : TT) (t u : TS) : TS := fun D σ H => c σ H fun b H1 => if b = true then t D σ H1 else u D σ H1
theorem ps_if {c : Expr} {a b : List Stmt} {tc : TT} (hc : PT X c tc) (ha : PSs X a t) (hb : PSs X b u) : PS X (.If c a b pos) (tIfS tc t u) := by
  intro pins s σ H D I h
  refine wpAny_If (thn (hc pins s σ H _ I h) fun d s1 ⟨H1, I1, q1⟩ => ?_)
  cases d with
  | true => exact ha pins s1 σ H1 D I1 q1
  | false => exact hb pins s1 σ H1 D I1 q1
end

/-! ### targets -/
abbrev TG := V → St → Hp → (St → Hp → Prop) → Prop
abbrev TGs := List V → St → Hp → (St → Hp → Prop) → Prop
def PG (X : Cx) (target : Expr) (t : TG) : Prop :=
  ∀ (pins : List (Addr × Obj)) (s : Shared) (σ : St) (H : Hp) (v : V) (u : Value) (Q : St → Hp → Prop), Inv X pins σ H s → RelV v u → t v σ H Q →
    wpAny (model X.prog X.w) X.A (assign target X.env u) (fun _ s' => ∃ σ' H', Inv X pins σ' H' s' ∧ Q σ' H') X.xe s
/-- several targets, one after another -/
def PGs (X : Cx) (ts : List Expr) (t : TGs) : Prop :=
  ∀ (pins : List (Addr × Obj)) (s : Shared) (σ : St) (H : Hp) (vs : List V) (us : List Value) (Q : St → Hp → Prop), Inv X pins σ H s → Vals vs us → t vs σ H Q →
    wpAny (model X.prog X.w) X.A (assignInOrder ((assignEach ts X.env).map (·.2)) us) (fun _ s' => ∃ σ' H', Inv X pins σ' H' s' ∧ Q σ' H') X.xe s
/-- o[i] = v, by values -/
abbrev TSet := V → V → V → Hp → (Hp → Prop) → Prop
/-- a op= b, by values -/
abbrev TIp := V → V → Hp → VK → Prop
def PIp (X : Cx) (op : Operator) (t : TIp) : Prop :=
  ∀ (pins : List (Addr × Obj)) (s : Shared) (σ : St) (H : Hp) (x y : V) (v u : Value) (Q : VK), Inv X pins σ H s → RelV x v → RelV y u → t x y H Q →
    wpAny (model X.prog X.w) X.A (inplaceOp op v u) (EP X pins σ Q) X.xe s
section
variable {X : Cx} {pos : Pos}
def gName (i : Nat) : TG := fun v σ H Q => Q (σ.set i (some v)) H
theorem pg_name {i : Nat} {x : Str} (hN : X.N.Nodup) (hi : X.N[i]? = some x) (hx : Loc X.env.scope x) (hf : X.fn x = true ∨ X.env.scope.names.lookup x = some .local := by first | exact .inl rfl | exact .inr rfl | assumption) : PG X (.Name x pos) (gName i) := by
  intro pins s σ H v u Q I r h
  exact wpAny_assign_Name (store_ok I hN hi hx r (fun s' I' => ⟨_, H, I', h⟩) hf)
def gNil : TGs := fun vs σ H Q => vs = [] ∧ Q σ H
def gCons (t : TG) (u : TGs) : TGs := fun vs σ H Q => ∃ v r, vs = v :: r ∧ t v σ H fun σ' H' => u r σ' H' Q
theorem pgs_nil : PGs X [] gNil := by
  intro pins s σ H vs us Q I r h
  obtain ⟨e, h⟩ := h
  subst e
  cases r
  exact assignInOrder_nil ⟨σ, H, I, h⟩
theorem pgs_cons {e : Expr} {es : List Expr} {t : TG} {u : TGs} (h1 : PG X e t) (h2 : PGs X es u)
    (hs : (assignEach (e :: es) X.env).map (·.2) = assign e X.env :: (assignEach es X.env).map (·.2) := by rfl) : PGs X (e :: es) (gCons t u) := by
  intro pins s σ H vs us Q I r h
  obtain ⟨v, vr, e1, h⟩ := h
  subst e1
  cases r with
  | cons r rr =>
    rw [hs]
    refine assignInOrder_cons (thn (h1 pins s σ H _ _ _ I r h) fun _ s1 ⟨σ1, H1, I1, q1⟩ => ?_)
    exact h2 pins s1 σ1 H1 _ _ Q I1 rr q1
/-- (a, b, ..) = a tuple of that length -/
def gTup (K : PySem.W.Frag) (n : Nat) (t : TGs) : TG := fun v σ H Q => ∃ a xs, v = .ref a ∧ SqT K H a xs ∧ xs.length = n ∧ t xs σ H Q
theorem pg_tup {es : List Expr} {k : Nat} {t : TGs} {n : Nat} (hc : X.calm = true) (h : PGs X es t)
    (hn : (assignEach es X.env).length = n := by rfl) (hst : (assignEach es X.env).findIdx? (·.1) = none := by rfl) : PG X (.Tuple es k pos) (gTup X.K n t) := by
  intro pins s σ H v u Q I r hw
  obtain ⟨a, xs, e1, hq, hl, hw⟩ := hw
  subst e1
  cases r
  obtain ⟨its, rv, ht, hz⟩ := I.tuple hq
  refine assign_Tuple_tuple (I.ok.hd hc) ht (by simp [hn, ← hl, rv.length]) hst fun h' hx => ?_
  have I1 : Inv X pins σ H { s with heap := h' } := I.kept (t' := s.toks) fun b o e => hx b o (Nat.ne_of_lt (Heap.lt_size e)) e
  exact h pins _ σ H xs _ Q I1 (by simpa using rv) hw
/-- o[i] = .. -/
def gSub (to ti : TE) (t : TSet) : TG := fun v σ H Q => to σ H fun o H1 => ti σ H1 fun i H2 => t o i v H2 fun H3 => Q σ H3
/-- target = value -/
def tAsg (te : TE) (g : TG) : TS := fun D σ H => te σ H fun x H1 => g x σ H1 D.nx
/-- name = value -/
theorem ps_set {i : Nat} {x : Str} {e : Expr} {te : TE} {pos' : Pos} (hN : X.N.Nodup) (hi : X.N[i]? = some x) (hx : Loc X.env.scope x) (he : PE X e te) (hs : swapsWith e (some (.Name x pos')) pos.line X.env = pure false := by rfl) (hf : X.fn x = true ∨ X.env.scope.names.lookup x = some .local := by first | exact .inl rfl | exact .inr rfl | assumption) :
    PS X (.Assign [.Name x pos'] e pos) (tAsg te (gName i)) := by
  intro pins s σ H D I h
  refine wpAny_Assign_Name (thn (he pins s σ H _ I h) fun v s1 ⟨y, H1, I1, r1, q1⟩ => ?_) hs
  exact store_ok I1 hN hi hx r1 (fun s2 I2 => ⟨_, H1, I2, q1⟩) hf
/-- a, b = x, y with plain local names: stored from the right; the pair itself is not tracked (the opening rows as in PyProof/Rows/TupAssign.lean:23) -/
def tPar (i j : Nat) (ta : TA) : TS := fun D σ H => ta σ H fun vs H1 => ∃ v w, vs = [v, w] ∧ D.nx ((σ.set i (some v)).set j (some w)) H1
/-- name op= e -/
def tAug (i : Nat) (te : TE) (ti : TIp) : TS := fun D σ H => ∃ x, σ[i]? = some (some x) ∧ te σ H fun y H1 => ti x y H1 fun z H2 => D.nx (σ.set i (some z)) H2
theorem ps_aug {i : Nat} {x : Str} {e : Expr} {te : TE} {op : Operator} {ti : TIp} {pos' : Pos} (hN : X.N.Nodup) (hi : X.N[i]? = some x) (hx : Loc X.env.scope x) (he : PE X e te) (ho : PIp X op ti) (hf : X.fn x = true ∨ X.env.scope.names.lookup x = some .local := by first | exact .inl rfl | exact .inr rfl | assumption) :
    PS X (.AugAssign (.Name x pos') op e pos) (tAug i te ti) := by
  intro pins s σ H D I h
  obtain ⟨v, e1, h⟩ := h
  obtain ⟨m, hn, hl⟩ := I.loc
  have vis : Vis X.env.scope x := by rcases hx with k | k; exact .inl k; exact .inr (.inl k)
  obtain ⟨u, r, l⟩ := hl i x v hi e1 vis
  refine wpAny_AugAssign_Name ?_
  have go : wpAny (model X.prog X.w) X.A (eval e X.env) (fun w s₂ => wpAny (model X.prog X.w) X.A (inplaceOp op u w) (fun r s₃ => wpAny (model X.prog X.w) X.A (storeName X.env x r) (fun _ => SP X pins D .next) X.xe s₃) X.xe s₂) X.xe s := by
    refine thn (he pins s σ H _ I h) fun w s1 ⟨y, H1, I1, r1, q1⟩ => ?_
    refine thn (ho pins s1 σ H1 v y u w _ I1 r r1 q1) fun z s2 ⟨zv, H2, I2, r2, q2⟩ => ?_
    exact store_ok I2 hN hi hx r2 (fun s3 I3 => ⟨_, H2, I3, q2⟩) hf
  rcases l with ⟨hk, hm⟩ | ⟨hk, c, hc, hcell⟩
  · exact wpAny_loadName_local I.ok.kind hk hn hm go
  · rcases hk with hk | hk
    · exact wpAny_loadName_cell I.ok.kind hk hc hcell go
    · rcases hx with k | k
      · have : X.env.scope.names.lookup x = some .free := hk
        rw [k] at this; cases this
      · have : X.env.scope.names.lookup x = some .free := hk
        rw [k] at this; cases this
/-- ints -/
def ipI (f : Int → Int → Int) : TIp := fun x y H Q => ∃ i j, x = .int i ∧ y = .int j ∧ Q (.int (f i j)) H
theorem ip_add : PIp X .Add (ipI fun i j => i + j) := by
  intro pins s σ H x y v u Q I r1 r2 h
  obtain ⟨i, j, e1, e2, q⟩ := h
  subst e1; subst e2
  obtain ⟨t, rfl⟩ := r1
  obtain ⟨t', rfl⟩ := r2
  exact iadd_int ⟨.int _, H, I.tok _, ⟨_, rfl⟩, q⟩
theorem ip_sub : PIp X .Sub (ipI fun i j => i - j) := by
  intro pins s σ H x y v u Q I r1 r2 h
  obtain ⟨i, j, e1, e2, q⟩ := h
  subst e1; subst e2
  obtain ⟨t, rfl⟩ := r1
  obtain ⟨t', rfl⟩ := r2
  exact isub_int ⟨.int _, H, I.tok _, ⟨_, rfl⟩, q⟩
end

/-! ### while -/
section
variable {X : Cx} {pos : Pos}
/-- the invariant W with its measure -/
def tWhile (c : TT) (tb : TS) : TS := fun D σ H => ∃ W : Nat → St → Hp → Prop, (∃ m, W m σ H) ∧ ∀ m σ H, W m σ H →
  c σ H fun b H1 => if b = true then ∃ N : St → Hp → Prop, (∀ σ' H', N σ' H' → ∃ m', m' < m ∧ W m' σ' H') ∧ tb { D with nx := N, ct := N, bk := D.nx } σ H1 else D.nx σ H1
theorem ps_while {c : Expr} {body : List Stmt} {tc : TT} {tb : TS} (hp : PassesOwn (model X.prog X.w) X.A X.env X.xe) (hc : PT X c tc) (hb : PSs X body tb) : PS X (.While c body [] pos) (tWhile tc tb) := by
  intro pins s σ H D I h
  obtain ⟨W, ⟨m0, w0⟩, turn⟩ := h
  refine wpAny_While (codeAny_whileLoop (fun n s' => ∃ σ' H', Inv X pins σ' H' s' ∧ W n σ' H') ?_ m0 ⟨σ, H, I, w0⟩)
  rintro n s1 ⟨σ1, H1, I1, w1⟩
  refine wpAny_passesOwn hp (thn (hc pins s1 σ1 H1 _ I1 (turn n σ1 H1 w1)) fun b s2 ⟨H2, I2, q2⟩ => ?_)
  cases b with
  | true =>
    obtain ⟨N, hN, q2⟩ := q2
    rw [if_pos rfl]
    refine wpAny_passesOwn hp (thn (hb pins s2 σ1 H2 _ I2 q2) fun f s3 q3 => ?_)
    cases f with
    | next =>
      obtain ⟨σ3, H3, I3, n3⟩ := q3
      obtain ⟨m', hm, w3⟩ := hN σ3 H3 n3
      exact ⟨m', hm, σ3, H3, I3, w3⟩
    | cont =>
      obtain ⟨σ3, H3, I3, n3⟩ := q3
      obtain ⟨m', hm, w3⟩ := hN σ3 H3 n3
      exact ⟨m', hm, σ3, H3, I3, w3⟩
    | brk => exact q3
    | ret v => exact q3
  | false =>
    rw [if_neg Bool.false_ne_true]
    exact wpAny_execs_nil ⟨σ1, H2, I2, q2⟩
end

/-! ### what a loop or a comprehension walks -/
/-- at turn i: it yields x (the heap may grow), or it stops -/
structure It where
  go : Nat → Hp → Prop
  yld : Nat → Hp → V → Hp → Prop
  stop : Nat → Hp → Prop
/-- the iterator's own objects may turn: they are not the frame's, not pinned, younger than the entry (or a comprehension's own) -/
def FpOk (X : Cx) (pins : List (Addr × Obj)) (H : Hp) (b : Addr) : Prop :=
  H b = none ∧ b ≠ X.env.locals ∧ b ∉ X.fs ∧ (b ∈ X.ex ∨ X.s₀.heap.objs.size ≤ b) ∧ (∀ x c, X.env.cells.lookup x = some c → c ≠ b) ∧ ∀ p ∈ X.pn ++ pins, p.1 ≠ b
theorem Inv.fpOk {X : Cx} {pins : List (Addr × Obj)} {σ : St} {H H' : Hp} {s : Shared} {b : Addr} (I : Inv X pins σ H s) (hb : s.heap.objs.size ≤ b) (hn : H' b = none) : FpOk X pins H' b := by
  refine ⟨hn, Nat.ne_of_gt (Nat.lt_of_lt_of_le I.lt hb), I.nofs hb, .inr (Nat.le_trans I.sz hb), fun x c e z => ?_, fun p hp z => ?_⟩
  · obtain ⟨v, q⟩ := I.cell x c e
    exact absurd (Nat.lt_of_lt_of_le q.lt (by rw [z]; exact hb)) (Nat.lt_irrefl _)
  · exact absurd (Nat.lt_of_lt_of_le (Heap.lt_size (I.pin p hp).1) (by rw [z]; exact hb)) (Nat.lt_irrefl _)
structure Turn (P : Program) (w : World) (K : PySem.W.Frag) (tg : Expr) (J : It) (fp : List Addr) (it : Addr) (tn : Nat → Heap → Prop) : Prop where
  mem : it ∈ fp
  obj : ∀ i h, tn i h → ∀ b ∈ fp, ∃ o, h.get? b = some o ∧ ∀ v, o.data ≠ .cell v
  keep : ∀ i h h', tn i h → (∀ b ∈ fp, ∀ o, h.get? b = some o → h'.get? b = some o) → tn i h'
  item : ∀ (X : Cx), X.prog = P → X.w = w → X.K = K → X.calm = true → ∀ (i : Nat) (pins : List (Addr × Obj)) (s : Shared) (σ : St) (H : Hp) (E : Value → Shared → Prop), Inv X pins σ H s → (∀ b ∈ fp, FpOk X pins H b) → tn i s.heap → J.go i H →
    wpAny (model P w) X.A (pyNext (.ref it)) (fun r s1 => ∃ u, r = some u ∧
      wpAny (model P w) X.A (letOwnedTupleGo tg (.ref it) u) (fun _ s2 => ∃ x H', Inv X pins σ H' s2 ∧ RelV x u ∧ J.yld i H x H' ∧ tn (i + 1) s2.heap ∧ ∀ b ∈ fp, H' b = none) E s1) E s
  done : ∀ (X : Cx), X.prog = P → X.w = w → X.K = K → X.calm = true → ∀ (i : Nat) (pins : List (Addr × Obj)) (s : Shared) (σ : St) (H : Hp) (E : Value → Shared → Prop), Inv X pins σ H s → (∀ b ∈ fp, FpOk X pins H b) → tn i s.heap → J.stop i H →
    wpAny (model P w) X.A (pyNext (.ref it)) (fun r s1 => r = none ∧ Inv X pins σ H s1) E s
  self : ∀ (A : Around) (i : Nat) (s : Shared) (Q : Value → Shared → Prop) (E : Value → Shared → Prop), tn i s.heap → Q (.ref it) s → wpAny (model P w) A (pyIter (.ref it)) Q E s
abbrev TI := St → Hp → (It → Hp → Prop) → Prop
/-- an iterator has come -/
def PIE (X : Cx) (pins : List (Addr × Obj)) (σ : St) (tg : Expr) (R : It → Hp → Prop) (itv : Value) (s2 : Shared) : Prop :=
  ∃ (it : Addr) (fp : List Addr) (tn : Nat → Heap → Prop) (J : It) (H' : Hp), itv = .ref it ∧ Inv X pins σ H' s2 ∧ Turn X.prog X.w X.K tg J fp it tn ∧ tn 0 s2.heap ∧ (∀ b ∈ fp, FpOk X pins H' b) ∧ R J H'
def PI (X : Cx) (tg iter : Expr) (wi : TI) : Prop :=
  ∀ (pins : List (Addr × Obj)) (s : Shared) (σ : St) (H : Hp) (R : It → Hp → Prop), Inv X pins σ H s → wi σ H R →
    wpAny (model X.prog X.w) X.A (eval iter X.env) (fun v s1 => wpAny (model X.prog X.w) X.A (pyIter v) (PIE X pins σ tg R) X.xe s1) X.xe s

/-- the step ahead of the store is nothing for an iterator that keeps no tuple -/
theorem go_of {M : Model} {A : Around} {E : Value → Shared → Prop} {s : Shared} {tg : Expr} {it : Addr} {u : Value} {o : Obj} {n : String} {vs : Array Value} {Q : Unit → Shared → Prop} (ho : s.heap.get? it = some o) (hc : o.cls = .type n) (hd : o.data = .fields vs)
    (hn : ["enumerate", "zip", "dict_itemiterator", "dict_reverseitemiterator", "odict_iterator", "itertools.zip_longest", "itertools.pairwise"].contains n = false) (hQ : Q () s) : wpAny M A (letOwnedTupleGo tg (.ref it) u) Q E s := by
  unfold letOwnedTupleGo
  cases tg <;> first
    | exact wpAny_pure hQ
    | (cases u <;> first
        | exact wpAny_pure hQ
        | (refine wpAny_bind (wpAny_load ho ?_)
           rw [hc, hd]
           show wpAny M A (if (["enumerate", "zip", "dict_itemiterator", "dict_reverseitemiterator", "odict_iterator", "itertools.zip_longest", "itertools.pairwise"].contains n && vs[0]? == some (rawInt _)) = true then _ else _) Q E s
           rw [if_neg (by intro h; rw [hn, Bool.false_and] at h; cases h)]
           exact wpAny_pure hQ))

/-- the list at a, as it stands at each turn (a loop may append to it) -/
def Itl (K : PySem.W.Frag) (a : Addr) : It :=
  ⟨fun i H => ∃ xs x, SqL K H a xs ∧ xs[i]? = some x, fun i H x H' => H' = H ∧ ∀ xs, SqL K H a xs → xs[i]? = some x, fun i H => ∃ xs, SqL K H a xs ∧ xs.length ≤ i⟩
def Itt (K : PySem.W.Frag) (a : Addr) : It :=
  ⟨fun i H => ∃ xs x, SqT K H a xs ∧ xs[i]? = some x, fun i H x H' => H' = H ∧ ∀ xs, SqT K H a xs → xs[i]? = some x, fun i H => ∃ xs, SqT K H a xs ∧ xs.length ≤ i⟩
/-- lo, lo + 1, .. (n of them) -/
def Itr (lo : Int) (n : Nat) : It := ⟨fun i _ => i < n, fun i H x H' => H' = H ∧ x = .int (lo + i), fun i _ => n ≤ i⟩
theorem turn_list {P : Program} {w : World} {K : PySem.W.Frag} {tg : Expr} (a it : Addr) : Turn P w K tg (Itl K a) [it] it (fun i h => h.IsListIter it a i) where
  mem := by simp
  obj := fun i h st b hb => by
    have e : b = it := by simpa using hb
    subst e
    obtain ⟨o, e, c, d⟩ := st
    exact ⟨o, e, fun v z => by rw [d] at z; cases z⟩
  keep := fun i h h' st k => st.at fun o e => k it (by simp) o e
  item := by
    intro X hP hw hK hc i pins s σ H E I hf st hg
    subst hP hw hK
    obtain ⟨xs, x, hq, hx⟩ := hg
    obtain ⟨its, rv, p, hz⟩ := I.list hq
    obtain ⟨u, hu, ru⟩ := rv.get hx
    obtain ⟨f0, f1, f2, f3, f4, f5⟩ := hf it (by simp)
    refine wpAny_pyNext_list_item st p.isList (x := u) (by simpa using hu) fun h' st' sb => ?_
    have I1 : Inv X pins σ H { s with heap := h' } := I.turned (t' := s.toks) (fun b o hb e => (sb.2 b hb).trans e) f0 f1 f3 f4 f5
    obtain ⟨o, e, c, d⟩ := id st'
    exact ⟨u, rfl, go_of (s := { s with heap := h' }) e c d (by decide) ⟨x, H, I1, ru, ⟨rfl, fun ys hy => by rw [I.list_inj hy hq]; exact hx⟩, st', fun b hb => (hf b hb).1⟩⟩
  done := by
    intro X hP hw hK hc i pins s σ H E I hf st hg
    subst hP hw hK
    obtain ⟨xs, hq, hx⟩ := hg
    obtain ⟨its, rv, p, hz⟩ := I.list hq
    obtain ⟨f0, f1, f2, f3, f4, f5⟩ := hf it (by simp)
    have hl := rv.length
    exact wpAny_pyNext_list_end (I.ok.hd hc) st p.isList (by simp; omega) fun h' eb => ⟨rfl, I.turned (t' := s.toks) (fun b o hb e => eb b o hb e) f0 f1 f3 f4 f5⟩
  self := fun _ _ _ _ _ st h => wpAny_pyIter_listiter st h
theorem turn_tuple {P : Program} {w : World} {K : PySem.W.Frag} {tg : Expr} (a it : Addr) : Turn P w K tg (Itt K a) [it] it (fun i h => h.IsTupleIter it a i) where
  mem := by simp
  obj := fun i h st b hb => by
    have e : b = it := by simpa using hb
    subst e
    obtain ⟨o, e, c, d⟩ := st
    exact ⟨o, e, fun v z => by rw [d] at z; cases z⟩
  keep := fun i h h' st k => st.at fun o e => k it (by simp) o e
  item := by
    intro X hP hw hK hc i pins s σ H E I hf st hg
    subst hP hw hK
    obtain ⟨xs, x, hq, hx⟩ := hg
    obtain ⟨its, rv, p, hz⟩ := I.tuple hq
    obtain ⟨u, hu, ru⟩ := rv.get hx
    obtain ⟨f0, f1, f2, f3, f4, f5⟩ := hf it (by simp)
    refine wpAny_pyNext_tuple_item st (show s.heap.IsTuple a its.toArray from p) (x := u) (by simpa using hu) fun h' st' sb => ?_
    have I1 : Inv X pins σ H { s with heap := h' } := I.turned (t' := s.toks) (fun b o hb e => (sb.2 b hb).trans e) f0 f1 f3 f4 f5
    obtain ⟨o, e, c, d⟩ := id st'
    exact ⟨u, rfl, go_of (s := { s with heap := h' }) e c d (by decide) ⟨x, H, I1, ru, ⟨rfl, fun ys hy => by rw [I.tuple_inj hy hq]; exact hx⟩, st', fun b hb => (hf b hb).1⟩⟩
  done := by
    intro X hP hw hK hc i pins s σ H E I hf st hg
    subst hP hw hK
    obtain ⟨xs, hq, hx⟩ := hg
    obtain ⟨its, rv, p, hz⟩ := I.tuple hq
    obtain ⟨f0, f1, f2, f3, f4, f5⟩ := hf it (by simp)
    have hl := rv.length
    exact wpAny_pyNext_tuple_end (I.ok.hd hc) st (show s.heap.IsTuple a its.toArray from p) (by simp; omega) fun h' eb => ⟨rfl, I.turned (t' := s.toks) (fun b o hb e => eb b o hb e) f0 f1 f3 f4 f5⟩
  self := fun _ _ _ _ _ st h => wpAny_pyIter_tupleiter st h
theorem turn_range {P : Program} {w : World} {K : PySem.W.Frag} {tg : Expr} (it : Addr) (lo : Int) (n : Nat) : Turn P w K tg (Itr lo n) [it] it (fun i h => IsRangeIter h it (lo + (i : Nat) * 1) ((n : Int) - (i : Nat)) 1) where
  mem := by simp
  obj := fun i h st b hb => by
    have e : b = it := by simpa using hb
    subst e
    exact ⟨_, st, fun v z => by
      have z' : Data.fields _ = Data.cell v := z
      cases z'⟩
  keep := fun i h h' st k => k it (by simp) _ st
  item := by
    intro X hP hw hK hc i pins s σ H E I hf st hg
    subst hP hw hK
    obtain ⟨f0, f1, f2, f3, f4, f5⟩ := hf it (by simp)
    have W := Walks.range (prog := X.prog) (w := X.w) (I.ok.hd hc) it lo 1 n
    refine W.item i s _ _ hg st fun v h' tk hv st' kk => ?_
    obtain ⟨t, rfl⟩ := hv
    have I1 : Inv X pins σ H { s with heap := h', toks := tk } := I.turned (fun b o hb e => kk b o (by simpa using hb) e) f0 f1 f3 f4 f5
    refine ⟨_, rfl, go_of (s := { s with heap := h', toks := tk }) (n := "range_iterator") st' rfl rfl (by decide) ⟨.int (lo + i), H, I1, ⟨t, ?_⟩, ⟨rfl, rfl⟩, st', fun b hb => (hf b hb).1⟩⟩
    rw [Int.mul_one]
  done := by
    intro X hP hw hK hc i pins s σ H E I hf st hg
    subst hP hw hK
    obtain ⟨f0, f1, f2, f3, f4, f5⟩ := hf it (by simp)
    exact wpAny_pyNext_range_end (I.ok.hd hc) st (by have : n ≤ i := hg; omega) fun h' eb => ⟨rfl, I.turned (t' := s.toks) (fun b o hb e => eb b o hb e) f0 f1 f3 f4 f5⟩
  self := fun _ _ _ _ _ st h => wpAny_pyIter_rangeiter st h
end L2

namespace L2
open PySem PySem.Spec PyProof.Rows
section
variable {X : Cx} {tg : Expr}
def iList (K : PySem.W.Frag) (tl : TE) : TI := fun σ H R => tl σ H fun x H1 => ∃ a, x = .ref a ∧ (∃ xs, SqL K H1 a xs) ∧ R (Itl K a) H1
def iTup (K : PySem.W.Frag) (tl : TE) : TI := fun σ H R => tl σ H fun x H1 => ∃ a, x = .ref a ∧ (∃ xs, SqT K H1 a xs) ∧ R (Itt K a) H1
theorem pi_list {l : Expr} {tl : TE} (hl : PE X l tl) : PI X tg l (iList X.K tl) := by
  intro pins s σ H R I h
  refine thn (hl pins s σ H _ I h) fun v s1 ⟨x, H1, I1, r1, q1⟩ => ?_
  obtain ⟨a, e, ⟨xs, hq⟩, q⟩ := q1
  subst e
  cases r1
  obtain ⟨its, rv, p, hz⟩ := I1.list hq
  refine wpAny_pyIter_list p.isList ?_
  refine ⟨s1.heap.objs.size, [s1.heap.objs.size], _, _, H1, rfl, I1.kept (t' := s1.toks) fun b o e => Heap.get?_push_of_some _ e, turn_list a _, ⟨_, Heap.get?_push_size _ rfl, rfl, rfl⟩, fun b hb => ?_, q⟩
  have e : b = s1.heap.objs.size := by simpa using hb
  subst e
  exact I1.fpOk (Nat.le_refl _) (I1.hok.fresh (Nat.le_refl _))
theorem pi_tup {l : Expr} {tl : TE} (hl : PE X l tl) : PI X tg l (iTup X.K tl) := by
  intro pins s σ H R I h
  refine thn (hl pins s σ H _ I h) fun v s1 ⟨x, H1, I1, r1, q1⟩ => ?_
  obtain ⟨a, e, ⟨xs, hq⟩, q⟩ := q1
  subst e
  cases r1
  obtain ⟨its, rv, p, hz⟩ := I1.tuple hq
  refine wpAny_pyIter_tuple (show s1.heap.IsTuple a its.toArray from p) ?_
  refine ⟨s1.heap.objs.size, [s1.heap.objs.size], _, _, H1, rfl, I1.kept (t' := s1.toks) fun b o e => Heap.get?_push_of_some _ e, turn_tuple a _, ⟨_, Heap.get?_push_size _ rfl, rfl, rfl⟩, fun b hb => ?_, q⟩
  have e : b = s1.heap.objs.size := by simpa using hb
  subst e
  exact I1.fpOk (Nat.le_refl _) (I1.hok.fresh (Nat.le_refl _))
/-- a range object just made, walked -/
theorem range_it {pins : List (Addr × Obj)} {σ : St} {H : Hp} {s : Shared} {R : It → Hp → Prop} {E : Value → Shared → Prop} {lo hi : Int} {t u v : Tok} {tk : Nat} (I : Inv X pins σ H s) (h1 : -(2 ^ 62) ≤ lo) (h2 : lo < 2 ^ 62) (h3 : -(2 ^ 62) ≤ hi) (h4 : hi < 2 ^ 62)
    (q : R (Itr lo (hi - lo).toNat) H) : wpAny (model X.prog X.w) X.A (pyIter (.ref s.heap.objs.size)) (PIE X pins σ tg R) E { s with heap := s.heap.push { cls := .type "range", data := .fields #[.int lo t, .int hi u, .int 1 v] }, toks := tk } := by
  refine wpAny_pyIter_range (IsRange.new ..) (small_one h1 h2 h3 h4) ?_
  have I1 : Inv X pins σ H { s with heap := s.heap.push { cls := .type "range", data := .fields #[.int lo t, .int hi u, .int 1 v] }, toks := tk } := I.kept fun b o e => Heap.get?_push_of_some _ e
  refine ⟨(s.heap.push { cls := .type "range", data := .fields #[.int lo t, .int hi u, .int 1 v] }).objs.size, [(s.heap.push { cls := .type "range", data := .fields #[.int lo t, .int hi u, .int 1 v] }).objs.size], _, _, H, rfl,
    I1.kept (t' := tk) fun b o e => Heap.get?_push_of_some _ e, turn_range _ lo (hi - lo).toNat, ?_, fun b hb => ?_, q⟩
  · have e1 : lo + ((0 : Nat) : Int) * 1 = lo := by simp
    have e2 : (((hi - lo).toNat : Nat) : Int) - ((0 : Nat) : Int) = Builtin.Range.rangeSize lo hi 1 := by rw [rangeSize_one]; split <;> omega
    show IsRangeIter _ _ (lo + ((0 : Nat) : Int) * 1) ((((hi - lo).toNat : Nat) : Int) - ((0 : Nat) : Int)) 1
    rw [e1, e2]
    exact Heap.get?_push_size _ rfl
  · have e : b = (s.heap.push { cls := .type "range", data := .fields #[.int lo t, .int hi u, .int 1 v] }).objs.size := by simpa using hb
    subst e
    exact I1.fpOk (Nat.le_refl _) (I1.hok.fresh (Nat.le_refl _))
def iRng1 (ta : TA) : TI := fun σ H R => ta σ H fun vs H1 => ∃ j : Int, vs = [.int j] ∧ -(2 ^ 62) ≤ j ∧ j < 2 ^ 62 ∧ R (Itr 0 j.toNat) H1
def iRng2 (ta : TA) : TI := fun σ H R => ta σ H fun vs H1 => ∃ i j : Int, vs = [.int i, .int j] ∧ (-(2 ^ 62) ≤ i ∧ i < 2 ^ 62 ∧ -(2 ^ 62) ≤ j ∧ j < 2 ^ 62) ∧ R (Itr i (j - i).toNat) H1
theorem pi_range1 {a : Expr} {ta : TA} {p pos : Pos} (hg : Gl X "range") (hm : X.mg "range" = none) (ha : PA X [a] ta) (hs : starEach [a] X.env = [(false, eval a X.env)] := by rfl) : PI X tg (.Call (.Name "range" p) [a] [] pos) (iRng1 ta) := by
  intro pins s σ H R I h
  refine Call_ (ld_blt I hg hm boot_range (PyProof.Rows.callWith_type1 (thn (ha pos pins s σ H _ I h) fun us s1 ⟨vs, H1, I1, r1, q1⟩ => ?_) hs rfl))
  obtain ⟨j, e, q1, q2, q⟩ := q1
  subst e
  cases r1 with
  | cons r rr =>
    cases rr
    obtain ⟨t, rfl⟩ := r
    exact call_range_1 (range_it I1 (by omega) (by omega) q1 q2 (by simpa using q))
/-! ### for -/
/-- W: the invariant by the turn and a measure; N: what the body is to reach -/
def tFor (wi : TI) (g : TG) (tb : TS) : TS := fun D σ H => wi σ H fun J H1 => ∃ W : Nat → Nat → St → Hp → Prop, (∃ m, W 0 m σ H1) ∧ ∀ i m σ H, W i m σ H →
  (J.stop i H ∧ D.nx σ H) ∨ (J.go i H ∧ ∃ N : St → Hp → Prop, (∀ σ' H', N σ' H' → ∃ m', m' < m ∧ W (i + 1) m' σ' H') ∧ ∀ x H', J.yld i H x H' → g x σ H' fun σ2 H2 => tb { D with nx := N, ct := N, bk := D.nx } σ2 H2)
/-- the records at fp as they stand -/
def pinsAt (fp : List Addr) (h : Heap) : List (Addr × Obj) := fp.filterMap fun b => (h.get? b).map fun o => (b, o)
theorem mem_pinsAt {fp : List Addr} {h : Heap} {b : Addr} {o : Obj} (hb : b ∈ fp) (e : h.get? b = some o) : (b, o) ∈ pinsAt fp h := List.mem_filterMap.mpr ⟨b, hb, by rw [e]; rfl⟩
theorem of_pinsAt {fp : List Addr} {h : Heap} {p : Addr × Obj} (hp : p ∈ pinsAt fp h) : p.1 ∈ fp ∧ h.get? p.1 = some p.2 := by
  obtain ⟨b, hb, e⟩ := List.mem_filterMap.mp hp
  cases q : h.get? b with
  | none => rw [q] at e; cases e
  | some o =>
    rw [q] at e
    have e' : (b, o) = p := Option.some.inj e
    subst e'
    exact ⟨hb, q⟩
theorem Inv.pinned {pins : List (Addr × Obj)} {σ : St} {H : Hp} {s : Shared} {fp : List Addr} (I : Inv X pins σ H s) (hf : ∀ b ∈ fp, FpOk X pins H b) (ho : ∀ b ∈ fp, ∃ o, s.heap.get? b = some o ∧ ∀ v, o.data ≠ .cell v) : Inv X (pins ++ pinsAt fp s.heap) σ H s :=
  I.pins_of fun p hp => (List.mem_append.mp hp).elim (fun z => I.pin p (List.mem_append_right _ z)) fun z => by
    obtain ⟨hb, e⟩ := of_pinsAt z
    obtain ⟨f0, f1, f2, _⟩ := hf p.1 hb
    obtain ⟨o, e', d⟩ := ho p.1 hb
    rw [e] at e'; cases e'
    exact ⟨e, f0, f1, f2, d⟩
theorem Inv.unpinned {pins pl : List (Addr × Obj)} {σ : St} {H : Hp} {s : Shared} (I : Inv X (pins ++ pl) σ H s) : Inv X pins σ H s := I.pins_of fun p hp => I.pin p (List.mem_append_right _ (List.mem_append_left _ hp))
theorem ps_for {iter : Expr} {body : List Stmt} {wi : TI} {g : TG} {tb : TS} {pos : Pos} (hp : PassesOwn (model X.prog X.w) X.A X.env X.xe) (hc : X.calm = true) (hi : PI X tg iter wi) (hg : PG X tg g) (hb : PSs X body tb)
    (hs : ∀ x, foldedSetIterable iter X.env x = pure x := by intro _; rfl) : PS X (.For tg iter body [] pos) (tFor wi g tb) := by
  intro pins s σ H D I h
  refine wpAny_For (thn (hi pins s σ H _ I h) fun v s1 h1 => thn h1 fun itv s2 h2 => ?_) hs
  obtain ⟨it, fp, tn, J, H2, e, I2, T, st2, f2, W, ⟨m0, w0⟩, turn⟩ := h2
  subst e
  -- what stays true of the iterator's objects through the loop
  have stat : ∀ {H' : Hp}, (∀ b ∈ fp, H' b = none) → ∀ b ∈ fp, FpOk X pins H' b := fun hn b hb => ⟨hn b hb, (f2 b hb).2⟩
  refine codeAny_forLoop_any (fun n s' => ∃ i σ' H', Inv X pins σ' H' s' ∧ tn i s'.heap ∧ (∀ b ∈ fp, H' b = none) ∧ W i n σ' H') ?_ m0 ⟨0, σ, H2, I2, st2, fun b hb => (f2 b hb).1, w0⟩
  rintro n s3 ⟨i, σ3, H3, I3, st3, fr3, w3⟩
  rcases turn i n σ3 H3 w3 with ⟨stop, qn⟩ | ⟨go, N, hN, step⟩
  · refine wpAny_passesOwn hp (thn (T.done X rfl rfl rfl hc i pins s3 σ3 H3 X.xe I3 (stat fr3) st3 stop) fun r s4 ⟨hr, I4⟩ => ?_)
    subst hr
    exact wpAny_execs_nil ⟨σ3, H3, I4, qn⟩
  · refine wpAny_passesOwn hp (thn (T.item X rfl rfl rfl hc i pins s3 σ3 H3 X.xe I3 (stat fr3) st3 go) fun r s4 ⟨u, hr, h4⟩ => ?_)
    subst hr
    refine wpAny_passesOwn hp (thn h4 fun _ s5 ⟨x, H5, I5, r5, y5, st5, fr5⟩ => ?_)
    have I5' := I5.pinned (stat fr5) (T.obj _ _ st5)
    refine wpAny_passesOwn hp (thn (hg _ s5 σ3 H5 x u _ I5' r5 (step x H5 y5)) fun _ s6 ⟨σ6, H6, I6, q6⟩ => ?_)
    refine wpAny_passesOwn hp (thn (hb _ s6 σ6 H6 _ I6 q6) fun f s7 q7 => ?_)
    have again : ∀ {σ7 : St} {H7 : Hp}, Inv X (pins ++ pinsAt fp s5.heap) σ7 H7 s7 → N σ7 H7 → ∃ m, m < n ∧ ∃ i σ' H', Inv X pins σ' H' s7 ∧ tn i s7.heap ∧ (∀ b ∈ fp, H' b = none) ∧ W i m σ' H' := fun {σ7 H7} I7 n7 => by
      obtain ⟨m', hm, w7⟩ := hN σ7 H7 n7
      refine ⟨m', hm, i + 1, σ7, H7, I7.unpinned, T.keep _ _ _ st5 fun b hb o e => (I7.pin (b, o) (List.mem_append_right _ (List.mem_append_right _ (mem_pinsAt hb e)))).1, fun b hb => ?_, w7⟩
      obtain ⟨o, e, d⟩ := T.obj _ _ st5 b hb
      exact (I7.pin (b, o) (List.mem_append_right _ (List.mem_append_right _ (mem_pinsAt hb e)))).2.1
    cases f with
    | next => obtain ⟨σ7, H7, I7, n7⟩ := q7; exact again I7 n7
    | cont => obtain ⟨σ7, H7, I7, n7⟩ := q7; exact again I7 n7
    | brk => obtain ⟨σ7, H7, I7, q7⟩ := q7; exact ⟨σ7, H7, I7.unpinned, q7⟩
    | ret v => obtain ⟨x7, σ7, H7, I7, r7, q7⟩ := q7; exact ⟨x7, σ7, H7, I7.unpinned, r7, q7⟩
end

/-! ### the forms one uses -/
/-- over a list that the body leaves as it is -/
theorem for_list {K : PySem.W.Frag} {a : Addr} {xs : List V} {g : TG} {tb : TS} {D : Ends} {σ : St} {H : Hp} (Pv : Nat → St → Hp → Prop) (h0 : Pv 0 σ H) (hl : ∀ i σ H, i ≤ xs.length → Pv i σ H → SqL K H a xs)
    (hs : ∀ i x σ H, xs[i]? = some x → Pv i σ H → g x σ H fun σ2 H2 => tb { D with nx := Pv (i + 1), ct := Pv (i + 1), bk := D.nx } σ2 H2) (hd : ∀ σ H, Pv xs.length σ H → D.nx σ H) :
    ∃ W : Nat → Nat → St → Hp → Prop, (∃ m, W 0 m σ H) ∧ ∀ i m σ H, W i m σ H →
      ((Itl K a).stop i H ∧ D.nx σ H) ∨ ((Itl K a).go i H ∧ ∃ N : St → Hp → Prop, (∀ σ' H', N σ' H' → ∃ m', m' < m ∧ W (i + 1) m' σ' H') ∧ ∀ x H', (Itl K a).yld i H x H' → g x σ H' fun σ2 H2 => tb { D with nx := N, ct := N, bk := D.nx } σ2 H2) := by
  refine ⟨fun i m σ H => m = xs.length - i ∧ i ≤ xs.length ∧ Pv i σ H, ⟨xs.length, by simp, Nat.zero_le _, h0⟩, ?_⟩
  rintro i m σ H ⟨rfl, hi, p⟩
  have q := hl i σ H hi p
  by_cases hlt : i < xs.length
  · refine .inr ⟨⟨xs, xs[i], q, by simp [hlt]⟩, Pv (i + 1), fun σ' H' p' => ⟨xs.length - (i + 1), by omega, rfl, hlt, p'⟩, fun x H' y => ?_⟩
    obtain ⟨e, y⟩ := y
    subst e
    exact hs i x σ _ (y xs q) p
  · have e : i = xs.length := by omega
    subst e
    exact .inl ⟨⟨xs, q, Nat.le_refl _⟩, hd σ H p⟩
theorem for_tup {K : PySem.W.Frag} {a : Addr} {xs : List V} {g : TG} {tb : TS} {D : Ends} {σ : St} {H : Hp} (Pv : Nat → St → Hp → Prop) (h0 : Pv 0 σ H) (hl : ∀ i σ H, i ≤ xs.length → Pv i σ H → SqT K H a xs)
    (hs : ∀ i x σ H, xs[i]? = some x → Pv i σ H → g x σ H fun σ2 H2 => tb { D with nx := Pv (i + 1), ct := Pv (i + 1), bk := D.nx } σ2 H2) (hd : ∀ σ H, Pv xs.length σ H → D.nx σ H) :
    ∃ W : Nat → Nat → St → Hp → Prop, (∃ m, W 0 m σ H) ∧ ∀ i m σ H, W i m σ H →
      ((Itt K a).stop i H ∧ D.nx σ H) ∨ ((Itt K a).go i H ∧ ∃ N : St → Hp → Prop, (∀ σ' H', N σ' H' → ∃ m', m' < m ∧ W (i + 1) m' σ' H') ∧ ∀ x H', (Itt K a).yld i H x H' → g x σ H' fun σ2 H2 => tb { D with nx := N, ct := N, bk := D.nx } σ2 H2) := by
  refine ⟨fun i m σ H => m = xs.length - i ∧ i ≤ xs.length ∧ Pv i σ H, ⟨xs.length, by simp, Nat.zero_le _, h0⟩, ?_⟩
  rintro i m σ H ⟨rfl, hi, p⟩
  have q := hl i σ H hi p
  by_cases hlt : i < xs.length
  · refine .inr ⟨⟨xs, xs[i], q, by simp [hlt]⟩, Pv (i + 1), fun σ' H' p' => ⟨xs.length - (i + 1), by omega, rfl, hlt, p'⟩, fun x H' y => ?_⟩
    obtain ⟨e, y⟩ := y
    subst e
    exact hs i x σ _ (y xs q) p
  · have e : i = xs.length := by omega
    subst e
    exact .inl ⟨⟨xs, q, Nat.le_refl _⟩, hd σ H p⟩
theorem for_range {lo : Int} {n : Nat} {g : TG} {tb : TS} {D : Ends} {σ : St} {H : Hp} (Pv : Nat → St → Hp → Prop) (h0 : Pv 0 σ H)
    (hs : ∀ i σ H, i < n → Pv i σ H → g (.int (lo + i)) σ H fun σ2 H2 => tb { D with nx := Pv (i + 1), ct := Pv (i + 1), bk := D.nx } σ2 H2) (hd : ∀ σ H, Pv n σ H → D.nx σ H) :
    ∃ W : Nat → Nat → St → Hp → Prop, (∃ m, W 0 m σ H) ∧ ∀ i m σ H, W i m σ H →
      ((Itr lo n).stop i H ∧ D.nx σ H) ∨ ((Itr lo n).go i H ∧ ∃ N : St → Hp → Prop, (∀ σ' H', N σ' H' → ∃ m', m' < m ∧ W (i + 1) m' σ' H') ∧ ∀ x H', (Itr lo n).yld i H x H' → g x σ H' fun σ2 H2 => tb { D with nx := N, ct := N, bk := D.nx } σ2 H2) := by
  refine ⟨fun i m σ H => m = n - i ∧ i ≤ n ∧ Pv i σ H, ⟨n, by simp, Nat.zero_le _, h0⟩, ?_⟩
  rintro i m σ H ⟨rfl, hi, p⟩
  by_cases hlt : i < n
  · refine .inr ⟨hlt, Pv (i + 1), fun σ' H' p' => ⟨n - (i + 1), by omega, rfl, hlt, p'⟩, fun x H' y => ?_⟩
    obtain ⟨e, y⟩ := y
    subst e y
    exact hs i σ _ hlt p
  · have e : i = n := by omega
    subst e
    exact .inl ⟨Nat.le_refl _, hd σ H p⟩
end L2

namespace L2
open PySem PySem.Spec PyProof.Rows

abbrev R2 := V → V → Hp → VK → Prop
/-- a two-place operation on values: f is binaryOp op, inplaceOp op or compareOp op -/
def OpR (X : Cx) (f : Value → Value → Sem Value) (r : R2) : Prop :=
  ∀ (pins : List (Addr × Obj)) (s : Shared) (σ : St) (H : Hp) (x y : V) (v u : Value) (Q : VK), Inv X pins σ H s → RelV x v → RelV y u → r x y H Q →
    wpAny (model X.prog X.w) X.A (f v u) (EP X pins σ Q) X.xe s
/-- a one-place operation -/
def UnR (X : Cx) (f : Value → Sem Value) (r : V → Hp → VK → Prop) : Prop :=
  ∀ (pins : List (Addr × Obj)) (s : Shared) (σ : St) (H : Hp) (x : V) (v : Value) (Q : VK), Inv X pins σ H s → RelV x v → r x H Q →
    wpAny (model X.prog X.w) X.A (f v) (EP X pins σ Q) X.xe s
/-- a call of a value that is known (a builtin, a type) with values -/
def CallR (X : Cx) (f : Value) (r : List V → Hp → VK → Prop) : Prop :=
  ∀ (pins : List (Addr × Obj)) (s : Shared) (σ : St) (H : Hp) (xs : List V) (us : List Value) (Q : VK), Inv X pins σ H s → Vals xs us → r xs H Q →
    wpAny (model X.prog X.w) X.A (call f us) (EP X pins σ Q) X.xe s
def tOp (r : R2) (ta tb : TE) : TE := fun σ H Q => ta σ H fun x H1 => tb σ H1 fun y H2 => r x y H2 Q
def tUn (r : V → Hp → VK → Prop) (ta : TE) : TE := fun σ H Q => ta σ H fun x H1 => r x H1 Q
/-- ints in, under C, and a value out -/
def rI (C : Int → Int → Prop) (g : Int → Int → V) : R2 := fun x y H Q => ∃ i j, x = .int i ∧ y = .int j ∧ C i j ∧ Q (g i j) H
def rI0 (g : Int → Int → V) : R2 := fun x y H Q => ∃ i j, x = .int i ∧ y = .int j ∧ Q (g i j) H
def rU (g : Int → V) : V → Hp → VK → Prop := fun x H Q => ∃ i, x = .int i ∧ Q (g i) H

section
variable {X : Cx} {a b c : Expr} {ta tb tc : TE} {pos : Pos}

theorem binT (ha : PE X a ta) (hb : PE X b tb) {pins : List (Addr × Obj)} {s : Shared} {σ : St} {H : Hp} {R : V → V → Hp → Prop} (I : Inv X pins σ H s)
    (h : ta σ H fun x H1 => tb σ H1 fun y H2 => R x y H2) {Q : Value → Shared → Prop} {f : Value → Value → Sem Value}
    (hf : ∀ v u s2 x y H2, Inv X pins σ H2 s2 → RelV x v → RelV y u → R x y H2 → wpAny (model X.prog X.w) X.A (f v u) Q X.xe s2) :
    wpAny (model X.prog X.w) X.A (eval a X.env) (fun v s₁ => wpAny (model X.prog X.w) X.A (eval b X.env) (fun u s₂ => wpAny (model X.prog X.w) X.A (f v u) Q X.xe s₂) X.xe s₁) X.xe s := by
  refine thn (ha pins s σ H _ I h) fun v s1 ⟨x, H1, I1, r1, q1⟩ => ?_
  refine thn (hb pins s1 σ H1 _ I1 q1) fun u s2 ⟨y, H2, I2, r2, q2⟩ => ?_
  exact hf v u s2 x y H2 I2 r1 r2 q2

theorem pe_op {op : Operator} {r : R2} (ho : OpR X (binaryOp op) r) (ha : PE X a ta) (hb : PE X b tb) : PE X (.BinOp a op b pos) (tOp r ta tb) := by
  intro pins s σ H Q I h
  exact wpAny_BinOp (binT ha hb I h fun v u s2 x y H2 I2 rx ry q => ho pins s2 σ H2 x y v u Q I2 rx ry q)
theorem pe_un {op : UnaryOp} {r : V → Hp → VK → Prop} (ho : UnR X (unaryOp op) r) (ha : PE X a ta) : PE X (.UnaryOp op a pos) (tUn r ta) := by
  intro pins s σ H Q I h
  exact UnaryOp_ (thn (ha pins s σ H _ I h) fun v s1 ⟨x, H1, I1, r1, q1⟩ => ho pins s1 σ H1 x v Q I1 r1 q1)
/-! ### ints -/
theorem opI {f : Value → Value → Sem Value} {C : Int → Int → Prop} {g : Int → Int → Int}
    (rule : ∀ (i j : Int) (t u : Tok) (s : Shared) (Q : Value → Shared → Prop) (E : Value → Shared → Prop), C i j → Q (.int (g i j) s.toks) { s with toks := s.toks + 1 } → wpAny (model X.prog X.w) X.A (f (.int i t) (.int j u)) Q E s) :
    OpR X f (rI C fun i j => .int (g i j)) := by
  intro pins s σ H x y v u Q I rx ry h
  obtain ⟨i, j, rfl, rfl, hc, q⟩ := h
  obtain ⟨t, rfl⟩ := rx
  obtain ⟨t', rfl⟩ := ry
  exact rule i j t t' s _ _ hc ⟨.int (g i j), H, I.tok _, ⟨_, rfl⟩, q⟩
theorem opI0 {f : Value → Value → Sem Value} {g : Int → Int → Int}
    (rule : ∀ (i j : Int) (t u : Tok) (s : Shared) (Q : Value → Shared → Prop) (E : Value → Shared → Prop), Q (.int (g i j) s.toks) { s with toks := s.toks + 1 } → wpAny (model X.prog X.w) X.A (f (.int i t) (.int j u)) Q E s) :
    OpR X f (rI0 fun i j => .int (g i j)) := by
  intro pins s σ H x y v u Q I rx ry h
  obtain ⟨i, j, rfl, rfl, q⟩ := h
  obtain ⟨t, rfl⟩ := rx
  obtain ⟨t', rfl⟩ := ry
  exact rule i j t t' s _ _ ⟨.int (g i j), H, I.tok _, ⟨_, rfl⟩, q⟩
theorem opB0 {f : Value → Value → Sem Value} {g : Int → Int → Bool}
    (rule : ∀ (i j : Int) (t u : Tok) (s : Shared) (Q : Value → Shared → Prop) (E : Value → Shared → Prop), Q (.bool (g i j)) s → wpAny (model X.prog X.w) X.A (f (.int i t) (.int j u)) Q E s) :
    OpR X f (rI0 fun i j => .bl (g i j)) := by
  intro pins s σ H x y v u Q I rx ry h
  obtain ⟨i, j, rfl, rfl, q⟩ := h
  obtain ⟨t, rfl⟩ := rx
  obtain ⟨t', rfl⟩ := ry
  exact rule i j t t' s _ _ ⟨.bl (g i j), H, I, rfl, q⟩

def CDiv (i j : Int) : Prop := 0 < j ∧ j < 1073741824
def CPow (i j : Int) : Prop := 0 ≤ j ∧ j ≤ 1000000 ∧ i.natAbs < 2 ^ 64
def CMul (i j : Int) : Prop := (-(2 ^ 64) < i ∧ i < 2 ^ 64) ∨ (-(2 ^ 64) < j ∧ j < 2 ^ 64)
theorem CMul.ok {i j : Int} (h : CMul i j) : IntMulOk i j := by
  rcases h with ⟨h1, h2⟩ | ⟨h1, h2⟩
  · exact .of_left (intBits_le_64 h1 h2)
  · exact .of_right (intBits_le_64 h1 h2)
theorem op_add : OpR X (binaryOp .Add) (rI0 fun i j => .int (i + j)) := opI0 fun _ _ _ _ _ _ _ q => add_int q
theorem op_sub : OpR X (binaryOp .Sub) (rI0 fun i j => .int (i - j)) := opI0 fun _ _ _ _ _ _ _ q => sub_int q
theorem op_mul : OpR X (binaryOp .Mult) (rI CMul fun i j => .int (i * j)) := opI fun _ _ _ _ _ _ _ hc q => mul_int q hc.ok
/-- // by a positive divisor -/
theorem op_fdiv : OpR X (binaryOp .FloorDiv) (rI CDiv fun i j => .int (i / j)) := opI fun i j _ _ _ _ _ hc q => by
  have h1 : (0 : Int) < j := hc.1
  have h2 : j < 1073741824 := hc.2
  exact floordiv_int (by omega) (by rw [Int.fdiv_eq_ediv_of_nonneg i (by omega)]; exact q) (.inl (PyProof.noPylong_small (by omega)))
/-- % by a positive divisor of any size -/
theorem op_mod : OpR X (binaryOp .Mod) (rI (fun _ j => 0 < j) fun i j => .int (i % j)) := opI fun i j _ _ _ _ _ hc q => by
  have h1 : (0 : Int) < j := hc
  exact mod_int' (by omega) (by rw [Int.fmod_eq_emod_of_nonneg i (by omega)]; exact q)
theorem op_pow : OpR X (binaryOp .Pow) (rI CPow fun i j => .int (i ^ j.toNat)) := opI fun _ _ _ _ _ _ _ hc q => pow_int_small hc.1 hc.2.1 hc.2.2 q
theorem op_shl : OpR X (binaryOp .LShift) (rI CPow fun i j => .int (i * 2 ^ j.toNat)) := opI fun _ _ _ _ _ _ _ hc q => lshift_int_small hc.1 hc.2.1 hc.2.2 q
theorem unI {f : Value → Sem Value} {g : Int → Int}
    (rule : ∀ (i : Int) (t : Tok) (s : Shared) (Q : Value → Shared → Prop) (E : Value → Shared → Prop), Q (.int (g i) s.toks) { s with toks := s.toks + 1 } → wpAny (model X.prog X.w) X.A (f (.int i t)) Q E s) :
    UnR X f (rU fun i => .int (g i)) := by
  intro pins s σ H x v Q I rx h
  obtain ⟨i, rfl, q⟩ := h
  obtain ⟨t, rfl⟩ := rx
  exact rule i t s _ _ ⟨.int (g i), H, I.tok _, ⟨_, rfl⟩, q⟩
theorem un_neg : UnR X (unaryOp .USub) (rU fun i => .int (-i)) := unI fun _ _ _ _ _ q => neg_int q
/-! ### bools among ints: n += (a < b) -/
end

/-! ### comparisons -/
/-- the scalars that == tells apart as data does -/
def scal : V → V → Bool
  | .non, .non => true | .non, .int _ => true | .int _, .non => true | .non, .bl _ => true | .bl _, .non => true | .non, .str _ => true | .str _, .non => true
  | .int _, .int _ => true | .bl _, .bl _ => true | .str _, .str _ => true | .byt _, .byt _ => true
  | .int _, .str _ => true | .str _, .int _ => true | .bl _, .str _ => true | .str _, .bl _ => true
  | _, _ => false
def rEq : R2 := fun x y H Q => scal x y = true ∧ Q (.bl (decide (x = y))) H
def rNe : R2 := fun x y H Q => scal x y = true ∧ Q (.bl (!decide (x = y))) H

theorem dec_int {i j : Int} : decide (V.int i = V.int j) = (i == j) := by
  rw [Bool.eq_iff_iff]
  simp
theorem dec_bl {i j : Bool} : decide (V.bl i = V.bl j) = (i == j) := by
  rw [Bool.eq_iff_iff]
  simp
theorem dec_str {i j : Str} : decide (V.str i = V.str j) = (i == j) := by
  rw [Bool.eq_iff_iff]
  simp
theorem dec_byt {i j : Array UInt8} : decide (V.byt i = V.byt j) = (i.toList == j.toList) := by
  rw [Bool.eq_iff_iff]
  cases i
  cases j
  simp

section
variable {X : Cx} {a b c : Expr} {ta tb tc : TE} {pos : Pos}
theorem fin_bl {pins : List (Addr × Obj)} {σ : St} {H : Hp} {s : Shared} {Q : VK} {k k' : Bool} (I : Inv X pins σ H s) (q : Q (.bl k) H) (e : k = k') : EP X pins σ Q (.bool k') s := by
  subst e
  exact ⟨.bl k, H, I, rfl, q⟩
theorem op_eq : OpR X (compareOp .Eq) rEq := by
  intro pins s σ H x y v u Q I rx ry h
  obtain ⟨hs, q⟩ := h
  cases x with
  | non =>
    cases rx
    cases y with
    | non => cases ry; exact PySem.EqNone.eq_none_none (fin_bl I q (by simp))
    | bl j => cases ry; exact PySem.EqNone.eq_none_bool (fin_bl I q (by simp))
    | int j => obtain ⟨t', rfl⟩ := ry; exact PySem.EqNone.eq_none_int (fin_bl I q (by simp))
    | str j => obtain ⟨t', rfl⟩ := ry; exact PySem.EqNone.eq_none_str (fin_bl I q (by simp))
    | _ => exact absurd (show false = true from hs) Bool.false_ne_true
  | bl i =>
    cases rx
    cases y with
    | non => cases ry; exact PySem.EqNone.eq_bool_none (fin_bl I q (by simp))
    | bl j => cases ry; exact eq_bool (fin_bl I q dec_bl)
    | str j => obtain ⟨t', rfl⟩ := ry; exact PySem.EqMixed.eq_bool_str (fin_bl I q (by simp))
    | _ => exact absurd (show false = true from hs) Bool.false_ne_true
  | int i =>
    obtain ⟨t, rfl⟩ := rx
    cases y with
    | non => cases ry; exact PySem.EqNone.eq_int_none (fin_bl I q (by simp))
    | int j => obtain ⟨t', rfl⟩ := ry; exact eq_int (fin_bl I q dec_int)
    | str j => obtain ⟨t', rfl⟩ := ry; exact PySem.EqMixed.eq_int_str (fin_bl I q (by simp))
    | _ => exact absurd (show false = true from hs) Bool.false_ne_true
  | str i =>
    obtain ⟨t, rfl⟩ := rx
    cases y with
    | non => cases ry; exact PySem.EqNone.eq_str_none (fin_bl I q (by simp))
    | bl j => cases ry; exact PySem.EqMixed.eq_str_bool (fin_bl I q (by simp))
    | int j => obtain ⟨t', rfl⟩ := ry; exact PySem.EqMixed.eq_str_int (fin_bl I q (by simp))
    | str j => obtain ⟨t', rfl⟩ := ry; exact eq_str (fin_bl I q dec_str)
    | _ => exact absurd (show false = true from hs) Bool.false_ne_true
  | byt i =>
    obtain ⟨t, rfl⟩ := rx
    cases y with
    | byt j => obtain ⟨t', rfl⟩ := ry; exact PySem.W.eq_bytes (fin_bl I q dec_byt)
    | _ => exact absurd (show false = true from hs) Bool.false_ne_true
  | _ => cases y <;> exact absurd (show false = true from hs) Bool.false_ne_true
theorem op_ne : OpR X (compareOp .NotEq) rNe := by
  intro pins s σ H x y v u Q I rx ry h
  obtain ⟨hs, q⟩ := h
  cases x with
  | non =>
    cases rx
    cases y with
    | non => cases ry; exact PySem.EqNone.ne_none_none (fin_bl I q (by simp))
    | bl j => cases ry; exact PySem.EqNone.ne_none_bool (fin_bl I q (by simp))
    | int j => obtain ⟨t', rfl⟩ := ry; exact PySem.EqNone.ne_none_int (fin_bl I q (by simp))
    | str j => obtain ⟨t', rfl⟩ := ry; exact PySem.EqNone.ne_none_str (fin_bl I q (by simp))
    | _ => exact absurd (show false = true from hs) Bool.false_ne_true
  | bl i =>
    cases rx
    cases y with
    | non => cases ry; exact PySem.EqNone.ne_bool_none (fin_bl I q (by simp))
    | bl j => cases ry; exact ne_bool (fin_bl I q (congrArg not dec_bl))
    | str j => obtain ⟨t', rfl⟩ := ry; exact PySem.EqMixed.ne_bool_str (fin_bl I q (by simp))
    | _ => exact absurd (show false = true from hs) Bool.false_ne_true
  | int i =>
    obtain ⟨t, rfl⟩ := rx
    cases y with
    | non => cases ry; exact PySem.EqNone.ne_int_none (fin_bl I q (by simp))
    | int j => obtain ⟨t', rfl⟩ := ry; exact ne_int (fin_bl I q (congrArg not dec_int))
    | str j => obtain ⟨t', rfl⟩ := ry; exact PySem.EqMixed.ne_int_str (fin_bl I q (by simp))
    | _ => exact absurd (show false = true from hs) Bool.false_ne_true
  | str i =>
    obtain ⟨t, rfl⟩ := rx
    cases y with
    | non => cases ry; exact PySem.EqNone.ne_str_none (fin_bl I q (by simp))
    | bl j => cases ry; exact PySem.EqMixed.ne_str_bool (fin_bl I q (by simp))
    | int j => obtain ⟨t', rfl⟩ := ry; exact PySem.EqMixed.ne_str_int (fin_bl I q (by simp))
    | str j => obtain ⟨t', rfl⟩ := ry; exact ne_str (fin_bl I q (congrArg not dec_str))
    | _ => exact absurd (show false = true from hs) Bool.false_ne_true
  | byt i =>
    obtain ⟨t, rfl⟩ := rx
    cases y with
    | byt j => obtain ⟨t', rfl⟩ := ry; exact PySem.W.ne_bytes (fin_bl I q (congrArg not dec_byt))
    | _ => exact absurd (show false = true from hs) Bool.false_ne_true
  | _ => cases y <;> exact absurd (show false = true from hs) Bool.false_ne_true

theorem op_lt : OpR X (compareOp .Lt) (rI0 fun i j => .bl (decide (i < j))) := opB0 fun _ _ _ _ _ _ _ q => lt_int q
theorem op_le : OpR X (compareOp .LtE) (rI0 fun i j => .bl (decide (i ≤ j))) := opB0 fun _ _ _ _ _ _ _ q => le_int q
theorem op_gt : OpR X (compareOp .Gt) (rI0 fun i j => .bl (decide (j < i))) := opB0 fun _ _ _ _ _ _ _ q => gt_int q
theorem op_ge : OpR X (compareOp .GtE) (rI0 fun i j => .bl (decide (j ≤ i))) := opB0 fun _ _ _ _ _ _ _ q => ge_int q
/-- is None, is not None: the right side a value none -/
theorem op_isN : OpR X (compareOp .Is) (fun x y H Q => y = .non ∧ Q (.bl (decide (x = .non))) H) := by
  intro pins s σ H x y v u Q I rx ry h
  obtain ⟨rfl, q⟩ := h
  cases ry
  refine is_none_gen (fin_bl I q ?_)
  cases x <;> first
    | (cases rx; rfl)
    | (obtain ⟨t, rfl⟩ := rx; rfl)
/-- two rules for one operation: by cases -/
theorem OpR.or {f : Value → Value → Sem Value} {r r' : R2} (h : OpR X f r) (h' : OpR X f r') : OpR X f (fun x y H Q => r x y H Q ∨ r' x y H Q) := by
  intro pins s σ H x y v u Q I rx ry q
  rcases q with q | q
  · exact h pins s σ H x y v u Q I rx ry q
  · exact h' pins s σ H x y v u Q I rx ry q

theorem nomark (b : Expr) {op : CmpOp} (h : op ≠ .In := by decide) (h2 : op ≠ .NotIn := by decide) : behindInMarks op b = false := by
  have e1 : (op == CmpOp.In) = false := by cases op <;> first | rfl | exact absurd rfl h
  have e2 : (op == CmpOp.NotIn) = false := by cases op <;> first | rfl | exact absurd rfl h2
  cases b <;> simp [behindInMarks, e1, e2]
/-- a comparison as a value; hm: nomark b, or (for in, not in) by with_unfolding_all rfl -/
theorem pe_cmpR {op : CmpOp} {r : R2} (ho : OpR X (compareOp op) r) (ha : PE X a ta) (hb : PE X b tb) (hm : behindInMarks op b = false) : PE X (.Compare a [op] [b] pos) (tOp r ta tb) := by
  intro pins s σ H Q I h
  exact wpAny_Compare1 (binT ha hb I h fun v u s2 x y H2 I2 rx ry q => ho pins s2 σ H2 x y v u Q I2 rx ry q) hm
/-- a reading of a value as a test -/
def tTest (t : TE) : TT := fun σ H Q => t σ H fun x H' => ∃ k, x = .bl k ∧ Q k H'
theorem pt_cmpR {op : CmpOp} {r : R2} (ho : OpR X (compareOp op) r) (ha : PE X a ta) (hb : PE X b tb) (hm : behindInMarks op b = false) : PT X (.Compare a [op] [b] pos) (tTest (tOp r ta tb)) := by
  intro pins s σ H Q I h
  refine wpAny_isTrue_Compare1 (thn (ha pins s σ H _ I h) fun v s1 ⟨x, H1, I1, r1, q1⟩ => thn (hb pins s1 σ H1 _ I1 q1) fun u s2 ⟨y, H2, I2, r2, q2⟩ =>
    thn (ho pins s2 σ H2 x y v u _ I2 r1 r2 q2) fun c s3 ⟨z, H3, I3, r3, k, e, q3⟩ => ?_) hm
  subst e
  cases r3
  exact wpAny_truthy_bool ⟨H3, I3, q3⟩
/-- a op1 b op2 c -/
def tChain (r r' : R2) (ta tb tc : TE) : TE := fun σ H Q => ta σ H fun x H1 => tb σ H1 fun y H2 => r x y H2 fun z H3 => ∃ k, z = .bl k ∧
  (if k = true then tc σ H3 fun w' H4 => r' y w' H4 Q else Q (.bl false) H3)
theorem pe_chain {op op' : CmpOp} {r r' : R2} (ho : OpR X (compareOp op) r) (ho' : OpR X (compareOp op') r') (ha : PE X a ta) (hb : PE X b tb) (hc : PE X c tc)
    (hm : lastMarks [op, op'] [b, c] = false := by with_unfolding_all rfl) : PE X (.Compare a [op, op'] [b, c] pos) (tChain r r' ta tb tc) := by
  intro pins s σ H Q I h
  refine Compare_chain (thn (ha pins s σ H _ I h) fun v s1 ⟨x, H1, I1, r1, q1⟩ => chain_link (thn (hb pins s1 σ H1 _ I1 q1) fun u s2 ⟨y, H2, I2, r2, q2⟩ =>
    thn (ho pins s2 σ H2 x y v u _ I2 r1 r2 q2) fun d s3 ⟨z, H3, I3, r3, k, e, q3⟩ => ?_)) hm
  subst e
  cases r3
  refine wpAny_truthy_bool ?_
  cases k with
  | false => exact ite_ff ⟨.bl false, H3, I3, rfl, q3⟩
  | true => exact ite_tt (chain_last (thn (hc pins s3 σ H3 _ I3 q3) fun w' s4 ⟨z', H4, I4, r4, q4⟩ => ho' pins s4 σ H4 y z' u w' Q I4 r2 r4 q4))
/-! ### truth -/
theorem line63 : (sizeLine : Nat) < 2 ^ 63 := by rw [sizeLine_eq]; decide
/-! ### strs and bytes -/
/-! ### scalar builtins, by CallR -/
theorem vals1 {x : V} {us : List Value} (r : Vals [x] us) : ∃ u, us = [u] ∧ RelV x u := by
  cases r with
  | cons r1 r2 => cases r2; exact ⟨_, rfl, r1⟩
theorem vals2 {x y : V} {us : List Value} (r : Vals [x, y] us) : ∃ u w', us = [u, w'] ∧ RelV x u ∧ RelV y w' := by
  cases r with
  | cons r1 r2 =>
    cases r2 with
    | cons r3 r4 => cases r4; exact ⟨_, _, rfl, r1, r3⟩
theorem call_max2 (hc : X.calm = true) : CallR X (.builtin "max") (fun xs H Q => ∃ i j, xs = [.int i, .int j] ∧ Q (.int (if j > i then j else i)) H) := by
  intro pins s σ H xs us Q I r h
  obtain ⟨i, j, rfl, q⟩ := h
  obtain ⟨u, w', rfl, ⟨t, rfl⟩, ⟨t', rfl⟩⟩ := vals2 r
  refine max_two_ints (I.ok.hd hc) fun h' tk k => ⟨_, H, I.kept k, ?_, q⟩
  by_cases hj : j > i
  · rw [if_pos hj, if_pos hj]; exact ⟨_, rfl⟩
  · rw [if_neg hj, if_neg hj]; exact ⟨_, rfl⟩
theorem call_min2 (hc : X.calm = true) : CallR X (.builtin "min") (fun xs H Q => ∃ i j, xs = [.int i, .int j] ∧ Q (.int (if j < i then j else i)) H) := by
  intro pins s σ H xs us Q I r h
  obtain ⟨i, j, rfl, q⟩ := h
  obtain ⟨u, w', rfl, ⟨t, rfl⟩, ⟨t', rfl⟩⟩ := vals2 r
  refine min_two_ints (I.ok.hd hc) fun h' tk k => ⟨_, H, I.kept k, ?_, q⟩
  by_cases hj : j < i
  · rw [if_pos hj, if_pos hj]; exact ⟨_, rfl⟩
  · rw [if_neg hj, if_neg hj]; exact ⟨_, rfl⟩
theorem call_int1 : CallR X (.type "int") (fun xs H Q => (∃ i, xs = [.int i] ∧ Q (.int i) H) ∨ ∃ k, xs = [.bl k] ∧ Q (.int (if k then 1 else 0)) H) := by
  intro pins s σ H xs us Q I r h
  rcases h with ⟨i, rfl, q⟩ | ⟨k, rfl, q⟩
  · obtain ⟨u, rfl, t, rfl⟩ := vals1 r
    exact call_int_int ⟨.int i, H, I, ⟨_, rfl⟩, q⟩
  · obtain ⟨u, rfl, r1⟩ := vals1 r
    cases r1
    exact call_int_bool ⟨.int (if k then 1 else 0), H, I.tok _, ⟨_, rfl⟩, q⟩
end
end L2

namespace L2
open PySem PySem.Spec PyProof.Rows

/-! ### an instance, its attributes a map -/
structure ObjM (h : Heap) (x dx C : Addr) (mA : Str → Option Value) : Prop where
  obj : h.get? x = some (PySem.W.instObj C dx)
  ns : h.Ns1 dx mA
  ne : dx ≠ x

theorem lookIn_ns {h : Heap} {dx : Addr} {mA : Str → Option Value} (n : h.Ns1 dx mA) : ∃ od, h.get? dx = some od ∧ ∀ name, PySem.W.lookIn name od = some (mA name) := by
  obtain ⟨o, es, ep, ho, hd, hk, _, hm⟩ := n
  refine ⟨o, ho, fun name => ?_⟩
  have e := hm name
  unfold nsFind findBy at e
  rw [← Array.find?_toList] at e
  unfold PySem.W.lookIn
  rw [hd]
  dsimp only
  split
  · rename_i y q
    rw [q] at e
    exact congrArg some e
  · rename_i q
    rw [q] at e
    have a : es.toList.any (·.refKey) = false := by
      rw [List.any_eq_false]
      intro y hy
      obtain ⟨z, t, hkey⟩ := hk y (Array.mem_toList_iff.mp hy)
      simp [DictEntry.refKey, hkey]
    have a' : ¬ es.toList.any (·.refKey) = true := by rw [a]; exact Bool.false_ne_true
    rw [if_neg a']
    exact congrArg some e

theorem ObjM.look {h : Heap} {x dx C : Addr} {mA : Str → Option Value} (I : ObjM h x dx C mA) : ∃ od, PySem.W.InstAt h x (PySem.W.instObj C dx) C (some od) ∧ ∀ name, PySem.W.lookIn name od = some (mA name) :=
  let ⟨od, ho, hl⟩ := lookIn_ns I.ns
  ⟨od, ⟨I.obj, rfl, rfl, ho⟩, hl⟩

section
variable {prog : Program} {w : World} {A : Around} {E : Value → Shared → Prop} {s : Shared} {K : PySem.W.Frag} {x dx C f : Addr} {mA : Str → Option Value} {name : Str} {v : Value}

end

/-! ### the attributes as a list of pairs -/
theorem RelO.some_of {v : V} {o : Option Value} (r : RelO (some v) o) : ∃ u, o = some u ∧ RelV v u := by
  cases o with
  | none => exact (show False from r).elim
  | some u => exact ⟨u, rfl, r⟩
theorem RelO.none_of {o : Option Value} (r : RelO none o) : o = none := by
  cases o with
  | none => rfl
  | some u => exact (show False from r).elim
section
variable {P : Program} {w : World} {H H' : Hp} {h h' : Heap} {a C dx : Addr} {fs fs' : List (Str × V)}
theorem ins_get (hok : HOk P w H h) (e : H a = some (.ins C dx fs)) : ∃ mA, ObjM h a dx C mA ∧ (∀ f, RelO (fs.lookup f) (mA f)) ∧ PySem.Within mA (fs.map (·.1)) ∧ fs.length ≤ 1000 ∧ H dx = some (.own a) := by
  obtain ⟨d, z, ne, ob, mA, n, r, q⟩ := (show ObjOk P w H h a (.ins C dx fs) from hok a _ e)
  exact ⟨mA, ⟨ob, n, ne⟩, r, q, z, d⟩
end

/-! ### what of the text a class must have -/
structure Cls (K : PySem.W.Frag) (C : Addr) : Prop where
  pg : PySem.W.plainGet K C Str.empty = true
  hd : PySem.W.hasDictIn K C = true
  po : PySem.W.plainOver K C = true
  sa : PySem.W.findIn K (.ref C) "__setattr__" = some (some (.builtin "object.__setattr__"))
theorem Cls.get {K : PySem.W.Frag} {C : Addr} (c : Cls K C) (f : Str) : PySem.W.plainGet K C f = true := c.pg
/-- a constant of the class -/
structure Con (K : PySem.W.Frag) (C : Addr) (f : Str) (v : V) (u : Value) : Prop where
  at_ : PySem.W.findIn K (.ref C) f = some (some u)
  rel : RelV v u
  get : PySem.W.specialIn K u "__get__" = some none
  cp : PySem.W.copiedNames.contains f = false
/-- a method: a plain def of the class or of one above it -/
structure Meth (K : PySem.W.Frag) (C : Addr) (m : Str) (f : Addr) : Prop where
  at_ : PySem.W.findIn K (.ref C) m = some (some (.ref f))
  fn : PySem.W.isFn K (.ref f) = true
  kp : PySem.W.keepIn K (.ref f) = true

section
variable {X : Cx} {pins : List (Addr × Obj)} {σ : St} {H : Hp} {s : Shared} {a C dx : Addr} {fs : List (Str × V)} {f : Str} {v : V} {A : Around} {E : Value → Shared → Prop}

/-- a new instance, tracked, without attributes -/
theorem Inv.made (I : Inv X pins σ H s) : Inv X pins σ (upd (upd H s.heap.objs.size (.own (s.heap.objs.size + 1))) (s.heap.objs.size + 1) (.ins C s.heap.objs.size []))
    { s with heap := (s.heap.push PySem.W.emptyDict).push (PySem.W.instObj C s.heap.objs.size) } := by
  have e1 : (s.heap.push PySem.W.emptyDict).get? s.heap.objs.size = some PySem.W.emptyDict := Heap.get?_push_size s.heap rfl
  have e2 : ((s.heap.push PySem.W.emptyDict).push (PySem.W.instObj C s.heap.objs.size)).get? (s.heap.objs.size + 1) = some (PySem.W.instObj C s.heap.objs.size) := by
    have := Heap.get?_push_size (s.heap.push PySem.W.emptyDict) (o := PySem.W.instObj C s.heap.objs.size) rfl
    rwa [Heap.size_push] at this
  have e3 : (s.heap.push PySem.W.emptyDict).Ns s.heap.objs.size (fun _ => none) := ⟨PySem.W.emptyDict, #[], _, e1, rfl, (fun e he => absurd he (by simp)), fun _ => rfl⟩
  have I1 := I.laid (a := s.heap.objs.size) (o := .own (s.heap.objs.size + 1)) (h' := s.heap.push PySem.W.emptyDict) (t' := s.toks) (fun b u q => Heap.get?_push_of_some _ q) (Nat.le_refl _) ⟨_, e1⟩
  refine I1.laid (a := s.heap.objs.size + 1) (o := .ins C s.heap.objs.size []) (t' := s.toks) (fun b u q => Heap.get?_push_of_some _ q) (Nat.le_of_eq (Heap.size_push _ _)) ?_
  have ne : s.heap.objs.size ≠ s.heap.objs.size + 1 := Nat.ne_of_lt (Nat.lt_succ_self _)
  refine ⟨by rw [upd_ne ne, upd_same], Nat.zero_le _, ne, e2, fun _ => none, (Heap.Ns1.of_empty e3).at fun o q => Heap.get?_push_of_some _ q, fun _ => True.intro, fun y hy => absurd rfl hy⟩

end

/-! ### readings and rules -/
section
variable {X : Cx} {o e value : Expr} {f : Str} {pos pos' tpos : Pos} {ta tv : TE}
end

/-! ### isinstance -/
section
variable {X : Cx} {pins : List (Addr × Obj)} {σ : St} {H : Hp} {s : Shared} {A : Around} {E : Value → Shared → Prop} {Q : Value → Shared → Prop} {c : Value} {b : Bool}
/-- the type of a value, as the fragment's deciders take it; for an instance its class -/
inductive TyOf (K : PySem.W.Frag) (H : Hp) : V → Value → Prop where
  | non : TyOf K H .non (.type "NoneType")
  | bl (x : Bool) : TyOf K H (.bl x) (.type "bool")
  | int (i : Int) : TyOf K H (.int i) (.type "int")
  | str (x : Str) : TyOf K H (.str x) (.type "str")
  | flt (x : UInt64) : TyOf K H (.flt x) (.type "float")
  | lst {a : Addr} {xs : List V} (e : H a = some (.lst xs)) : TyOf K H (.ref a) (.type "list")
  | frz {a : Addr} {o : Obj} {xs : List V} (e : H a = some (.frz o (.lst xs))) : TyOf K H (.ref a) (.type "list")
  | tup {a : Addr} {xs : List V} (e : H a = some (.tup xs)) : TyOf K H (.ref a) (.type "tuple")
  | dK {a : Addr} {kvs : List (Key × V)} (e : H a = some (.dK kvs)) : TyOf K H (.ref a) (.type "dict")
  | dT {a : Addr} {kvs : List (List Key × V)} (e : H a = some (.dT kvs)) : TyOf K H (.ref a) (.type "dict")
  | ins {a C dx : Addr} {fs : List (Str × V)} (e : H a = some (.ins C dx fs)) (cl : Cls K C) (ha : PySem.W.findIn K (.ref C) "__class__" = some (some (.builtin "object.__class__")))
      (hn : PySem.W.specialIn K (.builtin "object.__class__") "__get__" = some (some (.builtin "getset_descriptor.__get__"))) (htk : PySem.W.takesIn K (.builtin "object.__class__") = some true)
      (hm : PySem.W.mroIn K C (.type "object") = some true) : TyOf K H (.ref a) (.ref C)
/-- isinstance(x, c) for one class c, a built-in or an own one: kitOne's answer -/
theorem isinst_ok {x : V} {u t : Value} (I : Inv X pins σ H s) (rx : RelV x u) (ty : TyOf X.K H x t) (e : PySem.W.kitOne X.K t c = some b) (h : ∀ tk, Q (.bool b) { s with toks := tk }) :
    wpAny (model X.prog X.w) A (call (.builtin "isinstance") [u, c]) Q E s := by
  cases ty with
  | non => cases (show u = Value.none from rx); exact PySem.W.kia_one PySem.W.kitx_none I.kIn True.intro e (fun z => nomatch z) h
  | bl y => cases (show u = Value.bool y from rx); exact PySem.W.kia_one PySem.W.kitx_bool I.kIn True.intro e (fun z => nomatch z) h
  | int i => obtain ⟨t, q⟩ := (show ∃ t, u = Value.int i t from rx); cases q; exact PySem.W.kia_one PySem.W.kitx_int I.kIn True.intro e (fun z => nomatch z) h
  | str y => obtain ⟨t, q⟩ := (show ∃ t, u = Value.str y t from rx); cases q; exact PySem.W.kia_one PySem.W.kitx_str I.kIn True.intro e (fun z => nomatch z) h
  | flt y => obtain ⟨t, q⟩ := (show ∃ t, u = Value.float y t from rx); cases q; exact PySem.W.kia_one PySem.W.kitx_float I.kIn True.intro e (fun z => nomatch z) h
  | @lst a xs ea =>
    cases (show u = Value.ref a from rx)
    obtain ⟨_, _, n, _, h1⟩ := (show ObjOk X.prog X.w H s.heap a (.lst xs) from I.hok a _ ea)
    exact PySem.W.kia_one PySem.W.kitx_list I.kIn ⟨_, h1, rfl⟩ e (fun z => nomatch z) h
  | @frz a ob xs ea =>
    cases (show u = Value.ref a from rx)
    obtain ⟨_, _, _, n, _, h1⟩ := (show ObjOk X.prog X.w H s.heap a (.frz ob (.lst xs)) from I.hok a _ ea)
    exact PySem.W.kia_one PySem.W.kitx_list I.kIn ⟨_, h1, rfl⟩ e (fun z => nomatch z) h
  | @tup a xs ea =>
    cases (show u = Value.ref a from rx)
    obtain ⟨_, _, _, p⟩ := (show ObjOk X.prog X.w H s.heap a (.tup xs) from I.hok a _ ea)
    obtain ⟨o, h1, h2, _⟩ := p
    exact PySem.W.kia_one PySem.W.kitx_tuple I.kIn ⟨o, h1, h2⟩ e (fun z => nomatch z) h
  | @dK a kvs ea =>
    cases (show u = Value.ref a from rx)
    obtain ⟨_, _, vs, _, p⟩ := (show ObjOk X.prog X.w H s.heap a (.dK kvs) from I.hok a _ ea)
    obtain ⟨o, es, ep, h1, h2, _⟩ := p
    exact PySem.W.kia_one PySem.W.kitx_dict I.kIn ⟨o, h1, h2.1⟩ e (fun z => nomatch z) h
  | @dT a kvs ea =>
    cases (show u = Value.ref a from rx)
    obtain ⟨_, _, xs, _, o, es, ep, h1, h2, _⟩ := (show ObjOk X.prog X.w H s.heap a (.dT kvs) from I.hok a _ ea)
    exact PySem.W.kia_one PySem.W.kitx_dict I.kIn ⟨o, h1, h2.1⟩ e (fun z => nomatch z) h
  | @ins a C dx fs ea cl ha hn htk hm =>
    cases (show u = Value.ref a from rx)
    obtain ⟨mA, O, _⟩ := ins_get I.hok ea
    obtain ⟨od, J, _⟩ := O.look
    exact PySem.W.kia_one (PySem.W.kitx_own (cl.get _) cl.hd ha hn htk hm) I.kIn J e (fun z => nomatch z) h
end
end L2

namespace L2
open PySem PySem.Spec PyProof.Rows

/-! ### room -/
structure Room (k : Nat) (A : Around) : Prop where
  hd : A.handled = none
  dp : A.depth + 3 * k + 5 < recursionLimit
  un : A.units + 16 * k + 200 < cLine
theorem Room.mono {j k : Nat} {A : Around} (r : Room k A) (h : j ≤ k) : Room j A := ⟨r.hd, by have := r.dp; omega, by have := r.un; omega⟩
theorem Room.deeper {k : Nat} {A : Around} (r : Room (k + 1) A) (env : Env) : Room k (A.deeper env) :=
  ⟨r.hd, by have := r.dp; show A.depth + 1 + 3 * k + 5 < _; omega, by have := r.un; show A.units + 3 + 16 * k + 200 < _; omega⟩
theorem Room.in1 {k : Nat} {A : Around} (r : Room (k + 1) A) : Room k A.in1 :=
  ⟨r.hd, by have := r.dp; show A.depth + 3 * k + 5 < _; omega, by have := r.un; show A.units + 1 + 16 * k + 200 < _; omega⟩
theorem make_depth {A : Around} {C : Addr} {us : List Value} {kw : List (Str × Value)} : (A.under (.builtin "type.__call__" ⟨.ref C :: us, kw⟩)).depth = A.depth + 1 := by
  first | rfl | simp [Around.under, Code.weight, Code.isCreation, Code.isGuard, Code.isCaller, Code.frames, Code.isFrame, guardIds]
theorem make_units {A : Around} {C : Addr} {us : List Value} {kw : List (Str × Value)} : (A.under (.builtin "type.__call__" ⟨.ref C :: us, kw⟩)).units = A.units + 1 := by
  first | rfl | simp [Around.under, Code.cUnits, Code.frames, Code.isFrame]
theorem Room.make {k : Nat} {A : Around} (r : Room (k + 1) A) (C : Addr) (us : List Value) (kw : List (Str × Value)) : Room k (A.under (.builtin "type.__call__" ⟨.ref C :: us, kw⟩)) :=
  ⟨r.hd, by have := r.dp; rw [make_depth]; omega, by have := r.un; rw [make_units]; omega⟩
theorem Room.depth {k : Nat} {A : Around} (r : Room k A) : A.depth < recursionLimit := by have := r.dp; omega
theorem Room.units {k : Nat} {A : Around} (r : Room k A) : A.units + 64 < cLine := by have := r.un; omega
/-! ### argument lists and displays -/
def tNil : TA := fun _ H Q => Q [] H
def tCons (ta : TE) (tr : TA) : TA := fun σ H Q => ta σ H fun x H1 => tr σ H1 fun xs H2 => Q (x :: xs) H2
section
variable {X : Cx} {e : Expr} {es : List Expr} {te : TE} {t : TA} {pos : Pos}
theorem pa_nil : PA X [] tNil := fun _ _ _ _ H Q I h => Calls.spliced_nil ⟨[], H, I, .nil, h⟩
theorem pa_cons (ha : PE X e te) (hr : PA X es t) (hs : starEach (e :: es) X.env = (false, eval e X.env) :: starEach es X.env := by rfl) : PA X (e :: es) (tCons te t) := by
  intro pos pins s σ H Q I h
  rw [hs]
  show wpAny _ _ (spliced ((false, eval e X.env) :: backTo pos (starEach es X.env))) _ _ s
  refine Calls.spliced_cons (thn (ha pins s σ H _ I h) fun u s1 ⟨x, H1, I1, r1, q1⟩ => ?_)
  exact thn (hr pos pins s1 σ H1 _ I1 q1) fun us s2 ⟨xs, H2, I2, r2, q2⟩ => ⟨x :: xs, H2, I2, .cons r1 r2, q2⟩

/-- a tuple, a list of written items -/
def tTup (t : TA) : TE := fun σ H Q => t σ H fun xs H1 => xs.length ≤ sizeLine ∧ ∀ p, H1 p = none → Q (.ref p) (upd H1 p (.tup xs))
def tLst (t : TA) : TE := fun σ H Q => t σ H fun xs H1 => xs.length ≤ sizeLine ∧ ∀ p, H1 p = none → Q (.ref p) (upd H1 p (.lst xs))
end

/-! ### what a def promises -/
/-- a def's promise: the bound arguments in the parameters' order, the heap, the wanted end, the wanted exception -/
abbrev Sp := List V → Hp → VK → XK → Prop
/-- how an exception lies behind a call (file 08 gives it): the callers' frames, abstract heap and state ahead of the call, the wish, the exception, the state -/
abbrev CXT := List Env → Hp → Shared → XK → Value → Shared → Prop

/-- the state at a call -/
structure Env0 (P : Program) (w : World) (K : PySem.W.Frag) (mg : Str → Option Value) (base : Heap) (A : Around) (outer : List Env) (s : Shared) (H : Hp) : Prop where
  frames : A.frames = some outer
  mod : Mod K mg base
  bs : ∀ b o, base.get? b = some o → s.heap.get? b = some o ∧ H b = none
  bsz : base.objs.size ≤ s.heap.objs.size
  funs : s.heap.FunFrames base outer
  frf : ∀ b ∈ frs outer, H b = none
  hok : HOk P w H s.heap
  bare : AllBare s.gens
/-- a call's end -/
def CE (outer : List Env) (P : Program) (w : World) (H : Hp) (s : Shared) (Q : VK) (u : Value) (s' : Shared) : Prop :=
  ∃ v H', s'.os = s.os ∧ AllBare s'.gens ∧ Un (frs outer) [] H H' s.heap s'.heap ∧ HOk P w H' s'.heap ∧ RelV v u ∧ Q v H'
def CR (CX : CXT) (outer : List Env) (P : Program) (w : World) (H : Hp) (s : Shared) (Q : VK) (E : XK) (r : Result) (s' : Shared) : Prop :=
  match r with
  | .ok (.ret u) => CE outer P w H s Q u s'
  | .ok _ => False
  | .error e => CX outer H s E e s'
structure FnOk (P : Program) (w : World) (K : PySem.W.Frag) (mg : Str → Option Value) (base : Heap) (CX : CXT) (k : Nat) (f : Addr) (fd : FuncData) (ps : List Str) (sp : Sp) : Prop where
  len : ∀ vs H Q E, sp vs H Q E → vs.length = ps.length
  run : ∀ (A : Around) (outer : List Env) (s : Shared) (H : Hp) (args : Args) (us : List Value) (vs : List V) (Q : VK) (E : XK), Room k A → Env0 P w K mg base A outer s H → BindsTo s fd args (ps.zip us) → Vals vs us → sp vs H Q E →
    codeAny (model P w) A (.call (.ref f) args) (CR CX outer P w H s Q E) s
theorem FnOk.mono {P : Program} {w : World} {K : PySem.W.Frag} {mg : Str → Option Value} {base : Heap} {CX : CXT} {j k : Nat} {f : Addr} {fd : FuncData} {ps : List Str} {sp : Sp} (F : FnOk P w K mg base CX j f fd ps sp) (h : j ≤ k) :
    FnOk P w K mg base CX k f fd ps sp := ⟨F.len, fun A outer s H args us vs Q E hr => F.run A outer s H args us vs Q E (hr.mono h)⟩
/-- a weaker promise -/
theorem FnOk.imp {P : Program} {w : World} {K : PySem.W.Frag} {mg : Str → Option Value} {base : Heap} {CX : CXT} {k : Nat} {f : Addr} {fd : FuncData} {ps : List Str} {sp sp' : Sp} (F : FnOk P w K mg base CX k f fd ps sp)
    (h : ∀ vs H Q E, sp' vs H Q E → sp vs H Q E) : FnOk P w K mg base CX k f fd ps sp' :=
  ⟨fun vs H Q E q => F.len vs H Q E (h _ _ _ _ q), fun A outer s H args us vs Q E hr he hb hv hs => F.run A outer s H args us vs Q E hr he hb hv (h _ _ _ _ hs)⟩

theorem Env0.make {P : Program} {w : World} {K : PySem.W.Frag} {mg : Str → Option Value} {base : Heap} {A : Around} {outer : List Env} {s : Shared} {H : Hp} (e : Env0 P w K mg base A outer s H) (C : Addr) (us : List Value) (kw : List (Str × Value)) :
    Env0 P w K mg base (A.under (.builtin "type.__call__" ⟨.ref C :: us, kw⟩)) outer s H := ⟨by first | exact e.frames | (simpa [Around.under, Code.envs, Code.isFrame, pushEnvs] using e.frames), e.mod, e.bs, e.bsz, e.funs, e.frf, e.hok, e.bare⟩
theorem Env0.in1 {P : Program} {w : World} {K : PySem.W.Frag} {mg : Str → Option Value} {base : Heap} {A : Around} {outer : List Env} {s : Shared} {H : Hp} (e : Env0 P w K mg base A outer s H) :
    Env0 P w K mg base A.in1 outer s H := ⟨e.frames, e.mod, e.bs, e.bsz, e.funs, e.frf, e.hok, e.bare⟩

section
variable {X : Cx} {pins : List (Addr × Obj)} {σ : St} {H : Hp} {s s' : Shared}
/-- from a body: what a callee wants -/
theorem Inv.env0 (I : Inv X pins σ H s) : Env0 X.prog X.w X.K X.mg X.base X.A X.stack s H :=
  ⟨I.ok.frames, I.ok.mod, I.bs, Nat.le_trans I.ok.bsz I.sz, I.stack, I.stkFree, I.hok, I.bare⟩
/-- behind a call -/
theorem Inv.after {Q : VK} {u : Value} (I : Inv X pins σ H s) (h : CE X.stack X.prog X.w H s Q u s') : EP X pins σ Q u s' := by
  obtain ⟨v, H', os, bare, un, hok, r, q⟩ := h
  obtain ⟨hh, g, d, t, os'⟩ := s'
  obtain rfl : os' = s.os := os
  exact ⟨v, H', I.call (h' := hh) (g' := g) (d' := d) (t' := t) (ch := []) un hok bare (fun b z => absurd z (by simp)), r, q⟩
end

/-! ### calls -/
/-- f(..): the written arguments, then the defaults dvs; E: what is wanted of an exception -/
def tCall (sp : Sp) (dvs : List V) (E : XK) (t : TA) : TE := fun σ H Q => t σ H fun vs H1 => sp (vs ++ dvs) H1 Q E
/-- how the parameters are bound: us the positional arguments, kw the keywords' values by name, ds the defaults that fill up -/
def Binds (K : PySem.W.Frag) (fd : FuncData) (ps : List Str) (ds : List Value) : Prop :=
  ∀ (s : Shared) (us : List Value), K.In s.heap → (us ++ ds).length = ps.length → BindsTo s fd ⟨us, []⟩ (ps.zip (us ++ ds))
/-- every parameter is given -/
theorem Binds.all {K : PySem.W.Frag} {fd : FuncData} {ps : List Str} (h : ∀ us : List Value, us.length = ps.length → bindArgs fd ⟨us, []⟩ = pure (ps.zip us)) : Binds K fd ps [] := fun s us _ hl => by
  rw [List.append_nil] at hl ⊢
  exact .of_eq (h us hl)

/-- an exception of a callee reaches what this body wants of exceptions -/
def Passes (CX : CXT) (X : Cx) (E : XK) : Prop := ∀ (pins : List (Addr × Obj)) (σ : St) (H : Hp) (s : Shared) (e : Value) (s' : Shared), Inv X pins σ H s → CX X.stack H s E e s' → X.xe e s'

section
variable {X : Cx} {CX : CXT} {k : Nat} {f C : Addr} {fd : FuncData} {ps : List Str} {sp : Sp} {dvs : List V} {ds : List Value} {E : XK} {x m : Str} {p pos apos : Pos} {e o : Expr} {es : List Expr} {ta : TE} {t : TA}

/-- the callee runs -/
theorem run_fn {pins : List (Addr × Obj)} {σ : St} {H : Hp} {s : Shared} {Q : VK} {us : List Value} {vs : List V} (F : FnOk X.prog X.w X.K X.mg X.base CX k f fd ps sp) (hr : Room k X.A) (hb : Binds X.K fd ps ds) (hd : Vals dvs ds) (hx : Passes CX X E)
    (I : Inv X pins σ H s) (r : Vals vs us) (h : sp (vs ++ dvs) H Q E) : wpAny (model X.prog X.w) X.A (call (.ref f) us) (EP X pins σ Q) X.xe s := by
  have r2 : Vals (vs ++ dvs) (us ++ ds) := r.append hd
  have hl : (us ++ ds).length = ps.length := by rw [← r2.length]; exact F.len _ _ _ _ h
  refine wpAny_call (codeAny_mono (F.run X.A X.stack s H ⟨us, []⟩ (us ++ ds) (vs ++ dvs) Q E hr I.env0 (hb s us I.kIn hl) r2 h) fun r s' hq => ?_)
  cases r with
  | error e => exact hx pins σ H s e s' I hq
  | ok fl =>
    cases fl with
    | ret u => exact I.after hq
    | next => exact False.elim hq
    | brk => exact False.elim hq
    | cont => exact False.elim hq

theorem pe_call (F : FnOk X.prog X.w X.K X.mg X.base CX k f fd ps sp) (hr : Room k X.A) (hg : Gl X x) (hm : X.mg x = some (.ref f)) (hk : PySem.W.keepIn X.K (.ref f) = true) (hb : Binds X.K fd ps ds) (hd : Vals dvs ds) (hx : Passes CX X E)
    (ha : PA X (e :: es) t) (hdb : (x == ("__debug__" : Str)) = false := by decide) (he : starEach (e :: es) X.env = (false, eval e X.env) :: starEach es X.env := by rfl) (hpl : (backTo pos (starEach es X.env)).any (·.1) = false := by rfl) :
    PE X (.Call (.Name x p) (e :: es) [] pos) (tCall sp dvs E t) := by
  intro pins s σ H Q I h
  refine wpAny_Call_Name_kw (ld_glob I hg hm ?_ hdb)
  refine PySem.W.callWith_K (h₀ := X.base) I.ok.mod.kin hk (thn (ha pos pins s σ H _ I h) fun us s1 ⟨vs, H1, I1, r, q⟩ => ⟨I1.kIn, ?_⟩) he hpl
  exact run_fn F hr hb hd hx I1 r q
/-- what a class must have to be made -/
structure Mk (K : PySem.W.Frag) (C f : Addr) : Prop where
  makes : PySem.W.makesIn K C = true
  init : PySem.W.findIn K (.ref C) "__init__" = some (some (.ref f))
  fn : PySem.W.isFn K (.ref f) = true
  kp : PySem.W.keepIn K (.ref C) = true

end

/-! ### keywords -/
section
variable {X : Cx} {CX : CXT} {k : Nat} {f C : Addr} {fd : FuncData} {ps ks : List Str} {sp : Sp} {E : XK} {x m : Str} {p pos apos kpos : Pos} {e o : Expr} {es : List Expr} {kws : List Keyword} {te ta : TE} {t tk : TA} {nm : Option Str}
/-- how a call with keywords binds: g puts the positional values us and the keywords' values ws (names ks) in the parameters' order, defaults among them -/
structure KBinds (K : PySem.W.Frag) (fd : FuncData) (ps ks : List Str) (g : List Value → List Value → List Value) (gV : List V → List V → List V) : Prop where
  to : ∀ (s : Shared) (us ws : List Value), K.In s.heap → (g us ws).length = ps.length → BindsTo s fd ⟨us, ks.zip ws⟩ (ps.zip (g us ws))
  rel : ∀ {vs : List V} {us : List Value} {zs : List V} {ws : List Value}, Vals vs us → Vals zs ws → Vals (gV vs zs) (g us ws)
variable {g : List Value → List Value → List Value} {gV : List V → List V → List V}
end

/-! ### a def's body keeps its promise -/
/-- names: the parameters first -/
structure FnScope (N P : List Str) (sc : Scope) : Prop where
  kind : sc.kind = .function
  co : sc.isCoroutine = false
  gen : sc.isGenerator = false
  nd : N.Nodup
  pre : N.take P.length = P
  par : ∀ x ∈ P, sc.names.lookup x = some .local ∨ sc.names.lookup x = some .cell
  nofree : ∀ y ∈ sc.names, y.2 ≠ .free

theorem bindL_out {kindOf : Str → Option NameKind} {x : Str} : ∀ {binds : List (Str × Value)} {m : Str → Option Value}, (∀ v, (x, v) ∉ binds) → bindL kindOf binds m x = m x
  | [], _, _ => rfl
  | (n, v) :: r, m, h => by
    unfold bindL
    rw [bindL_out fun w hw => h w (List.mem_cons_of_mem _ hw)]
    split
    · have : x ≠ n := by rintro rfl; exact h v List.mem_cons_self
      simp [this]
    · rfl
theorem bindC_out {kindOf : Str → Option NameKind} {x : Str} : ∀ {binds : List (Str × Value)} {m : Str → Option Value}, (∀ v, (x, v) ∉ binds) → bindC kindOf binds m x = m x
  | [], _, _ => rfl
  | (n, v) :: r, m, h => by
    unfold bindC
    rw [bindC_out fun w hw => h w (List.mem_cons_of_mem _ hw)]
    split
    · rfl
    · have : x ≠ n := by rintro rfl; exact h v List.mem_cons_self
      simp [this]
theorem bindL_get {kindOf : Str → Option NameKind} {x : Str} {v : Value} : ∀ {P : List Str} {vs : List Value} {i : Nat} {m : Str → Option Value}, P.Nodup → P[i]? = some x → vs[i]? = some v → kindOf x = some .local →
    bindL kindOf (P.zip vs) m x = some v
  | [], _, _, _, _, h, _, _ => by simp at h
  | _ :: _, [], _, _, _, _, h, _ => by simp at h
  | p :: P, w :: vs, 0, m, nd, h1, h2, hk => by
    simp at h1 h2; subst h1; subst h2
    show bindL kindOf ((p, w) :: P.zip vs) m p = _
    unfold bindL
    rw [bindL_out fun v hv => (List.nodup_cons.mp nd).1 (List.of_mem_zip hv).1, if_pos hk]
    simp
  | p :: P, w :: vs, i + 1, m, nd, h1, h2, hk => by
    show bindL kindOf ((p, w) :: P.zip vs) m x = _
    unfold bindL
    exact bindL_get (i := i) (List.nodup_cons.mp nd).2 (by simpa using h1) (by simpa using h2) hk
theorem bindC_get {kindOf : Str → Option NameKind} {x : Str} {v : Value} : ∀ {P : List Str} {vs : List Value} {i : Nat} {m : Str → Option Value}, P.Nodup → P[i]? = some x → vs[i]? = some v → kindOf x ≠ some .local →
    bindC kindOf (P.zip vs) m x = some v
  | [], _, _, _, _, h, _, _ => by simp at h
  | _ :: _, [], _, _, _, _, h, _ => by simp at h
  | p :: P, w :: vs, 0, m, nd, h1, h2, hk => by
    simp at h1 h2; subst h1; subst h2
    show bindC kindOf ((p, w) :: P.zip vs) m p = _
    unfold bindC
    rw [bindC_out fun v hv => (List.nodup_cons.mp nd).1 (List.of_mem_zip hv).1, if_neg hk]
    simp
  | p :: P, w :: vs, i + 1, m, nd, h1, h2, hk => by
    show bindC kindOf ((p, w) :: P.zip vs) m x = _
    unfold bindC
    exact bindC_get (i := i) (List.nodup_cons.mp nd).2 (by simpa using h1) (by simpa using h2) hk

/-- the names' values at the entry -/
def start (N : List Str) (vs : List V) : St := vs.map some ++ List.replicate (N.length - vs.length) none

/-- the context of a def's body, at its entry; an exception leaves the frame, then lies as CX says -/
def cxOf (CX : CXT) (P : Program) (w : World) (K : PySem.W.Frag) (mg : Str → Option Value) (base : Heap) (N : List Str) (qual : Str) (scope : Scope) (f : Addr) (cd : Value) (A : Around) (outer : List Env) (s : Shared) (H : Hp) (E : XK) : Cx where
  prog := P
  w := w
  K := K
  mg := mg
  base := base
  A := A.deeper (envOfC qual scope s.heap.objs.size f cd)
  N := N
  s₀ := s
  H₀ := H
  env := envOfC qual scope s.heap.objs.size f cd
  outer := outer
  stack := envOfC qual scope s.heap.objs.size f cd :: outer
  ex := []
  calm := true
  fn := fun _ => true
  pn := []
  xe := fun e s' => wpAny (model P w) (A.deeper (envOfC qual scope s.heap.objs.size f cd)) (leaving (envOfC qual scope s.heap.objs.size f cd) e) (fun _ s'' => CX outer H s E e s'') (fun e' s'' => CX outer H s E e' s'') s'

theorem cell_has {sc : Scope} {n : Nat} {x : Str} (h : sc.names.lookup x = some .cell) : ∃ c, (cellsFrom n sc.names []).lookup x = some c := by
  have q := PySem.W.cellsFrom_some sc.names n [] (.inl h)
  exact Option.isSome_iff_exists.mp q

theorem inv_start {CX : CXT} {P : Program} {w : World} {K : PySem.W.Frag} {mg : Str → Option Value} {base : Heap} {N ps : List Str} {qual : Str} {scope : Scope} {f : Addr} {cd : Value} {A : Around} {outer : List Env} {s s1 : Shared} {H : Hp} {E : XK} {us : List Value} {vs : List V}
    (S : FnScope N ps scope) (hd : A.handled = none) (e0 : Env0 P w K mg base A outer s H) (hl : vs.length = ps.length) (r : Vals vs us)
    (x : InCallC s s.heap.objs.size (bindL (envOfC qual scope s.heap.objs.size f cd).kindOf (ps.zip us) fun _ => none) (cellsFrom (s.heap.objs.size + 1) scope.names []) (bindC (envOfC qual scope s.heap.objs.size f cd).kindOf (ps.zip us) fun _ => none) s1) :
    Inv (cxOf CX P w K mg base N qual scope f cd A outer s H E) [] (start N vs) H s1 := by
  have hpl : ps.length ≤ N.length := by have := congrArg List.length S.pre; rw [List.length_take] at this; omega
  obtain ⟨h1, tk, rfl, hk⟩ := x.done
  have noA : ∀ b : Addr, b ∉ (cxOf CX P w K mg base N qual scope f cd A outer s H E).ex := fun b z => absurd (show b ∈ ([] : List Addr) from z) (by simp)
  refine ⟨⟨e0.mod, S.kind, rfl, rfl, Nat.le_refl _, fun y z c h1 h2 => ?_, fun y hy => ?_, fun y c _ h => ?_, fun _ => hd, Around.frames_deeper e0.frames, .inr ⟨rfl, rfl⟩, fun b z => absurd z (noA b), e0.bs, e0.bsz, fun b _ _ => noA b, fun b z => absurd z (noA b), e0.funs, e0.frf⟩,
    rfl, e0.bare, Un.kept hk, ⟨_, x.toInCall.ns, fun i y v h1 h2 h3 => ?_⟩, fun y c h => ⟨_, x.cell y c h⟩, e0.hok.fresh (Nat.le_refl _), fun y c h => ?_, fun p hp => absurd (show p ∈ ([] : List (Addr × Obj)) from hp) (by simp), e0.hok.kept hk, ?_⟩
  · exact name_of_addr x.apart (PySem.mem_of_lookup h1) (PySem.mem_of_lookup h2)
  · have hy : scope.names.lookup y = some .cell ∨ scope.names.lookup y = some .free := hy
    rcases hy with hy | hy
    · exact cell_has hy
    · exact absurd rfl (S.nofree _ (PySem.mem_of_lookup hy))
  · exact Nat.le_of_lt (x.above y c (PySem.mem_of_lookup h))
  · have hi : i < vs.length := by
      unfold start at h2
      by_cases hi : i < vs.length
      · exact hi
      · rw [List.getElem?_append_right (by simpa using hi)] at h2
        rw [List.getElem?_replicate] at h2
        split at h2 <;> cases h2
    have ha : vs[i]? = some v := by
      unfold start at h2
      rw [List.getElem?_append_left (by simpa using hi), List.getElem?_map] at h2
      cases e : vs[i]? with
      | none => rw [e] at h2; cases h2
      | some a => rw [e] at h2; cases h2; rfl
    obtain ⟨u, hu, rv⟩ := r.get ha
    have hp : ps[i]? = some y := by
      rw [← S.pre, List.getElem?_take_of_lt (by omega)]; exact h1
    have ndP : ps.Nodup := by rw [← S.pre]; exact S.nd.sublist (List.take_sublist _ _)
    refine ⟨u, rv, ?_⟩
    rcases S.par y (List.mem_of_getElem? hp) with k | k
    · exact .inl ⟨k, bindL_get ndP hp hu k⟩
    · obtain ⟨c, e⟩ := cell_has (n := s.heap.objs.size + 1) k
      refine .inr ⟨.inl k, c, e, ?_⟩
      have q := x.cell y c e
      rw [bindC_get ndP hp hu (by show scope.names.lookup y ≠ _; rw [k]; decide)] at q
      exact q
  · exact e0.hok.fresh (Nat.le_of_lt (x.above y c (PySem.mem_of_lookup h)))
  · unfold start
    show _ = N.length
    rw [List.length_append, List.length_map, List.length_replicate]
    omega

/-- THE RULE: a def (or a method) of the text, by its body. The body's reading t is chosen for each entry; it is run at the parameters' values -/
theorem fn_of {CX : CXT} {P : Program} {w : World} {K : PySem.W.Frag} {mg : Str → Option Value} {base : Heap} {k : Nat} {f : Addr} {name qual : Str} {params : Arguments} {body : List Stmt} {scope : Scope} {dV kV doc pm cdv ct oc : Value} {an od : Option Addr}
    {osl : Array (Option Value)} {N ps : List Str} {sp : Sp} (lk : K.lookup f = some ⟨oc, od, .func (PySem.W.fnOf name qual params body scope dV kV doc pm an cdv ct), osl⟩) (hcd : PySem.W.codeIn K cdv qual = true) (S : FnScope N ps scope)
    (len : ∀ vs H Q E, sp vs H Q E → vs.length = ps.length)
    (hbody : ∀ (A : Around) (outer : List Env) (s : Shared) (H : Hp) (vs : List V) (Q : VK) (E : XK), Room k (A.deeper (envOfC qual scope s.heap.objs.size f cdv)) → sp vs H Q E →
      ∃ t, PSs (cxOf CX P w K mg base N qual scope f cdv A outer s H E) body t ∧ t { nx := fun _ H' => Q .non H', rt := Q } (start N vs) H) :
    FnOk P w K mg base CX (k + 1) f (PySem.W.fnOf name qual params body scope dV kV doc pm an cdv ct) ps sp := by
  refine ⟨len, fun A outer s H args us vs Q E hr e0 hb r hsp => ?_⟩
  have hl := len _ _ _ _ hsp
  have KX : K.In s.heap := e0.mod.kin.keeps fun b o e => (e0.bs b o e).1
  have lim : s.heap.NoLimit := e0.mod.nolimit.keeps fun b o e => (e0.bs b o e).1
  have hkind : ∀ y ∈ ps.zip us, scope.names.lookup y.1 = some .local ∨ (scope.names.lookup y.1 = some .cell ∧ ((cellsFrom (s.heap.objs.size + 1) scope.names []).lookup y.1).isSome = true) := fun ⟨n, v⟩ hy => by
    rcases S.par n (List.of_mem_zip hy).1 with q | q
    · exact .inl q
    · exact .inr ⟨q, PySem.W.cellsFrom_some _ _ _ (.inl q)⟩
  refine codeAny_call_function hr.depth (KX _ _ lk) rfl S.co S.gen rfl (PySem.W.codeRec_of KX hcd) (hb _ _ _ _ ?_)
  refine wpAny_newFunctionEnv_cells S.kind hkind fun env he s1 x => ?_
  subst he
  refine ⟨lim.keeps x.toInCall.keep, codeAny_func ?_⟩
  obtain ⟨t, ht, hq⟩ := hbody A outer s H vs Q E (hr.deeper _) hsp
  have I : Inv (cxOf CX P w K mg base N qual scope f cdv A outer s H E) [] (start N vs) H s1 := inv_start S hr.hd e0 hl r x
  refine wpAny_mono (ht [] s1 (start N vs) H _ I hq) (fun fl s' hs => ?_) fun e s' hs => hs
  have fin : ∀ {σ' : St} {H' : Hp} {v : V} {u : Value}, Inv (cxOf CX P w K mg base N qual scope f cdv A outer s H E) [] σ' H' s' → RelV v u → Q v H' → CE outer P w H s Q u s' :=
    fun {σ' H' v u} J rv q => ⟨v, H', J.os, J.bare, J.base, J.hok, rv, q⟩
  cases fl with
  | ret u =>
    obtain ⟨v, σ', H', J, rv, q⟩ := hs
    exact fin J rv q
  | next =>
    obtain ⟨σ', H', J, q⟩ := hs
    exact fin (v := V.non) (u := Value.none) J rfl q
  | brk =>
    obtain ⟨_, _, _, q⟩ := hs
    exact False.elim q
  | cont =>
    obtain ⟨_, _, _, q⟩ := hs
    exact False.elim q
end L2

namespace L2
open PySem PySem.Spec PyProof.Rows
section
variable {X : Cx} {x : Str} {p pos : Pos} {e : Expr} {es : List Expr} {t : TA} {id T : String} {r : List V → Hp → VK → Prop}

def tCB (r : List V → Hp → VK → Prop) (t : TA) : TE := fun σ H Q => t σ H fun vs H1 => r vs H1 Q
/-- f(e, ..), f a built-in function -/
theorem pe_callB (hc : CallR X (.builtin id) r) (hg : Gl X x) (hm : X.mg x = none) (hv : bootBuiltins x = some (.builtin id)) (ha : PA X (e :: es) t) (hn : x ≠ "__name__" := by decide) (hdb : (x == ("__debug__" : Str)) = false := by decide)
    (he : starEach (e :: es) X.env = (false, eval e X.env) :: starEach es X.env := by rfl) (hpl : (backTo pos (starEach es X.env)).any (·.1) = false := by rfl) : PE X (.Call (.Name x p) (e :: es) [] pos) (tCB r t) := by
  intro pins s σ H Q I h
  refine wpAny_Call_Name_kw (ld_blt I hg hm hv ?_ hn hdb)
  exact PyProof.Rows.callWith_builtin1 (thn (ha pos pins s σ H _ I h) fun us s1 ⟨vs, H1, I1, r1, q1⟩ => hc pins s1 σ H1 vs us Q I1 r1 q1) he hpl
/-- T(e, ..), T a built-in type -/
theorem pe_callTy (hc : CallR X (.type T) r) (hg : Gl X x) (hm : X.mg x = none) (hv : bootBuiltins x = some (.type T)) (ha : PA X (e :: es) t) (hn : x ≠ "__name__" := by decide) (hdb : (x == ("__debug__" : Str)) = false := by decide)
    (he : starEach (e :: es) X.env = (false, eval e X.env) :: starEach es X.env := by rfl) (hpl : (backTo pos (starEach es X.env)).any (·.1) = false := by rfl) : PE X (.Call (.Name x p) (e :: es) [] pos) (tCB r t) := by
  intro pins s σ H Q I h
  refine wpAny_Call_Name_kw (ld_blt I hg hm hv ?_ hn hdb)
  exact PyProof.Rows.callWith_type1 (thn (ha pos pins s σ H _ I h) fun us s1 ⟨vs, H1, I1, r1, q1⟩ => hc pins s1 σ H1 vs us Q I1 r1 q1) he hpl
end
end L2

namespace HT
open PySem PyProof.Rows

section
open PySem.SeqAt
open PySem.AutoSeq1 (wpAny_loadPart')
open PySem.MeetsSeq PySem.MeetsSeq2 PySem.MeetsSeq3

end

section
variable {prog : Program} {w : World} {A : Around} {E : Value → Shared → Prop} {s : Shared}

/-! ### t[a:b], not the whole -/
/-- a slice's bound as a place among n (d where it is left out) -/
def sIx (n d : Nat) : Option Int → Nat
  | none => d
  | some v => if v < 0 then (v + (n : Int)).toNat else min v.toNat n
theorem sIx_none (n d : Nat) : sIx n d none = d := rfl
theorem sIx_nat (n d k : Nat) : sIx n d (some (k : Int)) = min k n := by
  show (if (k : Int) < 0 then ((k : Int) + (n : Int)).toNat else min (k : Int).toNat n) = min k n
  rw [if_neg (by omega), Int.toNat_natCast]
theorem sIx_le (n d : Nat) (hd : d ≤ n) (o : Option Int) : sIx n d o ≤ n := by
  cases o with
  | none => exact hd
  | some v =>
    show (if v < 0 then (v + (n : Int)).toNat else min v.toNat n) ≤ n
    by_cases hv : v < 0
    · rw [if_pos hv]; omega
    · rw [if_neg hv]; exact Nat.min_le_right _ _
theorem clip_eq (v : Int) (n d : Nat) : (if v < 0 then max (v + (n : Int)) 0 else min v (n : Int)) = ((sIx n d (some v) : Nat) : Int) := by
  show (if v < 0 then max (v + (n : Int)) 0 else min v (n : Int)) = (((if v < 0 then (v + (n : Int)).toNat else min v.toNat n) : Nat) : Int)
  by_cases hv : v < 0
  · simp only [if_pos hv]; omega
  · simp only [if_neg hv]; omega
theorem adjust_gen (lo hi : Option Int) (n : Nat) : Builtin.Slice.sliceAdjust lo hi 1 (n : Int) = (((sIx n 0 lo : Nat) : Int), ((sIx n n hi : Nat) : Int)) := by
  have h1 : ¬ ((1 : Int) < 0) := by omega
  unfold Builtin.Slice.sliceAdjust
  simp only [h1, if_false]
  refine Prod.ext ?_ ?_
  · cases lo with
    | none => rfl
    | some v => exact clip_eq v n 0
  · cases hi with
    | none => rfl
    | some v => exact clip_eq v n n
theorem places_gen (i j : Nat) : Builtin.Slice.slicePlaces (i : Int) (j : Int) 1 = j - i := by
  unfold Builtin.Slice.slicePlaces
  have h1 : (1 : Int) > 0 := by omega
  simp only [h1, if_true, Int.ediv_one]
  split <;> omega
theorem slicePart_ {v : Value} {o : Option Int} {Q : Option Int → Shared → Prop} (p : IsPart v o) (h : Q o s) : wpAny (model prog w) A (Builtin.Slice.slicePartIndex v) Q E s := by
  cases p with
  | none => exact slicePart_none h
  | int i t => exact slicePart_int h
theorem sliceApplied_gen {sl : Addr} {vl vu : Value} {lo hi : Option Int} {n : Nat} {Q : Int × Int × Nat → Shared → Prop} (hs : s.heap.IsSliceOf sl vl vu .none) (pl : IsPart vl lo) (pu : IsPart vu hi)
    (h : Q (((sIx n 0 lo : Nat) : Int), 1, sIx n n hi - sIx n 0 lo) s) : wpAny (model prog w) A (Builtin.Slice.sliceApplied (.ref sl) (pure (n : Int))) Q E s := by
  obtain ⟨os, hos, hcs, hds⟩ := id hs
  unfold Builtin.Slice.sliceApplied Builtin.Slice.sliceFields
  refine wpAny_bind (wpAny_bind (wpAny_field hos hds (x := vl) rfl (wpAny_bind (wpAny_field hos hds (x := vu) rfl (wpAny_bind (wpAny_field hos hds (x := .none) rfl (wpAny_pure ?_)))))))
  refine wpAny_bind (slicePart_none ?_)
  show wpAny _ _ (if ((1 : Int) == 0) = true then _ else _) _ _ s
  rw [if_neg (by decide)]
  refine wpAny_bind (slicePart_ pl (wpAny_bind (slicePart_ pu (wpAny_bind (wpAny_pure ?_)))))
  show wpAny _ _ (match Builtin.Slice.sliceAdjust lo hi 1 (n : Int) with | (lo, hi) => pure (lo, (1 : Int), Builtin.Slice.slicePlaces lo hi 1)) _ _ s
  rw [adjust_gen lo hi n]
  show wpAny _ _ (pure (((sIx n 0 lo : Nat) : Int), (1 : Int), Builtin.Slice.slicePlaces ((sIx n 0 lo : Nat) : Int) ((sIx n n hi : Nat) : Int) 1)) _ _ s
  rw [places_gen]
  exact wpAny_pure h
theorem pick_gen (xs : Array Value) (i k : Nat) : ((List.range k).filterMap fun (m : Nat) => xs[((i : Int) + (m : Int) * 1).toNat]?).toArray = ((xs.toList.drop i).take k).toArray := by
  have e : (fun (m : Nat) => xs[((i : Int) + (m : Int) * 1).toNat]?) = fun m => xs[i + m]? := by
    funext m
    have : ((i : Int) + (m : Int) * 1).toNat = i + m := by omega
    rw [this]
  rw [e]
  have := pick_run xs i k
  rw [List.filterMap_map] at this
  have e2 : ((fun x => xs[x]?) ∘ fun x => i + x) = fun m => xs[i + m]? := rfl
  rw [e2] at this
  rw [this]

theorem getItem_tuple_cut {t sl : Addr} {items : Array Value} {vl vu : Value} {lo hi : Option Int} {Q : Value → Shared → Prop} (ht : IsTup s.heap t items) (hs : s.heap.IsSliceOf sl vl vu .none) (pl : IsPart vl lo) (pu : IsPart vu hi)
    (hw : ¬ (sIx items.size 0 lo = 0 ∧ sIx items.size items.size hi = items.size))
    (h : Q (.ref s.heap.objs.size) { s with heap := s.heap.push { cls := .type "tuple", data := .seq ((items.toList.drop (sIx items.size 0 lo)).take (sIx items.size items.size hi - sIx items.size 0 lo)).toArray } })
    (hsz : items.size ≤ sizeLine) : wpAny (model prog w) A (getItem (.ref t) (.ref sl)) Q E s := by
  have htake : sizeOk (.seq ((items.toList.drop (sIx items.size 0 lo)).take (sIx items.size items.size hi - sIx items.size 0 lo)).toArray) := by
    show ((items.toList.drop (sIx items.size 0 lo)).take (sIx items.size items.size hi - sIx items.size 0 lo)).toArray.size ≤ sizeLine
    rw [List.size_toArray, List.length_take, List.length_drop, Array.length_toList]
    omega
  have hj : sIx items.size items.size hi ≤ items.size := sIx_le _ _ (Nat.le_refl _) hi
  obtain ⟨os, hos, hcs, hds⟩ := id hs
  have hTs : s.TypeIs (.ref sl) "slice" := ⟨os, hos, hcs⟩
  unfold getItem
  try with_reducible refine wpAny_holding ?_
  first | refine wpAny_bind (wpAny_pure ?_) | skip
  refine wpAny_bind (wpAny_sequenceKey ht.typeIs (by decide) ?_)
  refine wpAny_bind (wpAny_callSpecial?_slot (name := Str.ofString "__getitem__") ht.typeIs PyProof.Rows.slot_tuple_getitem
    (wpAny_call_entry PyProof.Rows.slot_tuple_getitem ht.typeIs entry_tuple_getitem ?_ (args_tuple_getitem _ _)))
  show wpAny _ _ (Builtin.Tuple.tupleItemsOf (.ref t) >>= _) _ _ s
  refine wpAny_bind (tupleItemsOf_ ht ?_)
  refine wpAny_bind (wpAny_typeOf hTs ?_)
  rw [if_pos (by decide)]
  refine wpAny_bind (sliceApplied_gen hs pl pu ?_)
  have hno : ¬ ((((sIx items.size 0 lo : Nat) : Int) == 0 && (1 : Int) == 1 && (sIx items.size items.size hi - sIx items.size 0 lo) == items.size) = true) := by
    intro q
    rw [Bool.and_eq_true, Bool.and_eq_true] at q
    have q1 : ((sIx items.size 0 lo : Nat) : Int) = 0 := eq_of_beq q.1.1
    have q2 : sIx items.size items.size hi - sIx items.size 0 lo = items.size := eq_of_beq q.2
    exact hw ⟨by omega, by omega⟩
  show wpAny _ _ (if (((sIx items.size 0 lo : Nat) : Int) == 0 && (1 : Int) == 1 && (sIx items.size items.size hi - sIx items.size 0 lo) == items.size) = true then _ else _) _ _ s
  rw [if_neg hno, pick_gen]
  first
    | exact wpAny_bind (m := Builtin.Tuple.tupleExact _) (wpAny_newObj_type (wpAny_pure ⟨_, rfl, wpAny_pure h⟩) htake)
    | exact wpAny_bind (m := Builtin.Tuple.tupleExact _) (wpAny_newObj_type (wpAny_bind (wpAny_pure (wpAny_pure ⟨_, rfl, wpAny_pure h⟩))) htake)
    | exact wpAny_bind (wpAny_bind (m := Builtin.Tuple.tupleExact _) (wpAny_newObj_type (wpAny_pure (wpAny_pure ⟨_, rfl, wpAny_pure h⟩)) htake))
    | exact wpAny_bind (wpAny_bind (m := Builtin.Tuple.tupleExact _) (wpAny_newObj_type (wpAny_pure ⟨_, rfl, wpAny_pure h⟩) htake))
end
end HT

namespace L2
open PySem PySem.Spec PyProof.Rows

/-! ### the parts of a slice -/
abbrev TO := St → Hp → (Option Int → Hp → Prop) → Prop
/-- a slice's part (left out, or an int) -/
def PO (X : Cx) (e : Option Expr) (t : TO) : Prop :=
  ∀ (pins : List (Addr × Obj)) (s : Shared) (σ : St) (H : Hp) (Q : Option Int → Hp → Prop), Inv X pins σ H s → t σ H Q →
    wpAny (model X.prog X.w) X.A (evalPart e X.env) (fun u s' => ∃ o H', Inv X pins σ H' s' ∧ IsPart u o ∧ Q o H') X.xe s
def tNoPart : TO := fun _ H Q => Q none H
def tPart (t : TE) : TO := fun σ H Q => t σ H fun x H1 => ∃ i, x = .int i ∧ Q (some i) H1

theorem intsAre_of {ns : List Int} : ∀ {us : List Value}, Vals (ns.map V.int) us → IntsAre us ns := by
  induction ns with
  | nil => intro us r; rw [List.map_nil] at r; cases r; exact .nil
  | cons n ns ih =>
    intro us r
    rw [List.map_cons] at r
    cases r with
    | cons r1 r2 =>
      obtain ⟨t, e⟩ := r1
      subst e
      exact .cons n t (ih r2)

section
variable {X : Cx} {e : Expr} {te : TE} {lo hi : Option Expr} {tl th : TO} {pos p2 : Pos}

theorem po_none : PO X none tNoPart := by
  intro pins s σ H Q I h
  rw [evalPart_none]
  exact wpAny_pure ⟨none, H, I, .none, h⟩
theorem po_some (h : PE X e te) : PO X (some e) (tPart te) := by
  intro pins s σ H Q I hw
  rw [evalPart_some]
  refine thn (h pins s σ H _ I hw) fun u s1 ⟨x, H1, I1, r1, q1⟩ => ?_
  obtain ⟨i, rfl, q⟩ := q1
  obtain ⟨t, rfl⟩ := r1
  exact ⟨some i, H1, I1, .int i t, q⟩

/-- what a slice of a value is, by values: the slice object stands at sl -/
def SlR (X : Cx) (r : V → Option Int → Option Int → Hp → VK → Prop) : Prop :=
  ∀ (pins : List (Addr × Obj)) (s : Shared) (σ : St) (H : Hp) (x : V) (v vl vu : Value) (lo hi : Option Int) (sl : Addr) (Q : VK), Inv X pins σ H s → RelV x v → s.heap.IsSliceOf sl vl vu .none → IsPart vl lo → IsPart vu hi → r x lo hi H Q →
    ∃ T id, typeLookup (.type T) "__getitem__" = pure (some (.builtin id)) ∧ s.TypeIs v T ∧ wpAny (model X.prog X.w) X.A (getItem v (.ref sl)) (EP X pins σ Q) X.xe s
theorem SlR.or {r r' : V → Option Int → Option Int → Hp → VK → Prop} (h : SlR X r) (h' : SlR X r') : SlR X (fun x lo hi H Q => r x lo hi H Q ∨ r' x lo hi H Q) := by
  intro pins s σ H x v vl vu lo hi sl Q I rx hs pl pu q
  rcases q with q | q
  · exact h pins s σ H x v vl vu lo hi sl Q I rx hs pl pu q
  · exact h' pins s σ H x v vl vu lo hi sl Q I rx hs pl pu q
def tSl (r : V → Option Int → Option Int → Hp → VK → Prop) (te : TE) (tl th : TO) : TE := fun σ H Q => te σ H fun x H1 => tl σ H1 fun l H2 => th σ H2 fun u H3 => r x l u H3 Q
/-- a[lo:hi], any a -/
theorem pe_slice {r : V → Option Int → Option Int → Hp → VK → Prop} (hr : SlR X r) (he : PE X e te) (hl : PO X lo tl) (hu : PO X hi th) : PE X (.Subscript e (.Slice lo hi none p2) pos) (tSl r te tl th) := by
  intro pins s σ H Q I h
  refine Subscript_ (thn (he pins s σ H _ I h) fun v s1 ⟨x, H1, I1, r1, q1⟩ => ?_)
  refine wpAny_Slice (thn (hl pins s1 σ H1 _ I1 q1) fun vl s2 ⟨l, H2, I2, pl, q2⟩ => thn (hu pins s2 σ H2 _ I2 q2) fun vu s3 ⟨u, H3, I3, pu, q3⟩ => ?_)
  rw [evalPart_none]
  refine wpAny_pure ?_
  have I4 : Inv X pins σ H3 { s3 with heap := s3.heap.push { cls := .type "slice", data := .fields #[vl, vu, .none] } } := I3.kept (t' := s3.toks) fun b ob q => Heap.get?_push_of_some _ q
  obtain ⟨T, id, hT, ht, hg⟩ := hr pins { s3 with heap := s3.heap.push { cls := .type "slice", data := .fields #[vl, vu, .none] } } σ H3 x v vl vu l u s3.heap.objs.size Q I4 r1 (Heap.IsSliceOf.new ..) pl pu q3
  show wpAny (model X.prog X.w) X.A (subscriptTail e (.Slice lo hi none p2) v (.ref s3.heap.objs.size)) (EP X pins σ Q) X.xe { s3 with heap := s3.heap.push { cls := .type "slice", data := .fields #[vl, vu, .none] } }
  exact tail_any (ops := [.ref s3.heap.objs.size, v]) ht hT hg (by with_unfolding_all rfl)

/-- the items of xs[lo:hi] -/
def cutV (xs : List V) (lo hi : Option Int) : List V := (xs.drop (HT.sIx xs.length 0 lo)).take (HT.sIx xs.length xs.length hi - HT.sIx xs.length 0 lo)
theorem cutV_length (xs : List V) (lo hi : Option Int) : (cutV xs lo hi).length ≤ xs.length := by
  unfold cutV
  rw [List.length_take, List.length_drop]
  omega
/-- t[lo:hi], not the whole of it (the whole would be t itself) -/
def rSlT (K : PySem.W.Frag) : V → Option Int → Option Int → Hp → VK → Prop := fun x lo hi H Q => ∃ a xs, x = .ref a ∧ SqT K H a xs ∧
  ¬ (HT.sIx xs.length 0 lo = 0 ∧ HT.sIx xs.length xs.length hi = xs.length) ∧ ∀ p, H p = none → Q (.ref p) (upd H p (.tup (cutV xs lo hi)))
theorem sl_tup : SlR X (rSlT X.K) := by
  intro pins s σ H x v vl vu lo hi sl Q I rx hs pl pu h
  obtain ⟨a, xs, rfl, hx, hw, q⟩ := h
  cases rx
  obtain ⟨its, r, ht, hz⟩ := I.tuple hx
  have hlen : its.toArray.size = xs.length := by rw [List.size_toArray]; exact r.length.symm
  refine ⟨"tuple", _, PyProof.Rows.slot_tuple_getitem.lookup, ht.typeIs, ?_⟩
  refine HT.getItem_tuple_cut ht hs pl pu (by rw [hlen]; exact hw) ?_ (by rw [hlen]; exact hz)
  rw [hlen]
  refine ⟨.ref s.heap.objs.size, _, I.laid (t' := s.toks) (o := .tup (cutV xs lo hi)) (fun b ob q => Heap.get?_push_of_some _ q) (Nat.le_refl _) ?_, rfl, q _ (I.hok.fresh (Nat.le_refl _))⟩
  exact ⟨Nat.le_trans (cutV_length xs lo hi) hz, _, (r.drop (HT.sIx xs.length 0 lo)).take (HT.sIx xs.length xs.length hi - HT.sIx xs.length 0 lo), IsTup.new _ _⟩

/-! ### t < u, t + u -/
end
end L2

namespace L2
open PySem PySem.Spec PyProof.Rows

/-! ### places -/
/-- the place that an index of any sign means -/
def ixN (n : Nat) (i : Int) : Option Nat := if 0 ≤ i then (if i < n then some i.toNat else none) else if -(n : Int) ≤ i then some (i + n).toNat else none
def atI {α : Type} (xs : List α) (i : Int) : Option α := (ixN xs.length i).bind fun j => xs[j]?
theorem ixN_seq {n : Nat} {i : Int} {j : Nat} (h : ixN n i = some j) : seqIndex? i n = some j ∧ j < n ∧ -(n : Int) ≤ i ∧ i < n := by
  unfold ixN at h
  by_cases h0 : 0 ≤ i
  · rw [if_pos h0] at h
    by_cases h1 : i < n
    · rw [if_pos h1] at h
      have e : i.toNat = j := Option.some.inj h
      exact ⟨by rw [seqIndex_of h0 h1, e], by omega, by omega, h1⟩
    · rw [if_neg h1] at h; cases h
  · rw [if_neg h0] at h
    by_cases h1 : -(n : Int) ≤ i
    · rw [if_pos h1] at h
      have e : (i + n).toNat = j := Option.some.inj h
      exact ⟨by rw [seqIndex_neg (by omega) h1, e], by omega, h1, by omega⟩
    · rw [if_neg h1] at h; cases h
theorem atI_get {α : Type} {xs : List α} {i : Int} {v : α} (h : atI xs i = some v) : ∃ j, seqIndex? i xs.length = some j ∧ xs[j]? = some v ∧ j < xs.length ∧ -(xs.length : Int) ≤ i ∧ i < xs.length := by
  unfold atI at h
  cases e : ixN xs.length i with
  | none => rw [e] at h; cases h
  | some j =>
    rw [e] at h
    obtain ⟨h1, h2, h3, h4⟩ := ixN_seq e
    exact ⟨j, h1, h, h2, h3, h4⟩
theorem atI_nat {α : Type} {xs : List α} {j : Nat} {v : α} (h : xs[j]? = some v) : atI xs (j : Int) = some v := by
  have hj : j < xs.length := (List.getElem?_eq_some_iff.mp h).1
  have e : ixN xs.length (j : Int) = some j := by
    unfold ixN
    rw [if_pos (by omega), if_pos (by omega)]; simp
  unfold atI; rw [e]; exact h
theorem atI_last {α : Type} (xs : List α) (v : α) : atI (xs ++ [v]) (-1) = some v := by
  have hl : (xs ++ [v]).length = xs.length + 1 := by simp
  have e : ixN (xs ++ [v]).length (-1) = some xs.length := by
    unfold ixN
    rw [hl, if_neg (by decide), if_pos (by omega)]
    congr 1
    omega
  unfold atI
  rw [e]
  show (xs ++ [v])[xs.length]? = some v
  simp

/-! ### what may be subscripted -/
/-- what stands as an index of a plain subscript -/
def PlainIx (b : Expr) : Prop := ∀ o i, subscripted b false o i = operate [o, i] (getItem o i)
/-- a subscript by values -/
def IxR (X : Cx) (r : R2) : Prop :=
  ∀ (value slice : Expr) (pins : List (Addr × Obj)) (s : Shared) (σ : St) (H : Hp) (x y : V) (v u : Value) (Q : VK), Inv X pins σ H s → RelV x v → RelV y u → r x y H Q →
    subscripted slice false v u = operate [v, u] (getItem v u) → wpAny (model X.prog X.w) X.A (subscriptTail value slice v u) (EP X pins σ Q) X.xe s
/-- a call of a builtin's method by values: the receiver, the arguments -/
def MtR (X : Cx) (id : String) (r : V → List V → Hp → VK → Prop) : Prop :=
  ∀ (pins : List (Addr × Obj)) (s : Shared) (σ : St) (H : Hp) (x : V) (xs : List V) (v : Value) (us : List Value) (Q : VK), Inv X pins σ H s → RelV x v → Vals xs us → r x xs H Q →
    wpAny (model X.prog X.w) X.A (call (.builtin id) (v :: us)) (EP X pins σ Q) X.xe s
section
variable {X : Cx} {a b : Expr} {ta tb : TE} {pos : Pos}
theorem IxR.or {r r' : R2} (h : IxR X r) (h' : IxR X r') : IxR X (fun x y H Q => r x y H Q ∨ r' x y H Q) := by
  intro value slice pins s σ H x y v u Q I rx ry q hs
  rcases q with q | q
  · exact h value slice pins s σ H x y v u Q I rx ry q hs
  · exact h' value slice pins s σ H x y v u Q I rx ry q hs
theorem MtR.or {id : String} {r r' : V → List V → Hp → VK → Prop} (h : MtR X id r) (h' : MtR X id r') : MtR X id (fun x xs H Q => r x xs H Q ∨ r' x xs H Q) := by
  intro pins s σ H x xs v us Q I rx rs q
  rcases q with q | q
  · exact h pins s σ H x xs v us Q I rx rs q
  · exact h' pins s σ H x xs v us Q I rx rs q
/-- a[b] -/
theorem pe_ix {r : R2} (hr : IxR X r) (ha : PE X a ta) (hb : PE X b tb) (hs : PlainIx b) : PE X (.Subscript a b pos) (tOp r ta tb) := by
  intro pins s σ H Q I h
  exact Subscript_ (binT ha hb I h fun v u s2 x y H2 I2 rx ry q => hr a b pins s2 σ H2 x y v u Q I2 rx ry q (hs _ _))

def rIxL (K : PySem.W.Frag) : R2 := fun x y H Q => ∃ p xs i v, x = .ref p ∧ y = .int i ∧ SqL K H p xs ∧ atI xs i = some v ∧ Q v H
def rIxT (K : PySem.W.Frag) : R2 := fun x y H Q => ∃ p xs i v, x = .ref p ∧ y = .int i ∧ SqT K H p xs ∧ atI xs i = some v ∧ Q v H
def rIxS : R2 := fun x y H Q => ∃ z i c, x = .str z ∧ y = .int i ∧ z.length ≤ sizeLine ∧ atI z.cps.toList i = some c ∧ Q (.str ⟨#[c]⟩) H
theorem ix_list : IxR X (rIxL X.K) := by
  intro value slice pins s σ H x y v u Q I rx ry h hs
  obtain ⟨p, xs, i, z, rfl, rfl, hq, he, q⟩ := h
  cases rx
  obtain ⟨t, rfl⟩ := ry
  obtain ⟨its, r, pl, hz⟩ := I.list hq
  obtain ⟨j, h1, h2, h3, h4, h5⟩ := atI_get he
  obtain ⟨w, ew, rw'⟩ := r.get h2
  have hl := r.length
  have hn := line63
  have fin : EP X pins σ Q w s := ⟨z, H, I, rw', q⟩
  by_cases h0 : 0 ≤ i
  · have hj : i.toNat = j := by
      rw [seqIndex_of h0 h5] at h1
      exact Option.some.inj h1
    exact item_listR pl.isList h0 (by omega) (by rw [hj]; simpa using ew) fin hs
  · have hj : (i + (its.toArray.size : Int)).toNat = j := by
      rw [seqIndex_neg (by omega) h4] at h1
      rw [List.size_toArray, ← hl]
      exact Option.some.inj h1
    exact subscriptTail_builtinR (x := w) pl.isList.typeIs slot_list_getitem.lookup
      (wpAny_getItem_list_neg (Q := fun r s' => r = w ∧ EP X pins σ Q r s') pl.isList (by omega) (by rw [List.size_toArray] <;> omega) (by omega) (by rw [hj]; simpa using ew) ⟨rfl, fin⟩) hs
theorem ix_tup : IxR X (rIxT X.K) := by
  intro value slice pins s σ H x y v u Q I rx ry h hs
  obtain ⟨p, xs, i, z, rfl, rfl, hq, he, q⟩ := h
  cases rx
  obtain ⟨t, rfl⟩ := ry
  obtain ⟨its, r, pl, hz⟩ := I.tuple hq
  obtain ⟨j, h1, h2, h3, h4, h5⟩ := atI_get he
  obtain ⟨w, ew, rw'⟩ := r.get h2
  have hl := r.length
  have hn := line63
  have fin : EP X pins σ Q w s := ⟨z, H, I, rw', q⟩
  exact subscriptTail_builtinR (x := w) pl.typeIs slot_tuple_getitem.lookup
    (getItem_tuple (j := j) (Q := fun r s' => r = w ∧ EP X pins σ Q r s') pl (by omega) (by omega) (by rw [List.size_toArray, ← hl]; exact h1) (by simpa using ew) ⟨rfl, fin⟩) hs
/-! ### xs[i] = v, any sign -/
theorem Inv.lst {pins : List (Addr × Obj)} {σ : St} {H : Hp} {s : Shared} {p : Addr} {xs : List V} (I : Inv X pins σ H s) (h : H p = some (.lst xs)) :
    ∃ (its : List Value) (n : Nat), Vals xs its ∧ s.heap.get? p = some { cls := .type "list", data := .seq its.toArray n } ∧ xs.length ≤ sizeLine := by
  obtain ⟨z, its, n, r, e⟩ := I.hok p _ h
  exact ⟨its, n, r, e, z⟩
def rSetL : V → V → V → Hp → (Hp → Prop) → Prop := fun o i v H Q => ∃ p xs k j, o = .ref p ∧ i = .int k ∧ H p = some (.lst xs) ∧ ixN xs.length k = some j ∧ Q (upd H p (.lst (xs.set j v)))
/-! ### slices -/
theorem slice_bounds (lo hi : Option Int) (n : Nat) : (sliceBounds lo hi none n).1 = ((HT.sIx n 0 lo : Nat) : Int) ∧ (sliceBounds lo hi none n).2.1 = ((HT.sIx n n hi : Nat) : Int) ∧ (sliceBounds lo hi none n).2.2 = 1 := by
  refine ⟨?_, ?_, rfl⟩
  · cases lo with
    | none => simp [sliceBounds, HT.sIx]
    | some i =>
      simp only [sliceBounds, HT.sIx, Option.getD_none, show (1 : Int) > 0 by decide, if_true]
      by_cases h : i < 0
      · simp only [h, if_true] <;> omega
      · simp only [h, if_false] <;> omega
  · cases hi with
    | none => simp [sliceBounds, HT.sIx]
    | some i =>
      simp only [sliceBounds, HT.sIx, Option.getD_none, show (1 : Int) > 0 by decide, if_true]
      by_cases h : i < 0
      · simp only [h, if_true] <;> omega
      · simp only [h, if_false] <;> omega
theorem slicePick_cut (its : List Value) (lo hi : Option Int) : slicePick its.toArray lo hi none = ((its.drop (HT.sIx its.length 0 lo)).take (HT.sIx its.length its.length hi - HT.sIx its.length 0 lo)).toArray := by
  obtain ⟨h1, h2, h3⟩ := slice_bounds lo hi its.toArray.size
  unfold slicePick
  rw [h1, h2, h3]
  simp only [sliceRange_one, pick_run, List.size_toArray] <;> rfl
/-- xs[lo:hi] of a list: a new list -/
def rSlL (K : PySem.W.Frag) : V → Option Int → Option Int → Hp → VK → Prop := fun x lo hi H Q => ∃ a xs, x = .ref a ∧ SqL K H a xs ∧ ∀ p, H p = none → Q (.ref p) (upd H p (.lst (cutV xs lo hi)))
theorem sl_list : SlR X (rSlL X.K) := by
  intro pins s σ H x v vl vu lo hi sl Q I rx hs pl pu h
  obtain ⟨a, xs, rfl, hx, q⟩ := h
  cases rx
  obtain ⟨its, r, ht, hz⟩ := I.list hx
  have hlen := r.length
  refine ⟨"list", _, slot_list_getitem.lookup, ht.isList.typeIs, ?_⟩
  refine wpAny_getItem_list_slice ht.isList hs pl pu .none (by simp) ?_ (by rw [List.size_toArray] <;> omega)
  rw [slicePick_cut, ← hlen]
  refine ⟨.ref s.heap.objs.size, _, I.laid (t' := s.toks) (o := .lst (cutV xs lo hi)) (fun b ob q => Heap.get?_push_of_some _ q) (Nat.le_refl _) ?_, rfl, q _ (I.hok.fresh (Nat.le_refl _))⟩
  exact ⟨Nat.le_trans (cutV_length xs lo hi) hz, _, 0, (r.drop (HT.sIx xs.length 0 lo)).take (HT.sIx xs.length xs.length hi - HT.sIx xs.length 0 lo), Heap.get?_push_size _ rfl⟩

/-! ### in, not in: flat items -/
def flatV : V → Bool
  | .non => true
  | .bl _ => true
  | .int _ => true
  | .str _ => true
  | _ => false
/-- == of flat values -/
def eqV : V → V → Bool
  | .non, .non => true
  | .bl a, .bl b => a == b
  | .bl a, .int b => (if a then 1 else 0) == b
  | .int a, .bl b => a == (if b then 1 else 0)
  | .int a, .int b => a == b
  | .str a, .str b => a == b
  | _, _ => false
theorem eqAt_V {A : Around} {s : Shared} {y x : V} {u v : Value} (ry : RelV y u) (rx : RelV x v) (fy : flatV y = true) (fx : flatV x = true) : SeqAt.EqAt A s u v (eqV y x) := by
  cases y with
  | non =>
    cases ry
    cases x with
    | non => cases rx; exact SeqAt.EqAt.same _
    | bl b => cases rx; exact SeqAt.EqAt.none_bool b
    | int b => obtain ⟨t, rfl⟩ := rx; exact SeqAt.EqAt.none_int b t
    | str b => obtain ⟨t, rfl⟩ := rx; exact SeqAt.EqAt.none_str b t
    | _ => exact absurd (show false = true from fx) Bool.false_ne_true
  | bl a =>
    cases ry
    cases x with
    | non => cases rx; exact SeqAt.EqAt.bool_none a
    | bl b => cases rx; exact SeqAt.EqAt.bool_bool a b
    | int b => obtain ⟨t, rfl⟩ := rx; exact SeqAt.EqAt.bool_int a b t
    | str b => obtain ⟨t, rfl⟩ := rx; exact SeqAt.EqAt.bool_str a b t
    | _ => exact absurd (show false = true from fx) Bool.false_ne_true
  | int a =>
    obtain ⟨t', rfl⟩ := ry
    cases x with
    | non => cases rx; exact SeqAt.EqAt.int_none a t'
    | bl b => cases rx; exact SeqAt.EqAt.int_bool a t' b
    | int b => obtain ⟨t, rfl⟩ := rx; exact SeqAt.EqAt.int_int a t' b t
    | str b => obtain ⟨t, rfl⟩ := rx; exact SeqAt.EqAt.int_str a t' b t
    | _ => exact absurd (show false = true from fx) Bool.false_ne_true
  | str a =>
    obtain ⟨t', rfl⟩ := ry
    cases x with
    | non => cases rx; exact SeqAt.EqAt.str_none a t'
    | bl b => cases rx; exact SeqAt.EqAt.str_bool a t' b
    | int b => obtain ⟨t, rfl⟩ := rx; exact SeqAt.EqAt.str_int a t' b t
    | str b => obtain ⟨t, rfl⟩ := rx; exact SeqAt.EqAt.str_str a t' b t
    | _ => exact absurd (show false = true from fx) Bool.false_ne_true
  | _ => exact absurd (show false = true from fy) Bool.false_ne_true
def inV (x : V) (xs : List V) : Bool := xs.any fun y => eqV y x
/-- x in a list or tuple of flat items -/
def rIn (K : PySem.W.Frag) (neg : Bool) : R2 := fun x y H Q => ∃ p xs, y = .ref p ∧ (SqL K H p xs ∨ SqT K H p xs) ∧ flatV x = true ∧ xs.all flatV = true ∧ Q (.bl (if neg then !inV x xs else inV x xs)) H
/-! ### len, list(x), tuple(x) of any list or tuple that is read -/
theorem call_len_seq : CallR X (.builtin "len") (fun xs H Q => ∃ p ys, xs = [.ref p] ∧ (SqL X.K H p ys ∨ SqT X.K H p ys) ∧ Q (.int ys.length) H) := by
  intro pins s σ H xs us Q I r h
  obtain ⟨p, ys, rfl, hq, q⟩ := h
  obtain ⟨u, rfl, rx⟩ := vals1 r
  cases rx
  have hn := line63
  rcases hq with hq | hq
  · obtain ⟨its, r', pl, hz⟩ := I.list hq
    have hlen := r'.length
    exact Calls.call_len_list pl.isList (by simp only [List.size_toArray] <;> omega) ⟨.int ys.length, H, I.tok _, ⟨s.toks + 1, by rw [List.size_toArray, hlen]⟩, q⟩
  · obtain ⟨its, r', pl, hz⟩ := I.tuple hq
    have hlen := r'.length
    exact len_tuple pl (by simp only [List.size_toArray] <;> omega) ⟨.int ys.length, H, I.tok _, ⟨s.toks + 1, by rw [List.size_toArray, hlen]⟩, q⟩
theorem CallR.or {f : Value} {r r' : List V → Hp → VK → Prop} (h : CallR X f r) (h' : CallR X f r') : CallR X f (fun xs H Q => r xs H Q ∨ r' xs H Q) := by
  intro pins s σ H xs us Q I rs q
  rcases q with q | q
  · exact h pins s σ H xs us Q I rs q
  · exact h' pins s σ H xs us Q I rs q
theorem call_list_of : CallR X (.type "list") (fun xs H Q => ∃ p ys, xs = [.ref p] ∧ (SqL X.K H p ys ∨ SqT X.K H p ys) ∧ ∀ l, H l = none → Q (.ref l) (upd H l (.lst ys))) := by
  intro pins s σ H xs us Q I r h
  obtain ⟨p, ys, rfl, hq, q⟩ := h
  obtain ⟨u, rfl, rx⟩ := vals1 r
  cases rx
  have fin : ∀ (its : List Value), Vals ys its → ys.length ≤ sizeLine → ∀ (h' : Heap) (c' : Nat), (∀ b o', s.heap.get? b = some o' → h'.get? b = some o') →
      h'.get? s.heap.objs.size = some { cls := .type "list", dict := none, data := .seq its.toArray c', slots := #[] } → EP X pins σ Q (.ref s.heap.objs.size) { s with heap := h' } := fun its r' hz h' c' kp e =>
    ⟨.ref s.heap.objs.size, _, I.laid (t' := s.toks) kp (Nat.le_refl _) (show ObjOk X.prog X.w _ h' _ (.lst ys) from ⟨hz, its, c', r', e⟩), rfl, q _ (I.hok.fresh (Nat.le_refl _))⟩
  rcases hq with hq | hq
  · obtain ⟨its, r', pl, hz⟩ := I.list hq
    have hlen := r'.length
    obtain ⟨o, ho, hc, n, hd⟩ := pl.isList
    exact call_list_seq p (.inl rfl) ho hc hd (fun h' c' kp e => fin its r' hz h' c' kp e) (by simp only [List.size_toArray] <;> omega)
  · obtain ⟨its, r', pl, hz⟩ := I.tuple hq
    have hlen := r'.length
    obtain ⟨o, ho, hc, n, hd⟩ := pl
    exact call_list_seq p (.inr rfl) ho hc hd (fun h' c' kp e => fin its r' hz h' c' kp e) (by simp only [List.size_toArray] <;> omega)
theorem call_tuple_of : CallR X (.type "tuple") (fun xs H Q => ∃ p ys, xs = [.ref p] ∧ ((SqL X.K H p ys ∧ ∀ l, H l = none → Q (.ref l) (upd H l (.tup ys))) ∨ (SqT X.K H p ys ∧ Q (.ref p) H))) := by
  intro pins s σ H xs us Q I r h
  obtain ⟨p, ys, rfl, h⟩ := h
  obtain ⟨u, rfl, rx⟩ := vals1 r
  cases rx
  rcases h with ⟨hq, q⟩ | ⟨hq, q⟩
  · obtain ⟨its, r', pl, hz⟩ := I.list hq
    have hlen := r'.length
    refine call_tuple_list pl.isList (fun h' kp => ?_) (by simp only [List.size_toArray] <;> omega)
    have I1 : Inv X pins σ H { s with heap := h' } := I.kept (t' := s.toks) kp
    have I2 : Inv X pins σ (upd H h'.objs.size (.tup ys)) { s with heap := h'.push { cls := .type "tuple", data := .seq its.toArray } } :=
      I1.laid (t' := s.toks) (fun b o e => Heap.get?_push_of_some _ e) (Nat.le_refl _) (show ObjOk X.prog X.w _ _ _ (.tup ys) from ⟨hz, its, r', IsTup.new _ _⟩)
    exact ⟨.ref h'.objs.size, _, I2, rfl, q _ (I1.hok.fresh (Nat.le_refl _))⟩
  · obtain ⟨its, r', pl, hz⟩ := I.tuple hq
    exact call_tuple_same pl ⟨.ref p, H, I, rfl, q⟩

/-! ### the call of a builtin's method: o.m(..) -/
/-- the value is of that builtin type -/
def tyV (K : PySem.W.Frag) (T : String) (x : V) (H : Hp) : Prop := match x with
  | .str _ => T = "str"
  | .int _ => T = "int"
  | .ref p => (T = "list" ∧ ∃ xs, SqL K H p xs) ∨ (T = "tuple" ∧ ∃ o, K.lookup p = some o ∧ o.cls = .type "tuple" ∧ o.dict = none) ∨
      (T = "dict" ∧ ((∃ kvs, H p = some (.dK kvs)) ∨ ∃ kvs, H p = some (.dT kvs))) ∨ (T = "set" ∧ ∃ S n, H p = some (.set S n))
  | _ => False
theorem tyV_is {pins : List (Addr × Obj)} {σ : St} {H : Hp} {s : Shared} {T : String} {x : V} {v : Value} (I : Inv X pins σ H s) (r : RelV x v) (ty : tyV X.K T x H) :
    s.TypeIs v T ∧ ∀ a, v = .ref a → ∃ ob, s.heap.get? a = some ob ∧ ob.dict = none := by
  cases x with
  | str z =>
    obtain ⟨t, rfl⟩ := r
    cases (show T = "str" from ty)
    exact ⟨typeIs_str s z t, fun _ e => nomatch e⟩
  | int i =>
    obtain ⟨t, rfl⟩ := r
    cases (show T = "int" from ty)
    exact ⟨typeIs_int s i t, fun _ e => nomatch e⟩
  | ref p =>
    cases r
    rcases ty with ⟨rfl, xs, hq⟩ | ⟨rfl, o, hk, hc, hd⟩ | ⟨rfl, hk⟩ | ⟨rfl, S, n, hk⟩
    · obtain ⟨its, _, pl, _⟩ := I.list hq
      refine ⟨pl.isList.typeIs, fun a e => ?_⟩
      cases e
      obtain ⟨o, n, e, c, hd, _⟩ := pl
      exact ⟨o, e, hd⟩
    · refine ⟨⟨o, I.kIn p o hk, hc⟩, fun a e => ?_⟩
      cases e
      exact ⟨o, I.kIn _ o hk, hd⟩
    · have z : ∃ o, s.heap.get? p = some o ∧ o.ExactDict := by
        rcases hk with ⟨kvs, hk⟩ | ⟨kvs, hk⟩
        · obtain ⟨_, _, _, _, o, _, _, e, ex, _⟩ := I.hok p _ hk
          exact ⟨o, e, ex⟩
        · obtain ⟨_, _, _, _, o, _, _, e, ex, _⟩ := I.hok p _ hk
          exact ⟨o, e, ex⟩
      obtain ⟨o, e, ex⟩ := z
      refine ⟨⟨o, e, ex.1⟩, fun a e2 => ?_⟩
      cases e2
      exact ⟨o, e, ex.2.1⟩
    · obtain ⟨o, _, _, _, e, ex, _⟩ := I.hok p _ hk
      refine ⟨⟨o, e, ex.1⟩, fun a e2 => ?_⟩
      cases e2
      exact ⟨o, e, ex.2.1⟩
  | _ => exact False.elim ty
def tBM0 (K : PySem.W.Frag) (T : String) (r : V → List V → Hp → VK → Prop) (to : TE) : TE := fun σ H Q => to σ H fun x H1 => tyV K T x H1 ∧ r x [] H1 Q
def tBM (K : PySem.W.Frag) (T : String) (r : V → List V → Hp → VK → Prop) (to : TE) (t : TA) : TE := fun σ H Q => to σ H fun x H1 => tyV K T x H1 ∧ t σ H1 fun xs H2 => r x xs H2 Q
variable {o e : Expr} {es : List Expr} {to : TE} {t : TA} {name : Str} {apos cpos : Pos} {T id : String} {r : V → List V → Hp → VK → Prop}
theorem pe_bm (pa : PlainAttrs T) (slot : Slot T name id) (hty : typeOf (.builtin id) = pure (.type "method_descriptor")) (hm : MtR X id r) (ho : PE X o to) (ha : PA X (e :: es) t)
    (hbase : attributeBase o name X.env (eval o X.env) = eval o X.env := by rfl)
    (hfew : ((backTo cpos (starEach (e :: es) X.env)).all (fun x => !x.1) && (backToKw cpos (keywordEach [] X.env)).all (fun x => x.1.isSome)
      && decide ((e :: es).length + ([] : List Keyword).length + (if ([] : List Keyword).isEmpty then 0 else 1) < 30)) = true := by rfl)
    (hline : (apos.endLine == cpos.line) = true := by rfl) (hs : starEach (e :: es) X.env = (false, eval e X.env) :: starEach es X.env := by rfl) (hplain : (backTo cpos (starEach es X.env)).any (·.1) = false := by rfl) :
    PE X (.Call (.Attribute o name apos) (e :: es) [] cpos) (tBM X.K T r to t) := by
  intro pins s σ H Q I h
  refine wpAny_Call_method_late hbase hfew hline rfl (thn (ho pins s σ H _ I h) fun v s1 ⟨x, H1, I1, r1, ty, q1⟩ => ?_)
  obtain ⟨h1, h2⟩ := tyV_is I1 r1 ty
  refine ⟨T, id, pa, slot, hty, h1, h2, ?_⟩
  have hA := ha cpos pins s1 σ H1 _ I1 q1
  rw [hs] at hA ⊢
  refine Calls.callWith_builtin (by show (false || (backTo cpos (starEach es X.env)).any (·.1)) = false; rw [hplain] <;> rfl) (Calls.evalArgs_plain ?_)
  exact thn hA fun us s2 ⟨vs, H2, I2, r2, q2⟩ => hm pins s2 σ H2 x vs v us Q I2 r1 r2 q2
/- xs.append(e), list.index on a module's tuple .. are MtR facts of 06m -/
end
end L2

namespace L2
open PySem PySem.Spec PyProof.Rows

def MtM (X : Cx) (id : String) (r : V → List V → Hp → VK → Prop) : Prop :=
  ∀ (pins : List (Addr × Obj)) (s : Shared) (σ : St) (H : Hp) (x : V) (xs : List V) (v : Value) (us : List Value) (Q : VK), Inv X pins σ H s → RelV x v → Vals xs us → r x xs H Q →
    wpAny (model X.prog X.w) X.A (call (.builtin id) (v :: us)) (EP X pins σ Q) X.xe s

/-! ### lists of values -/
theorem Vals.one : ∀ {x : V} {us : List Value}, Vals [x] us → ∃ u, us = [u] ∧ RelV x u
  | _, _, .cons r .nil => ⟨_, rfl, r⟩
theorem Vals.two : ∀ {x y : V} {us : List Value}, Vals [x, y] us → ∃ u v, us = [u, v] ∧ RelV x u ∧ RelV y v
  | _, _, _, .cons r (.cons q .nil) => ⟨_, _, rfl, r, q⟩
theorem Vals.zero : ∀ {us : List Value}, Vals [] us → us = []
  | _, .nil => rfl
theorem Vals.eraseIdx : ∀ {xs : List V} {us : List Value} (i : Nat), Vals xs us → Vals (xs.eraseIdx i) (us.eraseIdx i)
  | _, _, _, .nil => .nil
  | _, _, 0, .cons _ t => t
  | _, _, i + 1, .cons r t => .cons r (Vals.eraseIdx i t)
theorem Vals.reverse {xs : List V} {us : List Value} (h : Vals xs us) : Vals xs.reverse us.reverse := by
  induction h with
  | nil => exact .nil
  | cons r t ih => rw [List.reverse_cons, List.reverse_cons]; exact Vals.append ih (.cons r .nil)
theorem Vals.rep {xs : List V} {us : List Value} (h : Vals xs us) : ∀ k : Nat, Vals (List.replicate k xs).flatten (List.replicate k us).flatten
  | 0 => .nil
  | k + 1 => by
    rw [List.replicate_succ, List.replicate_succ, List.flatten_cons, List.flatten_cons]
    exact Vals.append h (Vals.rep h k)
theorem foldl_rep (its : List Value) : ∀ (k : Nat) (acc : List Value),
    List.foldl (fun x1 x2 => x1 ++ x2) acc.toArray (List.replicate k its.toArray) = (acc ++ (List.replicate k its).flatten).toArray
  | 0, acc => by simp
  | k + 1, acc => by
    have e : acc.toArray ++ its.toArray = (acc ++ its).toArray := by simp
    have e2 : (acc ++ its) ++ (List.replicate k its).flatten = acc ++ (List.replicate (k + 1) its).flatten := by
      rw [List.replicate_succ, List.flatten_cons, List.append_assoc]
    rw [← e2, ← foldl_rep its k (acc ++ its), ← e, List.replicate_succ, List.foldl_cons]

section
variable {X : Cx} {pins : List (Addr × Obj)} {σ : St} {H : Hp} {s : Shared} {l b : Addr} {xs ys zs : List V}

/-! ### the two steps: a tracked list is rewritten, a new list is laid -/
theorem Inv.lset {its its' : List Value} {n : Nat} {f : Array Value → Array Value} {t' : Nat} (I : Inv X pins σ H s) (hH : H l = some (.lst xs))
    (e : s.heap.get? l = some { cls := .type "list", data := .seq its.toArray n }) (hf : f its.toArray = its'.toArray) (hv : Vals ys its') (hz : ys.length ≤ sizeLine) :
    Inv X pins σ (upd H l (.lst ys)) { s with heap := s.heap.update l (Obj.mapSeq f), toks := t' } := by
  have q := PySem.IsL.update e f
  rw [hf] at q
  refine I.write (x := l) (e := l) (by rw [hH]; exact trivial) (.inl rfl) (fun b' u hb hu => (Heap.get?_update_other s.heap (Obj.mapSeq f) (Ne.symm hb)).trans hu) ⟨_, q⟩ ?_
  exact ⟨hz, its', _, hv, q⟩
theorem Inv.lnew {its : List Value} {t' : Nat} (I : Inv X pins σ H s) (hv : Vals ys its) (hz : ys.length ≤ sizeLine) :
    Inv X pins σ (upd H s.heap.objs.size (.lst ys)) { s with heap := s.heap.push { cls := .type "list", data := .seq its.toArray }, toks := t' } :=
  I.laid (fun _ _ q => Heap.get?_push_of_some _ q) (Nat.le_refl _) ⟨hz, its, 0, hv, Heap.get?_push_size _ rfl⟩
theorem Inv.fresh (I : Inv X pins σ H s) : H s.heap.objs.size = none := I.hok.fresh (Nat.le_refl _)
theorem Inv.lstM (I : Inv X pins σ H s) (hH : H l = some (.lst xs)) : xs.length ≤ sizeLine ∧ ∃ (its : List Value) (n : Nat), Vals xs its ∧ xs.length = its.length ∧ s.heap.get? l = some { cls := .type "list", data := .seq its.toArray n } := by
  obtain ⟨z, its, n, r, e⟩ := I.hok l _ hH
  exact ⟨z, its, n, r, r.length, e⟩

theorem notLongL {n : Nat} (h : n ≤ sizeLine) : Builtin.List.listTooLong n = false := by
  unfold Builtin.List.listTooLong
  exact decide_eq_false (by omega)
end

section
variable {X : Cx}

/-! ### methods -/
def rAppend : V → List V → Hp → VK → Prop := fun x vs H Q => ∃ l xs y, x = .ref l ∧ vs = [y] ∧ H l = some (.lst xs) ∧ xs.length < sizeLine ∧ Q .non (upd H l (.lst (xs ++ [y])))
theorem mt_append : MtM X "list.append" rAppend := by
  intro pins s σ H x vs v us Q I rx rv h
  obtain ⟨l, xs, y, rfl, rfl, hH, hz, q⟩ := h
  cases rx
  obtain ⟨u, rfl, ru⟩ := rv.one
  obtain ⟨z, its, n, r, hl, e⟩ := I.lstM hH
  refine call_meets F.slot_list_append ⟨_, e, rfl⟩ F.entry_list_append (F.args_list_append_2 _ _) (PySem.list_append l its.toArray n u (by rw [List.size_toArray]; omega)) ⟨e, ?_⟩
  refine ⟨.non, _, I.lset (its' := its ++ [u]) hH e (by simp) (r.append (.cons ru .nil)) ?_, rfl, q⟩
  rw [List.length_append, List.length_singleton]
  omega

def rExtend : V → List V → Hp → VK → Prop := fun x vs H Q => ∃ l b xs zs, x = .ref l ∧ vs = [.ref b] ∧ H l = some (.lst xs) ∧ H b = some (.lst zs) ∧ xs.length + zs.length ≤ sizeLine ∧ Q .non (upd H l (.lst (xs ++ zs)))
def rPopAt : V → List V → Hp → VK → Prop := fun x vs H Q => ∃ l xs i k y, x = .ref l ∧ vs = [.int i] ∧ H l = some (.lst xs) ∧ -(2 ^ 63) ≤ i ∧ i < 2 ^ 63 ∧ seqIndex? i xs.length = some k ∧ xs[k]? = some y ∧ Q y (upd H l (.lst (xs.eraseIdx k)))
/-! ### list + list, list += list, list * int -/
def rCat : R2 := fun x y H Q => ∃ l b xs zs, x = .ref l ∧ y = .ref b ∧ H l = some (.lst xs) ∧ H b = some (.lst zs) ∧ xs.length + zs.length ≤ sizeLine ∧ ∀ p, H p = none → Q (.ref p) (upd H p (.lst (xs ++ zs)))
theorem op_cat : OpR X (binaryOp .Add) rCat := by
  intro pins s σ H x y v u Q I rx ry h
  obtain ⟨l, b, xs, zs, rfl, rfl, hH, hB, hz, q⟩ := h
  cases rx
  cases ry
  obtain ⟨z, its, n, r, hl, e⟩ := I.lstM hH
  obtain ⟨z2, its2, n2, r2, hl2, e2⟩ := I.lstM hB
  refine PySem.P.add_list e e2 ?_ (by rw [List.size_toArray, List.size_toArray]; omega)
  have ea : its.toArray ++ its2.toArray = (its ++ its2).toArray := by simp
  rw [ea]
  exact ⟨.ref _, _, I.lnew (t' := s.toks) (r.append r2) (by rw [List.length_append]; omega), rfl, q _ I.fresh⟩
/-- a list times an int (a negative one is nothing) -/
def rRep : R2 := fun x y H Q => ∃ l k xs, x = .ref l ∧ y = .int k ∧ H l = some (.lst xs) ∧ -(2 ^ 63) ≤ k ∧ k < 2 ^ 63 ∧ xs.length * k.toNat ≤ sizeLine ∧
  ∀ p, H p = none → Q (.ref p) (upd H p (.lst (List.replicate k.toNat xs).flatten))
theorem len_rep {α : Type} (xs : List α) (k : Nat) : (List.replicate k xs).flatten.length = k * xs.length := by
  induction k with
  | zero => simp
  | succ k ih => rw [List.replicate_succ, List.flatten_cons, List.length_append, ih, Nat.succ_mul, Nat.add_comm]
theorem op_rep : OpR X (binaryOp .Mult) rRep := by
  intro pins s σ H x y v u Q I rx ry h
  obtain ⟨l, k, xs, rfl, rfl, hH, h1, h2, hz, q⟩ := h
  cases rx
  obtain ⟨t, rfl⟩ := ry
  obtain ⟨z, its, n, r, hl, e⟩ := I.lstM hH
  have hlen : its.toArray.size * k.toNat ≤ sizeLine := by rw [List.size_toArray, ← hl]; exact hz
  have hcap : ¬ its.toArray.size * k.toNat > (2 ^ 63 - 1) / 8 := by
    have : (sizeLine : Nat) ≤ (2 ^ 63 - 1) / 8 := by decide
    omega
  have hfit : ¬ (!Builtin.List.listFitsIndex k) = true := by
    rw [fitsIndex_both h1 h2]
    exact Bool.false_ne_true
  have hlong : ¬ Builtin.List.listTooLong (its.toArray.size * k.toNat) = true := by
    rw [notLongL hlen]
    exact Bool.false_ne_true
  have hnew : List.foldl (fun x1 x2 => x1 ++ x2) #[] (List.replicate (if its.toArray.isEmpty = true then 0 else k.toNat) its.toArray) = (List.replicate k.toNat its).flatten.toArray := by
    have f0 : ∀ m : Nat, List.foldl (fun x1 x2 => x1 ++ x2) #[] (List.replicate m its.toArray) = (List.replicate m its).flatten.toArray := fun m => by
      have := foldl_rep its m []
      rw [List.nil_append] at this
      exact this
    rw [f0]
    cases its with
    | nil => simp
    | cons a r' => rw [if_neg (by simp)]
  refine wpAny_binaryOp_repeat_ref (T := "list") (U := "int") (by decide) ⟨_, e, rfl⟩ (fun s' => typeIs_int s' k t) noFill_list_mul F.fills_int_mul F.slot_int_rmul repeat_list F.slot_int_index.lookup
    (call_meets F.slot_int_rmul (typeIs_int s k t) F.entry_int_rmul (F.args_int_rmul_2 _ _) (int___rmul___int_list k t l its.toArray n)
      ⟨e, rfl, ⟨_, e, rfl⟩, call_meets F.slot_list_mul ⟨_, e, rfl⟩ F.entry_list_mul (F.args_list_mul_2 _ _) (AutoListH.list___mul___list_int_3 l its.toArray n k t hfit hcap hlong) ⟨e, ?_⟩⟩)
  rw [hnew]
  exact ⟨.ref _, _, I.lnew (t' := s.toks) (r.rep k.toNat) (by rw [len_rep, Nat.mul_comm]; exact hz), rfl, q _ I.fresh⟩

/-! ### del xs[i] -/
end

/-! ### xs[a:b] = ys -/
section
variable {prog : Program} {w : World} {A : Around} {E : Value → Shared → Prop} {s : Shared}
end

section
variable {X : Cx}
end
end L2

namespace Att
open PySem PySem.W PySem.Calls PyProof.Rows

/-! ### the script -/
theorem ints_of_wellAll {P : Params} {h : Heap} : ∀ (ns : List Int) (vs : List Value), WellAll P h vs (ns.map WData.int) → IntsAre vs ns := by
  intro ns
  induction ns with
  | nil =>
    intro vs w
    rw [List.map_nil] at w
    cases w
    exact .nil
  | cons n ns ih =>
    intro vs w
    rw [List.map_cons] at w
    cases w with
    | cons a b =>
      cases a
      exact .cons _ _ (ih _ b)

theorem script_of {l : OpenLaw} {n : Nat} (hn : l.most = some n) {P : Params} {h : Heap} {args : List WData} {vals : List Value}
    (hpre : l.row.toRowW.claim.pre args = true) (hwl : WellAll P h vals args) :
    ∃ a vs ns, vals = [Value.ref a] ∧ args = [WData.list (ns.map WData.int)] ∧ h.get? a = some { cls := .type "list", data := .seq vs.toArray } ∧ IntsAre vs ns ∧ ns.length ≤ n := by
  have hsh : WShape.hasAll [] args [.list .int] = true := (pre_splitW hpre).1
  have hc : l.pre.holds [] { args := args } = true := (pre_splitW hpre).2
  obtain ⟨d, r, rfl, h1, h2⟩ := hasAllW_cons hsh
  obtain rfl := hasAllW_nil h2
  obtain ⟨xs, rfl, h3⟩ := hasW_list h1
  obtain ⟨ns, rfl⟩ := items_int h3
  have hlen : ns.length ≤ n := by
    unfold OpenLaw.pre at hc
    have h4 : (WTm.not (.lt (.lit (.int (n : Int))) (.len (.arg 0)))).holds [] { args := [.list (ns.map .int)] } = true := by
      have h4 := (holds_andW hc).1
      rw [hn] at h4
      exact h4
    have h5 := condW_of h4 (w_not (w_lt w_lit (w_len_list (w_arg rfl))))
    rw [List.length_map] at h5
    refine Nat.le_of_not_lt fun q => ?_
    have q' : (n : Int) < ((ns.length : Nat) : Int) := by omega
    first
      | (rw [decide_eq_true q'] at h5; exact absurd h5 (by decide))
      | (simp at h5; omega)
  cases hwl with
  | cons w1 w2 =>
    cases w2
    cases w1 with
    | list ho hall => exact ⟨_, _, ns, rfl, rfl, ho, ints_of_wellAll ns _ hall, hlen⟩

theorem post_true (l : OpenLaw) (args : List WData) : l.row.toRowW.claim.post args (.bool true) args = true :=
  postW_of (r := l.row.toRowW) (X := (true == true))
    (show WShape.has [] (.bool true) .bool = true by first | rfl | decide | simp [WShape.has, WShape.arms, WShape.armsAll])
    (show (WTm.eq .res (.lit (.bool true))).value [] { args := args, res := some (.bool true), after := args } = some (.bool (true == true)) from w_eq_bool (w_res rfl) w_lit) rfl

/-! ### the attachment: holds_open's last premise (the goal 'hc' behind k_head) from a wpAny of the law's body -/
/-- the same from a codeAny of the CALL (for a layer whose function contracts speak of calls) -/
theorem attach_call {l : OpenLaw} {n : Nat} {q : Program} {loose : List Str} {XP : (Str → Option Value) → Heap → Prop} {YP : World → Heap → Prop} {d : DefRec}
    (hn : l.most = some n) (hdf : d.params.defaults = [])
    (call : ∀ (w : World) (s₀ s₁ : Shared) (mg mb : Str → Option Value) (fa : Addr) (o : Obj) (pm cd doc : Value) (a : Addr) (vs : List Value) (ns : List Int),
      Ground q loose [] XP w s₀ mg mb s₁.heap → YP w s₁.heap →
      s₁.heap.get? fa = some o → o.data = .func (docDef d.name d.params d.body d.scope pm cd doc) → s₁.heap.CodeRec cd d.name → mg d.name = some (.ref fa) →
      s₁.heap.get? a = some { cls := .type "list", data := .seq vs.toArray } → IntsAre vs ns → ns.length ≤ n → s₁.gens = #[] →
      codeAny (model l.prog w) callerA (.call (.ref fa) ⟨[.ref a], []⟩) (fun r s' => r = .ok (.ret (.bool true)) ∧ OldK s₁.heap s'.heap ∧ s'.os = s₁.os ∧ AllBare s'.gens) s₁) :
    WalkO q loose XP YP l.row.toRowW d [] (fun f vs => PySem.call f vs) := by
  intro w s₀ s₁ mg mb G Y fa o pm cd doc dV kV ho hd hcd hD hmg hg args vals as hpre hlay hrd hwl hlo
  obtain rfl : dV = .none := Dflts.none hD hdf
  obtain rfl : kV = .none := Dflts.noKw hD
  obtain ⟨a, vs, ns, rfl, rfl, hobj, hints, hlen⟩ := script_of hn hpre hwl
  refine enter_call (codeAny_mono (call w s₀ s₁ mg mb fa o pm cd doc a vs ns G Y ho (fd_plain hd) hcd hmg hobj hints hlen hg) fun r s' hq => ?_)
  obtain ⟨rfl, h2, h3, h4⟩ := hq
  exact ⟨.inl ⟨.bool true, .bool true, [], rfl, fun _ => rfl, .bool true, post_true l _, fun _ => ⟨List.Pairwise.nil, fun _ hm => (nomatch hm)⟩⟩, h2, h3, h4⟩

/-! ### rules over ANY heap (no ledger) from facts about the written part K: the library's own take a ledger (News) for what they write -/
section
variable {prog : Program} {w : World} {A : Around} {E : Value → Shared → Prop} {s : Shared} {K : Frag}

/-! the whole heap as the ledger: makes every rule that writes through a ledger a rule over any heap -/
def ledger (h : Heap) (L d : Addr) : List (Addr × Obj) := (List.range h.objs.size).filterMap fun a => if a = L ∨ a = d then none else (h.get? a).map fun o => (a, o)
end
end Att

namespace L2
open PySem PySem.Spec PyProof.Rows

theorem vals_ints : ∀ {vs : List Value} {ns : List Int}, IntsAre vs ns → Vals (ns.map V.int) vs
  | _, _, .nil => .nil
  | _, _, .cons n t h => .cons ⟨t, rfl⟩ (vals_ints h)

/-- nothing is tracked but the script, known to the object (or it is an object of the module) -/
def Only (H : Hp) : Prop := ∀ b, H b = none ∨ ∃ o xs, H b = some (.frz o (.lst xs))

/-- THE HEAD: the law's promise, at the heap behind the top. F, the promise of the law's def, may use that base is part of the heap (so K.In base, base.Ns mainGlobals mg stand in Mod) -/
theorem law_call {P : Program} {w : World} {K : PySem.W.Frag} {mg mb : Str → Option Value} {CX : CXT} {k : Nat} {fa a : Addr} {fd : FuncData} {x : Str} {sp : Sp} {s₁ : Shared} {vs : List Value} {ns : List Int}
    (KX : K.In s₁.heap) (hns : s₁.heap.Ns mainGlobals mg) (hb : s₁.heap.Ns builtinsNs mb) (hbb : ∀ x : Str, x ≠ "__name__" → mb x = bootBuiltins x) (hlim : s₁.heap.NoLimit) (hg : s₁.gens = #[])
    (ha : s₁.heap.get? a = some { cls := .type "list", data := .seq vs.toArray }) (hi : IntsAre vs ns) (hl : ns.length ≤ sizeLine) (hr : Room k callerA)
    (F : ∀ base : Heap, K.In base → base.Ns mainGlobals mg → FnOk P w K mg base CX k fa fd [x] sp) (hbind : ∀ (s : Shared) (u : Value), BindsTo s fd ⟨[u], []⟩ [(x, u)])
    (hsp : ∀ H : Hp, Only H → SqL K H a (ns.map V.int) → sp [.ref a] H (fun v _ => v = .bl true) fun _ _ _ => False)
    (hCX : ∀ H e s', CX [] H s₁ (fun _ _ _ => False) e s' → False) :
    codeAny (model P w) callerA (.call (.ref fa) ⟨[.ref a], []⟩) (fun r s' => r = .ok (.ret (.bool true)) ∧ OldK s₁.heap s'.heap ∧ s'.os = s₁.os ∧ AllBare s'.gens) s₁ := by
  have rv := vals_ints hi
  have lenV := hi.length
  -- from an abstract heap in which nothing but the script may be tracked
  have core : ∀ H : Hp, Only H → SqL K H a (ns.map V.int) → HOk P w H s₁.heap → (∀ b, H b ≠ none → b = a) → (H a ≠ none → K.lookup a = none) →
      codeAny (model P w) callerA (.call (.ref fa) ⟨[.ref a], []⟩) (fun r s' => r = .ok (.ret (.bool true)) ∧ OldK s₁.heap s'.heap ∧ s'.os = s₁.os ∧ AllBare s'.gens) s₁ := by
    intro H hO hS hok hA hK
    have base_of : ∀ {b : Addr} {o : Obj}, s₁.heap.get? b = some o → H b = none → (hidT s₁.heap H).get? b = some o := fun e n => hidT_get e n
    have noA : ∀ {b : Addr} {o : Obj} {es : Array DictEntry} {ep : Nat}, s₁.heap.get? b = some o → o.data = .dict es ep → H b = none := fun {b o es ep} e d => by
      cases q : H b with
      | none => rfl
      | some u =>
        have e' : b = a := hA b (by rw [q]; simp)
        subst e'
        rw [ha] at e; cases e
        have d' : Data.seq vs.toArray _ = Data.dict es ep := d
        cases d'
    have nsK : ∀ {b : Addr} {m : Str → Option Value}, s₁.heap.Ns b m → (hidT s₁.heap H).Ns b m := fun {b m} ⟨o, es, ep, e, d, r⟩ => ⟨o, es, ep, base_of e (noA e d), d, r⟩
    have hKb : K.In (hidT s₁.heap H) := fun b o e => base_of (KX b o e) (by
      cases q : H b with
      | none => rfl
      | some u =>
        have e' : b = a := hA b (by rw [q]; simp)
        subst e'
        rw [hK (by rw [q]; simp)] at e; cases e)
    have hM : Mod K mg (hidT s₁.heap H) := ⟨hKb, nsK hns, ⟨mb, nsK hb, hbb⟩, let ⟨mc, h1, h2⟩ := hlim; ⟨mc, nsK h1, h2⟩⟩
    have e0 : Env0 P w K mg (hidT s₁.heap H) callerA [] s₁ H := ⟨rfl, hM, fun b o e => of_hidT e, Nat.le_of_eq (hidT_size _ _), trivial, fun b hb => absurd (show b ∈ ([] : List Addr) from hb) (by simp), hok, .of_eq hg⟩
    refine codeAny_mono ((F _ hKb (nsK hns)).run callerA [] s₁ H ⟨[.ref a], []⟩ [.ref a] [.ref a] _ _ hr e0 (hbind s₁ (.ref a)) (.cons rfl .nil) (hsp H hO hS)) fun r s' h => ?_
    cases r with
    | error e => exact (hCX H e s' h).elim
    | ok fl =>
      cases fl with
      | next => exact False.elim h
      | brk => exact False.elim h
      | cont => exact False.elim h
      | ret u =>
        obtain ⟨v, H', os, bare, un, hok', r', q⟩ := h
        have q' : v = .bl true := q
        subst q'
        obtain rfl : u = Value.bool true := r'
        refine ⟨rfl, OldK.of_keep fun b o e => ?_, os, bare⟩
        cases q : H b with
        | none => exact un.keep b o e q (by intro z; exact absurd (show b ∈ ([] : List Addr) from z) (by simp)) (by simp)
        | some u =>
          rcases hO b with z | ⟨ob, xs, z⟩
          · rw [q] at z; cases z
          · have z2 := un.frzs b ob _ z
            obtain ⟨e1, _⟩ := hok b _ z
            obtain ⟨e2, _⟩ := hok' b _ z2
            rw [e] at e1; cases e1
            exact e2
  cases hk : K.lookup a with
  | some o =>
    -- the script is one of the module's own objects
    have e := KX a o hk
    rw [ha] at e
    cases e
    refine core (fun _ => none) (fun _ => .inl rfl) (.inr ⟨_, vs.toArray, _, hk, rfl, rfl, rfl, by rw [List.size_toArray, lenV]; exact hl, by simpa using rv⟩) (fun b u z => by have z' : (none : Option HO) = some u := z; cases z') (fun b z => absurd rfl z) fun z => absurd rfl z
  | none =>
    refine core (fun b => if b = a then some (.frz { cls := .type "list", data := .seq vs.toArray } (.lst (ns.map V.int))) else none) (fun b => ?_) (.inl (.inr ⟨{ cls := .type "list", data := .seq vs.toArray }, if_pos rfl⟩)) (fun b u z => ?_) (fun b z => ?_) fun _ => hk
    · by_cases hb : b = a
      · exact .inr ⟨_, _, if_pos hb⟩
      · exact .inl (if_neg hb)
    · by_cases hb : b = a
      · have z' := (if_pos hb).symm.trans z
        cases z'
        subst hb
        exact ⟨ha, by rw [List.length_map]; exact hl, vs, _, rv, ha⟩
      · have z' := (if_neg hb).symm.trans z
        cases z'
    · by_cases hb : b = a
      · exact hb
      · exact absurd (if_neg hb) z
end L2

namespace L2
open PySem PySem.Spec PyProof.Rows

abbrev KOf {K : PySem.W.Frag} {h : Heap} (_ : K.In h) : PySem.W.Frag := K

/-- the goal that k_head leaves (case hc), from the law's promise. F gives the function object fd (K's own) once, then the promise over every base -/
theorem walk_of {l : PySem.W.OpenLaw} {n k : Nat} {q : Program} {loose : List Str} {XP : (Str → Option Value) → Heap → Prop} {YP : World → Heap → Prop} {d : DefRec} {K : Params → PySem.W.Frag} {CX : World → CXT} {sp : World → Sp} {x : Str}
    (hn : l.most = some n) (hn2 : n ≤ sizeLine) (hdf : d.params.defaults = []) (hr : Room k callerA)
    (hY : ∀ (w : World) (h : Heap), YP w h → (K w.params).In h)
    (F : ∀ (w : World) (mg : Str → Option Value) (fa : Addr) (h : Heap), (K w.params).In h → h.Ns mainGlobals mg → mg d.name = some (.ref fa) →
      ∃ fd : FuncData, (∀ (s : Shared) (u : Value), BindsTo s fd ⟨[u], []⟩ [(x, u)]) ∧
        ∀ base : Heap, (K w.params).In base → base.Ns mainGlobals mg → FnOk l.prog w (K w.params) mg base (CX w) k fa fd [x] (sp w))
    (hsp : ∀ (w : World) (H : Hp) (a : Addr) (ns : List Int), ns.length ≤ n → Only H → SqL (K w.params) H a (ns.map V.int) → sp w [.ref a] H (fun v _ => v = .bl true) fun _ _ _ => False)
    (hCX : ∀ (w : World) (H : Hp) (s : Shared) (e : Value) (s' : Shared), CX w [] H s (fun _ _ _ => False) e s' → False) :
    PySem.W.WalkO q loose XP YP l.row.toRowW d [] (fun f vs => PySem.call f vs) := by
  refine Att.attach_call hn hdf fun w s₀ s₁ mg mb fa o pm cd doc a vs ns G Y ho hd hcd hmg hobj hints hlen hg => ?_
  have KX := hY w _ Y
  obtain ⟨fd, hb, hF⟩ := F w mg fa _ KX G.T.g hmg
  exact law_call KX G.T.g G.T.b G.T.builtins G.T.nolimit hg hobj hints (Nat.le_trans hlen hn2) hr hF hb (fun H hO hS => hsp w H a ns hlen hO hS) fun H e s' => hCX w H s₁ e s'
/-- the same where the promise hangs on the written part alone: (sp := My.sp_law), no hole under a binder -/
theorem walk_ofK {l : PySem.W.OpenLaw} {n k : Nat} {q : Program} {loose : List Str} {XP : (Str → Option Value) → Heap → Prop} {YP : World → Heap → Prop} {d : DefRec} {K : Params → PySem.W.Frag} {CX : CXT} {sp : PySem.W.Frag → Sp} {x : Str}
    (hn : l.most = some n) (hn2 : n ≤ sizeLine) (hdf : d.params.defaults = []) (hr : Room k callerA)
    (hY : ∀ (w : World) (h : Heap), YP w h → (K w.params).In h)
    (F : ∀ (w : World) (mg : Str → Option Value) (fa : Addr) (h : Heap), (K w.params).In h → h.Ns mainGlobals mg → mg d.name = some (.ref fa) →
      ∃ fd : FuncData, (∀ (s : Shared) (u : Value), BindsTo s fd ⟨[u], []⟩ [(x, u)]) ∧
        ∀ base : Heap, (K w.params).In base → base.Ns mainGlobals mg → FnOk l.prog w (K w.params) mg base CX k fa fd [x] (sp (K w.params)))
    (hsp : ∀ (K : PySem.W.Frag) (H : Hp) (a : Addr) (ns : List Int), ns.length ≤ n → Only H → SqL K H a (ns.map V.int) → sp K [.ref a] H (fun v _ => v = .bl true) fun _ _ _ => False)
    (hCX : ∀ (H : Hp) (s : Shared) (e : Value) (s' : Shared), CX [] H s (fun _ _ _ => False) e s' → False) :
    PySem.W.WalkO q loose XP YP l.row.toRowW d [] (fun f vs => PySem.call f vs) :=
  walk_of (K := K) (CX := fun _ => CX) (sp := fun w => sp (K w.params)) hn hn2 hdf hr hY F (fun w H a ns h1 h2 h3 => hsp (K w.params) H a ns h1 h2 h3) fun _ H s e s' => hCX H s e s'
end L2


/-! SHORT WORDS over the layer: a def of the text, its body, what a loop and a test want. -/
namespace L2
open PySem PySem.Spec PyProof.Rows

/-! ### the text by places -/
def defArgs (s : Stmt) : Arguments := match s with
  | .FunctionDef _ a _ _ _ _ _ _ _ _ => a
  | _ => { posonlyargs := [], args := [], vararg := none, kwonlyargs := [], kw_defaults := [], kwarg := none, defaults := [] }
def defBody (s : Stmt) : List Stmt := match s with
  | .FunctionDef _ _ b _ _ _ _ _ _ _ => b
  | _ => []
def defScope (s : Stmt) : Scope := match s with
  | .FunctionDef _ _ _ _ _ _ sc _ _ _ => sc
  | _ => { kind := .function, names := [], isGenerator := false, isCoroutine := false }

/-! ### no exception leaves a def -/
abbrev CX0 : CXT := fun _ _ _ _ _ _ => False
abbrev E0 : XK := fun _ _ _ => False
theorem pass0 {X : Cx} : Passes CX0 X E0 := fun _ _ _ _ _ _ _ h => h.elim

/-! ### a def (or method) of the text as it stands behind the top -/
structure Fun (K : PySem.W.Frag) (x qual : Str) (st : Stmt) (f : Addr) (fd : FuncData) : Prop where
  ex : ∃ (oc : Value) (od : Option Addr) (kV doc pm : Value) (an : Option Addr) (cdv ct : Value) (osl : Array (Option Value)),
    fd = PySem.W.fnOf x qual (defArgs st) (defBody st) (defScope st) .none kV doc pm an cdv ct ∧ K.lookup f = some ⟨oc, od, .func fd, osl⟩ ∧ PySem.W.codeIn K cdv qual = true
  kp : PySem.W.keepIn K (.ref f) = true
section
variable {P : Program} {w : World} {K : PySem.W.Frag} {mg : Str → Option Value} {base : Heap}
/-- THE RULE for a def: its body as a term of rules, and the reading of that term -/
theorem Fun.ok {x qual : Str} {st : Stmt} {f : Addr} {fd : FuncData} {N ps : List Str} {k : Nat} {sp : Sp} (F : Fun K x qual st f fd) (S : FnScope N ps (defScope st)) (len : ∀ vs H Q E, sp vs H Q E → vs.length = ps.length)
    (hbody : ∀ (cdv : Value) (A : Around) (outer : List Env) (s : Shared) (H : Hp) (vs : List V) (Q : VK) (E : XK), Room k (A.deeper (envOfC qual (defScope st) s.heap.objs.size f cdv)) → sp vs H Q E →
      ∃ t, PSs (cxOf CX0 P w K mg base N qual (defScope st) f cdv A outer s H E).nox (defBody st) t ∧ t { nx := fun _ H' => Q .non H', rt := Q } (start N vs) H) : FnOk P w K mg base CX0 (k + 1) f fd ps sp := by
  obtain ⟨oc, od, kV, doc, pm, an, cdv, ct, osl, rfl, lk, hcd⟩ := F.ex
  refine fn_of lk hcd S len fun A outer s H vs Q E hr hsp => ?_
  obtain ⟨t, h, q⟩ := hbody cdv A outer s H vs Q E hr hsp
  exact ⟨t, h.nox, q⟩
/-- how its arguments bind (no defaults): h is «fun _ _ _ _ _ _ us hl => match us, hl with | [_, _], _ => rfl», one _ a parameter -/
theorem Fun.binds {x qual : Str} {st : Stmt} {f : Addr} {fd : FuncData} {ps : List Str} (F : Fun K x qual st f fd)
    (h : ∀ (kV doc pm : Value) (an : Option Addr) (cdv ct : Value) (us : List Value), us.length = ps.length → bindArgs (PySem.W.fnOf x qual (defArgs st) (defBody st) (defScope st) .none kV doc pm an cdv ct) ⟨us, []⟩ = pure (ps.zip us)) : Binds K fd ps [] := by
  obtain ⟨oc, od, kV, doc, pm, an, cdv, ct, osl, rfl, lk, hcd⟩ := F.ex
  exact .all (h kV doc pm an cdv ct)
theorem fun_mk {x qual : Str} {st : Stmt} {f : Addr} {oc : Value} {od an : Option Addr} {osl : Array (Option Value)} {kV doc pm cdv ct : Value} (l : K.lookup f = some ⟨oc, od, .func (PySem.W.fnOf x qual (defArgs st) (defBody st) (defScope st) .none kV doc pm an cdv ct), osl⟩)
    (c : PySem.W.codeIn K cdv qual = true) (k : PySem.W.keepIn K (.ref f) = true) : Fun K x qual st f (PySem.W.fnOf x qual (defArgs st) (defBody st) (defScope st) .none kV doc pm an cdv ct) := ⟨⟨oc, od, kV, doc, pm, an, cdv, ct, osl, rfl, l, c⟩, k⟩
end
theorem small1000 {n : Nat} (h : n ≤ 1000) : n < sizeLine := Nat.lt_of_le_of_lt h (by decide)

/-! ### expressions in short: the name that stands in the i-th slot -/
section
variable {X : Cx}
theorem pv (i : Nat) {x : Str} {pos : Pos} (hN : X.N[i]? = some x := by rfl) (hv : Vis X.env.scope x := by first | exact Or.inl rfl | exact Or.inr (Or.inl rfl) | exact Or.inr (Or.inr rfl)) (hd : (x == ("__debug__" : Str)) = false := by decide)
    (hcd : (x == ("__classdict__" : Str)) = false := by decide) : PE X (.Name x pos) (tVar i) := pe_var hN hv hd hcd
end

/-! ### tests -/
theorem iteF {A B : Prop} (h : B) : if false = true then A else B := by
  rw [if_neg Bool.false_ne_true]
  exact h
theorem iteT {A B : Prop} (h : A) : if true = true then A else B := by
  rw [if_pos rfl]
  exact h
theorem ite2 {c A B : Prop} [Decidable c] (h1 : c → A) (h2 : ¬ c → B) : if c then A else B := by
  by_cases h : c
  · rw [if_pos h]
    exact h1 h
  · rw [if_neg h]
    exact h2 h
/-! ### heaps -/
/-- all that was tracked is as it was -/
def Same (H H' : Hp) : Prop := ∀ b o, H b = some o → H' b = some o
theorem Same.refl (H : Hp) : Same H H := fun _ _ h => h
theorem Same.trans {H H1 H2 : Hp} (a : Same H H1) (b : Same H1 H2) : Same H H2 := fun c o h => b c o (a c o h)
theorem Same.free {H H' : Hp} (e : Same H H') {l : Addr} (h : H' l = Option.none) : H l = Option.none := by
  cases q : H l with
  | none => rfl
  | some o =>
    rw [e l o q] at h
    cases h
theorem Same.seq {K : PySem.W.Frag} {H H' : Hp} {a : Addr} {xs : List V} (e : Same H H') (h : SqL K H a xs) : SqL K H' a xs := by
  rcases h with (h | ⟨o, h⟩) | h
  · exact .inl (.inl (e _ _ h))
  · exact .inl (.inr ⟨o, e _ _ h⟩)
  · exact .inr h

end L2

set_option Elab.async false
set_option linter.all false
set_option maxRecDepth 100000
namespace L2
open PySem PySem.Spec PyProof.Rows

end L2

namespace L2
open PySem PySem.Spec PyProof.Rows

section
variable (P : Program) (w : World)
end

section
variable {P : Program} {w : World} {H H' : Hp} {h h' : Heap} {a : Addr} {o : HO}
end

section
variable {P : Program} {w : World} {H : Hp} {h h' : Heap} {x e : Addr} {o' : HO}
end

section
variable {fs fs' ex ex' : List Addr} {H H1 H2 : Hp} {h h1 h2 h' : Heap} {a x e : Addr} {o : HO}
end

end L2

namespace L2
open PySem PySem.Spec PyProof.Rows

section
variable {X : Cx} {pins : List (Addr × Obj)} {σ : List (Option V)} {H H' : Hp} {s : Shared} {h' : Heap}

end

end L2

namespace L2
open PySem PySem.Spec PyProof.Rows
section
variable {X : Cx}

variable {a b : Expr} {ta tb : TE} {pos : Pos}
variable {tA tB' : TT} {rest : List Expr}
end
end L2

namespace L2
open PySem PySem.Spec PyProof.Rows

section
variable {X : Cx} {pins : List (Addr × Obj)} {σ : St} {H : Hp} {s : Shared} {a : Addr} {xs ys : List V}
end

section
variable {X : Cx} {pins : List (Addr × Obj)} {σ : St} {H : Hp} {s : Shared} {E : Value → Shared → Prop}
end

section
variable {X : Cx} {st : Stmt} {rest : List Stmt} {t u : TS} {e : Expr} {te : TE} {pos : Pos}
end

section
variable {X : Cx} {pos : Pos}
end

section
variable {X : Cx} {pos : Pos}
end

end L2

namespace L2
open PySem PySem.Spec PyProof.Rows
section
variable {X : Cx} {tg : Expr}
end

end L2

namespace L2
open PySem PySem.Spec PyProof.Rows

section
variable {X : Cx} {a b c : Expr} {ta tb tc : TE} {pos : Pos}

end

section
variable {X : Cx} {a b c : Expr} {ta tb tc : TE} {pos : Pos}
end
end L2

namespace L2
open PySem PySem.Spec PyProof.Rows

section
variable {prog : Program} {w : World} {A : Around} {E : Value → Shared → Prop} {s : Shared} {K : PySem.W.Frag} {x dx C f : Addr} {mA : Str → Option Value} {name : Str} {v : Value}

end

section
variable {P : Program} {w : World} {H H' : Hp} {h h' : Heap} {a C dx : Addr} {fs fs' : List (Str × V)}
end

section
variable {X : Cx} {pins : List (Addr × Obj)} {σ : St} {H : Hp} {s : Shared} {a C dx : Addr} {fs : List (Str × V)} {f : Str} {v : V} {A : Around} {E : Value → Shared → Prop}

end

section
variable {X : Cx} {o e value : Expr} {f : Str} {pos pos' tpos : Pos} {ta tv : TE}
end

section
variable {X : Cx} {pins : List (Addr × Obj)} {σ : St} {H : Hp} {s : Shared} {A : Around} {E : Value → Shared → Prop} {Q : Value → Shared → Prop} {c : Value} {b : Bool}
end
end L2

namespace L2
open PySem PySem.Spec PyProof.Rows

section
variable {X : Cx} {e : Expr} {es : List Expr} {te : TE} {t : TA} {pos : Pos}
end

section
variable {X : Cx} {pins : List (Addr × Obj)} {σ : St} {H : Hp} {s s' : Shared}
end

section
variable {X : Cx} {CX : CXT} {k : Nat} {f C : Addr} {fd : FuncData} {ps : List Str} {sp : Sp} {dvs : List V} {ds : List Value} {E : XK} {x m : Str} {p pos apos : Pos} {e o : Expr} {es : List Expr} {ta : TE} {t : TA}

end

section
variable {X : Cx} {CX : CXT} {k : Nat} {f C : Addr} {fd : FuncData} {ps ks : List Str} {sp : Sp} {E : XK} {x m : Str} {p pos apos kpos : Pos} {e o : Expr} {es : List Expr} {kws : List Keyword} {te ta : TE} {t tk : TA} {nm : Option Str}
variable {g : List Value → List Value → List Value} {gV : List V → List V → List V}
end

end L2

namespace L2
open PySem PySem.Spec PyProof.Rows
section
variable {X : Cx} {x : Str} {p pos : Pos} {e : Expr} {es : List Expr} {t : TA} {id T : String} {r : List V → Hp → VK → Prop}

end
end L2

namespace L2
open PySem PySem.Spec PyProof.Rows

section
variable {κ : Type} [DecidableEq κ]
def valV (kvs : List (κ × V)) (k : κ) : Option V := (kvs.find? fun kv => decide (kv.1 = k)).map (·.2)
def putK (kvs : List (κ × V)) (k : κ) (v : V) : List (κ × V) :=
  if (kvs.any fun kv => decide (kv.1 = k)) = true then kvs.map (fun kv => if kv.1 = k then (kv.1, v) else kv) else kvs ++ [(k, v)]
def dropK (kvs : List (κ × V)) (k : κ) : List (κ × V) := kvs.filter fun kv => decide (kv.1 ≠ k)

theorem valV_pos {p : κ × V} {r : List (κ × V)} {k : κ} (e : p.1 = k) : valV (p :: r) k = some p.2 := by simp [valV, List.find?_cons, e]
theorem valV_neg {p : κ × V} {r : List (κ × V)} {k : κ} (e : ¬ p.1 = k) : valV (p :: r) k = valV r k := by simp [valV, List.find?_cons, e]
theorem valV_any (k : κ) : ∀ kvs : List (κ × V), (kvs.any fun kv => decide (kv.1 = k)) = (valV kvs k).isSome
  | [] => rfl
  | p :: r => by
    rw [List.any_cons]
    by_cases e : p.1 = k
    · simp only [valV_pos e, decide_eq_true e, Bool.true_or, Option.isSome_some]
    · rw [valV_neg e, decide_eq_false e, Bool.false_or]; exact valV_any k r
theorem valV_map (k j : κ) (y : V) : ∀ kvs : List (κ × V), valV (kvs.map fun kv => if kv.1 = k then (kv.1, y) else kv) j = (valV kvs j).map fun x => if j = k then y else x
  | [] => rfl
  | p :: r => by
    have ih := valV_map k j y r
    rw [List.map_cons]
    by_cases h : p.1 = k
    · rw [if_pos h]
      by_cases e : p.1 = j
      · rw [valV_pos (p := (p.1, y)) e, valV_pos e, Option.map_some, if_pos (e.symm.trans h)]
      · rw [valV_neg (p := (p.1, y)) e, valV_neg e, ih]
    · rw [if_neg h]
      by_cases e : p.1 = j
      · rw [valV_pos (p := p) e, valV_pos e, Option.map_some, if_neg (fun z => h (e.trans z))]
      · rw [valV_neg (p := p) e, valV_neg e, ih]
theorem valV_snoc (k j : κ) (y : V) : ∀ kvs : List (κ × V), valV kvs k = none → valV (kvs ++ [(k, y)]) j = if j = k then some y else valV kvs j
  | [], _ => by
    by_cases e : k = j
    · rw [if_pos e.symm]; exact valV_pos (p := (k, y)) e
    · rw [if_neg (fun z => e z.symm)]; exact valV_neg (p := (k, y)) e
  | p :: r, hn => by
    rw [List.cons_append]
    have hk : ¬ p.1 = k := fun z => by rw [valV_pos z] at hn; cases hn
    rw [valV_neg hk] at hn
    have ih := valV_snoc k j y r hn
    by_cases e : p.1 = j
    · rw [valV_pos e, valV_pos e, if_neg (fun z => hk (e.trans z))]
    · rw [valV_neg e, valV_neg e, ih]
theorem valV_put (kvs : List (κ × V)) (k j : κ) (y : V) : valV (putK kvs k y) j = if j = k then some y else valV kvs j := by
  unfold putK
  by_cases a : (kvs.any fun kv => decide (kv.1 = k)) = true
  · rw [if_pos a, valV_map]
    rw [valV_any] at a
    by_cases e : j = k
    · obtain ⟨x, hx⟩ := Option.isSome_iff_exists.mp a
      rw [if_pos e, e, hx, Option.map_some, if_pos rfl]
    · rw [if_neg e]
      cases valV kvs j with
      | none => rfl
      | some x => rw [Option.map_some, if_neg e]
  · rw [if_neg a]
    refine valV_snoc k j y kvs ?_
    rw [valV_any] at a
    cases q : valV kvs k with
    | none => rfl
    | some x => rw [q] at a; exact (a rfl).elim
theorem putK_new {kvs : List (κ × V)} {k : κ} (v : V) (h : valV kvs k = none) : putK kvs k v = kvs ++ [(k, v)] := by
  unfold putK
  rw [valV_any, h]
  exact if_neg (by decide)

theorem RelO.isSome_eq {o : Option V} {u : Option Value} (r : RelO o u) : o.isSome = u.isSome := by
  cases o with
  | none => cases u with
    | none => rfl
    | some _ => exact (show False from r).elim
  | some _ => cases u with
    | none => exact (show False from r).elim
    | some _ => rfl
theorem RelO.getD {o : Option V} {u : Option Value} {d : V} {d' : Value} (r : RelO o u) (rd : RelV d d') : RelV (o.getD d) (u.getD d') := by
  cases o with
  | none => cases u with
    | none => exact rd
    | some _ => exact (show False from r).elim
  | some _ => cases u with
    | none => exact (show False from r).elim
    | some _ => exact r

theorem KV.val {kvs : List (κ × V)} {vs : List (κ × Value)} (r : KV kvs vs) (k : κ) : RelO (valV kvs k) (valueAt vs k) := by
  unfold KV at r
  induction r with
  | nil => exact True.intro
  | @cons p q ps qs h t ih =>
    obtain ⟨h1, h2⟩ := h
    by_cases e : p.1 = k
    · have e' : q.1 = k := h1.symm.trans e
      have b : valueAt (q :: qs) k = some q.2 := by simp [valueAt, List.find?_cons, e']
      rw [valV_pos e, b]; exact h2
    · have e' : ¬ q.1 = k := fun z => e (h1.trans z)
      have b : valueAt (q :: qs) k = valueAt qs k := by simp [valueAt, List.find?_cons, e']
      rw [valV_neg e, b]; exact ih
theorem KV.any {kvs : List (κ × V)} {vs : List (κ × Value)} (r : KV kvs vs) (k : κ) : (kvs.any fun kv => decide (kv.1 = k)) = vs.any fun kv => decide (kv.1 = k) := by
  unfold KV at r
  induction r with
  | nil => rfl
  | cons h t ih => rw [List.any_cons, List.any_cons, ih, h.1]
theorem KV.repl {kvs : List (κ × V)} {vs : List (κ × Value)} (r : KV kvs vs) (k : κ) {y : V} {u : Value} (ry : RelV y u) :
    KV (kvs.map fun kv => if kv.1 = k then (kv.1, y) else kv) (vs.map fun kv => if kv.1 = k then (kv.1, u) else kv) := by
  unfold KV at r ⊢
  induction r with
  | nil => exact .nil
  | @cons p q ps qs h t ih =>
    rw [List.map_cons, List.map_cons]
    refine .cons ?_ ih
    obtain ⟨h1, h2⟩ := h
    by_cases e : p.1 = k
    · rw [if_pos e, if_pos (h1.symm.trans e)]; exact ⟨h1, ry⟩
    · rw [if_neg e, if_neg (fun z => e (h1.trans z))]; exact ⟨h1, h2⟩
theorem KV.put {kvs : List (κ × V)} {vs : List (κ × Value)} (r : KV kvs vs) (k : κ) {y : V} {u : Value} (ry : RelV y u) : KV (putK kvs k y) (stored vs k u) := by
  unfold putK stored
  rw [r.any k]
  by_cases e : (vs.any fun kv => decide (kv.1 = k)) = true
  · rw [if_pos e, if_pos e]; exact r.repl k ry
  · rw [if_neg e, if_neg e]; exact Paired.snoc r ⟨rfl, ry⟩
theorem KV.drop {kvs : List (κ × V)} {vs : List (κ × Value)} (r : KV kvs vs) (k : κ) : KV (dropK kvs k) (without vs k) := by
  unfold KV at r ⊢
  unfold dropK without
  induction r with
  | nil => exact .nil
  | @cons p q ps qs h t ih =>
    obtain ⟨h1, h2⟩ := h
    rw [List.filter_cons, List.filter_cons]
    by_cases e : p.1 = k
    · have a : ¬ decide (p.1 ≠ k) = true := by simp [e]
      have b : ¬ decide (q.1 ≠ k) = true := by simp [h1.symm.trans e]
      rw [if_neg a, if_neg b]; exact ih
    · have e' : ¬ q.1 = k := fun z => e (h1.trans z)
      have a : decide (p.1 ≠ k) = true := by simp [e]
      have b : decide (q.1 ≠ k) = true := by simp [e']
      rw [if_pos a, if_pos b]; exact .cons ⟨h1, h2⟩ ih
theorem KV.keys {kvs : List (κ × V)} {vs : List (κ × Value)} (r : KV kvs vs) : kvs.map (·.1) = vs.map (·.1) := by
  unfold KV at r
  induction r with
  | nil => rfl
  | cons h t ih => rw [List.map_cons, List.map_cons, ih, h.1]
theorem KV.length {kvs : List (κ × V)} {vs : List (κ × Value)} (r : KV kvs vs) : kvs.length = vs.length := Paired.length r
end


theorem kV_is {P : Program} {w : World} {k : Key} {u : Value} (r : RelV (kV k) u) : (mixKind P w).is k u = true := by
  cases k with
  | inl i => obtain ⟨t, e⟩ := (show ∃ t, u = Value.int i t from r); subst e; exact mixKind_int P w i t
  | inr x => obtain ⟨t, e⟩ := (show ∃ t, u = Value.str x t from r); subst e; exact mixKind_str P w x t
abbrev KT (H : Hp) : List (List Key × V) → List (List Key × Addr × Value) → Prop := Paired fun p q => p.1 = q.1 ∧ H q.2.1 = some (.tup (p.1.map kV)) ∧ RelV p.2 q.2.2
theorem KT.val {H : Hp} {kvs : List (List Key × V)} {xs : List (List Key × Addr × Value)} (r : KT H kvs xs) (k : List Key) : RelO (valV kvs k) ((atKey xs k).map (·.2)) := by
  induction r with
  | nil => exact True.intro
  | @cons p q ps qs h t ih =>
    obtain ⟨h1, _, h2⟩ := h
    by_cases e : p.1 = k
    · have e' : q.1 = k := h1.symm.trans e
      have b : atKey (q :: qs) k = some q.2 := by simp [atKey, List.find?_cons, e']
      rw [valV_pos e, b]; exact h2
    · have e' : ¬ q.1 = k := fun z => e (h1.trans z)
      have b : atKey (q :: qs) k = atKey qs k := by simp [atKey, List.find?_cons, e']
      rw [valV_neg e, b]; exact ih
theorem KT.repl {H : Hp} {kvs : List (List Key × V)} {xs : List (List Key × Addr × Value)} (r : KT H kvs xs) (k : List Key) {y : V} {u : Value} (ry : RelV y u) :
    KT H (kvs.map fun kv => if kv.1 = k then (kv.1, y) else kv) (xs.map (putAt k u)) := by
  induction r with
  | nil => exact .nil
  | @cons p q ps qs h t ih =>
    rw [List.map_cons, List.map_cons]
    refine .cons ?_ ih
    obtain ⟨h1, h2, h3⟩ := h
    unfold putAt
    by_cases e : p.1 = k
    · rw [if_pos e, if_pos (h1.symm.trans e)]; exact ⟨h1, h2, ry⟩
    · rw [if_neg e, if_neg (fun z => e (h1.trans z))]; exact ⟨h1, h2, h3⟩
theorem KT.put {H : Hp} {kvs : List (List Key × V)} {xs : List (List Key × Addr × Value)} (r : KT H kvs xs) (k : List Key) {b : Addr} {y : V} {u : Value} (hb : H b = some (.tup (k.map kV))) (ry : RelV y u) :
    KT H (putK kvs k y) (storedH xs k b u) := by
  have e : (kvs.any fun kv => decide (kv.1 = k)) = (atKey xs k).isSome := by
    rw [valV_any, (r.val k).isSome_eq, Option.isSome_map]
  unfold putK storedH
  rw [e]
  by_cases q : (atKey xs k).isSome = true
  · rw [if_pos q, if_pos q]; exact r.repl k ry
  · rw [if_neg q, if_neg q]; exact Paired.snoc r ⟨rfl, hb, ry⟩
theorem KT.keeps {H H' : Hp} {kvs : List (List Key × V)} {xs : List (List Key × Addr × Value)} (r : KT H kvs xs) (ht : ∀ b ys, H b = some (.tup ys) → H' b = some (.tup ys)) : KT H' kvs xs :=
  Paired.mapP r fun _ _ z => ⟨z.1, ht _ _ z.2.1, z.2.2⟩

section
variable {P : Program} {w : World} {H : Hp} {h : Heap} {a : Addr}
end

/-- y is the key k: an int, a text, or a truth -/
def KeyV (k : Key) (y : V) : Prop := y = kV k ∨ ∃ b, y = .bl b ∧ k = .inl (blI b)
theorem KeyV.is {P : Program} {w : World} {k : Key} {y : V} {u : Value} (h : KeyV k y) (r : RelV y u) : (mixKind P w).is k u = true := by
  rcases h with rfl | ⟨b, rfl, rfl⟩
  · exact kV_is r
  · cases (show u = Value.bool b from r)
    exact keyIs_bl b
def DGet (H : Hp) (a : Addr) (y : V) (r : Option V) : Prop :=
  (∃ kvs k, Rd H a (.dK kvs) ∧ KeyV k y ∧ r = valV kvs k) ∨ ∃ kvs k b, Rd H a (.dT kvs) ∧ y = .ref b ∧ H b = some (.tup (k.map kV)) ∧ r = valV kvs k
def DPut (H : Hp) (a : Addr) (y v : V) (H' : Hp) : Prop :=
  (∃ kvs k, H a = some (.dK kvs) ∧ KeyV k y ∧ kvs.length < sizeLine ∧ H' = upd H a (.dK (putK kvs k v))) ∨
  ∃ kvs k b, H a = some (.dT kvs) ∧ y = .ref b ∧ H b = some (.tup (k.map kV)) ∧ kvs.length < sizeLine ∧ H' = upd H a (.dT (putK kvs k v))
theorem DGet.k {H : Hp} {a : Addr} {kvs : List (Key × V)} {k : Key} (e : H a = some (.dK kvs)) : DGet H a (kV k) (valV kvs k) := .inl ⟨kvs, k, .inl e, .inl rfl, rfl⟩
theorem DGet.t {H : Hp} {a b : Addr} {kvs : List (List Key × V)} {k : List Key} (e : H a = some (.dT kvs)) (eb : H b = some (.tup (k.map kV))) : DGet H a (.ref b) (valV kvs k) := .inr ⟨kvs, k, b, .inl e, rfl, eb, rfl⟩
theorem DPut.k {H : Hp} {a : Addr} {kvs : List (Key × V)} {k : Key} {v : V} (e : H a = some (.dK kvs)) (hl : kvs.length < sizeLine) : DPut H a (kV k) v (upd H a (.dK (putK kvs k v))) := .inl ⟨kvs, k, e, .inl rfl, hl, rfl⟩
theorem DPut.t {H : Hp} {a b : Addr} {kvs : List (List Key × V)} {k : List Key} {v : V} (e : H a = some (.dT kvs)) (eb : H b = some (.tup (k.map kV))) (hl : kvs.length < sizeLine) :
    DPut H a (.ref b) v (upd H a (.dT (putK kvs k v))) := .inr ⟨kvs, k, b, e, rfl, eb, hl, rfl⟩


section
variable {X : Cx} {pins : List (Addr × Obj)} {σ : St} {H : Hp} {s : Shared} {a : Addr} {y v : V} {u r : Value} {o : Option V} {A : Around} {E : Value → Shared → Prop}

end

section
variable {X : Cx} {pins : List (Addr × Obj)} {σ : St} {H : Hp} {s : Shared} {a : Addr} {kvs : List (Key × V)} {k : Key} {u : Value} {A : Around} {E : Value → Shared → Prop}
end


def tDGet (td ty : TE) : TE := fun σ H Q => td σ H fun x H1 => ty σ H1 fun y H2 => ∃ a v, x = .ref a ∧ DGet H2 a y (some v) ∧ Q v H2
def sDPut (td ty tv : TE) : TS := fun D σ H => tv σ H fun v H1 => td σ H1 fun x H2 => ty σ H2 fun y H3 => ∃ a H4, x = .ref a ∧ DPut H3 a y v H4 ∧ D.nx σ H4
section
variable {X : Cx} {o i e value : Expr} {pos pos' tpos : Pos} {td ty tv : TE}
end


section
variable {X : Cx} {pos : Pos}
end

def tPairs : List (TE × TE) → St → Hp → (List (V × V) → Hp → Prop) → Prop
  | [], _, H, Q => Q [] H
  | (tk, tv) :: r, σ, H, Q => tk σ H fun x H1 => tv σ H1 fun y H2 => tPairs r σ H2 fun ps H3 => Q ((x, y) :: ps) H3
def mergeK (kvs more : List (Key × V)) : List (Key × V) := more.foldl (fun acc kv => putK acc kv.1 kv.2) kvs
def tDisp (trs : List (TE × TE)) : TE := fun σ H Q => ∀ p, H p = none → tPairs trs σ (upd H p (.dK [])) fun ps H2 => H2 p = some (.dK []) ∧ ∃ kvs : List (Key × V), ps = kvs.map (fun kv => (kV kv.1, kv.2)) ∧ kvs.length ≤ 15 ∧ Q (.ref p) (upd H2 p (.dK (mergeK [] kvs)))
structure M1 (X : Cx) (o : Expr) (m : Str) (apos : Pos) (e : Expr) (cpos : Pos) : Prop where
  base : attributeBase o m X.env (eval o X.env) = eval o X.env
  few : ((backTo cpos (starEach [e] X.env)).all (fun x => !x.1) && (backToKw cpos (keywordEach [] X.env)).all (fun x => x.1.isSome)
    && decide (([e] : List Expr).length + ([] : List Keyword).length + (if ([] : List Keyword).isEmpty then 0 else 1) < 30)) = true
  line : (apos.endLine == cpos.line) = true
  trees : backTo cpos (starEach [e] X.env) = [(false, eval e X.env)]
structure M2 (X : Cx) (o : Expr) (m : Str) (apos : Pos) (e f : Expr) (cpos : Pos) : Prop where
  base : attributeBase o m X.env (eval o X.env) = eval o X.env
  few : ((backTo cpos (starEach [e, f] X.env)).all (fun x => !x.1) && (backToKw cpos (keywordEach [] X.env)).all (fun x => x.1.isSome)
    && decide (([e, f] : List Expr).length + ([] : List Keyword).length + (if ([] : List Keyword).isEmpty then 0 else 1) < 30)) = true
  line : (apos.endLine == cpos.line) = true
  trees : backTo cpos (starEach [e, f] X.env) = [(false, eval e X.env), (false, eval f X.env)]

def IsD (H : Hp) (a : Addr) : Prop := (∃ kvs, Rd H a (.dK kvs)) ∨ ∃ kvs, Rd H a (.dT kvs)
section
variable {X : Cx} {pins : List (Addr × Obj)} {σ : St} {H : Hp} {s : Shared} {a : Addr} {y d : V} {u r : Value} {o : Option V} {A : Around} {E : Value → Shared → Prop}
end

def tDGet2 (td ty tx : TE) : TE := fun σ H Q => td σ H fun x H1 => ∃ a, x = .ref a ∧ IsD H1 a ∧ ty σ H1 fun y H2 => tx σ H2 fun z H3 => ∃ o, DGet H3 a y o ∧ Q (o.getD z) H3
section
variable {X : Cx} {o e f : Expr} {apos cpos : Pos} {td ty tx : TE}
end

section
variable {X : Cx} {pins : List (Addr × Obj)} {σ : St} {H : Hp} {s : Shared} {a : Addr} {kvs : List (Key × V)} {A : Around} {E : Value → Shared → Prop}
end


section
variable {X : Cx} {pins : List (Addr × Obj)} {σ : St} {H : Hp} {s : Shared} {a : Addr} {y : V} {u : Value} {A : Around} {E : Value → Shared → Prop}
end
end L2

namespace Att
open PySem PySem.W PySem.Calls PyProof.Rows

section
variable {prog : Program} {w : World} {A : Around} {E : Value → Shared → Prop} {s : Shared} {K : Frag}

end
end Att

namespace L2
open PySem PySem.Spec PyProof.Rows

end L2

namespace L2
open PySem PySem.Spec PyProof.Rows

end L2


namespace L2
open PySem PySem.Spec PyProof.Rows

section
variable {P : Program} {w : World} {K : PySem.W.Frag} {mg : Str → Option Value} {base : Heap}
end
section
variable {X : Cx}
end

section
variable {κ : Type} [DecidableEq κ]
theorem nd_snoc : ∀ {l : List κ} {k : κ}, l.Nodup → ¬ k ∈ l → (l ++ [k]).Nodup
  | [], k, _, _ => by simp
  | a :: r, k, h, hk => by
    obtain ⟨h1, h2⟩ := List.nodup_cons.mp h
    show (a :: (r ++ [k])).Nodup
    refine List.nodup_cons.mpr ⟨fun m => ?_, nd_snoc h2 fun m => hk (List.mem_cons.mpr (Or.inr m))⟩
    rcases List.mem_append.mp m with q | q
    · exact h1 q
    · exact hk (List.mem_cons.mpr (Or.inl (List.mem_singleton.mp q).symm))
end
end L2

set_option Elab.async false
set_option linter.all false
set_option maxRecDepth 100000
/-! COMPREHENSIONS over the hand layer -/
namespace L2
open PySem PySem.Spec PyProof.Rows

/-! ### the closure of a comprehension -/
theorem closure_go (env : Env) : ∀ (names : List (Str × NameKind)) (cs : List (Str × Addr)),
    (∀ p ∈ names, p.2 = .free → ∃ c, env.cells.lookup p.1 = some c) → (∀ x c, cs.lookup x = some c → env.cells.lookup x = some c) →
    ∃ cl : List (Str × Addr), (forIn names cs fun (p : Str × NameKind) (r : List (Str × Addr)) => (if (p.2 == NameKind.free) = true then (do let c ← cellOf env p.1; pure (ForInStep.yield ((p.1, c) :: r))) else pure (ForInStep.yield r) : Sem (ForInStep (List (Str × Addr))))) = (pure cl : Sem (List (Str × Addr))) ∧
      (∀ x c, cl.lookup x = some c → env.cells.lookup x = some c) ∧ (∀ x, (cs.lookup x).isSome = true → (cl.lookup x).isSome = true) ∧ (∀ p ∈ names, p.2 = .free → (cl.lookup p.1).isSome = true)
  | [], cs, _, h2 => ⟨cs, rfl, h2, fun _ h => h, fun _ h => nomatch h⟩
  | (n, k) :: r, cs, h1, h2 => by
    have h1' : ∀ p ∈ r, p.2 = .free → ∃ c, env.cells.lookup p.1 = some c := fun p hp => h1 p (List.mem_cons_of_mem _ hp)
    by_cases hk : (k == NameKind.free) = true
    · have hk' : k = .free := by simpa using hk
      obtain ⟨c, hc⟩ := h1 (n, k) List.mem_cons_self hk'
      have h2' : ∀ x c', ((n, c) :: cs).lookup x = some c' → env.cells.lookup x = some c' := fun x c' e => by
        rw [List.lookup_cons] at e
        cases hx : x == n with
        | true =>
          rw [hx] at e
          have e1 : x = n := by simpa using hx
          rw [e1, hc]; exact e
        | false => rw [hx] at e; exact h2 x c' e
      obtain ⟨cl, e1, e2, e3, e4⟩ := closure_go env r ((n, c) :: cs) h1' h2'
      have hn : (((n, c) :: cs).lookup n).isSome = true := by rw [List.lookup_cons, beq_self_eq_true]; rfl
      refine ⟨cl, ?_, e2, fun x hx => e3 x ?_, fun p hp hf => ?_⟩
      · rw [List.forIn_cons]
        have q : cellOf env n = pure c := by unfold cellOf; rw [hc]
        simp only [hk, if_true, q]
        exact e1
      · rw [List.lookup_cons]
        cases x == n with
        | true => rfl
        | false => exact hx
      · rcases List.mem_cons.mp hp with e | hp
        · rw [e]; exact e3 n hn
        · exact e4 p hp hf
    · obtain ⟨cl, e1, e2, e3, e4⟩ := closure_go env r cs h1' h2
      refine ⟨cl, ?_, e2, e3, fun p hp hf => ?_⟩
      · rw [List.forIn_cons]
        have hkf : (k == NameKind.free) = false := by simpa using hk
        simp only [hkf, Bool.false_eq_true, if_false]
        exact e1
      · rcases List.mem_cons.mp hp with e | hp
        · rw [e] at hf; exact absurd (by simpa using hf) hk
        · exact e4 p hp hf
theorem closure_of {scope : Scope} {env : Env} (h : ∀ p ∈ scope.names, p.2 = .free → ∃ c, env.cells.lookup p.1 = some c) :
    ∃ cl, closureFor scope env = pure cl ∧ (∀ x c, cl.lookup x = some c → env.cells.lookup x = some c) ∧ (∀ p ∈ scope.names, p.2 = .free → ∃ c, cl.lookup p.1 = some c) := by
  obtain ⟨cl, e1, e2, _, e4⟩ := closure_go env scope.names [] h (fun x c e => by simp at e)
  refine ⟨cl, ?_, e2, fun p hp hf => Option.isSome_iff_exists.mp (e4 p hp hf)⟩
  have q : closureFor scope env = (forIn scope.names [] fun (p : Str × NameKind) (r : List (Str × Addr)) => (if (p.2 == NameKind.free) = true then (do let c ← cellOf env p.1; pure (ForInStep.yield ((p.1, c) :: r))) else pure (ForInStep.yield r) : Sem (ForInStep (List (Str × Addr))))) >>= pure := by
    unfold closureFor
    rfl
  rw [q, e1]
  rfl

/-! ### what the block's names are -/
theorem relabel_free {env : Env} : ∀ {names : List (Str × NameKind)} {x : Str}, (∀ y ∈ names, y.2 ≠ .cell) →
    ((names.map fun (n, k) => if (k == NameKind.free && env.scope.kind == .function && env.kindOf n == some .cell) then (n, NameKind.cell) else (n, k)).lookup x = some .cell ∨
     (names.map fun (n, k) => if (k == NameKind.free && env.scope.kind == .function && env.kindOf n == some .cell) then (n, NameKind.cell) else (n, k)).lookup x = some .free) → (x, NameKind.free) ∈ names
  | [], _, _, h => by simp at h
  | (n, k) :: r, x, hc, h => by
    have ih := @relabel_free env r x (fun y hy => hc y (List.mem_cons_of_mem _ hy))
    simp only [List.map_cons] at h
    cases hx : x == n with
    | true =>
      have e : x = n := by simpa using hx
      subst e
      by_cases hh : (k == NameKind.free && env.scope.kind == .function && env.kindOf x == some .cell) = true
      · have : k = .free := by
          simp only [Bool.and_eq_true] at hh
          simpa using hh.1.1
        subst this
        exact List.mem_cons_self
      · rw [if_neg hh] at h
        simp only [List.lookup_cons, hx] at h
        rcases h with h | h
        · have : k = .cell := Option.some.inj h
          exact absurd this (hc (x, k) List.mem_cons_self)
        · have : k = .free := Option.some.inj h
          subst this
          exact List.mem_cons_self
    | false =>
      refine List.mem_cons_of_mem _ (ih ?_)
      by_cases hh : (k == NameKind.free && env.scope.kind == .function && env.kindOf n == some .cell) = true
      · rw [if_pos hh] at h
        simpa only [List.lookup_cons, hx] using h
      · rw [if_neg hh] at h
        simpa only [List.lookup_cons, hx] using h
theorem relabel_kind {env : Env} : ∀ {names : List (Str × NameKind)} {x : Str}, names.lookup x = some .free →
    ((names.map fun (n, k) => if (k == NameKind.free && env.scope.kind == .function && env.kindOf n == some .cell) then (n, NameKind.cell) else (n, k)).lookup x = some .cell ∨
     (names.map fun (n, k) => if (k == NameKind.free && env.scope.kind == .function && env.kindOf n == some .cell) then (n, NameKind.cell) else (n, k)).lookup x = some .free)
  | [], _, h => by simp at h
  | (n, k) :: r, x, h => by
    have ih := @relabel_kind env r x
    simp only [List.map_cons]
    cases hx : x == n with
    | true =>
      simp only [List.lookup_cons, hx] at h
      have e : k = .free := Option.some.inj h
      subst e
      by_cases hh : (NameKind.free == NameKind.free && env.scope.kind == .function && env.kindOf n == some .cell) = true
      · rw [if_pos hh]; left; simp only [List.lookup_cons, hx]
      · rw [if_neg hh]; right; simp only [List.lookup_cons, hx]
    | false =>
      simp only [List.lookup_cons, hx] at h
      by_cases hh : (k == NameKind.free && env.scope.kind == .function && env.kindOf n == some .cell) = true
      · rw [if_pos hh]; simpa only [List.lookup_cons, hx] using ih h
      · rw [if_neg hh]; simpa only [List.lookup_cons, hx] using ih h

/-! ### the block's context -/
/-- a comprehension's block: tn its own names, cp the captured ones with their slots -/
def cxB (X : Cx) (scope : Scope) (tn : List Str) (cp : List (Nat × Str)) (cl : List (Str × Addr)) (C : Addr) (s : Shared) (H : Hp) (fp : List Addr) : Cx :=
  { X with N := tn ++ cp.map (·.2), s₀ := s, H₀ := H, env := compEnvC scope cl C X.env, outer := X.stack, ex := fp, fn := fun _ => false, pn := [], xe := fun _ _ => False }
def stB (tn : List Str) (cp : List (Nat × Str)) (σ : St) : St := List.replicate tn.length none ++ cp.map fun p => (σ[p.1]?).getD none

/-- what must be known of the comprehension's scope in X -/
structure CompOk (X : Cx) (scope : Scope) (cp : List (Nat × Str)) : Prop where
  kind : scope.kind = .function
  nocell : ∀ y ∈ scope.names, y.2 ≠ .cell
  names : ∀ y ∈ scope.names, y.2 = .local → scope.names.lookup y.1 = some .local
  free : ∀ y ∈ scope.names, y.2 = .free → X.env.kindOf y.1 = some .cell ∨ X.env.kindOf y.1 = some .free
  cap : ∀ p ∈ cp, X.N[p.1]? = some p.2 ∧ scope.names.lookup p.2 = some .free

section
variable {X : Cx} {pins : List (Addr × Obj)} {σ : St} {H : Hp} {s : Shared} {scope : Scope} {tn : List Str} {cp : List (Nat × Str)} {cl : List (Str × Addr)} {fp : List Addr}

theorem mem_of_lookup' {α : Type} : ∀ {l : List (Str × α)} {x : Str} {v : α}, l.lookup x = some v → (x, v) ∈ l
  | [], _, _, h => by simp at h
  | (n, k) :: r, x, v, h => by
    rw [List.lookup_cons] at h
    cases hx : x == n with
    | true =>
      rw [hx] at h
      have e : x = n := by simpa using hx
      have e2 : k = v := Option.some.inj h
      subst e e2
      exact List.mem_cons_self
    | false => rw [hx] at h; exact List.mem_cons_of_mem _ (mem_of_lookup' h)

/-- the block at its start -/
theorem block_start {h₁ : Heap} {t' : Nat} {m0 : Str → Option Value} (I : Inv X pins σ H s) (O : CompOk X scope cp) (hcl1 : ∀ x c, cl.lookup x = some c → X.env.cells.lookup x = some c) (hcl2 : ∀ p ∈ scope.names, p.2 = .free → ∃ c, cl.lookup p.1 = some c)
    (hf : ∀ b ∈ fp, FpOk X pins H b ∧ b < s.heap.objs.size) (hns : h₁.Ns s.heap.objs.size m0) (hk : ∀ b o, s.heap.get? b = some o → h₁.get? b = some o) :
    Inv (cxB X scope tn cp cl s.heap.objs.size s H fp) [] (stB tn cp σ) H { s with heap := h₁, toks := t' } := by
  have ok : (cxB X scope tn cp cl s.heap.objs.size s H fp).Ok := by
    refine ⟨I.ok.mod, O.kind, I.ok.glob, I.ok.blt, Nat.le_refl _, fun x y c e1 e2 => I.ok.inj x y c (hcl1 x c e1) (hcl1 y c e2), fun x hx => ?_, fun x c hx => (by cases hx), I.ok.hd, I.ok.frames, .inl rfl, fun b hb => ⟨Nat.ne_of_lt (hf b hb).2, fun x c e => ?_⟩,
      fun b o e => I.bs b o e, Nat.le_trans I.ok.bsz I.sz, fun b o e hb => ?_, fun b hb hb' => ?_, I.stack, I.stkFree⟩
    · exact hcl2 (x, .free) (relabel_free O.nocell hx) rfl
    · exact (hf b hb).1.2.2.2.2.1 x c (hcl1 x c e)
    · rcases (hf b hb).1.2.2.2.1 with z | z
      · exact I.ok.noex b o e z
      · exact absurd (Nat.lt_of_lt_of_le (Heap.lt_size e) (Nat.le_trans I.ok.bsz z)) (Nat.lt_irrefl _)
    · rcases List.mem_cons.mp (I.stkSub b hb') with z | z
      · exact (hf b hb).1.2.1 z
      · exact (hf b hb).1.2.2.1 z
  refine ⟨ok, rfl, I.bare, Un.kept hk, ⟨m0, hns, fun i x v e1 e2 e3 => ?_⟩, fun x c e => ?_, I.hok.fresh (Nat.le_refl _), fun x c e => I.freeC x c (hcl1 x c e), fun p hp => by simp [cxB] at hp, I.hok.kept hk, ?_⟩
  · -- a captured name
    have e1' : (tn ++ cp.map (·.2))[i]? = some x := e1
    have e2' : (List.replicate tn.length none ++ cp.map fun p => (σ[p.1]?).getD none)[i]? = some (some v) := e2
    by_cases hi : i < tn.length
    · rw [List.getElem?_append_left (by simpa using hi)] at e2'
      rw [List.getElem?_replicate, if_pos hi] at e2'
      cases e2'
    · rw [List.getElem?_append_right (by simpa using Nat.le_of_not_lt hi), List.length_replicate, List.getElem?_map] at e2'
      rw [List.getElem?_append_right (Nat.le_of_not_lt hi), List.getElem?_map] at e1'
      cases hp : cp[i - tn.length]? with
      | none => rw [hp] at e1'; cases e1'
      | some p =>
        rw [hp] at e1' e2'
        have e1'' : p.2 = x := Option.some.inj e1'
        have e2'' : (σ[p.1]?).getD none = some v := Option.some.inj e2'
        obtain ⟨c1, c2⟩ := O.cap p (List.mem_of_getElem? hp)
        rw [e1''] at c1 c2
        have hs : σ[p.1]? = some (some v) := by
          cases q : σ[p.1]? with
          | none => rw [q] at e2''; cases e2''
          | some z => rw [q] at e2''; exact congrArg some e2''
        have hk' := O.free (x, .free) (mem_of_lookup' c2) rfl
        have hvis : Vis X.env.scope x := by
          rcases hk' with z | z
          · exact .inr (.inl z)
          · exact .inr (.inr z)
        obtain ⟨m, hn, hl⟩ := I.loc
        obtain ⟨u, r, l⟩ := hl p.1 x v c1 hs hvis
        refine ⟨u, r, .inr ?_⟩
        rcases l with ⟨z, _⟩ | ⟨_, c, hc, o, ho, hd⟩
        · rcases hk' with y | y <;> (rw [z] at y; cases y)
        · obtain ⟨c', hc'⟩ := hcl2 (x, .free) (mem_of_lookup' c2) rfl
          have : c' = c := Option.some.inj ((hcl1 x c' hc').symm.trans hc)
          subst this
          exact ⟨relabel_kind c2, c', hc', o, hk c' o ho, hd⟩
  · obtain ⟨v, o, ho, hd⟩ := I.cell x c (hcl1 x c e)
    exact ⟨v, o, hk c o ho, hd⟩
  · show (stB tn cp σ).length = (tn ++ cp.map (·.2)).length
    unfold stB
    simp

/-- back from the block -/
theorem block_end {σ' : St} {H' : Hp} {s' : Shared} {h' : Heap} {pinsB : List (Addr × Obj)} (I : Inv X pins σ H s) (hf : ∀ b ∈ fp, FpOk X pins H b)
    (J : Inv (cxB X scope tn cp cl s.heap.objs.size s H fp) pinsB σ' H' s') (hs : Heap.SameBut s.heap.objs.size s'.heap h') : Inv X pins σ H' { s' with heap := h' } := by
  have ne : ∀ b o, s.heap.get? b = some o → b ≠ s.heap.objs.size := fun b o e => Nat.ne_of_lt (Heap.lt_size e)
  have U : Un (frs X.stack) fp H H' s.heap h' := by
    have u : Un (frs X.stack) fp H H' s.heap s'.heap := J.base
    refine ⟨fun b o e n h1 h2 => (hs.2 b (ne b o e)).trans (u.keep b o e n h1 h2), fun b o e n h1 h2 => ?_, u.free, fun b o e h2 => ?_, u.tups, u.frzs, u.tbls⟩
    · obtain ⟨sl, q⟩ := u.slot b o e n h1 h2
      exact ⟨sl, (hs.2 b (ne b o e)).trans q⟩
    · obtain ⟨o', q⟩ := u.there b o e h2
      exact ⟨o', (hs.2 b (ne b o e)).trans q⟩
  have fr : H' s.heap.objs.size = none := J.free
  have hok : HOk X.prog X.w H' h' := fun b ob e => by
    refine (J.hok b ob e).stay (fun c v hc q => (hs.2 c ?_).trans q) (fun _ q => q) (fun _ _ _ _ _ q => q) fun _ _ q => q
    rintro rfl
    rcases hc with z | z
    · rw [← z, fr] at e; cases e
    · rw [fr] at z; cases z
  refine I.call' (s' := { s' with heap := h' }) (ch := fp) J.os U hok J.bare fun b hb => ?_
  obtain ⟨_, f1, _, f3, f4, f5⟩ := hf b hb
  exact ⟨f3, f1, f4, f5⟩
end

/-! ### the tests of a comprehension -/
def PIfs (X : Cx) (ifs : List Expr) (t : TT) : Prop :=
  ∀ (pins : List (Addr × Obj)) (s : Shared) (σ : St) (H : Hp) (Q : Bool → Hp → Prop), Inv X pins σ H s → t σ H Q →
    wpAny (model X.prog X.w) X.A (forIn ifs true fun c r => if r = true then do let ok ← isTrue c X.env (eval c X.env); pure (ForInStep.yield ok) else pure (ForInStep.yield r)) (TP X pins σ Q) X.xe s
def tYes : TT := fun _ H Q => Q true H
theorem pf_nil {X : Cx} : PIfs X [] tYes := fun _ _ _ H _ I h => wpAny_tests_nil ⟨H, I, h⟩
theorem pf_one {X : Cx} {c : Expr} {t : TT} (h : PT X c t) : PIfs X [c] t := fun pins s σ H Q I hw => wpAny_tests_one (h pins s σ H Q I hw)

/-! ### the loop -/
theorem compLoop_own {prog : Program} {w : World} {A : Around} {R : Result → Shared → Prop} {s : Shared} {elt target iter : Expr} {ifs : List Expr} {scope : Scope} {pos : Pos} {it acc : Value} {env : Env} (I : Nat → Shared → Prop)
    (turn : ∀ n s, I n s → wpAny (model prog w) A (pyNext it) (fun r s₁ => match r with
      | none => R (.ok .next) s₁
      | some v => wpAny (model prog w) A (letOwnedTupleGo target it v) (fun _ s₂ => wpAny (model prog w) A (assign target env v) (fun _ s₃ =>
          wpAny (model prog w) A (forIn ifs true fun c r => if r = true then do let ok ← isTrue c env (eval c env); pure (ForInStep.yield ok) else pure (ForInStep.yield r)) (fun ok s₄ =>
            if ok = true then wpAny (model prog w) A (eval elt env) (fun x s₅ =>
              wpAny (model prog w) A (call (.builtin "list.append") [acc, x]) (fun _ s₆ => ∃ m, m < n ∧ I m s₆) (fun _ _ => False) s₅) (fun _ _ => False) s₄
            else ∃ m, m < n ∧ I m s₄) (fun _ _ => False) s₃) (fun _ _ => False) s₂) (fun _ _ => False) s₁) (fun _ _ => False) s)
    (n : Nat) (h : I n s) :
    codeAny (model prog w) A (.compLoop (.ListComp elt [⟨target, iter, ifs, 0⟩] scope pos) 0 it acc env) R s := by
  refine codeAny_loop rfl I (fun n s hI => ?_) n h
  show wpAny _ A ((compTurn (.ListComp elt [⟨target, iter, ifs, 0⟩] scope pos) 0 it acc env).onRaise (fun x => do noteFrame x env; theTreesLotGoes x)) _ _ s
  refine wpAny_noted ?_
  rw [compTurn_list]
  refine wpAny_bind (wpAny_standAt (wpAny_bind (wpAny_mono (turn n s hI) (fun r s₁ h₁ => ?_) fun _ _ f => f.elim)))
  cases r with
  | none => exact wpAny_pure h₁
  | some v =>
    refine wpAny_bind (wpAny_mono h₁ (fun _ s₂ h₂ => ?_) fun _ _ f => f.elim)
    refine wpAny_bind (wpAny_mono h₂ (fun _ s₃ h₃ => wpAny_bind (wpAny_mono h₃ (fun ok s₄ h₄ => ?_) fun _ _ f => f.elim)) fun _ _ f => f.elim)
    cases ok with
    | false => exact wpAny_pure ⟨rfl, h₄⟩
    | true =>
      exact wpAny_bind (wpAny_bind (wpAny_mono h₄ (fun x s₅ h₅ => wpAny_bind (wpAny_mono h₅ (fun _ s₆ h₆ => wpAny_pure (wpAny_pure ⟨rfl, h₆⟩)) fun _ _ f => f.elim)) fun _ _ f => f.elim))

/-! ### the rule -/
/-- [e for g in it if t]: D the new list; W the invariant by the turn and a measure -/
def tComp (tn : List Str) (cp : List (Nat × Str)) (wi : TI) (g : TG) (tif : TT) (te : TE) : TE := fun σ H Q => wi σ H fun J H1 => ∀ D, H1 D = none → ∃ W : Nat → Nat → St → Hp → Prop,
  (∃ m, W 0 m (stB tn cp σ) (upd H1 D (.lst []))) ∧ ∀ i m σb Hb, W i m σb Hb →
    (J.stop i Hb ∧ Q (.ref D) Hb) ∨ (J.go i Hb ∧ ∀ x H', J.yld i Hb x H' → g x σb H' fun σ2 H2 => tif σ2 H2 fun c H3 =>
      if c = true then te σ2 H3 fun y H4 => ∃ ys, H4 D = some (.lst ys) ∧ ys.length < sizeLine ∧ ∃ m', m' < m ∧ W (i + 1) m' σ2 (upd H4 D (.lst (ys ++ [y])))
      else ∃ m', m' < m ∧ W (i + 1) m' σ2 H3)

/-- the whole of it: fin is what is asked when the last item is taken -/
theorem lcomp_core {X : Cx} {elt tg iter : Expr} {ifs : List Expr} {scope : Scope} {pos cpos : Pos} {wi : TI} {g : TG} {tif : TT} {te : TE} (tn : List Str) (cp : List (Nat × Str)) (O : CompOk X scope cp) (hc : X.calm = true) (hi : PI X tg iter wi)
    (hg : ∀ cl C s H fp, PG (cxB X scope tn cp cl C s H fp) tg g) (hif : ∀ cl C s H fp, PIfs (cxB X scope tn cp cl C s H fp) ifs tif) (he : ∀ cl C s H fp, PE (cxB X scope tn cp cl C s H fp) elt te)
    (hs : ∀ x, foldedSetIterable iter X.env x = pure x) {pins : List (Addr × Obj)} {s : Shared} {σ : St} {H : Hp} {Q : VK} {R : Value → Shared → Prop} {use : Option (Value → Sem Unit)} (I : Inv X pins σ H s) (h : tComp tn cp wi g tif te σ H Q)
    (fin : ∀ (D C : Addr) (H5 : Hp) (s5 : Shared) (m : Str → Option Value), Inv X pins σ H5 s5 → FpOk X pins H5 C → s5.heap.Ns C m → Q (.ref D) H5 → compPost (model X.prog X.w) X.A X.xe use R (.ref D) C (.ok .next) s5) :
    wpAny (model X.prog X.w) X.A (comprehension (.ListComp elt [⟨tg, iter, ifs, 0⟩] scope pos) scope X.env cpos (newList []) false (eval iter X.env) use) R X.xe s := by
  obtain ⟨cl, hcl, hcl1, hcl2⟩ := closure_of (scope := scope) (env := X.env) fun p hp hf => I.ok.has p.1 (O.free p hp hf)
  refine wpAny_comprehension_free (use := use) rfl hs hcl O.kind O.names (thn (hi pins s σ H _ I h) fun v s1 h1 => thn h1 fun itv s2 h2 => ?_)
  obtain ⟨it, fp, tn', J, H2, rfl, I2, T, st2, f2, rest⟩ := h2
  refine wpAny_newObj_type ?_
  have I3 : Inv X pins σ (upd H2 s2.heap.objs.size (.lst [])) { s2 with heap := s2.heap.push { cls := .type "list", data := .seq ([] : List Value).toArray } } := I2.lnew (its := []) (t' := s2.toks) .nil (Nat.zero_le _)
  obtain ⟨W, ⟨m0, w0⟩, turn⟩ := rest s2.heap.objs.size I2.fresh
  have fpl : ∀ b ∈ fp, b < s2.heap.objs.size := fun b hb => by
    obtain ⟨o, e, _⟩ := T.obj _ _ st2 b hb
    exact Heap.lt_size e
  have f3 : ∀ b ∈ fp, FpOk X pins (upd H2 s2.heap.objs.size (.lst [])) b := fun b hb => ⟨by rw [upd_ne (Nat.ne_of_lt (fpl b hb))]; exact (f2 b hb).1, (f2 b hb).2⟩
  have sz3 : (s2.heap.push { cls := .type "list", data := .seq ([] : List Value).toArray }).objs.size = s2.heap.objs.size + 1 := Heap.size_push ..
  refine wpAny_newFunctionEnv O.nocell (by intro y hy; simp at hy) (fun h₁ hns hsb => ?_) O.kind
  have hk1 : ∀ b o, (s2.heap.push { cls := .type "list", data := .seq ([] : List Value).toArray }).get? b = some o → h₁.get? b = some o := fun b o e =>
    hsb.extBut b o (Nat.ne_of_lt (Heap.lt_size e)) (Heap.get?_push_of_some _ e)
  have J3 := block_start (tn := tn) (cp := cp) (t' := s2.toks + ([] : List (Str × Value)).length) I3 O hcl1 hcl2 (fun b hb => ⟨f3 b hb, by rw [sz3]; exact Nat.lt_succ_of_lt (fpl b hb)⟩) hns hk1
  have st3 : tn' 0 h₁ := T.keep _ _ _ st2 fun b hb o e => hk1 b o (Heap.get?_push_of_some _ e)
  show codeAny _ _ (.compStart _ 0 (.ref it) (.ref s2.heap.objs.size) (compEnvC scope cl (s2.heap.push { cls := .type "list", data := .seq ([] : List Value).toArray }).objs.size X.env)) _ _
  generalize hXB : cxB X scope tn cp cl (s2.heap.push { cls := .type "list", data := .seq ([] : List Value).toArray }).objs.size { s2 with heap := s2.heap.push { cls := .type "list", data := .seq ([] : List Value).toArray } } (upd H2 s2.heap.objs.size (.lst [])) fp = XB at J3
  have hprog : XB.prog = X.prog := by rw [← hXB]; rfl
  have hw : XB.w = X.w := by rw [← hXB]; rfl
  have hK : XB.K = X.K := by rw [← hXB]; rfl
  have hA : XB.A = X.A := by rw [← hXB]; rfl
  have henv : XB.env = compEnvC scope cl (s2.heap.push { cls := .type "list", data := .seq ([] : List Value).toArray }).objs.size X.env := by rw [← hXB]; rfl
  have hcalm : XB.calm = true := by rw [← hXB]; exact hc
  have hxe : XB.xe = fun _ _ => False := by rw [← hXB]; rfl
  have hgB : PG XB tg g := by rw [← hXB]; exact hg _ _ _ _ _
  have hifB : PIfs XB ifs tif := by rw [← hXB]; exact hif _ _ _ _ _
  have heB : PE XB elt te := by rw [← hXB]; exact he _ _ _ _ _
  have fB : ∀ (pb : List (Addr × Obj)) (Hb : Hp), (∀ b ∈ fp, Hb b = none) → (∀ b ∈ fp, ∀ p ∈ XB.pn ++ pb, p.1 ≠ b) → ∀ b ∈ fp, FpOk XB pb Hb b := fun pb Hb hn hp b hb => by
    refine ⟨hn b hb, ?_, ?_, .inl (by rw [← hXB]; exact hb), fun x c e => ?_, hp b hb⟩
    · rw [henv]; show b ≠ (s2.heap.push { cls := .type "list", data := .seq ([] : List Value).toArray }).objs.size
      rw [sz3]; exact Nat.ne_of_lt (Nat.lt_succ_of_lt (fpl b hb))
    · rw [← hXB]
      show b ∉ frs X.stack
      intro z
      rcases List.mem_cons.mp (I2.stkSub b z) with y | y
      · exact (f2 b hb).2.1 y
      · exact (f2 b hb).2.2.1 y
    · rw [henv] at e
      exact (f2 b hb).2.2.2.2.1 x c (hcl1 x c e)
  have pn0 : XB.pn = [] := by rw [← hXB]; rfl
  have loop : ∀ s₃ : Shared, s₃ = { s2 with heap := h₁, toks := s2.toks + ([] : List (Str × Value)).length } →
      codeAny (model X.prog X.w) X.A (.compLoop (.ListComp elt [⟨tg, iter, ifs, 0⟩] scope pos) 0 (.ref it) (.ref s2.heap.objs.size) XB.env)
        (compPost (model X.prog X.w) X.A X.xe use R (.ref s2.heap.objs.size) (s2.heap.push { cls := .type "list", data := .seq ([] : List Value).toArray }).objs.size) s₃ := by
    rintro s₃ rfl
    refine compLoop_own (fun n s' => ∃ i σb Hb, Inv XB [] σb Hb s' ∧ tn' i s'.heap ∧ (∀ b ∈ fp, Hb b = none) ∧ W i n σb Hb) ?_ m0 ⟨0, stB tn cp σ, _, J3, st3, fun b hb => (f3 b hb).1, w0⟩
    rintro n s4 ⟨i, σ4, H4, I4, st4, fr4, w4⟩
    rcases turn i n σ4 H4 w4 with ⟨stop, qn⟩ | ⟨go, step⟩
    · have d := T.done XB hprog hw hK hcalm i [] s4 σ4 H4 (fun _ _ => False) I4 (fB [] H4 fr4 (fun b hb p hp => by rw [pn0] at hp; simp at hp)) st4 stop
      rw [hA] at d
      refine thn d fun r s5 ⟨hr, I5⟩ => ?_
      subst hr
      obtain ⟨mm, hn5, _⟩ := id I5.loc
      have fr5 : H4 (s2.heap.push { cls := .type "list", data := .seq ([] : List Value).toArray }).objs.size = none := by
        have z := I5.free
        rw [henv] at z
        exact z
      have J5 : Inv X pins σ H4 s5 := by
        rw [← hXB] at I5
        exact block_end (h' := s5.heap) I3 f3 I5 ⟨rfl, fun _ _ => rfl⟩
      exact fin _ _ H4 s5 mm J5 (I3.fpOk (Nat.le_refl _) fr5) (by rw [henv] at hn5; exact hn5) qn
    · have d := T.item XB hprog hw hK hcalm i [] s4 σ4 H4 (fun _ _ => False) I4 (fB [] H4 fr4 (fun b hb p hp => by rw [pn0] at hp; simp at hp)) st4 go
      rw [hA] at d
      refine thn d fun r s5 ⟨u, hr, h5⟩ => ?_
      subst hr
      refine thn h5 fun _ s6 ⟨x, H6, I6, r6, y6, st6, fr6⟩ => ?_
      have I6' := I6.pinned (fB [] H6 fr6 (fun b hb p hp => by rw [pn0] at hp; simp at hp)) (T.obj _ _ st6)
      have q6 := step x H6 y6
      have a1 := hgB _ s6 σ4 H6 x u _ I6' r6 q6
      rw [hxe, hprog, hw, hA] at a1
      refine thn a1 fun _ s7 ⟨σ7, H7, I7, q7⟩ => ?_
      have a2 := hifB _ s7 σ7 H7 _ I7 q7
      rw [hxe, hprog, hw, hA] at a2
      refine thn a2 fun ok s8 ⟨H8, I8, q8⟩ => ?_
      have again : ∀ {σ9 : St} {H9 : Hp} {s9 : Shared}, Inv XB ([] ++ pinsAt fp s6.heap) σ9 H9 s9 → (∃ m', m' < n ∧ W (i + 1) m' σ9 H9) → ∃ m, m < n ∧ ∃ i σb Hb, Inv XB [] σb Hb s9 ∧ tn' i s9.heap ∧ (∀ b ∈ fp, Hb b = none) ∧ W i m σb Hb := fun {σ9 H9 s9} I9 n9 => by
        obtain ⟨m', hm, w9⟩ := n9
        refine ⟨m', hm, i + 1, σ9, H9, I9.unpinned, T.keep _ _ _ st6 fun b hb o e => (I9.pin (b, o) (List.mem_append_right _ (List.mem_append_right _ (mem_pinsAt hb e)))).1, fun b hb => ?_, w9⟩
        obtain ⟨o, e, d⟩ := T.obj _ _ st6 b hb
        exact (I9.pin (b, o) (List.mem_append_right _ (List.mem_append_right _ (mem_pinsAt hb e)))).2.1
      cases ok with
      | false => exact again I8 q8
      | true =>
        show wpAny _ _ _ _ _ _
        have a3 := heB _ s8 σ7 H8 _ I8 q8
        rw [hxe, hprog, hw, hA] at a3
        refine thn a3 fun yv s9 ⟨y, H9, I9, r9, ys, hD, hlen, n9⟩ => ?_
        have a4 := mt_append (X := XB) _ s9 σ7 H9 (.ref s2.heap.objs.size) [y] (.ref s2.heap.objs.size) [yv] (fun _ H' => ∃ m', m' < n ∧ W (i + 1) m' σ7 H') I9 rfl (.cons r9 .nil) ⟨_, ys, y, rfl, rfl, hD, hlen, n9⟩
        rw [hxe, hprog, hw, hA] at a4
        exact thn a4 fun _ s10 ⟨_, H10, I10, _, q10⟩ => again I10 q10
  rw [henv] at loop
  refine codeAny_compStart_list (loop _ rfl) (T.self _ 0 _ _ _ st3 (loop _ rfl))

theorem pe_lcomp {X : Cx} {elt tg iter : Expr} {ifs : List Expr} {scope : Scope} {pos : Pos} {wi : TI} {g : TG} {tif : TT} {te : TE} (tn : List Str) (cp : List (Nat × Str)) (O : CompOk X scope cp) (hc : X.calm = true) (hi : PI X tg iter wi)
    (hg : ∀ cl C s H fp, PG (cxB X scope tn cp cl C s H fp) tg g) (hif : ∀ cl C s H fp, PIfs (cxB X scope tn cp cl C s H fp) ifs tif) (he : ∀ cl C s H fp, PE (cxB X scope tn cp cl C s H fp) elt te)
    (hs : ∀ x, foldedSetIterable iter X.env x = pure x := by intro _; rfl) :
    PE X (.ListComp elt [⟨tg, iter, ifs, 0⟩] scope pos) (tComp tn cp wi g tif te) := by
  intro pins s σ H Q I h
  rw [eval_ListComp]
  refine lcomp_core tn cp O hc hi hg hif he hs I h fun D C H5 s5 m I5 f5 n5 q5 => ⟨m, n5, fun h' hs' => ⟨.ref D, H5, ?_, rfl, q5⟩⟩
  obtain ⟨f0, f1, f2, f3, f4, f5⟩ := f5
  exact I5.turned (t' := s5.toks) (fun b o hb e => (hs'.2 b hb).trans e) f0 f1 f3 f4 f5
/-- name = [.. for ..], the name a plain local: stored ahead of the block's end -/
theorem ps_setC {X : Cx} {i : Nat} {x : Str} {elt tg iter : Expr} {ifs : List Expr} {scope : Scope} {pos pos' spos : Pos} {wi : TI} {g : TG} {tif : TT} {te : TE} (hN : X.N.Nodup) (hx : X.N[i]? = some x) (hl : Loc X.env.scope x) (tn : List Str) (cp : List (Nat × Str)) (O : CompOk X scope cp) (hc : X.calm = true) (hi : PI X tg iter wi)
    (hg : ∀ cl C s H fp, PG (cxB X scope tn cp cl C s H fp) tg g) (hif : ∀ cl C s H fp, PIfs (cxB X scope tn cp cl C s H fp) ifs tif) (he : ∀ cl C s H fp, PE (cxB X scope tn cp cl C s H fp) elt te)
    (hsw : swapsWith (.ListComp elt [⟨tg, iter, ifs, 0⟩] scope pos) (some (.Name x pos')) spos.line X.env = pure true := by rfl) (hs : ∀ x, foldedSetIterable iter X.env x = pure x := by intro _; rfl)
    (hf : X.fn x = true ∨ X.env.scope.names.lookup x = some .local := by first | exact .inl rfl | exact .inr rfl | assumption) :
    PS X (.Assign [.Name x pos'] (.ListComp elt [⟨tg, iter, ifs, 0⟩] scope pos) spos) (tAsg (tComp tn cp wi g tif te) (gName i)) := by
  intro pins s σ H D I h
  rw [exec_Assign_Name_used _ _ _ _ hsw]
  refine wpAny_bind (wpAny_standAt (wpAny_bind ?_))
  show wpAny _ X.A (do let _ ← comprehension (.ListComp elt [⟨tg, iter, ifs, 0⟩] scope pos) scope X.env _ (newList []) false (eval iter X.env) (some (assign (.Name x pos') X.env))) _ _ s
  refine wpAny_bind (wpAny_mono (lcomp_core tn cp O hc hi hg hif he hs (R := fun _ s' => SP X pins D .next s') I h fun E C H5 s5 m I5 f5 n5 q5 => ?_) (fun _ _ q => wpAny_pure (wpAny_pure q)) fun _ _ e => e)
  obtain ⟨f0, f1, f2, f3, f4, f5⟩ := f5
  show wpAny _ X.A (assign (.Name x pos') X.env (.ref E)) _ _ _
  refine wpAny_assign_Name (store_ok2 I5 hN hx hl (v := .ref E) rfl (fun s6 I6 ⟨a, sb, ha⟩ => ?_) hf)
  have ne : C ≠ a := by
    rcases ha with e | e
    · rw [e]; exact f1
    · exact fun z => f4 x a e z.symm
  refine ⟨m, n5.sameBut sb ne, fun h' hs' => ⟨_, H5, I6.turned (t' := s6.toks) (fun b o hb e => (hs'.2 b hb).trans e) f0 f1 f3 f4 f5, q5⟩⟩
end L2

set_option Elab.async false
set_option linter.all false
set_option maxRecDepth 100000
/-! TEXTS, isinstance, all, any, == of lists, over the hand layer -/
namespace L2
open PySem PySem.Spec PyProof.Rows

/-! ### the signs of a text -/
def Its (z : Str) : It := ⟨fun i _ => i < z.cps.size, fun i H x H' => H' = H ∧ ∃ c, z.cps[i]? = some c ∧ x = .str ⟨#[c]⟩, fun i _ => z.cps.size ≤ i⟩
def iStr (tl : TE) : TI := fun σ H R => tl σ H fun x H1 => ∃ z, x = .str z ∧ R (Its z) H1
/-! ### slices of a text -/
def rSlS : V → Option Int → Option Int → Hp → VK → Prop := fun x lo hi H Q => ∃ z, x = .str z ∧ z.length ≤ sizeLine ∧ Q (.str (Txt.slice z lo hi)) H
/-! ### isinstance(x, T), T a built-in type -/
theorem call_isinst {X : Cx} : CallR X (.builtin "isinstance") (fun xs H Q => ∃ x T t b, xs = [x, .ty T] ∧ TyOf X.K H x t ∧ PySem.W.kitOne X.K t (.type T) = some b ∧ Q (.bl b) H) := by
  intro pins s σ H xs us Q I r h
  obtain ⟨x, T, t, b, rfl, ty, e, q⟩ := h
  obtain ⟨u, w', rfl, rx, ry⟩ := vals2 r
  cases (show w' = Value.type T from ry)
  exact isinst_ok I rx ty e fun tk => ⟨.bl b, H, I.tok _, rfl, q⟩

/-! ### all, any, sum -/
section
open PyProof.Rows.LSm
theorem bools_of {bs : List Bool} : ∀ {us : List Value}, Vals (bs.map V.bl) us → BoolsAre us bs := by
  induction bs with
  | nil => intro us r; rw [List.map_nil] at r; cases r; exact .nil
  | cons b bs ih =>
    intro us r
    rw [List.map_cons] at r
    cases r with
    | cons r1 r2 =>
      cases (show _ = Value.bool b from r1)
      exact .cons b (ih r2)
theorem call_all_bl {X : Cx} (hc : X.calm = true) : CallR X (.builtin "all") (fun xs H Q => ∃ (p : Addr) (bs : List Bool), xs = [.ref p] ∧ SqL X.K H p (bs.map V.bl) ∧ Q (.bl (bs.all id)) H) := by
  intro pins s σ H xs us Q I r h
  obtain ⟨p, bs, rfl, hx, q⟩ := h
  obtain ⟨u, rfl, rx⟩ := vals1 r
  cases (show u = Value.ref p from rx)
  obtain ⟨vs, rv, pl, hz⟩ := I.list hx
  have hl := pl.isList
  have hb := bools_of rv
  have hlt : p < s.heap.objs.size := by obtain ⟨_, e, _⟩ := hl; exact Heap.lt_size e
  refine call_all_walk (wpAny_pyIter_list hl ?_)
  refine ⟨s.heap.objs.size, [s.heap.objs.size, p], [s.heap.objs.size], vs.toArray.size, _, _, fun i => (bs[i]?).getD true, rfl, Walks.list (A := X.A.in1) (I.ok.hd hc) _ p (Nat.ne_of_lt hlt) vs.toArray,
    ⟨⟨_, Heap.get?_push_size _ rfl, rfl, rfl⟩, hl.push _⟩, fun i v s' Q' E' hP hQ => ?_, fun h' tk hk => ?_⟩
  · obtain ⟨b, e, rfl⟩ := hb.get i v (by simpa using hP)
    simp only [e, Option.getD_some] at hQ
    exact wpAny_truthy_bool hQ
  · have e : ((List.range vs.toArray.size).all fun i => (bs[i]?).getD true) = bs.all id := by
      rw [List.size_toArray, hb.length]; exact range_all bs
    rw [e]
    exact ⟨.bl _, H, I.kept (kept_iter hk), rfl, q⟩
theorem call_sum_int {X : Cx} (hc : X.calm = true) : CallR X (.builtin "sum") (fun xs H Q => ∃ (p : Addr) (ns : List Int), xs = [.ref p] ∧ SqL X.K H p (ns.map V.int) ∧ Q (.int ns.sum) H) := by
  intro pins s σ H xs us Q I r h
  obtain ⟨p, ns, rfl, hx, q⟩ := h
  obtain ⟨u, rfl, rx⟩ := vals1 r
  cases (show u = Value.ref p from rx)
  obtain ⟨vs, rv, pl, hz⟩ := I.list hx
  have hi := intsAre_of rv
  obtain ⟨ys, hy⟩ := hi.allInts.items
  have hl' : s.heap.IsList p (intItems ys) := hy ▸ pl.isList
  refine sum_intListG (I.ok.hd hc) hl' fun h' tk t' hk => ?_
  have e1 : ns = ys.toList.map (·.1) := by
    rw [← nums_intItems, ← hy]
    exact (show numsOf vs.toArray.toList = ns from hi.numsOf).symm
  have e2 : preSum (numAt ys) ys.size = ns.sum := by
    rw [preSum_eq, List.take_of_length_le (by simp), e1]
  rw [e2]
  exact ⟨.int _, H, I.kept hk, ⟨_, rfl⟩, q⟩
end

/-! ### zfill -/
def rZfill : V → List V → Hp → VK → Prop := fun x vs H Q => ∃ z i, x = .str z ∧ vs = [.int i] ∧ PadOk i = true ∧ Q (.str (Txt.zfill z i)) H
/-! ### == of lists and tuples -/
/-- x == y is b, asked within a comparison of items (the same object is equal) -/
def EqOk (X : Cx) (k : Nat) (H : Hp) (x y : V) (b : Bool) : Prop := ∀ (pins : List (Addr × Obj)) (σ : St) (s : Shared) (A : Around) (u v : Value), A.units + k < cLine → Inv X pins σ H s → RelV x u → RelV y v → SeqAt.EqAt A s u v b
/-- x == y, asked by the operator -/
def RcOk (X : Cx) (k : Nat) (H : Hp) (x y : V) (b : Bool) : Prop := ∀ (pins : List (Addr × Obj)) (σ : St) (s : Shared) (A : Around) (u v : Value), A.units + k < cLine → Inv X pins σ H s → RelV x u → RelV y v → SeqAt.RcAt A s u v b
section
variable {X : Cx} {k : Nat} {H : Hp} {x y : V} {a b : Addr} {xs ys : List V}
theorem eqok_flat (fx : flatV x = true) (fy : flatV y = true) : EqOk X k H x y (eqV x y) := fun _ _ _ _ _ _ _ _ rx ry => eqAt_V rx ry fx fy
theorem eqok_same : EqOk X k H (.ref a) (.ref a) true := fun _ _ _ _ u v _ _ rx ry => by
  cases (show u = Value.ref a from rx)
  cases (show v = Value.ref a from ry)
  exact SeqAt.EqAt.same _
theorem EqOk.of_rc (hne : a ≠ b) {c : Bool} (h : RcOk X k H (.ref a) (.ref b) c) : EqOk X k H (.ref a) (.ref b) c := fun pins σ s A u v hu I rx ry => by
  cases (show u = Value.ref a from rx)
  cases (show v = Value.ref b from ry)
  exact SeqAt.EqAt.of_refs hne (h pins σ s A _ _ hu I rfl rfl)
theorem Vals.at {xs : List V} {us : List Value} (r : Vals xs us) {j : Nat} (h : j < us.length) : ∃ (h' : j < xs.length), RelV xs[j] us[j] := by
  have hl := r.length
  have h' : j < xs.length := by omega
  obtain ⟨u, e, q⟩ := r.get (i := j) (x := xs[j]) (by simp [h'])
  rw [List.getElem?_eq_getElem h] at e
  cases e
  exact ⟨h', q⟩
/-- two lists of the same length, item by item -/
theorem rcok_lists (hx : SqL X.K H a xs) (hy : SqL X.K H b ys) (hl : xs.length = ys.length) (e : Nat → Bool) (he : ∀ j (h1 : j < xs.length) (h2 : j < ys.length), EqOk X k H xs[j] ys[j] (e j)) :
    RcOk X (k + 1) H (.ref a) (.ref b) ((List.range xs.length).all e) := fun pins σ s A u v hu I rx ry => by
  cases (show u = Value.ref a from rx)
  cases (show v = Value.ref b from ry)
  obtain ⟨us, r1, p1, _⟩ := I.list hx
  obtain ⟨vs, r2, p2, _⟩ := I.list hy
  have l1 := r1.length
  have l2 := r2.length
  have q := SeqAt.RcAt.lists (A := A) (e := e) p1.isList p2.isList (by rw [List.size_toArray, List.size_toArray]; omega) (by omega) fun j h1 h2 => by
    rw [List.size_toArray] at h1 h2
    obtain ⟨g1, q1⟩ := r1.at h1
    obtain ⟨g2, q2⟩ := r2.at h2
    exact he j g1 g2 pins σ s A.in1 _ _ (by show A.units + 1 + k < cLine; omega) I (by simpa using q1) (by simpa using q2)
  rw [List.size_toArray, ← l1] at q
  exact q
theorem rcok_lens (hx : SqL X.K H a xs) (hy : SqL X.K H b ys) (hl : xs.length ≠ ys.length) : RcOk X k H (.ref a) (.ref b) false := fun pins σ s A u v hu I rx ry => by
  cases (show u = Value.ref a from rx)
  cases (show v = Value.ref b from ry)
  obtain ⟨us, r1, p1, _⟩ := I.list hx
  obtain ⟨vs, r2, p2, _⟩ := I.list hy
  have l1 := r1.length
  have l2 := r2.length
  exact SeqAt.RcAt.lists_lengths p1.isList p2.isList (by rw [List.size_toArray, List.size_toArray]; simp; omega) (by omega)
/-- two lists of flat values -/
theorem rcok_flats (hx : SqL X.K H a xs) (hy : SqL X.K H b ys) (fx : xs.all flatV = true) (fy : ys.all flatV = true) :
    RcOk X 1 H (.ref a) (.ref b) (xs.length == ys.length && (List.range xs.length).all fun j => eqV (xs.getD j .non) (ys.getD j .non)) := by
  by_cases hl : xs.length = ys.length
  · have q := rcok_lists (k := 0) hx hy hl (fun j => eqV (xs.getD j .non) (ys.getD j .non)) fun j h1 h2 => by
      have e1 : xs.getD j .non = xs[j] := by simp [List.getD, h1]
      have e2 : ys.getD j .non = ys[j] := by simp [List.getD, h2]
      rw [e1, e2]
      exact eqok_flat (List.all_eq_true.mp fx _ (List.getElem_mem h1)) (List.all_eq_true.mp fy _ (List.getElem_mem h2))
    rw [show (xs.length == ys.length) = true by simp [hl], Bool.true_and]
    exact q
  · rw [show (xs.length == ys.length) = false by simp [hl], Bool.false_and]
    exact rcok_lens hx hy hl
end
/-- x == y of two lists (tuples), by RcOk -/
def rEqD (X : Cx) (k : Nat) : R2 := fun x y H Q => ∃ c, RcOk X k H x y c ∧ Q (.bl c) H
/-! ### comprehensions, the forms one uses -/
def CW (D : Addr) (n : Nat) (Pv : Nat → List V → St → Hp → Prop) (i m : Nat) (σ : St) (H : Hp) : Prop := m = n - i ∧ i ≤ n ∧ ∃ ys, H D = some (.lst ys) ∧ ys.length ≤ i ∧ Pv i ys σ H
def CStep (D : Addr) (n i : Nat) (Pv : Nat → List V → St → Hp → Prop) (σ2 : St) (y : V) (H4 : Hp) : Prop :=
  ∃ ys, H4 D = some (.lst ys) ∧ ys.length < sizeLine ∧ ∃ m', m' < n - i ∧ CW D n Pv (i + 1) m' σ2 (upd H4 D (.lst (ys ++ [y])))
def CSkip (D : Addr) (n i : Nat) (Pv : Nat → List V → St → Hp → Prop) (σ2 : St) (H3 : Hp) : Prop := ∃ m', m' < n - i ∧ CW D n Pv (i + 1) m' σ2 H3
section
variable {D : Addr} {Q : VK} {g : TG} {tif : TT} {te : TE} {σ0 : St} {H1 : Hp} {n i : Nat} {Pv : Nat → List V → St → Hp → Prop}
theorem cstep {ys : List V} {y : V} {σ2 : St} {H4 : Hp} (hn : n ≤ sizeLine) (hi : i < n) (hD : H4 D = some (.lst ys)) (hl : ys.length ≤ i) (h : Pv (i + 1) (ys ++ [y]) σ2 (upd H4 D (.lst (ys ++ [y])))) : CStep D n i Pv σ2 y H4 :=
  ⟨ys, hD, by omega, n - (i + 1), by omega, rfl, hi, ys ++ [y], upd_same, by rw [List.length_append, List.length_singleton]; omega, h⟩
theorem cskip {ys : List V} {σ2 : St} {H3 : Hp} (hi : i < n) (hD : H3 D = some (.lst ys)) (hl : ys.length ≤ i) (h : Pv (i + 1) ys σ2 H3) : CSkip D n i Pv σ2 H3 :=
  ⟨n - (i + 1), by omega, rfl, hi, ys, hD, by omega, h⟩
/-- over any source of n items; Pv: what holds at turn i of the made items, the block's names, the heap -/
theorem comp_by {J : It} (Pv : Nat → List V → St → Hp → Prop) (hn : n ≤ sizeLine) (h0 : Pv 0 [] σ0 (upd H1 D (.lst [])))
    (hgo : ∀ i ys σ H, i < n → H D = some (.lst ys) → Pv i ys σ H → J.go i H) (hstop : ∀ ys σ H, H D = some (.lst ys) → Pv n ys σ H → J.stop n H)
    (hs : ∀ i ys σ H, i < n → H D = some (.lst ys) → ys.length ≤ i → Pv i ys σ H → ∀ x H', J.yld i H x H' → g x σ H' fun σ2 H2 => tif σ2 H2 fun c H3 =>
      if c = true then te σ2 H3 fun y H4 => CStep D n i Pv σ2 y H4 else CSkip D n i Pv σ2 H3)
    (hd : ∀ ys σ H, H D = some (.lst ys) → ys.length ≤ n → Pv n ys σ H → Q (.ref D) H) :
    ∃ W : Nat → Nat → St → Hp → Prop, (∃ m, W 0 m σ0 (upd H1 D (.lst []))) ∧ ∀ i m σb Hb, W i m σb Hb →
      (J.stop i Hb ∧ Q (.ref D) Hb) ∨ (J.go i Hb ∧ ∀ x H', J.yld i Hb x H' → g x σb H' fun σ2 H2 => tif σ2 H2 fun c H3 =>
        if c = true then te σ2 H3 fun y H4 => ∃ ys, H4 D = some (.lst ys) ∧ ys.length < sizeLine ∧ ∃ m', m' < m ∧ W (i + 1) m' σ2 (upd H4 D (.lst (ys ++ [y])))
        else ∃ m', m' < m ∧ W (i + 1) m' σ2 H3) := by
  refine ⟨CW D n Pv, ⟨n, by omega, Nat.zero_le _, [], upd_same, Nat.le_refl _, h0⟩, ?_⟩
  rintro i m σ H ⟨rfl, hi, ys, hD, hl, p⟩
  by_cases hlt : i < n
  · exact .inr ⟨hgo i ys σ H hlt hD p, hs i ys σ H hlt hD hl p⟩
  · have e : i = n := by omega
    subst e
    exact .inl ⟨hstop ys σ H hD p, hd ys σ H hD hl p⟩
/-- a list that the block leaves as it is -/
theorem comp_list {K : PySem.W.Frag} {a : Addr} {xs : List V} (Pv : Nat → List V → St → Hp → Prop) (hn : xs.length ≤ sizeLine) (h0 : Pv 0 [] σ0 (upd H1 D (.lst [])))
    (hl : ∀ i ys σ H, i ≤ xs.length → H D = some (.lst ys) → Pv i ys σ H → SqL K H a xs)
    (hs : ∀ i ys σ H x, i < xs.length → xs[i]? = some x → H D = some (.lst ys) → ys.length ≤ i → Pv i ys σ H → g x σ H fun σ2 H2 => tif σ2 H2 fun c H3 =>
      if c = true then te σ2 H3 fun y H4 => CStep D xs.length i Pv σ2 y H4 else CSkip D xs.length i Pv σ2 H3)
    (hd : ∀ ys σ H, H D = some (.lst ys) → ys.length ≤ xs.length → Pv xs.length ys σ H → Q (.ref D) H) :
    ∃ W : Nat → Nat → St → Hp → Prop, (∃ m, W 0 m σ0 (upd H1 D (.lst []))) ∧ ∀ i m σb Hb, W i m σb Hb →
      ((Itl K a).stop i Hb ∧ Q (.ref D) Hb) ∨ ((Itl K a).go i Hb ∧ ∀ x H', (Itl K a).yld i Hb x H' → g x σb H' fun σ2 H2 => tif σ2 H2 fun c H3 =>
        if c = true then te σ2 H3 fun y H4 => ∃ ys, H4 D = some (.lst ys) ∧ ys.length < sizeLine ∧ ∃ m', m' < m ∧ W (i + 1) m' σ2 (upd H4 D (.lst (ys ++ [y])))
        else ∃ m', m' < m ∧ W (i + 1) m' σ2 H3) :=
  comp_by Pv hn h0 (fun i ys σ H hi hD p => ⟨xs, xs[i], hl i ys σ H (Nat.le_of_lt hi) hD p, by simp [hi]⟩) (fun ys σ H hD p => ⟨xs, hl _ ys σ H (Nat.le_refl _) hD p, Nat.le_refl _⟩) (fun i ys σ H hi hD hl' p x H' y => by
    obtain ⟨e, y⟩ := y
    subst e
    exact hs i ys σ _ x hi (y xs (hl i ys σ _ (Nat.le_of_lt hi) hD p)) hD hl' p) hd
end
end L2

set_option Elab.async false
set_option linter.all false
set_option maxRecDepth 100000
/-! DEFS AND CALLS in short; what things are; the reading by rewriting -/
namespace L2
open PySem PySem.Spec PyProof.Rows

/-! ### no star among the arguments -/
def notStar : Expr → Bool
  | .Starred _ _ => false
  | _ => true
theorem star_cons {e : Expr} {es : List Expr} {env : Env} (h : notStar e = true) : starEach (e :: es) env = (false, eval e env) :: starEach es env := by
  cases e with
  | Starred v q => exact absurd (show false = true from h) Bool.false_ne_true
  | _ => rw [starEach.eq_def]
theorem star_any : ∀ {es : List Expr} {env : Env} {pos : Pos}, es.all notStar = true → (backTo pos (starEach es env)).any (·.1) = false
  | [], env, pos, _ => by rw [starEach.eq_def]; rfl
  | e :: r, env, pos, h => by
    rw [List.all_cons, Bool.and_eq_true] at h
    rw [star_cons h.1]
    exact star_any h.2
section
variable {X : Cx} {x : Str} {p pos : Pos} {e : Expr} {es : List Expr} {te : TE} {t : TA} {T id : String} {r : List V → Hp → VK → Prop}
theorem pa_c (ha : PE X e te) (hr : PA X es t) (h : notStar e = true := by rfl) : PA X (e :: es) (tCons te t) := pa_cons ha hr (star_cons h)
theorem pe_cB (hc : CallR X (.builtin id) r) (hg : Gl X x) (hm : X.mg x = none) (hv : bootBuiltins x = some (.builtin id)) (ha : PA X (e :: es) t) (hn : x ≠ "__name__" := by decide) (hdb : (x == ("__debug__" : Str)) = false := by decide)
    (h1 : notStar e = true := by rfl) (h2 : es.all notStar = true := by rfl) : PE X (.Call (.Name x p) (e :: es) [] pos) (tCB r t) := pe_callB hc hg hm hv ha hn hdb (star_cons h1) (star_any h2)
theorem pe_cTy (hc : CallR X (.type T) r) (hg : Gl X x) (hm : X.mg x = none) (hv : bootBuiltins x = some (.type T)) (ha : PA X (e :: es) t) (hn : x ≠ "__name__" := by decide) (hdb : (x == ("__debug__" : Str)) = false := by decide)
    (h1 : notStar e = true := by rfl) (h2 : es.all notStar = true := by rfl) : PE X (.Call (.Name x p) (e :: es) [] pos) (tCB r t) := pe_callTy hc hg hm hv ha hn hdb (star_cons h1) (star_any h2)
end

/-! ### a def as the top left it, a call by its promise -/
structure Dfn (K : PySem.W.Frag) (mg : Str → Option Value) (x : Str) (st : Stmt) (ps : List Str) : Prop where
  ex : ∃ f fd, Fun K x x st f fd ∧ Binds K fd ps [] ∧ mg x = some (.ref f)
structure Cal (P : Program) (w : World) (K : PySem.W.Frag) (mg : Str → Option Value) (base : Heap) (n : Nat) (x : Str) (ps : List Str) (sp : Sp) : Prop where
  ex : ∃ f fd, FnOk P w K mg base CX0 n f fd ps sp ∧ Binds K fd ps [] ∧ PySem.W.keepIn K (.ref f) = true ∧ mg x = some (.ref f)
section
variable {P : Program} {w : World} {K : PySem.W.Frag} {mg : Str → Option Value} {base : Heap}
theorem Dfn.cal {x : Str} {st : Stmt} {N ps : List Str} {k : Nat} {sp : Sp} (d : Dfn K mg x st ps) (S : FnScope N ps (defScope st)) (len : ∀ vs H Q E, sp vs H Q E → vs.length = ps.length)
    (hbody : ∀ (f : Addr) (cdv : Value) (A : Around) (outer : List Env) (s : Shared) (H : Hp) (vs : List V) (Q : VK) (E : XK), Room k (A.deeper (envOfC x (defScope st) s.heap.objs.size f cdv)) → sp vs H Q E →
      ∃ t, PSs (cxOf CX0 P w K mg base N x (defScope st) f cdv A outer s H E).nox (defBody st) t ∧ t { nx := fun _ H' => Q .non H', rt := Q } (start N vs) H) : Cal P w K mg base (k + 1) x ps sp := by
  obtain ⟨f, fd, F, b, m⟩ := d.ex
  exact ⟨f, fd, F.ok S len (hbody f), b, F.kp, m⟩
theorem Cal.mono {j k : Nat} {x : Str} {ps : List Str} {sp : Sp} (c : Cal P w K mg base j x ps sp) (h : j ≤ k) : Cal P w K mg base k x ps sp := by
  obtain ⟨f, fd, F, r⟩ := c.ex
  exact ⟨f, fd, F.mono h, r⟩
/-- nothing can be asked -/
theorem Dfn.never {x : Str} {st : Stmt} {ps : List Str} {sp : Sp} (d : Dfn K mg x st ps) (no : ∀ vs H Q E, ¬ sp vs H Q E) : Cal P w K mg base 0 x ps sp := by
  obtain ⟨f, fd, F, b, m⟩ := d.ex
  exact ⟨f, fd, ⟨fun vs H Q E h => absurd h (no vs H Q E), fun A outer s H args us vs Q E _ _ _ _ h => absurd h (no vs H Q E)⟩, b, F.kp, m⟩
end
section
variable {X : Cx} {n k : Nat} {x : Str} {ps : List Str} {sp : Sp} {p pos : Pos} {e : Expr} {es : List Expr} {t : TA}
theorem pe_callC (C : Cal X.prog X.w X.K X.mg X.base n x ps sp) (hr : Room k X.A) (hle : n ≤ k) (hg : Gl X x) (ha : PA X (e :: es) t) (hdb : (x == ("__debug__" : Str)) = false := by decide)
    (h1 : notStar e = true := by rfl) (h2 : es.all notStar = true := by rfl) : PE X (.Call (.Name x p) (e :: es) [] pos) (tCall sp [] E0 t) := by
  obtain ⟨f, fd, F, b, kp, m⟩ := C.ex
  exact pe_call F (hr.mono hle) hg m kp b .nil pass0 ha hdb (star_cons h1) (star_any h2)
/-- a constant of the module -/
def GlV (mg : Str → Option Value) (x : Str) (v : V) : Prop := ∃ u, mg x = some u ∧ RelV v u
theorem pe_gl {v : V} (hg : Gl X x) (h : GlV X.mg x v) (hd : (x == ("__debug__" : Str)) = false := by decide) : PE X (.Name x pos) (tC v) := by
  obtain ⟨u, m, r⟩ := h
  exact pe_glob hg m r hd
end

/-- a comprehension's scope, by a look -/
theorem CompOk.of {X : Cx} {scope : Scope} {cp : List (Nat × Str)} (kind : scope.kind = .function)
    (h1 : (scope.names.all fun y => y.2 != .cell && (y.2 != .local || scope.names.lookup y.1 == some .local) && (y.2 != .free || (X.env.scope.names.lookup y.1 == some .cell || X.env.scope.names.lookup y.1 == some .free))) = true)
    (h2 : (cp.all fun p => X.N[p.1]? == some p.2 && scope.names.lookup p.2 == some .free) = true) : CompOk X scope cp := by
  have g := List.all_eq_true.mp h1
  refine ⟨kind, fun y hy e => ?_, fun y hy e => ?_, fun y hy e => ?_, fun p hp => ?_⟩
  · have q := g y hy
    rw [Bool.and_eq_true, Bool.and_eq_true] at q
    rw [e] at q
    exact absurd q.1.1 (by decide)
  · have q := g y hy
    rw [Bool.and_eq_true, Bool.and_eq_true] at q
    have q := q.1.2
    rw [e] at q
    simpa using q
  · have q := g y hy
    rw [Bool.and_eq_true, Bool.and_eq_true] at q
    have q := q.2
    rw [e] at q
    have q : X.env.scope.names.lookup y.1 = some .cell ∨ X.env.scope.names.lookup y.1 = some .free := by simpa using q
    exact q
  · have q := List.all_eq_true.mp h2 p hp
    rw [Bool.and_eq_true] at q
    exact ⟨by simpa using q.1, by simpa using q.2⟩

/-! ### things: what a value is -/
/-- the name of its type, where the value is one of the plain kinds -/
inductive Kd (H : Hp) : V → String → Prop where
  | non : Kd H .non "NoneType"
  | bl (b : Bool) : Kd H (.bl b) "bool"
  | int (i : Int) : Kd H (.int i) "int"
  | str (z : Str) : Kd H (.str z) "str"
  | lst {a : Addr} {xs : List V} (e : H a = some (.lst xs)) : Kd H (.ref a) "list"
  | tup {a : Addr} {xs : List V} (e : H a = some (.tup xs)) : Kd H (.ref a) "tuple"
  | dK {a : Addr} {kvs : List (Key × V)} (e : H a = some (.dK kvs)) : Kd H (.ref a) "dict"
def kinds : List String := ["NoneType", "bool", "int", "str", "list", "tuple", "dict"]
def subT (k T : String) : Bool := k == T || (k == "bool" && T == "int")
theorem kit_ok (K : PySem.W.Frag) : ∀ k ∈ kinds, ∀ T ∈ ["str", "list", "tuple", "bool", "int", "dict"], PySem.W.kitOne K (.type k) (.type T) = some (subT k T) := by
  intro k hk T hT
  simp only [kinds, List.mem_cons, List.not_mem_nil, or_false] at hk hT
  rcases hk with rfl | rfl | rfl | rfl | rfl | rfl | rfl <;> rcases hT with rfl | rfl | rfl | rfl | rfl | rfl <;> first | rfl | kernel_rfl
theorem Kd.ty {K : PySem.W.Frag} {H : Hp} {x : V} {k : String} (h : Kd H x k) : TyOf K H x (.type k) ∧ k ∈ kinds := by
  cases h with
  | non => exact ⟨.non, by decide⟩
  | bl b => exact ⟨.bl b, by decide⟩
  | int i => exact ⟨.int i, by decide⟩
  | str z => exact ⟨.str z, by decide⟩
  | lst e => exact ⟨.lst e, by decide⟩
  | tup e => exact ⟨.tup e, by decide⟩
  | dK e => exact ⟨.dK e, by decide⟩
theorem Kd.same {H H' : Hp} {x : V} {k : String} (h : Kd H x k) (g : Same H H') : Kd H' x k := by
  cases h with
  | non => exact .non
  | bl b => exact .bl b
  | int i => exact .int i
  | str z => exact .str z
  | lst e => exact .lst (g _ _ e)
  | tup e => exact .tup (g _ _ e)
  | dK e => exact .dK (g _ _ e)
theorem Kd.inj {H : Hp} {x : V} {k k' : String} (h : Kd H x k) (h' : Kd H x k') : k = k' := by
  cases h with
  | lst e => cases h' with | lst _ => rfl | tup e' => rw [e] at e'; cases e' | dK e' => rw [e] at e'; cases e'
  | tup e => cases h' with | lst e' => rw [e] at e'; cases e' | tup _ => rfl | dK e' => rw [e] at e'; cases e'
  | dK e => cases h' with | lst e' => rw [e] at e'; cases e' | tup e' => rw [e] at e'; cases e' | dK _ => rfl
  | non => cases h'; rfl
  | bl _ => cases h'; rfl
  | int _ => cases h'; rfl
  | str _ => cases h'; rfl
/-- isinstance(x, T) of a plain kind -/
theorem call_isk {X : Cx} : CallR X (.builtin "isinstance") (fun xs H Q => ∃ x T k, xs = [x, .ty T] ∧ Kd H x k ∧ T ∈ ["str", "list", "tuple", "bool", "int", "dict"] ∧ Q (.bl (subT k T)) H) := by
  intro pins s σ H xs us Q I r h
  obtain ⟨x, T, k, e, hk, hT, q⟩ := h
  obtain ⟨h1, h2⟩ := hk.ty (K := X.K)
  exact call_isinst pins s σ H xs us Q I r ⟨x, T, .type k, _, e, h1, kit_ok X.K k h2 T hT, q⟩
theorem same_upd {H : Hp} {p : Addr} (h : H p = none) (o : HO) : Same H (upd H p o) := fun b u q => by rw [upd_ne (ne_of_none q h)]; exact q
theorem Same.seqT {K : PySem.W.Frag} {H H' : Hp} {a : Addr} {xs : List V} (e : Same H H') (h : SqT K H a xs) : SqT K H' a xs := by
  rcases h with (h | ⟨o, h⟩) | h
  · exact .inl (.inl (e _ _ h))
  · exact .inl (.inr ⟨o, e _ _ h⟩)
  · exact .inr h

/-! ### the reading by rewriting -/
section
variable {H : Hp} {Q : VK} {v : V} {a : Option V} {r : St} {i : Nat}
theorem rd_st {t : TS} {D : Ends} {σ : St} (σ' : St) (e : σ = σ') (h : t D σ' H) : t D σ H := by rw [e]; exact h
theorem rd_v0 : tVar 0 (some v :: r) H Q = Q v H := by simp [tVar]
theorem rd_vS : tVar (i + 1) (a :: r) H Q = tVar i r H Q := rfl
theorem rd_ite_t {A B : Prop} : (if true = true then A else B) = A := if_pos rfl
theorem rd_ite_f {A B : Prop} : (if false = true then A else B) = B := if_neg Bool.false_ne_true
theorem rd_ss {a b : Str} : (scal (.str a) (.str b) = true) = True := by simp [scal]
theorem rd_si {a : Str} {b : Int} : (scal (.str a) (.int b) = true) = True := by simp [scal]
theorem rd_is {b : Str} {a : Int} : (scal (.int a) (.str b) = true) = True := by simp [scal]
theorem rd_ii {a b : Int} : (scal (.int a) (.int b) = true) = True := by simp [scal]
theorem rd_bb {a b : Bool} : (scal (.bl a) (.bl b) = true) = True := by simp [scal]
def cBody (tn : List Str) (cp : List (Nat × Str)) (g : TG) (tif : TT) (te : TE) (σ : St) (Q : VK) (J : It) (H1 : Hp) : Prop := ∀ D, H1 D = none → ∃ W : Nat → Nat → St → Hp → Prop,
  (∃ m, W 0 m (stB tn cp σ) (upd H1 D (.lst []))) ∧ ∀ i m σb Hb, W i m σb Hb →
    (J.stop i Hb ∧ Q (.ref D) Hb) ∨ (J.go i Hb ∧ ∀ x H', J.yld i Hb x H' → g x σb H' fun σ2 H2 => tif σ2 H2 fun c H3 =>
      if c = true then te σ2 H3 fun y H4 => ∃ ys, H4 D = some (.lst ys) ∧ ys.length < sizeLine ∧ ∃ m', m' < m ∧ W (i + 1) m' σ2 (upd H4 D (.lst (ys ++ [y])))
      else ∃ m', m' < m ∧ W (i + 1) m' σ2 H3)
theorem rd_comp {tn : List Str} {cp : List (Nat × Str)} {wi : TI} {g : TG} {tif : TT} {te : TE} {σ : St} : tComp tn cp wi g tif te σ H Q = wi σ H fun J H1 => cBody tn cp g tif te σ Q J H1 := rfl
def fBody (g : TG) (tb : TS) (D : Ends) (σ : St) (J : It) (H1 : Hp) : Prop := ∃ W : Nat → Nat → St → Hp → Prop, (∃ m, W 0 m σ H1) ∧ ∀ i m σ H, W i m σ H →
  (J.stop i H ∧ D.nx σ H) ∨ (J.go i H ∧ ∃ N : St → Hp → Prop, (∀ σ' H', N σ' H' → ∃ m', m' < m ∧ W (i + 1) m' σ' H') ∧ ∀ x H', J.yld i H x H' → g x σ H' fun σ2 H2 => tb { D with nx := N, ct := N, bk := D.nx } σ2 H2)
theorem rd_for {wi : TI} {g : TG} {tb : TS} {D : Ends} {σ : St} : tFor wi g tb D σ H = wi σ H fun J H1 => fBody g tb D σ J H1 := rfl
end
section
variable {tn : List Str} {cp : List (Nat × Str)} {g : TG} {tif : TT} {te : TE} {σ0 : St} {Q : VK} {H1 : Hp}
/-- a comprehension over n items, by what holds at turn i of the made items, the block's names and the heap -/
theorem cb_by {J : It} (n : Nat) (Pv : Addr → Nat → List V → St → Hp → Prop) (hn : n ≤ sizeLine) (h0 : ∀ D, H1 D = none → Pv D 0 [] (stB tn cp σ0) (upd H1 D (.lst [])))
    (hgo : ∀ D i ys σ H, H1 D = none → i < n → H D = some (.lst ys) → Pv D i ys σ H → J.go i H) (hstop : ∀ D ys σ H, H1 D = none → H D = some (.lst ys) → Pv D n ys σ H → J.stop n H)
    (hs : ∀ D i ys σ H x H', H1 D = none → i < n → H D = some (.lst ys) → ys.length ≤ i → Pv D i ys σ H → J.yld i H x H' → g x σ H' fun σ2 H2 => tif σ2 H2 fun c H3 =>
      if c = true then te σ2 H3 fun y H4 => CStep D n i (Pv D) σ2 y H4 else CSkip D n i (Pv D) σ2 H3)
    (hd : ∀ D ys σ H, H1 D = none → H D = some (.lst ys) → ys.length ≤ n → Pv D n ys σ H → Q (.ref D) H) : cBody tn cp g tif te σ0 Q J H1 := fun D hD =>
  comp_by (Pv D) hn (h0 D hD) (fun i ys σ H => hgo D i ys σ H hD) (fun ys σ H => hstop D ys σ H hD) (fun i ys σ H hi hH hl p x H' y => hs D i ys σ H x H' hD hi hH hl p y) (fun ys σ H => hd D ys σ H hD)
/-- over a list that the block leaves as it is -/
theorem cb_list {K : PySem.W.Frag} {a : Addr} {xs : List V} (Pv : Addr → Nat → List V → St → Hp → Prop) (hn : xs.length ≤ sizeLine) (h0 : ∀ D, H1 D = none → Pv D 0 [] (stB tn cp σ0) (upd H1 D (.lst [])))
    (hl : ∀ D i ys σ H, H1 D = none → i ≤ xs.length → H D = some (.lst ys) → Pv D i ys σ H → SqL K H a xs)
    (hs : ∀ D i ys σ H x, H1 D = none → i < xs.length → xs[i]? = some x → H D = some (.lst ys) → ys.length ≤ i → Pv D i ys σ H → g x σ H fun σ2 H2 => tif σ2 H2 fun c H3 =>
      if c = true then te σ2 H3 fun y H4 => CStep D xs.length i (Pv D) σ2 y H4 else CSkip D xs.length i (Pv D) σ2 H3)
    (hd : ∀ D ys σ H, H1 D = none → H D = some (.lst ys) → ys.length ≤ xs.length → Pv D xs.length ys σ H → Q (.ref D) H) : cBody tn cp g tif te σ0 Q (Itl K a) H1 := fun D hD =>
  comp_list (Pv D) hn (h0 D hD) (fun i ys σ H => hl D i ys σ H hD) (fun i ys σ H x => hs D i ys σ H x hD) (fun ys σ H => hd D ys σ H hD)
/-- over a tuple -/
theorem cb_tup {K : PySem.W.Frag} {a : Addr} {xs : List V} (Pv : Addr → Nat → List V → St → Hp → Prop) (hn : xs.length ≤ sizeLine) (h0 : ∀ D, H1 D = none → Pv D 0 [] (stB tn cp σ0) (upd H1 D (.lst [])))
    (hl : ∀ D i ys σ H, H1 D = none → i ≤ xs.length → H D = some (.lst ys) → Pv D i ys σ H → SqT K H a xs)
    (hs : ∀ D i ys σ H x, H1 D = none → i < xs.length → xs[i]? = some x → H D = some (.lst ys) → ys.length ≤ i → Pv D i ys σ H → g x σ H fun σ2 H2 => tif σ2 H2 fun c H3 =>
      if c = true then te σ2 H3 fun y H4 => CStep D xs.length i (Pv D) σ2 y H4 else CSkip D xs.length i (Pv D) σ2 H3)
    (hd : ∀ D ys σ H, H1 D = none → H D = some (.lst ys) → ys.length ≤ xs.length → Pv D xs.length ys σ H → Q (.ref D) H) : cBody tn cp g tif te σ0 Q (Itt K a) H1 :=
  cb_by xs.length Pv hn h0 (fun D i ys σ H hD hi hH p => ⟨xs, xs[i], hl D i ys σ H hD (Nat.le_of_lt hi) hH p, by simp [hi]⟩) (fun D ys σ H hD hH p => ⟨xs, hl D _ ys σ H hD (Nat.le_refl _) hH p, Nat.le_refl _⟩) (fun D i ys σ H x H' hD hi hH hl' p y => by
    obtain ⟨e, y⟩ := y
    subst e
    exact hs D i ys σ _ x hD hi (y xs (hl D i ys σ _ hD (Nat.le_of_lt hi) hH p)) hH hl' p) hd
variable {tb : TS} {D : Ends}
theorem fb_list {K : PySem.W.Frag} {a : Addr} {xs : List V} (Pv : Nat → St → Hp → Prop) (h0 : Pv 0 σ0 H1) (hl : ∀ i σ H, i ≤ xs.length → Pv i σ H → SqL K H a xs)
    (hs : ∀ i x σ H, xs[i]? = some x → Pv i σ H → g x σ H fun σ2 H2 => tb { D with nx := Pv (i + 1), ct := Pv (i + 1), bk := D.nx } σ2 H2) (hd : ∀ σ H, Pv xs.length σ H → D.nx σ H) : fBody g tb D σ0 (Itl K a) H1 := for_list Pv h0 hl hs hd
theorem fb_tup {K : PySem.W.Frag} {a : Addr} {xs : List V} (Pv : Nat → St → Hp → Prop) (h0 : Pv 0 σ0 H1) (hl : ∀ i σ H, i ≤ xs.length → Pv i σ H → SqT K H a xs)
    (hs : ∀ i x σ H, xs[i]? = some x → Pv i σ H → g x σ H fun σ2 H2 => tb { D with nx := Pv (i + 1), ct := Pv (i + 1), bk := D.nx } σ2 H2) (hd : ∀ σ H, Pv xs.length σ H → D.nx σ H) : fBody g tb D σ0 (Itt K a) H1 := for_tup Pv h0 hl hs hd
theorem fb_range {lo : Int} {n : Nat} (Pv : Nat → St → Hp → Prop) (h0 : Pv 0 σ0 H1)
    (hs : ∀ i σ H, i < n → Pv i σ H → g (.int (lo + i)) σ H fun σ2 H2 => tb { D with nx := Pv (i + 1), ct := Pv (i + 1), bk := D.nx } σ2 H2) (hd : ∀ σ H, Pv n σ H → D.nx σ H) : fBody g tb D σ0 (Itr lo n) H1 := for_range Pv h0 hs hd
end

/-! ### slices of texts and lists, as lists -/
/-- a text's part, as a list -/
def cutL {α : Type} (xs : List α) (lo hi : Option Int) : List α := (xs.drop (HT.sIx xs.length 0 lo)).take (HT.sIx xs.length xs.length hi - HT.sIx xs.length 0 lo)
theorem cutL_len {α : Type} (xs : List α) (lo hi : Option Int) : (cutL xs lo hi).length ≤ xs.length := by
  unfold cutL
  rw [List.length_take, List.length_drop]
  omega
theorem cutL_to {α : Type} (xs : List α) (k : Nat) : cutL xs none (some (k : Int)) = xs.take k := by
  unfold cutL
  rw [HT.sIx_nat, HT.sIx_none, List.drop_zero, Nat.sub_zero]
  by_cases h : k ≤ xs.length
  · rw [Nat.min_eq_left h]
  · rw [Nat.min_eq_right (by omega), List.take_of_length_le (Nat.le_refl _), List.take_of_length_le (by omega)]
theorem str_len (z : Str) : z.length = z.cps.toList.length := by simp [Str.length]
theorem atI_0 {α : Type} {c : α} {r : List α} : atI (c :: r) 0 = some c := atI_nat (j := 0) rfl
theorem RcOk.up {X : Cx} {j k : Nat} {H : Hp} {x y : V} {b : Bool} (h : RcOk X j H x y b) (hjk : j ≤ k) : RcOk X k H x y b := fun pins σ s A u v hu => h pins σ s A u v (by omega)
theorem small_line {n : Nat} (h : n ≤ 1000) : n ≤ sizeLine := Nat.le_of_lt (small1000 h)
theorem hu_at {A : Around} {k : Nat} (hr : Room k A) (j : Nat) (h : j ≤ 64) : A.units + j < cLine := by have := hr.units; omega
end L2

set_option Elab.async false
set_option linter.all false
set_option maxRecDepth 100000
/-! THE TOP: what the text's own names are behind its top -/
namespace L2
open PySem PySem.Spec PyProof.Rows
section
variable {K : PySem.W.Frag} {h : Heap} {mg : Str → Option Value}
theorem dfn_mk {x : Str} {st : Stmt} {ps : List Str} {f : Addr} {oc : Value} {od an : Option Addr} {osl : Array (Option Value)} {kV doc pm cdv ct : Value} (X : K.In h) (G : h.Ns mainGlobals mg)
    (a : PySem.W.nsIn K mainGlobals x = some (some (.ref f))) (l : K.lookup f = some ⟨oc, od, .func (PySem.W.fnOf x x (defArgs st) (defBody st) (defScope st) .none kV doc pm an cdv ct), osl⟩)
    (c : PySem.W.codeIn K cdv x = true) (k : PySem.W.keepIn K (.ref f) = true)
    (hb : ∀ (kV doc pm : Value) (an : Option Addr) (cdv ct : Value) (us : List Value), us.length = ps.length → bindArgs (PySem.W.fnOf x x (defArgs st) (defBody st) (defScope st) .none kV doc pm an cdv ct) ⟨us, []⟩ = pure (ps.zip us)) : Dfn K mg x st ps :=
  ⟨f, _, fun_mk l c k, (fun_mk l c k).binds hb, PySem.W.mg_of X G a⟩
theorem law_mk {x y : Str} {st : Stmt} {f fa : Addr} {oc : Value} {od an : Option Addr} {osl : Array (Option Value)} {kV doc pm cdv ct : Value} (X : K.In h) (G : h.Ns mainGlobals mg) (hfa : mg x = some (.ref fa))
    (a : PySem.W.nsIn K mainGlobals x = some (some (.ref f))) (l : K.lookup f = some ⟨oc, od, .func (PySem.W.fnOf x x (defArgs st) (defBody st) (defScope st) .none kV doc pm an cdv ct), osl⟩)
    (c : PySem.W.codeIn K cdv x = true) (k : PySem.W.keepIn K (.ref f) = true) (hb : ∀ (s : Shared) (v : Value), BindsTo s (PySem.W.fnOf x x (defArgs st) (defBody st) (defScope st) .none kV doc pm an cdv ct) ⟨[v], []⟩ [(y, v)]) :
    ∃ fd : FuncData, (∀ (s : Shared) (v : Value), BindsTo s fd ⟨[v], []⟩ [(y, v)]) ∧ Fun K x x st fa fd := by
  have e := hfa.symm.trans (PySem.W.mg_of X G a)
  cases e
  exact ⟨_, hb, fun_mk l c k⟩
theorem glv_mk {x : Str} {u : Value} {v : V} (X : K.In h) (G : h.Ns mainGlobals mg) (a : PySem.W.nsIn K mainGlobals x = some (some u)) (r : RelV v u) : GlV mg x v := ⟨u, PySem.W.mg_of X G a, r⟩
end
end L2

set_option Elab.async false
set_option linter.all false
set_option maxRecDepth 100000
namespace L2
open PySem PySem.Spec PyProof.Rows
section
variable {CX : CXT} {P : Program} {w : World} {K : PySem.W.Frag} {mg : Str → Option Value} {base : Heap} {N : List Str} {x : Str} {sc : Scope} {f : Addr} {cdv : Value} {A : Around} {outer : List Env} {s : Shared} {H : Hp} {E : XK}
theorem cxK : (cxOf CX P w K mg base N x sc f cdv A outer s H E).K = K := rfl
theorem cxP : (cxOf CX P w K mg base N x sc f cdv A outer s H E).prog = P := rfl
theorem cxW : (cxOf CX P w K mg base N x sc f cdv A outer s H E).w = w := rfl
end
end L2
/-! A CUT: what holds behind a statement, said by the reader -/
namespace L2
open PySem PySem.Spec PyProof.Rows
section
variable {X : Cx} {st : Stmt} {rest : List Stmt} {t u : TS} {e : Expr} {te : TE}
def tCut (t u : TS) : TS := fun D σ H => ∃ Pv : St → Hp → Prop, t { D with nx := Pv } σ H ∧ ∀ σ' H', Pv σ' H' → u D σ' H'
theorem pss_cut (h1 : PS X st t) (h2 : PSs X rest u) : PSs X (st :: rest) (tCut t u) := by
  intro pins s σ H D I h
  obtain ⟨Pv, q1, q2⟩ := h
  refine wpAny_execs_cons (thn (h1 pins s σ H { D with nx := Pv } I q1) fun f s1 q => ?_)
  cases f with
  | next =>
    obtain ⟨σ', H', I', q⟩ := q
    exact h2 pins s1 σ' H' D I' (q2 σ' H' q)
  | ret v => exact q
  | brk => exact q
  | cont => exact q
end
end L2
/-! SETS made of a list of ints and texts; their size -/
namespace L2
open PySem PySem.Spec PyProof.Rows
local instance (priority := 10000) : BEq Key := instBEqOfDecidableEq
local instance (priority := 10000) : LawfulBEq Key := inferInstanceAs (LawfulBEq (Sum Int Str))
/-- each key once, as they first come -/
def onceK : List Key → List Key → List Key
  | acc, [] => acc
  | acc, k :: r => onceK (if k ∈ acc then acc else acc ++ [k]) r
section
variable {P : Program} {w : World} {A : Around} {R : Result → Shared → Prop} {it : Addr} {fp wr : List Addr} {G : Array GenState → Array GenState → Prop} {n : Nat} {Pv : Nat → Value → Prop} {St : Nat → Shared → Prop}
/-- what stands in the set behind i turns -/
def SetIs (P : Program) (w : World) (h : Heap) (a : Addr) (ks : List Key) : Prop := h.SetOf (mixKind P w) a (fun k => decide (k ∈ onceK [] ks)) (onceK [] ks).length
theorem SetIs.kept {h h' : Heap} {a : Addr} {ks : List Key} (x : SetIs P w h a ks) (k : ∀ o, h.get? a = some o → h'.get? a = some o) : SetIs P w h' a ks := by
  obtain ⟨o, es, ep, t, ho, rest⟩ := x
  exact ⟨o, es, ep, t, k o ho, rest⟩
end
section
variable {P : Program} {w : World} {A : Around} {E : Value → Shared → Prop} {s : Shared}
end
end L2

set_option Elab.async false
set_option linter.all false
set_option maxRecDepth 100000
/-! NEW OBJECTS, the heap behind them a letter -/
namespace L2
open PySem PySem.Spec PyProof.Rows
/-- H' is H with the new object o at p -/
structure New (H : Hp) (p : Addr) (o : HO) (H' : Hp) : Prop where
  nil : H p = none
  g : Same H H'
  at' : H' p = some o
  eq : H' = upd H p o
theorem New.mk' {H : Hp} {p : Addr} (h : H p = none) (o : HO) : New H p o (upd H p o) := ⟨h, same_upd h o, upd_same, rfl⟩
theorem New.lst {K : PySem.W.Frag} {H H' : Hp} {p : Addr} {xs : List V} (n : New H p (.lst xs) H') : SqL K H' p xs := .of n.at'
/-- an object that was not there may be written -/
theorem Same.wr {H H' : Hp} {p : Addr} (g : Same H H') (h : H p = none) (o : HO) : Same H (upd H' p o) := fun b u e => by rw [upd_ne (ne_of_none e h)]; exact g b u e
section
variable {X : Cx} {e : Expr} {es : List Expr} {t : TA} {pos : Pos}
def tTupN (t : TA) : TE := fun σ H Q => t σ H fun xs H1 => xs.length ≤ sizeLine ∧ ∀ p H', New H1 p (.tup xs) H' → Q (.ref p) H'
def tLstN (t : TA) : TE := fun σ H Q => t σ H fun xs H1 => xs.length ≤ sizeLine ∧ ∀ p H', New H1 p (.lst xs) H' → Q (.ref p) H'
theorem pe_tupN {x1} (h : PA X es t) : PE X (.Tuple es x1 pos) (tTupN t) := by
  intro pins s σ H Q I hq
  refine wpAny_Tuple_spliced (thn (h pos pins s σ H _ I hq) fun us s1 ⟨xs, H1, I1, r, z, q⟩ => ⟨by rw [← r.length]; exact z, ?_⟩)
  refine ⟨.ref s1.heap.objs.size, upd H1 s1.heap.objs.size (.tup xs), I1.laid (t' := s1.toks) (fun b u e => Heap.get?_push_of_some _ e) (Nat.le_refl _) ?_, rfl, q _ _ (.mk' I1.fresh _)⟩
  exact ⟨z, us, r, ⟨_, Heap.get?_push_size _ rfl, rfl, _, rfl⟩⟩
theorem pe_lstN (h : PA X es t) : PE X (.List es pos) (tLstN t) := by
  intro pins s σ H Q I hq
  refine wpAny_List_spliced (thn (h pos pins s σ H _ I hq) fun us s1 ⟨xs, H1, I1, r, z, q⟩ => ⟨by rw [← r.length]; exact z, ?_⟩)
  refine ⟨.ref s1.heap.objs.size, upd H1 s1.heap.objs.size (.lst xs), I1.laid (t' := s1.toks) (fun b u e => Heap.get?_push_of_some _ e) (Nat.le_refl _) ?_, rfl, q _ _ (.mk' I1.fresh _)⟩
  exact ⟨z, us, 0, r, Heap.get?_push_size _ rfl⟩
def rSlLN (K : PySem.W.Frag) : V → Option Int → Option Int → Hp → VK → Prop := fun x lo hi H Q => ∃ a xs, x = .ref a ∧ SqL K H a xs ∧ ∀ p H', New H p (.lst (cutL xs lo hi)) H' → Q (.ref p) H'
theorem sl_listN : SlR X (rSlLN X.K) := fun pins s σ H x v vl vu lo hi sl Q I rx hs pl pu h => by
  obtain ⟨a, xs, e, hx, q⟩ := h
  exact sl_list pins s σ H x v vl vu lo hi sl Q I rx hs pl pu ⟨a, xs, e, hx, fun p np => q p _ (.mk' np _)⟩
def rCatN : R2 := fun x y H Q => ∃ l b xs zs, x = .ref l ∧ y = .ref b ∧ H l = some (.lst xs) ∧ H b = some (.lst zs) ∧ xs.length + zs.length ≤ sizeLine ∧ ∀ p H', New H p (.lst (xs ++ zs)) H' → Q (.ref p) H'
theorem op_catN : OpR X (binaryOp .Add) rCatN := fun pins s σ H x y v u Q I rx ry h => by
  obtain ⟨l, b, xs, zs, e1, e2, h1, h2, hz, q⟩ := h
  exact op_cat pins s σ H x y v u Q I rx ry ⟨l, b, xs, zs, e1, e2, h1, h2, hz, fun p np => q p _ (.mk' np _)⟩
theorem call_list_ofN : CallR X (.type "list") (fun xs H Q => ∃ p ys, xs = [.ref p] ∧ (SqL X.K H p ys ∨ SqT X.K H p ys) ∧ ∀ l H', New H l (.lst ys) H' → Q (.ref l) H') := fun pins s σ H xs us Q I r h => by
  obtain ⟨p, ys, e, hq, q⟩ := h
  exact call_list_of pins s σ H xs us Q I r ⟨p, ys, e, hq, fun l nl => q l _ (.mk' nl _)⟩
theorem call_tuple_ofN : CallR X (.type "tuple") (fun xs H Q => ∃ p ys, xs = [.ref p] ∧ ((SqL X.K H p ys ∧ ∀ l H', New H l (.tup ys) H' → Q (.ref l) H') ∨ (SqT X.K H p ys ∧ Q (.ref p) H))) := fun pins s σ H xs us Q I r h => by
  obtain ⟨p, ys, e, hq⟩ := h
  refine call_tuple_of pins s σ H xs us Q I r ⟨p, ys, e, ?_⟩
  rcases hq with ⟨h1, q⟩ | h1
  · exact .inl ⟨h1, fun l nl => q l _ (.mk' nl _)⟩
  · exact .inr h1
end
/-! ### a comprehension whose items are a function of the source's items; the heap only grows -/
section
variable {tn : List Str} {cp : List (Nat × Str)} {g : TG} {tif : TT} {te : TE} {σ0 : St} {Q : VK} {H1 : Hp} {K : PySem.W.Frag} {a : Addr} {xs : List V}
/-- what holds at turn i -/
def PMap (S : St → Prop) (f : V → V) (xs : List V) (H1 : Hp) (i : Nat) (ys : List V) (σ : St) (H : Hp) : Prop := Same H1 H ∧ S σ ∧ ys = (xs.take i).map f
theorem cm_list (S : St → Prop) (f : V → V) (hn : xs.length ≤ 1000) (hS : SqL K H1 a xs) (h0 : S (stB tn cp σ0))
    (hs : ∀ D i σ H x, i < xs.length → x ∈ xs → xs[i]? = some x → Same H1 H → H1 D = none → H D = some (.lst ((xs.take i).map f)) → S σ → g x σ H fun σ2 H2 => tif σ2 H2 fun c H3 =>
      if c = true then te σ2 H3 fun y H4 => CStep D xs.length i (PMap S f xs H1) σ2 y H4 else CSkip D xs.length i (PMap S f xs H1) σ2 H3)
    (hd : ∀ D H, H1 D = none → Same H1 H → H D = some (.lst (xs.map f)) → Q (.ref D) H) : cBody tn cp g tif te σ0 Q (Itl K a) H1 := by
  refine cb_list (K := K) (a := a) (xs := xs) (fun D i ys σ H => PMap S f xs H1 i ys σ H) (small_line hn) (fun D hD => ⟨same_upd hD _, h0, rfl⟩) (fun D i ys σ H _ _ _ p => p.1.seq hS) ?_ ?_
  · rintro D i ys σ H x hD hi hx hH hl ⟨p1, p2, rfl⟩
    exact hs D i σ H x hi (List.mem_of_getElem? hx) hx p1 hD hH p2
  · rintro D ys σ H hD hH hl ⟨p1, p2, rfl⟩
    rw [List.take_of_length_le (Nat.le_refl _)] at hH
    exact hd D H hD p1 hH
theorem cm_tup (S : St → Prop) (f : V → V) (hn : xs.length ≤ 1000) (hS : SqT K H1 a xs) (h0 : S (stB tn cp σ0))
    (hs : ∀ D i σ H x, i < xs.length → x ∈ xs → xs[i]? = some x → Same H1 H → H1 D = none → H D = some (.lst ((xs.take i).map f)) → S σ → g x σ H fun σ2 H2 => tif σ2 H2 fun c H3 =>
      if c = true then te σ2 H3 fun y H4 => CStep D xs.length i (PMap S f xs H1) σ2 y H4 else CSkip D xs.length i (PMap S f xs H1) σ2 H3)
    (hd : ∀ D H, H1 D = none → Same H1 H → H D = some (.lst (xs.map f)) → Q (.ref D) H) : cBody tn cp g tif te σ0 Q (Itt K a) H1 := by
  refine cb_tup (K := K) (a := a) (xs := xs) (fun D i ys σ H => PMap S f xs H1 i ys σ H) (small_line hn) (fun D hD => ⟨same_upd hD _, h0, rfl⟩) (fun D i ys σ H _ _ _ p => p.1.seqT hS) ?_ ?_
  · rintro D i ys σ H x hD hi hx hH hl ⟨p1, p2, rfl⟩
    exact hs D i σ H x hi (List.mem_of_getElem? hx) hx p1 hD hH p2
  · rintro D ys σ H hD hH hl ⟨p1, p2, rfl⟩
    rw [List.take_of_length_le (Nat.le_refl _)] at hH
    exact hd D H hD p1 hH
theorem cm_step {S : St → Prop} {f : V → V} {D : Addr} {i : Nat} {x y : V} {σ2 : St} {H4 : Hp} (hn : xs.length ≤ 1000) (hx : xs[i]? = some x) (hD : H1 D = none) (h4 : H4 D = some (.lst ((xs.take i).map f))) (g4 : Same H1 H4) (s2 : S σ2) (e : y = f x) :
    CStep D xs.length i (PMap S f xs H1) σ2 y H4 := by
  have hi : i < xs.length := (List.getElem?_eq_some_iff.mp hx).1
  refine cstep (small_line hn) hi h4 (by rw [List.length_map, List.length_take]; omega) ⟨g4.wr hD _, s2, ?_⟩
  rw [List.take_add_one, hx, List.map_append, e]
  rfl
/-- with a test: those that p takes -/
def PFil (S : St → Prop) (p : V → Bool) (f : V → V) (xs : List V) (H1 : Hp) (i : Nat) (ys : List V) (σ : St) (H : Hp) : Prop := Same H1 H ∧ S σ ∧ ys = ((xs.take i).filter p).map f
theorem cf_list (S : St → Prop) (p : V → Bool) (f : V → V) (hn : xs.length ≤ 1000) (hS : SqL K H1 a xs) (h0 : S (stB tn cp σ0))
    (hs : ∀ D i σ H x, i < xs.length → x ∈ xs → xs[i]? = some x → Same H1 H → H1 D = none → H D = some (.lst (((xs.take i).filter p).map f)) → S σ → g x σ H fun σ2 H2 => tif σ2 H2 fun c H3 =>
      if c = true then te σ2 H3 fun y H4 => CStep D xs.length i (PFil S p f xs H1) σ2 y H4 else CSkip D xs.length i (PFil S p f xs H1) σ2 H3)
    (hd : ∀ D H, H1 D = none → Same H1 H → H D = some (.lst ((xs.filter p).map f)) → Q (.ref D) H) : cBody tn cp g tif te σ0 Q (Itl K a) H1 := by
  refine cb_list (K := K) (a := a) (xs := xs) (fun D i ys σ H => PFil S p f xs H1 i ys σ H) (small_line hn) (fun D hD => ⟨same_upd hD _, h0, rfl⟩) (fun D i ys σ H _ _ _ p => p.1.seq hS) ?_ ?_
  · rintro D i ys σ H x hD hi hx hH hl ⟨p1, p2, rfl⟩
    exact hs D i σ H x hi (List.mem_of_getElem? hx) hx p1 hD hH p2
  · rintro D ys σ H hD hH hl ⟨p1, p2, rfl⟩
    rw [List.take_of_length_le (Nat.le_refl _)] at hH
    exact hd D H hD p1 hH
theorem cf_step {S : St → Prop} {p : V → Bool} {f : V → V} {D : Addr} {i : Nat} {x y : V} {σ2 : St} {H4 : Hp} (hn : xs.length ≤ 1000) (hx : xs[i]? = some x) (hp : p x = true) (hD : H1 D = none) (h4 : H4 D = some (.lst (((xs.take i).filter p).map f))) (g4 : Same H1 H4) (s2 : S σ2) (e : y = f x) :
    CStep D xs.length i (PFil S p f xs H1) σ2 y H4 := by
  have hi : i < xs.length := (List.getElem?_eq_some_iff.mp hx).1
  refine cstep (small_line hn) hi h4 ?_ ⟨g4.wr hD _, s2, ?_⟩
  · rw [List.length_map]
    have := List.length_filter_le p (xs.take i)
    rw [List.length_take] at this
    omega
  · rw [List.take_add_one, hx, List.filter_append, List.map_append, e]
    simp [hp]
theorem cf_skip {S : St → Prop} {p : V → Bool} {f : V → V} {D : Addr} {i : Nat} {x : V} {σ2 : St} {H3 : Hp} (hx : xs[i]? = some x) (hp : p x = false) (h3 : H3 D = some (.lst (((xs.take i).filter p).map f))) (g3 : Same H1 H3) (s2 : S σ2) :
    CSkip D xs.length i (PFil S p f xs H1) σ2 H3 := by
  have hi : i < xs.length := (List.getElem?_eq_some_iff.mp hx).1
  refine cskip hi h3 ?_ ⟨g3, s2, ?_⟩
  · rw [List.length_map]
    have := List.length_filter_le p (xs.take i)
    rw [List.length_take] at this
    omega
  · rw [List.take_add_one, hx, List.filter_append]
    simp [hp]
end
end L2

set_option Elab.async false
set_option linter.all false
set_option maxRecDepth 100000
/-! lists of texts compared; parts of tuples; islower, isupper; constants that are tuples -/
namespace L2
open PySem PySem.Spec PyProof.Rows
section
variable {X : Cx} {k : Nat} {H : Hp} {a b : Addr} {xs ys : List V}
def rEqS (K : PySem.W.Frag) : R2 := fun x y H Q => ∃ (a b : Addr) (xs ys : List Str), x = .ref a ∧ y = .ref b ∧ SqL K H a (xs.map V.str) ∧ SqL K H b (ys.map V.str) ∧ Q (.bl (decide (xs = ys))) H
def rNeS (K : PySem.W.Frag) : R2 := fun x y H Q => ∃ (a b : Addr) (xs ys : List Str), x = .ref a ∧ y = .ref b ∧ SqL K H a (xs.map V.str) ∧ SqL K H b (ys.map V.str) ∧ Q (.bl (!decide (xs = ys))) H
def rSlTN (K : PySem.W.Frag) : V → Option Int → Option Int → Hp → VK → Prop := fun x lo hi H Q => ∃ a xs, x = .ref a ∧ SqT K H a xs ∧
  ¬ (HT.sIx xs.length 0 lo = 0 ∧ HT.sIx xs.length xs.length hi = xs.length) ∧ ∀ p H', New H p (.tup (cutL xs lo hi)) H' → Q (.ref p) H'
theorem sl_tupN : SlR X (rSlTN X.K) := fun pins s σ H x v vl vu lo hi sl Q I rx hs pl pu h => by
  obtain ⟨a, xs, e, hx, hw, q⟩ := h
  exact sl_tup pins s σ H x v vl vu lo hi sl Q I rx hs pl pu ⟨a, xs, e, hx, hw, fun p np => q p _ (.mk' np _)⟩
def rStrB (f : Str → Bool) : V → List V → Hp → VK → Prop := fun x vs H Q => ∃ z, x = .str z ∧ vs = [] ∧ Q (.bl (f z)) H
end
section
variable {K : PySem.W.Frag} {h : Heap} {mg : Str → Option Value}
end
/-! ### the same, the written part named -/
section
variable {X : Cx} (K : PySem.W.Frag)
theorem ix_listK (h : X.K = K := by rfl) : IxR X (rIxL K) := h ▸ ix_list
theorem ix_tupK (h : X.K = K := by rfl) : IxR X (rIxT K) := h ▸ ix_tup
theorem sl_listNK (h : X.K = K := by rfl) : SlR X (rSlLN K) := h ▸ sl_listN
theorem sl_tupNK (h : X.K = K := by rfl) : SlR X (rSlTN K) := h ▸ sl_tupN
def rLen : List V → Hp → VK → Prop := fun xs H Q => ∃ p ys, xs = [.ref p] ∧ (SqL K H p ys ∨ SqT K H p ys) ∧ Q (.int (List.length ys)) H
theorem call_len_seqK (h : X.K = K := by rfl) : CallR X (.builtin "len") (rLen K) := h ▸ call_len_seq
def rAll : List V → Hp → VK → Prop := fun xs H Q => ∃ (p : Addr) (bs : List Bool), xs = [.ref p] ∧ SqL K H p (bs.map V.bl) ∧ Q (.bl (bs.all id)) H
theorem call_all_blK (hc : X.calm = true) (h : X.K = K := by rfl) : CallR X (.builtin "all") (rAll K) := h ▸ call_all_bl hc
def rAny : List V → Hp → VK → Prop := fun xs H Q => ∃ (p : Addr) (bs : List Bool), xs = [.ref p] ∧ SqL K H p (bs.map V.bl) ∧ Q (.bl (bs.any id)) H
def rSum : List V → Hp → VK → Prop := fun xs H Q => ∃ (p : Addr) (ns : List Int), xs = [.ref p] ∧ SqL K H p (ns.map V.int) ∧ Q (.int ns.sum) H
theorem call_sum_intK (hc : X.calm = true) (h : X.K = K := by rfl) : CallR X (.builtin "sum") (rSum K) := h ▸ call_sum_int hc
def rListOf : List V → Hp → VK → Prop := fun xs H Q => ∃ p ys, xs = [.ref p] ∧ (SqL K H p ys ∨ SqT K H p ys) ∧ ∀ l H', New H l (.lst ys) H' → Q (.ref l) H'
theorem call_list_ofNK (h : X.K = K := by rfl) : CallR X (.type "list") (rListOf K) := h ▸ call_list_ofN
theorem pi_listK {tg l : Expr} {tl : TE} (hl : PE X l tl) (h : X.K = K := by rfl) : PI X tg l (iList K tl) := h ▸ pi_list hl
theorem pi_tupK {tg l : Expr} {tl : TE} (hl : PE X l tl) (h : X.K = K := by rfl) : PI X tg l (iTup K tl) := h ▸ pi_tup hl
variable {o e : Expr} {es : List Expr} {to : TE} {t : TA} {name : Str} {apos cpos : Pos} {T id : String} {r : V → List V → Hp → VK → Prop}
theorem pe_bmK (pa : PlainAttrs T) (slot : Slot T name id) (hty : typeOf (.builtin id) = pure (.type "method_descriptor")) (hm : MtR X id r) (ho : PE X o to) (ha : PA X (e :: es) t) (h : X.K = K := by rfl)
    (hbase : attributeBase o name X.env (eval o X.env) = eval o X.env := by rfl)
    (hfew : ((backTo cpos (starEach (e :: es) X.env)).all (fun x => !x.1) && (backToKw cpos (keywordEach [] X.env)).all (fun x => x.1.isSome)
      && decide ((e :: es).length + ([] : List Keyword).length + (if ([] : List Keyword).isEmpty then 0 else 1) < 30)) = true := by rfl)
    (hline : (apos.endLine == cpos.line) = true := by rfl) (h1 : notStar e = true := by rfl) (h2 : es.all notStar = true := by rfl) :
    PE X (.Call (.Attribute o name apos) (e :: es) [] cpos) (tBM K T r to t) := h ▸ pe_bm pa slot hty hm ho ha hbase hfew hline (star_cons h1) (star_any h2)
end
/-! ### a cut behind a test -/
section
variable {X : Cx} {e : Expr} {t : TT}
def tCutT (t : TT) : TT := fun σ H Q => ∃ Pv : Bool → Hp → Prop, t σ H Pv ∧ ∀ b H', Pv b H' → Q b H'
theorem pt_cut (h : PT X e t) : PT X e (tCutT t) := by
  intro pins s σ H Q I q
  obtain ⟨Pv, q1, q2⟩ := q
  exact thn (h pins s σ H Pv I q1) fun b s1 ⟨H1, I1, p1⟩ => ⟨H1, I1, q2 b H1 p1⟩
end
end L2

set_option Elab.async false
set_option linter.all false
set_option maxRecDepth 100000
/-! zip of two tuples, walked by a comprehension or a loop with two names -/
namespace L2
open PySem PySem.Spec PyProof.Rows
section
variable {P : Program} {w : World} {A : Around} {E : Value → Shared → Prop} {s : Shared}
end
/-- the five records of a zip of two tuples, at turn i -/
structure ZipT (h : Heap) (z ti ro j1 j2 t1 t2 : Addr) (f0 : Value) (i : Nat) : Prop where
  z : IsZip h z ti ro f0
  ti : IsPair h ti (.ref j1) (.ref j2)
  ro : ∃ a b, IsPair h ro a b
  j1 : h.IsTupleIter j1 t1 i
  j2 : h.IsTupleIter j2 t2 i
section
variable {P : Program} {w : World} {A : Around} {E : Value → Shared → Prop} {s : Shared} {z ti ro j1 j2 t1 t2 : Addr} {i : Nat} {its1 its2 : Array Value}
end
section
variable {P : Program} {w : World} {A : Around} {E : Value → Shared → Prop} {s : Shared}
end
/-! ### several records of ours have turned -/
section
variable {X : Cx} {pins : List (Addr × Obj)} {σ : St} {H : Hp} {s : Shared} {h' : Heap}
theorem Inv.turnedL {t' : Nat} {L : List Addr} (I : Inv X pins σ H s) (k : ∀ b o, b ∉ L → s.heap.get? b = some o → h'.get? b = some o) (hL : ∀ b ∈ L, FpOk X pins H b) : Inv X pins σ H { s with heap := h', toks := t' } := by
  have no : ∀ b u, H b = some u → b ∉ L := fun b u e z => by rw [(hL b z).1] at e; cases e
  refine I.step (g' := s.gens) (d' := s.drawn) (ch := L) (fun b hb => ?_) (fun b o _ _ hc e _ => k b o hc e) (fun b o _ _ hc e _ => ⟨o.slots, k b o hc e⟩) (fun _ _ _ _ n => n)
    (fun b o hc e => ⟨o, k b o hc e⟩) (fun _ _ e => e) (fun _ _ _ e => e) (fun _ _ _ e => e) (fun m hm => ?_) (fun b u e => ?_) I.bare
  · obtain ⟨_, f1, _, f3, f4, f5⟩ := hL b hb
    exact ⟨f3, f1, f4, f5⟩
  · obtain ⟨o, es, ep, ho, r⟩ := hm
    exact ⟨o, es, ep, k _ o (fun z => (hL _ z).2.1 rfl) ho, r⟩
  · refine (I.hok b u e).stay (fun c v hc q => k c v ?_ q) (fun _ q => q) (fun _ _ _ _ _ q => q) fun _ _ q => q
    rcases hc with z | z
    · rw [z]; exact no b u e
    · exact no c _ z
theorem Inv.turnedNew {t' : Nat} {L : List Addr} {p : Addr} {o : HO} (I : Inv X pins σ H s) (k : ∀ b u, b ∉ L → s.heap.get? b = some u → h'.get? b = some u) (hL : ∀ b ∈ L, FpOk X pins H b) (hp : s.heap.objs.size ≤ p) (new : ObjOk X.prog X.w (upd H p o) h' p o)
    (hl : ∀ b ∈ L, ∃ u, h'.get? b = some u) : Inv X pins σ (upd H p o) { s with heap := h', toks := t' } := by
  have hn : H p = none := I.hok.fresh hp
  have no : ∀ b u, H b = some u → b ∉ L := fun b u e z => by rw [(hL b z).1] at e; cases e
  have ne : ∀ b u, H b = some u → upd H p o b = some u := fun b u e => by rw [upd_ne (ne_of_none e hn)]; exact e
  refine I.step (g' := s.gens) (d' := s.drawn) (ch := L) (fun b hb => ?_) (fun b u _ _ hc e _ => k b u hc e) (fun b u _ _ hc e _ => ⟨u.slots, k b u hc e⟩) (fun b u _ e z => ?_)
    (fun b u hc e => ⟨u, k b u hc e⟩) (fun b xs e => ne b _ e) (fun b ob u e => ne b _ e) (fun b _ _ e => ne b _ e) (fun m hm => ?_) (fun b u e => ?_) I.bare
  · obtain ⟨_, f1, _, f3, f4, f5⟩ := hL b hb
    exact ⟨f3, f1, f4, f5⟩
  · rw [upd_ne (Nat.ne_of_lt (Nat.lt_of_lt_of_le (Heap.lt_size e) hp))]; exact z
  · obtain ⟨ob, es, ep, ho, r⟩ := hm
    exact ⟨ob, es, ep, k _ ob (fun z => (hL _ z).2.1 rfl) ho, r⟩
  · by_cases hb : b = p
    · subst hb; rw [upd_same] at e; cases e; exact new
    · rw [upd_ne hb] at e
      refine (I.hok b u e).stay (fun c v hc q => k c v ?_ q) (fun c q => ne c _ q) (fun c _ _ _ _ q => ne c _ q) fun c xs q => ne c _ q
      rcases hc with z | z
      · rw [z]; exact no b u e
      · exact no c _ z
end
/-! ### the iterator -/
def Itz (K : PySem.W.Frag) (a b : Addr) : It :=
  ⟨fun i H => ∃ xs ys x y, SqT K H a xs ∧ SqT K H b ys ∧ xs[i]? = some x ∧ ys[i]? = some y,
   fun i H v H' => ∃ p x y, v = .ref p ∧ New H p (.tup [x, y]) H' ∧ (∀ xs, SqT K H a xs → xs[i]? = some x) ∧ ∀ ys, SqT K H b ys → ys[i]? = some y,
   fun i H => ∃ xs ys, SqT K H a xs ∧ SqT K H b ys ∧ xs.length ≤ i⟩
def iZip (K : PySem.W.Frag) (ta : TA) : TI := fun σ H R => ta σ H fun vs H1 => ∃ a b, vs = [.ref a, .ref b] ∧ (∃ xs, SqT K H1 a xs) ∧ (∃ ys, SqT K H1 b ys) ∧ R (Itz K a b) H1
theorem pg_tupK {X : Cx} (K : PySem.W.Frag) {es : List Expr} {k : Nat} {t : TGs} {n : Nat} {pos : Pos} (hc : X.calm = true) (h : PGs X es t) (hK : X.K = K := by rfl)
    (hn : (assignEach es X.env).length = n := by rfl) (hst : (assignEach es X.env).findIdx? (·.1) = none := by rfl) : PG X (.Tuple es k pos) (gTup K n t) := hK ▸ pg_tup hc h hn hst
section
variable {tn : List Str} {cp : List (Nat × Str)} {g : TG} {tif : TT} {te : TE} {σ0 : St} {Q : VK} {H1 : Hp} {K : PySem.W.Frag} {a b : Addr} {xs ys : List V}
end
end L2

set_option Elab.async false
set_option linter.all false
set_option maxRecDepth 100000
/-! a constant dict of the text, asked by texts -/
namespace L2
open PySem PySem.Spec PyProof.Rows
/-- the written dict at a tells f -/
def DctK (K : PySem.W.Frag) (w : World) (a : Addr) (f : Str → Option V) : Prop := (a == sysModules) = false ∧ ∃ (es : Array DictEntry) (n : Nat), K.lookup a = some ⟨.type "dict", none, .dict es n, #[]⟩ ∧ PySem.W.KeysLit w.params es.toList ∧ ∀ x, RelO (f x) (findBy Value.isStrOf es x)
section
variable {X : Cx} (K : PySem.W.Frag) (w : World)
def rInD (neg : Bool) : R2 := fun x y H Q => ∃ z a f, x = .str z ∧ y = .ref a ∧ DctK K w a f ∧ Q (.bl (if neg then !(f z).isSome else (f z).isSome)) H
def rIxD : R2 := fun x y H Q => ∃ a z f v, x = .ref a ∧ y = .str z ∧ DctK K w a f ∧ f z = some v ∧ Q v H
end
section
variable {tn : List Str} {cp : List (Nat × Str)} {g : TG} {tif : TT} {te : TE} {σ0 : St} {Q : VK} {H1 : Hp} {K : PySem.W.Frag} {a : Addr} {xs : List V}
end
end L2

set_option Elab.async false
set_option linter.all false
/-! is not, of two bools -/
namespace L2
open PySem PySem.Spec PyProof.Rows
variable {X : Cx}
end L2

set_option Elab.async false
set_option linter.all false
set_option maxRecDepth 100000
/-! lists of ints compared; a comprehension over a range -/
namespace L2
open PySem PySem.Spec PyProof.Rows
section
variable {X : Cx} {k : Nat} {H : Hp} {a b : Addr} {xs ys : List V}
theorem eqV_int (a b : Int) : eqV (.int a) (.int b) = decide (a = b) := by
  by_cases h : a = b
  · subst h; simp [eqV]
  · simp [eqV, h]
theorem all_eqi : ∀ (xs ys : List Int), (xs.length == ys.length && (List.range xs.length).all fun j => eqV ((xs.map V.int).getD j .non) ((ys.map V.int).getD j .non)) = decide (xs = ys)
  | [], [] => rfl
  | [], y :: ys => by simp
  | x :: xs, [] => by simp
  | x :: xs, y :: ys => by
    have ih := all_eqi xs ys
    have e : (List.range (x :: xs).length).all (fun j => eqV (((x :: xs).map V.int).getD j .non) (((y :: ys).map V.int).getD j .non)) =
        (decide (x = y) && (List.range xs.length).all fun j => eqV ((xs.map V.int).getD j .non) ((ys.map V.int).getD j .non)) := by
      rw [List.length_cons, List.range_succ_eq_map, List.all_cons, List.all_map]
      exact congrArg (· && _) (eqV_int x y)
    rw [e]
    have e2 : ((x :: xs).length == (y :: ys).length) = (xs.length == ys.length) := by simp
    rw [e2]
    by_cases hx : x = y
    · subst hx
      rw [decide_eq_true rfl, Bool.true_and, ih]
      simp
    · rw [decide_eq_false hx, Bool.false_and, Bool.and_false]
      simp [hx]
theorem flats_int (xs : List Int) : (xs.map V.int).all flatV = true := by
  rw [List.all_eq_true]
  intro x hx
  obtain ⟨z, _, rfl⟩ := List.mem_map.mp hx
  rfl
def rEqI (K : PySem.W.Frag) : R2 := fun x y H Q => ∃ (a b : Addr) (xs ys : List Int), x = .ref a ∧ y = .ref b ∧ SqL K H a (xs.map V.int) ∧ SqL K H b (ys.map V.int) ∧ Q (.bl (decide (xs = ys))) H
def rNeI (K : PySem.W.Frag) : R2 := fun x y H Q => ∃ (a b : Addr) (xs ys : List Int), x = .ref a ∧ y = .ref b ∧ SqL K H a (xs.map V.int) ∧ SqL K H b (ys.map V.int) ∧ Q (.bl (!decide (xs = ys))) H
theorem op_neI (hu : X.A.units + 8 < cLine) : OpR X (compareOp .NotEq) (rNeI X.K) := by
  intro pins s σ H x y v u Q I rx ry h
  obtain ⟨a, b, xs, ys, rfl, rfl, h1, h2, q⟩ := h
  cases (show v = Value.ref a from rx)
  cases (show u = Value.ref b from ry)
  obtain ⟨us, r1, p1, _⟩ := I.list h1
  obtain ⟨vs, r2, p2, _⟩ := I.list h2
  have l1 := r1.length
  have l2 := r2.length
  have hu' : X.A.units < cLine := by omega
  by_cases hl : us.length = vs.length
  · have z := SeqAt.RcNeAt.lists (A := X.A) (s := s) (e := fun j => eqV ((xs.map V.int).getD j .non) ((ys.map V.int).getD j .non)) p1.isList p2.isList (by rw [List.size_toArray, List.size_toArray]; exact hl) hu' fun j h1 h2 => by
      rw [List.size_toArray] at h1 h2
      obtain ⟨g1, q1⟩ := r1.at h1
      obtain ⟨g2, q2⟩ := r2.at h2
      have e1 : (xs.map V.int).getD j .non = (xs.map V.int)[j] := by rw [List.getD_eq_getElem?_getD, List.getElem?_eq_getElem g1]; rfl
      have e2 : (ys.map V.int).getD j .non = (ys.map V.int)[j] := by rw [List.getD_eq_getElem?_getD, List.getElem?_eq_getElem g2]; rfl
      rw [e1, e2]
      refine eqAt_V (by simpa using q1) (by simpa using q2) ?_ ?_
      · exact List.all_eq_true.mp (flats_int xs) _ (List.getElem_mem g1)
      · exact List.all_eq_true.mp (flats_int ys) _ (List.getElem_mem g2)
    have e := all_eqi xs ys
    rw [List.length_map] at l1 l2
    rw [show (xs.length == ys.length) = true by simp; omega, Bool.true_and] at e
    rw [List.size_toArray, ← l1, e] at z
    exact z _ _ _ _ ⟨.bl (!decide (xs = ys)), H, I, rfl, q⟩
  · have z := SeqAt.RcNeAt.lists_lengths (A := X.A) (s := s) p1.isList p2.isList (by rw [List.size_toArray, List.size_toArray]; simpa using hl) hu'
    have e : decide (xs = ys) = false := decide_eq_false fun h => by rw [h, List.length_map] at l1; rw [List.length_map] at l2; omega
    rw [e] at q
    exact z _ _ _ _ ⟨.bl true, H, I, rfl, q⟩
variable (K : PySem.W.Frag)
theorem op_neIK (hu : X.A.units + 8 < cLine) (h : X.K = K := by rfl) : OpR X (compareOp .NotEq) (rNeI K) := h ▸ op_neI hu
end
/-! ### a comprehension over a range -/
section
variable {tn : List Str} {cp : List (Nat × Str)} {g : TG} {tif : TT} {te : TE} {σ0 : St} {Q : VK} {H1 : Hp} {lo : Int} {n : Nat}
end
/-- what is a tuple stays -/
def TupS (H H' : Hp) : Prop := ∀ b xs, H b = some (.tup xs) → H' b = some (.tup xs)
theorem Same.tups {H H' : Hp} (g : Same H H') : TupS H H' := fun b xs e => g b _ e
theorem TupS.refl (H : Hp) : TupS H H := fun _ _ e => e
theorem TupS.trans {H H1 H2 : Hp} (a : TupS H H1) (b : TupS H1 H2) : TupS H H2 := fun c xs e => b c xs (a c xs e)
/-- a list is written -/
theorem TupS.wr {H : Hp} {p : Addr} {xs : List V} (h : H p = some (.lst xs)) (o : HO) : TupS H (upd H p o) := fun b ys e => by rw [upd_ne (ne_of e h (by intro z; cases z))]; exact e
end L2

set_option Elab.async false
set_option linter.all false
set_option maxRecDepth 100000
/-! zip of a list and a tuple; enumerate of a list -/
namespace L2
open PySem PySem.Spec PyProof.Rows
theorem li_at {h h' : Heap} {j a : Addr} {i : Nat} (x : h.IsListIter j a i) (k : ∀ o, h.get? j = some o → h'.get? j = some o) : h'.IsListIter j a i := by
  obtain ⟨o, e, r⟩ := x
  exact ⟨o, k o e, r⟩
theorem li_ext {h h' : Heap} {j a b : Addr} {i : Nat} (x : h.IsListIter j a i) (k : Heap.ExtBut b h h') (n : j ≠ b) : h'.IsListIter j a i := li_at x fun o e => k j o n e
/-- the five records of a zip of a list and a tuple, at turn i -/
structure ZipL (h : Heap) (z ti ro j1 j2 t1 t2 : Addr) (f0 : Value) (i : Nat) : Prop where
  z : IsZip h z ti ro f0
  ti : IsPair h ti (.ref j1) (.ref j2)
  ro : ∃ a b, IsPair h ro a b
  j1 : h.IsListIter j1 t1 i
  j2 : h.IsTupleIter j2 t2 i
section
variable {P : Program} {w : World} {A : Around} {E : Value → Shared → Prop} {s : Shared} {z ti ro j1 j2 t1 t2 : Addr} {i : Nat} {its1 its2 : Array Value}
end
section
variable {P : Program} {w : World} {A : Around} {E : Value → Shared → Prop} {s : Shared}
end
/-! ### the iterator -/
def ItzL (K : PySem.W.Frag) (a b : Addr) : It :=
  ⟨fun i H => ∃ xs ys x y, SqL K H a xs ∧ SqT K H b ys ∧ xs[i]? = some x ∧ ys[i]? = some y,
   fun i H v H' => ∃ p x y, v = .ref p ∧ New H p (.tup [x, y]) H' ∧ (∀ xs, SqL K H a xs → xs[i]? = some x) ∧ ∀ ys, SqT K H b ys → ys[i]? = some y,
   fun i H => ∃ xs ys, SqL K H a xs ∧ SqT K H b ys ∧ xs.length ≤ i⟩
def iZipL (K : PySem.W.Frag) (ta : TA) : TI := fun σ H R => ta σ H fun vs H1 => ∃ a b, vs = [.ref a, .ref b] ∧ (∃ xs, SqL K H1 a xs) ∧ (∃ ys, SqT K H1 b ys) ∧ R (ItzL K a b) H1
/-! ### enumerate -/
def Ite (K : PySem.W.Frag) (a : Addr) : It :=
  ⟨fun i H => ∃ xs x, SqL K H a xs ∧ xs[i]? = some x, fun i H v H' => ∃ p x, v = .ref p ∧ New H p (.tup [.int (i : Int), x]) H' ∧ ∀ xs, SqL K H a xs → xs[i]? = some x, fun i H => ∃ xs, SqL K H a xs ∧ xs.length ≤ i⟩
theorem turn_enum {P : Program} {w : World} {K : PySem.W.Frag} {elts : List Expr} {x1} {tpos : Pos} (e it a : Addr) (hne : e ≠ it) :
    Turn P w K (.Tuple elts x1 tpos) (Ite K a) [e, it] e (fun i h => (∃ old, IsEnum h e it (i : Int) old) ∧ h.IsListIter it a i) where
  mem := by simp
  obj := fun i h st c hc => by
    obtain ⟨⟨old, se⟩, o1, e1, c1, d1⟩ := st
    simp only [List.mem_cons, List.not_mem_nil, or_false] at hc
    rcases hc with rfl | rfl
    · exact ⟨_, se, fun v q => nomatch q⟩
    · exact ⟨_, e1, fun v q => by rw [d1] at q; cases q⟩
  keep := fun i h h' st k => ⟨let ⟨old, se⟩ := st.1; ⟨old, k e (by simp) _ se⟩, li_at st.2 fun o z => k it (by simp) o z⟩
  item := by
    intro X hP hw hK hc i pins s σ H E I hf st hg
    subst hP hw hK
    obtain ⟨xs, x, hx, ex⟩ := hg
    obtain ⟨its, r, pl, _⟩ := I.list hx
    obtain ⟨u, hu, ru⟩ := r.get ex
    obtain ⟨⟨old, se⟩, si⟩ := st
    refine wpAny_pyNext_enum_item se si pl.isList (x := u) (by simpa using hu) hne fun h1 eo1 si1 q1 sz1 k1 => ⟨_, rfl, ?_⟩
    refine wpAny_letOwnedTupleGo_enum eo1 fun h2 e2 sb2 => ?_
    have hlt : ∀ c ∈ [e, it], c ≠ s.heap.objs.size := fun c hc => by
      simp only [List.mem_cons, List.not_mem_nil, or_false] at hc
      rcases hc with rfl | rfl
      · exact Nat.ne_of_lt (Heap.lt_size se)
      · obtain ⟨o, z, _⟩ := si
        exact Nat.ne_of_lt (Heap.lt_size z)
    have k2 : ∀ c o, c ∉ [e, it] → s.heap.get? c = some o → h2.get? c = some o := fun c o hc z =>
      sb2.extBut _ _ (fun q => hc (by simp [q])) (k1 c o (fun q => hc (by simp [q])) (fun q => hc (by simp [q])) z)
    have tup2 := sb2.extBut _ _ (Ne.symm (hlt e (by simp))) q1
    have si2 : h2.IsListIter it a (i + 1) := li_ext si1 sb2.extBut (Ne.symm hne)
    have e2' : IsEnum h2 e it ((i + 1 : Nat) : Int) u := by rw [show ((i + 1 : Nat) : Int) = (i : Int) + 1 by omega]; exact e2
    have there : ∀ c ∈ [e, it], ∃ o, h2.get? c = some o := fun c hc => by
      simp only [List.mem_cons, List.not_mem_nil, or_false] at hc
      rcases hc with rfl | rfl
      · exact ⟨_, e2⟩
      · obtain ⟨o, z, _⟩ := si2
        exact ⟨o, z⟩
    have I2 : Inv X pins σ (upd H s.heap.objs.size (.tup [.int (i : Int), x])) { s with heap := h2, toks := s.toks + 1 } := I.turnedNew k2 hf (Nat.le_refl _) ⟨small_line (by simp), [.int i s.toks, u], .cons ⟨_, rfl⟩ (.cons ru .nil), ⟨_, tup2, rfl, _, rfl⟩⟩ there
    refine ⟨.ref s.heap.objs.size, _, I2, rfl, ⟨_, x, rfl, .mk' I.fresh _, fun ws hw => by rw [I.list_inj hw hx]; exact ex⟩, ⟨⟨_, e2'⟩, si2⟩, fun c hc => ?_⟩
    rw [upd_ne (hlt c hc)]
    exact (hf c hc).1
  done := by
    intro X hP hw hK hc i pins s σ H E I hf st hg
    subst hP hw hK
    obtain ⟨xs, hx, hl⟩ := hg
    obtain ⟨its, r, pl, _⟩ := I.list hx
    have l1 := r.length
    obtain ⟨⟨old, se⟩, si⟩ := st
    exact wpAny_pyNext_enum_end (I.ok.hd hc) se si pl.isList (by simp; omega) fun h' k => ⟨rfl, I.turnedL (t' := s.toks) (fun c o hc z => k c o (fun q => hc (by simp [q])) z) hf⟩
  self := fun _ _ _ _ _ st h => let ⟨_, se⟩ := st.1; wpAny_pyIter_enum se h
def iEnum (K : PySem.W.Frag) (ta : TA) : TI := fun σ H R => ta σ H fun vs H1 => ∃ a, vs = [.ref a] ∧ (∃ xs, SqL K H1 a xs) ∧ R (Ite K a) H1
theorem pi_enum {X : Cx} {elts : List Expr} {x1} {tpos : Pos} {a : Expr} {ta : TA} {p pos : Pos} (hg : Gl X "enumerate") (hm : X.mg "enumerate" = none) (ha : PA X [a] ta) (h1 : notStar a = true := by rfl) : PI X (.Tuple elts x1 tpos) (.Call (.Name "enumerate" p) [a] [] pos) (iEnum X.K ta) := by
  intro pins s σ H R I h
  have hs : starEach [a] X.env = [(false, eval a X.env)] := by rw [star_cons h1, starEach.eq_def]
  refine Call_ (ld_blt I hg hm boot_enumerate (PyProof.Rows.callWith_type1 (thn (ha pos pins s σ H _ I h) fun us s1 ⟨vs, H1, I1, r1, q1⟩ => ?_) hs rfl))
  obtain ⟨p1, e, ⟨xs, hx⟩, q⟩ := q1
  subst e
  obtain ⟨u, rfl, ru⟩ := vals1 r1
  cases (show u = Value.ref p1 from ru)
  obtain ⟨its, _, t1, _⟩ := I1.list hx
  refine call_enumerate_list t1.isList fun h' se si sz k => wpAny_pyIter_enum se ?_
  refine ⟨_, [s1.heap.objs.size + 1, s1.heap.objs.size], _, _, H1, rfl, I1.kept (t' := s1.toks) k, turn_enum _ _ p1 (Nat.succ_ne_self _), ⟨⟨_, se⟩, si⟩, fun c hc => ?_, q⟩
  have hle : s1.heap.objs.size ≤ c := by
    simp only [List.mem_cons, List.not_mem_nil, or_false] at hc
    rcases hc with rfl | rfl
    · exact Nat.le_add_right _ _
    · exact Nat.le_refl _
  exact I1.fpOk hle (I1.hok.fresh hle)
theorem pi_enumK {X : Cx} (K : PySem.W.Frag) {elts : List Expr} {x1} {tpos : Pos} {a : Expr} {ta : TA} {p pos : Pos} (hg : Gl X "enumerate") (hm : X.mg "enumerate" = none) (ha : PA X [a] ta) (h : X.K = K := by rfl) (h1 : notStar a = true := by rfl) :
    PI X (.Tuple elts x1 tpos) (.Call (.Name "enumerate" p) [a] [] pos) (iEnum K ta) := h ▸ pi_enum hg hm ha h1
end L2

set_option Elab.async false
set_option linter.all false
set_option maxRecDepth 100000
/-! dict(pairs), dicts by a compare, len of a dict of tuples, max of a list, list.index; comprehensions whose items are new tuples -/
namespace L2
open PySem PySem.Spec PyProof.Rows
section
variable {P : Program} {w : World} {κ : Type} [DecidableEq κ] {knd : KeyKind P w κ} {A : Around} {R : Result → Shared → Prop} {it : Addr} {fp wr : List Addr} {G : Array GenState → Array GenState → Prop} {n : Nat} {Pv : Nat → Value → Prop} {St : Nat → Shared → Prop}
/-- the pairs' tuples, as they stand -/
def PairsAt (knd : KeyKind P w κ) (h : Heap) (bad : List Addr) (Pv : Nat → Value → Prop) (kvs : List (κ × Value)) : Prop := ∀ i v k u, Pv i v → kvs[i]? = some (k, u) → ∃ p key, v = .ref p ∧ p ∉ bad ∧ knd.is k key = true ∧ h.IsTuple p #[key, u]
theorem PairsAt.kept {h h' : Heap} {bad : List Addr} {kvs : List (κ × Value)} (x : PairsAt knd h bad Pv kvs) (k : ∀ b o, b ∉ bad → h.get? b = some o → h'.get? b = some o) : PairsAt knd h' bad Pv kvs := fun i v k' u pv e => by
  obtain ⟨p, key, e1, e2, e3, o, ho, r⟩ := x i v k' u pv e
  exact ⟨p, key, e1, e2, e3, o, k p o e2 ho, r⟩
end
section
variable {P : Program} {w : World} {κ : Type} [DecidableEq κ] {knd : KeyKind P w κ} {A : Around} {E : Value → Shared → Prop} {s : Shared}
end
/-! ### dicts, by values -/
theorem DGet.b {H : Hp} {a : Addr} {kvs : List (Key × V)} {b : Bool} (e : H a = some (.dK kvs)) : DGet H a (.bl b) (valV kvs (.inl (blI b))) := .inl ⟨kvs, _, .inl e, .inr ⟨b, rfl, rfl⟩, rfl⟩
theorem DPut.b {H : Hp} {a : Addr} {kvs : List (Key × V)} {b : Bool} {v : V} (e : H a = some (.dK kvs)) (hl : kvs.length < sizeLine) : DPut H a (.bl b) v (upd H a (.dK (putK kvs (.inl (blI b)) v))) := .inl ⟨kvs, _, e, .inr ⟨b, rfl, rfl⟩, hl, rfl⟩
theorem DGet.n {H : Hp} {a : Addr} {kvs : List (Key × V)} {n : Int} (e : H a = some (.dK kvs)) : DGet H a (.int n) (valV kvs (.inl n)) := DGet.k (k := .inl n) e
theorem DPut.n {H : Hp} {a : Addr} {kvs : List (Key × V)} {n : Int} {v : V} (e : H a = some (.dK kvs)) (hl : kvs.length < sizeLine) : DPut H a (.int n) v (upd H a (.dK (putK kvs (.inl n) v))) := DPut.k (k := .inl n) e hl
def rInDc (neg : Bool) : R2 := fun y x H Q => ∃ a o, x = .ref a ∧ DGet H a y o ∧ Q (.bl (if neg then !o.isSome else o.isSome)) H
section
variable {X : Cx} {o i value : Expr} {pos pos' : Pos} {td ty tv : TE}
def tDNewN : TE := fun _ H Q => ∀ p H', New H p (.dK []) H' → Q (.ref p) H'
def tDNewTN : TE := fun _ H Q => ∀ p H', New H p (.dT []) H' → Q (.ref p) H'
def rLenD : List V → Hp → VK → Prop := fun xs H Q => ∃ a kvs, xs = [V.ref a] ∧ H a = some (.dK kvs) ∧ Q (.int kvs.length) H
end
section
variable {prog : Program} {w : World} {κ : Type} [DecidableEq κ] {knd : HeapKind prog w κ} {A : Around} {E : Value → Shared → Prop} {s : Shared}
end
def rLenT : List V → Hp → VK → Prop := fun xs H Q => ∃ a kvs, xs = [V.ref a] ∧ H a = some (.dT kvs) ∧ Q (.int kvs.length) H
/-! ### dict(pairs) -/
def PairV (H : Hp) (r : V) (kv : Key × V) : Prop := ∃ t, r = .ref t ∧ H t = some (.tup [kV kv.1, kv.2])
def rDictOf (K : PySem.W.Frag) : List V → Hp → VK → Prop := fun xs H Q => ∃ (p : Addr) (rs : List V) (kvs : List (Key × V)), xs = [.ref p] ∧ SqL K H p rs ∧ Paired (PairV H) rs kvs ∧ kvs.length ≤ 1000 ∧ ∀ d H', New H d (.dK (mergeK [] kvs)) H' → Q (.ref d) H'
/-! ### max of a list, index -/
def rMaxL (K : PySem.W.Frag) : List V → Hp → VK → Prop := fun xs H Q => ∃ (p : Addr) (ns : List Int), xs = [.ref p] ∧ SqL K H p (ns.map V.int) ∧ 0 < ns.length ∧ ∀ M, M ∈ ns → (∀ a ∈ ns, a ≤ M) → Q (.int M) H
def rIndex (K : PySem.W.Frag) : V → List V → Hp → VK → Prop := fun x vs H Q => ∃ (p : Addr) (ns : List Int) (k : Int), x = .ref p ∧ vs = [.int k] ∧ SqL K H p (ns.map V.int) ∧ k ∈ ns ∧ ns.length ≤ 1000 ∧ Q (.int (ns.idxOf k : Nat)) H
/-! ### a tuple more -/
def rCatTN (K : PySem.W.Frag) : R2 := fun x y H Q => ∃ a b xs ys, x = .ref a ∧ y = .ref b ∧ SqT K H a xs ∧ SqT K H b ys ∧ xs ≠ [] ∧ ys ≠ [] ∧ xs.length + ys.length ≤ sizeLine ∧ ∀ p H', New H p (.tup (xs ++ ys)) H' → Q (.ref p) H'
/-! ### a comprehension by what holds of each item -/
section
variable {tn : List Str} {cp : List (Nat × Str)} {g : TG} {tif : TT} {te : TE} {σ0 : St} {Q : VK} {H1 : Hp} {n : Nat}
end
end L2

set_option Elab.async false
set_option linter.all false
set_option maxRecDepth 100000
/-! a dict written with one pair, its key a tuple -/
namespace L2
open PySem PySem.Spec PyProof.Rows
def tDisp1T (tk tv : TE) : TE := fun σ H Q => ∀ p H1, New H p (.dT []) H1 → tk σ H1 fun y H2 => tv σ H2 fun z H3 => H3 p = some (.dT []) ∧ ∃ b ks, y = .ref b ∧ H3 b = some (.tup (ks.map kV)) ∧ Q (.ref p) (upd H3 p (.dT [(ks, z)]))
end L2

set_option Elab.async false
set_option linter.all false
set_option maxRecDepth 100000
/-! tuples compared by != ; list(range(a, b)); [x] * n -/
namespace L2
open PySem PySem.Spec PyProof.Rows
def NeOk (X : Cx) (k : Nat) (H : Hp) (x y : V) (b : Bool) : Prop := ∀ (pins : List (Addr × Obj)) (σ : St) (s : Shared) (A : Around) (u v : Value), A.units + k < cLine → Inv X pins σ H s → RelV x u → RelV y v → SeqAt.RcNeAt A s u v b
def rNeM (X : Cx) : R2 := fun x y H Q => ∃ c, NeOk X 8 H x y c ∧ Q (.bl c) H
theorem op_neM {X : Cx} (hu : X.A.units + 8 < cLine) : OpR X (compareOp .NotEq) (rNeM X) := by
  intro pins s σ H x y v u Q I rx ry h
  obtain ⟨c, r, q⟩ := h
  exact r pins σ s X.A v u hu I rx ry _ _ _ _ ⟨.bl c, H, I, rfl, q⟩
/-! ### range objects -/
def rRange2 : List V → Hp → VK → Prop := fun xs H Q => ∃ i j : Int, xs = [.int i, .int j] ∧ ∀ p H', New H p (.rng i j) H' → Q (.ref p) H'
def rListRng : List V → Hp → VK → Prop := fun xs H Q => ∃ (p : Addr) (i j : Int), xs = [.ref p] ∧ H p = some (.rng i j) ∧ (0 ≤ i ∧ i ≤ j ∧ j ≤ 1000) ∧ ∀ l H', New H l (.lst ((List.range (j - i).toNat).map fun (k : Nat) => V.int (i + k))) H' → Q (.ref l) H'
def rRepN : R2 := fun x y H Q => ∃ l k xs, x = .ref l ∧ y = .int k ∧ H l = some (.lst xs) ∧ -(2 ^ 63) ≤ k ∧ k < 2 ^ 63 ∧ xs.length * k.toNat ≤ sizeLine ∧ ∀ p H', New H p (.lst (List.replicate k.toNat xs).flatten) H' → Q (.ref p) H'
theorem op_repN {X : Cx} : OpR X (binaryOp .Mult) rRepN := fun pins s σ H x y v u Q I rx ry h => by
  obtain ⟨l, k, xs, e1, e2, h1, h2, h3, h4, q⟩ := h
  exact op_rep pins s σ H x y v u Q I rx ry ⟨l, k, xs, e1, e2, h1, h2, h3, h4, fun p np => q p _ (.mk' np _)⟩
end L2

set_option Elab.async false
set_option linter.all false
set_option maxRecDepth 100000
/-! enumerate of a zip of two tuples -/
namespace L2
open PySem PySem.Spec PyProof.Rows
abbrev IsZipF (h : Heap) (z ti ro : Addr) (f0 f1 : Value) : Prop := h.get? z = some { cls := .type "zip", dict := none, data := .fields #[f0, f1, .bool false, .ref ti, .ref ro], slots := #[] }
/-- the zip's records, whoever holds the tuple handed out last -/
structure ZipG (h : Heap) (z ti ro j1 j2 t1 t2 : Addr) (i : Nat) : Prop where
  z : ∃ f0 f1, IsZipF h z ti ro f0 f1 ∧ (f0 = Value.none ∨ ∃ a : Addr, f0 = rawInt a)
  ti : IsPair h ti (.ref j1) (.ref j2)
  ro : ∃ a b, IsPair h ro a b
  j1 : h.IsTupleIter j1 t1 i
  j2 : h.IsTupleIter j2 t2 i
section
variable {P : Program} {w : World} {A : Around} {E : Value → Shared → Prop} {s : Shared} {z ti ro j1 j2 t1 t2 : Addr} {i : Nat} {its1 its2 : Array Value}
end
/-! ### the iterator -/
def Itez (K : PySem.W.Frag) (a b : Addr) : It :=
  ⟨fun i H => ∃ xs ys x y, SqT K H a xs ∧ SqT K H b ys ∧ xs[i]? = some x ∧ ys[i]? = some y,
   fun i H v H' => ∃ p r H1 x y, v = .ref r ∧ New H p (.tup [x, y]) H1 ∧ New H1 r (.tup [.int (i : Int), .ref p]) H' ∧ (∀ xs, SqT K H a xs → xs[i]? = some x) ∧ ∀ ys, SqT K H b ys → ys[i]? = some y,
   fun i H => ∃ xs ys, SqT K H a xs ∧ SqT K H b ys ∧ xs.length ≤ i⟩
def iEZ (K : PySem.W.Frag) (ta : TA) : TI := fun σ H R => ta σ H fun vs H1 => ∃ a b, vs = [.ref a, .ref b] ∧ (∃ xs, SqT K H1 a xs) ∧ (∃ ys, SqT K H1 b ys) ∧ R (Itez K a b) H1
end L2

set_option Elab.async false
set_option linter.all false
set_option maxRecDepth 100000
/-! dict.get with another thing; a comprehension over a range with a test; what put leaves of the keys -/
namespace L2
open PySem PySem.Spec PyProof.Rows
section
variable {tn : List Str} {cp : List (Nat × Str)} {g : TG} {tif : TT} {te : TE} {σ0 : St} {Q : VK} {H1 : Hp} {lo : Int} {n : Nat}
end
section
variable {κ : Type} [DecidableEq κ]
end
/-- t + u, either may be empty -/
def rCatTE : R2 := fun x y H Q => ∃ a b xs ys, x = .ref a ∧ y = .ref b ∧ H a = some (.tup xs) ∧ H b = some (.tup ys) ∧ xs.length + ys.length ≤ sizeLine ∧ ∀ p H', Same H H' → H' p = some (.tup (xs ++ ys)) → Q (.ref p) H'
end L2

set_option Elab.async false
set_option linter.all false
set_option maxRecDepth 100000
/-! range(a, b, step), walked; tuple * n -/
namespace L2
open PySem PySem.Spec PyProof.Rows
section
variable {X : Cx}
end
/-! ### range with a step -/
/-- lo, lo + c, .. (n of them) -/
def Itr3 (lo c : Int) (n : Nat) : It := ⟨fun i _ => i < n, fun i H x H' => H' = H ∧ x = .int (lo + i * c), fun i _ => n ≤ i⟩
theorem turn_range3 {P : Program} {w : World} {K : PySem.W.Frag} {tg : Expr} (it : Addr) (lo c : Int) (n : Nat) : Turn P w K tg (Itr3 lo c n) [it] it (fun i h => IsRangeIter h it (lo + (i : Nat) * c) ((n : Int) - (i : Nat)) c) where
  mem := by simp
  obj := fun i h st b hb => by
    have e : b = it := by simpa using hb
    subst e
    exact ⟨_, st, fun v z => by
      have z' : Data.fields _ = Data.cell v := z
      cases z'⟩
  keep := fun i h h' st k => k it (by simp) _ st
  item := by
    intro X hP hw hK hc i pins s σ H E I hf st hg
    subst hP hw hK
    obtain ⟨f0, f1, f2, f3, f4, f5⟩ := hf it (by simp)
    have W := Walks.range (prog := X.prog) (w := X.w) (I.ok.hd hc) it lo c n
    refine W.item i s _ _ hg st fun v h' tk hv st' kk => ?_
    obtain ⟨t, rfl⟩ := hv
    have I1 : Inv X pins σ H { s with heap := h', toks := tk } := I.turned (fun b o hb e => kk b o (by simpa using hb) e) f0 f1 f3 f4 f5
    exact ⟨_, rfl, go_of (s := { s with heap := h', toks := tk }) (n := "range_iterator") st' rfl rfl (by decide) ⟨.int (lo + i * c), H, I1, ⟨t, rfl⟩, ⟨rfl, rfl⟩, st', fun b hb => (hf b hb).1⟩⟩
  done := by
    intro X hP hw hK hc i pins s σ H E I hf st hg
    subst hP hw hK
    obtain ⟨f0, f1, f2, f3, f4, f5⟩ := hf it (by simp)
    exact wpAny_pyNext_range_end (I.ok.hd hc) st (by have : n ≤ i := hg; omega) fun h' eb => ⟨rfl, I.turned (t' := s.toks) (fun b o hb e => eb b o hb e) f0 f1 f3 f4 f5⟩
  self := fun _ _ _ _ _ st h => wpAny_pyIter_rangeiter st h
def iRng3 (ta : TA) : TI := fun σ H R => ta σ H fun vs H1 => ∃ i j c : Int, vs = [.int i, .int j, .int c] ∧ c ≠ 0 ∧ Builtin.Range.small i j c = true ∧ (j - i).natAbs < 1000 ∧ c.natAbs < 1000 ∧ 0 ≤ Builtin.Range.rangeSize i j c ∧ R (Itr3 i c (Builtin.Range.rangeSize i j c).toNat) H1
theorem pi_range3 {X : Cx} {tg a b c : Expr} {ta : TA} {p pos : Pos} (hg : Gl X "range") (hm : X.mg "range" = none) (ha : PA X [a, b, c] ta) (h1 : notStar a = true := by rfl) (h2 : notStar b = true := by rfl) (h3 : notStar c = true := by rfl) :
    PI X tg (.Call (.Name "range" p) [a, b, c] [] pos) (iRng3 ta) := by
  intro pins s σ H R I h
  have hs3 : starEach [c] X.env = [(false, eval c X.env)] := by rw [star_cons h3, starEach.eq_def]
  have hs2 : starEach [b, c] X.env = [(false, eval b X.env), (false, eval c X.env)] := by rw [star_cons h2, hs3]
  have hs : starEach [a, b, c] X.env = [(false, eval a X.env), (false, eval b X.env), (false, eval c X.env)] := by rw [star_cons h1, hs2]
  refine Call_ (ld_blt I hg hm boot_range (PyProof.Rows.callWith_type1 (thn (ha pos pins s σ H _ I h) fun us s1 ⟨vs, H1, I1, r1, q1⟩ => ?_) (by rw [hs, hs2]) (by rw [hs2]; rfl)))
  obtain ⟨i, j, k, e, hk0, hsm, hz, hz2, hnn, q⟩ := q1
  subst e
  cases r1 with
  | cons r rr =>
    cases rr with
    | cons r' rr =>
      cases rr with
      | cons r'' rr =>
        cases rr
        obtain ⟨t, rfl⟩ := r
        obtain ⟨t', rfl⟩ := r'
        obtain ⟨t'', rfl⟩ := r''
        refine PySem.call_range_3 hk0 ?_ (.inl (PyProof.noPylong_small (by omega)))
        refine wpAny_pyIter_range (IsRange.new ..) hsm ?_
        have I2 : Inv X pins σ H1 { s1 with heap := s1.heap.push { cls := .type "range", data := .fields #[.int i t, .int j t', .int k t''] }, toks := s1.toks } := I1.kept fun b o e => Heap.get?_push_of_some _ e
        refine ⟨(s1.heap.push { cls := .type "range", data := .fields #[.int i t, .int j t', .int k t''] }).objs.size, [(s1.heap.push { cls := .type "range", data := .fields #[.int i t, .int j t', .int k t''] }).objs.size], _, _, H1, rfl,
          I2.kept (t' := s1.toks) fun b o e => Heap.get?_push_of_some _ e, turn_range3 _ i k (Builtin.Range.rangeSize i j k).toNat, ?_, fun b hb => ?_, q⟩
        · have e1 : i + ((0 : Nat) : Int) * k = i := by simp
          have e2 : (((Builtin.Range.rangeSize i j k).toNat : Nat) : Int) - ((0 : Nat) : Int) = Builtin.Range.rangeSize i j k := by omega
          show IsRangeIter _ _ (i + ((0 : Nat) : Int) * k) ((((Builtin.Range.rangeSize i j k).toNat : Nat) : Int) - ((0 : Nat) : Int)) k
          rw [e1, e2]
          exact Heap.get?_push_size _ rfl
        · have e : b = (s1.heap.push { cls := .type "range", data := .fields #[.int i t, .int j t', .int k t''] }).objs.size := by simpa using hb
          subst e
          exact I2.fpOk (Nat.le_refl _) (I2.hok.fresh (Nat.le_refl _))
theorem fb_range3 {lo c : Int} {n : Nat} {g : TG} {tb : TS} {D : Ends} {σ0 : St} {H1 : Hp} (Pv : Nat → St → Hp → Prop) (h0 : Pv 0 σ0 H1)
    (hs : ∀ i σ H, i < n → Pv i σ H → g (.int (lo + i * c)) σ H fun σ2 H2 => tb { D with nx := Pv (i + 1), ct := Pv (i + 1), bk := D.nx } σ2 H2) (hd : ∀ σ H, Pv n σ H → D.nx σ H) : fBody g tb D σ0 (Itr3 lo c n) H1 := by
  refine ⟨fun i m σ H => m = n - i ∧ i ≤ n ∧ Pv i σ H, ⟨n, by simp, Nat.zero_le _, h0⟩, ?_⟩
  rintro i m σ H ⟨rfl, hi, p⟩
  by_cases hlt : i < n
  · refine .inr ⟨hlt, Pv (i + 1), fun σ' H' p' => ⟨n - (i + 1), by omega, rfl, hlt, p'⟩, fun x H' y => ?_⟩
    obtain ⟨rfl, rfl⟩ := y
    exact hs i σ H' hlt p
  · have e : i = n := by omega
    subst e
    exact .inl ⟨Nat.le_refl _, hd σ H p⟩
theorem small_step {a b : Int} {c : Int} (ha : 0 ≤ a) (ha' : a ≤ 1000) (hb : -1 ≤ b) (hb' : b ≤ 1000) (hc : c = 9 ∨ c = 12 ∨ c = -1) : Builtin.Range.small a b c = true ∧ 0 ≤ Builtin.Range.rangeSize a b c := by
  have hs : 0 ≤ Builtin.Range.rangeSize a b c ∧ Builtin.Range.rangeSize a b c ≤ 1002 := by
    unfold Builtin.Range.rangeSize
    rcases hc with rfl | rfl | rfl
    · rw [if_pos (by decide)]; split <;> omega
    · rw [if_pos (by decide)]; split <;> omega
    · rw [if_neg (by decide), show (-(-1 : Int)) = 1 by decide, Int.ediv_one]; split <;> omega
  refine ⟨?_, hs.1⟩
  unfold Builtin.Range.small
  generalize Builtin.Range.rangeSize a b c = z at hs
  simp only [Builtin.Range.rangeFitsLong, Bool.and_eq_true, Bool.or_eq_true, decide_eq_true_eq, beq_iff_eq]
  trace_state
  rcases hc with rfl | rfl | rfl
  · simp; omega
  · simp; omega
  · simp; omega
end L2

set_option Elab.async false
set_option linter.all false
set_option maxRecDepth 100000
/-! a comprehension over a range whose items are new lists -/
namespace L2
open PySem PySem.Spec PyProof.Rows
section
variable {tn : List Str} {cp : List (Nat × Str)} {g : TG} {tif : TT} {te : TE} {σ0 : St} {Q : VK} {H1 : Hp} {lo : Int} {n : Nat}
def PLst (S : St → Prop) (f : Nat → List V) (H1 : Hp) (D : Addr) (i : Nat) (ys : List V) (σ : St) (H : Hp) : Prop := Same H1 H ∧ S σ ∧ ys.length = i ∧ ∀ j y, ys[j]? = some y → ∃ c, y = .ref c ∧ c ≠ D ∧ H c = some (.lst (f j))
theorem cn_range (S : St → Prop) (f : Nat → List V) (hn : n ≤ 1000) (h0 : S (stB tn cp σ0))
    (hs : ∀ D i ys σ H, i < n → Same H1 H → H1 D = none → H D = some (.lst ys) → ys.length = i → (∀ j y, ys[j]? = some y → ∃ c, y = .ref c ∧ c ≠ D ∧ H c = some (.lst (f j))) → S σ → g (.int (lo + i)) σ H fun σ2 H2 => tif σ2 H2 fun c H3 =>
      if c = true then te σ2 H3 fun v H4 => CStep D n i (PLst S f H1 D) σ2 v H4 else CSkip D n i (PLst S f H1 D) σ2 H3)
    (hd : ∀ D ys H, H1 D = none → Same H1 H → H D = some (.lst ys) → ys.length = n → (∀ j y, ys[j]? = some y → ∃ c, y = .ref c ∧ c ≠ D ∧ H c = some (.lst (f j))) → Q (.ref D) H) : cBody tn cp g tif te σ0 Q (Itr lo n) H1 := by
  refine cb_by n (fun D => PLst S f H1 D) (small_line hn) (fun D hD => ⟨same_upd hD _, h0, rfl, fun j y e => by simp at e⟩) (fun D i ys σ H _ hi _ _ => hi) (fun D ys σ H _ _ _ => Nat.le_refl _) ?_ ?_
  · rintro D i ys σ H x H' hD hi hH hl ⟨p1, p2, p3, p4⟩ ⟨rfl, rfl⟩
    exact hs D i ys σ _ hi p1 hD hH p3 p4 p2
  · rintro D ys σ H hD hH hl ⟨p1, p2, p3, p4⟩
    exact hd D ys H hD p1 hH p3 p4
theorem cn_step {S : St → Prop} {f : Nat → List V} {D c : Addr} {i : Nat} {ys : List V} {σ2 : St} {H H4 : Hp} (hn : n ≤ 1000) (hi : i < n) (hD : H1 D = none) (h4 : H D = some (.lst ys)) (hl : ys.length = i)
    (hy : ∀ j y, ys[j]? = some y → ∃ c, y = .ref c ∧ c ≠ D ∧ H c = some (.lst (f j))) (g1 : Same H1 H) (g4 : Same H H4) (s2 : S σ2) (hc : c ≠ D) (ec : H4 c = some (.lst (f i))) : CStep D n i (PLst S f H1 D) σ2 (.ref c) H4 := by
  refine cstep (small_line hn) hi (g4 _ _ h4) (by omega) ⟨(g1.trans g4).wr hD _, s2, by simp [hl], fun j y ej => ?_⟩
  by_cases h : j < ys.length
  · rw [List.getElem?_append_left h] at ej
    obtain ⟨c', e1, e2, e3⟩ := hy j y ej
    exact ⟨c', e1, e2, by rw [upd_ne e2]; exact g4 _ _ e3⟩
  · have hj : j < (ys ++ [V.ref c]).length := (List.getElem?_eq_some_iff.mp ej).1
    rw [List.length_append, List.length_singleton] at hj
    have e : j = ys.length := by omega
    rw [e, List.getElem?_append_right (Nat.le_refl _), Nat.sub_self] at ej
    injection ej with ej
    refine ⟨c, ej.symm, hc, ?_⟩
    rw [upd_ne hc, ec, e, hl]
end
theorem paired_ix {α β : Type} {R : α → β → Prop} : ∀ (xs : List α) (ys : List β), xs.length = ys.length → (∀ (i : Nat) x y, xs[i]? = some x → ys[i]? = some y → R x y) → Paired R xs ys
  | [], [], _, _ => .nil
  | [], y :: ys, h, _ => by simp at h
  | x :: xs, [], h, _ => by simp at h
  | x :: xs, y :: ys, h, hr => .cons (hr 0 x y rfl rfl) (paired_ix xs ys (by simpa using h) fun i x' y' e1 e2 => hr (i + 1) x' y' (by simpa using e1) (by simpa using e2))
theorem paired_app {α β : Type} {R : α → β → Prop} : ∀ {xs : List α} {ys : List β} {xs' : List α} {ys' : List β}, Paired R xs ys → Paired R xs' ys' → Paired R (xs ++ xs') (ys ++ ys')
  | _, _, _, _, .nil, h => h
  | _, _, _, _, .cons a t, h => .cons a (paired_app t h)
end L2

set_option Elab.async false
set_option linter.all false
set_option maxRecDepth 100000
/-! lists in order, lists in lists -/
namespace PySem.SeqAt
open AutoSeq1 (wpAny_loadPart')
open MeetsSeq MeetsSeq2 MeetsSeq3 SeqRoads2
theorem le_loopAt (l b : Addr) (items items2 : Array Value) (n n2 : Nat) (dd dd2 : Option Addr) (sl sl2 : Array (Option Value)) (j : Nat) (hj : j < items.size) (hj2 : j < items2.size) (c : Bool) (k : Nat) :
    ∀ i : Nat, j - i = k → i ≤ j → Meets (Builtin.«list.__eq__.loop» ⟨[.ref l, .ref b, rawInt i, rawInt 1], []⟩)
      (fun A R s => s.heap.get? l = some { cls := .type "list", dict := dd, data := .seq items n, slots := sl } ∧ s.heap.get? b = some { cls := .type "list", dict := dd2, data := .seq items2 n2, slots := sl2 } ∧
        (∀ q (h1 : q < items.size) (h2 : q < items2.size), q < j → EqAt A.in1 s items[q] items2[q] true) ∧ EqAt A.in1 s items[j] items2[j] false ∧
        (∀ (prog : Program) (w : World) (E : Value → Shared → Prop) (Q : Value → Shared → Prop), Q (.bool c) s → wpAny (model prog w) A.in1 (richCompare .LtE items[j] items2[j]) Q E s) ∧
        R (.ok (.ret (.bool c))) s) := by
  induction k with
  | zero =>
    intro i hk hij prog w A R s h
    obtain ⟨hp, g, d, tk, os⟩ := s; obtain ⟨hl, hb, he, hn, hc, h⟩ := h
    have e : i = j := by omega
    subst e
    wp_walk using wpAny_loadPart' hl, wpAny_loadPart' hb
    have hi1 : items[((i : Nat) : Int).toNat]? = some items[i] := by simp [hj]
    have hi2 : items2[((i : Nat) : Int).toNat]? = some items2[i] := by simp [hj2]
    rw [hi1, hi2]
    refine wpAny_bind (hn prog w _ _ ?_)
    wp_walk using wpAny_loadPart' hl, wpAny_loadPart' hb
    rw [hi1, hi2]
    refine wpAny_bind (hc prog w _ _ ?_)
    wp_walk
    exact h
  | succ k ih =>
    intro i hk hij prog w A R s h
    obtain ⟨hp, g, d, tk, os⟩ := s; obtain ⟨hl, hb, he, hn, hc, h⟩ := h
    wp_walk using wpAny_loadPart' hl, wpAny_loadPart' hb
    have hlt : i < items.size := by omega
    have hlt2 : i < items2.size := by omega
    have hi1 : items[((i : Nat) : Int).toNat]? = some items[i] := by simp [hlt]
    have hi2 : items2[((i : Nat) : Int).toNat]? = some items2[i] := by simp [hlt2]
    have hcc : ((i : Int) + 1) = ((i + 1 : Nat) : Int) := by push_cast; rfl
    rw [hi1, hi2]
    refine wpAny_bind (he i hlt hlt2 (by omega) prog w _ _ ?_)
    wp_walk
    rw [hcc]
    exact ⟨plainId_quiet plain_eq_loop _, codeAny_builtin entry_eq_loop (by
      rw [Around.under_plainId plain_eq_loop _]
      exact ih (i + 1) (by omega) (by omega) prog w A R _ ⟨hl, hb, he, hn, hc, h⟩)⟩
theorem list_leAt (l b : Addr) (items items2 : Array Value) (n n2 : Nat) (dd dd2 : Option Addr) (sl sl2 : Array (Option Value)) (j : Nat) (hj : j < items.size) (hj2 : j < items2.size) (c : Bool) :
    Meets (Builtin.«list.__le__» ⟨[.ref l, .ref b], []⟩)
      (fun A R s => s.heap.get? l = some { cls := .type "list", dict := dd, data := .seq items n, slots := sl } ∧ s.heap.get? b = some { cls := .type "list", dict := dd2, data := .seq items2 n2, slots := sl2 } ∧
        (∀ q (h1 : q < items.size) (h2 : q < items2.size), q < j → EqAt A.in1 s items[q] items2[q] true) ∧ EqAt A.in1 s items[j] items2[j] false ∧
        (∀ (prog : Program) (w : World) (E : Value → Shared → Prop) (Q : Value → Shared → Prop), Q (.bool c) s → wpAny (model prog w) A.in1 (richCompare .LtE items[j] items2[j]) Q E s) ∧
        R (.ok (.ret (.bool c))) s) := by
  intro prog w A R s h
  obtain ⟨hp, g, d, tk, os⟩ := s; obtain ⟨hl, hb, he, hn, hc, h⟩ := h
  have f3 := AutoSeq1.sub_list_list
  wp_walk using wpAny_loadPart' hl, wpAny_loadPart' hb
  exact ⟨plainId_quiet plain_eq_loop _, codeAny_builtin entry_eq_loop (by
    rw [Around.under_plainId plain_eq_loop _]
    exact le_loopAt l b items items2 n n2 dd dd2 sl sl2 j hj hj2 c _ 0 rfl (Nat.zero_le _) prog w A R _ ⟨hl, hb, he, hn, hc, h⟩)⟩
end PySem.SeqAt
namespace L2
open PySem PySem.Spec PyProof.Rows
section
variable {X : Cx} {k : Nat} {H : Hp} {x y : V} {a b : Addr} {xs ys : List V}
/-- a <= b of two lists of ints that are unlike somewhere -/
def rLeL (X : Cx) : R2 := fun x y H Q => ∃ (a b : Addr) (xs ys : List Int) (j : Nat) (p q : Int), x = .ref a ∧ y = .ref b ∧ SqL X.K H a (xs.map V.int) ∧ SqL X.K H b (ys.map V.int) ∧ xs.take j = ys.take j ∧ xs[j]? = some p ∧ ys[j]? = some q ∧ p ≠ q ∧ Q (.bl (decide (p ≤ q))) H
theorem op_leL {X : Cx} (hu : X.A.units + 8 < cLine) : OpR X (compareOp .LtE) (rLeL X) := by
  intro pins s σ H x y v u Q I rx ry h
  obtain ⟨a, b, xs, ys, j, p, q, rfl, rfl, hx, hy, ht, hp, hq, hne, hQ⟩ := h
  cases (show v = Value.ref a from rx)
  cases (show u = Value.ref b from ry)
  obtain ⟨us, r1, p1, _⟩ := I.list hx
  obtain ⟨vs, r2, p2, _⟩ := I.list hy
  have l1 := r1.length
  have l2 := r2.length
  rw [List.length_map] at l1 l2
  have hj1 : j < xs.length := (List.getElem?_eq_some_iff.mp hp).1
  have hj2 : j < ys.length := (List.getElem?_eq_some_iff.mp hq).1
  have g1 : ∀ i (h : i < us.length) (h' : i < xs.length), ∃ t, us[i] = .int xs[i] t := fun i h h' => by
    obtain ⟨h'', z⟩ := r1.at h
    rw [List.getElem_map] at z
    exact z
  have g2 : ∀ i (h : i < vs.length) (h' : i < ys.length), ∃ t, vs[i] = .int ys[i] t := fun i h h' => by
    obtain ⟨h'', z⟩ := r2.at h
    rw [List.getElem_map] at z
    exact z
  obtain ⟨⟨cls, dd, data, sl⟩, ho, hc, n, hd⟩ := id p1.isList
  obtain ⟨⟨cls2, dd2, data2, sl2⟩, ho2, hc2, n2, hd2⟩ := id p2.isList
  simp only at hc hd hc2 hd2
  subst hc hd hc2 hd2
  have ep : xs[j] = p := (List.getElem?_eq_some_iff.mp hp).2
  have eq : ys[j] = q := (List.getElem?_eq_some_iff.mp hq).2
  obtain ⟨t1, e1⟩ := g1 j (by omega) hj1
  obtain ⟨t2, e2⟩ := g2 j (by omega) hj2
  rw [ep] at e1
  rw [eq] at e2
  have hflat : ∀ (i i' : Int) (t t' : Tok), SeqAt.EqAt X.A.in1 s (.int i t) (.int i' t') (eqV (.int i) (.int i')) := fun i i' t t' =>
    eqok_flat (X := X) (k := 0) (H := H) (x := .int i) (y := .int i') rfl rfl pins σ s X.A.in1 _ _ (by show X.A.units + 1 + 0 < cLine; omega) I ⟨t, rfl⟩ ⟨t', rfl⟩
  refine richCompare_meets_room (op := .LtE) ⟨_, ho, rfl⟩ ⟨_, ho2, rfl⟩ F.slot_list_le F.entry_list_le (F.args_list_le_2 _ _) (SeqAt.list_leAt a b us.toArray vs.toArray n n2 dd dd2 sl sl2 j (by simp; omega) (by simp; omega) (decide (p ≤ q)))
    ⟨ho, ho2, fun i h1 h2 hi => ?_, ?_, fun prog w E Q' hq' => ?_, show Value.bool (decide (p ≤ q)) ≠ Value.notImplemented ∧ _ from ⟨(fun x => nomatch x), ⟨.bl _, H, I, rfl, hQ⟩⟩⟩ (by omega)
  · obtain ⟨t3, e3⟩ := g1 i (by simpa using h1) (by omega)
    obtain ⟨t4, e4⟩ := g2 i (by simpa using h2) (by omega)
    have es : xs[i] = ys[i] := by
      have z := congrArg (fun l : List Int => l[i]?) ht
      simp only [List.getElem?_take, hi, if_true] at z
      rw [List.getElem?_eq_getElem (by omega), List.getElem?_eq_getElem (by omega)] at z
      injection z
    have z := hflat xs[i] ys[i] t3 t4
    rw [← e3, ← e4, es, show eqV (.int ys[i]) (.int ys[i]) = true by simp [eqV]] at z
    simpa using z
  · have z := hflat p q t1 t2
    rw [← e1, ← e2, show eqV (.int p) (.int q) = false by simp [eqV]; exact hne] at z
    simpa using z
  · have z : wpAny (model prog w) X.A.in1 (richCompare .LtE (.int p t1) (.int q t2)) Q' E s := richCompare_gives (typeIs_int s p t1) (typeIs_int s q t2) F.slot_int_le F.entry_int_le (F.args_int_le_2 _ _) (gives_int_le p q t1 t2) (fun x => nomatch x) hq'
    rw [← e1, ← e2] at z
    simpa using z
/-- x not in xs, item by item -/
def rNotInD (X : Cx) : R2 := fun x y H Q => ∃ (p : Addr) (xs : List V) (e : Nat → Bool), y = .ref p ∧ SqL X.K H p xs ∧ (∀ j (h : j < xs.length), EqOk X 7 H xs[j] x (e j)) ∧ Q (.bl (!(List.range xs.length).any e)) H
theorem op_notInD {X : Cx} (hu : X.A.units + 8 < cLine) : OpR X (compareOp .NotIn) (rNotInD X) := by
  classical
  intro pins s σ H x y v u Q I rx ry h
  obtain ⟨p, xs, e, rfl, hq, he, q⟩ := h
  cases ry
  obtain ⟨its, r, pl, hz⟩ := I.list hq
  have l1 := r.length
  refine SeqAt.notIn_listAt (fun w => decide (∃ j, ∃ h : j < its.length, its[j] = w ∧ e j = true)) pl.isList (fun w hw => ?_) ⟨.bl _, H, I, rfl, ?_⟩
  · have key : ∀ j (h : j < its.length), SeqAt.EqAt X.A.in1 s its[j] v (e j) := fun j h => by
      obtain ⟨h', z⟩ := r.at h
      exact he j h' pins σ s X.A.in1 _ _ (by show X.A.units + 1 + 7 < cLine; omega) I z rx
    by_cases hh : ∃ j, ∃ h : j < its.length, its[j] = w ∧ e j = true
    · rw [decide_eq_true hh]
      obtain ⟨j, h, rfl, ej⟩ := hh
      have z := key j h
      rw [ej] at z
      exact z
    · rw [decide_eq_false hh]
      obtain ⟨j, h, ew⟩ := List.getElem_of_mem (show w ∈ its by simpa using hw)
      have z := key j h
      rw [show e j = false from by cases h' : e j with | false => rfl | true => exact absurd ⟨j, h, ew, h'⟩ hh, ew] at z
      exact z
  · have : its.toArray.any (fun w => decide (∃ j, ∃ h : j < its.length, its[j] = w ∧ e j = true)) = (List.range xs.length).any e := by
      rw [show its.toArray.any (fun w => decide (∃ j, ∃ h : j < its.length, its[j] = w ∧ e j = true)) = its.any (fun w => decide (∃ j, ∃ h : j < its.length, its[j] = w ∧ e j = true)) by simp]
      rw [Bool.eq_iff_iff, List.any_eq_true, List.any_eq_true]
      constructor
      · rintro ⟨w, _, hw⟩
        obtain ⟨j, h, _, ej⟩ := of_decide_eq_true hw
        exact ⟨j, List.mem_range.mpr (by omega), ej⟩
      · rintro ⟨j, hj, ej⟩
        have hj' := List.mem_range.mp hj
        exact ⟨its[j]'(by omega), List.getElem_mem _, decide_eq_true ⟨j, by omega, rfl, ej⟩⟩
    rw [this]
    exact q
theorem neok_lists (hx : SqL X.K H a xs) (hy : SqL X.K H b ys) (hl : xs.length = ys.length) (e : Nat → Bool) (he : ∀ j (h1 : j < xs.length) (h2 : j < ys.length), EqOk X k H xs[j] ys[j] (e j)) :
    NeOk X (k + 1) H (.ref a) (.ref b) (!(List.range xs.length).all e) := fun pins σ s A u v hu I rx ry => by
  cases (show u = Value.ref a from rx)
  cases (show v = Value.ref b from ry)
  obtain ⟨us, r1, p1, _⟩ := I.list hx
  obtain ⟨vs, r2, p2, _⟩ := I.list hy
  have l1 := r1.length
  have l2 := r2.length
  have q := SeqAt.RcNeAt.lists (A := A) (e := e) p1.isList p2.isList (by rw [List.size_toArray, List.size_toArray]; omega) (by omega) fun j h1 h2 => by
    rw [List.size_toArray] at h1 h2
    obtain ⟨g1, q1⟩ := r1.at h1
    obtain ⟨g2, q2⟩ := r2.at h2
    exact he j g1 g2 pins σ s A.in1 _ _ (by show A.units + 1 + k < cLine; omega) I (by simpa using q1) (by simpa using q2)
  rw [List.size_toArray, ← l1] at q
  exact q
end
theorem fb_enum {K : PySem.W.Frag} {a : Addr} {xs : List V} {g : TG} {tb : TS} {D : Ends} {σ0 : St} {H1 : Hp} (Pv : Nat → St → Hp → Prop) (h0 : Pv 0 σ0 H1) (hl : ∀ i σ H, i ≤ xs.length → Pv i σ H → SqL K H a xs)
    (hs : ∀ i x σ H p H2, xs[i]? = some x → Pv i σ H → New H p (.tup [.int (i : Int), x]) H2 → g (.ref p) σ H2 fun σ2 H2 => tb { D with nx := Pv (i + 1), ct := Pv (i + 1), bk := D.nx } σ2 H2)
    (hd : ∀ σ H, Pv xs.length σ H → D.nx σ H) : fBody g tb D σ0 (Ite K a) H1 := by
  refine ⟨fun i m σ H => m = xs.length - i ∧ i ≤ xs.length ∧ Pv i σ H, ⟨xs.length, by simp, Nat.zero_le _, h0⟩, ?_⟩
  rintro i m σ H ⟨rfl, hi, p⟩
  have q1 := hl i σ H hi p
  by_cases hlt : i < xs.length
  · refine .inr ⟨⟨xs, xs[i], q1, List.getElem?_eq_getElem hlt⟩, Pv (i + 1), fun σ' H' p' => ⟨xs.length - (i + 1), by omega, rfl, hlt, p'⟩, fun x H' y => ?_⟩
    obtain ⟨p1, u, e, n1, ex⟩ := y
    subst e
    exact hs i u σ H p1 H' (ex xs q1) p n1
  · have e : i = xs.length := by omega
    subst e
    exact .inl ⟨⟨xs, q1, Nat.le_refl _⟩, hd σ H p⟩
end L2

set_option Elab.async false
set_option linter.all false
set_option maxRecDepth 100000
/-! functions made in a body: def within def, lambda; called as values -/
namespace L2
open PySem PySem.Spec PyProof.Rows

/-! ### the table of a code object -/
/-- the table at P, tracked: what it holds for the places qs are code objects, kept -/
def TabOk (H : Hp) (P : Addr) (qs : List (Pos × Str)) : Prop := ∃ ps : Array Value, H P = some (.tbl qs ps)
theorem TabOk.same {H H' : Hp} {P : Addr} {qs : List (Pos × Str)} (T : TabOk H P qs) (g : Same H H') : TabOk H' P qs := let ⟨ps, h⟩ := T; ⟨ps, g _ _ h⟩
def KCode (K : PySem.W.Frag) (c P : Addr) : Prop := ∃ o vs file tf flags tg inF text tt, K.lookup c = some o ∧ o.cls = .type "code" ∧ o.data = .fields vs ∧ vs[11]? = some (.ref P) ∧ vs.getD 11 .none = .ref P ∧ vs.getD 18 .none = .str file tf ∧
  vs.getD 7 .none = .int flags tg ∧ vs.getD 9 .none = .bool inF ∧ vs.getD 10 .none = .int text tt ∧ c ≠ P
section
variable {X : Cx} {pins : List (Addr × Obj)} {σ : St} {H : Hp} {s : Shared}
/-! ### making one -/
def cloFd (name qual : Str) (params : Arguments) (body : FuncBody) (scope : Scope) (cl : List (Str × Addr)) (ct cd pm : Value) : FuncData :=
  { name, qualname := qual, params, body, scope, globals := mainGlobals, closure := cl, closureTuple := ct, code := cd, builtins := builtinsNs, defaults := .none, kwdefaults := .none, annotations := none, pyModule := pm, doc := .none }
/-- the function at f, just made in X -/
structure Made (X : Cx) (H H' : Hp) (name qual : Str) (params : Arguments) (body : FuncBody) (scope : Scope) (f : Addr) : Prop where
  old : Same H H'
  new : H f = none
  ex : ∃ cl ct c' oc pm, (∀ x c, cl.lookup x = some c → X.env.cells.lookup x = some c) ∧ (∀ p ∈ scope.names, p.2 = .free → ∃ c, cl.lookup p.1 = some c) ∧ H' c' = some (.frz oc (.own c')) ∧ CodeObj oc qual ∧
    H' f = some (.frz { cls := .type "function", data := .func (cloFd name qual params body scope cl ct (.ref c') pm) } (.own f))
end
end L2

set_option Elab.async false
set_option linter.all false
set_option maxRecDepth 100000
/-! functions as values: called, and what is promised of one made in a body -/
namespace L2
open PySem PySem.Spec PyProof.Rows
def fnO (fd : FuncData) (f : Addr) : HO := .frz { cls := .type "function", data := .func fd } (.own f)
/-- what is frozen stays -/
def Frz (H H' : Hp) : Prop := ∀ b o u, H b = some (.frz o u) → H' b = some (.frz o u)
theorem Frz.refl (H : Hp) : Frz H H := fun _ _ _ e => e
theorem Frz.trans {H H1 H2 : Hp} (a : Frz H H1) (b : Frz H1 H2) : Frz H H2 := fun c o u e => b c o u (a c o u e)
theorem Same.frz {H H' : Hp} (g : Same H H') : Frz H H' := fun b o u e => g _ _ e
/-- the function at f keeps sp, wherever what is frozen in H is so yet -/
def CloH (P : Program) (w : World) (K : PySem.W.Frag) (mg : Str → Option Value) (base : Heap) (k : Nat) (H : Hp) (f : Addr) (n : Nat) (sp : Sp) : Prop :=
  ∀ (A : Around) (outer : List Env) (s : Shared) (H' : Hp) (us : List Value) (vs : List V) (Q : VK), Room k A → Env0 P w K mg base A outer s H' → Frz H H' → Vals vs us → vs.length = n → sp vs H' Q E0 →
    codeAny (model P w) A (.call (.ref f) ⟨us, []⟩) (CR CX0 outer P w H' s Q E0) s
theorem CloH.mono {P : Program} {w : World} {K : PySem.W.Frag} {mg : Str → Option Value} {base : Heap} {k : Nat} {H H1 : Hp} {f : Addr} {n : Nat} {sp : Sp} (c : CloH P w K mg base k H f n sp) (g : Frz H H1) : CloH P w K mg base k H1 f n sp :=
  fun A outer s H' us vs Q hr e0 fz => c A outer s H' us vs Q hr e0 (g.trans fz)
/-! ### def and lambda within a body -/
section
variable {X : Cx} {c P : Addr} {qs : List (Pos × Str)} {pos : Pos} {name qual : Str} {params : Arguments} {scope : Scope}
end
/-! ### the cells of this body, frozen while another def runs -/
def CellOf (X : Cx) (b : Addr) : Prop := ∃ x, X.env.cells.lookup x = some b
def Adopted (X : Cx) (σ : St) (H Hq : Hp) : Prop := (∀ b, ¬ CellOf X b → Hq b = H b) ∧ (∀ b, CellOf X b → H b = none) ∧ (∀ x y c, X.env.cells.lookup x = some c → X.env.cells.lookup y = some c → x = y) ∧ ∀ x c, X.env.cells.lookup x = some c → ∃ o v, Hq c = some (.frz o (.own c)) ∧ o.data = .cell v ∧
  ∀ (i : Nat) y, X.N[i]? = some x → σ[i]? = some (some y) → (X.env.kindOf x = some .cell ∨ X.env.kindOf x = some .free) → ∃ u, RelV y u ∧ v = some u
open Classical in
noncomputable def dropX (X : Cx) (H : Hp) : Hp := fun b => if CellOf X b then none else H b
/-! ### the promise of a function made in a body -/
def InCl (cl : List (Str × Addr)) (b : Addr) : Prop := ∃ x, cl.lookup x = some b
open Classical in
noncomputable def dropL (cl : List (Str × Addr)) (H : Hp) : Hp := fun b => if InCl cl b then none else H b
structure CloScope (own ps cap : List Str) (sc : Scope) : Prop where
  kind : sc.kind = .function
  co : sc.isCoroutine = false
  gen : sc.isGenerator = false
  nocell : ∀ y ∈ sc.names, y.2 ≠ .cell
  pre : own.take ps.length = ps
  nd : ps.Nodup
  par : ∀ x ∈ ps, sc.names.lookup x = some .local
  cap : ∀ x ∈ cap, sc.names.lookup x = some .free
/-- the captured names' values, by what is frozen -/
def Caps (H : Hp) (cl : List (Str × Addr)) (cap : List Str) (cv : List V) : Prop := Paired (fun x v => ∃ c o u, cl.lookup x = some c ∧ H c = some (.frz o (.own c)) ∧ o.data = .cell (some u) ∧ RelV v u) cap cv
section
variable {P : Program} {w : World} {K : PySem.W.Frag} {mg : Str → Option Value} {base : Heap} {A : Around} {outer : List Env} {s : Shared} {H : Hp} {own ps cap : List Str} {qual : Str} {scope : Scope} {cl : List (Str × Addr)} {f : Addr} {cd : Value} {vs cv : List V} {us : List Value}
theorem drop_cells {H : Hp} (hcl : ∀ x c, cl.lookup x = some c → ∃ o v, H c = some (.frz o (.own c)) ∧ o.data = .cell v) {b : Addr} {u : HO} (e : H b = some u) (n : ∀ o a, u ≠ .frz o a) : ¬ InCl cl b := fun ⟨x, z⟩ => by
  obtain ⟨o, v, z2, _⟩ := hcl x b z
  rw [z2] at e; cases e
  exact n _ _ rfl
end
section
variable {prog : Program} {w : World} {A : Around} {R : Result → Shared → Prop} {s : Shared}
end
section
variable {P : Program} {w : World} {K : PySem.W.Frag} {mg : Str → Option Value} {base : Heap} {H : Hp} {own ps cap : List Str} {name qual : Str} {params : Arguments} {scope : Scope} {cl : List (Str × Addr)} {f c' : Addr} {oc : Obj} {ct pm : Value} {cv : List V} {k : Nat} {sp : Sp}
theorem Caps.frz {H H' : Hp} (g : Frz H H') : ∀ {cap : List Str} {cv : List V}, Caps H cl cap cv → Caps H' cl cap cv
  | _, _, .nil => .nil
  | _, _, .cons ⟨c, o, u, e1, e2, e3⟩ t => .cons ⟨c, o, u, e1, g _ _ _ e2, e3⟩ (Caps.frz g t)
end
end L2

set_option Elab.async false
set_option linter.all false
set_option maxRecDepth 100000
/-! THE TOP where functions are made in bodies: the tables of code are tracked -/
namespace L2
open PySem PySem.Spec PyProof.Rows
/-! ### a def whose code object is known -/
structure FunC (K : PySem.W.Frag) (x : Str) (st : Stmt) (f : Addr) (fd : FuncData) (c : Addr) : Prop where
  ex : ∃ (oc : Value) (od : Option Addr) (kV doc pm : Value) (an : Option Addr) (ct : Value) (osl : Array (Option Value)),
    fd = PySem.W.fnOf x x (defArgs st) (defBody st) (defScope st) .none kV doc pm an (.ref c) ct ∧ K.lookup f = some ⟨oc, od, .func fd, osl⟩ ∧ PySem.W.codeIn K (.ref c) x = true
  kp : PySem.W.keepIn K (.ref f) = true
structure DfnC (K : PySem.W.Frag) (mg : Str → Option Value) (x : Str) (st : Stmt) (ps : List Str) (c P : Addr) : Prop where
  ex : ∃ f fd, FunC K x st f fd c ∧ Binds K fd ps [] ∧ mg x = some (.ref f)
  code : KCode K c P
section
variable {P : Program} {w : World} {K : PySem.W.Frag} {mg : Str → Option Value} {base : Heap}
theorem DfnC.cal {x : Str} {st : Stmt} {N ps : List Str} {k : Nat} {sp : Sp} {c Pt : Addr} (d : DfnC K mg x st ps c Pt) (S : FnScope N ps (defScope st)) (len : ∀ vs H Q E, sp vs H Q E → vs.length = ps.length)
    (hbody : ∀ (f : Addr) (A : Around) (outer : List Env) (s : Shared) (H : Hp) (vs : List V) (Q : VK) (E : XK), Room k (A.deeper (envOfC x (defScope st) s.heap.objs.size f (.ref c))) → sp vs H Q E →
      ∃ t, PSs (cxOf CX0 P w K mg base N x (defScope st) f (.ref c) A outer s H E).nox (defBody st) t ∧ t { nx := fun _ H' => Q .non H', rt := Q } (start N vs) H) : Cal P w K mg base (k + 1) x ps sp := by
  obtain ⟨f, fd, F, b, m⟩ := d.ex
  obtain ⟨oc, od, kV, doc, pm, an, ct, osl, rfl, lk, hcd⟩ := F.ex
  refine ⟨f, _, fn_of lk hcd S len fun A outer s H vs Q E hr hsp => ?_, b, F.kp, m⟩
  obtain ⟨t, h, q⟩ := hbody f A outer s H vs Q E hr hsp
  exact ⟨t, h.nox, q⟩
end
/-! ### the tables that are tracked -/
def TabFor (q : Program) (K : PySem.W.Frag) (mg : Str → Option Value) (b : Addr) : Prop := ∃ d ∈ recsOf q, ∃ f oc od fd osl c, mg d.name = some (.ref f) ∧ K.lookup f = some ⟨oc, od, .func fd, osl⟩ ∧ fd.code = .ref c ∧ KCode K c b
theorem DfnC.tab {q : Program} {K : PySem.W.Frag} {mg : Str → Option Value} {x : Str} {st : Stmt} {ps : List Str} {c b : Addr} (d : DfnC K mg x st ps c b) (hx : ((recsOf q).any fun r => r.name == x) = true) : TabFor q K mg b := by
  obtain ⟨r, hr, e⟩ := List.any_eq_true.mp hx
  obtain ⟨f, fd, F, _, m⟩ := d.ex
  obtain ⟨oc, od, kV, doc, pm, an, ct, osl, rfl, lk, hcd⟩ := F.ex
  exact ⟨r, hr, f, oc, od, _, osl, c, by rw [beq_iff_eq.mp e]; exact m, lk, rfl, d.code⟩
def TabsOf (q : Program) (mg : Str → Option Value) (h : Heap) : Prop := ∀ d ∈ recsOf q, ∃ a o fd c P, mg d.name = some (.ref a) ∧ h.get? a = some o ∧ o.data = .func fd ∧ fd.code = .ref c ∧ h.IsCode c P #[] ∧ h.TableAt c P #[]
theorem TabFor.at {q : Program} {K : PySem.W.Frag} {mg : Str → Option Value} {h : Heap} {b : Addr} (t : TabFor q K mg b) (X : K.In h) (T : TabsOf q mg h) : ∃ c, h.TableAt c b #[] := by
  obtain ⟨d, hd, f, oc, od, fd, osl, c, m, lk, ec, kc⟩ := t
  obtain ⟨a, o, fd', c', P', m', ho, hf, hc, _, ta⟩ := T d hd
  rw [m] at m'; cases m'
  rw [X f _ lk] at ho; cases ho
  cases hf
  rw [ec] at hc; cases hc
  obtain ⟨o, vs, _, _, _, _, _, _, _, lk', _, hd', h11, _⟩ := kc
  obtain ⟨⟨o2, vs2, e1, e2, e3, e4⟩, e5⟩ := id ta
  rw [X c o lk'] at e1; cases e1
  rw [hd'] at e3; cases e3
  rw [h11] at e4; cases e4
  exact ⟨c, ta⟩
/-- what is tracked at the head: the script, the tables -/
def OnlyT (ts : List (Addr × List (Pos × Str))) (H : Hp) : Prop := (∀ b, H b = none ∨ (∃ o xs, H b = some (.frz o (.lst xs))) ∨ ∃ qs, ts.lookup b = some qs ∧ H b = some (.tbl qs #[])) ∧ ∀ b qs, ts.lookup b = some qs → H b = some (.tbl qs #[])
theorem OnlyT.tab {ts : List (Addr × List (Pos × Str))} {H : Hp} (h : OnlyT ts H) {b : Addr} {qs : List (Pos × Str)} (e : ts.lookup b = some qs) : TabOk H b qs := ⟨#[], h.2 b qs e⟩
/-! ### calls while names of this body are held in cells -/
def freeOk (env : Env) (sc : Scope) : Bool := sc.names.all fun p => p.2 != .free || (env.kindOf p.1 == some .cell || env.kindOf p.1 == some .free)
theorem freeOk.of {env : Env} {sc : Scope} (h : freeOk env sc = true) : ∀ p ∈ sc.names, p.2 = .free → env.kindOf p.1 = some .cell ∨ env.kindOf p.1 = some .free := fun p hp e => by
  have q := List.all_eq_true.mp h p hp
  rw [e] at q
  simpa using q
def oneOk (qs : List (Pos × Str)) (pos : Pos) (qual : Str) : Bool := qs.any (fun p => p.1.line == pos.line && p.1.col == pos.col && p.1.endLine == pos.endLine && p.1.endCol == pos.endCol && p.2 == qual) && qs.all fun p => p.1.line != pos.line || p.1.col != pos.col || p.2 == qual
theorem oneOk.one {qs : List (Pos × Str)} {pos : Pos} {qual : Str} (h : oneOk qs pos qual = true) : ∀ p ∈ qs, p.1.line = pos.line → p.1.col = pos.col → p.2 = qual := fun p hp e1 e2 => by
  have q := List.all_eq_true.mp (Bool.and_eq_true _ _ ▸ h : _ ∧ _).2 p hp
  rw [e1, e2] at q
  simpa using q
theorem oneOk.mem {qs : List (Pos × Str)} {pos : Pos} {qual : Str} (h : oneOk qs pos qual = true) : (pos, qual) ∈ qs := by
  obtain ⟨p, hp, e⟩ := List.any_eq_true.mp (Bool.and_eq_true _ _ ▸ h : _ ∧ _).1
  simp only [Bool.and_eq_true, beq_iff_eq] at e
  obtain ⟨⟨⟨⟨e1, e2⟩, e3⟩, e4⟩, e5⟩ := e
  have : p = (pos, qual) := by
    obtain ⟨⟨a, b, c, d⟩, z⟩ := p
    obtain ⟨a', b', c', d'⟩ := pos
    simp only at e1 e2 e3 e4 e5
    subst e1 e2 e3 e4 e5
    rfl
  rw [← this]; exact hp
section
variable {X : Cx} {c P : Addr} {qs : List (Pos × Str)} {pos : Pos} {params : Arguments} {scope : Scope}
end
/-! ### what stays -/
open Classical
theorem Adopted.same {X : Cx} {σ : St} {H1 Hq H2 : Hp} (ad : Adopted X σ H1 Hq) (g : Same Hq H2) : Same H1 (dropX X H2) := fun b u e => by
  have hc : ¬ CellOf X b := fun hc => by rw [ad.2.1 b hc] at e; cases e
  show (if CellOf X b then none else H2 b) = some u
  rw [if_neg hc]
  exact g b u (by rw [ad.1 b hc]; exact e)
theorem Adopted.up {X : Cx} {σ : St} {H1 Hq : Hp} (ad : Adopted X σ H1 Hq) : Same H1 Hq := fun b u e => by
  have hc : ¬ CellOf X b := fun hc => by rw [ad.2.1 b hc] at e; cases e
  rw [ad.1 b hc]; exact e
theorem Adopted.keep {X : Cx} {σ : St} {H1 Hq H2 : Hp} (ad : Adopted X σ H1 Hq) (g : Same Hq H2) {b : Addr} {u : HO} (e : H2 b = some u) (n : ∀ o a, u ≠ .frz o a) : dropX X H2 b = some u := by
  have hc : ¬ CellOf X b := fun ⟨x, z⟩ => by
    obtain ⟨o, v, h1, _⟩ := ad.2.2.2 x b z
    rw [g _ _ h1] at e; cases e
    exact n _ _ rfl
  show (if CellOf X b then none else H2 b) = some u
  rw [if_neg hc]; exact e
/-! ### what a function made in a body keeps -/
/-- what is not frozen stays -/
def SameN (H H' : Hp) : Prop := ∀ b u, H b = some u → (∀ o a, u ≠ .frz o a) → H' b = some u
theorem Same.n {H H' : Hp} (g : Same H H') : SameN H H' := fun b u e _ => g b u e
section
variable {cl : List (Str × Addr)} {H : Hp}
/-- cl's cells are frozen in H -/
def ClOk (cl : List (Str × Addr)) (H : Hp) : Prop := ∀ x c, cl.lookup x = some c → ∃ o v, H c = some (.frz o (.own c)) ∧ o.data = .cell v
theorem ClOk.n (hcl : ClOk cl H) : SameN H (dropL cl H) := fun b u e n => by
  show (if InCl cl b then none else H b) = some u
  rw [if_neg (drop_cells hcl e n)]; exact e
theorem ClOk.tab (hcl : ClOk cl H) {P : Addr} {qs : List (Pos × Str)} (T : TabOk H P qs) : TabOk (dropL cl H) P qs := let ⟨ps, e⟩ := T; ⟨ps, hcl.n _ _ e fun _ _ z => nomatch z⟩
theorem ClOk.fn (hcl : ClOk cl H) {f : Addr} {fd : FuncData} (e : H f = some (fnO fd f)) : dropL cl H f = some (fnO fd f) := by
  have nc : ¬ InCl cl f := fun ⟨x, z⟩ => by
    obtain ⟨o, v, z2, z3⟩ := hcl x f z
    rw [z2] at e; cases e
    cases z3
  exact (if_neg nc).trans e
end
section
variable {X : Cx} {H H1 H1' Hq : Hp} {σ : St} {name qual : Str} {params : Arguments} {scope : Scope} {f : Addr} {own ps cap : List Str} {cv : List V} {k : Nat} {sp : Sp}
theorem Made.fn {body : FuncBody} (M : Made X H H1 name qual params body scope f) : ∃ fd, H1 f = some (fnO fd f) := by
  obtain ⟨cl, ct, c', oc, pm, _, _, _, _, h⟩ := M.ex
  exact ⟨_, h⟩
end
end L2

set_option Elab.async false
set_option linter.all false
set_option maxRecDepth 100000
/-! exceptions that leave a def -/
namespace L2
open PySem PySem.Spec PyProof.Rows
/-- a heap without some of its objects -/
def without (h : Heap) : List Addr → Heap
  | [] => h
  | b :: L => without (h.update b fun _ => { cls := .none, data := .freed }) L
theorem freed_none (h : Heap) (a : Addr) : (h.update a fun _ => { cls := .none, data := .freed }).get? a = none := by
  obtain ⟨objs, l⟩ := h
  show (match (objs.modify a fun _ => ({ cls := .none, data := .freed } : Obj))[a]? with
    | some ⟨_, _, .freed, _⟩ => none
    | o => o) = none
  by_cases h : a < objs.size
  · rw [Array.getElem?_eq_getElem (by simpa using h), Array.getElem_modify]
    simp
  · rw [Array.getElem?_eq_none (by simpa using h)]
theorem without_get (b : Addr) : ∀ (L : List Addr) (h : Heap), (without h L).get? b = if b ∈ L then none else h.get? b
  | [], h => by simp [without]
  | c :: L, h => by
    rw [without, without_get b L]
    by_cases hb : b ∈ L
    · rw [if_pos hb, if_pos (List.mem_cons_of_mem _ hb)]
    · rw [if_neg hb]
      by_cases hc : b = c
      · subst hc; rw [if_pos List.mem_cons_self, freed_none]
      · rw [if_neg (by simp [hc, hb]), Heap.get?_update_other _ _ (Ne.symm hc)]
theorem without_in {b : Addr} {L : List Addr} {h : Heap} (hb : b ∈ L) : (without h L).get? b = none := by rw [without_get, if_pos hb]
theorem without_out {b : Addr} {L : List Addr} {h : Heap} (hb : b ∉ L) : (without h L).get? b = h.get? b := by rw [without_get, if_neg hb]
theorem without_stays (h : Heap) (L : List Addr) : (without h L).StaysIn h := fun b o e => by
  by_cases hb : b ∈ L
  · rw [without_in hb] at e; cases e
  · rw [without_out hb] at e; exact e
/-- the frames over another base -/
theorem funs_rebase {h base base' : Heap} : ∀ {l : List Env}, h.FunFrames base l → (∀ b ∈ frs l, base'.get? b = none) → h.FunFrames base' l
  | [], _, _ => trivial
  | env :: rest, ⟨hk, ⟨L, o, hf, hn, ho, hd⟩, hr⟩, k => by
    have e : frs (env :: rest) = L :: frs rest := by show List.filterMap _ (env :: rest) = _; rw [List.filterMap_cons, hf]; rfl
    rw [e] at k
    exact ⟨hk, ⟨L, o, hf, k L List.mem_cons_self, ho, hd⟩, funs_rebase hr fun b hb => k b (List.mem_cons_of_mem _ hb)⟩
/-- the exception at a, of the class cls, and the last entry of its traceback: new against h0, not tracked -/
def Flown (h0 : Heap) (H : Hp) (h : Heap) (a : Addr) (cls : Value) : Prop :=
  ∃ (oe : Obj) (vs : Array Value) (T : Addr) (oT : Obj) (ts : Array Value), h.get? a = some oe ∧ oe.cls = cls ∧ oe.data = .fields vs ∧ vs[1]? = some (.ref T) ∧ T ≠ a ∧ h.get? T = some oT ∧ oT.data = .fields ts ∧ ts[3]? = some .none ∧
    h0.get? a = none ∧ h0.get? T = none ∧ H a = none ∧ H T = none
/-- how an exception lies behind a call -/
def CXE (P : Program) (w : World) : CXT := fun outer H s E e s' => ∃ (a : Addr) (cls : Value) (H' : Hp), e = .ref a ∧ s'.os = s.os ∧ AllBare s'.gens ∧ Un (frs outer) [] H H' s.heap s'.heap ∧ HOk P w H' s'.heap ∧ Flown s.heap H' s'.heap a cls ∧ E cls (some a) H'
theorem objok_there {P : Program} {w : World} {H : Hp} {h : Heap} {a : Addr} {o : HO} (x : ObjOk P w H h a o) : ∃ ob, h.get? a = some ob := by
  induction o with
  | lst xs => obtain ⟨_, _, _, _, e⟩ := x; exact ⟨_, e⟩
  | tup xs => obtain ⟨_, _, _, ob, e, _⟩ := x; exact ⟨_, e⟩
  | dK kvs => obtain ⟨_, _, _, _, ob, _, _, e, _⟩ := x; exact ⟨_, e⟩
  | dT kvs => obtain ⟨_, _, _, _, ob, _, _, e, _⟩ := x; exact ⟨_, e⟩
  | set S n => obtain ⟨ob, _, _, _, e, _⟩ := x; exact ⟨_, e⟩
  | ins C dx fs => obtain ⟨_, _, _, e, _⟩ := x; exact ⟨_, e⟩
  | own _ => exact x
  | xd fs => obtain ⟨_, ⟨ob, es, ep, e, _⟩, _⟩ := x; exact ⟨_, e⟩
  | rng lo hi => obtain ⟨_, _, _, e⟩ := x; exact ⟨_, e⟩
  | frz ob u => exact ⟨_, x.1⟩
  | tbl qs ps => obtain ⟨_, e, _⟩ := x; exact ⟨_, e⟩
  | met f y => exact ⟨_, x⟩
  | ext φ => exact x.2.1
section
variable {X : Cx} {pins : List (Addr × Obj)} {σ : St} {H : Hp} {s : Shared} {Ex : Value → Shared → Prop}
/-- what the frame's leaving gives: from the state in which the exception stands -/
theorem left_cxe {a : Addr} {cls : Value} {E : XK} {h'' : Heap} {L : List Addr} (I : Inv X pins σ H s) (hx : X.ex = []) (hL : ∀ b ∈ L, X.s₀.heap.get? b = none ∧ H b = none)
    (l1 : (without s.heap (frs X.stack ++ L)).StaysIn h'') (l2 : h''.FunFrames (without s.heap (frs X.stack ++ L)) X.stack) (l3 : h''.Traced (without s.heap (frs X.stack ++ L)) a cls)
    (l4 : ∀ b o, s.heap.get? b = some o → (∀ vs, o.data ≠ .fields vs) → ∃ sl, h''.get? b = some { o with slots := sl }) (ha : a ∈ L) (q : E cls (some a) H) :
    CXE X.prog X.w X.outer X.H₀ X.s₀ E (.ref a) { s with heap := h'' } := by
  obtain ⟨oe, vs', T, oT, ts, t1, t2, t3, t4, t5, t6, t7, t8, t9⟩ := l3
  have hTf : T ∉ frs X.stack := fun z => by
    obtain ⟨_, o, e1, e2⟩ := l2.mem z
    rw [t7] at e1; cases e1
    exact e2 _ t8
  have nx : ∀ b, b ∉ X.ex := fun b z => by rw [hx] at z; cases z
  -- what stands in the heap ahead and is tracked, or stood at the entry, stays
  have st : ∀ b o, b ∉ frs X.stack → b ∉ L → s.heap.get? b = some o → h''.get? b = some o := fun b o h1 h2 e => l1 b o (by rw [without_out (fun z => (List.mem_append.mp z).elim h1 h2)]; exact e)
  have out : ∀ b o, X.s₀.heap.get? b = some o → b ∉ frs X.outer → b ∉ frs X.stack := fun b o e h z => by
    rcases List.mem_cons.mp (I.stkSub b z) with w | w
    · exact Nat.ne_of_lt (Nat.lt_of_lt_of_le (Heap.lt_size e) I.ok.above) w
    · exact h w
  have nL : ∀ b o, X.s₀.heap.get? b = some o → b ∉ L := fun b o e z => by rw [(hL b z).1] at e; cases e
  have T0 : X.s₀.heap.get? T = none := by
    cases e : X.s₀.heap.get? T with
    | none => rfl
    | some o =>
      obtain ⟨o', e'⟩ := I.base.there T o e (nx T)
      rw [without_out (fun z => (List.mem_append.mp z).elim hTf (nL T o e))] at t5
      rw [t5] at e'; cases e'
  have HT : H T = none := by
    cases e : H T with
    | none => rfl
    | some o =>
      obtain ⟨o', e'⟩ := objok_there (I.hok T o e)
      by_cases hTL : T ∈ L
      · rw [(hL T hTL).2] at e; cases e
      · rw [without_out (fun z => (List.mem_append.mp z).elim hTf hTL)] at t5
        rw [t5] at e'; cases e'
  refine ⟨a, cls, H, rfl, I.os, I.bare, ⟨fun b o e n hb _ => ?_, fun b o e n hb _ => ?_, fun b o e n _ => I.base.free b o e n (nx b), fun b o e _ => ?_, I.base.tups, I.base.frzs, I.base.tbls⟩, fun b o e => ?_, ⟨oe, vs', T, oT, ts, t1, t2, t3, t4, t6, t7, t8, t9, (hL a ha).1, T0, (hL a ha).2, HT⟩, q⟩
  · exact st b o (out b o e hb) (nL b o e) (I.base.keep b o e n hb (nx b))
  · obtain ⟨sl, e1⟩ := I.base.slot b o e n hb (nx b)
    obtain ⟨_, o', e2, nf⟩ := I.ok.funs.mem hb
    rw [e] at e2; cases e2
    obtain ⟨sl', e3⟩ := l4 b _ e1 nf
    exact ⟨sl', e3⟩
  · obtain ⟨o', e1⟩ := I.base.there b o e (nx b)
    by_cases hb : b ∈ frs X.stack
    · obtain ⟨_, o2, e2, _⟩ := l2.mem hb
      exact ⟨o2, e2⟩
    · exact ⟨o', st b o' hb (nL b o e) e1⟩
  · refine (I.hok b o e).stay (fun c u hc ec => st c u (fun z => ?_) (fun z => ?_) ec) (fun _ z => z) (fun _ _ _ _ _ z => z) fun _ _ z => z
    · have := I.stkFree c z
      rcases hc with rfl | hc
      · rw [this] at e; cases e
      · rw [this] at hc; cases hc
    · have := (hL c z).2
      rcases hc with rfl | hc
      · rw [this] at e; cases e
      · rw [this] at hc; cases hc
/-- the def's own raise: its frame is left -/
theorem leave_first {h' : Heap} {a : Addr} {cls : Value} {vs : List Value} {E : XK} (I : Inv X pins σ H s) (hx : X.ex = []) (hs : X.stack = X.env :: X.outer) (hf : X.env.frame = some X.env.locals) (M : Heap.MadeExcOf s.heap h' a cls vs) (q : E cls (some a) H) :
    wpAny (model X.prog X.w) X.A (leaving X.env (.ref a)) (fun _ s'' => CXE X.prog X.w X.outer X.H₀ X.s₀ E (.ref a) s'') Ex { s with heap := h' } := by
  obtain ⟨t, he, _, _⟩ := M.there
  have I' : Inv X pins σ H { s with heap := h', toks := s.toks } := I.kept M.keeps
  have Ha : H a = none := by
    cases e : H a with
    | none => rfl
    | some o =>
      obtain ⟨o', e'⟩ := objok_there (I.hok a o e)
      rw [M.new] at e'; cases e'
  have s0 : X.s₀.heap.get? a = none := by
    cases e : X.s₀.heap.get? a with
    | none => rfl
    | some o =>
      obtain ⟨o', e'⟩ := I.base.there a o e (fun z => by rw [hx] at z; cases z)
      rw [M.new] at e'; cases e'
  refine wpAny_leaving_first (base := without h' (frs X.stack ++ [a])) (outer := X.outer) (L := X.env.locals) (by rw [← hs]; exact I.ok.frames) (by rw [← hs]; exact funs_rebase I'.stack fun b hb => without_in (List.mem_append_left _ hb)) hf he (without_stays _ _)
    (without_in (List.mem_append_right _ (List.mem_singleton.mpr rfl))) rfl rfl fun h'' ⟨l1, l2, l3, l4⟩ => ?_
  rw [← hs] at l2
  exact left_cxe (L := [a]) I' hx (fun b hb => by rw [List.mem_singleton.mp hb]; exact ⟨s0, Ha⟩) l1 l2 l3 l4 (List.mem_singleton.mpr rfl) q
/-- a callee's exception: this frame is left, too -/
theorem leave_next {s' : Shared} {e : Value} {E E' : XK} (I : Inv X pins σ H s) (hx : X.ex = []) (hs : X.stack = X.env :: X.outer) (hf : X.env.frame = some X.env.locals) (c : CXE X.prog X.w X.stack H s E' e s') (q : ∀ a cls H', E' cls (some a) H' → E cls (some a) H') :
    wpAny (model X.prog X.w) X.A (leaving X.env e) (fun _ s'' => CXE X.prog X.w X.outer X.H₀ X.s₀ E e s'') Ex s' := by
  obtain ⟨a, cls, H', rfl, os, bare, un, hok, ⟨oe, vs, T, oT, ts, t1, t2, t3, t4, t6, t7, t8, t9, n1, n2, h1, h2⟩, ee⟩ := c
  have I' : Inv X pins σ H' s' := I.call' os un hok bare fun b z => nomatch z
  have s0 : ∀ b, s.heap.get? b = none → X.s₀.heap.get? b = none := fun b z => by
    cases e : X.s₀.heap.get? b with
    | none => rfl
    | some o =>
      obtain ⟨o', e'⟩ := I.base.there b o e (fun z => by rw [hx] at z; cases z)
      rw [z] at e'; cases e'
  refine wpAny_leaving_next (base := without s'.heap (frs X.stack ++ [a, T])) (outer := X.outer) (L := X.env.locals) (cls := cls) (by rw [← hs]; exact I.ok.frames) (by rw [← hs]; exact funs_rebase I'.stack fun b hb => without_in (List.mem_append_left _ hb)) hf
    ⟨oe, vs, T, oT, ts, t1, t2, t3, t4, without_in (List.mem_append_right _ (by simp)), t6, t7, t8, t9⟩ (without_stays _ _) (without_in (List.mem_append_right _ (by simp))) fun h'' ⟨l1, l2, l3, l4⟩ => ?_
  rw [← hs] at l2
  exact left_cxe (L := [a, T]) I' hx (fun b hb => by
    simp only [List.mem_cons, List.not_mem_nil, or_false] at hb
    rcases hb with rfl | rfl
    · exact ⟨s0 _ n1, h1⟩
    · exact ⟨s0 _ n2, h2⟩) l1 l2 l3 l4 (by simp) (q _ _ _ ee)
theorem made_free {h' : Heap} {a : Addr} {cls : Value} {vs : List Value} (I : Inv X pins σ H s) (M : Heap.MadeExcOf s.heap h' a cls vs) : H a = none := by
  cases e : H a with
  | none => rfl
  | some o =>
    obtain ⟨o', e'⟩ := objok_there (I.hok a o e)
    rw [M.new] at e'; cases e'
end
/-- a body whose exceptions leave it as E wants -/
structure Rs (X : Cx) (E : XK) : Prop where
  ex : X.ex = []
  st : X.stack = X.env :: X.outer
  fr : X.env.frame = some X.env.locals
  xe : ∀ e s', wpAny (model X.prog X.w) X.A (leaving X.env e) (fun _ s'' => CXE X.prog X.w X.outer X.H₀ X.s₀ E e s'') (fun e' s'' => CXE X.prog X.w X.outer X.H₀ X.s₀ E e' s'') s' → X.xe e s'
/-- a callee's exceptions go on as this body's -/
theorem Rs.passes {X : Cx} {E E' : XK} (R : Rs X E) (q : ∀ a cls H', E' cls (some a) H' → E cls (some a) H') : Passes (CXE X.prog X.w) X E' := fun pins σ H s e s' I c => R.xe e s' (leave_next I R.ex R.st R.fr c q)
def tRaise (E : XK) (cls : Value) (t : TA) : TS := fun D σ H => t σ H fun vs H1 => vs.length ≤ sizeLine ∧ ∀ a, H1 a = none → E cls (some a) H1
theorem ps_raise {X : Cx} {E : XK} {x : Str} {C : Addr} {B newId initId : String} {bm : List Value} {np cpos pos : Pos} {e₀ : Expr} {rest : List Expr} {t : TA} (R : Rs X E) (hc : X.calm = true) (hg : Gl X x) (O : OwnCls x C bm newId X.mg X.base) (FB : ExcBaseFacts B newId initId bm) (ha : PA X (e₀ :: rest) t)
    (he : starEach (e₀ :: rest) X.env = (false, eval e₀ X.env) :: starEach rest X.env := by rfl) (hp : (backTo cpos (starEach rest X.env)).any (·.1) = false := by rfl) (hd : (x == ("__debug__" : Str)) = false := by decide) :
    PS X (.Raise (some (.Call (.Name x np) (e₀ :: rest) [] cpos)) none pos) (tRaise E (.ref C) t) := by
  intro pins s σ H D I h
  obtain ⟨tl, N, nm, q, bs, hdct, sn, sub, ab, col, dd, k0, k1, k2, k3, k5, mN, hC, hN, hni, T⟩ := O.obj
  refine wpAny_Raise_call_subT (C := C) (nm := nm) (q := q) (N := N) (bs := bs) (bm := tl) (hdct := hdct) (sn := sn) (sub := sub) (ab := ab) (col := col) (dd := dd) (k0 := k0) (k1 := k1) (k2 := k2) (k3 := k3) (k5 := k5)
    FB (mN := mN) (T.hasType FB.hasBase) (I.ok.hd hc) (by rw [he]; show (false || (backTo cpos (starEach rest X.env)).any (·.1)) = false; rw [hp]; rfl) hni ?_
  refine thn (pe_glob (v := .ref C) (pos := np) hg O.bound rfl hd pins s σ H (fun v H' => v = .ref C ∧ H' = H) I ⟨rfl, rfl⟩) fun u s1 ⟨v, H1, I1, r1, e1, e2⟩ => ?_
  subst e1 e2
  refine ⟨r1, ?_⟩
  have hh := ha cpos pins s1 σ H1 _ I1 h
  rw [he] at hh ⊢
  refine Calls.evalArgs_plain (thn hh fun us s2 ⟨vs, H2, I2, r2, z, q⟩ => ⟨rfl, by rw [← r2.length]; exact z, I2.bk _ _ hC, hN.keeps I2.bk, T.keeps I2.bk, fun h' a M => R.xe _ _ (leave_first I2 R.ex R.st R.fr M (q a (made_free I2 M)))⟩)
/-- THE RULE for a def that may raise -/
theorem Fun.okE {P : Program} {w : World} {K : PySem.W.Frag} {mg : Str → Option Value} {base : Heap} {x qual : Str} {st : Stmt} {f : Addr} {fd : FuncData} {N ps : List Str} {k : Nat} {sp : Sp} (F : Fun K x qual st f fd) (S : FnScope N ps (defScope st)) (len : ∀ vs H Q E, sp vs H Q E → vs.length = ps.length)
    (hbody : ∀ (cdv : Value) (A : Around) (outer : List Env) (s : Shared) (H : Hp) (vs : List V) (Q : VK) (E : XK), Room k (A.deeper (envOfC qual (defScope st) s.heap.objs.size f cdv)) → sp vs H Q E → Rs (cxOf (CXE P w) P w K mg base N qual (defScope st) f cdv A outer s H E) E →
      ∃ t, PSs (cxOf (CXE P w) P w K mg base N qual (defScope st) f cdv A outer s H E) (defBody st) t ∧ t { nx := fun _ H' => Q .non H', rt := Q } (start N vs) H) : FnOk P w K mg base (CXE P w) (k + 1) f fd ps sp := by
  obtain ⟨oc, od, kV, doc, pm, an, cdv, ct, osl, rfl, lk, hcd⟩ := F.ex
  exact fn_of lk hcd S len fun A outer s H vs Q E hr hsp => hbody cdv A outer s H vs Q E hr hsp ⟨rfl, rfl, rfl, fun _ _ h => h⟩
end L2

set_option Elab.async false
set_option linter.all false
set_option maxRecDepth 100000
/-! exceptions caught -/
namespace L2
open PySem PySem.Spec PyProof.Rows PySem.Calls
section
variable {M : Model} {A : Around} {E : Value → Shared → Prop}
/-- the class at C, an exception's, with its bases bm -/
def ExcAt (h : Heap) (C : Addr) (bm : List Value) : Prop := ∃ nm q N bs hdct sn sub ab col dd k0 k1 k2 k3 k5 newId, h.get? C = some (excClassObj nm q C N bs bm hdct sn sub ab col dd k0 k1 k2 k3 k5 newId)
theorem ExcAt.keeps {h h' : Heap} {C : Addr} {bm : List Value} (x : ExcAt h C bm) (k : ∀ b o, h.get? b = some o → h'.get? b = some o) : ExcAt h' C bm := by
  obtain ⟨nm, q, N, bs, hdct, sn, sub, ab, col, dd, k0, k1, k2, k3, k5, newId, e⟩ := x
  exact ⟨nm, q, N, bs, hdct, sn, sub, ab, col, dd, k0, k1, k2, k3, k5, newId, k _ _ e⟩
end
section
variable {X : Cx} {pins : List (Addr × Obj)} {σ : St} {H : Hp} {s : Shared}
/-- what only the frame's own dict has changed -/
theorem Inv.names {h' : Heap} {j : Nat} {n : Str} {m m' : Str → Option Value} (I : Inv X pins σ H s) (hN : X.N.Nodup) (hj : X.N[j]? = some n) (hn : s.heap.Ns X.env.locals m)
    (hl : ∀ (i : Nat) (x : Str) (v : V), X.N[i]? = some x → σ[i]? = some (some v) → Vis X.env.scope x → ∃ u, RelV v u ∧ Look X.env s.heap m x u) (hn' : h'.Ns X.env.locals m') (hm : ∀ x, x ≠ n → m' x = m x) (hs : Heap.SameBut X.env.locals s.heap h') :
    Inv X pins (σ.set j none) H { s with heap := h' } := by
  have low : ∀ b o, X.s₀.heap.get? b = some o → b ≠ X.env.locals := fun b o e => Nat.ne_of_lt (Nat.lt_of_lt_of_le (Heap.lt_size e) I.ok.above)
  refine ⟨I.ok, I.os, I.bare, ⟨fun b o e k hb hx => (hs.2 b (low b o e)).trans (I.base.keep b o e k hb hx), fun b o e k hb hx => ?_, I.base.free, fun b o e hx => ?_, I.base.tups, I.base.frzs, I.base.tbls⟩, ⟨m', hn', fun i y v e1 e2 e3 => ?_⟩, fun y c e => ?_, I.free, I.freeC, fun p hp => ?_, fun b ob e => ?_, by simpa using I.len⟩
  · obtain ⟨sl, e1⟩ := I.base.slot b o e k hb hx
    exact ⟨sl, (hs.2 b (low b o e)).trans e1⟩
  · obtain ⟨o', e1⟩ := I.base.there b o e hx
    exact ⟨o', (hs.2 b (low b o e)).trans e1⟩
  · by_cases hij : i = j
    · subst hij
      rw [List.getElem?_set_self (by rw [I.len]; exact (List.getElem?_eq_some_iff.mp hj).1)] at e2
      cases e2
    · rw [List.getElem?_set_ne (Ne.symm hij)] at e2
      obtain ⟨u', r', q⟩ := hl i y v e1 e2 e3
      refine ⟨u', r', ?_⟩
      rcases q with ⟨k, e⟩ | ⟨k, c, e, z⟩
      · exact .inl ⟨k, by rw [hm y fun z => hij (nodup_ix hN e1 (z ▸ hj))]; exact e⟩
      · exact .inr ⟨k, c, e, z.sameBut hs (I.cne y c e)⟩
  · obtain ⟨w', z⟩ := I.cell y c e
    exact ⟨w', z.sameBut hs (I.cne y c e)⟩
  · obtain ⟨e, k, ne, nf, d⟩ := I.pin p hp
    exact ⟨(hs.2 p.1 ne).trans e, k, ne, nf, d⟩
  · refine (I.hok b ob e).stay (fun c w' hc q => (hs.2 c ?_).trans q) (fun _ q => q) (fun _ _ _ _ _ q => q) fun _ _ q => q
    rintro rfl
    rcases hc with rfl | hc
    · rw [I.free] at e; cases e
    · rw [I.free] at hc; cases hc
/-- within an except suite -/
def Cx.held (X : Cx) (a : Addr) : Cx := { X with A := X.A.mark (some (.ref a)), calm := false, xe := fun _ _ => False }
theorem Cx.Ok.held {a : Addr} (ok : X.Ok) : (X.held a).Ok := ⟨ok.mod, ok.kind, ok.glob, ok.blt, ok.above, ok.inj, ok.has, ok.cab, (fun h => nomatch h), ok.frames, ok.stk, ok.exf, ok.bs, ok.bsz, ok.noex, ok.exfs, ok.funs, ok.frf⟩
theorem Inv.held {a : Addr} (I : Inv X pins σ H s) : Inv (X.held a) pins σ H s := ⟨I.ok.held, I.os, I.bare, I.base, I.loc, I.cell, I.free, I.freeC, I.pin, I.hok, I.len⟩
theorem Inv.unheld {a : Addr} (ok : X.Ok) (I : Inv (X.held a) pins σ H s) : Inv X pins σ H s := ⟨ok, I.os, I.bare, I.base, I.loc, I.cell, I.free, I.freeC, I.pin, I.hok, I.len⟩
/-- a new record, until now not tracked, is tracked -/
theorem Inv.adopt {a : Addr} {o : HO} {vs : Array Value} {oe : Obj} (I : Inv X pins σ H s) (ha : H a = none) (h0 : X.s₀.heap.get? a = none) (he : s.heap.get? a = some oe) (hd : oe.data = .fields vs) (hp : ∀ p ∈ X.pn ++ pins, p.1 ≠ a) (new : ObjOk X.prog X.w (upd H a o) s.heap a o) :
    Inv X pins σ (upd H a o) s := by
  have nL : X.env.locals ≠ a := fun z => by
    obtain ⟨m, ⟨ob, es, ep, e, dd, _⟩, _⟩ := I.loc
    rw [z, he] at e; cases e
    rw [hd] at dd; cases dd
  have nC : ∀ x c, X.env.cells.lookup x = some c → c ≠ a := fun x c e z => by
    obtain ⟨v, ob, e1, dd⟩ := I.cell x c e
    rw [z, he] at e1; cases e1
    rw [hd] at dd; cases dd
  have up : ∀ b u, H b = some u → upd H a o b = some u := fun b u e => by rw [upd_ne (fun z => by rw [z, ha] at e; cases e)]; exact e
  refine ⟨I.ok, I.os, I.bare, ⟨I.base.keep, I.base.slot, fun b ob e k hx => ?_, I.base.there, fun b xs e => up _ _ (I.base.tups b xs e), fun b ob u e => up _ _ (I.base.frzs b ob u e), fun b qs ps e => up _ _ (I.base.tbls b qs ps e)⟩, I.loc, I.cell, by rw [upd_ne nL]; exact I.free, fun x c e => by rw [upd_ne (nC x c e)]; exact I.freeC x c e, fun p hpp => ?_, fun b u e => ?_, I.len⟩
  · rw [upd_ne (fun z => by rw [z, h0] at e; cases e)]
    exact I.base.free b ob e k hx
  · obtain ⟨e, k, r⟩ := I.pin p hpp
    exact ⟨e, by rw [upd_ne (hp p hpp)]; exact k, r⟩
  · by_cases hb : b = a
    · subst hb; rw [upd_same] at e; cases e; exact new
    · rw [upd_ne hb] at e
      exact (I.hok b u e).stay (fun _ _ _ q => q) (fun c q => up c _ q) (fun c _ _ _ _ q => up c _ q) fun c xs q => up c _ q
/-- tracked records, and slots of the frames, have changed -/
theorem Inv.touch {h' : Heap} {L : List Addr} {t' : Nat} (I : Inv X pins σ H s) (k : ∀ b o, b ∉ frs X.stack → b ∉ L → s.heap.get? b = some o → h'.get? b = some o) (sl : ∀ b o, b ∈ frs X.stack → s.heap.get? b = some o → ∃ sl, h'.get? b = some { o with slots := sl })
    (hL : ∀ b ∈ L, ∃ φ, H b = some (.ext φ) ∧ φ h' ∧ ∃ o, h'.get? b = some o) : Inv X pins σ H { s with heap := h', toks := t' } := by
  have fr : ∀ b ∈ frs X.stack, H b = none := I.stkFree
  refine I.call' (ch := []) rfl ⟨fun b o e n hb _ => k b o hb (fun z => ?_) e, fun b o e n hb _ => sl b o hb e, fun _ _ _ n _ => n, fun b o e _ => ?_, fun _ _ e => e, fun _ _ _ e => e, fun _ _ _ e => e⟩ (fun b u e => ?_) I.bare fun b z => nomatch z
  · obtain ⟨φ, e', _⟩ := hL b z
    rw [n] at e'; cases e'
  · by_cases hb : b ∈ frs X.stack
    · obtain ⟨q, e'⟩ := sl b o hb e
      exact ⟨_, e'⟩
    · by_cases hl : b ∈ L
      · obtain ⟨_, _, _, o', e'⟩ := hL b hl
        exact ⟨o', e'⟩
      · exact ⟨o, k b o hb hl e⟩
  · by_cases hl : b ∈ L
    · obtain ⟨φ, e', p, o', e''⟩ := hL b hl
      rw [e] at e'; cases e'
      exact ⟨p, ⟨o', e''⟩, (I.hok b _ e).2.2⟩
    · refine (I.hok b u e).stay (fun c w hc ec => k c w (fun z => ?_) (fun z => ?_) ec) (fun _ z => z) (fun _ _ _ _ _ z => z) fun _ _ z => z
      · have := fr c z
        rcases hc with rfl | hc
        · rw [this] at e; cases e
        · rw [this] at hc; cases hc
      · rcases hc with rfl | hc
        · exact hl z
        · obtain ⟨φ, e', _⟩ := hL c z
          rw [hc] at e'; cases e'
/-- an exception's record, a traceback entry's -/
def ExcIs (a : Addr) (cls : Value) (h : Heap) : Prop := ∃ (o : Obj) (vs : Array Value), h.get? a = some o ∧ o.cls = cls ∧ o.data = .fields vs
def TbIs (T : Addr) (h : Heap) : Prop := ∃ (o : Obj) (vs : Array Value), h.get? T = some o ∧ o.data = .fields vs
def excO (a : Addr) (cls : Value) : HO := .ext (ExcIs a cls)
def tbO (T : Addr) : HO := .ext (TbIs T)
theorem exc_ok {P : Program} {w : World} {h : Heap} {H : Hp} {a : Addr} {cls : Value} (x : ExcIs a cls h) : ObjOk P w H h a (excO a cls) :=
  ⟨x, let ⟨o, _, e, _⟩ := x; ⟨o, e⟩, fun h1 h2 ⟨o, vs, e, r⟩ k => ⟨o, vs, k o e, r⟩⟩
theorem tb_ok {P : Program} {w : World} {h : Heap} {H : Hp} {T : Addr} (x : TbIs T h) : ObjOk P w H h T (tbO T) :=
  ⟨x, let ⟨o, _, e, _⟩ := x; ⟨o, e⟩, fun h1 h2 ⟨o, vs, e, r⟩ k => ⟨o, vs, k o e, r⟩⟩
end
section
variable {prog : Program} {w : World} {A : Around} {E : Value → Shared → Prop} {s : Shared} {env : Env}
/-- the exception is noted in the frame that catches it: T its last entry, T2 the new one -/
theorem note_all {base : Heap} {outer : List Env} {L e T : Addr} {oe oT : Obj} {vs ts : Array Value} {Q : Unit → Shared → Prop} (hfr : A.frames = some (env :: outer)) (hl : s.heap.FunFrames base (env :: outer)) (hf : env.frame = some L) (he : s.heap.get? e = some oe) (hd : oe.data = .fields vs) (h1 : vs[1]? = some (.ref T))
    (hTe : T ≠ e) (hT : s.heap.get? T = some oT) (hdT : oT.data = .fields ts) (h3 : ts[3]? = some .none)
    (h : ∀ h', (∀ b o, b ∉ frs (env :: outer) → b ≠ e → b ≠ T → s.heap.get? b = some o → h'.get? b = some o) → (∀ b o, b ∈ frs (env :: outer) → s.heap.get? b = some o → ∃ sl, h'.get? b = some { o with slots := sl }) → TbIs T h' →
      (∃ (oe' : Obj) (vs' : Array Value) (T2 : Addr) (oT2 : Obj) (ts2 : Array Value), h'.get? e = some oe' ∧ oe'.cls = oe.cls ∧ oe'.data = .fields vs' ∧ vs'[1]? = some (.ref T2) ∧ T2 ≠ e ∧ h'.get? T2 = some oT2 ∧ oT2.data = .fields ts2 ∧ ts2[3]? = some .none ∧ s.heap.get? T2 = none) → Q () { s with heap := h' }) :
    wpAny (model prog w) A (noteFrame (.ref e) env) (fun _ s' => wpAny (model prog w) A (setFlight (.ref e) none) Q E s') E s := by
  unfold noteFrame
  simp only [hf]
  refine wpAny_bind (wpAny_field he hd h1 ?_)
  rw [if_pos (show (Value.ref T != Value.none) = true from by simp)]
  refine wpAny_bind (wpAny_field hT hdT h3 ?_)
  rw [if_neg (show ¬ ((Value.none == rawInt L) = true) from by simp [rawInt])]
  refine wpAny_bind (wpAny_setField hT hdT (Array.getElem?_eq_some_iff.mp h3).1 ?_)
  have other : ∀ b, b ≠ T → (s.heap.update T (Obj.mapFields (·.setIfInBounds 3 Value.none))).get? b = s.heap.get? b := fun b hb => Heap.get?_update_other _ _ (Ne.symm hb)
  have hdT' := Obj.data_mapFields hdT (·.setIfInBounds 3 Value.none)
  have hT' := Heap.get?_update_self (Obj.mapFields (·.setIfInBounds 3 Value.none)) hT (Obj.isFreed_of_fields hdT')
  generalize s.heap.update T (Obj.mapFields (·.setIfInBounds 3 Value.none)) = h2 at other hT'
  have nr : ∀ b o, s.heap.get? b = some o → (∀ vs, o.data ≠ .fields vs) → b ≠ T := fun b o hb hnf q => by
    rw [q, hT] at hb; injection hb with hb; subst hb; exact hnf ts hdT
  have hl2 : h2.FunFrames base (env :: outer) := hl.of_keeps fun b o hb hnf => ⟨o, (other b (nr b o hb hnf)).trans hb, rfl⟩
  have fT : T ∉ frs (env :: outer) := fun z => by
    obtain ⟨_, o, e1, e2⟩ := hl.mem z
    rw [hT] at e1; cases e1; exact e2 _ hdT
  have fe : e ∉ frs (env :: outer) := fun z => by
    obtain ⟨_, o, e1, e2⟩ := hl.mem z
    rw [he] at e1; cases e1; exact e2 _ hd
  refine wpAny_newEntry (base := without h2 (frs (env :: outer) ++ [e])) hfr (funs_rebase hl2 fun b hb => without_in (List.mem_append_left _ hb)) hf ((other e (Ne.symm hTe)).trans he) (without_stays _ _) (without_in (List.mem_append_right _ (List.mem_singleton.mpr rfl))) hd (Array.getElem?_eq_some_iff.mp h1).1
    fun h' ⟨x1, x2, x3, x4⟩ => ?_
  have st : ∀ b o, b ∉ frs (env :: outer) → b ≠ e → h2.get? b = some o → h'.get? b = some o := fun b o n1 n2 q => x1 b o (by rw [without_out (fun z => (List.mem_append.mp z).elim n1 fun z => n2 (List.mem_singleton.mp z))]; exact q)
  obtain ⟨oe', vs', T2, oT2, ts2, t1, t2, t3, t4, t5, t6, t7, t8, t9⟩ := x3
  have f2 : T2 ∉ frs (env :: outer) := fun z => by
    obtain ⟨_, o, e1, e2⟩ := x2.mem z
    rw [t7] at e1; cases e1; exact e2 _ t8
  have n2 : h2.get? T2 = none := by rw [without_out (fun z => (List.mem_append.mp z).elim f2 fun z => t6 (List.mem_singleton.mp z))] at t5; exact t5
  have n2T : T2 ≠ T := fun z => by rw [z, hT'] at n2; cases n2
  refine h h' (fun b o b1 b2 b3 q => st b o b1 b2 ((other b b3).trans q)) (fun b o hb q => ?_) ⟨_, _, st T _ fT hTe hT', hdT'⟩ ⟨oe', vs', T2, oT2, ts2, t1, t2, t3, t4, t6, t7, t8, t9, by rw [← other T2 n2T]; exact n2⟩
  obtain ⟨_, o', e1, e2⟩ := hl.mem hb
  rw [q] at e1; cases e1
  exact x4 b o ((other b (nr b o q e2)).trans q) e2
end
section
variable {X : Cx} {pins : List (Addr × Obj)} {σ : St} {H : Hp} {s : Shared} {k : Nat} {fa : Addr} {fd : FuncData} {ps : List Str} {sp : Sp}
/-- a call; its exception as it lies -/
theorem ex_call {Ec : XK} {Q : VK} {Xe : Value → Shared → Prop} {x : Str} {e : Expr} {es : List Expr} {t : TA} {p pos : Pos} (F : FnOk X.prog X.w X.K X.mg X.base (CXE X.prog X.w) k fa fd ps sp) (hr : Room k X.A) (hg : Gl X x) (hm : X.mg x = some (.ref fa)) (hk : PySem.W.keepIn X.K (.ref fa) = true) (hb : Binds X.K fd ps [])
    (ha : PA X.nox (e :: es) t) (I : Inv X pins σ H s) (h : t σ H fun vs H1 => sp vs H1 Q Ec) (hx : ∀ H1 s1 e s', Inv X pins σ H1 s1 → CXE X.prog X.w X.stack H1 s1 Ec e s' → Xe e s')
    (hdb : (x == ("__debug__" : Str)) = false := by decide) (he : starEach (e :: es) X.env = (false, eval e X.env) :: starEach es X.env := by rfl) (hpl : (backTo pos (starEach es X.env)).any (·.1) = false := by rfl) :
    wpAny (model X.prog X.w) X.A (eval (.Call (.Name x p) (e :: es) [] pos) X.env) (EP X pins σ Q) Xe s := by
  refine wpAny_Call_Name_kw (ld_glob I hg hm ?_ hdb)
  refine PySem.W.callWith_K (h₀ := X.base) I.ok.mod.kin hk (wpAny_mono (ha pos pins s σ H _ (I.wish _) h) (fun us s1 ⟨vs, H1, I1, r, q⟩ => ⟨I1.unwish.kIn, ?_⟩) fun _ _ z => False.elim z) he hpl
  have I1' := I1.unwish
  have hl : us.length = ps.length := by rw [← r.length]; exact F.len _ _ _ _ q
  refine wpAny_call (codeAny_mono (F.run X.A X.stack s1 H1 ⟨us, []⟩ us vs Q Ec hr I1'.env0 (by have := hb s1 us I1'.kIn (by rw [List.append_nil]; exact hl); rw [List.append_nil] at this; exact this) r q) fun r s' hq => ?_)
  cases r with
  | error e => exact hx H1 s1 e s' I1' hq
  | ok fl =>
    cases fl with
    | ret u => exact I1'.after hq
    | next => exact False.elim hq
    | brk => exact False.elim hq
    | cont => exact False.elim hq
/-- the caught exception's mark -/
theorem flight_ok {M : Model} {A : Around} {E : Value → Shared → Prop} {a T : Addr} {oe oT : Obj} {vs ts : Array Value} {Q : Unit → Shared → Prop} (I : Inv X pins σ H s) (he : s.heap.get? a = some oe) (hd : oe.data = .fields vs) (h1 : vs[1]? = some (.ref T)) (hT : s.heap.get? T = some oT) (hdT : oT.data = .fields ts) (h3 : 3 < ts.size)
    (tr : H T = some (tbO T)) (h : ∀ h', Inv X pins σ H { s with heap := h' } → Q () { s with heap := h' }) : wpAny M A (setFlight (.ref a) none) Q E s := by
  unfold setFlight
  refine wpAny_bind (wpAny_field he hd h1 ?_)
  rw [if_pos (show (Value.ref T != Value.none) = true from by simp)]
  refine wpAny_setField hT hdT h3 ?_
  have other : ∀ b, b ≠ T → (s.heap.update T (Obj.mapFields (·.setIfInBounds 3 ((none : Option Addr).elim Value.none fun f => rawInt f)))).get? b = s.heap.get? b := fun b hb => Heap.get?_update_other _ _ (Ne.symm hb)
  have hdT' := Obj.data_mapFields hdT (·.setIfInBounds 3 ((none : Option Addr).elim Value.none fun f => rawInt f))
  have hT' := Heap.get?_update_self (Obj.mapFields (·.setIfInBounds 3 ((none : Option Addr).elim Value.none fun f => rawInt f))) hT (Obj.isFreed_of_fields hdT')
  refine h _ (I.touch (L := [T]) (t' := s.toks) (fun b o _ n q => (other b (fun z => n (List.mem_singleton.mpr z))).trans q) (fun b o hb q => ⟨o.slots, (other b (fun z => ?_)).trans q⟩) fun b hb => ?_)
  · have := I.stkFree b hb
    rw [z, tr] at this; cases this
  · rw [List.mem_singleton.mp hb]
    exact ⟨_, tr, ⟨_, _, hT', hdT'⟩, _, hT'⟩
end
end L2

set_option Elab.async false
set_option linter.all false
set_option maxRecDepth 100000
/-! isinstance of a caught exception of an own class -/
namespace L2
open PySem PySem.Spec PyProof.Rows PySem.W
/-- what the class at C must have -/
structure KExc (K : PySem.W.Frag) (C : Addr) : Prop where
  ga : findIn K (.ref C) "__getattribute__" = some (some (.builtin "BaseException.__getattribute__"))
  gn : findIn K (.ref C) "__getattr__" = some none
  cl : findIn K (.ref C) "__class__" = some (some (.builtin "object.__class__"))
  mb : mroIn K C (.type "BaseException") = some true
  mo : mroIn K C (.type "object") = some true
  ic : hasDictIn K C = true
section
variable {prog : Program} {w : World} {A : Around} {E : Value → Shared → Prop} {K : PySem.W.Frag} {h : Heap} {g : Array GenState} {d : Drawn} {t : Nat} {os : OsState} {a C : Addr} {o : Obj}
theorem sub_at {M : Model} {base : Value} {r : Bool} {Q : Bool → Shared → Prop} (X : K.In h) (e : mroIn K C base = some r) (hq : Q r ⟨h, g, d, t, os⟩) : wpAny M A (isSubtype (.ref C) base) Q E ⟨h, g, d, t, os⟩ := looks_mroIn X e A Q E _ (fun _ _ e => e) hq
end
end L2

set_option Elab.async false
set_option linter.all false
set_option maxRecDepth 100000
/-! classes of exceptions by what the linked text holds of them -/
namespace L2
open PySem PySem.Spec PyProof.Rows PySem.W PySem.Calls
section
variable {M : Model} {A : Around} {E : Value → Shared → Prop} {K : PySem.W.Frag} {h : Heap} {g : Array GenState} {d : Drawn} {t : Nat} {os : OsState}
theorem type_at {v c : Value} {Q : Value → Shared → Prop} (X : K.In h) (e : typeIn K v = some c) (hq : Q c ⟨h, g, d, t, os⟩) : wpAny M A (typeOf v) Q E ⟨h, g, d, t, os⟩ := looks_typeIn X e A Q E _ (fun _ _ e => e) hq
/-- a class that an except clause may name -/
structure KSup (K : PySem.W.Frag) (S : Addr) : Prop where
  ty : typeIn K (.ref S) = some (.type "type")
  mb : mroIn K S (.type "BaseException") = some true
  ic : hasDictIn K S = true
theorem excMatches_K {e C S : Addr} {oe : Obj} {Q : Bool → Shared → Prop} (X : K.In h) (k : KSup K S) (he : h.get? e = some oe) (hcls : oe.cls = .ref C) (ms : mroIn K C (.ref S) = some true) (hq : Q true ⟨h, g, d, t, os⟩) : wpAny M A (excMatches (.ref e) (.ref S)) Q E ⟨h, g, d, t, os⟩ := by
  have ty := k.ty
  have mb := k.mb
  have f := tc_notTuple
  obtain ⟨cd, hcd, _⟩ := any_some k.ic
  unfold clsIn at hcd
  split at hcd
  · rename_i c' d' cd' sl' ho
    have hS := X _ _ ho
    unfold excMatches
    repeat (first | (with_reducible refine wpAny_loadPart_at he ?_; rw [hcls]) | (with_reducible refine type_at X ty ?_) | with_reducible refine wpAny_loadPart_at hS ?_ | (with_reducible refine sub_at X mb ?_) | (with_reducible refine sub_at X ms ?_) | wp_step)
    exact hq
  · cases hcd
end
section
variable {prog : Program} {w : World} {A : Around} {E : Value → Shared → Prop} {s : Shared} {env : Env}
end
section
variable {X : Cx} {pins : List (Addr × Obj)} {σ : St} {H : Hp} {s : Shared} {k : Nat} {fa : Addr} {fd : FuncData} {ps : List Str} {sp : Sp}
end
/-- an exception's class out of the linked text -/
theorem own_K {K : PySem.W.Frag} {h : Heap} {mg : Str → Option Value} {x : Str} {C : Addr} {bmB : List Value} {newId : String} (X : K.In h) (hm : mg x = some (.ref C)) (q : excIn K C bmB newId = true) : OwnCls x C bmB newId mg h := by
  refine ⟨hm, ?_⟩
  unfold excIn at q
  split at q
  · rename_i dd cd sl ho
    split at q
    · rename_i C' bm k0 k1 k2 k3 n k5 e1 e2
      simp only [Bool.and_eq_true, beq_iff_eq, Bool.not_eq_true'] at q
      obtain ⟨⟨⟨⟨⟨z1, z2⟩, z3⟩, z4⟩, z5⟩, z6⟩ := q
      have hC := X _ _ ho
      obtain ⟨nm, bs, mro, ns, qn, hd, sn, sub, ab, col, del⟩ := cd
      simp only at e1 z3 z5 z6
      subst e1 z1 z2 z3
      obtain ⟨l⟩ := sl
      simp only at e2
      subst e2
      exact ⟨bm, ns, nm, qn, bs, hd, sn, sub, ab, col, dd, k0, k1, k2, k3, k5, _, hC, .of_isNs (isNs_of_in X z5), nsMap_none_of_in X z5 z6, tail_of_in X z4⟩
    · cases q
  · cases q
theorem ps_raiseK {X : Cx} {E : XK} {x : Str} {C : Addr} {B newId initId : String} {bm : List Value} {np cpos pos : Pos} {e₀ : Expr} {rest : List Expr} {t : TA} (R : Rs X E) (hc : X.calm = true) (hg : Gl X x) (hm : X.mg x = some (.ref C)) (hq : excIn X.K C bm newId = true) (FB : ExcBaseFacts B newId initId bm) (ha : PA X (e₀ :: rest) t)
    (he : starEach (e₀ :: rest) X.env = (false, eval e₀ X.env) :: starEach rest X.env := by rfl) (hp : (backTo cpos (starEach rest X.env)).any (·.1) = false := by rfl) (hd : (x == ("__debug__" : Str)) = false := by decide) :
    PS X (.Raise (some (.Call (.Name x np) (e₀ :: rest) [] cpos)) none pos) (tRaise E (.ref C) t) := fun pins s σ H D I h =>
  ps_raise R hc hg (own_K I.ok.mod.kin hm hq) FB ha he hp hd pins s σ H D I h
/-- a def that may raise, and its promise -/
structure CalE (P : Program) (w : World) (K : PySem.W.Frag) (mg : Str → Option Value) (base : Heap) (n : Nat) (x : Str) (ps : List Str) (sp : Sp) : Prop where
  ex : ∃ f fd, FnOk P w K mg base (CXE P w) n f fd ps sp ∧ Binds K fd ps [] ∧ PySem.W.keepIn K (.ref f) = true ∧ mg x = some (.ref f)
theorem Dfn.calE {P : Program} {w : World} {K : PySem.W.Frag} {mg : Str → Option Value} {base : Heap} {x : Str} {st : Stmt} {N ps : List Str} {k : Nat} {sp : Sp} (d : Dfn K mg x st ps) (S : FnScope N ps (defScope st)) (len : ∀ vs H Q E, sp vs H Q E → vs.length = ps.length)
    (hbody : ∀ (f : Addr) (cdv : Value) (A : Around) (outer : List Env) (s : Shared) (H : Hp) (vs : List V) (Q : VK) (E : XK), Room k (A.deeper (envOfC x (defScope st) s.heap.objs.size f cdv)) → sp vs H Q E → Rs (cxOf (CXE P w) P w K mg base N x (defScope st) f cdv A outer s H E) E →
      ∃ t, PSs (cxOf (CXE P w) P w K mg base N x (defScope st) f cdv A outer s H E) (defBody st) t ∧ t { nx := fun _ H' => Q .non H', rt := Q } (start N vs) H) : CalE P w K mg base (k + 1) x ps sp := by
  obtain ⟨f, fd, F, b, m⟩ := d.ex
  exact ⟨f, fd, F.okE S len (hbody f), b, F.kp, m⟩
/-- a statement that raises nothing -/
theorem PS.nox {X : Cx} {st : Stmt} {t : TS} (h : PS X.nox st t) : PS X st t := fun pins s σ H D I hw =>
  wpAny_mono (h pins s σ H D (I.wish _) hw) (fun _ _ q => q.unwish) fun _ _ z => False.elim z
end L2

set_option Elab.async false
set_option linter.all false
set_option maxRecDepth 100000
/-! try: f(..) except C: suite, without a name; a callee's exceptions that go on -/
namespace L2
open PySem PySem.Spec PyProof.Rows PySem.W PySem.Calls
section
variable {prog : Program} {w : World} {A : Around} {E : Value → Shared → Prop} {s : Shared} {env : Env}
theorem handle_no {K : PySem.W.Frag} {a C S : Addr} {t : Expr} {b₀ : Stmt} {suite : List Stmt} {pos : Pos} {rest : List ExceptHandler} {Q : Flow → Shared → Prop} (k : KSup K S) (ms : mroIn K C (.ref S) = some true)
    (h : wpAny (model prog w) (A.mark (some (.ref a))) (eval t env) (fun c s₁ => c = .ref S ∧ K.In s₁.heap ∧ (∃ oe, s₁.heap.get? a = some oe ∧ oe.cls = .ref C) ∧
      wpAny (model prog w) (A.mark (some (.ref a))) (setFlight (.ref a) none) (fun _ s₂ => wpAny (model prog w) (A.mark (some (.ref a))) (execs (b₀ :: suite) env) Q (fun _ _ => False) s₂) (fun _ _ => False) s₁) (fun _ _ => False) s) :
    wpAny (model prog w) A (handleBy (.ref a) env (.ExceptHandler (some t) none (b₀ :: suite) pos :: rest)) Q E s := by
  refine wpAny_handleBy_cons (codeAny_handlers_test (wpAny_mono h (fun c s₁ h₁ => ?_) fun _ _ y => False.elim y)) (by intro q; cases q)
  obtain ⟨rfl, KI, ⟨oe, he, hcls⟩, hk⟩ := h₁
  obtain ⟨hh, g, d, tk, os⟩ := s₁
  refine excMatches_K KI k he hcls ms (codeAny_handlers_suite ?_)
  exact wpAny_mono hk (fun _ s₂ h₂ => wpAny_mono h₂ (fun _ _ y => y) fun _ _ y => False.elim y) fun _ _ y => False.elim y
end
section
variable {X : Cx} {pins : List (Addr × Obj)} {σ : St} {H : Hp} {s : Shared} {k : Nat} {fa : Addr} {fd : FuncData} {ps : List Str} {sp : Sp}
/-- try: f(..) except C: suite -/
def tTryN (K : PySem.W.Frag) (S : Addr) (sp : Sp) (t : TA) (ts : TS) : TS := fun D σ H => t σ H fun vs H1 => sp vs H1 (fun v H2 => D.nx σ H2) fun cls oa H2 => ∀ a, oa = some a → ∃ C, cls = .ref C ∧ mroIn K C (.ref S) = some true ∧
  ∀ H3, Same H2 H3 → ts { nx := D.nx, rt := fun _ _ => False } σ H3
theorem ps_tryN {f c : Str} {S : Addr} {e : Expr} {es : List Expr} {t : TA} {ts : TS} {np cpos apos cp hpos pos : Pos} {b₀ : Stmt} {suite : List Stmt} (F : FnOk X.prog X.w X.K X.mg X.base (CXE X.prog X.w) k fa fd ps sp) (hr : Room k X.A) (hg : Gl X f) (hm : X.mg f = some (.ref fa))
    (hkp : PySem.W.keepIn X.K (.ref fa) = true) (hb : Binds X.K fd ps []) (ha : PA X.nox (e :: es) t) (hgS : Gl X c) (hmS : X.mg c = some (.ref S)) (kS : KSup X.K S)
    (hx : X.ex = []) (hst : X.stack = X.env :: X.outer) (hfr : X.env.frame = some X.env.locals) (hN : X.N.Nodup) (hsu : ∀ a, PSs (X.held a) (b₀ :: suite) ts)
    (hs : swapsWith (.Call (.Name f np) (e :: es) [] cpos) none apos.line X.env = pure false := by rfl) (hdb : (f == ("__debug__" : Str)) = false := by decide)
    (hdc : (c == ("__debug__" : Str)) = false := by decide) (he : starEach (e :: es) X.env = (false, eval e X.env) :: starEach es X.env := by rfl) (hpl : (backTo cpos (starEach es X.env)).any (·.1) = false := by rfl) :
    PS X (.Try [.Expr (.Call (.Name f np) (e :: es) [] cpos) apos] [.ExceptHandler (some (.Name c cp)) none (b₀ :: suite) hpos] [] [] pos) (tTryN X.K S sp t ts) := by
  intro pins s σ H D I h
  refine wpAny_Try_except (wpAny_execs_cons (wpAny_Expr_any (wpAny_mono (ex_call F hr hg hm hkp hb ha I h (Xe := _) (fun H1 s1 ev s' I1 cx => ?_) hdb he hpl) (fun v s1 ⟨y, H1, I1, r1, q1⟩ => ?_) fun _ _ z => z) I.quiet hs))
  · -- an exception
    obtain ⟨a, cls, H2, rfl, os, bare, un, hok, ⟨oe, vs, T, oT, tts, t1, t2, t3, t4, t6, t7, t8, t9, n1, n2, h1, h2⟩, ee⟩ := cx
    obtain ⟨C, rfl, ms, ht⟩ := ee a rfl
    have I2 : Inv X pins σ H2 s' := I1.call' (ch := []) os un hok bare fun b z => nomatch z
    have nex : ∀ b, b ∉ X.ex := fun b z => by rw [hx] at z; cases z
    have s0 : ∀ b, s1.heap.get? b = none → X.s₀.heap.get? b = none := fun b z => by
      cases q : X.s₀.heap.get? b with
      | none => rfl
      | some o =>
        obtain ⟨o', e'⟩ := I1.base.there b o q (nex b)
        rw [z] at e'; cases e'
    have pn : ∀ b, s1.heap.get? b = none → ∀ p ∈ X.pn ++ pins, p.1 ≠ b := fun b z p hp q => by
      have := (I1.pin p hp).1
      rw [q, z] at this; cases this
    have I3 := I2.adopt (o := excO a (.ref C)) h1 (s0 a n1) t1 t3 (pn a n1) (exc_ok ⟨oe, vs, t1, t2, t3⟩)
    have h2' : upd H2 a (excO a (.ref C)) T = none := by rw [upd_ne t6]; exact h2
    have I4 := I3.adopt (o := tbO T) h2' (s0 T n2) t7 t8 (pn T n2) (tb_ok ⟨oT, tts, t7, t8⟩)
    refine note_all (base := X.base) (outer := X.outer) (L := X.env.locals) (T := T) (by rw [← hst]; exact I.ok.frames) (by rw [← hst]; exact I2.stack) hfr t1 t3 t4 t6 t7 t8 t9 fun h'' kk sl tb ⟨oe', vs', T2, oT2, ts2, u1, u2, u3, u4, u5, u6, u7, u8, u9⟩ => ?_
    rw [← hst] at kk sl
    have ea4 : upd (upd H2 a (excO a (.ref C))) T (tbO T) a = some (excO a (.ref C)) := by rw [upd_ne (Ne.symm t6), upd_same]
    have I5 := I4.touch (L := [a, T]) (t' := s'.toks) (h' := h'') (fun b o b1 b2 q => kk b o b1 (fun z => b2 (by simp [z])) (fun z => b2 (by simp [z])) q) sl fun b hb => by
      simp only [List.mem_cons, List.not_mem_nil, or_false] at hb
      rcases hb with rfl | rfl
      · exact ⟨_, ea4, ⟨oe', vs', u1, u2.trans t2, u3⟩, _, u1⟩
      · obtain ⟨o, w, e1, e2⟩ := id tb
        exact ⟨_, upd_same, tb, o, e1⟩
    have T2n : s1.heap.get? T2 = none := by
      cases q : s1.heap.get? T2 with
      | none => rfl
      | some o =>
        obtain ⟨o', e'⟩ := un.there T2 o q (fun z => nomatch z)
        rw [u9] at e'; cases e'
    have T2T : T2 ≠ T := fun z => by rw [z, t7] at u9; cases u9
    have HT2 : upd (upd H2 a (excO a (.ref C))) T (tbO T) T2 = none := by
      rw [upd_ne T2T, upd_ne u5]
      cases q : H2 T2 with
      | none => rfl
      | some o =>
        obtain ⟨o', e'⟩ := objok_there (hok T2 o q)
        rw [u9] at e'; cases e'
    have I6 := I5.adopt (o := tbO T2) HT2 (s0 T2 T2n) u6 u7 (pn T2 T2n) (tb_ok ⟨oT2, ts2, u6, u7⟩)
    generalize eH : upd (upd (upd H2 a (excO a (.ref C))) T (tbO T)) T2 (tbO T2) = H3 at I6
    have g3 : Same H2 H3 := by rw [← eH]; exact (same_upd h1 _).trans ((same_upd h2' _).trans (same_upd HT2 _))
    have ea3 : H3 a = some (excO a (.ref C)) := by rw [← eH, upd_ne (Ne.symm u5)]; exact ea4
    have eT3 : H3 T2 = some (tbO T2) := by rw [← eH]; exact upd_same
    refine handle_no kS ms (ld_glob (X := X.held a) (I6.held (a := a)) hgS hmS ⟨rfl, I6.kIn, ⟨oe', u1, u2.trans t2⟩, ?_⟩ hdc)
    refine flight_ok I6 u1 u3 u4 u6 u7 (Array.getElem?_eq_some_iff.mp u8).1 eT3 fun h7 I7 => ?_
    refine wpAny_mono (hsu a pins _ _ H3 _ (I7.held (a := a)) (ht H3 g3)) (fun fl s9 hp => ?_) fun _ _ z => False.elim z
    cases fl with
    | next =>
      obtain ⟨σ9, H9, I9, q9⟩ := hp
      exact ⟨_, H9, I9.unheld I.ok, q9⟩
    | brk => obtain ⟨_, _, _, z⟩ := hp; exact False.elim z
    | cont => obtain ⟨_, _, _, z⟩ := hp; exact False.elim z
    | ret u => obtain ⟨_, _, _, _, _, z⟩ := hp; exact False.elim z
  · exact wpAny_execs_nil (wpAny_execs_nil ⟨_, H1, I1, q1⟩)
end
theorem ps_tryNC {X : Cx} {k m : Nat} {f c : Str} {S : Addr} {ps : List Str} {sp : Sp} {e : Expr} {es : List Expr} {t : TA} {ts : TS} {np cpos apos cp hpos pos : Pos} {b₀ : Stmt} {suite : List Stmt} (C : CalE X.prog X.w X.K X.mg X.base m f ps sp) (hr : Room k X.A) (hle : m ≤ k) (hg : Gl X f)
    (ha : PA X.nox (e :: es) t) (hgS : Gl X c) (hmS : X.mg c = some (.ref S)) (kS : KSup X.K S) (hx : X.ex = []) (hst : X.stack = X.env :: X.outer) (hfr : X.env.frame = some X.env.locals) (hN : X.N.Nodup) (hsu : ∀ a, PSs (X.held a) (b₀ :: suite) ts)
    (hs : swapsWith (.Call (.Name f np) (e :: es) [] cpos) none apos.line X.env = pure false := by rfl) (hdb : (f == ("__debug__" : Str)) = false := by decide)
    (hdc : (c == ("__debug__" : Str)) = false := by decide) (h1 : notStar e = true := by rfl) (h2 : es.all notStar = true := by rfl) :
    PS X (.Try [.Expr (.Call (.Name f np) (e :: es) [] cpos) apos] [.ExceptHandler (some (.Name c cp)) none (b₀ :: suite) hpos] [] [] pos) (tTryN X.K S sp t ts) := by
  obtain ⟨fa, fd, F, b, kp, mm⟩ := C.ex
  exact ps_tryN F (hr.mono hle) hg mm kp b ha hgS hmS kS hx hst hfr hN hsu hs hdb hdc (star_cons h1) (star_any h2)
/-- a call of a def that may raise, its exceptions this body's -/
theorem pe_callE {X : Cx} {E : XK} {n k : Nat} {x : Str} {ps : List Str} {sp : Sp} {p pos : Pos} {e : Expr} {es : List Expr} {t : TA} (R : Rs X E) (C : CalE X.prog X.w X.K X.mg X.base n x ps sp) (hr : Room k X.A) (hle : n ≤ k) (hg : Gl X x) (ha : PA X (e :: es) t) (hdb : (x == ("__debug__" : Str)) = false := by decide)
    (h1 : notStar e = true := by rfl) (h2 : es.all notStar = true := by rfl) : PE X (.Call (.Name x p) (e :: es) [] pos) (tCall sp [] E t) := by
  obtain ⟨f, fd, F, b, kp, m⟩ := C.ex
  exact pe_call F (hr.mono hle) hg m kp b .nil (R.passes fun _ _ _ h => h) ha hdb (star_cons h1) (star_any h2)
theorem passE0 {X : Cx} : Passes (CXE X.prog X.w) X E0 := fun pins σ H s e s' I c => by
  obtain ⟨a, cls, H2, rfl, os, bare, un, hok, _, ee⟩ := c
  exact False.elim ee
/-- a call of a def that may raise, and here does not -/
theorem pe_callEn {X : Cx} {n k : Nat} {x : Str} {ps : List Str} {sp : Sp} {p pos : Pos} {e : Expr} {es : List Expr} {t : TA} (C : CalE X.prog X.w X.K X.mg X.base n x ps sp) (hr : Room k X.A) (hle : n ≤ k) (hg : Gl X x) (ha : PA X (e :: es) t) (hdb : (x == ("__debug__" : Str)) = false := by decide)
    (h1 : notStar e = true := by rfl) (h2 : es.all notStar = true := by rfl) : PE X (.Call (.Name x p) (e :: es) [] pos) (tCall sp [] E0 t) := by
  obtain ⟨f, fd, F, b, kp, m⟩ := C.ex
  exact pe_call F (hr.mono hle) hg m kp b .nil passE0 ha hdb (star_cons h1) (star_any h2)
end L2

set_option Elab.async false
set_option linter.all false
set_option maxRecDepth 100000
/-! NAMES AND FRAMES: what they are, and the promises of the defs that tell it -/
namespace SS
open PySem PySem.Spec PyProof.Rows L2
def SMALL : Str := "abcdefghijklmnopqrstuvwxyz"
def GREAT : Str := "ABCDEFGHIJKLMNOPQRSTUVWXYZ"
def FIGS : Str := "0123456789"
/-! ### the mirror -/
def signIn (c : Nat) (z : Str) : Bool := !(Builtin.Str.occurrences z ⟨#[c]⟩ 0 z.length 1).isEmpty
def nameB (z letters : Str) : Bool := match z.cps.toList with
  | [] => false
  | c :: r => decide (r.length ≤ 3) && signIn c letters && r.all fun d => signIn d FIGS
def isNm (x : V) (letters : Str) : Bool := match x with
  | .str z => nameB z letters
  | _ => false
/-! ### the promises -/
/-- what a drawn name is -/
structure Nam (z letters : Str) : Prop where
  ex : ∃ d ds, z.cps.toList = d :: ds ∧ d ∈ letters.cps.toList ∧ ds.length ≤ 3 ∧ ∀ x ∈ ds, x ∈ FIGS.cps.toList
theorem sign_in (c : Nat) (z : Str) : signIn c z = decide (c ∈ z.cps.toList) := PySem.StrLaws.found_one z c
/-- a thing of a plain kind, no great text -/
def Thing (H : Hp) (y : V) : Prop := (∃ k, Kd H y k) ∧ ∀ z, y = .str z → z.length ≤ 1000
theorem Thing.same {H H' : Hp} {y : V} (h : Thing H y) (g : Same H H') : Thing H' y := ⟨let ⟨k, q⟩ := h.1; ⟨k, q.same g⟩, h.2⟩
theorem Thing.str {H : Hp} {z : Str} (h : z.length ≤ 1000) : Thing H (.str z) := ⟨⟨_, .str z⟩, fun z' e => by cases e; exact h⟩
theorem Thing.non {H : Hp} : Thing H .non := ⟨⟨_, .non⟩, fun z' e => by cases e⟩
theorem Thing.int {H : Hp} (i : Int) : Thing H (.int i) := ⟨⟨_, .int i⟩, fun z' e => by cases e⟩
theorem Thing.bl {H : Hp} (b : Bool) : Thing H (.bl b) := ⟨⟨_, .bl b⟩, fun z' e => by cases e⟩
theorem Thing.lst {H : Hp} {a : Addr} {xs : List V} (e : H a = some (.lst xs)) : Thing H (.ref a) := ⟨⟨_, .lst e⟩, fun z' e => by cases e⟩
theorem Thing.tup {H : Hp} {a : Addr} {xs : List V} (e : H a = some (.tup xs)) : Thing H (.ref a) := ⟨⟨_, .tup e⟩, fun z' e => by cases e⟩
theorem Thing.dK {H : Hp} {a : Addr} {xs : List (Key × V)} (e : H a = some (.dK xs)) : Thing H (.ref a) := ⟨⟨_, .dK e⟩, fun z' e => by cases e⟩
def isName (x : V) : Bool := isNm x SMALL || isNm x GREAT
/-- a list of things -/
def Things (H : Hp) (xs : List V) : Prop := xs.length ≤ 1000 ∧ ∀ y ∈ xs, Thing H y
theorem Things.same {H H' : Hp} {xs : List V} (h : Things H xs) (g : Same H H') : Things H' xs := ⟨h.1, fun y hy => (h.2 y hy).same g⟩
end SS

set_option Elab.async false
set_option linter.all false
set_option maxRecDepth 100000
/-! what the laws' own defs promise -/
namespace SS
open PySem PySem.Spec PyProof.Rows L2
def sp_cell (K : PySem.W.Frag) : Sp := fun vs H Q _ => ∃ (a : Addr) (ns : List Int) (k : Int), vs = [.ref a, .int k] ∧ SqL K H a (ns.map V.int) ∧ 0 ≤ k ∧ ∀ c, Q (.int c) H
def sp_lawF (K : PySem.W.Frag) : Sp := fun vs H Q _ => ∃ (a : Addr) (ns : List Int), vs = [.ref a] ∧ SqL K H a (ns.map V.int) ∧ ns.length ≤ 63 ∧ ∀ H', Q (.bl true) H'
theorem mem_cut {α : Type} {xs : List α} {lo hi : Option Int} {y : α} (h : y ∈ cutL xs lo hi) : y ∈ xs := List.mem_of_mem_drop (List.mem_of_mem_take h)
theorem Things.cut {H : Hp} {xs : List V} {lo hi : Option Int} (h : Things H xs) : Things H (cutL xs lo hi) := ⟨Nat.le_trans (cutL_len xs lo hi) h.1, fun y hy => h.2 y (mem_cut hy)⟩
end SS
namespace SS
open PySem PySem.Spec PyProof.Rows L2
theorem cutL_map {α β : Type} (f : α → β) (xs : List α) (lo hi : Option Int) : cutL (xs.map f) lo hi = (cutL xs lo hi).map f := by
  unfold cutL
  rw [List.length_map, List.map_take, List.map_drop]
theorem Things.app {H : Hp} {xs ys : List V} (h1 : Things H xs) (h2 : Things H ys) (l : xs.length + ys.length ≤ 1000) : Things H (xs ++ ys) := ⟨by rw [List.length_append]; exact l, fun y hy => (List.mem_append.mp hy).elim (h1.2 y) (h2.2 y)⟩
theorem Things.one {H : Hp} {y : V} (h : Thing H y) : Things H [y] := ⟨by show 1 ≤ 1000; decide, fun z hz => by rw [List.mem_singleton.mp hz]; exact h⟩
theorem Things.nil {H : Hp} : Things H [] := ⟨Nat.zero_le _, fun _ h => nomatch h⟩
end SS

set_option Elab.async false
set_option linter.all false
set_option maxRecDepth 100000
/-! SAYINGS: what they are, how the heap bears them -/
namespace SS
open PySem PySem.Spec PyProof.Rows L2
inductive Sy where
  | bare (w n m : Str)
  | neg (s : Sy)
  | two (w : Str) (s t : Sy)
  | qu (w n : Str) (s : Sy)
def bareWords : List Str := ["in", "same", "within", "ahead", "next", "left", "right", "above"]
def Sy.depth : Sy → Nat
  | .bare _ _ _ => 1
  | .neg s => s.depth + 1
  | .two _ s t => max s.depth t.depth + 1
  | .qu _ _ s => s.depth + 1
def Sy.parts : Sy → Nat
  | .bare _ _ _ => 1
  | .neg s => s.parts + 1
  | .two _ s t => s.parts + t.parts + 1
  | .qu _ _ s => s.parts + 1
/-- the saying as the heap bears it -/
inductive Rep (H : Hp) : V → Sy → Prop where
  | bare {a : Addr} {w n m : Str} (hw : w ∈ bareWords) (e : H a = some (.tup [.str w, .str n, .str m])) : Rep H (.ref a) (.bare w n m)
  | neg {a : Addr} {x : V} {s : Sy} (e : H a = some (.tup [.str "not", x])) (h : Rep H x s) : Rep H (.ref a) (.neg s)
  | two {a : Addr} {w : Str} {x y : V} {s t : Sy} (hw : w ∈ (["and", "or"] : List Str)) (e : H a = some (.tup [.str w, x, y])) (h1 : Rep H x s) (h2 : Rep H y t) : Rep H (.ref a) (.two w s t)
  | qu {a : Addr} {w n : Str} {x : V} {s : Sy} (hw : w ∈ (["some", "all"] : List Str)) (e : H a = some (.tup [.str w, .str n, x])) (h : Rep H x s) : Rep H (.ref a) (.qu w n s)
theorem Rep.same {H H' : Hp} {v : V} {s : Sy} (r : Rep H v s) (g : Same H H') : Rep H' v s := by
  induction r with
  | bare hw e => exact .bare hw (g _ _ e)
  | neg e _ ih => exact .neg (g _ _ e) ih
  | two hw e _ _ ih1 ih2 => exact .two hw (g _ _ e) ih1 ih2
  | qu hw e _ ih => exact .qu hw (g _ _ e) ih
theorem Rep.tup {H : Hp} {v : V} {s : Sy} (r : Rep H v s) : ∃ a xs, v = .ref a ∧ H a = some (.tup xs) := by
  cases r with
  | bare hw e => exact ⟨_, _, rfl, e⟩
  | neg e _ => exact ⟨_, _, rfl, e⟩
  | two hw e _ _ => exact ⟨_, _, rfl, e⟩
  | qu hw e _ => exact ⟨_, _, rfl, e⟩
/-! ### words -/
/-! ### names that nothing tells -/
/-- each once -/
def addAll : List Str → List Str → List Str
  | f, [] => f
  | f, x :: r => addAll (if x ∈ f then f else f ++ [x]) r
def once (xs : List Str) : List Str := addAll [] xs
end SS

set_option Elab.async false
set_option linter.all false
set_option maxRecDepth 100000
/-! the promises of the defs about sayings -/
namespace SS
open PySem PySem.Spec PyProof.Rows L2
def isT (H : Hp) (x : V) : Bool := match x with
  | .ref a => match H a with
    | some (.tup _) => true
    | _ => false
  | _ => false
theorem Kd.isT {H : Hp} {x : V} {k : String} (h : Kd H x k) : subT k "tuple" = isT H x := by
  cases h with
  | lst e => simp only [SS.isT, e]; decide
  | tup e => simp only [SS.isT, e]; decide
  | dK e => simp only [SS.isT, e]; decide
  | _ => rfl
def Sy.inner : Sy → List Sy
  | .bare _ _ _ => []
  | .neg s => [s]
  | .two _ s t => [s, t]
  | .qu _ _ s => [s]
theorem Rep.kd {H : Hp} {v : V} {s : Sy} (r : Rep H v s) : Kd H v "tuple" := by
  obtain ⟨a, xs, rfl, e⟩ := r.tup
  exact .tup e
theorem Rep.isT {H : Hp} {v : V} {s : Sy} (r : Rep H v s) : isT H v = true := by
  obtain ⟨a, xs, rfl, e⟩ := r.tup
  simp only [SS.isT, e]
/-- a saying's tuple, and its sayings among the items -/
theorem Rep.items {H : Hp} {v : V} {s : Sy} (r : Rep H v s) : ∃ a xs, v = .ref a ∧ H a = some (.tup xs) ∧ xs.length ≤ 3 ∧ (∀ y ∈ xs, ∃ k, Kd H y k) ∧ Paired (Rep H) (xs.filter (SS.isT H)) s.inner := by
  cases r with
  | bare hw e =>
    refine ⟨_, _, rfl, e, Nat.le_refl _, fun y hy => ?_, .nil⟩
    simp only [List.mem_cons, List.not_mem_nil, or_false] at hy
    rcases hy with rfl | rfl | rfl <;> exact ⟨_, .str _⟩
  | neg e h =>
    refine ⟨_, _, rfl, e, by simp, fun y hy => ?_, ?_⟩
    · simp only [List.mem_cons, List.not_mem_nil, or_false] at hy
      rcases hy with rfl | rfl
      · exact ⟨_, .str _⟩
      · exact ⟨_, h.kd⟩
    · rw [List.filter_cons_of_neg (by simp [SS.isT]), List.filter_cons_of_pos h.isT]
      exact .cons h .nil
  | two hw e h1 h2 =>
    refine ⟨_, _, rfl, e, by simp, fun y hy => ?_, ?_⟩
    · simp only [List.mem_cons, List.not_mem_nil, or_false] at hy
      rcases hy with rfl | rfl | rfl
      · exact ⟨_, .str _⟩
      · exact ⟨_, h1.kd⟩
      · exact ⟨_, h2.kd⟩
    · rw [List.filter_cons_of_neg (by simp [SS.isT]), List.filter_cons_of_pos h1.isT, List.filter_cons_of_pos h2.isT]
      exact .cons h1 (.cons h2 .nil)
  | qu hw e h =>
    refine ⟨_, _, rfl, e, by simp, fun y hy => ?_, ?_⟩
    · simp only [List.mem_cons, List.not_mem_nil, or_false] at hy
      rcases hy with rfl | rfl | rfl
      · exact ⟨_, .str _⟩
      · exact ⟨_, .str _⟩
      · exact ⟨_, h.kd⟩
    · rw [List.filter_cons_of_neg (by simp [SS.isT]), List.filter_cons_of_neg (by simp [SS.isT]), List.filter_cons_of_pos h.isT]
      exact .cons h .nil
end SS
namespace SS
open PySem PySem.Spec PyProof.Rows L2
theorem Paired.at {α β : Type} {R : α → β → Prop} : ∀ {xs : List α} {ys : List β} {i : Nat} {x : α}, Paired R xs ys → xs[i]? = some x → ∃ y, ys[i]? = some y ∧ R x y
  | _, _, _, _, .nil, h => by simp at h
  | _, _, 0, _, .cons h _, e => by simp at e; subst e; exact ⟨_, rfl, h⟩
  | _, _, i + 1, _, .cons _ h, e => by simp only [List.getElem?_cons_succ] at e ⊢; exact Paired.at h e
theorem Paired.len {α β : Type} {R : α → β → Prop} : ∀ {xs : List α} {ys : List β}, Paired R xs ys → xs.length = ys.length
  | _, _, .nil => rfl
  | _, _, .cons _ h => by rw [List.length_cons, List.length_cons, Paired.len h]
end SS
namespace SS
open PySem PySem.Spec PyProof.Rows L2
end SS

set_option Elab.async false
set_option linter.all false
set_option maxRecDepth 100000
/-! drawn sayings: what the laws' own drawing promises -/
namespace SS
open PySem PySem.Spec PyProof.Rows L2
def isPl (z : Str) : Bool := isNm (.str z) SMALL
def isSt (z : Str) : Bool := isNm (.str z) GREAT
theorem nm_ex {z l : Str} (h : isNm (.str z) l = true) : ∃ c r, z.cps.toList = c :: r ∧ r.length ≤ 3 ∧ c ∈ l.cps.toList ∧ ∀ d ∈ r, d ∈ FIGS.cps.toList := by
  simp only [isNm, nameB] at h
  split at h
  · cases h
  · rename_i c r e
    rw [Bool.and_eq_true, Bool.and_eq_true, sign_in, decide_eq_true_eq, decide_eq_true_eq, List.all_eq_true] at h
    exact ⟨c, r, e, h.1.1, h.1.2, fun d hd => by have := h.2 d hd; rw [sign_in, decide_eq_true_eq] at this; exact this⟩
theorem name_cases {z : Str} (h : isName (.str z) = true) : isPl z = true ∨ isSt z = true := by
  unfold isName at h
  rw [Bool.or_eq_true] at h
  exact h
/-- a list of names, each once -/
structure Names (tl : List Str) : Prop where
  nd : tl.Nodup
  nm : ∀ z ∈ tl, isName (.str z) = true
  len : ∀ z ∈ tl, z.length ≤ 4
theorem Names.nil : Names [] := ⟨List.nodup_nil, fun _ h => (nomatch h), fun _ h => (nomatch h)⟩
theorem Names.snoc {tl : List Str} {z : Str} (h : Names tl) (h1 : isName (.str z) = true) (h2 : z.length ≤ 4) (h3 : z ∉ tl) : Names (tl ++ [z]) := by
  refine ⟨nd_snoc h.nd h3, fun y hy => ?_, fun y hy => ?_⟩
  · rcases List.mem_append.mp hy with hy | hy
    · exact h.nm y hy
    · rw [List.mem_singleton.mp hy]; exact h1
  · rcases List.mem_append.mp hy with hy | hy
    · exact h.len y hy
    · rw [List.mem_singleton.mp hy]; exact h2
end SS
namespace SS
open PySem PySem.Spec PyProof.Rows L2
end SS
namespace SS
open PySem PySem.Spec PyProof.Rows L2
end SS
namespace SS
open PySem PySem.Spec PyProof.Rows L2
end SS

set_option Elab.async false
set_option linter.all false
set_option maxRecDepth 100000
/-! what has the form of a saying; which sayings are let -/
namespace SS
open PySem PySem.Spec PyProof.Rows L2
def forms : List (Str × List Str) := [("in", ["place", "set"]), ("same", ["place", "place"]), ("within", ["set", "set"]), ("ahead", ["place", "place"]), ("next", ["place", "place"]), ("left", ["place", "place"]), ("right", ["place", "place"]), ("above", ["place", "place"]),
  ("not", ["saying"]), ("and", ["saying", "saying"]), ("or", ["saying", "saying"]), ("some", ["name", "saying"]), ("all", ["name", "saying"])]
/-- what may be looked into, so deep -/
def Exp (H : Hp) : Nat → V → Prop
  | 0, v => Thing H v
  | n + 1, v => Thing H v ∧ ∀ a xs, v = .ref a → H a = some (.tup xs) → xs.length ≤ 1000 ∧ ∀ x ∈ xs, Exp H n x
theorem Exp.thing {H : Hp} : ∀ {n : Nat} {v : V}, Exp H n v → Thing H v
  | 0, _, h => h
  | _ + 1, _, h => h.1
theorem Thing.same_tup {H H' : Hp} {a : Addr} {xs : List V} (h : Thing H (.ref a)) (g : Same H H') (e : H' a = some (.tup xs)) : H a = some (.tup xs) := by
  obtain ⟨⟨k, hk⟩, _⟩ := h
  cases hk with
  | lst z => rw [g _ _ z] at e; cases e
  | tup z => rw [g _ _ z] at e; cases e; exact z
  | dK z => rw [g _ _ z] at e; cases e
theorem Exp.same {H H' : Hp} (g : Same H H') : ∀ {n : Nat} {v : V}, Exp H n v → Exp H' n v
  | 0, _, h => Thing.same h g
  | n + 1, v, h => ⟨h.1.same g, fun a xs ev e => by
    subst ev
    obtain ⟨h1, h2⟩ := h.2 a xs rfl (h.1.same_tup g e)
    exact ⟨h1, fun x hx => (h2 x hx).same g⟩⟩
theorem Exp.mono {H : Hp} : ∀ {n : Nat} {v : V}, Exp H (n + 1) v → Exp H n v
  | 0, _, h => h.1
  | n + 1, v, h => ⟨h.1, fun a xs ev e => ⟨(h.2 a xs ev e).1, fun x hx => ((h.2 a xs ev e).2 x hx).mono⟩⟩
/-! ### sayings of the right sorts -/
def wfB : Sy → Bool
  | .bare w n m => if w = "in" then isPl n && isSt m else if w = "within" then isSt n && isSt m else isPl n && isPl m
  | .neg s => wfB s
  | .two _ s t => wfB s && wfB t
  | .qu _ n s => isName (.str n) && wfB s
def letB (barred : List Str) (most : Nat) : List Str → Sy → Bool
  | known, .bare w n m => decide (known.length ≤ most) && decide (w ∉ barred) && (decide (n ∈ known) && decide (m ∈ known))
  | known, .neg s => decide (known.length ≤ most) && decide (("not" : Str) ∉ barred) && letB barred most known s
  | known, .two w s t => decide (known.length ≤ most) && decide (w ∉ barred) && (letB barred most known s && letB barred most known t)
  | known, .qu w n s => decide (known.length ≤ most) && decide (w ∉ barred) && (decide (n ∉ known) && letB barred most (known ++ [n]) s)
end SS

set_option Elab.async false
set_option linter.all false
set_option maxRecDepth 100000
set_option maxHeartbeats 1000000
namespace SS
open PySem PySem.Spec PyProof.Rows L2
section
variable {f : V → Bool} {x y : V} {r : List V} {s1 s2 : Str}
end
end SS
namespace SS
open PySem PySem.Spec PyProof.Rows L2
/-- the written table of forms -/
structure Forms (K : PySem.W.Frag) (w : World) (fa : Addr) : Prop where
  ex : ∃ f, DctK K w fa f ∧ ∀ x, (∃ ss b, forms.lookup x = some ss ∧ f x = some (.ref b) ∧ ∀ H, SqT K H b (List.map V.str ss)) ∨ (forms.lookup x = none ∧ f x = none)
end SS
namespace SS
open PySem PySem.Spec PyProof.Rows L2
def wordOf : Sy → Str
  | .bare w _ _ => w
  | .neg _ => "not"
  | .two w _ _ => w
  | .qu w _ _ => w
end SS
namespace SS
open PySem PySem.Spec PyProof.Rows L2
end SS
namespace SS
open L2
end SS

set_option Elab.async false
set_option linter.all false
set_option maxRecDepth 100000
set_option maxHeartbeats 1000000
/-! written things: what they are as sayings -/
namespace SS
open PySem PySem.Spec PyProof.Rows L2
/-- a written thing; a tuple as the chain of its items -/
inductive Lit where
  | str (z : Str)
  | oth
  | tnil
  | tcons (x r : Lit)
  deriving DecidableEq
/-- neither a text nor a tuple -/
def Oth (H : Hp) (v : V) : Prop := ∃ k, Kd H v k ∧ k ≠ "str" ∧ k ≠ "tuple"
/-- the heap bears the thing -/
def LitAt (H : Hp) : Lit → V → Prop
  | .str z, v => v = .str z ∧ z.length ≤ 1000
  | .oth, v => Oth H v
  | .tnil, v => ∃ a, v = .ref a ∧ H a = some (.tup [])
  | .tcons x r, v => ∃ a y ys, v = .ref a ∧ H a = some (.tup (y :: ys)) ∧ ys.length ≤ 100 ∧ LitAt H x y ∧ Items H r ys
where Items (H : Hp) : Lit → List V → Prop
  | .tcons x r, ys => ∃ z zs, ys = z :: zs ∧ LitAt H x z ∧ Items H r zs
  | .tnil, ys => ys = []
  | _, _ => False
abbrev Items := LitAt.Items
end SS
namespace SS
open PySem PySem.Spec PyProof.Rows L2
theorem Oth.same {H H' : Hp} {v : V} (g : Same H H') (h : Oth H v) : Oth H' v := let ⟨k, z, r⟩ := h; ⟨k, z.same g, r⟩
mutual
theorem LitAt.same {H H' : Hp} (g : Same H H') : ∀ {l : Lit} {v : V}, LitAt H l v → LitAt H' l v
  | .str z, _, h => h
  | .oth, _, h => Oth.same g h
  | .tnil, _, ⟨a, e, h⟩ => ⟨a, e, g _ _ h⟩
  | .tcons x r, _, ⟨a, y, ys, e, h, hl, h1, h2⟩ => ⟨a, y, ys, e, g _ _ h, hl, LitAt.same g h1, Items.same g h2⟩
theorem Items.same {H H' : Hp} (g : Same H H') : ∀ {l : Lit} {ys : List V}, Items H l ys → Items H' l ys
  | .tcons x r, _, ⟨z, zs, e, h1, h2⟩ => ⟨z, zs, e, LitAt.same g h1, Items.same g h2⟩
  | .tnil, _, h => h
  | .str _, _, h => h
  | .oth, _, h => h
end
theorem LitAt.thing {H : Hp} : ∀ {l : Lit} {v : V}, LitAt H l v → Thing H v
  | .str z, _, ⟨e, h⟩ => by subst e; exact .str h
  | .oth, v, ⟨k, h, h1, _⟩ => ⟨⟨k, h⟩, fun z e => by subst e; cases h; exact absurd rfl h1⟩
  | .tnil, _, ⟨a, e, h⟩ => by subst e; exact .tup h
  | .tcons x r, _, ⟨a, y, ys, e, h, _, _, _⟩ => by subst e; exact .tup h
mutual
theorem LitAt.exp {H : Hp} : ∀ (n : Nat) {l : Lit} {v : V}, LitAt H l v → Exp H n v
  | 0, _, _, h => h.thing
  | n + 1, .str z, _, h => ⟨h.thing, fun a xs e _ => by rw [h.1] at e; cases e⟩
  | n + 1, .oth, v, h => ⟨h.thing, fun a xs e e' => by
    subst e
    obtain ⟨k, hk, _, h2⟩ := h
    exact absurd (hk.inj (.tup e')) h2⟩
  | n + 1, .tnil, _, h => ⟨h.thing, fun a xs e e' => by
    obtain ⟨a', e1, e2⟩ := h
    rw [e] at e1
    cases e1
    rw [e2] at e'
    cases e'
    exact ⟨Nat.zero_le _, fun x hx => nomatch hx⟩⟩
  | n + 1, .tcons x r, _, h => ⟨h.thing, fun a xs e e' => by
    obtain ⟨a', y, ys, e1, e2, hl, h1, h2⟩ := h
    rw [e] at e1
    cases e1
    rw [e2] at e'
    cases e'
    refine ⟨by rw [List.length_cons]; omega, fun x' hx => ?_⟩
    rcases List.mem_cons.mp hx with rfl | hx
    · exact LitAt.exp n h1
    · exact Items.exp n h2 x' hx⟩
theorem Items.exp {H : Hp} : ∀ (n : Nat) {l : Lit} {ys : List V}, Items H l ys → ∀ y ∈ ys, Exp H n y
  | n, .tcons x r, _, ⟨z, zs, e, h1, h2⟩, y, hy => by
    subst e
    rcases List.mem_cons.mp hy with rfl | hy
    · exact LitAt.exp n h1
    · exact Items.exp n h2 y hy
  | n, .tnil, _, h, y, hy => by rw [show _ = [] from h] at hy; exact nomatch hy
  | n, .str _, _, h, y, hy => False.elim h
  | n, .oth, _, h, y, hy => False.elim h
end
def toSy : Lit → Option Sy
  | .tcons (.str w) (.tcons x .tnil) => if w = "not" then (toSy x).map .neg else none
  | .tcons (.str w) (.tcons x (.tcons y .tnil)) => if w ∈ bareWords then (match x, y with
      | .str n, .str m => some (.bare w n m)
      | _, _ => none) else if w ∈ (["and", "or"] : List Str) then (match toSy x, toSy y with
      | some s, some t => some (.two w s t)
      | _, _ => none) else if w ∈ (["some", "all"] : List Str) then (match x with
      | .str n => (toSy y).map (.qu w n)
      | _ => none) else none
  | _ => none
theorem join_bare : ∀ w ∈ (["and", "or"] : List Str), w ∉ bareWords := by decide +kernel
theorem tell_bare : ∀ w ∈ (["some", "all"] : List Str), w ∉ bareWords ∧ w ∉ (["and", "or"] : List Str) := by decide +kernel
theorem LitAt.of_str {H : Hp} {l : Lit} {z : Str} (h : LitAt H l (.str z)) : l = .str z := by
  cases l with
  | str y => obtain ⟨e, _⟩ := h; cases e; rfl
  | oth => obtain ⟨k, hk, h1, _⟩ := h; cases hk; exact absurd rfl h1
  | tnil => obtain ⟨a, e, _⟩ := h; cases e
  | tcons x r => obtain ⟨a, y, ys, e, _⟩ := h; cases e
theorem LitAt.of_tup {H : Hp} {l : Lit} {a : Addr} {y : V} {ys : List V} (h : LitAt H l (.ref a)) (e : H a = some (.tup (y :: ys))) : ∃ x r, l = .tcons x r ∧ LitAt H x y ∧ Items H r ys := by
  cases l with
  | str z => obtain ⟨e', _⟩ := h; cases e'
  | oth => obtain ⟨k, hk, _, h2⟩ := h; exact absurd (hk.inj (.tup e)) h2
  | tnil => obtain ⟨a', e1, e2⟩ := h; cases e1; rw [e] at e2; cases e2
  | tcons x r =>
    obtain ⟨a', y', ys', e1, e2, _, h1, h2⟩ := h
    cases e1
    rw [e] at e2
    cases e2
    exact ⟨x, r, rfl, h1, h2⟩
theorem Items.cons {H : Hp} {l : Lit} {y : V} {ys : List V} (h : Items H l (y :: ys)) : ∃ x r, l = .tcons x r ∧ LitAt H x y ∧ Items H r ys := by
  cases l with
  | tcons x r => obtain ⟨z, zs, e, h1, h2⟩ := h; cases e; exact ⟨x, r, rfl, h1, h2⟩
  | tnil => have e : (y :: ys) = [] := h; cases e
  | str z => exact False.elim h
  | oth => exact False.elim h
theorem Items.nil' {H : Hp} {l : Lit} (h : Items H l []) : l = .tnil := by
  cases l with
  | tcons x r => obtain ⟨z, zs, e, _⟩ := h; cases e
  | tnil => rfl
  | str z => exact False.elim h
  | oth => exact False.elim h
/-- what it is as a saying -/
theorem lit_rep {H : Hp} {v : V} {s : Sy} (r : Rep H v s) : ∀ {l : Lit}, LitAt H l v → toSy l = some s := by
  induction r with
  | bare hw e =>
    intro l h
    obtain ⟨x, r, rfl, h1, h2⟩ := h.of_tup e
    obtain ⟨x2, r2, rfl, h3, h4⟩ := Items.cons h2
    obtain ⟨x3, r3, rfl, h5, h6⟩ := Items.cons h4
    rw [h1.of_str, h3.of_str, h5.of_str, Items.nil' h6]
    simp only [toSy]
    rw [if_pos hw]
  | neg e _ ih =>
    intro l h
    obtain ⟨x, r, rfl, h1, h2⟩ := h.of_tup e
    obtain ⟨x2, r2, rfl, h3, h4⟩ := Items.cons h2
    rw [h1.of_str, Items.nil' h4]
    simp only [toSy]
    rw [if_pos trivial, ih h3]
    rfl
  | two hw e _ _ ih1 ih2 =>
    intro l h
    obtain ⟨x, r, rfl, h1, h2⟩ := h.of_tup e
    obtain ⟨x2, r2, rfl, h3, h4⟩ := Items.cons h2
    obtain ⟨x3, r3, rfl, h5, h6⟩ := Items.cons h4
    rw [h1.of_str, Items.nil' h6]
    simp only [toSy]
    rw [if_neg (join_bare _ hw), if_pos hw, ih1 h3, ih2 h5]
  | qu hw e _ ih =>
    intro l h
    obtain ⟨x, r, rfl, h1, h2⟩ := h.of_tup e
    obtain ⟨x2, r2, rfl, h3, h4⟩ := Items.cons h2
    obtain ⟨x3, r3, rfl, h5, h6⟩ := Items.cons h4
    rw [h1.of_str, h3.of_str, Items.nil' h6]
    simp only [toSy]
    rw [if_neg (tell_bare _ hw).1, if_neg (tell_bare _ hw).2, if_pos hw, ih h5]
    rfl
/-- not let among these names -/
def Bad (H : Hp) (bw : List Str) (mo : Nat) (tl : List Str) (v : V) : Prop := ∀ s, Rep H v s → wfB s = true → letB bw mo tl s = false
def badL (bw : List Str) (mo : Nat) (tl : List Str) (l : Lit) : Bool := match toSy l with
  | none => true
  | some s => !wfB s || !letB bw mo tl s
theorem LitAt.bad {H : Hp} {l : Lit} {v : V} {bw : List Str} {mo : Nat} {tl : List Str} (h : LitAt H l v) (hb : badL bw mo tl l = true) : Bad H bw mo tl v := fun s r hw => by
  have e := lit_rep r h
  unfold badL at hb
  rw [e] at hb
  have hb' : (!wfB s || !letB bw mo tl s) = true := hb
  rw [hw] at hb'
  simpa using hb'
end SS

set_option Elab.async false
set_option linter.all false
set_option maxRecDepth 100000
set_option maxHeartbeats 1000000
/-! drawn sayings are let; what comes of names more or fewer, of nots round them -/
namespace SS
open PySem PySem.Spec PyProof.Rows L2
theorem nm_len {z l : Str} (h : isNm (.str z) l = true) : z.length ≤ 4 := by
  obtain ⟨c, r, e, hl, _⟩ := nm_ex h
  rw [str_len, e, List.length_cons]
  omega
theorem name_len {z : Str} (h : isName (.str z) = true) : z.length ≤ 4 := (name_cases h).elim nm_len nm_len
theorem words_short : ∀ w ∈ bareWords, w.length ≤ 1000 := by decide +kernel
theorem wf_names {w n m : Str} (h : wfB (.bare w n m) = true) : n.length ≤ 4 ∧ m.length ≤ 4 := by
  have h' : (if w = ("in" : Str) then isPl n && isSt m else if w = ("within" : Str) then isSt n && isSt m else isPl n && isPl m) = true := h
  split at h'
  · rw [Bool.and_eq_true] at h'; exact ⟨nm_len h'.1, nm_len h'.2⟩
  · split at h'
    · rw [Bool.and_eq_true] at h'; exact ⟨nm_len h'.1, nm_len h'.2⟩
    · rw [Bool.and_eq_true] at h'; exact ⟨nm_len h'.1, nm_len h'.2⟩
theorem Exp.str {H : Hp} {z : Str} (h : z.length ≤ 1000) : ∀ n, Exp H n (.str z)
  | 0 => Thing.str h
  | n + 1 => ⟨Thing.str h, fun a xs e => by cases e⟩
theorem Exp.tup {H : Hp} {a : Addr} {xs : List V} {n : Nat} (e : H a = some (.tup xs)) (hl : xs.length ≤ 1000) (h : ∀ x ∈ xs, Exp H n x) : Exp H (n + 1) (.ref a) :=
  ⟨Thing.tup e, fun a' xs' ev e' => by cases ev; rw [e] at e'; cases e'; exact ⟨hl, h⟩⟩
theorem Rep.exp {H : Hp} {v : V} {s : Sy} (r : Rep H v s) : wfB s = true → ∀ n, Exp H n v := by
  induction r with
  | bare hw e =>
    intro h n
    obtain ⟨l1, l2⟩ := wf_names h
    cases n with
    | zero => exact Thing.tup e
    | succ n =>
      refine Exp.tup e (by simp) fun x hx => ?_
      simp only [List.mem_cons, List.not_mem_nil, or_false] at hx
      rcases hx with rfl | rfl | rfl
      · exact Exp.str (words_short _ hw) n
      · exact Exp.str (by omega) n
      · exact Exp.str (by omega) n
  | neg e _ ih =>
    intro h n
    cases n with
    | zero => exact Thing.tup e
    | succ n =>
      refine Exp.tup e (by simp) fun x hx => ?_
      simp only [List.mem_cons, List.not_mem_nil, or_false] at hx
      rcases hx with rfl | rfl
      · exact Exp.str (by decide +kernel) n
      · exact ih h n
  | two hw e _ _ ih1 ih2 =>
    rename_i w _ _ s t _ _
    intro h n
    have h' : (wfB s && wfB t) = true := h
    rw [Bool.and_eq_true] at h'
    cases n with
    | zero => exact Thing.tup e
    | succ n =>
      refine Exp.tup e (by simp) fun x hx => ?_
      simp only [List.mem_cons, List.not_mem_nil, or_false] at hx
      rcases hx with rfl | rfl | rfl
      · refine Exp.str ?_ n
        have : ∀ w ∈ (["and", "or"] : List Str), w.length ≤ 1000 := by decide +kernel
        exact this w hw
      · exact ih1 h'.1 n
      · exact ih2 h'.2 n
  | qu hw e _ ih =>
    rename_i w nm _ s _
    intro h n
    have h' : (isName (.str nm) && wfB s) = true := h
    rw [Bool.and_eq_true] at h'
    cases n with
    | zero => exact Thing.tup e
    | succ n =>
      refine Exp.tup e (by simp) fun x hx => ?_
      simp only [List.mem_cons, List.not_mem_nil, or_false] at hx
      rcases hx with rfl | rfl | rfl
      · refine Exp.str ?_ n
        have : ∀ w ∈ (["some", "all"] : List Str), w.length ≤ 1000 := by decide +kernel
        exact this w hw
      · exact Exp.str (by have := name_len h'.1; omega) n
      · exact ih h'.2 n
/-! ### drawn sayings -/
/-! ### names more, names fewer -/
/-! ### nots round it -/
end SS

set_option Elab.async false
set_option linter.all false
set_option maxRecDepth 100000
/-! promises of the laws' walks over sayings -/
namespace SS
open PySem PySem.Spec PyProof.Rows L2
end SS

set_option Elab.async false
set_option linter.all false
set_option maxRecDepth 100000
set_option maxHeartbeats 1000000
/-! what is told of a thing and a frame -/
namespace SS
open PySem PySem.Spec PyProof.Rows L2
/-- short texts, few -/
structure Few (tl : List Str) : Prop where
  l : tl.length ≤ 1000
  z : ∀ z ∈ tl, z.length ≤ 1000
theorem Names.few {tl : List Str} (nm : Names tl) (hl : tl.length ≤ 4) : Few tl := ⟨by omega, fun z hz => by have := nm.len z hz; omega⟩
section
variable {H : Hp} {a : Addr} {tl bw : List Str} {mo : Nat} {v : V} {s : Sy} {b : Bool} {Q : VK} {E : XK}
end
/-! ### which sayings -/
end SS

set_option Elab.async false
set_option linter.all false
set_option maxRecDepth 100000
/-! the written table of forms, found in the text -/
namespace SS
open PySem PySem.Spec PyProof.Rows L2
section
variable {K : PySem.W.Frag} {w : World} {h : Heap} {mg : Str → Option Value}
end
end SS

set_option Elab.async false
set_option linter.all false
set_option maxRecDepth 100000
set_option maxHeartbeats 1000000
/-! the parts of a saying, and which words and names they bear -/
namespace SS
open PySem PySem.Spec PyProof.Rows L2
inductive Reps (H : Hp) : List V → List Sy → Prop
  | nil : Reps H [] []
  | cons {v : V} {s : Sy} {vs : List V} {ss : List Sy} (r : Rep H v s) (q : Reps H vs ss) : Reps H (v :: vs) (s :: ss)
theorem Reps.same {H H' : Hp} {vs : List V} {ss : List Sy} (h : Reps H vs ss) (g : Same H H') : Reps H' vs ss := by
  induction h with
  | nil => exact .nil
  | cons r _ ih => exact .cons (r.same g) ih
theorem Reps.app {H : Hp} {vs us : List V} {ss ts : List Sy} (h : Reps H vs ss) (k : Reps H us ts) : Reps H (vs ++ us) (ss ++ ts) := by
  induction h with
  | nil => exact k
  | cons r _ ih => exact .cons r ih
theorem Reps.len {H : Hp} {vs : List V} {ss : List Sy} (h : Reps H vs ss) : vs.length = ss.length := by
  induction h with
  | nil => rfl
  | cons r _ ih => rw [List.length_cons, List.length_cons, ih]
theorem Reps.mem {H : Hp} {vs : List V} {ss : List Sy} (h : Reps H vs ss) : ∀ v ∈ vs, ∃ s ∈ ss, Rep H v s := by
  induction h with
  | nil => exact fun v hv => nomatch hv
  | cons r _ ih =>
    intro v hv
    rcases List.mem_cons.mp hv with rfl | hv
    · exact ⟨_, List.mem_cons_self, r⟩
    · obtain ⟨s, m, q⟩ := ih v hv
      exact ⟨s, List.mem_cons_of_mem _ m, q⟩
/-! ### what stands in a part -/
def headV (H : Hp) : V → V
  | .ref a => match H a with
    | some (.tup (x :: _)) => x
    | _ => .non
  | _ => .non
def secV (H : Hp) : V → V
  | .ref a => match H a with
    | some (.tup (_ :: y :: _)) => y
    | _ => .non
  | _ => .non
theorem Rep.head {H : Hp} {v : V} {s : Sy} (r : Rep H v s) : ∃ a y l, v = .ref a ∧ H a = some (.tup (.str (wordOf s) :: y :: l)) ∧ headV H v = .str (wordOf s) ∧ secV H v = y := by
  cases r with
  | bare hw e => exact ⟨_, _, _, rfl, e, by simp only [headV, e]; rfl, by simp only [secV, e]⟩
  | neg e _ => exact ⟨_, _, _, rfl, e, by simp only [headV, e]; rfl, by simp only [secV, e]⟩
  | two hw e _ _ => exact ⟨_, _, _, rfl, e, by simp only [headV, e]; rfl, by simp only [secV, e]⟩
  | qu hw e _ => exact ⟨_, _, _, rfl, e, by simp only [headV, e]; rfl, by simp only [secV, e]⟩
end SS

set_option Elab.async false
set_option linter.all false
set_option maxRecDepth 100000
set_option maxHeartbeats 1000000
namespace SS
open PySem PySem.Spec PyProof.Rows L2
section
variable {H : Hp} {a : Addr} {tl bw : List Str} {mo : Nat} {v : V} {s : Sy} {b : Bool} {Q : VK} {E : XK}
end
end SS

set_option linter.all false
/-! MACHINES, the bare mathematics: no program, no heap -/
namespace SM
structure Mc where
  w : Nat
  ways : List (List Nat)
  ends : List Bool
structure Mc.Ok (m : Mc) : Prop where
  wid : m.w ≤ 4
  pos : 0 < m.ends.length
  few : m.ends.length ≤ 100
  len : m.ways.length = m.ends.length
  line : ∀ l ∈ m.ways, l.length = 2 ^ m.w
  room : ∀ l ∈ m.ways, ∀ r ∈ l, r < m.ends.length
abbrev Mc.n (m : Mc) : Nat := m.ends.length
def Mc.go (m : Mc) (r l : Nat) : Nat := (m.ways.getD r []).getD l 0
def Mc.fin (m : Mc) (r : Nat) : Bool := m.ends.getD r false
theorem Mc.Ok.at {m : Mc} (ok : m.Ok) {r l : Nat} (hr : r < m.ends.length) (hl : l < 2 ^ m.w) : ∃ line, m.ways[r]? = some line ∧ line[l]? = some (m.go r l) ∧ m.go r l < m.ends.length := by
  have h1 : r < m.ways.length := by rw [ok.len]; exact hr
  have e1 : m.ways[r]? = some m.ways[r] := List.getElem?_eq_getElem h1
  have h2 : l < m.ways[r].length := by rw [ok.line _ (List.getElem_mem h1)]; exact hl
  have e2 : m.ways[r][l]? = some m.ways[r][l] := List.getElem?_eq_getElem h2
  have eg : m.go r l = m.ways[r][l] := by
    simp only [Mc.go, List.getD_eq_getElem?_getD, e1, Option.getD_some, e2]
  exact ⟨_, e1, by rw [eg]; exact e2, by rw [eg]; exact ok.room _ (List.getElem_mem h1) _ (List.getElem_mem h2)⟩
theorem Mc.Ok.go_lt {m : Mc} (ok : m.Ok) {r l : Nat} (hr : r < m.n) (hl : l < 2 ^ m.w) : m.go r l < m.n := let ⟨_, _, _, h⟩ := ok.at hr hl; h
theorem Mc.fin_at {m : Mc} {r : Nat} (hr : r < m.ends.length) : m.ends[r]? = some (m.fin r) := by
  unfold Mc.fin
  rw [List.getD_eq_getElem?_getD, List.getElem?_eq_getElem hr, Option.getD_some]
def Mc.run (m : Mc) (r : Nat) (row : List Nat) : Nat := row.foldl m.go r
def Mc.path (m : Mc) : Nat → List Nat → List Nat
  | r, [] => [r]
  | r, l :: ls => r :: m.path (m.go r l) ls
theorem Mc.run_snoc (m : Mc) (r : Nat) (row : List Nat) (l : Nat) : m.run r (row ++ [l]) = m.go (m.run r row) l := by unfold Mc.run; rw [List.foldl_append]; rfl
theorem Mc.path_snoc (m : Mc) : ∀ (row : List Nat) (r l : Nat), m.path r (row ++ [l]) = m.path r row ++ [m.go (m.run r row) l]
  | [], r, l => rfl
  | x :: row, r, l => by
    show r :: m.path (m.go r x) (row ++ [l]) = r :: m.path (m.go r x) row ++ _
    rw [path_snoc m row]
    rfl
theorem Mc.path_last (m : Mc) : ∀ (row : List Nat) (r : Nat), ∃ ini, m.path r row = ini ++ [m.run r row]
  | [], r => ⟨[], rfl⟩
  | x :: row, r => by
    obtain ⟨ini, e⟩ := path_last m row (m.go r x)
    exact ⟨r :: ini, by show r :: m.path (m.go r x) row = _; rw [e]; rfl⟩
theorem Mc.path_len (m : Mc) : ∀ (row : List Nat) (r : Nat), (m.path r row).length = row.length + 1
  | [], r => rfl
  | x :: row, r => by show (m.path (m.go r x) row).length + 1 = _; rw [path_len m row]; rfl
theorem Mc.Ok.run_lt {m : Mc} (ok : m.Ok) : ∀ (row : List Nat) (r : Nat), r < m.ends.length → (∀ l ∈ row, l < 2 ^ m.w) → m.run r row < m.ends.length
  | [], r, h, _ => h
  | x :: row, r, h, hl => by
    obtain ⟨_, _, _, h2⟩ := ok.at h (hl x List.mem_cons_self)
    exact run_lt ok row (m.go r x) h2 fun l z => hl l (List.mem_cons_of_mem _ z)
theorem pow_nat (n : Nat) : (2 : Int) ^ n = ((2 ^ n : Nat) : Int) := by
  induction n with
  | zero => rfl
  | succ n ih => rw [Int.pow_succ, Nat.pow_succ, ih]; omega
theorem pow_small {w : Nat} (h : w ≤ 4) : 1 ≤ 2 ^ w ∧ 2 ^ w ≤ 16 := by
  have : w = 0 ∨ w = 1 ∨ w = 2 ∨ w = 3 ∨ w = 4 := by omega
  rcases this with rfl | rfl | rfl | rfl | rfl <;> decide
/-! ### alike from two rooms on -/
def Mc.Row (m : Mc) (row : List Nat) : Prop := ∀ l ∈ row, l < 2 ^ m.w
def Par (m : Mc) (r : Nat) (m' : Mc) (r' : Nat) : Prop := ∀ row, m.Row row → m.fin (m.run r row) = m'.fin (m'.run r' row)
theorem Mc.Row.cons {m : Mc} {l : Nat} {row : List Nat} (hl : l < 2 ^ m.w) (h : m.Row row) : m.Row (l :: row) := fun x hx => by
  rcases List.mem_cons.mp hx with rfl | hx
  · exact hl
  · exact h x hx
theorem Mc.Row.nil (m : Mc) : m.Row [] := fun _ h => nomatch h
theorem Par.refl (m : Mc) (r : Nat) : Par m r m r := fun _ _ => rfl
theorem Par.go {m m' : Mc} {r r' l : Nat} (h : Par m r m' r') (hl : l < 2 ^ m.w) : Par m (m.go r l) m' (m'.go r' l) := fun row hr => h (l :: row) (hr.cons hl)
theorem Par.symm {m m' : Mc} {r r' : Nat} (h : Par m r m' r') (hw : m.w = m'.w) : Par m' r' m r := fun row hr => (h row fun l hl => by rw [hw]; exact hr l hl).symm
theorem Par.trans {m m' m'' : Mc} {r r' r'' : Nat} (h : Par m r m' r') (h' : Par m' r' m'' r'') (hw : m.w = m'.w) : Par m r m'' r'' := fun row hr => (h row hr).trans (h' row fun l hl => by rw [← hw]; exact hr l hl)
theorem Par.fin {m m' : Mc} {r r' : Nat} (h : Par m r m' r') : m.fin r = m'.fin r' := h [] (Mc.Row.nil m)
/-- a relation that is kept along the ways, and whose truths are the same -/
theorem Par.of {m m' : Mc} (R : Nat → Nat → Prop) (hf : ∀ r r', R r r' → m.fin r = m'.fin r') (hg : ∀ r r' l, R r r' → l < 2 ^ m.w → R (m.go r l) (m'.go r' l)) {r r' : Nat} (h : R r r') : Par m r m' r' := fun row => by
  induction row generalizing r r' with
  | nil => exact fun _ => hf r r' h
  | cons l row ih => exact fun hr => ih (hg r r' l h (hr l List.mem_cons_self)) fun x hx => hr x (List.mem_cons_of_mem _ hx)
/-! ### the order of coming, the one least machine -/
def Lex (r' l' r l : Nat) : Prop := r' < r ∨ (r' = r ∧ l' < l)
structure Mc.Ord (m : Mc) : Prop where
  grow : ∀ r l b, r < m.n → l < 2 ^ m.w → 0 < b → b < m.go r l → ∃ r' l', l' < 2 ^ m.w ∧ Lex r' l' r l ∧ m.go r' l' = b
  par : ∀ b, 0 < b → b < m.n → ∃ r' l', r' < b ∧ l' < 2 ^ m.w ∧ m.go r' l' = b
structure Canon (m : Mc) : Prop where
  ord : m.Ord
  dist : ∀ i j, i < m.n → j < m.n → Par m i m j → i = j
/-! ### rooms come to -/
/-- the list's item, by its place -/
def ix (xs : List Nat) (i : Nat) : Nat := xs.getD i 0
theorem ix_at {xs : List Nat} {i : Nat} (h : i < xs.length) : xs[i]? = some (ix xs i) := by
  unfold ix
  rw [List.getD_eq_getElem?_getD, List.getElem?_eq_getElem h, Option.getD_some]
theorem ix_of {xs : List Nat} {i v : Nat} (h : xs[i]? = some v) : ix xs i = v := by unfold ix; rw [List.getD_eq_getElem?_getD, h]; rfl
theorem ix_mem {xs : List Nat} {i : Nat} (h : i < xs.length) : ix xs i ∈ xs := List.mem_of_getElem? (ix_at h)
theorem ix_ex {xs : List Nat} {v : Nat} (h : v ∈ xs) : ∃ i, i < xs.length ∧ ix xs i = v := by
  obtain ⟨i, hi, e⟩ := List.getElem_of_mem h
  exact ⟨i, hi, ix_of (by rw [List.getElem?_eq_getElem hi, e])⟩
theorem ix_app {xs ys : List Nat} {i : Nat} (h : i < xs.length) : ix (xs ++ ys) i = ix xs i := by
  unfold ix; rw [List.getD_eq_getElem?_getD, List.getD_eq_getElem?_getD, List.getElem?_append_left h]
theorem ix_last (xs : List Nat) (v : Nat) : ix (xs ++ [v]) xs.length = v := by simp [ix]
theorem ix_inj {xs : List Nat} (hn : xs.Nodup) {i j : Nat} (hi : i < xs.length) (hj : j < xs.length) (e : ix xs i = ix xs j) : i = j := by
  have h1 := ix_at hi
  rw [e, ← ix_at hj] at h1
  exact (List.getElem?_inj hi hn).mp h1
/-- what stands when the ways of the places ahead of (at, l) have been gone: l letters of the place at -/
structure Come (m : Mc) (rooms : List Nat) (at' l : Nat) : Prop where
  nd : rooms.Nodup
  zero : ix rooms 0 = 0
  pos : 0 < rooms.length
  lt : ∀ r ∈ rooms, r < m.n
  disc : ∀ b, 0 < b → b < rooms.length → ∃ r' l', r' < b ∧ l' < 2 ^ m.w ∧ Lex r' l' at' l ∧ m.go (ix rooms r') l' = ix rooms b
  clos : ∀ r l', r < rooms.length → l' < 2 ^ m.w → Lex r l' at' l → ∃ t, t < rooms.length ∧ ix rooms t = m.go (ix rooms r) l' ∧
    ∀ b, 0 < b → b < t → ∃ r'' l'', l'' < 2 ^ m.w ∧ Lex r'' l'' r l' ∧ r'' < rooms.length ∧ m.go (ix rooms r'') l'' = ix rooms b
theorem Come.start {m : Mc} (h : 0 < m.n) : Come m [0] 0 0 :=
  ⟨by simp, rfl, by simp, fun r hr => by rw [List.mem_singleton.mp hr]; exact h, fun b h0 h1 => by simp at h1; omega, fun r l' _ _ lx => by rcases lx with z | ⟨_, z⟩ <;> omega⟩
theorem lex_next {r l' a l : Nat} (h : Lex r l' a (l + 1)) : Lex r l' a l ∨ (r = a ∧ l' = l) := by
  rcases h with h | ⟨h, h'⟩
  · exact .inl (.inl h)
  · by_cases e : l' = l
    · exact .inr ⟨h, e⟩
    · exact .inl (.inr ⟨h, by omega⟩)
theorem lex_up {r l' a l : Nat} (h : Lex r l' a l) : Lex r l' a (l + 1) := h.imp id fun ⟨h, h'⟩ => ⟨h, by omega⟩
/-- an old room -/
theorem Come.old {m : Mc} {rooms : List Nat} {a l : Nat} (c : Come m rooms a l) (ha : a < rooms.length) (hk : m.go (ix rooms a) l ∈ rooms) : Come m rooms a (l + 1) := by
  refine ⟨c.nd, c.zero, c.pos, c.lt, fun b h0 h1 => ?_, fun r l' hr hl' lx => ?_⟩
  · obtain ⟨r', l', h2, h3, h4, h5⟩ := c.disc b h0 h1
    exact ⟨r', l', h2, h3, lex_up h4, h5⟩
  · rcases lex_next lx with lx | ⟨rfl, rfl⟩
    · exact c.clos r l' hr hl' lx
    · obtain ⟨t, ht, et⟩ := ix_ex hk
      refine ⟨t, ht, et, fun b h0 h1 => ?_⟩
      obtain ⟨r', l'', h2, h3, h4, h5⟩ := c.disc b h0 (by omega)
      exact ⟨r', l'', h3, h4, by omega, h5⟩
/-- a new one -/
theorem Come.new {m : Mc} {rooms : List Nat} {a l : Nat} (c : Come m rooms a l) (ha : a < rooms.length) (hl : l < 2 ^ m.w) (hn : m.go (ix rooms a) l < m.n) (hk : ¬ m.go (ix rooms a) l ∈ rooms) : Come m (rooms ++ [m.go (ix rooms a) l]) a (l + 1) := by
  have len : (rooms ++ [m.go (ix rooms a) l]).length = rooms.length + 1 := by simp
  have up : ∀ {r : Nat}, r < rooms.length → ix (rooms ++ [m.go (ix rooms a) l]) r = ix rooms r := fun h => ix_app h
  refine ⟨?_, by rw [up c.pos]; exact c.zero, by omega, fun r hr => ?_, fun b h0 h1 => ?_, fun r l' hr hl' lx => ?_⟩
  · refine List.nodup_append.mpr ⟨c.nd, by simp, fun x hx y hy => ?_⟩
    rw [List.mem_singleton.mp hy]
    intro e; rw [e] at hx; exact hk hx
  · rcases List.mem_append.mp hr with h | h
    · exact c.lt r h
    · rw [List.mem_singleton.mp h]; exact hn
  · by_cases hb : b < rooms.length
    · obtain ⟨r', l', h2, h3, h4, h5⟩ := c.disc b h0 hb
      exact ⟨r', l', h2, h3, lex_up h4, by rw [up (by omega), up hb]; exact h5⟩
    · have e : b = rooms.length := by omega
      subst e
      exact ⟨a, l, ha, hl, .inr ⟨rfl, by omega⟩, by rw [up ha, ix_last]⟩
  · rcases lex_next lx with lx | ⟨rfl, rfl⟩
    · have hra : r < rooms.length := by rcases lx with z | ⟨z, _⟩ <;> omega
      obtain ⟨t, ht, et, g⟩ := c.clos r l' hra hl' lx
      refine ⟨t, by omega, by rw [up ht, up hra]; exact et, fun b h0 h1 => ?_⟩
      obtain ⟨r'', l'', h2, h3, h4, h5⟩ := g b h0 h1
      exact ⟨r'', l'', h2, h3, by omega, by rw [up h4, up (by omega)]; exact h5⟩
    · refine ⟨rooms.length, by omega, by rw [ix_last, up ha], fun b h0 h1 => ?_⟩
      obtain ⟨r', l'', h2, h3, h4, h5⟩ := c.disc b h0 h1
      exact ⟨r', l'', h3, h4, by omega, by rw [up (by omega), up h1]; exact h5⟩
theorem Come.turn {m : Mc} {rooms : List Nat} {a : Nat} (c : Come m rooms a (2 ^ m.w)) : Come m rooms (a + 1) 0 := by
  have up : ∀ {r l : Nat}, l < 2 ^ m.w → Lex r l (a + 1) 0 → Lex r l a (2 ^ m.w) := fun {r l} hl lx => by
    rcases lx with z | ⟨_, z⟩
    · by_cases e : r = a
      · exact .inr ⟨e, hl⟩
      · exact .inl (by omega)
    · omega
  refine ⟨c.nd, c.zero, c.pos, c.lt, fun b h0 h1 => ?_, fun r l' hr hl' lx => c.clos r l' hr hl' (up hl' lx)⟩
  obtain ⟨r', l', h2, h3, h4, h5⟩ := c.disc b h0 h1
  refine ⟨r', l', h2, h3, ?_, h5⟩
  rcases h4 with z | ⟨z, _⟩
  · exact .inl (by omega)
  · exact .inl (by omega)
theorem nodup_le : ∀ {xs : List Nat} {n : Nat}, xs.Nodup → (∀ x ∈ xs, x < n) → xs.length ≤ n
  | xs, 0, _, h => by cases xs with | nil => exact Nat.le_refl _ | cons x r => exact absurd (h x List.mem_cons_self) (Nat.not_lt_zero _)
  | xs, n + 1, hn, h => by
    have h1 : (xs.erase n).length ≤ n := nodup_le (hn.erase n) fun x hx => by
      have h2 := h x (List.mem_of_mem_erase hx)
      have h3 : x ≠ n := fun e => by rw [e] at hx; exact (List.Nodup.not_mem_erase hn) hx
      omega
    by_cases hm : n ∈ xs
    · have h2 := List.length_erase_of_mem hm
      have h3 := List.length_pos_of_mem hm
      omega
    · rw [List.erase_of_not_mem hm] at h1; omega
/-! ### a machine of some of the rooms -/
/-! ### sorts -/
/-- numbered as they first come -/
structure Srt (ns : List Nat) : Prop where
  grow : ∀ i, i < ns.length → ∀ b, b < ix ns i → ∃ j, j < i ∧ ix ns j = b
theorem Srt.le {ns : List Nat} (h : Srt ns) (i : Nat) (hi : i < ns.length) : ix ns i ≤ i := by
  induction i using Nat.strongRecOn with
  | _ i ih =>
    by_cases h0 : ix ns i = 0
    · omega
    · obtain ⟨j, hj, e⟩ := h.grow i hi (ix ns i - 1) (by omega)
      have := ih j hj (by omega)
      omega
/-- the sorts of a machine on the way: those of one sort have one truth, those of two are parted -/
structure Sorts (m : Mc) (ns : List Nat) : Prop where
  srt : Srt ns
  len : ns.length = m.n
  fin : ∀ i j, i < m.n → j < m.n → ix ns i = ix ns j → m.fin i = m.fin j
  sep : ∀ i j, i < m.n → j < m.n → Par m i m j → ix ns i = ix ns j
/-- the first room of each sort -/
structure Firsts (ns fs : List Nat) : Prop where
  lt : ∀ s, s < fs.length → ix fs s < ns.length
  is : ∀ s, s < fs.length → ix ns (ix fs s) = s
  le : ∀ s j, s < fs.length → j < ns.length → ix ns j = s → ix fs s ≤ j
  all : ∀ i, i < ns.length → ix ns i < fs.length
/-! ### numbers of marks -/
structure Num {α : Type} (marks : List α) (ns : List Nat) : Prop where
  len : ns.length = marks.length
  eq : ∀ i j a b, marks[i]? = some a → marks[j]? = some b → (ix ns i = ix ns j ↔ a = b)
  srt : Srt ns
end SM
namespace SM
/-! ### each mark once, as they first come -/
section
variable {α : Type} [DecidableEq α]
end
end SM
namespace SM
/-- what a machine that is least keeps to -/
structure Red (m m' : Mc) : Prop where
  ok : m'.Ok
  w : m'.w = m.w
  canon : Canon m'
  par : Par m 0 m' 0
  le : m'.n ≤ m.n
end SM
namespace SM
/-! ### pairs of rooms come to together, each as a list of two -/
structure PCome (m1 m2 : Mc) (ls : List (List Nat)) (at' l : Nat) : Prop where
  zero : ls[0]? = some [0, 0]
  nd : ls.Nodup
  sound : ∀ x ∈ ls, ∃ row, m1.Row row ∧ x = [m1.run 0 row, m2.run 0 row]
  clos : ∀ i l' a b, Lex i l' at' l → l' < 2 ^ m1.w → ls[i]? = some [a, b] → [m1.go a l', m2.go b l'] ∈ ls
theorem PCome.start (m1 m2 : Mc) : PCome m1 m2 [[0, 0]] 0 0 :=
  ⟨rfl, by simp, fun x hx => by rw [List.mem_singleton.mp hx]; exact ⟨[], Mc.Row.nil _, rfl⟩, fun i l' a b lx => by rcases lx with z | ⟨_, z⟩ <;> omega⟩
theorem PCome.old {m1 m2 : Mc} {ls : List (List Nat)} {at' l a b : Nat} (c : PCome m1 m2 ls at' l) (ha : ls[at']? = some [a, b]) (hk : [m1.go a l, m2.go b l] ∈ ls) : PCome m1 m2 ls at' (l + 1) :=
  ⟨c.zero, c.nd, c.sound, fun i l' x y lx hl e => by
    rcases lex_next lx with lx | ⟨rfl, rfl⟩
    · exact c.clos i l' x y lx hl e
    · rw [ha] at e; cases e; exact hk⟩
theorem run_more {m : Mc} {r l : Nat} {row : List Nat} : m.run r (row ++ [l]) = m.go (m.run r row) l := Mc.run_snoc m r row l
theorem PCome.new {m1 m2 : Mc} {ls : List (List Nat)} {at' l a b : Nat} (c : PCome m1 m2 ls at' l) (hl : l < 2 ^ m1.w) (ha : ls[at']? = some [a, b]) (hk : ¬ [m1.go a l, m2.go b l] ∈ ls) : PCome m1 m2 (ls ++ [[m1.go a l, m2.go b l]]) at' (l + 1) := by
  have up : ∀ {i : Nat} {x : List Nat}, ls[i]? = some x → (ls ++ [[m1.go a l, m2.go b l]])[i]? = some x := fun {i x} h => by
    rw [List.getElem?_append_left (List.getElem?_eq_some_iff.mp h).1]; exact h
  have low : ∀ {i : Nat} {x : List Nat}, i ≤ at' → (ls ++ [[m1.go a l, m2.go b l]])[i]? = some x → ls[i]? = some x := fun {i x} hi h => by
    have := (List.getElem?_eq_some_iff.mp ha).1
    rw [List.getElem?_append_left (by omega)] at h; exact h
  refine ⟨up c.zero, ?_, fun x hx => ?_, fun i l' x y lx hl' e => ?_⟩
  · refine List.nodup_append.mpr ⟨c.nd, by simp, fun x hx y hy => ?_⟩
    rw [List.mem_singleton.mp hy]
    intro e; rw [e] at hx; exact hk hx
  · rcases List.mem_append.mp hx with h | h
    · exact c.sound x h
    · rw [List.mem_singleton.mp h]
      obtain ⟨row, h1, h2⟩ := c.sound _ (List.mem_of_getElem? ha)
      rw [List.cons.injEq, List.cons.injEq] at h2
      refine ⟨row ++ [l], fun z hz => ?_, by rw [run_more, run_more, ← h2.1, ← h2.2.1]⟩
      rcases List.mem_append.mp hz with h | h
      · exact h1 z h
      · rw [List.mem_singleton.mp h]; exact hl
  · rcases lex_next lx with lx | ⟨rfl, rfl⟩
    · have hi : i ≤ at' := by rcases lx with z | ⟨z, _⟩ <;> omega
      exact List.mem_append_left _ (c.clos i l' x y lx hl' (low hi e))
    · have := low (Nat.le_refl _) e
      rw [ha] at this
      cases this
      exact List.mem_append_right _ (List.mem_singleton.mpr rfl)
theorem PCome.turn {m1 m2 : Mc} {ls : List (List Nat)} {at' : Nat} (c : PCome m1 m2 ls at' (2 ^ m1.w)) : PCome m1 m2 ls (at' + 1) 0 :=
  ⟨c.zero, c.nd, c.sound, fun i l' x y lx hl e => c.clos i l' x y (by
    rcases lx with z | ⟨_, z⟩
    · by_cases h : i = at'
      · exact .inr ⟨h, hl⟩
      · exact .inl (by omega)
    · omega) hl e⟩
theorem PCome.skip {m1 m2 : Mc} {ls : List (List Nat)} {at' : Nat} (c : PCome m1 m2 ls at' 0) (h : ls.length ≤ at') : PCome m1 m2 ls (at' + 1) 0 :=
  ⟨c.zero, c.nd, c.sound, fun i l' x y lx hl e => by
    have := (List.getElem?_eq_some_iff.mp e).1
    exact c.clos i l' x y (.inl (by omega)) hl e⟩
theorem PCome.at_lt {m1 m2 : Mc} (o1 : m1.Ok) (o2 : m2.Ok) (hw : m1.w = m2.w) {ls : List (List Nat)} {at' l : Nat} (c : PCome m1 m2 ls at' l) {x : List Nat} (h : x ∈ ls) : ∃ a b, x = [a, b] ∧ a < m1.n ∧ b < m2.n := by
  obtain ⟨row, h1, rfl⟩ := c.sound x h
  exact ⟨_, _, rfl, o1.run_lt row 0 o1.pos h1, o2.run_lt row 0 o2.pos fun z hz => by rw [← hw]; exact h1 z hz⟩
theorem PCome.len {m1 m2 : Mc} (o1 : m1.Ok) (o2 : m2.Ok) (hw : m1.w = m2.w) {ls : List (List Nat)} {at' l : Nat} (c : PCome m1 m2 ls at' l) : ls.length ≤ m1.n * m2.n := by
  have h : (ls.map fun x => x.getD 0 0 * m2.n + x.getD 1 0).length ≤ m1.n * m2.n := by
    refine nodup_le ?_ fun y hy => ?_
    · have inj : ∀ x ∈ ls, ∀ y ∈ ls, x.getD 0 0 * m2.n + x.getD 1 0 = y.getD 0 0 * m2.n + y.getD 1 0 → x = y := fun x hx y hy e => by
        obtain ⟨a, b, rfl, ha, hb⟩ := c.at_lt o1 o2 hw hx
        obtain ⟨a', b', rfl, ha', hb'⟩ := c.at_lt o1 o2 hw hy
        simp only [List.getD_cons_zero, List.getD_cons_succ] at e
        have e1 : a = a' := by
          have h1 := congrArg (· / m2.n) e
          simp only [Nat.mul_comm _ m2.n] at h1
          rw [Nat.mul_add_div (by omega), Nat.mul_add_div (by omega), Nat.div_eq_of_lt hb, Nat.div_eq_of_lt hb'] at h1
          omega
        subst e1
        rw [show b = b' by omega]
      have : ∀ (l : List (List Nat)), (∀ x ∈ l, x ∈ ls) → l.Nodup → (l.map fun x => x.getD 0 0 * m2.n + x.getD 1 0).Nodup := fun l => by
        induction l with
        | nil => intro _ _; exact List.nodup_nil
        | cons x l ih =>
          intro hl hn
          rw [List.nodup_cons] at hn
          rw [List.map_cons, List.nodup_cons]
          refine ⟨fun z => ?_, ih (fun y hy => hl y (List.mem_cons_of_mem _ hy)) hn.2⟩
          obtain ⟨y, my, e⟩ := List.mem_map.mp z
          have := inj y (hl y (List.mem_cons_of_mem _ my)) x (hl x List.mem_cons_self) e
          rw [this] at my
          exact hn.1 my
      exact this ls (fun _ h => h) c.nd
    · obtain ⟨x, mx, rfl⟩ := List.mem_map.mp hy
      obtain ⟨a, b, rfl, ha, hb⟩ := c.at_lt o1 o2 hw mx
      simp only [List.getD_cons_zero, List.getD_cons_succ]
      have : (a + 1) * m2.n ≤ m1.n * m2.n := Nat.mul_le_mul_right _ ha
      rw [Nat.succ_mul] at this
      omega
  rw [List.length_map] at h
  exact h
end SM
namespace SM
/-! ### rooms numbered anew -/
/-- each number below n once, 0 first -/
structure Places (ps : List Nat) (n : Nat) : Prop where
  len : ps.length = n
  nd : ps.Nodup
  lt : ∀ x ∈ ps, x < n
  zero : ix ps 0 = 0
theorem nodup_all : ∀ {n : Nat} {xs : List Nat}, xs.Nodup → (∀ x ∈ xs, x < n) → xs.length = n → ∀ y, y < n → y ∈ xs
  | n, xs, hn, hl, he, y, hy => by
    by_cases h : y ∈ xs
    · exact h
    · have h1 := nodup_le (xs := xs ++ [y]) (n := n) (List.nodup_append.mpr ⟨hn, by simp, fun a ha b hb => by rw [List.mem_singleton.mp hb]; intro e; exact h (e ▸ ha)⟩) fun x hx => by
        rcases List.mem_append.mp hx with z | z
        · exact hl x z
        · rw [List.mem_singleton.mp z]; exact hy
      rw [List.length_append, List.length_singleton] at h1
      omega
theorem Places.ex {ps : List Nat} {n : Nat} (h : Places ps n) {y : Nat} (hy : y < n) : ∃ t, t < n ∧ ix ps t = y := by
  obtain ⟨t, ht, e⟩ := ix_ex (nodup_all h.nd h.lt h.len y hy)
  exact ⟨t, by rw [← h.len]; exact ht, e⟩
theorem Places.inj {ps : List Nat} {n : Nat} (h : Places ps n) {s t : Nat} (hs : s < n) (ht : t < n) (e : ix ps s = ix ps t) : s = t := ix_inj h.nd (by rw [h.len]; exact hs) (by rw [h.len]; exact ht) e
theorem Places.at_lt {ps : List Nat} {n : Nat} (h : Places ps n) {t : Nat} (ht : t < n) : ix ps t < n := h.lt _ (ix_mem (by rw [h.len]; exact ht))
/-- all truths turned -/
def turned (m : Mc) : Mc := ⟨m.w, m.ways, m.ends.map fun b => !b⟩
end SM
namespace SM
/-- a line of the other machine's room that is called ix ps t -/
structure OLine (m : Mc) (ps : List Nat) (N t : Nat) (ln : List Nat) : Prop where
  len : ln.length = 2 ^ m.w
  lt : ∀ r ∈ ln, r < N
  go : t < 2 * m.n → ∀ l, l < 2 ^ m.w → ∃ c, c < 2 ∧ ln[l]? = some (ix ps (2 * m.go (t / 2) l + c))
end SM

set_option Elab.async false
set_option linter.all false
set_option maxRecDepth 100000
/-! MACHINES: the mirror -/
namespace SM
open PySem PySem.Spec PyProof.Rows L2 SS
abbrev nV (n : Nat) : V := .int (n : Int)
/-! ### how the heap bears one -/
def Line (H : Hp) (v : V) (l : List Nat) : Prop := ∃ a, v = .ref a ∧ H a = some (.tup (l.map nV))
def RepM (H : Hp) (a : Addr) (m : Mc) : Prop := ∃ (b c : Addr) (rs : List V), H a = some (.tup [nV m.w, .ref b, .ref c]) ∧ H b = some (.tup rs) ∧ Paired (Line H) rs m.ways ∧ H c = some (.tup (m.ends.map V.bl))
theorem Line.ts {H H' : Hp} {v : V} {l : List Nat} (h : Line H v l) (g : TupS H H') : Line H' v l := let ⟨a, e, z⟩ := h; ⟨a, e, g _ _ z⟩
theorem RepM.ts {H H' : Hp} {a : Addr} {m : Mc} (h : RepM H a m) (g : TupS H H') : RepM H' a m := by
  obtain ⟨b, c, rs, h1, h2, h3, h4⟩ := h
  exact ⟨b, c, rs, g _ _ h1, g _ _ h2, L2.Paired.mapP h3 fun _ _ z => z.ts g, g _ _ h4⟩
theorem RepM.same {H H' : Hp} {a : Addr} {m : Mc} (h : RepM H a m) (g : Same H H') : RepM H' a m := h.ts g.tups
theorem Paired.at2 {α β : Type} {R : α → β → Prop} : ∀ {xs : List α} {ys : List β} {i : Nat} {y : β}, Paired R xs ys → ys[i]? = some y → ∃ x, xs[i]? = some x ∧ R x y
  | _, _, _, _, .nil, h => by simp at h
  | _, _, 0, _, .cons h _, e => by simp at e; subst e; exact ⟨_, rfl, h⟩
  | _, _, i + 1, _, .cons _ h, e => by simp only [List.getElem?_cons_succ] at e ⊢; exact Paired.at2 h e
theorem Paired.snoc {α β : Type} {R : α → β → Prop} : ∀ {xs : List α} {ys : List β} {x : α} {y : β}, Paired R xs ys → R x y → Paired R (xs ++ [x]) (ys ++ [y])
  | _, _, _, _, .nil, h => .cons h .nil
  | _, _, _, _, .cons h t, z => .cons h (Paired.snoc t z)
/-! ### promises -/
def sp_gone (K : PySem.W.Frag) : Sp := fun vs H Q _ => ∃ (a b : Addr) (m : Mc) (row : List Nat), vs = [.ref a, .ref b] ∧ RepM H a m ∧ m.Ok ∧ SqL K H b (row.map nV) ∧ (∀ l ∈ row, l < 2 ^ m.w) ∧ row.length ≤ 300 ∧
  ∀ D H', H D = none → Same H H' → H' D = some (.lst ((m.path 0 row).map nV)) → Q (.ref D) H'
def sp_takes (K : PySem.W.Frag) : Sp := fun vs H Q _ => ∃ (a b : Addr) (m : Mc) (row : List Nat), vs = [.ref a, .ref b] ∧ RepM H a m ∧ m.Ok ∧ SqL K H b (row.map nV) ∧ (∀ l ∈ row, l < 2 ^ m.w) ∧ row.length ≤ 300 ∧
  ∀ H', Same H H' → Q (.bl (m.fin (m.run 0 row))) H'
theorem map_nV (l : List Nat) : l.map nV = (l.map fun (n : Nat) => (n : Int)).map V.int := by rw [List.map_map]; rfl
end SM

set_option Elab.async false
set_option linter.all false
set_option maxRecDepth 100000
/-! MACHINES REDUCED: the heap's side -/
namespace SM
open PySem PySem.Spec PyProof.Rows L2 SS
/-- what numbers[r] is, for each r of l: g r; numbers a dict or a list -/
def Lk (H : Hp) (b : Addr) (l : List Nat) (g : Nat → Nat) : Prop :=
  (∃ kvs : List (Key × V), H b = some (.dK kvs) ∧ ∀ r ∈ l, valV kvs (.inl (r : Int)) = some (nV (g r))) ∨ ∃ ns : List Nat, H b = some (.lst (ns.map nV)) ∧ ∀ r ∈ l, ns[r]? = some (g r)
theorem Lk.same {H H' : Hp} {b : Addr} {l : List Nat} {g : Nat → Nat} (h : Lk H b l g) (s : Same H H') : Lk H' b l g := by
  rcases h with ⟨kvs, e, z⟩ | ⟨ns, e, z⟩
  · exact .inl ⟨kvs, s _ _ e, z⟩
  · exact .inr ⟨ns, s _ _ e, z⟩
/-! ### a table of marks -/
section
variable {α κ : Type} [DecidableEq α] [DecidableEq κ]
end
def keyL (l : List Nat) : List Key := l.map fun (n : Nat) => (Sum.inl (n : Int) : Key)
theorem keyL_inj : ∀ (a b : List Nat), keyL a = keyL b → a = b
  | [], [], _ => rfl
  | [], _ :: _, h => nomatch h
  | _ :: _, [], h => nomatch h
  | x :: a, y :: b, h => by
    rw [keyL, keyL, List.map_cons, List.map_cons, List.cons.injEq] at h
    rw [keyL_inj a b h.2]
    have e : (x : Int) = (y : Int) := Sum.inl.inj h.1
    rw [show x = y by omega]
/-! ### machines compared -/
section
variable {X : Cx} {H : Hp}
end
end SM

set_option linter.all false
/-! the first row that parts two machines: bare mathematics -/
namespace SM
def Lx : List Nat → List Nat → Prop
  | [], _ => True
  | a :: u, b :: v => a < b ∨ (a = b ∧ Lx u v)
  | _ :: _, [] => False
def SL (u v : List Nat) : Prop := u.length < v.length ∨ (u.length = v.length ∧ Lx u v)
theorem Lx.refl : ∀ u : List Nat, Lx u u
  | [] => trivial
  | a :: u => .inr ⟨rfl, Lx.refl u⟩
theorem Lx.trans : ∀ {u v x : List Nat}, Lx u v → Lx v x → Lx u x
  | [], _, _, _, _ => trivial
  | a :: u, b :: v, c :: x, h, k => by
    rcases h with h | ⟨rfl, h⟩
    · rcases k with k | ⟨rfl, k⟩
      · exact .inl (by omega)
      · exact .inl h
    · rcases k with k | ⟨rfl, k⟩
      · exact .inl k
      · exact .inr ⟨rfl, Lx.trans h k⟩
  | _ :: _, [], _, h, _ => h.elim
  | _ :: _, _ :: _, [], _, h => h.elim
theorem Lx.anti : ∀ {u v : List Nat}, u.length = v.length → Lx u v → Lx v u → u = v
  | [], [], _, _, _ => rfl
  | a :: u, b :: v, e, h, k => by
    have e' : u.length = v.length := by simpa using e
    rcases h with h | ⟨rfl, h⟩
    · rcases k with k | ⟨rfl, k⟩ <;> omega
    · rcases k with k | ⟨_, k⟩
      · omega
      · rw [Lx.anti e' h k]
  | [], _ :: _, e, _, _ => by simp at e
  | _ :: _, [], e, _, _ => by simp at e
theorem Lx.snoc : ∀ {u v : List Nat} {c d : Nat}, u.length = v.length → Lx u v → (u = v → c ≤ d) → Lx (u ++ [c]) (v ++ [d])
  | [], [], c, d, _, _, h => by
    have := h rfl
    show c < d ∨ (c = d ∧ True)
    by_cases e : c = d
    · exact .inr ⟨e, trivial⟩
    · exact .inl (by omega)
  | a :: u, b :: v, c, d, e, h, k => by
    have e' : u.length = v.length := by simpa using e
    show a < b ∨ (a = b ∧ Lx (u ++ [c]) (v ++ [d]))
    rcases h with h | ⟨rfl, h⟩
    · exact .inl h
    · exact .inr ⟨rfl, Lx.snoc e' h fun z => k (by rw [z])⟩
  | [], _ :: _, _, _, e, _, _ => by simp at e
  | _ :: _, [], _, _, e, _, _ => by simp at e
theorem SL.refl (u : List Nat) : SL u u := .inr ⟨rfl, Lx.refl u⟩
theorem SL.trans {u v x : List Nat} (h : SL u v) (k : SL v x) : SL u x := by
  rcases h with h | ⟨e, h⟩
  · rcases k with k | ⟨f, k⟩ <;> exact .inl (by omega)
  · rcases k with k | ⟨f, k⟩
    · exact .inl (by omega)
    · exact .inr ⟨by omega, h.trans k⟩
theorem SL.anti {u v : List Nat} (h : SL u v) (k : SL v u) : u = v := by
  rcases h with h | ⟨e, h⟩
  · rcases k with k | ⟨f, k⟩ <;> omega
  · rcases k with k | ⟨f, k⟩
    · omega
    · exact h.anti e k
theorem SL.snoc {u v : List Nat} {c d : Nat} (h : SL u v) (k : u = v → c ≤ d) : SL (u ++ [c]) (v ++ [d]) := by
  rcases h with h | ⟨e, h⟩
  · exact .inl (by simpa using h)
  · exact .inr ⟨by simpa using e, h.snoc e k⟩
theorem SL.nil (u : List Nat) : SL [] u := by
  cases u with
  | nil => exact SL.refl _
  | cons a u => exact .inl (by simp)
theorem SL.le {u v : List Nat} (h : SL u v) : u.length ≤ v.length := by rcases h with h | ⟨e, _⟩ <;> omega
/-- pairs come to, each with its row -/
structure PRow (m1 m2 : Mc) (ls rws : List (List Nat)) (at' l : Nat) : Prop where
  len : rws.length = ls.length
  first : rws[0]? = some []
  zero : ls[0]? = some [0, 0]
  nd : ls.Nodup
  sound : ∀ (i : Nat) x u, ls[i]? = some x → rws[i]? = some u → m1.Row u ∧ x = [m1.run 0 u, m2.run 0 u] ∧ u.length ≤ i
  mono : ∀ (i j : Nat) u v, i ≤ j → rws[i]? = some u → rws[j]? = some v → SL u v
  par : ∀ (j : Nat) v, 0 < j → rws[j]? = some v → ∃ (r' l' : Nat) (u : List Nat), Lex r' l' at' l ∧ rws[r']? = some u ∧ v = u ++ [l']
  clos : ∀ (i l' a b : Nat) u, Lex i l' at' l → l' < 2 ^ m1.w → ls[i]? = some [a, b] → rws[i]? = some u → ∃ (t : Nat) (v : List Nat), ls[t]? = some [m1.go a l', m2.go b l'] ∧ rws[t]? = some v ∧ SL v (u ++ [l'])
theorem some_of {α : Type} {xs : List α} {i : Nat} (h : i < xs.length) : ∃ x, xs[i]? = some x := ⟨_, List.getElem?_eq_getElem h⟩
theorem lt_of {α : Type} {xs : List α} {i : Nat} {x : α} (h : xs[i]? = some x) : i < xs.length := (List.getElem?_eq_some_iff.mp h).1
theorem PRow.start (m1 m2 : Mc) : PRow m1 m2 [[0, 0]] [[]] 0 0 := by
  refine ⟨rfl, rfl, rfl, by simp, fun i x u h1 h2 => ?_, fun i j u v hij h1 h2 => ?_, fun j v h1 h2 => ?_, fun i l' a b u lx => by rcases lx with z | ⟨_, z⟩ <;> omega⟩
  · have h := lt_of h1
    simp only [List.length_singleton] at h
    have e : i = 0 := by omega
    subst e
    simp only [List.getElem?_cons_zero, Option.some.injEq] at h1 h2
    subst h1; subst h2
    exact ⟨Mc.Row.nil _, rfl, Nat.le_refl _⟩
  · have h := lt_of h2
    simp only [List.length_singleton] at h
    have e : i = 0 := by omega
    subst e
    simp only [List.getElem?_cons_zero, Option.some.injEq] at h1
    subst h1
    exact SL.nil _
  · have h := lt_of h2
    simp only [List.length_singleton] at h
    omega
section
variable {m1 m2 : Mc} {ls rws : List (List Nat)} {at' l : Nat}
theorem PRow.below (c : PRow m1 m2 ls rws at' l) {u : List Nat} (hu : rws[at']? = some u) {j : Nat} {v : List Nat} (hv : rws[j]? = some v) : SL v (u ++ [l]) := by
  by_cases hj : j = 0
  · subst hj
    rw [c.first] at hv
    cases hv
    exact SL.nil _
  · obtain ⟨r', l', u', lx, h1, rfl⟩ := c.par j v (by omega) hv
    rcases lx with h | ⟨rfl, h⟩
    · refine (c.mono r' at' u' u (by omega) h1 hu).snoc fun e => ?_
      subst e
      obtain ⟨x, hx⟩ := some_of (xs := ls) (i := r') (by rw [← c.len]; exact lt_of h1)
      obtain ⟨y, hy⟩ := some_of (xs := ls) (i := at') (by rw [← c.len]; exact lt_of hu)
      have e1 := (c.sound r' x u' hx h1).2.1
      have e2 := (c.sound at' y u' hy hu).2.1
      have exy : x = y := e1.trans e2.symm
      have := (List.getElem?_inj (lt_of hx) c.nd).mp (hx.trans (by rw [exy]; exact hy.symm))
      omega
    · rw [hu] at h1
      cases h1
      exact (SL.refl u).snoc fun _ => by omega
theorem PRow.old (c : PRow m1 m2 ls rws at' l) {a b : Nat} (ha : ls[at']? = some [a, b]) (hk : [m1.go a l, m2.go b l] ∈ ls) : PRow m1 m2 ls rws at' (l + 1) := by
  refine ⟨c.len, c.first, c.zero, c.nd, c.sound, c.mono, fun j v h1 h2 => ?_, fun i l' x y u lx hl e hu => ?_⟩
  · obtain ⟨r', l', u, lx, h3, h4⟩ := c.par j v h1 h2
    exact ⟨r', l', u, lex_up lx, h3, h4⟩
  · rcases lex_next lx with lx | ⟨rfl, rfl⟩
    · exact c.clos i l' x y u lx hl e hu
    · rw [ha] at e
      cases e
      obtain ⟨t, ht, et⟩ := List.getElem_of_mem hk
      obtain ⟨v, hv⟩ := some_of (xs := rws) (i := t) (by rw [c.len]; exact ht)
      exact ⟨t, v, by rw [List.getElem?_eq_getElem ht, et], hv, c.below hu hv⟩
theorem snoc_at {α : Type} {xs : List α} {y x : α} {i : Nat} (h : (xs ++ [y])[i]? = some x) : xs[i]? = some x ∨ (i = xs.length ∧ x = y) := by
  by_cases hi : i < xs.length
  · rw [List.getElem?_append_left hi] at h; exact .inl h
  · have := lt_of h
    rw [List.length_append, List.length_singleton] at this
    have e : i = xs.length := by omega
    subst e
    rw [List.getElem?_append_right (Nat.le_refl _), Nat.sub_self] at h
    simp only [List.getElem?_cons_zero, Option.some.injEq] at h
    exact .inr ⟨rfl, h.symm⟩
theorem snoc_up {α : Type} {xs : List α} {y x : α} {i : Nat} (h : xs[i]? = some x) : (xs ++ [y])[i]? = some x := by rw [List.getElem?_append_left (lt_of h)]; exact h
theorem snoc_last {α : Type} (xs : List α) (y : α) : (xs ++ [y])[xs.length]? = some y := by simp
theorem PRow.new (c : PRow m1 m2 ls rws at' l) (hl : l < 2 ^ m1.w) {a b : Nat} {u : List Nat} (ha : ls[at']? = some [a, b]) (hu : rws[at']? = some u) (hk : ¬ [m1.go a l, m2.go b l] ∈ ls) :
    PRow m1 m2 (ls ++ [[m1.go a l, m2.go b l]]) (rws ++ [u ++ [l]]) at' (l + 1) := by
  have hat : at' < ls.length := lt_of ha
  have su := c.sound at' _ u ha hu
  have eab := su.2.1
  rw [List.cons.injEq, List.cons.injEq] at eab
  refine ⟨by simp [c.len], snoc_up c.first, snoc_up c.zero, ?_, fun i x v h1 h2 => ?_, fun i j x v hij h1 h2 => ?_, fun j v h1 h2 => ?_, fun i l' x y v lx hl' e hv => ?_⟩
  · refine List.nodup_append.mpr ⟨c.nd, by simp, fun x hx y hy => ?_⟩
    rw [List.mem_singleton.mp hy]
    intro e; rw [e] at hx; exact hk hx
  · rcases snoc_at h1 with h1 | ⟨rfl, rfl⟩
    · rcases snoc_at h2 with h2 | ⟨rfl, rfl⟩
      · exact c.sound i x v h1 h2
      · have := lt_of h1
        rw [c.len] at this
        omega
    · rw [← c.len, snoc_last] at h2
      cases h2
      refine ⟨fun z hz => ?_, by rw [run_more, run_more, ← eab.1, ← eab.2.1], ?_⟩
      · rcases List.mem_append.mp hz with h | h
        · exact su.1 z h
        · rw [List.mem_singleton.mp h]; exact hl
      · have := su.2.2
        rw [List.length_append, List.length_singleton]
        omega
  · rcases snoc_at h2 with h2 | ⟨rfl, rfl⟩
    · have := lt_of h2
      rcases snoc_at h1 with h1 | ⟨rfl, rfl⟩
      · exact c.mono i j x v hij h1 h2
      · omega
    · rcases snoc_at h1 with h1 | ⟨rfl, rfl⟩
      · exact c.below hu h1
      · exact SL.refl _
  · rcases snoc_at h2 with h2 | ⟨rfl, rfl⟩
    · obtain ⟨r', l', x, lx, h3, h4⟩ := c.par j v h1 h2
      exact ⟨r', l', x, lex_up lx, snoc_up h3, h4⟩
    · exact ⟨at', l, u, .inr ⟨rfl, by omega⟩, snoc_up hu, rfl⟩
  · rcases lex_next lx with lx | ⟨rfl, rfl⟩
    · have hi : i < ls.length := by rcases lx with z | ⟨z, _⟩ <;> omega
      rw [List.getElem?_append_left hi] at e
      rw [List.getElem?_append_left (by rw [c.len]; exact hi)] at hv
      obtain ⟨t, z, h1, h2, h3⟩ := c.clos i l' x y v lx hl' e hv
      exact ⟨t, z, snoc_up h1, snoc_up h2, h3⟩
    · rw [snoc_up ha] at e
      rw [snoc_up hu] at hv
      cases e
      cases hv
      exact ⟨ls.length, u ++ [l'], snoc_last _ _, by rw [← c.len]; exact snoc_last _ _, SL.refl _⟩
theorem lex_turn {i l' a k : Nat} (hl : l' < k) (lx : Lex i l' (a + 1) 0) : Lex i l' a k := by
  rcases lx with z | ⟨_, z⟩
  · by_cases h : i = a
    · exact .inr ⟨h, hl⟩
    · exact .inl (by omega)
  · omega
theorem PRow.turn (c : PRow m1 m2 ls rws at' (2 ^ m1.w)) : PRow m1 m2 ls rws (at' + 1) 0 :=
  ⟨c.len, c.first, c.zero, c.nd, c.sound, c.mono, fun j v h1 h2 => let ⟨r', l', u, lx, h3, h4⟩ := c.par j v h1 h2; ⟨r', l', u, .inl (by rcases lx with z | ⟨z, _⟩ <;> omega), h3, h4⟩,
    fun i l' x y u lx hl e hu => c.clos i l' x y u (lex_turn hl lx) hl e hu⟩
/-- the truths of the pairs looked at -/
def Quiet (m1 m2 : Mc) (ls : List (List Nat)) (at' : Nat) : Prop := ∀ (i a b : Nat), i < at' → ls[i]? = some [a, b] → m1.fin a = m2.fin b
theorem Quiet.zero : Quiet m1 m2 ls 0 := fun i a b h => by omega
theorem Quiet.next (q : Quiet m1 m2 ls at') {a b : Nat} (ha : ls[at']? = some [a, b]) (h : m1.fin a = m2.fin b) : Quiet m1 m2 ls (at' + 1) := fun i x y hi e => by
  by_cases z : i = at'
  · subst z; rw [ha] at e; cases e; exact h
  · exact q i x y (by omega) e
theorem Quiet.more (q : Quiet m1 m2 ls at') (h : at' ≤ ls.length) {ys : List (List Nat)} : Quiet m1 m2 (ls ++ ys) at' := fun i x y hi e => by
  rw [List.getElem?_append_left (by omega)] at e
  exact q i x y hi e
/-- the first row that parts both -/
structure Least (m1 m2 : Mc) (u : List Nat) : Prop where
  row : m1.Row u
  dif : m1.fin (m1.run 0 u) ≠ m2.fin (m2.run 0 u)
  least : ∀ v, m1.Row v → m1.fin (m1.run 0 v) ≠ m2.fin (m2.run 0 v) → SL u v
theorem Least.one {u v : List Nat} (h : Least m1 m2 u) (k : Least m1 m2 v) : u = v := (h.least v k.row k.dif).anti (k.least u h.row h.dif)
theorem Least.symm {u : List Nat} (h : Least m1 m2 u) (hw : m1.w = m2.w) : Least m2 m1 u :=
  ⟨fun l hl => by rw [← hw]; exact h.row l hl, fun e => h.dif e.symm, fun v hv d => h.least v (fun l hl => by rw [hw]; exact hv l hl) fun e => d e.symm⟩
theorem Least.not {u : List Nat} (h : Least m1 m2 u) (p : Par m1 0 m2 0) : False := h.dif (p u h.row)
/-- of any row: its pair stands with a row no greater, or an earlier part of it leads to a pair not yet gone from -/
theorem PRow.cover (c : PRow m1 m2 ls rws at' 0) : ∀ n (u : List Nat), u.length = n → m1.Row u →
    (∃ (i : Nat) (v : List Nat), ls[i]? = some [m1.run 0 u, m2.run 0 u] ∧ rws[i]? = some v ∧ SL v u) ∨ ∃ (i : Nat) (v : List Nat), at' ≤ i ∧ rws[i]? = some v ∧ v.length < u.length := by
  intro n
  induction n with
  | zero =>
    intro u e hu
    have : u = [] := List.eq_nil_of_length_eq_zero e
    subst this
    exact .inl ⟨0, [], c.zero, c.first, SL.refl _⟩
  | succ n ih =>
    intro u e hu
    have hne : u ≠ [] := by intro z; rw [z] at e; simp at e
    obtain ⟨u0, x, rfl⟩ : ∃ u0 x, u = u0 ++ [x] := ⟨_, _, (List.dropLast_concat_getLast hne).symm⟩
    have e0 : u0.length = n := by simpa using e
    have hx : x < 2 ^ m1.w := hu x (by simp)
    have hu0 : m1.Row u0 := fun z hz => hu z (List.mem_append_left _ hz)
    rw [run_more, run_more]
    rcases ih u0 e0 hu0 with ⟨i, v, h1, h2, h3⟩ | ⟨i, v, h1, h2, h3⟩
    · by_cases hi : i < at'
      · obtain ⟨t, z, h4, h5, h6⟩ := c.clos i x _ _ v (.inl hi) hx h1 h2
        exact .inl ⟨t, z, h4, h5, h6.trans (h3.snoc fun _ => Nat.le_refl _)⟩
      · have := h3.le
        exact .inr ⟨i, v, by omega, h2, by rw [List.length_append, List.length_singleton]; omega⟩
    · exact .inr ⟨i, v, h1, h2, by rw [List.length_append, List.length_singleton]; omega⟩
theorem none_of (c : PRow m1 m2 ls rws ls.length 0) (q : Quiet m1 m2 ls ls.length) : Par m1 0 m2 0 := fun v hv => by
  rcases c.cover _ v rfl hv with ⟨i, x, h1, h2, h3⟩ | ⟨i, x, h1, h2, h3⟩
  · exact q i _ _ (lt_of h1) h1
  · have := lt_of h2
    rw [c.len] at this
    omega
end
end SM

set_option Elab.async false
set_option linter.all false
set_option maxRecDepth 100000
/-! MACHINES PARTED: the heap's side -/
namespace SM
open PySem PySem.Spec PyProof.Rows L2 SS
/-- the dict of rows: for each pair its row, in lists that are new, none of them at p -/
structure RowD (H0 H : Hp) (p : Addr) (kvs : List (List Key × V)) (ls rws : List (List Nat)) : Prop where
  len : kvs.length = ls.length
  out : ∀ x, ¬ x ∈ ls → valV kvs (keyL x) = none
  at' : ∀ (i : Nat) x u, ls[i]? = some x → rws[i]? = some u → ∃ D, valV kvs (keyL x) = some (.ref D) ∧ H0 D = none ∧ D ≠ p ∧ H D = some (.lst (u.map nV))
theorem RowD.keep {H0 H H' : Hp} {p : Addr} {kvs : List (List Key × V)} {ls rws : List (List Nat)} (r : RowD H0 H p kvs ls rws) (k : ∀ D xs, D ≠ p → H D = some (.lst xs) → H' D = some (.lst xs)) : RowD H0 H' p kvs ls rws :=
  ⟨r.len, r.out, fun i x u h1 h2 => let ⟨D, e1, e2, e3, e4⟩ := r.at' i x u h1 h2; ⟨D, e1, e2, e3, k D _ e3 e4⟩⟩
theorem RowD.put {H0 H : Hp} {p D : Addr} {kvs : List (List Key × V)} {ls rws : List (List Nat)} {x u : List Nat} (r : RowD H0 H p kvs ls rws) (hl : rws.length = ls.length) (hx : ¬ x ∈ ls) (h0 : H0 D = none) (hp : D ≠ p) (hD : H D = some (.lst (u.map nV))) :
    RowD H0 H p (putK kvs (keyL x) (.ref D)) (ls ++ [x]) (rws ++ [u]) := by
  refine ⟨?_, fun y hy => ?_, fun i y v h1 h2 => ?_⟩
  · rw [putK_new _ (r.out x hx), List.length_append, List.length_append, r.len]; rfl
  · rw [List.mem_append, not_or, List.mem_singleton] at hy
    rw [valV_put, if_neg (fun e => hy.2 (keyL_inj _ _ e))]
    exact r.out y hy.1
  · rcases snoc_at h1 with h1 | ⟨rfl, rfl⟩
    · have hi := lt_of h1
      rw [List.getElem?_append_left (by omega)] at h2
      rw [valV_put, if_neg (fun e => hx (by rw [← keyL_inj _ _ e]; exact List.mem_of_getElem? h1))]
      exact r.at' i y v h1 h2
    · rw [← hl, snoc_last] at h2
      cases h2
      rw [valV_put, if_pos rfl]
      exact ⟨D, rfl, h0, hp, hD⟩
end SM

set_option Elab.async false
set_option linter.all false
set_option maxRecDepth 100000
/-! SORTS BY A FUNCTION: promises -/
namespace SM
open PySem PySem.Spec PyProof.Rows L2 SS
theorem SameN.tups {H H' : Hp} (g : SameN H H') : TupS H H' := fun b xs e => g b _ e fun _ _ z => nomatch z
end SM

set_option Elab.async false
set_option linter.all false
set_option maxRecDepth 100000
/-! refusals of machines: promises -/
namespace SM
open PySem PySem.Spec PyProof.Rows L2 SS
abbrev veM : List Value := [.type "ValueError", .type "Exception", .type "BaseException", .type "object"]
section
variable {X : Cx} {H : Hp}
end
end SM

set_option Elab.async false
set_option linter.all false
set_option maxRecDepth 100000
/-! machines flipped, widened: promises, and letters without a track -/
namespace SM
open PySem PySem.Spec PyProof.Rows L2 SS
def others (w t : Nat) : List Nat := (List.range (w + 1)).filter fun k => k != t
def less (t l : Nat) : Nat := l % 2 ^ t + l / 2 ^ (t + 1) * 2 ^ t
def back (bs : List Nat) : Nat := bs.reverse.foldl (fun f b => 2 * f + b) 0
end SM

set_option linter.all false
set_option maxRecDepth 100000
/-! the shortest row of a machine: by layers; promises -/
namespace SM
open PySem PySem.Spec PyProof.Rows L2 SS
structure Best (m : Mc) (u : List Nat) : Prop where
  row : m.Row u
  acc : m.fin (m.run 0 u) = true
  least : ∀ v, m.Row v → m.fin (m.run 0 v) = true → SL u v
theorem Best.one {m : Mc} {u v : List Nat} (h : Best m u) (k : Best m v) : u = v := (h.least v k.row k.acc).anti (k.least u h.row h.acc)
structure BestAt (m : Mc) (r j : Nat) (u : List Nat) : Prop where
  row : m.Row u
  len : u.length = j
  acc : m.fin (m.run r u) = true
  least : ∀ v, m.Row v → v.length = j → m.fin (m.run r v) = true → Lx u v
def sp_mixed : Sp := fun vs H Q _ => ∃ (c : Int), vs = [.int c] ∧ ∀ r : Int, 0 ≤ r → r < 999999999989 → Q (.int r) H
def MachQ (wd : Int) (H : Hp) (Q : VK) : Prop := ∀ p m H', Same H H' → RepM H' p m → m.Ok → (m.w : Int) = wd → m.n ≤ 9 → Q (.ref p) H'
def sp_freeM : Sp := fun vs H Q _ => ∃ (num wd : Int), vs = [.int num, .int wd, .int 9] ∧ 0 ≤ wd ∧ wd ≤ 4 ∧ MachQ wd H Q
def sp_machS (K : PySem.W.Frag) : Sp := fun vs H Q _ => ∃ (a : Addr) (ns : List Int) (wd : Int), vs = [.ref a, .int wd, .int 9] ∧ SqL K H a (ns.map V.int) ∧ ns.length ≤ 63 ∧ 0 ≤ wd ∧ wd ≤ 4 ∧ MachQ wd H Q
end SM

set_option linter.all false
/-! how many rows a machine takes -/
namespace SM
def cnt (m : Mc) : Nat → Nat → Nat
  | 0, r => if m.fin r = true then 1 else 0
  | k + 1, r => ((m.ways.getD r []).map (cnt m k)).sum
/-- the counts of all rooms, for rows of k letters -/
def cl (m : Mc) (k : Nat) : List Nat := (List.range m.ends.length).map (cnt m k)
theorem cl_len (m : Mc) (k : Nat) : (cl m k).length = m.ends.length := by rw [cl, List.length_map, List.length_range]
theorem cl_at {m : Mc} {k r : Nat} (h : r < m.ends.length) : (cl m k)[r]? = some (cnt m k r) := by
  rw [cl, List.getElem?_map, List.getElem?_range h]; rfl
theorem cl_zero (m : Mc) : cl m 0 = m.ends.map fun b => if b = true then 1 else 0 := by
  refine List.ext_getElem? fun i => ?_
  by_cases h : i < m.ends.length
  · rw [cl_at h, List.getElem?_map, List.getElem?_eq_getElem h]
    show some (if m.ends.getD i false = true then 1 else 0) = some _
    rw [List.getD_eq_getElem?_getD, List.getElem?_eq_getElem h]
    rfl
  · rw [List.getElem?_eq_none (by rw [cl_len]; omega), List.getElem?_eq_none (by rw [List.length_map]; omega)]
theorem cl_succ {m : Mc} (ok : m.Ok) (k : Nat) : cl m (k + 1) = m.ways.map fun line => (line.map (cnt m k)).sum := by
  refine List.ext_getElem? fun i => ?_
  by_cases h : i < m.ends.length
  · have h' : i < m.ways.length := by rw [ok.len]; exact h
    rw [cl_at h, List.getElem?_map, List.getElem?_eq_getElem h']
    show some (((m.ways.getD i []).map (cnt m k)).sum) = some _
    rw [List.getD_eq_getElem?_getD, List.getElem?_eq_getElem h']
    rfl
  · rw [List.getElem?_eq_none (by rw [cl_len]; omega), List.getElem?_eq_none (by rw [List.length_map, ok.len]; omega)]
theorem line_is {m : Mc} (ok : m.Ok) {r : Nat} (h : r < m.ends.length) : m.ways.getD r [] = (List.range (2 ^ m.w)).map (m.go r) := by
  have h' : r < m.ways.length := by rw [ok.len]; exact h
  have e : m.ways.getD r [] = m.ways[r] := by rw [List.getD_eq_getElem?_getD, List.getElem?_eq_getElem h']; rfl
  have hl : (m.ways.getD r []).length = 2 ^ m.w := by rw [e]; exact ok.line _ (List.getElem_mem h')
  refine List.ext_getElem? fun i => ?_
  by_cases hi : i < 2 ^ m.w
  · rw [List.getElem?_map, List.getElem?_range hi]
    show _ = some ((m.ways.getD r []).getD i 0)
    rw [List.getD_eq_getElem?_getD (l := m.ways.getD r []), List.getElem?_eq_getElem (by rw [hl]; exact hi)]
    rfl
  · rw [List.getElem?_eq_none (by rw [hl]; omega), List.getElem?_eq_none (by rw [List.length_map, List.length_range]; omega)]
theorem cnt_succ {m : Mc} (ok : m.Ok) {r : Nat} (h : r < m.ends.length) (k : Nat) : cnt m (k + 1) r = ((List.range (2 ^ m.w)).map fun l => cnt m k (m.go r l)).sum := by
  show ((m.ways.getD r []).map (cnt m k)).sum = _
  rw [line_is ok h, List.map_map]
  rfl
theorem go_lt {m : Mc} (ok : m.Ok) {r l : Nat} (hr : r < m.ends.length) (hl : l < 2 ^ m.w) : m.go r l < m.ends.length := by
  obtain ⟨_, _, _, h⟩ := ok.at hr hl
  exact h
theorem sum_const {α : Type} (c : Nat) : ∀ (xs : List α), (xs.map fun _ => c).sum = xs.length * c
  | [] => by simp
  | x :: xs => by rw [List.map_cons, List.sum_cons, sum_const c xs, List.length_cons, Nat.add_mul]; omega
theorem sum_congr {α : Type} {f g : α → Nat} {xs : List α} (h : ∀ x ∈ xs, f x = g x) : (xs.map f).sum = (xs.map g).sum := by
  rw [List.map_congr_left h]
/-! ### forwards -/
def dot : List Int → (Nat → Int) → Int
  | [], _ => 0
  | x :: xs, f => x * f 0 + dot xs fun i => f (i + 1)
/-- in the midst of a step: rooms before r are done, and of r the first letters -/
structure Mid (m : Mc) (cs : List Int) (r l : Nat) (as : List Int) : Prop where
  len : as.length = m.ends.length
  is : ∀ j, dot as (fun b => (cnt m j b : Int)) = dot (cs.take r) (fun r' => (cnt m (j + 1) r' : Int)) + (cs.getD r 0) * (((m.ways.getD r []).take l).map (cnt m j)).sum
/-! ### all rows, one by one -/
def allR (w : Nat) : Nat → List (List Nat)
  | 0 => [[]]
  | k + 1 => (allR w k).flatMap fun row => (List.range (2 ^ w)).map fun l => row ++ [l]
theorem allR_ok {w : Nat} : ∀ (k : Nat) (row : List Nat), row ∈ allR w k → row.length = k ∧ ∀ l ∈ row, l < 2 ^ w
  | 0, row, h => by
    simp [allR] at h
    subst h
    exact ⟨rfl, fun l hl => by cases hl⟩
  | k + 1, row, h => by
    obtain ⟨r, hr, h⟩ := List.mem_flatMap.mp h
    obtain ⟨l, hl, rfl⟩ := List.mem_map.mp h
    obtain ⟨e, hh⟩ := allR_ok k r hr
    refine ⟨by rw [List.length_append, e]; rfl, fun x hx => ?_⟩
    rcases List.mem_append.mp hx with hx | hx
    · exact hh x hx
    · rw [List.mem_singleton.mp hx]; exact List.mem_range.mp hl
theorem sum_flatMap {α β : Type} (f : β → Nat) (g : α → List β) : ∀ (xs : List α), ((xs.flatMap g).map f).sum = (xs.map fun x => ((g x).map f).sum).sum
  | [] => rfl
  | x :: xs => by rw [List.flatMap_cons, List.map_append, List.sum_append, sum_flatMap f g xs, List.map_cons, List.sum_cons]
theorem all_sum {m : Mc} (ok : m.Ok) : ∀ (k j : Nat), ((allR m.w k).map fun row => cnt m j (m.run 0 row)).sum = cnt m (k + j) 0
  | 0, j => by
    show cnt m j 0 + 0 = _
    rw [Nat.zero_add]; rfl
  | k + 1, j => by
    show (((allR m.w k).flatMap fun row => (List.range (2 ^ m.w)).map fun l => row ++ [l]).map _).sum = _
    rw [sum_flatMap, show k + 1 + j = k + (j + 1) by omega, ← all_sum ok k (j + 1)]
    refine sum_congr fun row hr => ?_
    rw [List.map_map, cnt_succ ok (ok.run_lt row 0 ok.pos (allR_ok k row hr).2)]
    refine sum_congr fun l _ => ?_
    show cnt m j (m.run 0 (row ++ [l])) = _
    rw [Mc.run_snoc]
theorem sum_ones {α : Type} (p : α → Bool) : ∀ (xs : List α), (xs.map fun x => if p x = true then 1 else 0).sum = (xs.filter p).length
  | [] => rfl
  | x :: xs => by
    rw [List.map_cons, List.sum_cons, sum_ones p xs, List.filter_cons]
    cases p x
    · simp
    · simp; omega
theorem all_count {m : Mc} (ok : m.Ok) (k : Nat) : ((allR m.w k).filter fun row => m.fin (m.run 0 row)).length = cnt m k 0 := by
  have := all_sum ok k 0
  rw [Nat.add_zero] at this
  rw [← this, ← sum_ones]
  rfl
theorem allR_len (w : Nat) : ∀ k, (allR w k).length = (2 ^ w) ^ k
  | 0 => rfl
  | k + 1 => by
    show ((allR w k).flatMap _).length = _
    rw [List.length_flatMap]
    simp only [List.length_map, List.length_range]
    rw [sum_const, allR_len w k, Nat.pow_succ]
/-- all rows of at most k letters -/
def uptoR (w : Nat) : Nat → List (List Nat)
  | 0 => [[]]
  | k + 1 => uptoR w k ++ allR w (k + 1)
theorem uptoR_lt (w : Nat) : ∀ (k : Nat) (row : List Nat), row ∈ uptoR w k → row.length ≤ k ∧ ∀ l ∈ row, l < 2 ^ w
  | 0, row, h => by
    simp [uptoR] at h
    subst h
    exact ⟨Nat.le_refl _, fun l hl => by cases hl⟩
  | k + 1, row, h => by
    rcases List.mem_append.mp h with h | h
    · have := uptoR_lt w k row h
      exact ⟨by omega, this.2⟩
    · have := allR_ok (k + 1) row h
      exact ⟨by omega, this.2⟩
theorem upto_of (w : Nat) : ∀ (k j : Nat), j ≤ k → (uptoR w k).filter (fun row => row.length == j) = allR w j
  | 0, j, h => by
    have : j = 0 := by omega
    subst this
    rfl
  | k + 1, j, h => by
    show (uptoR w k ++ allR w (k + 1)).filter _ = _
    rw [List.filter_append]
    by_cases e : j = k + 1
    · subst e
      rw [List.filter_eq_nil_iff.mpr (fun row hr => by have := (uptoR_lt w k row hr).1; simp; omega), List.nil_append]
      exact List.filter_eq_self.mpr fun row hr => by have := (allR_ok (k + 1) row hr).1; simp [this]
    · rw [upto_of w k j (by omega), List.filter_eq_nil_iff.mpr (fun row hr => by have := (allR_ok (k + 1) row hr).1; simp; omega), List.append_nil]
end SM

set_option Elab.async false
set_option linter.all false
set_option maxRecDepth 100000
/-! counting rows: promises -/
namespace SM
open PySem PySem.Spec PyProof.Rows L2 SS
def NoLen (H : Hp) (v : V) (n : Int) : Prop := (∃ r : Int, v = .int r ∧ ¬ (0 ≤ r ∧ r < n)) ∨ ∃ k, Kd H v k ∧ k ≠ "int"
def sp_wholeX : Sp := fun vs H Q _ => ∃ v, vs = [v] ∧ ((∃ r : Int, v = .int r ∧ Q (.bl true) H) ∨ ∃ k, Kd H v k ∧ k ≠ "int" ∧ Q (.bl false) H)
def sp_belowX : Sp := fun vs H Q _ => ∃ (v : V) (n : Int), vs = [v, .int n] ∧ ((∃ r : Int, v = .int r ∧ 0 ≤ r ∧ r < n ∧ Q (.bl true) H) ∨ (NoLen H v n ∧ Q (.bl false) H))
def CntL (m : Mc) (H : Hp) (v : V) (k : Nat) : Prop := ∃ c, v = .ref c ∧ H c = some (.lst ((cl m k).map nV))
theorem CntL.same {m : Mc} {H H' : Hp} {v : V} {k : Nat} (h : CntL m H v k) (g : Same H H') : CntL m H' v k := let ⟨c, e, z⟩ := h; ⟨c, e, g _ _ z⟩
def sp_more : Sp := fun vs H Q _ => ∃ (a c : Addr) (m : Mc) (k : Nat), vs = [.ref a, .ref c] ∧ RepM H a m ∧ m.Ok ∧ H c = some (.lst ((cl m k).map nV)) ∧ ∀ D H', H D = none → Same H H' → H' D = some (.lst ((cl m (k + 1)).map nV)) → Q (.ref D) H'
def FromQ (m : Mc) (L : Nat) (H : Hp) (Q : VK) : Prop := ∀ D rs H', H D = none → Same H H' → H' D = some (.lst rs) → Paired (CntL m H') rs (List.range (L + 1)) → Q (.ref D) H'
def sp_from : Sp := fun vs H Q _ => ∃ (a : Addr) (m : Mc) (L : Nat), vs = [.ref a, nV L] ∧ RepM H a m ∧ m.Ok ∧ L ≤ 100 ∧ FromQ m L H Q
def sp_checkL (C : Addr) : Sp := fun vs H Q E => ∃ (v : V), vs = [v] ∧ ((∃ L : Nat, v = nV L ∧ L ≤ 100 ∧ Q .non H) ∨ (NoLen H v 101 ∧ ∀ e, H e = none → E (.ref C) (some e) H))
def sp_many (C : Addr) : Sp := fun vs H Q E => ∃ (a : Addr) (m : Mc) (v : V), vs = [.ref a, v] ∧ RepM H a m ∧ m.Ok ∧ ((∃ L : Nat, v = nV L ∧ L ≤ 100 ∧ ∀ H', Same H H' → Q (nV (cnt m L 0)) H') ∨ (NoLen H v 101 ∧ ∀ e, H e = none → E (.ref C) (some e) H))
def sp_room (K : PySem.W.Frag) : Sp := fun vs H Q _ => ∃ (a b : Addr) (m : Mc) (row : List Nat), vs = [.ref a, .ref b] ∧ RepM H a m ∧ m.Ok ∧ SqL K H b (row.map nV) ∧ (∀ l ∈ row, l < 2 ^ m.w) ∧ row.length ≤ 300 ∧ Q (nV (m.run 0 row)) H
def sp_takesL (K : PySem.W.Frag) : Sp := fun vs H Q _ => ∃ (a b : Addr) (m : Mc) (row : List Nat), vs = [.ref a, .ref b] ∧ RepM H a m ∧ m.Ok ∧ SqL K H b (row.map nV) ∧ (∀ l ∈ row, l < 2 ^ m.w) ∧ row.length ≤ 300 ∧ Q (.bl (m.fin (m.run 0 row))) H
def RowL (H : Hp) (v : V) (row : List Nat) : Prop := ∃ a, v = .ref a ∧ H a = some (.lst (row.map nV))
theorem RowL.same {H H' : Hp} {v : V} {row : List Nat} (h : RowL H v row) (g : Same H H') : RowL H' v row := let ⟨c, e, z⟩ := h; ⟨c, e, g _ _ z⟩
def longer (w : Nat) (rows : List (List Nat)) : List (List Nat) := rows.flatMap fun row => (List.range (2 ^ w)).map fun l => row ++ [l]
def sp_longer : Sp := fun vs H Q _ => ∃ (D : Addr) (xs : List V) (rows : List (List Nat)) (w : Nat), vs = [.ref D, nV w] ∧ H D = some (.lst xs) ∧ Paired (RowL H) xs rows ∧ rows.length ≤ 16 ∧ (∀ row ∈ rows, row.length ≤ 10) ∧ w ≤ 4 ∧
  ∀ D' xs' H', Same H H' → H' D' = some (.lst xs') → Paired (RowL H') xs' (longer w rows) → Q (.ref D') H'
def sp_rowsU : Sp := fun vs H Q _ => ∃ (w k : Nat), vs = [nV w, nV k] ∧ w * k ≤ 8 ∧ k ≤ 3 ∧ w ≤ 4 ∧ ∀ D' xs' H', Same H H' → H' D' = some (.lst xs') → Paired (RowL H') xs' (uptoR w k) → Q (.ref D') H'
def fC (m : Mc) (k : Nat) : V → V := fun v => match v with | .int i => nV (cnt m k i.toNat) | _ => .non
theorem fC_n (m : Mc) (k r : Nat) : fC m k (nV r) = nV (cnt m k r) := by show nV (cnt m k ((r : Int)).toNat) = _; rw [Int.toNat_natCast]
theorem sum_nV : ∀ (l : List Nat), (l.map fun (n : Nat) => (n : Int)).sum = ((l.sum : Nat) : Int)
  | [] => rfl
  | x :: l => by rw [List.map_cons, List.sum_cons, List.sum_cons, sum_nV l, Int.natCast_add]
theorem longer_snoc (w : Nat) (rows : List (List Nat)) (row : List Nat) : longer w (rows ++ [row]) = longer w rows ++ (List.range (2 ^ w)).map fun l => row ++ [l] := by
  unfold longer
  rw [List.flatMap_append]
  simp
theorem longer_len (w : Nat) (rows : List (List Nat)) : (longer w rows).length = rows.length * 2 ^ w := by
  unfold longer
  rw [List.length_flatMap]
  simp only [List.length_map, List.length_range]
  rw [sum_const]
def unI : V → Nat := fun v => match v with | .int i => i.toNat | _ => 0
def rowOf (H : Hp) (v : V) : List Nat := match v with | .ref a => (match H a with | some (.lst xs) => xs.map unI | _ => []) | _ => []
theorem rowOf_at {H : Hp} {v : V} {row : List Nat} (h : RowL H v row) : rowOf H v = row := by
  obtain ⟨a, rfl, e⟩ := h
  show (match H a with | some (.lst xs) => xs.map unI | _ => []) = row
  rw [e]
  show (row.map nV).map unI = row
  rw [List.map_map]
  exact (List.map_congr_left (g := id) fun n _ => by show ((n : Int)).toNat = n; rw [Int.toNat_natCast]).trans (List.map_id _)
theorem paired_filter {α β : Type} {R : α → β → Prop} {p : α → Bool} {q : β → Bool} (h : ∀ x y, R x y → p x = q y) : ∀ {xs : List α} {ys : List β}, Paired R xs ys → Paired R (xs.filter p) (ys.filter q)
  | _, _, .nil => .nil
  | x :: xs, y :: ys, .cons a t => by
    have ih := paired_filter h t
    have e := h x y a
    rw [List.filter_cons, List.filter_cons, e]
    cases q y
    · exact ih
    · exact .cons a ih
theorem pow16 {w k i : Nat} (hw : w ≤ 4) (hk : k ≤ 3) (hi : i < k) (h : w * k ≤ 8) : (2 ^ w) ^ i ≤ 16 := by
  have h1 : w = 0 ∨ w = 1 ∨ w = 2 ∨ w = 3 ∨ w = 4 := by omega
  have h2 : k = 1 ∨ k = 2 ∨ k = 3 := by omega
  have h3 : i = 0 ∨ i = 1 ∨ i = 2 := by omega
  rcases h1 with rfl | rfl | rfl | rfl | rfl <;> rcases h2 with rfl | rfl | rfl <;> rcases h3 with rfl | rfl | rfl <;> first | decide | omega
theorem upto300 {w k i : Nat} (hw : w ≤ 4) (hk : k ≤ 3) (hi : i ≤ k) (h : w * k ≤ 8) : (uptoR w i).length ≤ 300 := by
  have h1 : w = 0 ∨ w = 1 ∨ w = 2 ∨ w = 3 ∨ w = 4 := by omega
  have h2 : k = 0 ∨ k = 1 ∨ k = 2 ∨ k = 3 := by omega
  have h3 : i = 0 ∨ i = 1 ∨ i = 2 ∨ i = 3 := by omega
  rcases h1 with rfl | rfl | rfl | rfl | rfl <;> rcases h2 with rfl | rfl | rfl | rfl <;> rcases h3 with rfl | rfl | rfl | rfl <;> first | omega | simp [uptoR, allR_len]
end SM

set_option linter.all false
/-! rows by their numbers -/
namespace SM
/-- how many are taken with a letter before l -/
def pre (m : Mc) (k r l : Nat) : Nat := ((List.range l).map fun l' => cnt m k (m.go r l')).sum
theorem pre_succ (m : Mc) (k r l : Nat) : pre m k r (l + 1) = pre m k r l + cnt m k (m.go r l) := by
  unfold pre
  rw [List.range_succ, List.map_append, List.sum_append]
  simp
theorem pre_all {m : Mc} (ok : m.Ok) {k r : Nat} (h : r < m.ends.length) : pre m k r (2 ^ m.w) = cnt m (k + 1) r := (cnt_succ ok h k).symm
theorem pre_mono {m : Mc} {k r : Nat} : ∀ {l l' : Nat}, l ≤ l' → pre m k r l ≤ pre m k r l'
  | l, 0, h => by have : l = 0 := by omega
                  subst this; exact Nat.le_refl _
  | l, l' + 1, h => by
    by_cases e : l = l' + 1
    · subst e; exact Nat.le_refl _
    · have := pre_mono (m := m) (k := k) (r := r) (show l ≤ l' by omega)
      rw [pre_succ]; omega
/-- a row's number among those of its length that are taken -/
def num (m : Mc) : Nat → List Nat → Nat
  | _, [] => 0
  | r, l :: u => pre m u.length r l + num m (m.go r l) u
theorem num_lt {m : Mc} (ok : m.Ok) : ∀ (u : List Nat) (r : Nat), r < m.ends.length → m.Row u → m.fin (m.run r u) = true → num m r u < cnt m u.length r
  | [], r, _, _, ha => by
    have ha' : m.fin r = true := ha
    show 0 < if m.fin r = true then 1 else 0
    rw [if_pos ha']; decide
  | l :: u, r, hr, hu, ha => by
    have hl : l < 2 ^ m.w := hu l (List.mem_cons_self ..)
    have ih := num_lt ok u (m.go r l) (go_lt ok hr hl) (fun x hx => hu x (List.mem_cons_of_mem _ hx)) ha
    show pre m u.length r l + num m (m.go r l) u < cnt m (u.length + 1) r
    rw [← pre_all ok hr]
    have := pre_mono (m := m) (k := u.length) (r := r) (show l + 1 ≤ 2 ^ m.w from hl)
    rw [pre_succ] at this
    omega
/-- the one row is before the other -/
inductive Bef : List Nat → List Nat → Prop
  | here {l l' : Nat} {u v : List Nat} : l < l' → u.length = v.length → Bef (l :: u) (l' :: v)
  | there {l : Nat} {u v : List Nat} : Bef u v → Bef (l :: u) (l :: v)
theorem Bef.len : ∀ {u v : List Nat}, Bef u v → u.length = v.length
  | _, _, .here _ h => by rw [List.length_cons, List.length_cons, h]
  | _, _, .there h => by rw [List.length_cons, List.length_cons, h.len]
theorem bef_or : ∀ (u v : List Nat), u.length = v.length → u = v ∨ Bef u v ∨ Bef v u
  | [], [], _ => .inl rfl
  | [], _ :: _, h => by simp at h
  | _ :: _, [], h => by simp at h
  | l :: u, l' :: v, h => by
    have h' : u.length = v.length := by simpa using h
    by_cases e : l = l'
    · subst e
      rcases bef_or u v h' with rfl | h1 | h1
      · exact .inl rfl
      · exact .inr (.inl (.there h1))
      · exact .inr (.inr (.there h1))
    · rcases Nat.lt_or_gt_of_ne e with h1 | h1
      · exact .inr (.inl (.here h1 h'))
      · exact .inr (.inr (.here h1 h'.symm))
theorem num_bef {m : Mc} (ok : m.Ok) : ∀ {u v : List Nat} (r : Nat), Bef u v → r < m.ends.length → m.Row u → m.fin (m.run r u) = true → num m r u < num m r v
  | l :: u, l' :: v, r, .here h1 h2, hr, hu, ha => by
    have hl : l < 2 ^ m.w := hu l (List.mem_cons_self ..)
    have z := num_lt ok u (m.go r l) (go_lt ok hr hl) (fun x hx => hu x (List.mem_cons_of_mem _ hx)) ha
    show pre m u.length r l + num m (m.go r l) u < pre m v.length r l' + num m (m.go r l') v
    have := pre_mono (m := m) (k := u.length) (r := r) (show l + 1 ≤ l' from h1)
    rw [pre_succ] at this
    rw [← h2]
    omega
  | l :: u, _ :: v, r, .there h, hr, hu, ha => by
    have hl : l < 2 ^ m.w := hu l (List.mem_cons_self ..)
    have ih := num_bef ok (m.go r l) h (go_lt ok hr hl) (fun x hx => hu x (List.mem_cons_of_mem _ hx)) ha
    show pre m u.length r l + num m (m.go r l) u < pre m v.length r l + num m (m.go r l) v
    rw [h.len]
    omega
/-- the row by a number -/
structure Nth (m : Mc) (L x : Nat) (u : List Nat) : Prop where
  row : m.Row u
  len : u.length = L
  acc : m.fin (m.run 0 u) = true
  num : SM.num m 0 u = x
theorem Nth.one {m : Mc} (ok : m.Ok) {L x : Nat} {u v : List Nat} (h : Nth m L x u) (k : Nth m L x v) : u = v := by
  rcases bef_or u v (by rw [h.len, k.len]) with e | b | b
  · exact e
  · have := num_bef ok 0 b ok.pos h.row h.acc
    rw [h.num, k.num] at this; omega
  · have := num_bef ok 0 b ok.pos k.row k.acc
    rw [h.num, k.num] at this; omega
theorem Nth.bef {m : Mc} (ok : m.Ok) {L x y : Nat} {u v : List Nat} (h : Nth m L x u) (k : Nth m L y v) (hxy : x < y) : Bef u v := by
  rcases bef_or u v (by rw [h.len, k.len]) with e | b | b
  · subst e
    have := h.num.symm.trans k.num; omega
  · exact b
  · have := num_bef ok 0 b ok.pos k.row k.acc
    rw [h.num, k.num] at this; omega
theorem Nth.lt {m : Mc} (ok : m.Ok) {L x : Nat} {u : List Nat} (h : Nth m L x u) : x < cnt m L 0 := by
  have := num_lt ok u 0 ok.pos h.row h.acc
  rw [h.num, h.len] at this
  exact this
/-- where the one is less first -/
theorem Bef.first : ∀ {u v : List Nat}, Bef u v → ∃ (j p q : Nat), u.take j = v.take j ∧ u[j]? = some p ∧ v[j]? = some q ∧ p < q
  | l :: u, l' :: v, .here h _ => ⟨0, l, l', rfl, rfl, rfl, h⟩
  | l :: u, _ :: v, .there h => by
    obtain ⟨j, p, q, e1, e2, e3, e4⟩ := h.first
    exact ⟨j + 1, p, q, by simp [e1], by simpa using e2, by simpa using e3, e4⟩
/-! ### the finding of the row -/
structure Find (m : Mc) (L x i : Nat) (u : List Nat) (y : Nat) : Prop where
  row : m.Row u
  len : u.length = i
  lt : y < cnt m (L - i) (m.run 0 u)
  is : ∀ v : List Nat, v.length = L - i → num m 0 (u ++ v) + y = x + num m (m.run 0 u) v
theorem find_start {m : Mc} {L x : Nat} (h : x < cnt m L 0) : Find m L x 0 [] x := ⟨(fun _ h => nomatch h), rfl, h, fun v _ => by show num m 0 v + x = x + num m 0 v; omega⟩
theorem find_end {m : Mc} {L x : Nat} {u : List Nat} {y : Nat} (F : Find m L x L u y) : Nth m L x u := by
  have h := F.lt
  rw [Nat.sub_self] at h
  have hf : m.fin (m.run 0 u) = true := by
    cases e : m.fin (m.run 0 u) with
    | true => rfl
    | false => simp only [cnt, e] at h; simp at h
  have hy : y = 0 := by simp only [cnt, hf, if_true] at h; omega
  have := F.is [] (by simp)
  rw [List.append_nil] at this
  have e0 : num m (m.run 0 u) [] = 0 := rfl
  exact ⟨F.row, F.len, hf, by omega⟩
theorem find_step {m : Mc} (ok : m.Ok) {L x i l y z : Nat} {u : List Nat} (F : Find m L x i u y) (hi : i < L) (hl : l < 2 ^ m.w) (hz : z + pre m (L - i - 1) (m.run 0 u) l = y) (hlt : z < cnt m (L - i - 1) (m.go (m.run 0 u) l)) : Find m L x (i + 1) (u ++ [l]) z := by
  have e1 : L - (i + 1) = L - i - 1 := by omega
  refine ⟨fun a ha => ?_, by rw [List.length_append, F.len]; rfl, by rw [e1, Mc.run_snoc]; exact hlt, fun v hv => ?_⟩
  · rcases List.mem_append.mp ha with ha | ha
    · exact F.row a ha
    · rw [List.mem_singleton.mp ha]; exact hl
  · have := F.is (l :: v) (by rw [List.length_cons]; omega)
    rw [List.append_assoc, Mc.run_snoc]
    show num m 0 (u ++ l :: v) + z = _
    have e2 : num m (m.run 0 u) (l :: v) = pre m v.length (m.run 0 u) l + num m (m.go (m.run 0 u) l) v := rfl
    rw [e2, hv, e1] at this
    omega
/-- there is a letter still -/
theorem find_more {m : Mc} (ok : m.Ok) {L x i l y z : Nat} {u : List Nat} (F : Find m L x i u y) (hi : i < L) (hl : l ≤ 2 ^ m.w) (hz : z + pre m (L - i - 1) (m.run 0 u) l = y) : l < 2 ^ m.w := by
  rcases Nat.lt_or_ge l (2 ^ m.w) with h | h
  · exact h
  · have e : l = 2 ^ m.w := by omega
    have hr := ok.run_lt u 0 ok.pos F.row
    have h1 := F.lt
    rw [e, pre_all ok hr, show L - i - 1 + 1 = L - i by omega] at hz
    omega
/-! ### all taken rows, in order -/
theorem bef_snoc : ∀ {u v : List Nat} (a b : Nat), Bef u v → Bef (u ++ [a]) (v ++ [b])
  | _ :: u, _ :: v, a, b, .here h1 h2 => .here h1 (by show (u ++ [a]).length = (v ++ [b]).length; rw [List.length_append, List.length_append, h2]; rfl)
  | _, _, a, b, .there h => .there (bef_snoc a b h)
theorem bef_last : ∀ (u : List Nat) {a b : Nat}, a < b → Bef (u ++ [a]) (u ++ [b])
  | [], _, _, h => .here h rfl
  | l :: u, _, _, h => .there (bef_last u h)
theorem allR_bef (w : Nat) : ∀ k, (allR w k).Pairwise Bef
  | 0 => List.pairwise_singleton _ _
  | k + 1 => by
    show ((allR w k).flatMap fun row => (List.range (2 ^ w)).map fun l => row ++ [l]).Pairwise Bef
    rw [List.pairwise_flatMap]
    refine ⟨fun u _ => ?_, (allR_bef w k).imp fun {u v} h a ha b hb => ?_⟩
    · rw [List.pairwise_map]
      exact List.pairwise_lt_range.imp fun h => bef_last u h
    · obtain ⟨x, _, rfl⟩ := List.mem_map.mp ha
      obtain ⟨y, _, rfl⟩ := List.mem_map.mp hb
      exact bef_snoc x y h
/-- numbers that grow, all below their many -/
theorem grows : ∀ (xs : List Nat) (lo : Nat), xs.Pairwise (· < ·) → (∀ x ∈ xs, lo ≤ x ∧ x < lo + xs.length) → xs = (List.range xs.length).map (lo + ·)
  | [], _, _, _ => rfl
  | x :: xs, lo, hp, hb => by
    obtain ⟨h1, h2⟩ := List.pairwise_cons.mp hp
    have hx : x = lo := by
      have hx0 := hb x (List.mem_cons_self ..)
      rcases Nat.lt_or_ge lo x with h | h
      · -- then the others have no room
        exfalso
        have key : ∀ (ys : List Nat) (a : Nat), ys.Pairwise (· < ·) → (∀ y ∈ ys, a < y) → ∀ b, (∀ y ∈ ys, y < b) → a < b → a + ys.length < b := by
          intro ys
          induction ys with
          | nil => intro a _ _ b _ hab; simpa using hab
          | cons y ys ih =>
            intro a hp ha b hb hab
            obtain ⟨p1, p2⟩ := List.pairwise_cons.mp hp
            have := ih y p2 p1 b (fun z hz => hb z (List.mem_cons_of_mem _ hz)) (hb y (List.mem_cons_self ..))
            have := ha y (List.mem_cons_self ..)
            rw [List.length_cons]; omega
        have := key xs x h2 h1 (lo + (x :: xs).length) (fun y hy => (hb y (List.mem_cons_of_mem _ hy)).2) hx0.2
        rw [List.length_cons] at this
        omega
      · omega
    subst hx
    have ih := grows xs (x + 1) h2 fun y hy => by
      have a1 := h1 y hy
      have a2 := (hb y (List.mem_cons_of_mem _ hy)).2
      rw [List.length_cons] at a2
      omega
    rw [List.length_cons, List.range_succ_eq_map, List.map_cons, List.map_map, Nat.add_zero]
    congr 1
    refine ih.trans (List.map_congr_left fun i _ => ?_)
    show x + 1 + i = x + (i + 1)
    omega
theorem taken_nth {m : Mc} (ok : m.Ok) (k i : Nat) (u : List Nat) (h : ((allR m.w k).filter fun row => m.fin (m.run 0 row))[i]? = some u) : Nth m k i u := by
  have hmem := List.mem_of_getElem? h
  obtain ⟨h1, h2⟩ := List.mem_filter.mp hmem
  obtain ⟨h3, h4⟩ := allR_ok k u h1
  refine ⟨h4, h3, h2, ?_⟩
  have hT : ∀ v ∈ (allR m.w k).filter (fun row => m.fin (m.run 0 row)), m.Row v ∧ v.length = k ∧ m.fin (m.run 0 v) = true := fun v hv => by
    obtain ⟨a1, a2⟩ := List.mem_filter.mp hv
    obtain ⟨a3, a4⟩ := allR_ok k v a1
    exact ⟨a4, a3, a2⟩
  have hlen := all_count ok k
  have hp : ((allR m.w k).filter fun row => m.fin (m.run 0 row)).Pairwise Bef := (allR_bef m.w k).filter _
  generalize (allR m.w k).filter (fun row => m.fin (m.run 0 row)) = T at *
  have g := grows (T.map (num m 0)) 0 (by
    rw [List.pairwise_map]
    refine List.Pairwise.imp_of_mem (fun {a b} ha hb hab => ?_) hp
    obtain ⟨b1, b2, b3⟩ := hT a ha
    exact num_bef ok 0 hab ok.pos b1 b3) fun x hx => by
      obtain ⟨v, hv, rfl⟩ := List.mem_map.mp hx
      obtain ⟨b1, b2, b3⟩ := hT v hv
      have := num_lt ok v 0 ok.pos b1 b3
      rw [b2, ← hlen] at this
      rw [List.length_map]
      omega
  have e := congrArg (fun l : List Nat => l[i]?) g
  have hi : i < T.length := (List.getElem?_eq_some_iff.mp h).1
  simp only [List.getElem?_map, h, List.length_map, List.getElem?_range hi] at e
  simpa using e
/-! ### the number of a row, told step by step -/
theorem num_step {m : Mc} {row : List Nat} {i l acc : Nat} (h : row[i]? = some l) (ha : acc + num m (m.run 0 (row.take i)) (row.drop i) = num m 0 row) :
    acc + pre m (row.length - i - 1) (m.run 0 (row.take i)) l + num m (m.run 0 (row.take (i + 1))) (row.drop (i + 1)) = num m 0 row := by
  obtain ⟨hi, e⟩ := List.getElem?_eq_some_iff.mp h
  have hd : row.drop i = l :: row.drop (i + 1) := by rw [List.drop_eq_getElem_cons hi, e]
  have ht : row.take (i + 1) = row.take i ++ [l] := by rw [List.take_add_one, h]; rfl
  rw [hd] at ha
  have e2 : num m (m.run 0 (row.take i)) (l :: row.drop (i + 1)) = pre m (row.drop (i + 1)).length (m.run 0 (row.take i)) l + num m (m.go (m.run 0 (row.take i)) l) (row.drop (i + 1)) := rfl
  rw [e2, List.length_drop, show row.length - (i + 1) = row.length - i - 1 by omega] at ha
  rw [ht, Mc.run_snoc]
  omega
theorem path_from (m : Mc) : ∀ (row : List Nat) (r i : Nat), i ≤ row.length → (m.path r row)[i]? = some (m.run r (row.take i))
  | [], r, i, h => by
    have : i = 0 := by simpa using h
    subst this; rfl
  | l :: row, r, 0, _ => rfl
  | l :: row, r, i + 1, h => path_from m row (m.go r l) i (by simpa using h)
theorem path_at (m : Mc) (row : List Nat) (i : Nat) (h : i ≤ row.length) : (m.path 0 row)[i]? = some (m.run 0 (row.take i)) := path_from m row 0 i h
theorem pre_take {m : Mc} (ok : m.Ok) {k r l : Nat} (hr : r < m.ends.length) (hl : l ≤ 2 ^ m.w) : (((m.ways.getD r []).take l).map (cnt m k)).sum = pre m k r l := by
  rw [line_is ok hr, ← List.map_take, List.take_range, Nat.min_eq_left hl, List.map_map]
  rfl
end SM

set_option Elab.async false
set_option linter.all false
set_option maxRecDepth 100000
/-! rows by numbers: promises -/
namespace SM
open PySem PySem.Spec PyProof.Rows L2 SS
/-- what is no number of a row -/
def BadNo (m : Mc) (H : Hp) (v x : V) : Prop := NoLen H v 101 ∨ ∃ L : Nat, v = nV L ∧ L ≤ 100 ∧ NoLen H x ((cnt m L 0 : Nat) : Int)
theorem NoLen.same {H H' : Hp} {v : V} {n : Int} (h : NoLen H v n) (g : Same H H') : NoLen H' v n := by
  rcases h with h | ⟨k, kd, nk⟩
  · exact .inl h
  · refine .inr ⟨k, ?_, nk⟩
    cases kd with
    | non => exact .non
    | bl b => exact .bl b
    | int i => exact .int i
    | str z => exact .str z
    | lst e => exact .lst (g _ _ e)
    | tup e => exact .tup (g _ _ e)
    | dK e => exact .dK (g _ _ e)
def NthQ (m : Mc) (L n : Nat) (H : Hp) (Q : VK) : Prop := ∀ D u H', H D = none → Same H H' → H' D = some (.lst (u.map nV)) → Nth m L n u → Q (.ref D) H'
def sp_rowby (C : Addr) : Sp := fun vs H Q E => ∃ (a : Addr) (m : Mc) (v x : V), vs = [.ref a, v, x] ∧ RepM H a m ∧ m.Ok ∧ ((∃ L n : Nat, v = nV L ∧ x = nV n ∧ L ≤ 100 ∧ n < cnt m L 0 ∧ NthQ m L n H Q) ∨ (BadNo m H v x ∧ ∀ e H', Same H H' → H' e = none → E (.ref C) (some e) H'))
def sp_numof (K : PySem.W.Frag) (C : Addr) : Sp := fun vs H Q E => ∃ (a b : Addr) (m : Mc) (row : List Nat), vs = [.ref a, .ref b] ∧ RepM H a m ∧ m.Ok ∧ SqL K H b (row.map nV) ∧ (∀ l ∈ row, l < 2 ^ m.w) ∧ row.length ≤ 200 ∧
  ((row.length ≤ 100 ∧ m.fin (m.run 0 row) = true ∧ ∀ H', Same H H' → Q (nV (num m 0 row)) H') ∨ ((100 < row.length ∨ m.fin (m.run 0 row) = false) ∧ ∀ e H', Same H H' → H' e = none → E (.ref C) (some e) H'))
def sp_rowref : Sp := fun vs H Q _ => ∃ (a : Addr) (m : Mc) (v x : V), vs = [.ref a, v, x] ∧ RepM H a m ∧ m.Ok ∧ BadNo m H v x ∧ ∀ H', Same H H' → Q (.bl true) H'
def sp_numref (K : PySem.W.Frag) : Sp := fun vs H Q _ => ∃ (a b : Addr) (m : Mc) (row : List Nat), vs = [.ref a, .ref b] ∧ RepM H a m ∧ m.Ok ∧ SqL K H b (row.map nV) ∧ (∀ l ∈ row, l < 2 ^ m.w) ∧ row.length ≤ 200 ∧ (100 < row.length ∨ m.fin (m.run 0 row) = false) ∧ ∀ H', Same H H' → Q (.bl true) H'
def sp_one : Sp := fun vs H Q _ => ∃ (a : Addr) (m : Mc) (L n : Nat), vs = [.ref a, nV L, nV n] ∧ RepM H a m ∧ m.Ok ∧ L ≤ 100 ∧ n < cnt m L 0 ∧ NthQ m L n H Q
def sp_lengthK : Sp := fun vs H Q _ => ∃ (a : Addr) (m : Mc) (L : Nat) (c : Int), vs = [.ref a, nV L, .int c] ∧ RepM H a m ∧ m.Ok ∧ L ≤ 100 ∧ ∀ H', Same H H' → Q (.bl true) H'
def sp_shortK : Sp := fun vs H Q _ => ∃ (a : Addr) (m : Mc) (L : Nat), vs = [.ref a, nV L] ∧ RepM H a m ∧ m.Ok ∧ L ≤ 2 ∧ ∀ H', Same H H' → Q (.bl true) H'
theorem eq_rowL {X : Cx} {H : Hp} {x y : V} {r1 r2 : List Nat} {k : Nat} (h1 : RowL H x r1) (h2 : RowL H y r2) : EqOk X (k + 1) H x y (decide (r1 = r2)) := by
  obtain ⟨a, rfl, e1⟩ := h1
  obtain ⟨b, rfl, e2⟩ := h2
  have inj : ∀ (u v : List Nat), u.map nV = v.map nV → u = v := fun u v h => by
    have := congrArg (List.map unI) h
    rw [List.map_map, List.map_map, show (unI ∘ nV) = id from funext fun n => by show ((n : Int)).toNat = n; rw [Int.toNat_natCast], List.map_id, List.map_id] at this
    exact this
  by_cases hab : a = b
  · subst hab
    rw [e1] at e2
    injection e2 with e2
    injection e2 with e2
    rw [decide_eq_true (inj _ _ e2)]
    exact eqok_same
  · have r := rcok_flats (X := X) (xs := (r1.map fun (n : Nat) => (n : Int)).map V.int) (ys := (r2.map fun (n : Nat) => (n : Int)).map V.int) (.of (by rw [← map_nV]; exact e1)) (.of (by rw [← map_nV]; exact e2)) (flats_int _) (flats_int _)
    have hl : ∀ l : List Int, (l.map V.int).length = l.length := fun l => List.length_map _
    rw [hl, hl, all_eqi] at r
    have e : decide ((r1.map fun (n : Nat) => (n : Int)) = (r2.map fun (n : Nat) => (n : Int))) = decide (r1 = r2) := by
      by_cases h : r1 = r2
      · subst h; simp
      · rw [decide_eq_false h, decide_eq_false fun z => h (inj _ _ (by rw [map_nV, map_nV, z]))]
    rw [e] at r
    exact .of_rc hab (r.up (by omega))
end SM

set_option Elab.async false
set_option linter.all false
set_option maxRecDepth 100000
set_option maxHeartbeats 4000000
namespace K38
open PySem PySem.Spec PyProof.Rows L2 SS SM
def top (i : Nat) : Stmt := PySem.Challenge.pw_setsays_k38_rows_by_numbers.main.body.getD i (.Pass ⟨0, 0, 0, 0⟩)
structure Txt (K : PySem.W.Frag) (mg : Str → Option Value) (cNoNumber cNoRow : Addr) : Prop where
  b_list : mg "list" = none
  b_isinstance : mg "isinstance" = none
  b_tuple : mg "tuple" = none
  b_int : mg "int" = none
  b_bool : mg "bool" = none
  b_len : mg "len" = none
  b_max : mg "max" = none
  b_min : mg "min" = none
  b_sum : mg "sum" = none
  b_range : mg "range" = none
  b_all : mg "all" = none
  b_enumerate : mg "enumerate" = none
  g_LONGEST : GlV mg "LONGEST" (.int 100)
  m_NoRow : mg "NoRow" = some (.ref cNoRow)
  k_NoRow : KSup K cNoRow
  msR : PySem.W.mroIn K cNoRow (.ref cNoRow) = some true
  x_NoRow : PySem.W.excIn K cNoRow veM "ValueError.__new__" = true
  m_NoNumber : mg "NoNumber" = some (.ref cNoNumber)
  k_NoNumber : KSup K cNoNumber
  ms : PySem.W.mroIn K cNoNumber (.ref cNoNumber) = some true
  x_NoNumber : PySem.W.excIn K cNoNumber veM "ValueError.__new__" = true
seal PE PT PW PA PS PSs
section
variable {P : Program} {w : World} {K : PySem.W.Frag} {mg : Str → Option Value} {base : Heap} {cNoNumber cNoRow : Addr}
abbrev s_is_whole : Stmt := top 8
theorem sc_is_whole : FnScope ["thing"] ["thing"] (defScope s_is_whole) := ⟨rfl, rfl, rfl, by decide +kernel, rfl, by decide +kernel, by decide +kernel⟩
theorem ok_wholeX (T : Txt K mg cNoNumber cNoRow) (d : Dfn K mg "is_whole" s_is_whole ["thing"]) : Cal P w K mg base 1 "is_whole" ["thing"] sp_wholeX := by
  refine d.cal sc_is_whole (fun vs H Q E h => ?_) (fun f cdv A outer s H vs Q E hr h => ?_)
  · obtain ⟨v, rfl, _⟩ := h
    rfl
  obtain ⟨v, rfl, h⟩ := h
  refine ⟨_, (pss_one (ps_ret (pe_and (pe_cB call_isk (by rfl) T.b_isinstance boot_isinstance (pa_c (pv 0) (pa_c (pe_bltn (v := .ty "int") (by rfl) T.b_int boot_int (by rfl)) pa_nil))) (pe_one (pe_not (pe_cB call_isk (by rfl) T.b_isinstance boot_isinstance (pa_c (pv 0) (pa_c (pe_bltn (v := .ty "bool") (by rfl) T.b_bool boot_bool (by rfl)) pa_nil)))))))), ?_⟩
  refine rd_st [some v] rfl ?_
  simp only [exists_eq', rEqI, rNeI, rInDc, rLenD, rLenT, rDictOf, rMaxL, rIndex, rCatTN, rCatTE, tDNewN, tDNewTN, tDisp1T, rNeM, rRange2, rListRng, rRepN, rPopAt, rSetL, gSub, ipI, tDGet, tDGet2, sDPut, iEnum, iEZ, iZipL, iRng3, tRaise, tTryN, rLeL, rNotInD, iEnum, iZip, rInD, rIxD, rLen, rAll, rAny, rSum, rListOf, rEqS, rNeS, rSlTN, rStrB, tTupN, tLstN, rSlLN, rCatN, cxK, cxP, cxW, tSeq, tIfS, tTest, tB, tOp, tUn, tC, tAnd, tOr, tNot, tAndV, tOrV, tNotV, tIf, tNext, tBreak, tCont, tDrop, tRet, tRetN, gName, gNil, gCons, gTup, tAsg, tPar, tAug, rI, rI0, rU, rEq, rNe, tChain, tNil, tCons, tTup, tLst, tCall, tCB, tNoPart, tPart, tSl, rSlT, rSlL, rSlS, rIxL, rIxT, rIxS, rIn, tBM0, tBM, tyV, rAppend, rExtend, rCat, rZfill, rEqD, iList, iTup, iStr, iRng1, iRng2, tYes, tDisp, tPairs, rd_v0, rd_vS, rd_comp, rd_for, rd_ite_t, rd_ite_f, List.set_cons_zero, List.set_cons_succ, List.nil_append, List.cons_append, List.append_nil, V.int.injEq, V.str.injEq, V.bl.injEq, V.ref.injEq, V.ty.injEq, List.cons.injEq, and_true, true_and, exists_eq_left, exists_eq_left', exists_and_left, exists_eq, exists_const, if_true, if_false, ite_true, ite_false, rd_ss, rd_si, rd_is, rd_ii, rd_bb, Option.some.injEq, exists_eq_right, exists_eq_right', and_assoc, reduceCtorEq, false_and, and_false, false_or, or_false, exists_false]
  rcases h with ⟨r, rfl, q⟩ | ⟨k, kd, nk, q⟩
  · exact ⟨_, .int r, by decide, iteT ⟨_, .int r, by decide, q⟩⟩
  · refine ⟨_, kd, by decide, ?_⟩
    cases kd with
    | bl b => exact iteT ⟨_, .bl b, by decide, q⟩
    | int => exact absurd rfl nk
    | _ => exact iteF q
abbrev s_is_below : Stmt := top 9
theorem sc_is_below : FnScope ["thing", "bound"] ["thing", "bound"] (defScope s_is_below) := ⟨rfl, rfl, rfl, by decide +kernel, rfl, by decide +kernel, by decide +kernel⟩
theorem ok_belowX (T : Txt K mg cNoNumber cNoRow) (d : Dfn K mg "is_below" s_is_below ["thing", "bound"]) (C_is_whole : Cal P w K mg base 1 "is_whole" ["thing"] sp_wholeX) : Cal P w K mg base 2 "is_below" ["thing", "bound"] sp_belowX := by
  refine d.cal sc_is_below (fun vs H Q E h => ?_) (fun f cdv A outer s H vs Q E hr h => ?_)
  · obtain ⟨v, n, rfl, _⟩ := h
    rfl
  obtain ⟨v, n, rfl, h⟩ := h
  refine ⟨_, (pss_one (ps_ret (pe_and (pe_callC C_is_whole hr (by omega) (by rfl) (pa_c (pv 0) pa_nil)) (pe_one (pe_chain op_le op_lt pe_int (pv 0) (pv 1)))))), ?_⟩
  refine rd_st [some v, some (.int n)] rfl ?_
  simp only [exists_eq', rEqI, rNeI, rInDc, rLenD, rLenT, rDictOf, rMaxL, rIndex, rCatTN, rCatTE, tDNewN, tDNewTN, tDisp1T, rNeM, rRange2, rListRng, rRepN, rPopAt, rSetL, gSub, ipI, tDGet, tDGet2, sDPut, iEnum, iEZ, iZipL, iRng3, tRaise, tTryN, rLeL, rNotInD, iEnum, iZip, rInD, rIxD, rLen, rAll, rAny, rSum, rListOf, rEqS, rNeS, rSlTN, rStrB, tTupN, tLstN, rSlLN, rCatN, cxK, cxP, cxW, tSeq, tIfS, tTest, tB, tOp, tUn, tC, tAnd, tOr, tNot, tAndV, tOrV, tNotV, tIf, tNext, tBreak, tCont, tDrop, tRet, tRetN, gName, gNil, gCons, gTup, tAsg, tPar, tAug, rI, rI0, rU, rEq, rNe, tChain, tNil, tCons, tTup, tLst, tCall, tCB, tNoPart, tPart, tSl, rSlT, rSlL, rSlS, rIxL, rIxT, rIxS, rIn, tBM0, tBM, tyV, rAppend, rExtend, rCat, rZfill, rEqD, iList, iTup, iStr, iRng1, iRng2, tYes, tDisp, tPairs, rd_v0, rd_vS, rd_comp, rd_for, rd_ite_t, rd_ite_f, List.set_cons_zero, List.set_cons_succ, List.nil_append, List.cons_append, List.append_nil, V.int.injEq, V.str.injEq, V.bl.injEq, V.ref.injEq, V.ty.injEq, List.cons.injEq, and_true, true_and, exists_eq_left, exists_eq_left', exists_and_left, exists_eq, exists_const, if_true, if_false, ite_true, ite_false, rd_ss, rd_si, rd_is, rd_ii, rd_bb, Option.some.injEq, exists_eq_right, exists_eq_right', and_assoc, reduceCtorEq, false_and, and_false, false_or, or_false, exists_false]
  rcases h with ⟨r, rfl, h0, h1, q⟩ | ⟨⟨r, rfl, hn⟩ | ⟨k, kd, nk⟩, q⟩
  · refine ⟨_, rfl, .inl ⟨r, rfl, _, rfl, iteT ⟨r, rfl, ?_⟩⟩⟩
    rw [decide_eq_true h0]
    refine iteT ⟨r, rfl, ?_⟩
    rw [decide_eq_true h1]
    exact q
  · refine ⟨_, rfl, .inl ⟨r, rfl, _, rfl, iteT ⟨r, rfl, ?_⟩⟩⟩
    by_cases h0 : 0 ≤ r
    · rw [decide_eq_true h0]
      refine iteT ⟨r, rfl, ?_⟩
      rw [decide_eq_false (fun h1 => hn ⟨h0, h1⟩)]
      exact q
    · rw [decide_eq_false h0]
      exact iteF q
  · exact ⟨_, rfl, .inr ⟨k, kd, nk, _, rfl, iteF q⟩⟩
abbrev s_one_letter_more : Stmt := top 12
theorem sc_one_letter_more : FnScope ["machine", "counts", "more", "ways"] ["machine", "counts"] (defScope s_one_letter_more) := ⟨rfl, rfl, rfl, by decide +kernel, rfl, by decide +kernel, by decide +kernel⟩
theorem ok_more (T : Txt K mg cNoNumber cNoRow) (d : Dfn K mg "one_letter_more" s_one_letter_more ["machine", "counts"]) : Cal P w K mg base 1 "one_letter_more" ["machine", "counts"] sp_more := by
  refine d.cal sc_one_letter_more (fun vs H Q E h => ?_) (fun f cdv A outer s H vs Q E hr h => ?_)
  · obtain ⟨a, c, m, k, rfl, _⟩ := h
    rfl
  obtain ⟨a, c, m, k, rfl, ⟨b1, c1, rs, ea, eb, pr, ec⟩, ok, hc, q⟩ := h
  refine ⟨_, (pss_cons (ps_set (i := 2) sc_one_letter_more.nd rfl (Or.inl rfl) (pe_lstN pa_nil)) (pss_cons (ps_for PassesOwn.never rfl (pi_tupK K (pe_ix (ix_tupK K) (pv 0) pe_int (fun _ _ => rfl))) (pg_name (i := 3) (show List.Nodup (["machine", "counts", "more", "ways"] : List Str) by decide +kernel) (by rfl) (Or.inl (by rfl))) (pss_one (ps_expr (pe_bmK K PySem.F.plainAttrs_list PySem.F.slot_list_append PySem.F.type_list_append mt_append (pv 2) (pa_c (pe_cB (call_sum_intK K rfl) (by rfl) T.b_sum boot_sum (pa_c (pe_lcomp ["room"] [(1, "counts")] (CompOk.of rfl (by rfl) (by rfl)) (by rfl) (pi_tupK K (pv 3)) (fun _ _ _ _ _ => (pg_name (i := 0) (show List.Nodup (["room", "counts"] : List Str) by decide +kernel) (by rfl) (Or.inl (by rfl)))) (fun _ _ _ _ _ => pf_nil) (fun _ _ _ _ _ => (pe_ix (ix_listK K) (pv 1) (pv 0) (fun _ _ => rfl)))) pa_nil)) pa_nil))))) (pss_one (ps_ret (pv 2))))), ?_⟩
  refine rd_st [some (.ref a), some (.ref c), none, none] rfl ?_
  simp only [exists_eq', rEqI, rNeI, rInDc, rLenD, rLenT, rDictOf, rMaxL, rIndex, rCatTN, rCatTE, tDNewN, tDNewTN, tDisp1T, rNeM, rRange2, rListRng, rRepN, rPopAt, rSetL, gSub, ipI, tDGet, tDGet2, sDPut, iEnum, iEZ, iZipL, iRng3, tRaise, tTryN, rLeL, rNotInD, iEnum, iZip, rInD, rIxD, rLen, rAll, rAny, rSum, rListOf, rEqS, rNeS, rSlTN, rStrB, tTupN, tLstN, rSlLN, rCatN, cxK, cxP, cxW, tSeq, tIfS, tTest, tB, tOp, tUn, tC, tAnd, tOr, tNot, tAndV, tOrV, tNotV, tIf, tNext, tBreak, tCont, tDrop, tRet, tRetN, gName, gNil, gCons, gTup, tAsg, tPar, tAug, rI, rI0, rU, rEq, rNe, tChain, tNil, tCons, tTup, tLst, tCall, tCB, tNoPart, tPart, tSl, rSlT, rSlL, rSlS, rIxL, rIxT, rIxS, rIn, tBM0, tBM, tyV, rAppend, rExtend, rCat, rZfill, rEqD, iList, iTup, iStr, iRng1, iRng2, tYes, tDisp, tPairs, rd_v0, rd_vS, rd_comp, rd_for, rd_ite_t, rd_ite_f, List.set_cons_zero, List.set_cons_succ, List.nil_append, List.cons_append, List.append_nil, V.int.injEq, V.str.injEq, V.bl.injEq, V.ref.injEq, V.ty.injEq, List.cons.injEq, and_true, true_and, exists_eq_left, exists_eq_left', exists_and_left, exists_eq, exists_const, if_true, if_false, ite_true, ite_false, rd_ss, rd_si, rd_is, rd_ii, rd_bb, Option.some.injEq, exists_eq_right, exists_eq_right', and_assoc, reduceCtorEq, false_and, and_false, false_or, or_false, exists_false]
  have hn : (cl m k).length ≤ 100 := by rw [cl_len]; exact ok.few
  have hps := pow_small ok.wid
  refine ⟨small_line (by simp), fun p H1 n1 => ⟨_, .of (n1.g _ _ ea), _, atI_nat (j := 1) rfl, b1, rfl, ⟨_, .of (n1.g _ _ eb)⟩, ?_⟩⟩
  refine fb_tup (K := K) (a := b1) (xs := rs) (fun i σ H' => Same H H' ∧ (∃ v3, σ = [some (.ref a), some (.ref c), some (.ref p), v3]) ∧ H' p = some (.lst (((m.ways.take i).map fun line => (line.map (cnt m k)).sum).map nV))) ⟨n1.g, ⟨none, rfl⟩, n1.at'⟩ (fun i σ H' _ z => .of (z.1 _ _ eb)) ?_ ?_
  · rintro i y σ H' hy ⟨g, ⟨v3, rfl⟩, ep⟩
    have hi : i < m.ways.length := by rw [← pr.length]; exact (List.getElem?_eq_some_iff.mp hy).1
    obtain ⟨v, ev, a2, rfl, e4⟩ := Paired.at2 pr (List.getElem?_eq_getElem hi)
    rw [ev] at hy
    cases hy
    have hll := ok.line _ (List.getElem_mem hi)
    have hrm := ok.room _ (List.getElem_mem hi)
    have hiw : m.ways.length ≤ 100 := by rw [ok.len]; exact ok.few
    simp only [exists_eq', rEqI, rNeI, rInDc, rLenD, rLenT, rDictOf, rMaxL, rIndex, rCatTN, rCatTE, tDNewN, tDNewTN, tDisp1T, rNeM, rRange2, rListRng, rRepN, rPopAt, rSetL, gSub, ipI, tDGet, tDGet2, sDPut, iEnum, iEZ, iZipL, iRng3, tRaise, tTryN, rLeL, rNotInD, iEnum, iZip, rInD, rIxD, rLen, rAll, rAny, rSum, rListOf, rEqS, rNeS, rSlTN, rStrB, tTupN, tLstN, rSlLN, rCatN, cxK, cxP, cxW, tSeq, tIfS, tTest, tB, tOp, tUn, tC, tAnd, tOr, tNot, tAndV, tOrV, tNotV, tIf, tNext, tBreak, tCont, tDrop, tRet, tRetN, gName, gNil, gCons, gTup, tAsg, tPar, tAug, rI, rI0, rU, rEq, rNe, tChain, tNil, tCons, tTup, tLst, tCall, tCB, tNoPart, tPart, tSl, rSlT, rSlL, rSlS, rIxL, rIxT, rIxS, rIn, tBM0, tBM, tyV, rAppend, rExtend, rCat, rZfill, rEqD, iList, iTup, iStr, iRng1, iRng2, tYes, tDisp, tPairs, rd_v0, rd_vS, rd_comp, rd_for, rd_ite_t, rd_ite_f, List.set_cons_zero, List.set_cons_succ, List.nil_append, List.cons_append, List.append_nil, V.int.injEq, V.str.injEq, V.bl.injEq, V.ref.injEq, V.ty.injEq, List.cons.injEq, and_true, true_and, exists_eq_left, exists_eq_left', exists_and_left, exists_eq, exists_const, if_true, if_false, ite_true, ite_false, rd_ss, rd_si, rd_is, rd_ii, rd_bb, Option.some.injEq, exists_eq_right, exists_eq_right', and_assoc, reduceCtorEq, false_and, and_false, false_or, or_false, exists_false]
    refine ⟨.inl ⟨_, .of ep⟩, ⟨_, .of (g _ _ e4)⟩, cm_tup (K := K) (a := a2) (xs := m.ways[i].map nV) (fun σ => ∃ v, σ = [v, some (.ref c)]) (fC m k) (by rw [List.length_map, hll]; omega) (.of (g _ _ e4)) ⟨_, rfl⟩ ?_ ?_⟩
    · rintro D3 i3 σ H4 x hi3 hm hx gg hD3 hD3' ⟨v, rfl⟩
      obtain ⟨r, mr, rfl⟩ := List.mem_map.mp hm
      have at5 : ((cl m k).map nV)[r]? = some (nV (cnt m k r)) := by rw [List.getElem?_map, cl_at (hrm r mr)]; rfl
      simp only [exists_eq', rEqI, rNeI, rInDc, rLenD, rLenT, rDictOf, rMaxL, rIndex, rCatTN, rCatTE, tDNewN, tDNewTN, tDisp1T, rNeM, rRange2, rListRng, rRepN, rPopAt, rSetL, gSub, ipI, tDGet, tDGet2, sDPut, iEnum, iEZ, iZipL, iRng3, tRaise, tTryN, rLeL, rNotInD, iEnum, iZip, rInD, rIxD, rLen, rAll, rAny, rSum, rListOf, rEqS, rNeS, rSlTN, rStrB, tTupN, tLstN, rSlLN, rCatN, cxK, cxP, cxW, tSeq, tIfS, tTest, tB, tOp, tUn, tC, tAnd, tOr, tNot, tAndV, tOrV, tNotV, tIf, tNext, tBreak, tCont, tDrop, tRet, tRetN, gName, gNil, gCons, gTup, tAsg, tPar, tAug, rI, rI0, rU, rEq, rNe, tChain, tNil, tCons, tTup, tLst, tCall, tCB, tNoPart, tPart, tSl, rSlT, rSlL, rSlS, rIxL, rIxT, rIxS, rIn, tBM0, tBM, tyV, rAppend, rExtend, rCat, rZfill, rEqD, iList, iTup, iStr, iRng1, iRng2, tYes, tDisp, tPairs, rd_v0, rd_vS, rd_comp, rd_for, rd_ite_t, rd_ite_f, List.set_cons_zero, List.set_cons_succ, List.nil_append, List.cons_append, List.append_nil, V.int.injEq, V.str.injEq, V.bl.injEq, V.ref.injEq, V.ty.injEq, List.cons.injEq, and_true, true_and, exists_eq_left, exists_eq_left', exists_and_left, exists_eq, exists_const, if_true, if_false, ite_true, ite_false, rd_ss, rd_si, rd_is, rd_ii, rd_bb, Option.some.injEq, exists_eq_right, exists_eq_right', and_assoc, reduceCtorEq, false_and, and_false, false_or, or_false, exists_false]
      refine ⟨_, .of (gg _ _ (g _ _ hc)), _, atI_nat at5, ?_⟩
      exact cm_step (by rw [List.length_map, hll]; omega) hx hD3 hD3' gg ⟨_, rfl⟩ (fC_n _ _ _).symm
    intro D3 H4 hD3 g4 eD3
    have eD3' : H4 D3 = some (.lst (((m.ways[i].map (cnt m k)).map fun (n : Nat) => (n : Int)).map V.int)) := by
      rw [eD3, ← map_nV, List.map_map, List.map_map]
      rw [show (fC m k ∘ nV) = nV ∘ cnt m k from funext fun r => fC_n m k r]
    refine ⟨_, rfl, _, .of eD3', _, g4 _ _ ep, small1000 (by rw [List.length_map, List.length_map, List.length_take]; omega), ?_⟩
    refine ⟨(g.trans g4).wr n1.nil _, ?_⟩
    rw [upd_same, List.take_add_one, List.getElem?_eq_getElem hi, Option.toList_some, List.map_append, List.map_append, sum_nV]
    rfl
  · rintro σ H' ⟨g, ⟨v3, rfl⟩, ep⟩
    rw [pr.length, List.take_of_length_le (Nat.le_refl _), ← cl_succ ok] at ep
    simp only [exists_eq', rEqI, rNeI, rInDc, rLenD, rLenT, rDictOf, rMaxL, rIndex, rCatTN, rCatTE, tDNewN, tDNewTN, tDisp1T, rNeM, rRange2, rListRng, rRepN, rPopAt, rSetL, gSub, ipI, tDGet, tDGet2, sDPut, iEnum, iEZ, iZipL, iRng3, tRaise, tTryN, rLeL, rNotInD, iEnum, iZip, rInD, rIxD, rLen, rAll, rAny, rSum, rListOf, rEqS, rNeS, rSlTN, rStrB, tTupN, tLstN, rSlLN, rCatN, cxK, cxP, cxW, tSeq, tIfS, tTest, tB, tOp, tUn, tC, tAnd, tOr, tNot, tAndV, tOrV, tNotV, tIf, tNext, tBreak, tCont, tDrop, tRet, tRetN, gName, gNil, gCons, gTup, tAsg, tPar, tAug, rI, rI0, rU, rEq, rNe, tChain, tNil, tCons, tTup, tLst, tCall, tCB, tNoPart, tPart, tSl, rSlT, rSlL, rSlS, rIxL, rIxT, rIxS, rIn, tBM0, tBM, tyV, rAppend, rExtend, rCat, rZfill, rEqD, iList, iTup, iStr, iRng1, iRng2, tYes, tDisp, tPairs, rd_v0, rd_vS, rd_comp, rd_for, rd_ite_t, rd_ite_f, List.set_cons_zero, List.set_cons_succ, List.nil_append, List.cons_append, List.append_nil, V.int.injEq, V.str.injEq, V.bl.injEq, V.ref.injEq, V.ty.injEq, List.cons.injEq, and_true, true_and, exists_eq_left, exists_eq_left', exists_and_left, exists_eq, exists_const, if_true, if_false, ite_true, ite_false, rd_ss, rd_si, rd_is, rd_ii, rd_bb, Option.some.injEq, exists_eq_right, exists_eq_right', and_assoc, reduceCtorEq, false_and, and_false, false_or, or_false, exists_false]
    exact q p H' n1.nil g ep
abbrev s_counts_from : Stmt := top 13
theorem sc_counts_from : FnScope ["machine", "length", "counts"] ["machine", "length"] (defScope s_counts_from) := ⟨rfl, rfl, rfl, by decide +kernel, rfl, by decide +kernel, by decide +kernel⟩
theorem ok_from (T : Txt K mg cNoNumber cNoRow) (d : Dfn K mg "counts_from" s_counts_from ["machine", "length"]) (C_one_letter_more : Cal P w K mg base 1 "one_letter_more" ["machine", "counts"] sp_more) : Cal P w K mg base 2 "counts_from" ["machine", "length"] sp_from := by
  refine d.cal sc_counts_from (fun vs H Q E h => ?_) (fun f cdv A outer s H vs Q E hr h => ?_)
  · obtain ⟨a, m, L, rfl, _⟩ := h
    rfl
  obtain ⟨a, m, L, rfl, rm, ok, hL, q⟩ := h
  obtain ⟨b1, c1, rs, ea, eb, pr, ec⟩ := id rm
  refine ⟨_, (pss_cons (ps_set (i := 2) sc_counts_from.nd rfl (Or.inl rfl) (pe_lstN (pa_c (pe_lcomp ["end"] [] (CompOk.of rfl (by rfl) (by rfl)) (by rfl) (pi_tupK K (pe_ix (ix_tupK K) (pv 0) pe_int (fun _ _ => rfl))) (fun _ _ _ _ _ => (pg_name (i := 0) (show List.Nodup (["end"] : List Str) by decide +kernel) (by rfl) (Or.inl (by rfl)))) (fun _ _ _ _ _ => pf_nil) (fun _ _ _ _ _ => (pe_cTy call_int1 (by rfl) T.b_int boot_int (pa_c (pv 0) pa_nil)))) pa_nil))) (pss_cons (ps_while PassesOwn.never (pt_cmpR op_le (pe_cB (call_len_seqK K) (by rfl) T.b_len boot_len (pa_c (pv 2) pa_nil)) (pv 1) (nomark _)) (pss_one (ps_expr (pe_bmK K PySem.F.plainAttrs_list PySem.F.slot_list_append PySem.F.type_list_append mt_append (pv 2) (pa_c (pe_callC C_one_letter_more hr (by omega) (by rfl) (pa_c (pv 0) (pa_c (pe_ix (ix_listK K) (pv 2) (pe_un un_neg pe_int) (fun _ _ => rfl)) pa_nil))) pa_nil))))) (pss_one (ps_ret (pv 2))))), ?_⟩
  refine rd_st [some (.ref a), some (nV L), none] rfl ?_
  simp only [exists_eq', rEqI, rNeI, rInDc, rLenD, rLenT, rDictOf, rMaxL, rIndex, rCatTN, rCatTE, tDNewN, tDNewTN, tDisp1T, rNeM, rRange2, rListRng, rRepN, rPopAt, rSetL, gSub, ipI, tDGet, tDGet2, sDPut, iEnum, iEZ, iZipL, iRng3, tRaise, tTryN, rLeL, rNotInD, iEnum, iZip, rInD, rIxD, rLen, rAll, rAny, rSum, rListOf, rEqS, rNeS, rSlTN, rStrB, tTupN, tLstN, rSlLN, rCatN, cxK, cxP, cxW, tSeq, tIfS, tTest, tB, tOp, tUn, tC, tAnd, tOr, tNot, tAndV, tOrV, tNotV, tIf, tNext, tBreak, tCont, tDrop, tRet, tRetN, gName, gNil, gCons, gTup, tAsg, tPar, tAug, rI, rI0, rU, rEq, rNe, tChain, tNil, tCons, tTup, tLst, tCall, tCB, tNoPart, tPart, tSl, rSlT, rSlL, rSlS, rIxL, rIxT, rIxS, rIn, tBM0, tBM, tyV, rAppend, rExtend, rCat, rZfill, rEqD, iList, iTup, iStr, iRng1, iRng2, tYes, tDisp, tPairs, rd_v0, rd_vS, rd_comp, rd_for, rd_ite_t, rd_ite_f, List.set_cons_zero, List.set_cons_succ, List.nil_append, List.cons_append, List.append_nil, V.int.injEq, V.str.injEq, V.bl.injEq, V.ref.injEq, V.ty.injEq, List.cons.injEq, and_true, true_and, exists_eq_left, exists_eq_left', exists_and_left, exists_eq, exists_const, if_true, if_false, ite_true, ite_false, rd_ss, rd_si, rd_is, rd_ii, rd_bb, Option.some.injEq, exists_eq_right, exists_eq_right', and_assoc, reduceCtorEq, false_and, and_false, false_or, or_false, exists_false]
  refine ⟨_, .of ea, _, atI_nat (j := 2) rfl, c1, rfl, ⟨_, .of ec⟩, cm_tup (K := K) (a := c1) (xs := m.ends.map V.bl) (fun σ => ∃ v, σ = [v]) (fun v => match v with | .bl b => nV (if b = true then 1 else 0) | _ => .non) (by rw [List.length_map]; have := ok.few; omega) (.of ec) ⟨_, rfl⟩ ?_ ?_⟩
  · rintro D3 i3 σ H4 x hi3 hm hx gg hD3 hD3' ⟨v, rfl⟩
    obtain ⟨b, mb, rfl⟩ := List.mem_map.mp hm
    simp only [exists_eq', rEqI, rNeI, rInDc, rLenD, rLenT, rDictOf, rMaxL, rIndex, rCatTN, rCatTE, tDNewN, tDNewTN, tDisp1T, rNeM, rRange2, rListRng, rRepN, rPopAt, rSetL, gSub, ipI, tDGet, tDGet2, sDPut, iEnum, iEZ, iZipL, iRng3, tRaise, tTryN, rLeL, rNotInD, iEnum, iZip, rInD, rIxD, rLen, rAll, rAny, rSum, rListOf, rEqS, rNeS, rSlTN, rStrB, tTupN, tLstN, rSlLN, rCatN, cxK, cxP, cxW, tSeq, tIfS, tTest, tB, tOp, tUn, tC, tAnd, tOr, tNot, tAndV, tOrV, tNotV, tIf, tNext, tBreak, tCont, tDrop, tRet, tRetN, gName, gNil, gCons, gTup, tAsg, tPar, tAug, rI, rI0, rU, rEq, rNe, tChain, tNil, tCons, tTup, tLst, tCall, tCB, tNoPart, tPart, tSl, rSlT, rSlL, rSlS, rIxL, rIxT, rIxS, rIn, tBM0, tBM, tyV, rAppend, rExtend, rCat, rZfill, rEqD, iList, iTup, iStr, iRng1, iRng2, tYes, tDisp, tPairs, rd_v0, rd_vS, rd_comp, rd_for, rd_ite_t, rd_ite_f, List.set_cons_zero, List.set_cons_succ, List.nil_append, List.cons_append, List.append_nil, V.int.injEq, V.str.injEq, V.bl.injEq, V.ref.injEq, V.ty.injEq, List.cons.injEq, and_true, true_and, exists_eq_left, exists_eq_left', exists_and_left, exists_eq, exists_const, if_true, if_false, ite_true, ite_false, rd_ss, rd_si, rd_is, rd_ii, rd_bb, Option.some.injEq, exists_eq_right, exists_eq_right', and_assoc, reduceCtorEq, false_and, and_false, false_or, or_false, exists_false]
    exact cm_step (by rw [List.length_map]; have := ok.few; omega) hx hD3 hD3' gg ⟨_, rfl⟩ (by cases b <;> rfl)
  intro D3 H4 hD3 g4 eD3
  have eD3' : H4 D3 = some (.lst ((cl m 0).map nV)) := by
    rw [eD3, cl_zero, List.map_map, List.map_map]
    rfl
  refine ⟨small_line (by simp), fun p H5 n5 => ?_⟩
  have hpn : H p = none := g4.free n5.nil
  refine ⟨fun mm σ H' => ∃ (k : Nat) (xs : List V), mm = L + 1 - k ∧ 0 < k ∧ k ≤ L + 1 ∧ Same H H' ∧ σ = [some (.ref a), some (nV L), some (.ref p)] ∧ H' p = some (.lst xs) ∧ Paired (CntL m H') xs (List.range k), ⟨L, 1, _, rfl, by omega, by omega, g4.trans n5.g, rfl, n5.at', .cons ⟨D3, rfl, n5.g _ _ eD3'⟩ .nil⟩, ?_⟩
  rintro mm σ H' ⟨k, xs, rfl, k0, k1, g, rfl, ep, pp⟩
  have hxl : xs.length = k := by rw [pp.length, List.length_range]
  simp only [exists_eq', rEqI, rNeI, rInDc, rLenD, rLenT, rDictOf, rMaxL, rIndex, rCatTN, rCatTE, tDNewN, tDNewTN, tDisp1T, rNeM, rRange2, rListRng, rRepN, rPopAt, rSetL, gSub, ipI, tDGet, tDGet2, sDPut, iEnum, iEZ, iZipL, iRng3, tRaise, tTryN, rLeL, rNotInD, iEnum, iZip, rInD, rIxD, rLen, rAll, rAny, rSum, rListOf, rEqS, rNeS, rSlTN, rStrB, tTupN, tLstN, rSlLN, rCatN, cxK, cxP, cxW, tSeq, tIfS, tTest, tB, tOp, tUn, tC, tAnd, tOr, tNot, tAndV, tOrV, tNotV, tIf, tNext, tBreak, tCont, tDrop, tRet, tRetN, gName, gNil, gCons, gTup, tAsg, tPar, tAug, rI, rI0, rU, rEq, rNe, tChain, tNil, tCons, tTup, tLst, tCall, tCB, tNoPart, tPart, tSl, rSlT, rSlL, rSlS, rIxL, rIxT, rIxS, rIn, tBM0, tBM, tyV, rAppend, rExtend, rCat, rZfill, rEqD, iList, iTup, iStr, iRng1, iRng2, tYes, tDisp, tPairs, rd_v0, rd_vS, rd_comp, rd_for, rd_ite_t, rd_ite_f, List.set_cons_zero, List.set_cons_succ, List.nil_append, List.cons_append, List.append_nil, V.int.injEq, V.str.injEq, V.bl.injEq, V.ref.injEq, V.ty.injEq, List.cons.injEq, and_true, true_and, exists_eq_left, exists_eq_left', exists_and_left, exists_eq, exists_const, if_true, if_false, ite_true, ite_false, rd_ss, rd_si, rd_is, rd_ii, rd_bb, Option.some.injEq, exists_eq_right, exists_eq_right', and_assoc, reduceCtorEq, false_and, and_false, false_or, or_false, exists_false]
  refine ⟨_, .inl (.of ep), ?_⟩
  by_cases hk : k ≤ L
  · rw [decide_eq_true (by rw [hxl]; omega)]
    refine iteT ⟨fun σ' H'' => ∃ m', m' < L + 1 - k ∧ _, fun σ' H'' z => z, ?_⟩
    obtain ⟨j, rfl⟩ : ∃ j, k = j + 1 := ⟨k - 1, by omega⟩
    have hne : ∀ c k, H' c = some (.lst ((cl m k).map nV)) → c ≠ p := by
      rintro c k e rfl
      rw [ep] at e
      injection e with e
      injection e with e
      obtain ⟨v, ev, c', rfl, _⟩ := Paired.at2 pp (List.getElem?_range (show 0 < j + 1 by omega))
      rw [e, List.getElem?_map] at ev
      obtain ⟨z, _, hz⟩ := Option.map_eq_some_iff.mp ev
      cases hz
    obtain ⟨v, ev, c, rfl, ecj⟩ := Paired.at2 pp (List.getElem?_range (show j < j + 1 by omega))
    obtain ⟨ini, v', hiv⟩ : ∃ ini v', xs = ini ++ [v'] := by
      rcases List.eq_nil_or_concat xs with e | ⟨i, x, e⟩
      · rw [e] at hxl; cases hxl
      · exact ⟨i, x, by rw [e, List.concat_eq_append]⟩
    have hv' : v' = .ref c := by
      rw [hiv, List.length_append, List.length_singleton] at hxl
      have hij : ini.length = j := by omega
      rw [hiv, ← hij, List.getElem?_append_right (Nat.le_refl _), Nat.sub_self] at ev
      injection ev
    subst hv'
    refine ⟨.inl ⟨_, .of ep⟩, _, .of ep, _, by rw [hiv]; exact atI_last _ _, a, c, m, j, rfl, rm.same g, ok, ecj, fun D6 H6 hD6 g6 e6 => ⟨_, g6 _ _ ep, small1000 (by omega), L + 1 - (j + 2), by omega, j + 2, rfl, by omega, by omega, (g.trans g6).wr hpn _, rfl, _, upd_same, ?_⟩⟩
    rw [List.range_succ]
    refine SM.Paired.snoc (L2.Paired.mapP pp fun v k h => ?_) ⟨D6, rfl, ?_⟩
    · obtain ⟨c, e, z⟩ := h
      exact ⟨c, e, by rw [upd_ne (hne c k z)]; exact g6 _ _ z⟩
    · rw [upd_ne (fun e => by rw [e, ep] at hD6; cases hD6)]
      exact e6
  · rw [decide_eq_false (by rw [hxl]; omega)]
    have : k = L + 1 := by omega
    subst this
    exact iteF (q p xs H' hpn g ep pp)
abbrev s_check_length : Stmt := top 14
theorem sc_check_length : FnScope ["length"] ["length"] (defScope s_check_length) := ⟨rfl, rfl, rfl, by decide +kernel, rfl, by decide +kernel, by decide +kernel⟩
theorem ok_checkL (T : Txt K mg cNoNumber cNoRow) (d : Dfn K mg "check_length" s_check_length ["length"]) (C_is_below : Cal P w K mg base 2 "is_below" ["thing", "bound"] sp_belowX) : CalE P w K mg base 3 "check_length" ["length"] (sp_checkL cNoNumber) := by
  refine d.calE sc_check_length (fun vs H Q E h => ?_) (fun f cdv A outer s H vs Q E hr h R => ?_)
  · obtain ⟨v, rfl, _⟩ := h
    rfl
  obtain ⟨v, rfl, h⟩ := h
  refine ⟨_, (pss_one (ps_if (pt_not (pt_val (pe_callC C_is_below hr (by omega) (by rfl) (pa_c (pv 0) (pa_c (pe_op op_add (pe_gl (by rfl) T.g_LONGEST) pe_int) pa_nil))))) (pss_one (ps_raiseK R rfl (by rfl) T.m_NoNumber T.x_NoNumber F.excBase_ValueError (pa_c pe_str pa_nil))) pss_nil)), ?_⟩
  refine rd_st [some v] rfl ?_
  simp only [exists_eq', rEqI, rNeI, rInDc, rLenD, rLenT, rDictOf, rMaxL, rIndex, rCatTN, rCatTE, tDNewN, tDNewTN, tDisp1T, rNeM, rRange2, rListRng, rRepN, rPopAt, rSetL, gSub, ipI, tDGet, tDGet2, sDPut, iEnum, iEZ, iZipL, iRng3, tRaise, tTryN, rLeL, rNotInD, iEnum, iZip, rInD, rIxD, rLen, rAll, rAny, rSum, rListOf, rEqS, rNeS, rSlTN, rStrB, tTupN, tLstN, rSlLN, rCatN, cxK, cxP, cxW, tSeq, tIfS, tTest, tB, tOp, tUn, tC, tAnd, tOr, tNot, tAndV, tOrV, tNotV, tIf, tNext, tBreak, tCont, tDrop, tRet, tRetN, gName, gNil, gCons, gTup, tAsg, tPar, tAug, rI, rI0, rU, rEq, rNe, tChain, tNil, tCons, tTup, tLst, tCall, tCB, tNoPart, tPart, tSl, rSlT, rSlL, rSlS, rIxL, rIxT, rIxS, rIn, tBM0, tBM, tyV, rAppend, rExtend, rCat, rZfill, rEqD, iList, iTup, iStr, iRng1, iRng2, tYes, tDisp, tPairs, rd_v0, rd_vS, rd_comp, rd_for, rd_ite_t, rd_ite_f, List.set_cons_zero, List.set_cons_succ, List.nil_append, List.cons_append, List.append_nil, V.int.injEq, V.str.injEq, V.bl.injEq, V.ref.injEq, V.ty.injEq, List.cons.injEq, and_true, true_and, exists_eq_left, exists_eq_left', exists_and_left, exists_eq, exists_const, if_true, if_false, ite_true, ite_false, rd_ss, rd_si, rd_is, rd_ii, rd_bb, Option.some.injEq, exists_eq_right, exists_eq_right', and_assoc, reduceCtorEq, false_and, and_false, false_or, or_false, exists_false]
  rcases h with ⟨L, rfl, hL, q⟩ | ⟨nl, q⟩
  · exact ⟨_, _, rfl, .inl ⟨L, rfl, by omega, by show (L : Int) < 101; omega, true, rfl, iteF q⟩⟩
  · exact ⟨_, _, rfl, .inr ⟨nl, false, rfl, iteT ⟨small_line (by simp), q⟩⟩⟩
abbrev s_how_many : Stmt := top 15
theorem sc_how_many : FnScope ["machine", "length"] ["machine", "length"] (defScope s_how_many) := ⟨rfl, rfl, rfl, by decide +kernel, rfl, by decide +kernel, by decide +kernel⟩
theorem ok_many (T : Txt K mg cNoNumber cNoRow) (d : Dfn K mg "how_many" s_how_many ["machine", "length"]) (C_check_length : CalE P w K mg base 3 "check_length" ["length"] (sp_checkL cNoNumber)) (C_counts_from : Cal P w K mg base 2 "counts_from" ["machine", "length"] sp_from) : CalE P w K mg base 4 "how_many" ["machine", "length"] (sp_many cNoNumber) := by
  refine d.calE sc_how_many (fun vs H Q E h => ?_) (fun f cdv A outer s H vs Q E hr h R => ?_)
  · obtain ⟨a, m, v, rfl, _⟩ := h
    rfl
  obtain ⟨a, m, v, rfl, rm, ok, h⟩ := h
  refine ⟨_, (pss_cons (ps_expr (pe_callE R C_check_length hr (by omega) (by rfl) (pa_c (pv 1) pa_nil))) (pss_one (ps_ret (pe_ix (ix_listK K) (pe_ix (ix_listK K) (pe_callC C_counts_from hr (by omega) (by rfl) (pa_c (pv 0) (pa_c (pv 1) pa_nil))) (pv 1) (fun _ _ => rfl)) pe_int (fun _ _ => rfl))))), ?_⟩
  refine rd_st [some (.ref a), some v] rfl ?_
  simp only [exists_eq', rEqI, rNeI, rInDc, rLenD, rLenT, rDictOf, rMaxL, rIndex, rCatTN, rCatTE, tDNewN, tDNewTN, tDisp1T, rNeM, rRange2, rListRng, rRepN, rPopAt, rSetL, gSub, ipI, tDGet, tDGet2, sDPut, iEnum, iEZ, iZipL, iRng3, tRaise, tTryN, rLeL, rNotInD, iEnum, iZip, rInD, rIxD, rLen, rAll, rAny, rSum, rListOf, rEqS, rNeS, rSlTN, rStrB, tTupN, tLstN, rSlLN, rCatN, cxK, cxP, cxW, tSeq, tIfS, tTest, tB, tOp, tUn, tC, tAnd, tOr, tNot, tAndV, tOrV, tNotV, tIf, tNext, tBreak, tCont, tDrop, tRet, tRetN, gName, gNil, gCons, gTup, tAsg, tPar, tAug, rI, rI0, rU, rEq, rNe, tChain, tNil, tCons, tTup, tLst, tCall, tCB, tNoPart, tPart, tSl, rSlT, rSlL, rSlS, rIxL, rIxT, rIxS, rIn, tBM0, tBM, tyV, rAppend, rExtend, rCat, rZfill, rEqD, iList, iTup, iStr, iRng1, iRng2, tYes, tDisp, tPairs, rd_v0, rd_vS, rd_comp, rd_for, rd_ite_t, rd_ite_f, List.set_cons_zero, List.set_cons_succ, List.nil_append, List.cons_append, List.append_nil, V.int.injEq, V.str.injEq, V.bl.injEq, V.ref.injEq, V.ty.injEq, List.cons.injEq, and_true, true_and, exists_eq_left, exists_eq_left', exists_and_left, exists_eq, exists_const, if_true, if_false, ite_true, ite_false, rd_ss, rd_si, rd_is, rd_ii, rd_bb, Option.some.injEq, exists_eq_right, exists_eq_right', and_assoc, reduceCtorEq, false_and, and_false, false_or, or_false, exists_false]
  rcases h with ⟨L, rfl, hL, q⟩ | ⟨nl, q⟩
  · refine ⟨_, rfl, .inl ⟨L, rfl, hL, a, m, L, rfl, rm, ok, hL, fun D xs H' hD g eD pp => ?_⟩⟩
    obtain ⟨v, ev, c, rfl, ec⟩ := Paired.at2 pp (List.getElem?_range (show L < L + 1 by omega))
    have at5 : ((cl m L).map nV)[0]? = some (nV (cnt m L 0)) := by rw [List.getElem?_map, cl_at ok.pos]; rfl
    exact ⟨D, rfl, _, _, rfl, .of eD, _, atI_nat ev, c, rfl, _, .of ec, _, atI_nat at5, q H' g⟩
  · exact ⟨_, rfl, .inr ⟨nl, q⟩⟩
abbrev s_gone : Stmt := top 5
theorem sc_gone : FnScope ["machine", "row", "rooms", "letter"] ["machine", "row"] (defScope s_gone) := ⟨rfl, rfl, rfl, by decide +kernel, rfl, by decide +kernel, by decide +kernel⟩
theorem ok_gone (T : Txt K mg cNoNumber cNoRow) (d : Dfn K mg "gone" s_gone ["machine", "row"]) : Cal P w K mg base 1 "gone" ["machine", "row"] (sp_gone K) := by
  refine d.cal sc_gone (fun vs H Q E h => ?_) (fun f cdv A outer s H vs Q E hr h => ?_)
  · obtain ⟨a, b, m, row, rfl, _⟩ := h
    rfl
  obtain ⟨a, b, m, row, rfl, ⟨b1, c1, rs, ea, eb, pr, ec⟩, ok, hb, hl, h300, q⟩ := h
  refine ⟨_, (pss_cons (ps_set (i := 2) sc_gone.nd rfl (Or.inl rfl) (pe_lstN (pa_c pe_int pa_nil))) (pss_cons (ps_for PassesOwn.never rfl (pi_listK K (pv 1)) (pg_name (i := 3) (show List.Nodup (["machine", "row", "rooms", "letter"] : List Str) by decide +kernel) (by rfl) (Or.inl (by rfl))) (pss_one (ps_expr (pe_bmK K PySem.F.plainAttrs_list PySem.F.slot_list_append PySem.F.type_list_append mt_append (pv 2) (pa_c (pe_ix (ix_tupK K) (pe_ix (ix_tupK K) (pe_ix (ix_tupK K) (pv 0) pe_int (fun _ _ => rfl)) (pe_ix (ix_listK K) (pv 2) (pe_un un_neg pe_int) (fun _ _ => rfl)) (fun _ _ => rfl)) (pv 3) (fun _ _ => rfl)) pa_nil))))) (pss_one (ps_ret (pv 2))))), ?_⟩
  refine rd_st [some (.ref a), some (.ref b), none, none] rfl ?_
  simp only [exists_eq', rEqI, rNeI, rInDc, rLenD, rLenT, rDictOf, rMaxL, rIndex, rCatTN, rCatTE, tDNewN, tDNewTN, tDisp1T, rNeM, rRange2, rListRng, rRepN, rPopAt, rSetL, gSub, ipI, tDGet, tDGet2, sDPut, iEnum, iEZ, iZipL, iRng3, tRaise, tTryN, rLeL, rNotInD, iEnum, iZip, rInD, rIxD, rLen, rAll, rAny, rSum, rListOf, rEqS, rNeS, rSlTN, rStrB, tTupN, tLstN, rSlLN, rCatN, cxK, cxP, cxW, tSeq, tIfS, tTest, tB, tOp, tUn, tC, tAnd, tOr, tNot, tAndV, tOrV, tNotV, tIf, tNext, tBreak, tCont, tDrop, tRet, tRetN, gName, gNil, gCons, gTup, tAsg, tPar, tAug, rI, rI0, rU, rEq, rNe, tChain, tNil, tCons, tTup, tLst, tCall, tCB, tNoPart, tPart, tSl, rSlT, rSlL, rSlS, rIxL, rIxT, rIxS, rIn, tBM0, tBM, tyV, rAppend, rExtend, rCat, rZfill, rEqD, iList, iTup, iStr, iRng1, iRng2, tYes, tDisp, tPairs, rd_v0, rd_vS, rd_comp, rd_for, rd_ite_t, rd_ite_f, List.set_cons_zero, List.set_cons_succ, List.nil_append, List.cons_append, List.append_nil, V.int.injEq, V.str.injEq, V.bl.injEq, V.ref.injEq, V.ty.injEq, List.cons.injEq, and_true, true_and, exists_eq_left, exists_eq_left', exists_and_left, exists_eq, exists_const, if_true, if_false, ite_true, ite_false, rd_ss, rd_si, rd_is, rd_ii, rd_bb, Option.some.injEq, exists_eq_right, exists_eq_right', and_assoc, reduceCtorEq, false_and, and_false, false_or, or_false, exists_false]
  refine ⟨by decide, fun p H1 n1 => ⟨⟨_, n1.g.seq hb⟩, ?_⟩⟩
  refine fb_list (K := K) (a := b) (xs := row.map nV) (fun i σ H' => Same H H' ∧ (∃ v3, σ = [some (.ref a), some (.ref b), some (.ref p), v3]) ∧ H' p = some (.lst ((m.path 0 (row.take i)).map nV))) ⟨n1.g, ⟨none, rfl⟩, n1.at'⟩ (fun i σ H' _ ⟨g, _⟩ => g.seq hb) ?_ ?_
  · rintro i y σ H' hy ⟨g, ⟨v3, rfl⟩, ep⟩
    rw [List.getElem?_map] at hy
    obtain ⟨l, el, rfl⟩ := Option.map_eq_some_iff.mp hy
    have hll := hl l (List.mem_of_getElem? el)
    obtain ⟨ini, ei⟩ := m.path_last (row.take i) 0
    have hpl := m.path_len (row.take i) 0
    have hlt := ok.run_lt (row.take i) 0 ok.pos fun x hx => hl x (List.mem_of_mem_take hx)
    obtain ⟨line, e1, e2, e3⟩ := ok.at hlt hll
    obtain ⟨v, ev, a2, rfl, e4⟩ := Paired.at2 pr e1
    have en : m.path 0 (row.take (i + 1)) = ini ++ [m.run 0 (row.take i)] ++ [m.go (m.run 0 (row.take i)) l] := by rw [List.take_add_one, el, Option.toList_some, m.path_snoc, ei]
    have ep' : H' p = some (.lst (ini.map nV ++ [nV (m.run 0 (row.take i))])) := by rw [ep, ei, List.map_append]; rfl
    have at4 : (line.map nV)[l]? = some (nV (m.go (m.run 0 (row.take i)) l)) := by rw [List.getElem?_map, e2]; rfl
    have hln : (ini.map nV ++ [nV (m.run 0 (row.take i))]).length ≤ 400 := by
      rw [ei, List.length_append, List.length_singleton, List.length_take] at hpl
      rw [List.length_append, List.length_map, List.length_singleton]
      omega
    simp only [exists_eq', rEqI, rNeI, rInDc, rLenD, rLenT, rDictOf, rMaxL, rIndex, rCatTN, rCatTE, tDNewN, tDNewTN, tDisp1T, rNeM, rRange2, rListRng, rRepN, rPopAt, rSetL, gSub, ipI, tDGet, tDGet2, sDPut, iEnum, iEZ, iZipL, iRng3, tRaise, tTryN, rLeL, rNotInD, iEnum, iZip, rInD, rIxD, rLen, rAll, rAny, rSum, rListOf, rEqS, rNeS, rSlTN, rStrB, tTupN, tLstN, rSlLN, rCatN, cxK, cxP, cxW, tSeq, tIfS, tTest, tB, tOp, tUn, tC, tAnd, tOr, tNot, tAndV, tOrV, tNotV, tIf, tNext, tBreak, tCont, tDrop, tRet, tRetN, gName, gNil, gCons, gTup, tAsg, tPar, tAug, rI, rI0, rU, rEq, rNe, tChain, tNil, tCons, tTup, tLst, tCall, tCB, tNoPart, tPart, tSl, rSlT, rSlL, rSlS, rIxL, rIxT, rIxS, rIn, tBM0, tBM, tyV, rAppend, rExtend, rCat, rZfill, rEqD, iList, iTup, iStr, iRng1, iRng2, tYes, tDisp, tPairs, rd_v0, rd_vS, rd_comp, rd_for, rd_ite_t, rd_ite_f, List.set_cons_zero, List.set_cons_succ, List.nil_append, List.cons_append, List.append_nil, V.int.injEq, V.str.injEq, V.bl.injEq, V.ref.injEq, V.ty.injEq, List.cons.injEq, and_true, true_and, exists_eq_left, exists_eq_left', exists_and_left, exists_eq, exists_const, if_true, if_false, ite_true, ite_false, rd_ss, rd_si, rd_is, rd_ii, rd_bb, Option.some.injEq, exists_eq_right, exists_eq_right', and_assoc, reduceCtorEq, false_and, and_false, false_or, or_false, exists_false]
    refine ⟨.inl ⟨_, .of ep'⟩, _, .of (g _ _ ea), _, atI_nat (j := 1) rfl, _, .of ep', _, atI_last _ _, _, rfl, _, _, rfl, .of (g _ _ eb), _, atI_nat ev, _, rfl, _, .of (g _ _ e4), _, atI_nat at4, _, ep', small1000 (by omega), ?_⟩
    refine ⟨g.wr n1.nil _, ?_⟩
    rw [upd_same, en, List.map_append, List.map_append]
    rfl
  · rintro σ H' ⟨g, ⟨v3, rfl⟩, ep⟩
    rw [List.length_map, List.take_of_length_le (Nat.le_refl _)] at ep
    simp only [exists_eq', rEqI, rNeI, rInDc, rLenD, rLenT, rDictOf, rMaxL, rIndex, rCatTN, rCatTE, tDNewN, tDNewTN, tDisp1T, rNeM, rRange2, rListRng, rRepN, rPopAt, rSetL, gSub, ipI, tDGet, tDGet2, sDPut, iEnum, iEZ, iZipL, iRng3, tRaise, tTryN, rLeL, rNotInD, iEnum, iZip, rInD, rIxD, rLen, rAll, rAny, rSum, rListOf, rEqS, rNeS, rSlTN, rStrB, tTupN, tLstN, rSlLN, rCatN, cxK, cxP, cxW, tSeq, tIfS, tTest, tB, tOp, tUn, tC, tAnd, tOr, tNot, tAndV, tOrV, tNotV, tIf, tNext, tBreak, tCont, tDrop, tRet, tRetN, gName, gNil, gCons, gTup, tAsg, tPar, tAug, rI, rI0, rU, rEq, rNe, tChain, tNil, tCons, tTup, tLst, tCall, tCB, tNoPart, tPart, tSl, rSlT, rSlL, rSlS, rIxL, rIxT, rIxS, rIn, tBM0, tBM, tyV, rAppend, rExtend, rCat, rZfill, rEqD, iList, iTup, iStr, iRng1, iRng2, tYes, tDisp, tPairs, rd_v0, rd_vS, rd_comp, rd_for, rd_ite_t, rd_ite_f, List.set_cons_zero, List.set_cons_succ, List.nil_append, List.cons_append, List.append_nil, V.int.injEq, V.str.injEq, V.bl.injEq, V.ref.injEq, V.ty.injEq, List.cons.injEq, and_true, true_and, exists_eq_left, exists_eq_left', exists_and_left, exists_eq, exists_const, if_true, if_false, ite_true, ite_false, rd_ss, rd_si, rd_is, rd_ii, rd_bb, Option.some.injEq, exists_eq_right, exists_eq_right', and_assoc, reduceCtorEq, false_and, and_false, false_or, or_false, exists_false]
    exact q p H' n1.nil g ep
abbrev s_takes : Stmt := top 6
theorem sc_takes : FnScope ["machine", "row"] ["machine", "row"] (defScope s_takes) := ⟨rfl, rfl, rfl, by decide +kernel, rfl, by decide +kernel, by decide +kernel⟩
theorem ok_takes (T : Txt K mg cNoNumber cNoRow) (d : Dfn K mg "takes" s_takes ["machine", "row"]) (C_gone : Cal P w K mg base 1 "gone" ["machine", "row"] (sp_gone K)) : Cal P w K mg base 2 "takes" ["machine", "row"] (sp_takes K) := by
  refine d.cal sc_takes (fun vs H Q E h => ?_) (fun f cdv A outer s H vs Q E hr h => ?_)
  · obtain ⟨a, b, m, row, rfl, _⟩ := h
    rfl
  obtain ⟨a, b, m, row, rfl, rm, ok, hb, hl, h300, q⟩ := h
  obtain ⟨b1, c1, rs, ea, eb, pr, ec⟩ := id rm
  refine ⟨_, (pss_one (ps_ret (pe_ix (ix_tupK K) (pe_ix (ix_tupK K) (pv 0) pe_int (fun _ _ => rfl)) (pe_ix (ix_listK K) (pe_callC C_gone hr (by omega) (by rfl) (pa_c (pv 0) (pa_c (pv 1) pa_nil))) (pe_un un_neg pe_int) (fun _ _ => rfl)) (fun _ _ => rfl)))), ?_⟩
  refine rd_st [some (.ref a), some (.ref b)] rfl ?_
  simp only [exists_eq', rEqI, rNeI, rInDc, rLenD, rLenT, rDictOf, rMaxL, rIndex, rCatTN, rCatTE, tDNewN, tDNewTN, tDisp1T, rNeM, rRange2, rListRng, rRepN, rPopAt, rSetL, gSub, ipI, tDGet, tDGet2, sDPut, iEnum, iEZ, iZipL, iRng3, tRaise, tTryN, rLeL, rNotInD, iEnum, iZip, rInD, rIxD, rLen, rAll, rAny, rSum, rListOf, rEqS, rNeS, rSlTN, rStrB, tTupN, tLstN, rSlLN, rCatN, cxK, cxP, cxW, tSeq, tIfS, tTest, tB, tOp, tUn, tC, tAnd, tOr, tNot, tAndV, tOrV, tNotV, tIf, tNext, tBreak, tCont, tDrop, tRet, tRetN, gName, gNil, gCons, gTup, tAsg, tPar, tAug, rI, rI0, rU, rEq, rNe, tChain, tNil, tCons, tTup, tLst, tCall, tCB, tNoPart, tPart, tSl, rSlT, rSlL, rSlS, rIxL, rIxT, rIxS, rIn, tBM0, tBM, tyV, rAppend, rExtend, rCat, rZfill, rEqD, iList, iTup, iStr, iRng1, iRng2, tYes, tDisp, tPairs, rd_v0, rd_vS, rd_comp, rd_for, rd_ite_t, rd_ite_f, List.set_cons_zero, List.set_cons_succ, List.nil_append, List.cons_append, List.append_nil, V.int.injEq, V.str.injEq, V.bl.injEq, V.ref.injEq, V.ty.injEq, List.cons.injEq, and_true, true_and, exists_eq_left, exists_eq_left', exists_and_left, exists_eq, exists_const, if_true, if_false, ite_true, ite_false, rd_ss, rd_si, rd_is, rd_ii, rd_bb, Option.some.injEq, exists_eq_right, exists_eq_right', and_assoc, reduceCtorEq, false_and, and_false, false_or, or_false, exists_false]
  refine ⟨_, .of ea, _, atI_nat (j := 2) rfl, a, b, m, row, rfl, rm, ok, hb, hl, h300, fun D H' hD g eD => ?_⟩
  obtain ⟨ini, ei⟩ := m.path_last row 0
  have eD' : H' D = some (.lst (ini.map nV ++ [nV (m.run 0 row)])) := by rw [eD, ei, List.map_append]; rfl
  have hlt := ok.run_lt row 0 ok.pos hl
  have at3 : (m.ends.map V.bl)[m.run 0 row]? = some (.bl (m.fin (m.run 0 row))) := by rw [List.getElem?_map, Mc.fin_at hlt]; rfl
  exact ⟨_, rfl, _, .of eD', _, atI_last _ _, _, rfl, _, _, rfl, .of (g _ _ ec), _, atI_nat at3, q H' g⟩
abbrev s_row_by : Stmt := top 16
theorem sc_row_by : FnScope ["machine", "length", "number", "counts", "row", "room", "ahead", "ways", "behind", "letter"] ["machine", "length", "number"] (defScope s_row_by) := ⟨rfl, rfl, rfl, by decide +kernel, rfl, by decide +kernel, by decide +kernel⟩
theorem ok_rowby (T : Txt K mg cNoNumber cNoRow) (d : Dfn K mg "row_by" s_row_by ["machine", "length", "number"]) (C_check_length : CalE P w K mg base 3 "check_length" ["length"] (sp_checkL cNoNumber)) (C_counts_from : Cal P w K mg base 2 "counts_from" ["machine", "length"] sp_from) (C_is_below : Cal P w K mg base 2 "is_below" ["thing", "bound"] sp_belowX) : CalE P w K mg base 4 "row_by" ["machine", "length", "number"] (sp_rowby cNoNumber) := by
  refine d.calE sc_row_by (fun vs H Q E h => ?_) (fun f cdv A outer s H vs Q E hr h R => ?_)
  · obtain ⟨a, m, v, x, rfl, _⟩ := h
    rfl
  obtain ⟨a, m, v, x, rfl, rm, ok, h⟩ := h
  refine ⟨_, (pss_cons (ps_expr (pe_callE R C_check_length hr (by omega) (by rfl) (pa_c (pv 1) pa_nil))) (pss_cons (ps_set (i := 3) sc_row_by.nd rfl (Or.inl rfl) (pe_callC C_counts_from hr (by omega) (by rfl) (pa_c (pv 0) (pa_c (pv 1) pa_nil)))) (pss_cons (ps_if (pt_not (pt_val (pe_callC C_is_below hr (by omega) (by rfl) (pa_c (pv 2) (pa_c (pe_ix (ix_listK K) (pe_ix (ix_listK K) (pv 3) (pv 1) (fun _ _ => rfl)) pe_int (fun _ _ => rfl)) pa_nil))))) (pss_one (ps_raiseK R rfl (by rfl) T.m_NoNumber T.x_NoNumber F.excBase_ValueError (pa_c pe_str pa_nil))) pss_nil) (pss_cons (ps_set (i := 4) sc_row_by.nd rfl (Or.inl rfl) (pe_lstN pa_nil)) (pss_cons (ps_set (i := 5) sc_row_by.nd rfl (Or.inl rfl) pe_int) (pss_cons (ps_set (i := 6) sc_row_by.nd rfl (Or.inl rfl) (pv 2)) (pss_cons (PS.nox (ps_while PassesOwn.never (pt_cmpR op_lt (pe_cB (call_len_seqK K) (by rfl) T.b_len boot_len (pa_c (pv 4) pa_nil)) (pv 1) (nomark _)) (pss_cons (ps_set (i := 7) sc_row_by.nd rfl (Or.inl rfl) (pe_ix (ix_tupK K) (pe_ix (ix_tupK K) (pv 0) pe_int (fun _ _ => rfl)) (pv 5) (fun _ _ => rfl))) (pss_cons (ps_set (i := 8) sc_row_by.nd rfl (Or.inl rfl) (pe_ix (ix_listK K) (pv 3) (pe_op op_sub (pe_op op_sub (pv 1) (pe_cB (call_len_seqK K) (by rfl) T.b_len boot_len (pa_c (pv 4) pa_nil))) pe_int) (fun _ _ => rfl))) (pss_cons (ps_set (i := 9) sc_row_by.nd rfl (Or.inl rfl) pe_int) (pss_cons (ps_while PassesOwn.never (pt_cmpR op_ge (pv 6) (pe_ix (ix_listK K) (pv 8) (pe_ix (ix_tupK K) (pv 7) (pv 9) (fun _ _ => rfl)) (fun _ _ => rfl)) (nomark _)) (pss_cons (ps_aug (i := 6) sc_row_by.nd rfl (Or.inl rfl) (pe_ix (ix_listK K) (pv 8) (pe_ix (ix_tupK K) (pv 7) (pv 9) (fun _ _ => rfl)) (fun _ _ => rfl)) ip_sub) (pss_one (ps_aug (i := 9) sc_row_by.nd rfl (Or.inl rfl) pe_int ip_add)))) (pss_cons (ps_expr (pe_bmK K PySem.F.plainAttrs_list PySem.F.slot_list_append PySem.F.type_list_append mt_append (pv 4) (pa_c (pv 9) pa_nil))) (pss_one (ps_set (i := 5) sc_row_by.nd rfl (Or.inl rfl) (pe_ix (ix_tupK K) (pv 7) (pv 9) (fun _ _ => rfl))))))))))) (pss_one (ps_ret (pv 4)))))))))), ?_⟩
  refine rd_st [some (.ref a), some v, some x, none, none, none, none, none, none, none] rfl ?_
  simp only [exists_eq', rEqI, rNeI, rInDc, rLenD, rLenT, rDictOf, rMaxL, rIndex, rCatTN, rCatTE, tDNewN, tDNewTN, tDisp1T, rNeM, rRange2, rListRng, rRepN, rPopAt, rSetL, gSub, ipI, tDGet, tDGet2, sDPut, iEnum, iEZ, iZipL, iRng3, tRaise, tTryN, rLeL, rNotInD, iEnum, iZip, rInD, rIxD, rLen, rAll, rAny, rSum, rListOf, rEqS, rNeS, rSlTN, rStrB, tTupN, tLstN, rSlLN, rCatN, cxK, cxP, cxW, tSeq, tIfS, tTest, tB, tOp, tUn, tC, tAnd, tOr, tNot, tAndV, tOrV, tNotV, tIf, tNext, tBreak, tCont, tDrop, tRet, tRetN, gName, gNil, gCons, gTup, tAsg, tPar, tAug, rI, rI0, rU, rEq, rNe, tChain, tNil, tCons, tTup, tLst, tCall, tCB, tNoPart, tPart, tSl, rSlT, rSlL, rSlS, rIxL, rIxT, rIxS, rIn, tBM0, tBM, tyV, rAppend, rExtend, rCat, rZfill, rEqD, iList, iTup, iStr, iRng1, iRng2, tYes, tDisp, tPairs, rd_v0, rd_vS, rd_comp, rd_for, rd_ite_t, rd_ite_f, List.set_cons_zero, List.set_cons_succ, List.nil_append, List.cons_append, List.append_nil, V.int.injEq, V.str.injEq, V.bl.injEq, V.ref.injEq, V.ty.injEq, List.cons.injEq, and_true, true_and, exists_eq_left, exists_eq_left', exists_and_left, exists_eq, exists_const, if_true, if_false, ite_true, ite_false, rd_ss, rd_si, rd_is, rd_ii, rd_bb, Option.some.injEq, exists_eq_right, exists_eq_right', and_assoc, reduceCtorEq, false_and, and_false, false_or, or_false, exists_false]
  obtain ⟨b1, c1, rs, ea, eb, pr, ec1⟩ := id rm
  rcases h with ⟨L, n, rfl, rfl, hL, hn, q⟩ | ⟨bad, q⟩
  · refine ⟨_, rfl, .inl ⟨L, rfl, hL, a, m, L, rfl, rm, ok, hL, fun Dc xs H1 hDc g1 eDc pc => ?_⟩⟩
    obtain ⟨v, ev, c, rfl, ec⟩ := Paired.at2 pc (List.getElem?_range (show L < L + 1 by omega))
    have at0 : ((cl m L).map nV)[0]? = some (nV (cnt m L 0)) := by rw [List.getElem?_map, cl_at ok.pos]; rfl
    refine ⟨Dc, rfl, _, _, rfl, .of eDc, _, atI_nat ev, c, rfl, _, .of ec, _, atI_nat at0, _, _, rfl, .inl ⟨(n : Int), rfl, by omega, by omega, true, rfl, iteF ⟨small_line (by simp), fun p H2 n2 => ?_⟩⟩⟩
    refine ⟨fun mm σ H' => ∃ (i : Nat) (u : List Nat) (y : Nat) (v7 v8 v9 : Option V), mm = L - i ∧ i ≤ L ∧ Same H1 H' ∧ σ = [some (.ref a), some (nV L), some (nV n), some (.ref Dc), some (.ref p), some (nV (m.run 0 u)), some (nV y), v7, v8, v9] ∧ H' p = some (.lst (u.map nV)) ∧ Find m L n i u y, ⟨L, 0, [], n, none, none, none, rfl, Nat.zero_le _, n2.g, rfl, n2.at', find_start hn⟩, ?_⟩
    rintro mm σ H' ⟨i, u, y, v7, v8, v9, rfl, hi, g, rfl, ep, F⟩
    have hlen := F.len
    simp only [exists_eq', rEqI, rNeI, rInDc, rLenD, rLenT, rDictOf, rMaxL, rIndex, rCatTN, rCatTE, tDNewN, tDNewTN, tDisp1T, rNeM, rRange2, rListRng, rRepN, rPopAt, rSetL, gSub, ipI, tDGet, tDGet2, sDPut, iEnum, iEZ, iZipL, iRng3, tRaise, tTryN, rLeL, rNotInD, iEnum, iZip, rInD, rIxD, rLen, rAll, rAny, rSum, rListOf, rEqS, rNeS, rSlTN, rStrB, tTupN, tLstN, rSlLN, rCatN, cxK, cxP, cxW, tSeq, tIfS, tTest, tB, tOp, tUn, tC, tAnd, tOr, tNot, tAndV, tOrV, tNotV, tIf, tNext, tBreak, tCont, tDrop, tRet, tRetN, gName, gNil, gCons, gTup, tAsg, tPar, tAug, rI, rI0, rU, rEq, rNe, tChain, tNil, tCons, tTup, tLst, tCall, tCB, tNoPart, tPart, tSl, rSlT, rSlL, rSlS, rIxL, rIxT, rIxS, rIn, tBM0, tBM, tyV, rAppend, rExtend, rCat, rZfill, rEqD, iList, iTup, iStr, iRng1, iRng2, tYes, tDisp, tPairs, rd_v0, rd_vS, rd_comp, rd_for, rd_ite_t, rd_ite_f, List.set_cons_zero, List.set_cons_succ, List.nil_append, List.cons_append, List.append_nil, V.int.injEq, V.str.injEq, V.bl.injEq, V.ref.injEq, V.ty.injEq, List.cons.injEq, and_true, true_and, exists_eq_left, exists_eq_left', exists_and_left, exists_eq, exists_const, if_true, if_false, ite_true, ite_false, rd_ss, rd_si, rd_is, rd_ii, rd_bb, Option.some.injEq, exists_eq_right, exists_eq_right', and_assoc, reduceCtorEq, false_and, and_false, false_or, or_false, exists_false]
    refine ⟨_, .inl (.of ep), ?_⟩
    rw [List.length_map, hlen]
    by_cases hlt : i < L
    · rw [decide_eq_true (by omega)]
      refine iteT ⟨fun σ' H'' => ∃ m', m' < L - i ∧ _, fun σ' H'' z => z, ?_⟩
      have hrun := ok.run_lt u 0 ok.pos F.row
      have hw1 : m.run 0 u < m.ways.length := by rw [ok.len]; exact hrun
      obtain ⟨v, evr, a2, rfl, e4⟩ := Paired.at2 pr (List.getElem?_eq_getElem hw1)
      obtain ⟨v, evc, c2, rfl, ec2⟩ := Paired.at2 pc (List.getElem?_range (show L - i - 1 < L + 1 by omega))
      have hix : (L : Int) - (i : Int) - 1 = ((L - i - 1 : Nat) : Int) := by omega
      refine ⟨_, .of ((g1.trans g) _ _ ea), _, atI_nat (j := 1) rfl, _, rfl, _, .of ((g1.trans g) _ _ eb), _, atI_nat evr, _, .inl (.of ep), ?_⟩
      rw [List.length_map, hlen, hix]
      refine ⟨_, .of (g _ _ eDc), _, atI_nat evc, ?_⟩
      have e4' := (g1.trans g) _ _ e4
      have ec2' := g _ _ ec2
      refine ⟨fun mm σ H'' => ∃ (l z : Nat), mm = 2 ^ m.w - l ∧ H'' = H' ∧ σ = [some (.ref a), some (nV L), some (nV n), some (.ref Dc), some (.ref p), some (nV (m.run 0 u)), some (nV z), some (.ref a2), some (.ref c2), some (nV l)] ∧ l ≤ 2 ^ m.w ∧ z + pre m (L - i - 1) (m.run 0 u) l = y, ⟨2 ^ m.w, 0, y, rfl, rfl, rfl, Nat.zero_le _, rfl⟩, ?_⟩
      rintro mm σ H'' ⟨l, z, rfl, rfl, rfl, hl, hz⟩
      have hl2 := find_more ok F hlt hl hz
      have hgo := go_lt ok hrun hl2
      have atl : (m.ways[m.run 0 u].map nV)[l]? = some (nV (m.go (m.run 0 u) l)) := by
        obtain ⟨line, e1, e2, e3⟩ := ok.at hrun hl2
        rw [List.getElem?_eq_getElem hw1] at e1
        injection e1 with e1
        rw [List.getElem?_map, e1, e2]
        rfl
      have atc : ((cl m (L - i - 1)).map nV)[m.go (m.run 0 u) l]? = some (nV (cnt m (L - i - 1) (m.go (m.run 0 u) l))) := by rw [List.getElem?_map, cl_at hgo]; rfl
      simp only [exists_eq', rEqI, rNeI, rInDc, rLenD, rLenT, rDictOf, rMaxL, rIndex, rCatTN, rCatTE, tDNewN, tDNewTN, tDisp1T, rNeM, rRange2, rListRng, rRepN, rPopAt, rSetL, gSub, ipI, tDGet, tDGet2, sDPut, iEnum, iEZ, iZipL, iRng3, tRaise, tTryN, rLeL, rNotInD, iEnum, iZip, rInD, rIxD, rLen, rAll, rAny, rSum, rListOf, rEqS, rNeS, rSlTN, rStrB, tTupN, tLstN, rSlLN, rCatN, cxK, cxP, cxW, tSeq, tIfS, tTest, tB, tOp, tUn, tC, tAnd, tOr, tNot, tAndV, tOrV, tNotV, tIf, tNext, tBreak, tCont, tDrop, tRet, tRetN, gName, gNil, gCons, gTup, tAsg, tPar, tAug, rI, rI0, rU, rEq, rNe, tChain, tNil, tCons, tTup, tLst, tCall, tCB, tNoPart, tPart, tSl, rSlT, rSlL, rSlS, rIxL, rIxT, rIxS, rIn, tBM0, tBM, tyV, rAppend, rExtend, rCat, rZfill, rEqD, iList, iTup, iStr, iRng1, iRng2, tYes, tDisp, tPairs, rd_v0, rd_vS, rd_comp, rd_for, rd_ite_t, rd_ite_f, List.set_cons_zero, List.set_cons_succ, List.nil_append, List.cons_append, List.append_nil, V.int.injEq, V.str.injEq, V.bl.injEq, V.ref.injEq, V.ty.injEq, List.cons.injEq, and_true, true_and, exists_eq_left, exists_eq_left', exists_and_left, exists_eq, exists_const, if_true, if_false, ite_true, ite_false, rd_ss, rd_si, rd_is, rd_ii, rd_bb, Option.some.injEq, exists_eq_right, exists_eq_right', and_assoc, reduceCtorEq, false_and, and_false, false_or, or_false, exists_false]
      refine ⟨_, .of e4', _, atI_nat atl, _, _, rfl, .of ec2', _, atI_nat atc, _, rfl, ?_⟩
      by_cases hge : cnt m (L - i - 1) (m.go (m.run 0 u) l) ≤ z
      · rw [decide_eq_true (by omega)]
        refine iteT ⟨fun σ' H3 => ∃ m', m' < 2 ^ m.w - l ∧ _, fun σ' H3 z => z, _, rfl, _, .of e4', _, atI_nat atl, _, _, rfl, .of ec2', _, atI_nat atc, _, rfl, _, rfl, ?_⟩
        refine ⟨nV l, rfl, _, rfl, 2 ^ m.w - (l + 1), by omega, l + 1, rfl, rfl, z - cnt m (L - i - 1) (m.go (m.run 0 u) l), ?_, by omega, by rw [pre_succ]; omega⟩
        rw [show (z : Int) - ((cnt m (L - i - 1) (m.go (m.run 0 u) l) : Nat) : Int) = ((z - cnt m (L - i - 1) (m.go (m.run 0 u) l) : Nat) : Int) by omega]
        rfl
      · rw [decide_eq_false (by omega)]
        refine iteF ⟨.inl ⟨_, .of ep⟩, _, ep, small1000 (by rw [List.length_map]; omega), _, .of (by rw [upd_ne (fun e => by rw [e, ep] at e4'; cases e4')]; exact e4'), _, atI_nat atl, L - (i + 1), by omega, i + 1, rfl, by omega, g.wr n2.nil _, u ++ [l], by rw [Mc.run_snoc], z, rfl, ?_, find_step ok F hlt hl2 hz (by omega)⟩
        rw [upd_same, List.map_append]
        rfl
    · rw [decide_eq_false (by omega)]
      have e : i = L := by omega
      subst e
      exact iteF (q p u H' (g1.free n2.nil) (g1.trans g) ep (find_end F))
  · rcases bad with nl | ⟨L, rfl, hL, nl⟩
    · exact ⟨_, rfl, .inr ⟨nl, fun e he => q e H (Same.refl _) he⟩⟩
    · refine ⟨_, rfl, .inl ⟨L, rfl, hL, a, m, L, rfl, rm, ok, hL, fun Dc xs H1 hDc g1 eDc pc => ?_⟩⟩
      obtain ⟨v, ev, c, rfl, ec⟩ := Paired.at2 pc (List.getElem?_range (show L < L + 1 by omega))
      have at0 : ((cl m L).map nV)[0]? = some (nV (cnt m L 0)) := by rw [List.getElem?_map, cl_at ok.pos]; rfl
      exact ⟨Dc, rfl, _, _, rfl, .of eDc, _, atI_nat ev, c, rfl, _, .of ec, _, atI_nat at0, _, _, rfl, .inr ⟨nl.same g1, false, rfl, iteT ⟨small_line (by simp), fun e he => q e H1 g1 he⟩⟩⟩
abbrev s_number_of : Stmt := top 17
theorem sc_number_of : FnScope ["machine", "row", "counts", "rooms", "number", "at", "letter", "behind"] ["machine", "row"] (defScope s_number_of) := ⟨rfl, rfl, rfl, by decide +kernel, rfl, by decide +kernel, by decide +kernel⟩
theorem ok_numof (T : Txt K mg cNoNumber cNoRow) (d : Dfn K mg "number_of" s_number_of ["machine", "row"]) (C_takes : Cal P w K mg base 2 "takes" ["machine", "row"] (sp_takes K)) (C_gone : Cal P w K mg base 1 "gone" ["machine", "row"] (sp_gone K)) (C_counts_from : Cal P w K mg base 2 "counts_from" ["machine", "length"] sp_from) : CalE P w K mg base 3 "number_of" ["machine", "row"] (sp_numof K cNoRow) := by
  refine d.calE sc_number_of (fun vs H Q E h => ?_) (fun f cdv A outer s H vs Q E hr h R => ?_)
  · obtain ⟨a, b, m, row, rfl, _⟩ := h
    rfl
  obtain ⟨a, b, m, row, rfl, rm, ok, hb, hl, h200, h⟩ := h
  refine ⟨_, (pss_cons (ps_if (PW.pt (pw_or (pt_cmpR op_gt (pe_cB (call_len_seqK K) (by rfl) T.b_len boot_len (pa_c (pv 1) pa_nil)) (pe_gl (by rfl) T.g_LONGEST) (nomark _)) (pw_or1 (pt_not (pt_val (pe_callC C_takes hr (by omega) (by rfl) (pa_c (pv 0) (pa_c (pv 1) pa_nil)))))))) (pss_one (ps_raiseK R rfl (by rfl) T.m_NoRow T.x_NoRow F.excBase_ValueError (pa_c pe_str pa_nil))) pss_nil) (pss_cons (ps_set (i := 2) sc_number_of.nd rfl (Or.inl rfl) (pe_callC C_counts_from hr (by omega) (by rfl) (pa_c (pv 0) (pa_c (pe_cB (call_len_seqK K) (by rfl) T.b_len boot_len (pa_c (pv 1) pa_nil)) pa_nil)))) (pss_cons (ps_set (i := 3) sc_number_of.nd rfl (Or.inl rfl) (pe_callC C_gone hr (by omega) (by rfl) (pa_c (pv 0) (pa_c (pv 1) pa_nil)))) (pss_cons (ps_set (i := 4) sc_number_of.nd rfl (Or.inl rfl) pe_int) (pss_cons (PS.nox (ps_for PassesOwn.never rfl (pi_enumK K (by rfl) T.b_enumerate (pa_c (pv 1) pa_nil)) (pg_tupK K (n := 2) rfl (pgs_cons (pg_name (i := 5) (show List.Nodup (["machine", "row", "counts", "rooms", "number", "at", "letter", "behind"] : List Str) by decide +kernel) (by rfl) (Or.inl (by rfl))) (pgs_cons (pg_name (i := 6) (show List.Nodup (["machine", "row", "counts", "rooms", "number", "at", "letter", "behind"] : List Str) by decide +kernel) (by rfl) (Or.inl (by rfl))) pgs_nil))) (pss_cons (ps_set (i := 7) sc_number_of.nd rfl (Or.inr rfl) (pe_ix (ix_listK K) (pv 2) (pe_op op_sub (pe_op op_sub (pe_cB (call_len_seqK K) (by rfl) T.b_len boot_len (pa_c (pv 1) pa_nil)) (pv 5)) pe_int) (fun _ _ => rfl))) (pss_one (ps_aug (i := 4) sc_number_of.nd rfl (Or.inl rfl) (pe_cB (call_sum_intK K rfl) (by rfl) T.b_sum boot_sum (pa_c (pe_lcomp ["room"] [(7, "behind")] (CompOk.of rfl (by rfl) (by rfl)) (by rfl) (pi_tupK K (pe_slice (sl_tupNK K) (pe_ix (ix_tupK K) (pe_ix (ix_tupK K) (pv 0) pe_int (fun _ _ => rfl)) (pe_ix (ix_listK K) (pv 3) (pv 5) (fun _ _ => rfl)) (fun _ _ => rfl)) po_none (po_some (pv 6)))) (fun _ _ _ _ _ => (pg_name (i := 0) (show List.Nodup (["room", "behind"] : List Str) by decide +kernel) (by rfl) (Or.inl (by rfl)))) (fun _ _ _ _ _ => pf_nil) (fun _ _ _ _ _ => (pe_ix (ix_listK K) (pv 1) (pv 0) (fun _ _ => rfl)))) pa_nil)) ip_add))))) (pss_one (ps_ret (pv 4)))))))), ?_⟩
  refine rd_st [some (.ref a), some (.ref b), none, none, none, none, none, none] rfl ?_
  simp only [exists_eq', rEqI, rNeI, rInDc, rLenD, rLenT, rDictOf, rMaxL, rIndex, rCatTN, rCatTE, tDNewN, tDNewTN, tDisp1T, rNeM, rRange2, rListRng, rRepN, rPopAt, rSetL, gSub, ipI, tDGet, tDGet2, sDPut, iEnum, iEZ, iZipL, iRng3, tRaise, tTryN, rLeL, rNotInD, iEnum, iZip, rInD, rIxD, rLen, rAll, rAny, rSum, rListOf, rEqS, rNeS, rSlTN, rStrB, tTupN, tLstN, rSlLN, rCatN, cxK, cxP, cxW, tSeq, tIfS, tTest, tB, tOp, tUn, tC, tAnd, tOr, tNot, tAndV, tOrV, tNotV, tIf, tNext, tBreak, tCont, tDrop, tRet, tRetN, gName, gNil, gCons, gTup, tAsg, tPar, tAug, rI, rI0, rU, rEq, rNe, tChain, tNil, tCons, tTup, tLst, tCall, tCB, tNoPart, tPart, tSl, rSlT, rSlL, rSlS, rIxL, rIxT, rIxS, rIn, tBM0, tBM, tyV, rAppend, rExtend, rCat, rZfill, rEqD, iList, iTup, iStr, iRng1, iRng2, tYes, tDisp, tPairs, rd_v0, rd_vS, rd_comp, rd_for, rd_ite_t, rd_ite_f, List.set_cons_zero, List.set_cons_succ, List.nil_append, List.cons_append, List.append_nil, V.int.injEq, V.str.injEq, V.bl.injEq, V.ref.injEq, V.ty.injEq, List.cons.injEq, and_true, true_and, exists_eq_left, exists_eq_left', exists_and_left, exists_eq, exists_const, if_true, if_false, ite_true, ite_false, rd_ss, rd_si, rd_is, rd_ii, rd_bb, Option.some.injEq, exists_eq_right, exists_eq_right', and_assoc, reduceCtorEq, false_and, and_false, false_or, or_false, exists_false]
  obtain ⟨b1, c1, rs, ea, eb, pr, ec1⟩ := id rm
  refine ⟨_, .inl hb, ?_⟩
  rw [List.length_map]
  rcases h with ⟨h100, hacc, q⟩ | ⟨bad, q⟩
  · rw [decide_eq_false (by omega)]
    refine iteF ⟨a, b, m, row, rfl, rm, ok, hb, hl, by omega, fun H1 g1 => ⟨_, rfl, ?_⟩⟩
    rw [hacc]
    refine iteF ⟨_, .inl (g1.seq hb), ?_⟩
    rw [List.length_map]
    refine ⟨a, m, row.length, rfl, rm.same g1, ok, h100, fun Dc xs H2 hDc g2 eDc pc => ⟨a, b, m, row, rfl, rm.same (g1.trans g2), ok, (g1.trans g2).seq hb, hl, by omega, fun Dr H3 hDr g3 eDr => ⟨⟨_, (g1.trans (g2.trans g3)).seq hb⟩, ?_⟩⟩⟩
    have g03 : Same H H3 := g1.trans (g2.trans g3)
    refine fb_enum (K := K) (a := b) (xs := row.map nV) (fun i σ H' => Same H3 H' ∧ ∃ (acc : Nat) (v5 v6 v7 : Option V), σ = [some (.ref a), some (.ref b), some (.ref Dc), some (.ref Dr), some (nV acc), v5, v6, v7] ∧ acc + num m (m.run 0 (row.take i)) (row.drop i) = num m 0 row)
      ⟨Same.refl _, 0, none, none, none, rfl, by show 0 + num m 0 row = _; omega⟩ (fun i σ H' _ z => (g03.trans z.1).seq hb) ?_ ?_
    · rintro i y σ H' pt H4 hy ⟨g, acc, v5, v6, v7, rfl, hac⟩ n4
      rw [List.getElem?_map] at hy
      obtain ⟨l, el, rfl⟩ := Option.map_eq_some_iff.mp hy
      have hi := (List.getElem?_eq_some_iff.mp el).1
      have hll := hl l (List.mem_of_getElem? el)
      have g4 : Same H H4 := g03.trans (g.trans n4.g)
      have hrun := ok.run_lt (row.take i) 0 ok.pos fun x hx => hl x (List.mem_of_mem_take hx)
      have hw1 : m.run 0 (row.take i) < m.ways.length := by rw [ok.len]; exact hrun
      have hlw := ok.line _ (List.getElem_mem hw1)
      have hrm := ok.room _ (List.getElem_mem hw1)
      obtain ⟨v, evr, a2, rfl, e4⟩ := Paired.at2 pr (List.getElem?_eq_getElem hw1)
      obtain ⟨v, evc, c2, rfl, ec2⟩ := Paired.at2 pc (List.getElem?_range (show row.length - i - 1 < row.length + 1 by omega))
      have hix : (row.length : Int) - (i : Int) - 1 = ((row.length - i - 1 : Nat) : Int) := by omega
      have atp : ((m.path 0 row).map nV)[i]? = some (nV (m.run 0 (row.take i))) := by rw [List.getElem?_map, path_at m row i (by omega)]; rfl
      simp only [exists_eq', rEqI, rNeI, rInDc, rLenD, rLenT, rDictOf, rMaxL, rIndex, rCatTN, rCatTE, tDNewN, tDNewTN, tDisp1T, rNeM, rRange2, rListRng, rRepN, rPopAt, rSetL, gSub, ipI, tDGet, tDGet2, sDPut, iEnum, iEZ, iZipL, iRng3, tRaise, tTryN, rLeL, rNotInD, iEnum, iZip, rInD, rIxD, rLen, rAll, rAny, rSum, rListOf, rEqS, rNeS, rSlTN, rStrB, tTupN, tLstN, rSlLN, rCatN, cxK, cxP, cxW, tSeq, tIfS, tTest, tB, tOp, tUn, tC, tAnd, tOr, tNot, tAndV, tOrV, tNotV, tIf, tNext, tBreak, tCont, tDrop, tRet, tRetN, gName, gNil, gCons, gTup, tAsg, tPar, tAug, rI, rI0, rU, rEq, rNe, tChain, tNil, tCons, tTup, tLst, tCall, tCB, tNoPart, tPart, tSl, rSlT, rSlL, rSlS, rIxL, rIxT, rIxS, rIn, tBM0, tBM, tyV, rAppend, rExtend, rCat, rZfill, rEqD, iList, iTup, iStr, iRng1, iRng2, tYes, tDisp, tPairs, rd_v0, rd_vS, rd_comp, rd_for, rd_ite_t, rd_ite_f, List.set_cons_zero, List.set_cons_succ, List.nil_append, List.cons_append, List.append_nil, V.int.injEq, V.str.injEq, V.bl.injEq, V.ref.injEq, V.ty.injEq, List.cons.injEq, and_true, true_and, exists_eq_left, exists_eq_left', exists_and_left, exists_eq, exists_const, if_true, if_false, ite_true, ite_false, rd_ss, rd_si, rd_is, rd_ii, rd_bb, Option.some.injEq, exists_eq_right, exists_eq_right', and_assoc, reduceCtorEq, false_and, and_false, false_or, or_false, exists_false]
      refine ⟨_, .of n4.at', rfl, _, _, rfl, _, _, rfl, rfl, _, .inl (g4.seq hb), _, rfl, _, .of ((g3.trans (g.trans n4.g)) _ _ eDc), ?_⟩
      rw [List.length_map, hix]
      refine ⟨_, atI_nat evc, _, rfl, _, .of (g4 _ _ ea), _, atI_nat (j := 1) rfl, _, _, rfl, .of ((g.trans n4.g) _ _ eDr), _, atI_nat atp, ?_⟩
      refine ⟨b1, rfl, _, _, rfl, .of (g4 _ _ eb), _, atI_nat evr, (l : Int), rfl, a2, rfl, _, .of (g4 _ _ e4), ?_, fun p5 H5 n5 => ⟨⟨_, .of n5.at'⟩, ?_⟩⟩
      · rintro ⟨_, h2⟩
        rw [HT.sIx_nat, List.length_map, hlw] at h2
        omega
      rw [cutL_to, ← List.map_take] at n5
      have htl : (m.ways[m.run 0 (row.take i)].take l).length ≤ 16 := by
        have := pow_small ok.wid
        rw [List.length_take]
        omega
      refine cm_tup (K := K) (a := p5) (xs := (m.ways[m.run 0 (row.take i)].take l).map nV) (fun σ => ∃ v, σ = [v, some (.ref c2)]) (fC m (row.length - i - 1)) (by rw [List.length_map]; omega) (.of n5.at') ⟨_, rfl⟩ ?_ ?_
      · rintro D3 i3 σ H6 x hi3 hm hx gg hD3 hD3' ⟨v, rfl⟩
        obtain ⟨r, mr, rfl⟩ := List.mem_map.mp hm
        have at5 : ((cl m (row.length - i - 1)).map nV)[r]? = some (nV (cnt m (row.length - i - 1) r)) := by rw [List.getElem?_map, cl_at (hrm r (List.mem_of_mem_take mr))]; rfl
        simp only [exists_eq', rEqI, rNeI, rInDc, rLenD, rLenT, rDictOf, rMaxL, rIndex, rCatTN, rCatTE, tDNewN, tDNewTN, tDisp1T, rNeM, rRange2, rListRng, rRepN, rPopAt, rSetL, gSub, ipI, tDGet, tDGet2, sDPut, iEnum, iEZ, iZipL, iRng3, tRaise, tTryN, rLeL, rNotInD, iEnum, iZip, rInD, rIxD, rLen, rAll, rAny, rSum, rListOf, rEqS, rNeS, rSlTN, rStrB, tTupN, tLstN, rSlLN, rCatN, cxK, cxP, cxW, tSeq, tIfS, tTest, tB, tOp, tUn, tC, tAnd, tOr, tNot, tAndV, tOrV, tNotV, tIf, tNext, tBreak, tCont, tDrop, tRet, tRetN, gName, gNil, gCons, gTup, tAsg, tPar, tAug, rI, rI0, rU, rEq, rNe, tChain, tNil, tCons, tTup, tLst, tCall, tCB, tNoPart, tPart, tSl, rSlT, rSlL, rSlS, rIxL, rIxT, rIxS, rIn, tBM0, tBM, tyV, rAppend, rExtend, rCat, rZfill, rEqD, iList, iTup, iStr, iRng1, iRng2, tYes, tDisp, tPairs, rd_v0, rd_vS, rd_comp, rd_for, rd_ite_t, rd_ite_f, List.set_cons_zero, List.set_cons_succ, List.nil_append, List.cons_append, List.append_nil, V.int.injEq, V.str.injEq, V.bl.injEq, V.ref.injEq, V.ty.injEq, List.cons.injEq, and_true, true_and, exists_eq_left, exists_eq_left', exists_and_left, exists_eq, exists_const, if_true, if_false, ite_true, ite_false, rd_ss, rd_si, rd_is, rd_ii, rd_bb, Option.some.injEq, exists_eq_right, exists_eq_right', and_assoc, reduceCtorEq, false_and, and_false, false_or, or_false, exists_false]
        refine ⟨_, .of ((g3.trans (g.trans (n4.g.trans (n5.g.trans gg)))) _ _ ec2), _, atI_nat at5, ?_⟩
        exact cm_step (by rw [List.length_map]; omega) hx hD3 hD3' gg ⟨_, rfl⟩ (fC_n _ _ _).symm
      intro D3 H6 hD3 g6 eD3
      have eD3' : H6 D3 = some (.lst ((((m.ways[m.run 0 (row.take i)].take l).map (cnt m (row.length - i - 1))).map fun (n : Nat) => (n : Int)).map V.int)) := by
        rw [eD3, ← map_nV, List.map_map, List.map_map]
        rw [show (fC m (row.length - i - 1) ∘ nV) = nV ∘ cnt m (row.length - i - 1) from funext fun r => fC_n m _ r]
      have hgd : m.ways.getD (m.run 0 (row.take i)) [] = m.ways[m.run 0 (row.take i)] := by rw [List.getD_eq_getElem?_getD, List.getElem?_eq_getElem hw1]; rfl
      refine ⟨D3, rfl, _, .of eD3', (acc : Int), rfl, g.trans (n4.g.trans (n5.g.trans g6)), acc + pre m (row.length - i - 1) (m.run 0 (row.take i)) l, ?_, num_step el hac⟩
      rw [sum_nV, ← hgd, pre_take ok hrun (by omega)]
      rfl
    · rintro σ H' ⟨g, acc, v5, v6, v7, rfl, hac⟩
      rw [List.length_map, List.drop_of_length_le (Nat.le_refl _)] at hac
      simp only [exists_eq', rEqI, rNeI, rInDc, rLenD, rLenT, rDictOf, rMaxL, rIndex, rCatTN, rCatTE, tDNewN, tDNewTN, tDisp1T, rNeM, rRange2, rListRng, rRepN, rPopAt, rSetL, gSub, ipI, tDGet, tDGet2, sDPut, iEnum, iEZ, iZipL, iRng3, tRaise, tTryN, rLeL, rNotInD, iEnum, iZip, rInD, rIxD, rLen, rAll, rAny, rSum, rListOf, rEqS, rNeS, rSlTN, rStrB, tTupN, tLstN, rSlLN, rCatN, cxK, cxP, cxW, tSeq, tIfS, tTest, tB, tOp, tUn, tC, tAnd, tOr, tNot, tAndV, tOrV, tNotV, tIf, tNext, tBreak, tCont, tDrop, tRet, tRetN, gName, gNil, gCons, gTup, tAsg, tPar, tAug, rI, rI0, rU, rEq, rNe, tChain, tNil, tCons, tTup, tLst, tCall, tCB, tNoPart, tPart, tSl, rSlT, rSlL, rSlS, rIxL, rIxT, rIxS, rIn, tBM0, tBM, tyV, rAppend, rExtend, rCat, rZfill, rEqD, iList, iTup, iStr, iRng1, iRng2, tYes, tDisp, tPairs, rd_v0, rd_vS, rd_comp, rd_for, rd_ite_t, rd_ite_f, List.set_cons_zero, List.set_cons_succ, List.nil_append, List.cons_append, List.append_nil, V.int.injEq, V.str.injEq, V.bl.injEq, V.ref.injEq, V.ty.injEq, List.cons.injEq, and_true, true_and, exists_eq_left, exists_eq_left', exists_and_left, exists_eq, exists_const, if_true, if_false, ite_true, ite_false, rd_ss, rd_si, rd_is, rd_ii, rd_bb, Option.some.injEq, exists_eq_right, exists_eq_right', and_assoc, reduceCtorEq, false_and, and_false, false_or, or_false, exists_false]
      have e : acc = num m 0 row := by have e0 : num m (m.run 0 (row.take row.length)) [] = 0 := rfl
                                       omega
      rw [e]
      exact q H' (g03.trans g)
  · by_cases h1 : 100 < row.length
    · rw [decide_eq_true (by omega)]
      exact iteT ⟨small_line (by simp), fun e he => q e H (Same.refl _) he⟩
    · rw [decide_eq_false (by omega)]
      have hf : m.fin (m.run 0 row) = false := by rcases bad with h | h; exact absurd h h1; exact h
      refine iteF ⟨a, b, m, row, rfl, rm, ok, hb, hl, by omega, fun H1 g1 => ⟨_, rfl, ?_⟩⟩
      rw [hf]
      exact iteT ⟨small_line (by simp), fun e he => q e H1 g1 he⟩
abbrev s_law_row_refused : Stmt := top 27
theorem sc_law_row_refused : FnScope ["_law_machine_here", "_law_length_here", "_law_number", "_law_refused"] ["_law_machine_here", "_law_length_here", "_law_number"] (defScope s_law_row_refused) := ⟨rfl, rfl, rfl, by decide +kernel, rfl, by decide +kernel, by decide +kernel⟩
theorem ok_rowref (T : Txt K mg cNoNumber cNoRow) (d : Dfn K mg "_law_row_refused" s_law_row_refused ["_law_machine_here", "_law_length_here", "_law_number"]) (C_row_by : CalE P w K mg base 4 "row_by" ["machine", "length", "number"] (sp_rowby cNoNumber)) : Cal P w K mg base 5 "_law_row_refused" ["_law_machine_here", "_law_length_here", "_law_number"] sp_rowref := by
  refine d.cal sc_law_row_refused (fun vs H Q E h => ?_) (fun f cdv A outer s H vs Q E hr h => ?_)
  · obtain ⟨a, m, v, x, rfl, _⟩ := h
    rfl
  obtain ⟨a, m, v, x, rfl, rm, ok, bad, q⟩ := h
  refine ⟨_, (pss_cons (ps_set (i := 3) sc_law_row_refused.nd rfl (Or.inl rfl) pe_bl) (pss_cons (ps_tryNC C_row_by hr (by omega) (by rfl) (pa_c (pv 0) (pa_c (pv 1) (pa_c (pv 2) pa_nil))) (by rfl) T.m_NoNumber T.k_NoNumber rfl rfl rfl sc_law_row_refused.nd fun _ => (pss_one (ps_set (i := 3) sc_law_row_refused.nd rfl (Or.inl rfl) pe_bl))) (pss_one (ps_ret (pv 3))))), ?_⟩
  refine rd_st [some (.ref a), some v, some x, none] rfl ?_
  simp only [exists_eq', rEqI, rNeI, rInDc, rLenD, rLenT, rDictOf, rMaxL, rIndex, rCatTN, rCatTE, tDNewN, tDNewTN, tDisp1T, rNeM, rRange2, rListRng, rRepN, rPopAt, rSetL, gSub, ipI, tDGet, tDGet2, sDPut, iEnum, iEZ, iZipL, iRng3, tRaise, tTryN, rLeL, rNotInD, iEnum, iZip, rInD, rIxD, rLen, rAll, rAny, rSum, rListOf, rEqS, rNeS, rSlTN, rStrB, tTupN, tLstN, rSlLN, rCatN, cxK, cxP, cxW, tSeq, tIfS, tTest, tB, tOp, tUn, tC, tAnd, tOr, tNot, tAndV, tOrV, tNotV, tIf, tNext, tBreak, tCont, tDrop, tRet, tRetN, gName, gNil, gCons, gTup, tAsg, tPar, tAug, rI, rI0, rU, rEq, rNe, tChain, tNil, tCons, tTup, tLst, tCall, tCB, tNoPart, tPart, tSl, rSlT, rSlL, rSlS, rIxL, rIxT, rIxS, rIn, tBM0, tBM, tyV, rAppend, rExtend, rCat, rZfill, rEqD, iList, iTup, iStr, iRng1, iRng2, tYes, tDisp, tPairs, rd_v0, rd_vS, rd_comp, rd_for, rd_ite_t, rd_ite_f, List.set_cons_zero, List.set_cons_succ, List.nil_append, List.cons_append, List.append_nil, V.int.injEq, V.str.injEq, V.bl.injEq, V.ref.injEq, V.ty.injEq, List.cons.injEq, and_true, true_and, exists_eq_left, exists_eq_left', exists_and_left, exists_eq, exists_const, if_true, if_false, ite_true, ite_false, rd_ss, rd_si, rd_is, rd_ii, rd_bb, Option.some.injEq, exists_eq_right, exists_eq_right', and_assoc, reduceCtorEq, false_and, and_false, false_or, or_false, exists_false]
  exact ⟨a, m, v, x, rfl, rm, ok, .inr ⟨bad, fun e H' g he a' ea => by cases ea; exact ⟨cNoNumber, rfl, T.ms, fun H3 g3 => q H3 (g.trans g3)⟩⟩⟩
abbrev s_law_number_refused : Stmt := top 28
theorem sc_law_number_refused : FnScope ["_law_machine_here", "_law_row", "_law_refused"] ["_law_machine_here", "_law_row"] (defScope s_law_number_refused) := ⟨rfl, rfl, rfl, by decide +kernel, rfl, by decide +kernel, by decide +kernel⟩
theorem ok_numref (T : Txt K mg cNoNumber cNoRow) (d : Dfn K mg "_law_number_refused" s_law_number_refused ["_law_machine_here", "_law_row"]) (C_number_of : CalE P w K mg base 3 "number_of" ["machine", "row"] (sp_numof K cNoRow)) : Cal P w K mg base 4 "_law_number_refused" ["_law_machine_here", "_law_row"] (sp_numref K) := by
  refine d.cal sc_law_number_refused (fun vs H Q E h => ?_) (fun f cdv A outer s H vs Q E hr h => ?_)
  · obtain ⟨a, b, m, row, rfl, _⟩ := h
    rfl
  obtain ⟨a, b, m, row, rfl, rm, ok, hb, hl, h200, bad, q⟩ := h
  refine ⟨_, (pss_cons (ps_set (i := 2) sc_law_number_refused.nd rfl (Or.inl rfl) pe_bl) (pss_cons (ps_tryNC C_number_of hr (by omega) (by rfl) (pa_c (pv 0) (pa_c (pv 1) pa_nil)) (by rfl) T.m_NoRow T.k_NoRow rfl rfl rfl sc_law_number_refused.nd fun _ => (pss_one (ps_set (i := 2) sc_law_number_refused.nd rfl (Or.inl rfl) pe_bl))) (pss_one (ps_ret (pv 2))))), ?_⟩
  refine rd_st [some (.ref a), some (.ref b), none] rfl ?_
  simp only [exists_eq', rEqI, rNeI, rInDc, rLenD, rLenT, rDictOf, rMaxL, rIndex, rCatTN, rCatTE, tDNewN, tDNewTN, tDisp1T, rNeM, rRange2, rListRng, rRepN, rPopAt, rSetL, gSub, ipI, tDGet, tDGet2, sDPut, iEnum, iEZ, iZipL, iRng3, tRaise, tTryN, rLeL, rNotInD, iEnum, iZip, rInD, rIxD, rLen, rAll, rAny, rSum, rListOf, rEqS, rNeS, rSlTN, rStrB, tTupN, tLstN, rSlLN, rCatN, cxK, cxP, cxW, tSeq, tIfS, tTest, tB, tOp, tUn, tC, tAnd, tOr, tNot, tAndV, tOrV, tNotV, tIf, tNext, tBreak, tCont, tDrop, tRet, tRetN, gName, gNil, gCons, gTup, tAsg, tPar, tAug, rI, rI0, rU, rEq, rNe, tChain, tNil, tCons, tTup, tLst, tCall, tCB, tNoPart, tPart, tSl, rSlT, rSlL, rSlS, rIxL, rIxT, rIxS, rIn, tBM0, tBM, tyV, rAppend, rExtend, rCat, rZfill, rEqD, iList, iTup, iStr, iRng1, iRng2, tYes, tDisp, tPairs, rd_v0, rd_vS, rd_comp, rd_for, rd_ite_t, rd_ite_f, List.set_cons_zero, List.set_cons_succ, List.nil_append, List.cons_append, List.append_nil, V.int.injEq, V.str.injEq, V.bl.injEq, V.ref.injEq, V.ty.injEq, List.cons.injEq, and_true, true_and, exists_eq_left, exists_eq_left', exists_and_left, exists_eq, exists_const, if_true, if_false, ite_true, ite_false, rd_ss, rd_si, rd_is, rd_ii, rd_bb, Option.some.injEq, exists_eq_right, exists_eq_right', and_assoc, reduceCtorEq, false_and, and_false, false_or, or_false, exists_false]
  exact ⟨a, b, m, row, rfl, rm, ok, hb, hl, h200, .inr ⟨bad, fun e H' g he a' ea => by cases ea; exact ⟨cNoRow, rfl, T.msR, fun H3 g3 => q H3 (g.trans g3)⟩⟩⟩
end
end K38

set_option Elab.async false
set_option linter.all false
set_option maxRecDepth 100000
set_option maxHeartbeats 4000000
namespace K38
open PySem PySem.Spec PyProof.Rows L2 SS SM
seal PE PT PW PA PS PSs
section
variable {P : Program} {w : World} {K : PySem.W.Frag} {mg : Str → Option Value} {base : Heap} {cNoNumber cNoRow : Addr}
abbrev s_law_cell_at : Stmt := top 19
theorem sc_law_cell_at : FnScope ["_law_script", "_law_k"] ["_law_script", "_law_k"] (defScope s_law_cell_at) := ⟨rfl, rfl, rfl, by decide +kernel, rfl, by decide +kernel, by decide +kernel⟩
theorem ok_cell (T : Txt K mg cNoNumber cNoRow) (d : Dfn K mg "_law_cell_at" s_law_cell_at ["_law_script", "_law_k"]) : Cal P w K mg base 1 "_law_cell_at" ["_law_script", "_law_k"] (sp_cell K) := by
  refine d.cal sc_law_cell_at (fun vs H Q E h => ?_) (fun f cdv A outer s H vs Q E hr h => ?_)
  · obtain ⟨a, ns, k, rfl, _⟩ := h
    rfl
  obtain ⟨a, ns, k, rfl, hS, h0, q⟩ := h
  refine ⟨_, (pss_cons (ps_if (pt_cmpR op_lt (pv 1) (pe_cB (call_len_seqK K) (by rfl) T.b_len boot_len (pa_c (pv 0) pa_nil)) (nomark _)) (pss_one (ps_ret (pe_ix (ix_listK K) (pv 0) (pv 1) (fun _ _ => rfl)))) pss_nil) (pss_one (ps_ret pe_int))), ?_⟩
  refine rd_st [some (.ref a), some (.int k)] rfl ?_
  simp only [exists_eq', rEqI, rNeI, rInDc, rLenD, rLenT, rDictOf, rMaxL, rIndex, rCatTN, rCatTE, tDNewN, tDNewTN, tDisp1T, rNeM, rRange2, rListRng, rRepN, rPopAt, rSetL, gSub, ipI, tDGet, tDGet2, sDPut, iEnum, iEZ, iZipL, iRng3, tRaise, tTryN, rLeL, rNotInD, iEnum, iZip, rInD, rIxD, rLen, rAll, rAny, rSum, rListOf, rEqS, rNeS, rSlTN, rStrB, tTupN, tLstN, rSlLN, rCatN, cxK, cxP, cxW, tSeq, tIfS, tTest, tB, tOp, tUn, tC, tAnd, tOr, tNot, tAndV, tOrV, tNotV, tIf, tNext, tBreak, tCont, tDrop, tRet, tRetN, gName, gNil, gCons, gTup, tAsg, tPar, tAug, rI, rI0, rU, rEq, rNe, tChain, tNil, tCons, tTup, tLst, tCall, tCB, tNoPart, tPart, tSl, rSlT, rSlL, rSlS, rIxL, rIxT, rIxS, rIn, tBM0, tBM, tyV, rAppend, rExtend, rCat, rZfill, rEqD, iList, iTup, iStr, iRng1, iRng2, tYes, tDisp, tPairs, rd_v0, rd_vS, rd_comp, rd_for, rd_ite_t, rd_ite_f, List.set_cons_zero, List.set_cons_succ, List.nil_append, List.cons_append, List.append_nil, V.int.injEq, V.str.injEq, V.bl.injEq, V.ref.injEq, V.ty.injEq, List.cons.injEq, and_true, true_and, exists_eq_left, exists_eq_left', exists_and_left, exists_eq, exists_const, if_true, if_false, ite_true, ite_false, rd_ss, rd_si, rd_is, rd_ii, rd_bb, Option.some.injEq, exists_eq_right, exists_eq_right', and_assoc, reduceCtorEq, false_and, and_false, false_or, or_false, exists_false]
  refine ⟨_, .inl hS, ite2 (fun c => ?_) (fun _ => q 0)⟩
  have c' := of_decide_eq_true c
  rw [List.length_map] at c'
  have hk : k.toNat < ns.length := by omega
  have ek : k = ((k.toNat : Nat) : Int) := by omega
  have e : atI (ns.map V.int) ((k.toNat : Nat) : Int) = some (.int ns[k.toNat]) := atI_nat (by simp [hk])
  rw [← ek] at e
  exact ⟨_, hS, _, e, q _⟩
abbrev s_law_mixed : Stmt := top 20
theorem sc_law_mixed : FnScope ["_law_cell"] ["_law_cell"] (defScope s_law_mixed) := ⟨rfl, rfl, rfl, by decide +kernel, rfl, by decide +kernel, by decide +kernel⟩
theorem ok_mixed (T : Txt K mg cNoNumber cNoRow) (d : Dfn K mg "_law_mixed" s_law_mixed ["_law_cell"]) : Cal P w K mg base 1 "_law_mixed" ["_law_cell"] sp_mixed := by
  refine d.cal sc_law_mixed (fun vs H Q E h => ?_) (fun f cdv A outer s H vs Q E hr h => ?_)
  · obtain ⟨c, rfl, _⟩ := h
    rfl
  obtain ⟨c, rfl, q⟩ := h
  refine ⟨_, (pss_one (ps_ret (pe_op op_mod (pe_op op_mul (pv 0) pe_int) pe_int))), ?_⟩
  refine rd_st [some (.int c)] rfl ?_
  simp only [exists_eq', rEqI, rNeI, rInDc, rLenD, rLenT, rDictOf, rMaxL, rIndex, rCatTN, rCatTE, tDNewN, tDNewTN, tDisp1T, rNeM, rRange2, rListRng, rRepN, rPopAt, rSetL, gSub, ipI, tDGet, tDGet2, sDPut, iEnum, iEZ, iZipL, iRng3, tRaise, tTryN, rLeL, rNotInD, iEnum, iZip, rInD, rIxD, rLen, rAll, rAny, rSum, rListOf, rEqS, rNeS, rSlTN, rStrB, tTupN, tLstN, rSlLN, rCatN, cxK, cxP, cxW, tSeq, tIfS, tTest, tB, tOp, tUn, tC, tAnd, tOr, tNot, tAndV, tOrV, tNotV, tIf, tNext, tBreak, tCont, tDrop, tRet, tRetN, gName, gNil, gCons, gTup, tAsg, tPar, tAug, rI, rI0, rU, rEq, rNe, tChain, tNil, tCons, tTup, tLst, tCall, tCB, tNoPart, tPart, tSl, rSlT, rSlL, rSlS, rIxL, rIxT, rIxS, rIn, tBM0, tBM, tyV, rAppend, rExtend, rCat, rZfill, rEqD, iList, iTup, iStr, iRng1, iRng2, tYes, tDisp, tPairs, rd_v0, rd_vS, rd_comp, rd_for, rd_ite_t, rd_ite_f, List.set_cons_zero, List.set_cons_succ, List.nil_append, List.cons_append, List.append_nil, V.int.injEq, V.str.injEq, V.bl.injEq, V.ref.injEq, V.ty.injEq, List.cons.injEq, and_true, true_and, exists_eq_left, exists_eq_left', exists_and_left, exists_eq, exists_const, if_true, if_false, ite_true, ite_false, rd_ss, rd_si, rd_is, rd_ii, rd_bb, Option.some.injEq, exists_eq_right, exists_eq_right', and_assoc, reduceCtorEq, false_and, and_false, false_or, or_false, exists_false]
  exact ⟨.inr ⟨by decide, by decide⟩, by decide, q _ (Int.emod_nonneg _ (by decide)) (Int.emod_lt_of_pos _ (by decide))⟩
abbrev s_law_free_machine : Stmt := top 21
theorem sc_law_free_machine : FnScope ["_law_number", "_law_width", "_law_most", "_law_rooms", "_law_ways", "_law_ends", "_law_room_here", "_law_way", "_law_letter"] ["_law_number", "_law_width", "_law_most"] (defScope s_law_free_machine) := ⟨rfl, rfl, rfl, by decide +kernel, rfl, by decide +kernel, by decide +kernel⟩
theorem ok_free (T : Txt K mg cNoNumber cNoRow) (d : Dfn K mg "_law_free_machine" s_law_free_machine ["_law_number", "_law_width", "_law_most"]) : Cal P w K mg base 1 "_law_free_machine" ["_law_number", "_law_width", "_law_most"] sp_freeM := by
  refine d.cal sc_law_free_machine (fun vs H Q E h => ?_) (fun f cdv A outer s H vs Q E hr h => ?_)
  · obtain ⟨num, wd, rfl, _⟩ := h
    rfl
  obtain ⟨num, wd, rfl, hw0, hw, q⟩ := h
  have hp2 : (2 : Int) ^ wd.toNat = ((2 ^ wd.toNat : Nat) : Int) := pow_nat _
  have hps := pow_small (w := wd.toNat) (by omega)
  have m0 := Int.emod_nonneg num (show (9 : Int) ≠ 0 by decide)
  have m1 := Int.emod_lt_of_pos num (show (0 : Int) < 9 by decide)
  refine ⟨_, (pss_cons (ps_set (i := 3) sc_law_free_machine.nd rfl (Or.inl rfl) (pe_op op_add pe_int (pe_op op_mod (pv 0) (pv 2)))) (pss_cons (ps_set (i := 0) sc_law_free_machine.nd rfl (Or.inl rfl) (pe_op op_fdiv (pv 0) (pv 2))) (pss_cons (ps_set (i := 4) sc_law_free_machine.nd rfl (Or.inl rfl) (pe_lstN pa_nil)) (pss_cons (ps_set (i := 5) sc_law_free_machine.nd rfl (Or.inl rfl) (pe_lstN pa_nil)) (pss_cons (ps_for PassesOwn.never rfl (pi_range1 (by rfl) T.b_range (pa_c (pv 3) pa_nil)) (pg_name (i := 6) (show List.Nodup (["_law_number", "_law_width", "_law_most", "_law_rooms", "_law_ways", "_law_ends", "_law_room_here", "_law_way", "_law_letter"] : List Str) by decide +kernel) (by rfl) (Or.inl (by rfl))) (pss_cons (ps_expr (pe_bmK K PySem.F.plainAttrs_list PySem.F.slot_list_append PySem.F.type_list_append mt_append (pv 5) (pa_c (pe_cmpR op_eq (pe_op op_mod (pv 0) pe_int) pe_int (nomark _)) pa_nil))) (pss_cons (ps_set (i := 0) sc_law_free_machine.nd rfl (Or.inl rfl) (pe_op op_fdiv (pv 0) pe_int)) (pss_cons (ps_set (i := 7) sc_law_free_machine.nd rfl (Or.inl rfl) (pe_lstN pa_nil)) (pss_cons (ps_for PassesOwn.never rfl (pi_range1 (by rfl) T.b_range (pa_c (pe_op op_shl pe_int (pv 1)) pa_nil)) (pg_name (i := 8) (show List.Nodup (["_law_number", "_law_width", "_law_most", "_law_rooms", "_law_ways", "_law_ends", "_law_room_here", "_law_way", "_law_letter"] : List Str) by decide +kernel) (by rfl) (Or.inl (by rfl))) (pss_cons (ps_expr (pe_bmK K PySem.F.plainAttrs_list PySem.F.slot_list_append PySem.F.type_list_append mt_append (pv 7) (pa_c (pe_op op_mod (pv 0) (pv 3)) pa_nil))) (pss_one (ps_set (i := 0) sc_law_free_machine.nd rfl (Or.inl rfl) (pe_op op_fdiv (pv 0) (pv 3)))))) (pss_one (ps_expr (pe_bmK K PySem.F.plainAttrs_list PySem.F.slot_list_append PySem.F.type_list_append mt_append (pv 4) (pa_c (pe_cTy call_tuple_ofN (by rfl) T.b_tuple boot_tuple (pa_c (pv 7) pa_nil)) pa_nil))))))))) (pss_one (ps_ret (pe_tupN (pa_c (pv 1) (pa_c (pe_cTy call_tuple_ofN (by rfl) T.b_tuple boot_tuple (pa_c (pv 4) pa_nil)) (pa_c (pe_cTy call_tuple_ofN (by rfl) T.b_tuple boot_tuple (pa_c (pv 5) pa_nil)) pa_nil))))))))))), ?_⟩
  refine rd_st [some (.int num), some (.int wd), some (.int 9), none, none, none, none, none, none] rfl ?_
  simp only [exists_eq', rEqI, rNeI, rInDc, rLenD, rLenT, rDictOf, rMaxL, rIndex, rCatTN, rCatTE, tDNewN, tDNewTN, tDisp1T, rNeM, rRange2, rListRng, rRepN, rPopAt, rSetL, gSub, ipI, tDGet, tDGet2, sDPut, iEnum, iEZ, iZipL, iRng3, tRaise, tTryN, rLeL, rNotInD, iEnum, iZip, rInD, rIxD, rLen, rAll, rAny, rSum, rListOf, rEqS, rNeS, rSlTN, rStrB, tTupN, tLstN, rSlLN, rCatN, cxK, cxP, cxW, tSeq, tIfS, tTest, tB, tOp, tUn, tC, tAnd, tOr, tNot, tAndV, tOrV, tNotV, tIf, tNext, tBreak, tCont, tDrop, tRet, tRetN, gName, gNil, gCons, gTup, tAsg, tPar, tAug, rI, rI0, rU, rEq, rNe, tChain, tNil, tCons, tTup, tLst, tCall, tCB, tNoPart, tPart, tSl, rSlT, rSlL, rSlS, rIxL, rIxT, rIxS, rIn, tBM0, tBM, tyV, rAppend, rExtend, rCat, rZfill, rEqD, iList, iTup, iStr, iRng1, iRng2, tYes, tDisp, tPairs, rd_v0, rd_vS, rd_comp, rd_for, rd_ite_t, rd_ite_f, List.set_cons_zero, List.set_cons_succ, List.nil_append, List.cons_append, List.append_nil, V.int.injEq, V.str.injEq, V.bl.injEq, V.ref.injEq, V.ty.injEq, List.cons.injEq, and_true, true_and, exists_eq_left, exists_eq_left', exists_and_left, exists_eq, exists_const, if_true, if_false, ite_true, ite_false, rd_ss, rd_si, rd_is, rd_ii, rd_bb, Option.some.injEq, exists_eq_right, exists_eq_right', and_assoc, reduceCtorEq, false_and, and_false, false_or, or_false, exists_false]
  refine ⟨by decide, ⟨by decide, by decide⟩, small_line (by simp), fun p H1 n1 => ⟨small_line (by simp), fun pe H2 n2 => ⟨by omega, by omega, ?_⟩⟩⟩
  generalize hn : 1 + num % 9 = n
  have npe : p ≠ pe := ne_of_none n1.at' n2.nil
  have hpe : H pe = none := n1.g.free n2.nil
  refine fb_range (fun i σ H' => Same H H' ∧ (∃ nu v6 v7 v8, σ = [some (.int nu), some (.int wd), some (.int 9), some (.int n), some (.ref p), some (.ref pe), v6, v7, v8]) ∧
    ∃ rs lines bs, H' p = some (.lst rs) ∧ Paired (Line H') rs lines ∧ lines.length = i ∧ (∀ l ∈ lines, l.length = 2 ^ wd.toNat ∧ ∀ r ∈ l, r < n.toNat) ∧ H' pe = some (.lst (bs.map V.bl)) ∧ bs.length = i) ⟨n1.g.trans n2.g, ⟨_, none, none, none, rfl⟩, [], [], [], n2.g _ _ n1.at', .nil, rfl, fun _ h => (nomatch h), n2.at', rfl⟩ ?_ ?_
  · rintro i σ H' hi ⟨g, ⟨nu, v6, v7, v8, rfl⟩, rs, lines, bs, ep, pr, ll, hg, epe, lb⟩
    simp only [exists_eq', rEqI, rNeI, rInDc, rLenD, rLenT, rDictOf, rMaxL, rIndex, rCatTN, rCatTE, tDNewN, tDNewTN, tDisp1T, rNeM, rRange2, rListRng, rRepN, rPopAt, rSetL, gSub, ipI, tDGet, tDGet2, sDPut, iEnum, iEZ, iZipL, iRng3, tRaise, tTryN, rLeL, rNotInD, iEnum, iZip, rInD, rIxD, rLen, rAll, rAny, rSum, rListOf, rEqS, rNeS, rSlTN, rStrB, tTupN, tLstN, rSlLN, rCatN, cxK, cxP, cxW, tSeq, tIfS, tTest, tB, tOp, tUn, tC, tAnd, tOr, tNot, tAndV, tOrV, tNotV, tIf, tNext, tBreak, tCont, tDrop, tRet, tRetN, gName, gNil, gCons, gTup, tAsg, tPar, tAug, rI, rI0, rU, rEq, rNe, tChain, tNil, tCons, tTup, tLst, tCall, tCB, tNoPart, tPart, tSl, rSlT, rSlL, rSlS, rIxL, rIxT, rIxS, rIn, tBM0, tBM, tyV, rAppend, rExtend, rCat, rZfill, rEqD, iList, iTup, iStr, iRng1, iRng2, tYes, tDisp, tPairs, rd_v0, rd_vS, rd_comp, rd_for, rd_ite_t, rd_ite_f, List.set_cons_zero, List.set_cons_succ, List.nil_append, List.cons_append, List.append_nil, V.int.injEq, V.str.injEq, V.bl.injEq, V.ref.injEq, V.ty.injEq, List.cons.injEq, and_true, true_and, exists_eq_left, exists_eq_left', exists_and_left, exists_eq, exists_const, if_true, if_false, ite_true, ite_false, rd_ss, rd_si, rd_is, rd_ii, rd_bb, Option.some.injEq, exists_eq_right, exists_eq_right', and_assoc, reduceCtorEq, false_and, and_false, false_or, or_false, exists_false]
    have hin : i < 9 := by omega
    refine ⟨.inl ⟨_, .of epe⟩, by decide, _, epe, by rw [List.length_map]; exact small1000 (by omega), ⟨by decide, by decide⟩, small_line (by simp), fun p2 H3 n3 => ⟨⟨by omega, by omega, by decide⟩, by omega, by omega, ?_⟩⟩
    generalize eH2 : upd H' pe (.lst (bs.map V.bl ++ [V.bl (decide (nu % 2 = 1))])) = HH at n3
    have gHH : Same H HH := by rw [← eH2]; exact g.wr hpe _
    have epHH : HH p = some (.lst rs) := by rw [← eH2, upd_ne npe]; exact ep
    have epeHH : HH pe = some (.lst ((bs ++ [decide (nu % 2 = 1)]).map V.bl)) := by rw [← eH2, upd_same, List.map_append]; rfl
    have tsHH : TupS H' HH := by rw [← eH2]; exact TupS.wr epe _
    generalize hbs : bs ++ [decide (nu % 2 = 1)] = bs' at epeHH
    have lb' : bs'.length = i + 1 := by rw [← hbs, List.length_append, lb]; rfl
    have nep2 : p ≠ p2 := ne_of_none epHH n3.nil
    have nepe2 : pe ≠ p2 := ne_of_none epeHH n3.nil
    refine fb_range (fun j σ H'' => Same H H'' ∧ TupS H3 H'' ∧ (∃ nu' v8, σ = [some (.int nu'), some (.int wd), some (.int 9), some (.int n), some (.ref p), some (.ref pe), some (.int (0 + (i : Int))), some (.ref p2), v8]) ∧ H'' p = some (.lst rs) ∧ H'' pe = some (.lst (bs'.map V.bl)) ∧
      ∃ ln : List Nat, H'' p2 = some (.lst (ln.map nV)) ∧ ln.length = j ∧ ∀ r ∈ ln, r < n.toNat) ⟨gHH.trans n3.g, TupS.refl _, ⟨_, _, rfl⟩, n3.g _ _ epHH, n3.g _ _ epeHH, [], n3.at', rfl, fun _ h => (nomatch h)⟩ ?_ ?_
    · rintro j σ H'' hj ⟨g2, ts, ⟨nu', v8', rfl⟩, ep2, epe2, ln, e2, le, hr2⟩
      have r0 := Int.emod_nonneg nu' (show n ≠ 0 by omega)
      have r1 := Int.emod_lt_of_pos nu' (show 0 < n by omega)
      simp only [exists_eq', rEqI, rNeI, rInDc, rLenD, rLenT, rDictOf, rMaxL, rIndex, rCatTN, rCatTE, tDNewN, tDNewTN, tDisp1T, rNeM, rRange2, rListRng, rRepN, rPopAt, rSetL, gSub, ipI, tDGet, tDGet2, sDPut, iEnum, iEZ, iZipL, iRng3, tRaise, tTryN, rLeL, rNotInD, iEnum, iZip, rInD, rIxD, rLen, rAll, rAny, rSum, rListOf, rEqS, rNeS, rSlTN, rStrB, tTupN, tLstN, rSlLN, rCatN, cxK, cxP, cxW, tSeq, tIfS, tTest, tB, tOp, tUn, tC, tAnd, tOr, tNot, tAndV, tOrV, tNotV, tIf, tNext, tBreak, tCont, tDrop, tRet, tRetN, gName, gNil, gCons, gTup, tAsg, tPar, tAug, rI, rI0, rU, rEq, rNe, tChain, tNil, tCons, tTup, tLst, tCall, tCB, tNoPart, tPart, tSl, rSlT, rSlL, rSlS, rIxL, rIxT, rIxS, rIn, tBM0, tBM, tyV, rAppend, rExtend, rCat, rZfill, rEqD, iList, iTup, iStr, iRng1, iRng2, tYes, tDisp, tPairs, rd_v0, rd_vS, rd_comp, rd_for, rd_ite_t, rd_ite_f, List.set_cons_zero, List.set_cons_succ, List.nil_append, List.cons_append, List.append_nil, V.int.injEq, V.str.injEq, V.bl.injEq, V.ref.injEq, V.ty.injEq, List.cons.injEq, and_true, true_and, exists_eq_left, exists_eq_left', exists_and_left, exists_eq, exists_const, if_true, if_false, ite_true, ite_false, rd_ss, rd_si, rd_is, rd_ii, rd_bb, Option.some.injEq, exists_eq_right, exists_eq_right', and_assoc, reduceCtorEq, false_and, and_false, false_or, or_false, exists_false]
      refine ⟨.inl ⟨_, .of e2⟩, by omega, _, e2, by rw [List.length_map]; exact small1000 (by omega), ⟨by omega, by omega⟩, ?_⟩
      refine ⟨g2.wr (gHH.free n3.nil) _, ts.trans (TupS.wr e2 _), by rw [upd_ne nep2]; exact ep2, by rw [upd_ne nepe2]; exact epe2, ln ++ [(nu' % n).toNat], ?_, by rw [List.length_append, List.length_singleton, le], fun x hx => ?_⟩
      · rw [upd_same, List.map_append]
        have er : nu' % n = (((nu' % n).toNat : Nat) : Int) := by omega
        rw [er]
        rfl
      · rcases List.mem_append.mp hx with h | h
        · exact hr2 x h
        · rw [List.mem_singleton.mp h]; omega
    · rintro σ H'' ⟨g2, ts, ⟨nu', v8', rfl⟩, ep2, epe2, ln, e2, le, hr2⟩
      simp only [exists_eq', rEqI, rNeI, rInDc, rLenD, rLenT, rDictOf, rMaxL, rIndex, rCatTN, rCatTE, tDNewN, tDNewTN, tDisp1T, rNeM, rRange2, rListRng, rRepN, rPopAt, rSetL, gSub, ipI, tDGet, tDGet2, sDPut, iEnum, iEZ, iZipL, iRng3, tRaise, tTryN, rLeL, rNotInD, iEnum, iZip, rInD, rIxD, rLen, rAll, rAny, rSum, rListOf, rEqS, rNeS, rSlTN, rStrB, tTupN, tLstN, rSlLN, rCatN, cxK, cxP, cxW, tSeq, tIfS, tTest, tB, tOp, tUn, tC, tAnd, tOr, tNot, tAndV, tOrV, tNotV, tIf, tNext, tBreak, tCont, tDrop, tRet, tRetN, gName, gNil, gCons, gTup, tAsg, tPar, tAug, rI, rI0, rU, rEq, rNe, tChain, tNil, tCons, tTup, tLst, tCall, tCB, tNoPart, tPart, tSl, rSlT, rSlL, rSlS, rIxL, rIxT, rIxS, rIn, tBM0, tBM, tyV, rAppend, rExtend, rCat, rZfill, rEqD, iList, iTup, iStr, iRng1, iRng2, tYes, tDisp, tPairs, rd_v0, rd_vS, rd_comp, rd_for, rd_ite_t, rd_ite_f, List.set_cons_zero, List.set_cons_succ, List.nil_append, List.cons_append, List.append_nil, V.int.injEq, V.str.injEq, V.bl.injEq, V.ref.injEq, V.ty.injEq, List.cons.injEq, and_true, true_and, exists_eq_left, exists_eq_left', exists_and_left, exists_eq, exists_const, if_true, if_false, ite_true, ite_false, rd_ss, rd_si, rd_is, rd_ii, rd_bb, Option.some.injEq, exists_eq_right, exists_eq_right', and_assoc, reduceCtorEq, false_and, and_false, false_or, or_false, exists_false]
      refine ⟨.inl ⟨_, .of ep2⟩, _, .inl ⟨.of e2, fun t H4 n4 => ⟨_, n4.g _ _ ep2, ?_, ?_⟩⟩⟩
      · have := SS.Paired.len pr
        exact small1000 (by omega)
      have tsA : TupS H' (upd H4 p (.lst (rs ++ [.ref t]))) := tsHH.trans (n3.g.tups.trans (ts.trans (n4.g.tups.trans (TupS.wr (n4.g _ _ ep2) _))))
      refine ⟨(g2.trans n4.g).wr n1.nil _, rs ++ [.ref t], upd_same, lines ++ [ln], SM.Paired.snoc (L2.Paired.mapP pr fun _ _ z => z.ts tsA) ⟨t, rfl, TupS.wr (n4.g _ _ ep2) _ _ _ n4.at'⟩, by rw [List.length_append, List.length_singleton, ll], fun l hl => ?_, bs', by rw [upd_ne (Ne.symm npe)]; exact n4.g _ _ epe2, lb'⟩
      rcases List.mem_append.mp hl with h | h
      · exact hg l h
      · rw [List.mem_singleton.mp h]
        exact ⟨by rw [le]; omega, hr2⟩
  · rintro σ H' ⟨g, ⟨nu, v6, v7, v8, rfl⟩, rs, lines, bs, ep, pr, ll, hg, epe, lb⟩
    simp only [exists_eq', rEqI, rNeI, rInDc, rLenD, rLenT, rDictOf, rMaxL, rIndex, rCatTN, rCatTE, tDNewN, tDNewTN, tDisp1T, rNeM, rRange2, rListRng, rRepN, rPopAt, rSetL, gSub, ipI, tDGet, tDGet2, sDPut, iEnum, iEZ, iZipL, iRng3, tRaise, tTryN, rLeL, rNotInD, iEnum, iZip, rInD, rIxD, rLen, rAll, rAny, rSum, rListOf, rEqS, rNeS, rSlTN, rStrB, tTupN, tLstN, rSlLN, rCatN, cxK, cxP, cxW, tSeq, tIfS, tTest, tB, tOp, tUn, tC, tAnd, tOr, tNot, tAndV, tOrV, tNotV, tIf, tNext, tBreak, tCont, tDrop, tRet, tRetN, gName, gNil, gCons, gTup, tAsg, tPar, tAug, rI, rI0, rU, rEq, rNe, tChain, tNil, tCons, tTup, tLst, tCall, tCB, tNoPart, tPart, tSl, rSlT, rSlL, rSlS, rIxL, rIxT, rIxS, rIn, tBM0, tBM, tyV, rAppend, rExtend, rCat, rZfill, rEqD, iList, iTup, iStr, iRng1, iRng2, tYes, tDisp, tPairs, rd_v0, rd_vS, rd_comp, rd_for, rd_ite_t, rd_ite_f, List.set_cons_zero, List.set_cons_succ, List.nil_append, List.cons_append, List.append_nil, V.int.injEq, V.str.injEq, V.bl.injEq, V.ref.injEq, V.ty.injEq, List.cons.injEq, and_true, true_and, exists_eq_left, exists_eq_left', exists_and_left, exists_eq, exists_const, if_true, if_false, ite_true, ite_false, rd_ss, rd_si, rd_is, rd_ii, rd_bb, Option.some.injEq, exists_eq_right, exists_eq_right', and_assoc, reduceCtorEq, false_and, and_false, false_or, or_false, exists_false]
    refine ⟨_, .inl ⟨.of ep, fun t1 H4 n4 => ⟨_, .inl ⟨.of (n4.g _ _ epe), fun t2 H5 n5 => ⟨small_line (by simp), fun t3 H6 n6 => ?_⟩⟩⟩⟩⟩
    have gA : Same H' H6 := n4.g.trans (n5.g.trans n6.g)
    refine q t3 ⟨wd.toNat, lines, bs⟩ H6 (g.trans gA) ⟨t1, t2, rs, ?_, (n5.g.trans n6.g) _ _ n4.at', L2.Paired.mapP pr fun _ _ z => z.ts gA.tups, n6.g _ _ n5.at'⟩ ⟨?_, ?_, ?_, ?_, fun l h => (hg l h).1, fun l h r hr => ?_⟩ ?_ ?_
    · rw [n6.at']
      have ew : wd = ((wd.toNat : Nat) : Int) := by omega
      show some (HO.tup [V.int wd, .ref t1, .ref t2]) = some (HO.tup [V.int ((wd.toNat : Nat) : Int), .ref t1, .ref t2])
      rw [← ew]
    · show wd.toNat ≤ 4; omega
    · show 0 < bs.length; omega
    · show bs.length ≤ 100; omega
    · show lines.length = bs.length; omega
    · have := (hg l h).2 r hr
      show r < bs.length; omega
    · show ((wd.toNat : Nat) : Int) = wd; omega
    · show bs.length ≤ 9; omega
abbrev s_law_machine : Stmt := top 22
theorem sc_law_machine : FnScope ["_law_cells", "_law_width", "_law_most", "_law_rooms", "_law_ways", "_law_ends", "_law_room_here", "_law_mixed_here", "_law_cell", "_law_way", "_law_letter"] ["_law_cells", "_law_width", "_law_most"] (defScope s_law_machine) := ⟨rfl, rfl, rfl, by decide +kernel, rfl, by decide +kernel, by decide +kernel⟩
theorem ok_machS (T : Txt K mg cNoNumber cNoRow) (d : Dfn K mg "_law_machine" s_law_machine ["_law_cells", "_law_width", "_law_most"]) (C_law_mixed : Cal P w K mg base 1 "_law_mixed" ["_law_cell"] sp_mixed) (C_law_free_machine : Cal P w K mg base 1 "_law_free_machine" ["_law_number", "_law_width", "_law_most"] sp_freeM) : Cal P w K mg base 2 "_law_machine" ["_law_cells", "_law_width", "_law_most"] (sp_machS K) := by
  refine d.cal sc_law_machine (fun vs H Q E h => ?_) (fun f cdv A outer s H vs Q E hr h => ?_)
  · obtain ⟨a, ns, wd, rfl, _⟩ := h
    rfl
  obtain ⟨a, ns, wd, rfl, hS, h63, hw0, hw, q⟩ := h
  have hu := hu_at hr 8 (by decide)
  have hp2 : (2 : Int) ^ wd.toNat = ((2 ^ wd.toNat : Nat) : Int) := pow_nat _
  have hps := pow_small (w := wd.toNat) (by omega)
  refine ⟨_, (pss_cons (ps_if (pt_cut (PW.pt (pw_and (pt_cmpR (op_neIK K hu) (pv 0) (pe_lstN pa_nil) (nomark _)) (pw_and1 (pt_cmpR op_eq (pe_op op_mod (pe_ix (ix_listK K) (pv 0) pe_int (fun _ _ => rfl)) pe_int) pe_int (nomark _)))))) (pss_one (ps_ret (pe_callC C_law_free_machine hr (by omega) (by rfl) (pa_c (pe_op op_mod (pe_op op_fdiv (pe_ix (ix_listK K) (pv 0) pe_int (fun _ _ => rfl)) pe_int) (pe_op op_pow pe_int pe_int)) (pa_c (pv 1) (pa_c (pv 2) pa_nil)))))) pss_nil) (pss_cons (ps_set (i := 3) sc_law_machine.nd rfl (Or.inl rfl) (pe_op op_add pe_int (pe_op op_mod (pe_op op_fdiv (pe_cB (call_sum_intK K rfl) (by rfl) T.b_sum boot_sum (pa_c (pe_slice (sl_listNK K) (pv 0) po_none (po_some pe_int)) pa_nil)) pe_int) (pv 2)))) (pss_cons (ps_set (i := 4) sc_law_machine.nd rfl (Or.inl rfl) (pe_lstN pa_nil)) (pss_cons (ps_set (i := 5) sc_law_machine.nd rfl (Or.inl rfl) (pe_lstN pa_nil)) (pss_cons (ps_for PassesOwn.never rfl (pi_range1 (by rfl) T.b_range (pa_c (pv 3) pa_nil)) (pg_name (i := 6) (show List.Nodup (["_law_cells", "_law_width", "_law_most", "_law_rooms", "_law_ways", "_law_ends", "_law_room_here", "_law_mixed_here", "_law_cell", "_law_way", "_law_letter"] : List Str) by decide +kernel) (by rfl) (Or.inl (by rfl))) (pss_cons (ps_set (i := 7) sc_law_machine.nd rfl (Or.inl rfl) (pe_op op_add pe_int (pv 6))) (pss_cut (ps_if (pt_cmpR (op_neIK K hu) (pv 0) (pe_lstN pa_nil) (nomark _)) (pss_cons (ps_set (i := 8) sc_law_machine.nd rfl (Or.inl rfl) (pe_ix (ix_listK K) (pv 0) (pe_op op_mod (pv 6) (pe_cB (call_len_seqK K) (by rfl) T.b_len boot_len (pa_c (pv 0) pa_nil))) (fun _ _ => rfl))) (pss_one (ps_set (i := 7) sc_law_machine.nd rfl (Or.inl rfl) (pe_callC C_law_mixed hr (by omega) (by rfl) (pa_c (pe_op op_add (pv 8) (pe_op op_fdiv (pv 6) (pe_cB (call_len_seqK K) (by rfl) T.b_len boot_len (pa_c (pv 0) pa_nil)))) pa_nil))))) pss_nil) (pss_cons (ps_expr (pe_bmK K PySem.F.plainAttrs_list PySem.F.slot_list_append PySem.F.type_list_append mt_append (pv 5) (pa_c (pe_cmpR op_eq (pe_op op_mod (pv 7) pe_int) pe_int (nomark _)) pa_nil))) (pss_cons (ps_set (i := 9) sc_law_machine.nd rfl (Or.inl rfl) (pe_lstN pa_nil)) (pss_cons (ps_for PassesOwn.never rfl (pi_range1 (by rfl) T.b_range (pa_c (pe_op op_shl pe_int (pv 1)) pa_nil)) (pg_name (i := 10) (show List.Nodup (["_law_cells", "_law_width", "_law_most", "_law_rooms", "_law_ways", "_law_ends", "_law_room_here", "_law_mixed_here", "_law_cell", "_law_way", "_law_letter"] : List Str) by decide +kernel) (by rfl) (Or.inl (by rfl))) (pss_cons (ps_set (i := 7) sc_law_machine.nd rfl (Or.inl rfl) (pe_op op_add (pe_op op_add (pe_op op_add (pe_op op_fdiv (pv 7) pe_int) (pv 6)) (pe_op op_mul (pv 10) (pv 10))) pe_int)) (pss_cons (ps_set (i := 7) sc_law_machine.nd rfl (Or.inl rfl) (pe_op op_mod (pe_op op_mul (pv 7) pe_int) pe_int)) (pss_one (ps_expr (pe_bmK K PySem.F.plainAttrs_list PySem.F.slot_list_append PySem.F.type_list_append mt_append (pv 9) (pa_c (pe_op op_mod (pe_op op_fdiv (pv 7) pe_int) (pv 3)) pa_nil))))))) (pss_one (ps_expr (pe_bmK K PySem.F.plainAttrs_list PySem.F.slot_list_append PySem.F.type_list_append mt_append (pv 4) (pa_c (pe_cTy call_tuple_ofN (by rfl) T.b_tuple boot_tuple (pa_c (pv 9) pa_nil)) pa_nil)))))))))) (pss_one (ps_ret (pe_tupN (pa_c (pv 1) (pa_c (pe_cTy call_tuple_ofN (by rfl) T.b_tuple boot_tuple (pa_c (pv 4) pa_nil)) (pa_c (pe_cTy call_tuple_ofN (by rfl) T.b_tuple boot_tuple (pa_c (pv 5) pa_nil)) pa_nil))))))))))), ?_⟩
  refine rd_st [some (.ref a), some (.int wd), some (.int 9), none, none, none, none, none, none, none, none] rfl ?_
  simp only [exists_eq', rEqI, rNeI, rInDc, rLenD, rLenT, rDictOf, rMaxL, rIndex, rCatTN, rCatTE, tDNewN, tDNewTN, tDisp1T, rNeM, rRange2, rListRng, rRepN, rPopAt, rSetL, gSub, ipI, tDGet, tDGet2, sDPut, iEnum, iEZ, iZipL, iRng3, tRaise, tTryN, rLeL, rNotInD, iEnum, iZip, rInD, rIxD, rLen, rAll, rAny, rSum, rListOf, rEqS, rNeS, rSlTN, rStrB, tTupN, tLstN, rSlLN, rCatN, cxK, cxP, cxW, tSeq, tIfS, tTest, tB, tOp, tUn, tC, tAnd, tOr, tNot, tAndV, tOrV, tNotV, tIf, tNext, tBreak, tCont, tDrop, tRet, tRetN, gName, gNil, gCons, gTup, tAsg, tPar, tAug, rI, rI0, rU, rEq, rNe, tChain, tNil, tCons, tTup, tLst, tCall, tCB, tNoPart, tPart, tSl, rSlT, rSlL, rSlS, rIxL, rIxT, rIxS, rIn, tBM0, tBM, tyV, rAppend, rExtend, rCat, rZfill, rEqD, iList, iTup, iStr, iRng1, iRng2, tYes, tDisp, tPairs, rd_v0, rd_vS, rd_comp, rd_for, rd_ite_t, rd_ite_f, List.set_cons_zero, List.set_cons_succ, List.nil_append, List.cons_append, List.append_nil, V.int.injEq, V.str.injEq, V.bl.injEq, V.ref.injEq, V.ty.injEq, List.cons.injEq, and_true, true_and, exists_eq_left, exists_eq_left', exists_and_left, exists_eq, exists_const, if_true, if_false, ite_true, ite_false, rd_ss, rd_si, rd_is, rd_ii, rd_bb, Option.some.injEq, exists_eq_right, exists_eq_right', and_assoc, reduceCtorEq, false_and, and_false, false_or, or_false, exists_false]
  refine ⟨fun c H' => Same H H' ∧ (c = true → ns ≠ []), ?_, ?_⟩
  · simp only [exists_eq', rEqI, rNeI, rInDc, rLenD, rLenT, rDictOf, rMaxL, rIndex, rCatTN, rCatTE, tDNewN, tDNewTN, tDisp1T, rNeM, rRange2, rListRng, rRepN, rPopAt, rSetL, gSub, ipI, tDGet, tDGet2, sDPut, iEnum, iEZ, iZipL, iRng3, tRaise, tTryN, rLeL, rNotInD, iEnum, iZip, rInD, rIxD, rLen, rAll, rAny, rSum, rListOf, rEqS, rNeS, rSlTN, rStrB, tTupN, tLstN, rSlLN, rCatN, cxK, cxP, cxW, tSeq, tIfS, tTest, tB, tOp, tUn, tC, tAnd, tOr, tNot, tAndV, tOrV, tNotV, tIf, tNext, tBreak, tCont, tDrop, tRet, tRetN, gName, gNil, gCons, gTup, tAsg, tPar, tAug, rI, rI0, rU, rEq, rNe, tChain, tNil, tCons, tTup, tLst, tCall, tCB, tNoPart, tPart, tSl, rSlT, rSlL, rSlS, rIxL, rIxT, rIxS, rIn, tBM0, tBM, tyV, rAppend, rExtend, rCat, rZfill, rEqD, iList, iTup, iStr, iRng1, iRng2, tYes, tDisp, tPairs, rd_v0, rd_vS, rd_comp, rd_for, rd_ite_t, rd_ite_f, List.set_cons_zero, List.set_cons_succ, List.nil_append, List.cons_append, List.append_nil, V.int.injEq, V.str.injEq, V.bl.injEq, V.ref.injEq, V.ty.injEq, List.cons.injEq, and_true, true_and, exists_eq_left, exists_eq_left', exists_and_left, exists_eq, exists_const, if_true, if_false, ite_true, ite_false, rd_ss, rd_si, rd_is, rd_ii, rd_bb, Option.some.injEq, exists_eq_right, exists_eq_right', and_assoc, reduceCtorEq, false_and, and_false, false_or, or_false, exists_false]
    refine ⟨small_line (by simp), fun p H1 n1 => ⟨ns, n1.g.seq hS, [], n1.lst, ?_⟩⟩
    by_cases hn : ns = []
    · rw [show (!decide (ns = [])) = false by simp [hn]]
      exact iteF ⟨n1.g, fun h => nomatch h⟩
    · rw [show (!decide (ns = [])) = true by simp [hn]]
      obtain ⟨x, t, e⟩ := List.exists_cons_of_ne_nil hn
      subst e
      exact iteT ⟨_, n1.g.seq hS, _, atI_0, _, rfl, by decide, n1.g, fun _ => hn⟩
  rintro c H1 ⟨g1, hc⟩
  cases c with
  | true =>
    simp only [exists_eq', rEqI, rNeI, rInDc, rLenD, rLenT, rDictOf, rMaxL, rIndex, rCatTN, rCatTE, tDNewN, tDNewTN, tDisp1T, rNeM, rRange2, rListRng, rRepN, rPopAt, rSetL, gSub, ipI, tDGet, tDGet2, sDPut, iEnum, iEZ, iZipL, iRng3, tRaise, tTryN, rLeL, rNotInD, iEnum, iZip, rInD, rIxD, rLen, rAll, rAny, rSum, rListOf, rEqS, rNeS, rSlTN, rStrB, tTupN, tLstN, rSlLN, rCatN, cxK, cxP, cxW, tSeq, tIfS, tTest, tB, tOp, tUn, tC, tAnd, tOr, tNot, tAndV, tOrV, tNotV, tIf, tNext, tBreak, tCont, tDrop, tRet, tRetN, gName, gNil, gCons, gTup, tAsg, tPar, tAug, rI, rI0, rU, rEq, rNe, tChain, tNil, tCons, tTup, tLst, tCall, tCB, tNoPart, tPart, tSl, rSlT, rSlL, rSlS, rIxL, rIxT, rIxS, rIn, tBM0, tBM, tyV, rAppend, rExtend, rCat, rZfill, rEqD, iList, iTup, iStr, iRng1, iRng2, tYes, tDisp, tPairs, rd_v0, rd_vS, rd_comp, rd_for, rd_ite_t, rd_ite_f, List.set_cons_zero, List.set_cons_succ, List.nil_append, List.cons_append, List.append_nil, V.int.injEq, V.str.injEq, V.bl.injEq, V.ref.injEq, V.ty.injEq, List.cons.injEq, and_true, true_and, exists_eq_left, exists_eq_left', exists_and_left, exists_eq, exists_const, if_true, if_false, ite_true, ite_false, rd_ss, rd_si, rd_is, rd_ii, rd_bb, Option.some.injEq, exists_eq_right, exists_eq_right', and_assoc, reduceCtorEq, false_and, and_false, false_or, or_false, exists_false]
    obtain ⟨x, t, e⟩ := List.exists_cons_of_ne_nil (hc rfl)
    subst e
    exact ⟨_, g1.seq hS, _, atI_0, _, rfl, ⟨by decide, by decide⟩, ⟨by decide, by decide, by decide⟩, by decide, _, wd, rfl, hw0, hw, fun p m H' g' rm ok ew h9 => q p m H' (g1.trans g') rm ok ew h9⟩
  | false =>
    simp only [exists_eq', rEqI, rNeI, rInDc, rLenD, rLenT, rDictOf, rMaxL, rIndex, rCatTN, rCatTE, tDNewN, tDNewTN, tDisp1T, rNeM, rRange2, rListRng, rRepN, rPopAt, rSetL, gSub, ipI, tDGet, tDGet2, sDPut, iEnum, iEZ, iZipL, iRng3, tRaise, tTryN, rLeL, rNotInD, iEnum, iZip, rInD, rIxD, rLen, rAll, rAny, rSum, rListOf, rEqS, rNeS, rSlTN, rStrB, tTupN, tLstN, rSlLN, rCatN, cxK, cxP, cxW, tSeq, tIfS, tTest, tB, tOp, tUn, tC, tAnd, tOr, tNot, tAndV, tOrV, tNotV, tIf, tNext, tBreak, tCont, tDrop, tRet, tRetN, gName, gNil, gCons, gTup, tAsg, tPar, tAug, rI, rI0, rU, rEq, rNe, tChain, tNil, tCons, tTup, tLst, tCall, tCB, tNoPart, tPart, tSl, rSlT, rSlL, rSlS, rIxL, rIxT, rIxS, rIn, tBM0, tBM, tyV, rAppend, rExtend, rCat, rZfill, rEqD, iList, iTup, iStr, iRng1, iRng2, tYes, tDisp, tPairs, rd_v0, rd_vS, rd_comp, rd_for, rd_ite_t, rd_ite_f, List.set_cons_zero, List.set_cons_succ, List.nil_append, List.cons_append, List.append_nil, V.int.injEq, V.str.injEq, V.bl.injEq, V.ref.injEq, V.ty.injEq, List.cons.injEq, and_true, true_and, exists_eq_left, exists_eq_left', exists_and_left, exists_eq, exists_const, if_true, if_false, ite_true, ite_false, rd_ss, rd_si, rd_is, rd_ii, rd_bb, Option.some.injEq, exists_eq_right, exists_eq_right', and_assoc, reduceCtorEq, false_and, and_false, false_or, or_false, exists_false]
    refine ⟨_, g1.seq hS, fun p3 H3 n3 => ?_⟩
    rw [cutL_map] at n3
    have m0 := Int.emod_nonneg ((cutL ns none (some 1)).sum / 2) (show (9 : Int) ≠ 0 by decide)
    have m1 := Int.emod_lt_of_pos ((cutL ns none (some 1)).sum / 2) (show (0 : Int) < 9 by decide)
    refine ⟨_, n3.lst, ⟨by decide, by decide⟩, by decide, small_line (by simp), fun p H4 n4 => ⟨small_line (by simp), fun pe H5 n5 => ⟨by omega, by omega, ?_⟩⟩⟩
    generalize hn : 1 + (cutL ns none (some 1)).sum / 2 % 9 = n
    have npe : p ≠ pe := ne_of_none n4.at' n5.nil
    have g14 : Same H H4 := g1.trans (n3.g.trans n4.g)
    have hpn : H p = none := (g1.trans n3.g).free n4.nil
    have hpe : H pe = none := g14.free n5.nil
    refine fb_range (fun i σ H' => Same H H' ∧ (∃ v6 v7 v8 v9 v10, σ = [some (.ref a), some (.int wd), some (.int 9), some (.int n), some (.ref p), some (.ref pe), v6, v7, v8, v9, v10]) ∧
      ∃ rs lines bs, H' p = some (.lst rs) ∧ Paired (Line H') rs lines ∧ lines.length = i ∧ (∀ l ∈ lines, l.length = 2 ^ wd.toNat ∧ ∀ r ∈ l, r < n.toNat) ∧ H' pe = some (.lst (bs.map V.bl)) ∧ bs.length = i) ⟨g14.trans n5.g, ⟨none, none, none, none, none, rfl⟩, [], [], [], n5.g _ _ n4.at', .nil, rfl, fun _ h => (nomatch h), n5.at', rfl⟩ ?_ ?_
    · rintro i σ H' hi ⟨g, ⟨v6, v7, v8, v9, v10, rfl⟩, rs, lines, bs, ep, pr, ll, hg, epe, lb⟩
      have hin : i < 9 := by omega
      simp only [exists_eq', rEqI, rNeI, rInDc, rLenD, rLenT, rDictOf, rMaxL, rIndex, rCatTN, rCatTE, tDNewN, tDNewTN, tDisp1T, rNeM, rRange2, rListRng, rRepN, rPopAt, rSetL, gSub, ipI, tDGet, tDGet2, sDPut, iEnum, iEZ, iZipL, iRng3, tRaise, tTryN, rLeL, rNotInD, iEnum, iZip, rInD, rIxD, rLen, rAll, rAny, rSum, rListOf, rEqS, rNeS, rSlTN, rStrB, tTupN, tLstN, rSlLN, rCatN, cxK, cxP, cxW, tSeq, tIfS, tTest, tB, tOp, tUn, tC, tAnd, tOr, tNot, tAndV, tOrV, tNotV, tIf, tNext, tBreak, tCont, tDrop, tRet, tRetN, gName, gNil, gCons, gTup, tAsg, tPar, tAug, rI, rI0, rU, rEq, rNe, tChain, tNil, tCons, tTup, tLst, tCall, tCB, tNoPart, tPart, tSl, rSlT, rSlL, rSlS, rIxL, rIxT, rIxS, rIn, tBM0, tBM, tyV, rAppend, rExtend, rCat, rZfill, rEqD, iList, iTup, iStr, iRng1, iRng2, tYes, tDisp, tPairs, rd_v0, rd_vS, rd_comp, rd_for, rd_ite_t, rd_ite_f, List.set_cons_zero, List.set_cons_succ, List.nil_append, List.cons_append, List.append_nil, V.int.injEq, V.str.injEq, V.bl.injEq, V.ref.injEq, V.ty.injEq, List.cons.injEq, and_true, true_and, exists_eq_left, exists_eq_left', exists_and_left, exists_eq, exists_const, if_true, if_false, ite_true, ite_false, rd_ss, rd_si, rd_is, rd_ii, rd_bb, Option.some.injEq, exists_eq_right, exists_eq_right', and_assoc, reduceCtorEq, false_and, and_false, false_or, or_false, exists_false]
      refine ⟨fun σ' H'' => Same H' H'' ∧ ∃ (mx : Int) (v8 : Option V), σ' = [some (.ref a), some (.int wd), some (.int 9), some (.int n), some (.ref p), some (.ref pe), some (.int (0 + (i : Int))), some (.int mx), v8, v9, v10], ?_, ?_⟩
      · simp only [exists_eq', rEqI, rNeI, rInDc, rLenD, rLenT, rDictOf, rMaxL, rIndex, rCatTN, rCatTE, tDNewN, tDNewTN, tDisp1T, rNeM, rRange2, rListRng, rRepN, rPopAt, rSetL, gSub, ipI, tDGet, tDGet2, sDPut, iEnum, iEZ, iZipL, iRng3, tRaise, tTryN, rLeL, rNotInD, iEnum, iZip, rInD, rIxD, rLen, rAll, rAny, rSum, rListOf, rEqS, rNeS, rSlTN, rStrB, tTupN, tLstN, rSlLN, rCatN, cxK, cxP, cxW, tSeq, tIfS, tTest, tB, tOp, tUn, tC, tAnd, tOr, tNot, tAndV, tOrV, tNotV, tIf, tNext, tBreak, tCont, tDrop, tRet, tRetN, gName, gNil, gCons, gTup, tAsg, tPar, tAug, rI, rI0, rU, rEq, rNe, tChain, tNil, tCons, tTup, tLst, tCall, tCB, tNoPart, tPart, tSl, rSlT, rSlL, rSlS, rIxL, rIxT, rIxS, rIn, tBM0, tBM, tyV, rAppend, rExtend, rCat, rZfill, rEqD, iList, iTup, iStr, iRng1, iRng2, tYes, tDisp, tPairs, rd_v0, rd_vS, rd_comp, rd_for, rd_ite_t, rd_ite_f, List.set_cons_zero, List.set_cons_succ, List.nil_append, List.cons_append, List.append_nil, V.int.injEq, V.str.injEq, V.bl.injEq, V.ref.injEq, V.ty.injEq, List.cons.injEq, and_true, true_and, exists_eq_left, exists_eq_left', exists_and_left, exists_eq, exists_const, if_true, if_false, ite_true, ite_false, rd_ss, rd_si, rd_is, rd_ii, rd_bb, Option.some.injEq, exists_eq_right, exists_eq_right', and_assoc, reduceCtorEq, false_and, and_false, false_or, or_false, exists_false]
        refine ⟨small_line (by simp), fun p6 H6 n6 => ⟨ns, (g.trans n6.g).seq hS, [], n6.lst, ?_⟩⟩
        by_cases hn0 : ns = []
        · rw [show (!decide (ns = [])) = false by simp [hn0]]
          exact iteF n6.g
        · rw [show (!decide (ns = [])) = true by simp [hn0]]
          have hl0 : 0 < ns.length := List.length_pos_iff.mpr hn0
          have k0 := Int.emod_nonneg (0 + (i : Int)) (show (ns.length : Int) ≠ 0 by omega)
          have k1 := Int.emod_lt_of_pos (0 + (i : Int)) (show (0 : Int) < (ns.length : Int) by omega)
          have hS6 := (g.trans n6.g).seq hS
          obtain ⟨kk, hkk⟩ : ∃ kk : Nat, (0 + (i : Int)) % (ns.length : Int) = (kk : Int) := ⟨_, (Int.toNat_of_nonneg k0).symm⟩
          have kl : kk < ns.length := by omega
          have atk : atI (ns.map V.int) ((0 + (i : Int)) % (ns.length : Int)) = some (V.int ns[kk]) := by
            rw [hkk]
            exact atI_nat (by rw [List.getElem?_map, List.getElem?_eq_getElem kl]; rfl)
          refine iteT ⟨_, .inl hS6, by rw [List.length_map]; omega, _, hS6, _, by rw [List.length_map]; exact atk, _, .inl hS6, ⟨by rw [List.length_map]; omega, by rw [List.length_map]; omega⟩, _, rfl, _, rfl, fun r _ _ => ⟨n6.g, _, rfl⟩⟩
      · rintro σ' H'' ⟨g7, mx, v8', rfl⟩
        have ep7 := g7 _ _ ep
        have epe7 := g7 _ _ epe
        simp only [exists_eq', rEqI, rNeI, rInDc, rLenD, rLenT, rDictOf, rMaxL, rIndex, rCatTN, rCatTE, tDNewN, tDNewTN, tDisp1T, rNeM, rRange2, rListRng, rRepN, rPopAt, rSetL, gSub, ipI, tDGet, tDGet2, sDPut, iEnum, iEZ, iZipL, iRng3, tRaise, tTryN, rLeL, rNotInD, iEnum, iZip, rInD, rIxD, rLen, rAll, rAny, rSum, rListOf, rEqS, rNeS, rSlTN, rStrB, tTupN, tLstN, rSlLN, rCatN, cxK, cxP, cxW, tSeq, tIfS, tTest, tB, tOp, tUn, tC, tAnd, tOr, tNot, tAndV, tOrV, tNotV, tIf, tNext, tBreak, tCont, tDrop, tRet, tRetN, gName, gNil, gCons, gTup, tAsg, tPar, tAug, rI, rI0, rU, rEq, rNe, tChain, tNil, tCons, tTup, tLst, tCall, tCB, tNoPart, tPart, tSl, rSlT, rSlL, rSlS, rIxL, rIxT, rIxS, rIn, tBM0, tBM, tyV, rAppend, rExtend, rCat, rZfill, rEqD, iList, iTup, iStr, iRng1, iRng2, tYes, tDisp, tPairs, rd_v0, rd_vS, rd_comp, rd_for, rd_ite_t, rd_ite_f, List.set_cons_zero, List.set_cons_succ, List.nil_append, List.cons_append, List.append_nil, V.int.injEq, V.str.injEq, V.bl.injEq, V.ref.injEq, V.ty.injEq, List.cons.injEq, and_true, true_and, exists_eq_left, exists_eq_left', exists_and_left, exists_eq, exists_const, if_true, if_false, ite_true, ite_false, rd_ss, rd_si, rd_is, rd_ii, rd_bb, Option.some.injEq, exists_eq_right, exists_eq_right', and_assoc, reduceCtorEq, false_and, and_false, false_or, or_false, exists_false]
        refine ⟨.inl ⟨_, .of epe7⟩, by decide, _, epe7, by rw [List.length_map]; exact small1000 (by omega), small_line (by simp), fun p2 H8 n8 => ⟨⟨by omega, by omega, by decide⟩, by omega, by omega, ?_⟩⟩
        generalize eH2 : upd H'' pe (.lst (bs.map V.bl ++ [V.bl (decide (mx % 3 = 0))])) = HH at n8
        have gHH : Same H HH := by rw [← eH2]; exact (g.trans g7).wr hpe _
        have epHH : HH p = some (.lst rs) := by rw [← eH2, upd_ne npe]; exact ep7
        have epeHH : HH pe = some (.lst ((bs ++ [decide (mx % 3 = 0)]).map V.bl)) := by rw [← eH2, upd_same, List.map_append]; rfl
        have tsHH : TupS H' HH := by rw [← eH2]; exact g7.tups.trans (TupS.wr epe7 _)
        generalize hbs : bs ++ [decide (mx % 3 = 0)] = bs' at epeHH
        have lb' : bs'.length = i + 1 := by rw [← hbs, List.length_append, lb]; rfl
        have nep2 : p ≠ p2 := ne_of_none epHH n8.nil
        have nepe2 : pe ≠ p2 := ne_of_none epeHH n8.nil
        refine fb_range (fun j σ H'' => Same H H'' ∧ TupS H8 H'' ∧ (∃ (mx' : Int) (v10 : Option V), σ = [some (.ref a), some (.int wd), some (.int 9), some (.int n), some (.ref p), some (.ref pe), some (.int (0 + (i : Int))), some (.int mx'), v8', some (.ref p2), v10]) ∧ H'' p = some (.lst rs) ∧ H'' pe = some (.lst (bs'.map V.bl)) ∧
          ∃ ln : List Nat, H'' p2 = some (.lst (ln.map nV)) ∧ ln.length = j ∧ ∀ r ∈ ln, r < n.toNat) ⟨gHH.trans n8.g, TupS.refl _, ⟨_, _, rfl⟩, n8.g _ _ epHH, n8.g _ _ epeHH, [], n8.at', rfl, fun _ h => (nomatch h)⟩ ?_ ?_
        · rintro j σ H9 hj ⟨g2, ts, ⟨mx', v10', rfl⟩, ep2, epe2, ln, e2, le, hr2⟩
          simp only [exists_eq', rEqI, rNeI, rInDc, rLenD, rLenT, rDictOf, rMaxL, rIndex, rCatTN, rCatTE, tDNewN, tDNewTN, tDisp1T, rNeM, rRange2, rListRng, rRepN, rPopAt, rSetL, gSub, ipI, tDGet, tDGet2, sDPut, iEnum, iEZ, iZipL, iRng3, tRaise, tTryN, rLeL, rNotInD, iEnum, iZip, rInD, rIxD, rLen, rAll, rAny, rSum, rListOf, rEqS, rNeS, rSlTN, rStrB, tTupN, tLstN, rSlLN, rCatN, cxK, cxP, cxW, tSeq, tIfS, tTest, tB, tOp, tUn, tC, tAnd, tOr, tNot, tAndV, tOrV, tNotV, tIf, tNext, tBreak, tCont, tDrop, tRet, tRetN, gName, gNil, gCons, gTup, tAsg, tPar, tAug, rI, rI0, rU, rEq, rNe, tChain, tNil, tCons, tTup, tLst, tCall, tCB, tNoPart, tPart, tSl, rSlT, rSlL, rSlS, rIxL, rIxT, rIxS, rIn, tBM0, tBM, tyV, rAppend, rExtend, rCat, rZfill, rEqD, iList, iTup, iStr, iRng1, iRng2, tYes, tDisp, tPairs, rd_v0, rd_vS, rd_comp, rd_for, rd_ite_t, rd_ite_f, List.set_cons_zero, List.set_cons_succ, List.nil_append, List.cons_append, List.append_nil, V.int.injEq, V.str.injEq, V.bl.injEq, V.ref.injEq, V.ty.injEq, List.cons.injEq, and_true, true_and, exists_eq_left, exists_eq_left', exists_and_left, exists_eq, exists_const, if_true, if_false, ite_true, ite_false, rd_ss, rd_si, rd_is, rd_ii, rd_bb, Option.some.injEq, exists_eq_right, exists_eq_right', and_assoc, reduceCtorEq, false_and, and_false, false_or, or_false, exists_false]
          refine ⟨⟨by decide, by decide⟩, .inl ⟨by omega, by omega⟩, .inr ⟨by decide, by decide⟩, by decide, .inl ⟨_, .of e2⟩, ⟨by decide, by decide⟩, by omega, _, e2, by rw [List.length_map]; exact small1000 (by omega), ?_⟩
          generalize ((mx' / 3 + (0 + (i : Int)) + (0 + (j : Int)) * (0 + (j : Int)) + 7) * 69621 % 2147483629) = my
          have r0 := Int.emod_nonneg (my / 11) (show n ≠ 0 by omega)
          have r1 := Int.emod_lt_of_pos (my / 11) (show 0 < n by omega)
          refine ⟨g2.wr (gHH.free n8.nil) _, ts.trans (TupS.wr e2 _), by rw [upd_ne nep2]; exact ep2, by rw [upd_ne nepe2]; exact epe2, ln ++ [(my / 11 % n).toNat], ?_, by rw [List.length_append, List.length_singleton, le], fun x hx => ?_⟩
          · rw [upd_same, List.map_append]
            have er : my / 11 % n = (((my / 11 % n).toNat : Nat) : Int) := by omega
            rw [er]
            rfl
          · rcases List.mem_append.mp hx with h | h
            · exact hr2 x h
            · rw [List.mem_singleton.mp h]; omega
        · rintro σ H9 ⟨g2, ts, ⟨mx', v10', rfl⟩, ep2, epe2, ln, e2, le, hr2⟩
          simp only [exists_eq', rEqI, rNeI, rInDc, rLenD, rLenT, rDictOf, rMaxL, rIndex, rCatTN, rCatTE, tDNewN, tDNewTN, tDisp1T, rNeM, rRange2, rListRng, rRepN, rPopAt, rSetL, gSub, ipI, tDGet, tDGet2, sDPut, iEnum, iEZ, iZipL, iRng3, tRaise, tTryN, rLeL, rNotInD, iEnum, iZip, rInD, rIxD, rLen, rAll, rAny, rSum, rListOf, rEqS, rNeS, rSlTN, rStrB, tTupN, tLstN, rSlLN, rCatN, cxK, cxP, cxW, tSeq, tIfS, tTest, tB, tOp, tUn, tC, tAnd, tOr, tNot, tAndV, tOrV, tNotV, tIf, tNext, tBreak, tCont, tDrop, tRet, tRetN, gName, gNil, gCons, gTup, tAsg, tPar, tAug, rI, rI0, rU, rEq, rNe, tChain, tNil, tCons, tTup, tLst, tCall, tCB, tNoPart, tPart, tSl, rSlT, rSlL, rSlS, rIxL, rIxT, rIxS, rIn, tBM0, tBM, tyV, rAppend, rExtend, rCat, rZfill, rEqD, iList, iTup, iStr, iRng1, iRng2, tYes, tDisp, tPairs, rd_v0, rd_vS, rd_comp, rd_for, rd_ite_t, rd_ite_f, List.set_cons_zero, List.set_cons_succ, List.nil_append, List.cons_append, List.append_nil, V.int.injEq, V.str.injEq, V.bl.injEq, V.ref.injEq, V.ty.injEq, List.cons.injEq, and_true, true_and, exists_eq_left, exists_eq_left', exists_and_left, exists_eq, exists_const, if_true, if_false, ite_true, ite_false, rd_ss, rd_si, rd_is, rd_ii, rd_bb, Option.some.injEq, exists_eq_right, exists_eq_right', and_assoc, reduceCtorEq, false_and, and_false, false_or, or_false, exists_false]
          refine ⟨.inl ⟨_, .of ep2⟩, _, .inl ⟨.of e2, fun t H10 n10 => ⟨_, n10.g _ _ ep2, ?_, ?_⟩⟩⟩
          · have := SS.Paired.len pr
            exact small1000 (by omega)
          have tsA : TupS H' (upd H10 p (.lst (rs ++ [.ref t]))) := tsHH.trans (n8.g.tups.trans (ts.trans (n10.g.tups.trans (TupS.wr (n10.g _ _ ep2) _))))
          refine ⟨(g2.trans n10.g).wr hpn _, rs ++ [.ref t], upd_same, lines ++ [ln], SM.Paired.snoc (L2.Paired.mapP pr fun _ _ z => z.ts tsA) ⟨t, rfl, TupS.wr (n10.g _ _ ep2) _ _ _ n10.at'⟩, by rw [List.length_append, List.length_singleton, ll], fun l hl => ?_, bs', by rw [upd_ne (Ne.symm npe)]; exact n10.g _ _ epe2, lb'⟩
          rcases List.mem_append.mp hl with h | h
          · exact hg l h
          · rw [List.mem_singleton.mp h]
            exact ⟨by rw [le]; omega, hr2⟩
    · rintro σ H' ⟨g, ⟨v6, v7, v8, v9, v10, rfl⟩, rs, lines, bs, ep, pr, ll, hg, epe, lb⟩
      simp only [exists_eq', rEqI, rNeI, rInDc, rLenD, rLenT, rDictOf, rMaxL, rIndex, rCatTN, rCatTE, tDNewN, tDNewTN, tDisp1T, rNeM, rRange2, rListRng, rRepN, rPopAt, rSetL, gSub, ipI, tDGet, tDGet2, sDPut, iEnum, iEZ, iZipL, iRng3, tRaise, tTryN, rLeL, rNotInD, iEnum, iZip, rInD, rIxD, rLen, rAll, rAny, rSum, rListOf, rEqS, rNeS, rSlTN, rStrB, tTupN, tLstN, rSlLN, rCatN, cxK, cxP, cxW, tSeq, tIfS, tTest, tB, tOp, tUn, tC, tAnd, tOr, tNot, tAndV, tOrV, tNotV, tIf, tNext, tBreak, tCont, tDrop, tRet, tRetN, gName, gNil, gCons, gTup, tAsg, tPar, tAug, rI, rI0, rU, rEq, rNe, tChain, tNil, tCons, tTup, tLst, tCall, tCB, tNoPart, tPart, tSl, rSlT, rSlL, rSlS, rIxL, rIxT, rIxS, rIn, tBM0, tBM, tyV, rAppend, rExtend, rCat, rZfill, rEqD, iList, iTup, iStr, iRng1, iRng2, tYes, tDisp, tPairs, rd_v0, rd_vS, rd_comp, rd_for, rd_ite_t, rd_ite_f, List.set_cons_zero, List.set_cons_succ, List.nil_append, List.cons_append, List.append_nil, V.int.injEq, V.str.injEq, V.bl.injEq, V.ref.injEq, V.ty.injEq, List.cons.injEq, and_true, true_and, exists_eq_left, exists_eq_left', exists_and_left, exists_eq, exists_const, if_true, if_false, ite_true, ite_false, rd_ss, rd_si, rd_is, rd_ii, rd_bb, Option.some.injEq, exists_eq_right, exists_eq_right', and_assoc, reduceCtorEq, false_and, and_false, false_or, or_false, exists_false]
      refine ⟨_, .inl ⟨.of ep, fun t1 H4 n4 => ⟨_, .inl ⟨.of (n4.g _ _ epe), fun t2 H5 n5 => ⟨small_line (by simp), fun t3 H6 n6 => ?_⟩⟩⟩⟩⟩
      have gA : Same H' H6 := n4.g.trans (n5.g.trans n6.g)
      refine q t3 ⟨wd.toNat, lines, bs⟩ H6 (g.trans gA) ⟨t1, t2, rs, ?_, (n5.g.trans n6.g) _ _ n4.at', L2.Paired.mapP pr fun _ _ z => z.ts gA.tups, n6.g _ _ n5.at'⟩ ⟨?_, ?_, ?_, ?_, fun l h => (hg l h).1, fun l h r hr => ?_⟩ ?_ ?_
      · rw [n6.at']
        have ew : wd = ((wd.toNat : Nat) : Int) := by omega
        show some (HO.tup [V.int wd, .ref t1, .ref t2]) = some (HO.tup [V.int ((wd.toNat : Nat) : Int), .ref t1, .ref t2])
        rw [← ew]
      · show wd.toNat ≤ 4; omega
      · show 0 < bs.length; omega
      · show bs.length ≤ 100; omega
      · show lines.length = bs.length; omega
      · have := (hg l h).2 r hr
        show r < bs.length; omega
      · show ((wd.toNat : Nat) : Int) = wd; omega
      · show bs.length ≤ 9; omega
abbrev s_law_room : Stmt := top 23
theorem sc_law_room : FnScope ["_law_machine_here", "_law_row", "_law_room_here", "_law_letter"] ["_law_machine_here", "_law_row"] (defScope s_law_room) := ⟨rfl, rfl, rfl, by decide +kernel, rfl, by decide +kernel, by decide +kernel⟩
theorem ok_room (T : Txt K mg cNoNumber cNoRow) (d : Dfn K mg "_law_room" s_law_room ["_law_machine_here", "_law_row"]) : Cal P w K mg base 1 "_law_room" ["_law_machine_here", "_law_row"] (sp_room K) := by
  refine d.cal sc_law_room (fun vs H Q E h => ?_) (fun f cdv A outer s H vs Q E hr h => ?_)
  · obtain ⟨a, b, m, row, rfl, _⟩ := h
    rfl
  obtain ⟨a, b, m, row, rfl, ⟨b1, c1, rs, ea, eb, pr, ec⟩, ok, hb, hl, h300, q⟩ := h
  refine ⟨_, (pss_cons (ps_set (i := 2) sc_law_room.nd rfl (Or.inl rfl) pe_int) (pss_cons (ps_for PassesOwn.never rfl (pi_listK K (pv 1)) (pg_name (i := 3) (show List.Nodup (["_law_machine_here", "_law_row", "_law_room_here", "_law_letter"] : List Str) by decide +kernel) (by rfl) (Or.inl (by rfl))) (pss_one (ps_set (i := 2) sc_law_room.nd rfl (Or.inl rfl) (pe_ix (ix_tupK K) (pe_ix (ix_tupK K) (pe_ix (ix_tupK K) (pv 0) pe_int (fun _ _ => rfl)) (pv 2) (fun _ _ => rfl)) (pv 3) (fun _ _ => rfl))))) (pss_one (ps_ret (pv 2))))), ?_⟩
  refine rd_st [some (.ref a), some (.ref b), none, none] rfl ?_
  simp only [exists_eq', rEqI, rNeI, rInDc, rLenD, rLenT, rDictOf, rMaxL, rIndex, rCatTN, rCatTE, tDNewN, tDNewTN, tDisp1T, rNeM, rRange2, rListRng, rRepN, rPopAt, rSetL, gSub, ipI, tDGet, tDGet2, sDPut, iEnum, iEZ, iZipL, iRng3, tRaise, tTryN, rLeL, rNotInD, iEnum, iZip, rInD, rIxD, rLen, rAll, rAny, rSum, rListOf, rEqS, rNeS, rSlTN, rStrB, tTupN, tLstN, rSlLN, rCatN, cxK, cxP, cxW, tSeq, tIfS, tTest, tB, tOp, tUn, tC, tAnd, tOr, tNot, tAndV, tOrV, tNotV, tIf, tNext, tBreak, tCont, tDrop, tRet, tRetN, gName, gNil, gCons, gTup, tAsg, tPar, tAug, rI, rI0, rU, rEq, rNe, tChain, tNil, tCons, tTup, tLst, tCall, tCB, tNoPart, tPart, tSl, rSlT, rSlL, rSlS, rIxL, rIxT, rIxS, rIn, tBM0, tBM, tyV, rAppend, rExtend, rCat, rZfill, rEqD, iList, iTup, iStr, iRng1, iRng2, tYes, tDisp, tPairs, rd_v0, rd_vS, rd_comp, rd_for, rd_ite_t, rd_ite_f, List.set_cons_zero, List.set_cons_succ, List.nil_append, List.cons_append, List.append_nil, V.int.injEq, V.str.injEq, V.bl.injEq, V.ref.injEq, V.ty.injEq, List.cons.injEq, and_true, true_and, exists_eq_left, exists_eq_left', exists_and_left, exists_eq, exists_const, if_true, if_false, ite_true, ite_false, rd_ss, rd_si, rd_is, rd_ii, rd_bb, Option.some.injEq, exists_eq_right, exists_eq_right', and_assoc, reduceCtorEq, false_and, and_false, false_or, or_false, exists_false]
  refine ⟨⟨_, hb⟩, fb_list (K := K) (a := b) (xs := row.map nV) (fun i σ H' => H = H' ∧ ∃ v3, σ = [some (.ref a), some (.ref b), some (nV (m.run 0 (row.take i))), v3]) ⟨rfl, none, rfl⟩ (fun i σ H' _ z => by rw [← z.1]; exact hb) ?_ ?_⟩
  · rintro i y σ H' hy ⟨rfl, v3, rfl⟩
    rw [List.getElem?_map] at hy
    obtain ⟨l, el, rfl⟩ := Option.map_eq_some_iff.mp hy
    have hll := hl l (List.mem_of_getElem? el)
    have hlt := ok.run_lt (row.take i) 0 ok.pos fun x hx => hl x (List.mem_of_mem_take hx)
    obtain ⟨line, e1, e2, e3⟩ := ok.at hlt hll
    obtain ⟨v, ev, a2, rfl, e4⟩ := Paired.at2 pr e1
    have at4 : (line.map nV)[l]? = some (nV (m.go (m.run 0 (row.take i)) l)) := by rw [List.getElem?_map, e2]; rfl
    simp only [exists_eq', rEqI, rNeI, rInDc, rLenD, rLenT, rDictOf, rMaxL, rIndex, rCatTN, rCatTE, tDNewN, tDNewTN, tDisp1T, rNeM, rRange2, rListRng, rRepN, rPopAt, rSetL, gSub, ipI, tDGet, tDGet2, sDPut, iEnum, iEZ, iZipL, iRng3, tRaise, tTryN, rLeL, rNotInD, iEnum, iZip, rInD, rIxD, rLen, rAll, rAny, rSum, rListOf, rEqS, rNeS, rSlTN, rStrB, tTupN, tLstN, rSlLN, rCatN, cxK, cxP, cxW, tSeq, tIfS, tTest, tB, tOp, tUn, tC, tAnd, tOr, tNot, tAndV, tOrV, tNotV, tIf, tNext, tBreak, tCont, tDrop, tRet, tRetN, gName, gNil, gCons, gTup, tAsg, tPar, tAug, rI, rI0, rU, rEq, rNe, tChain, tNil, tCons, tTup, tLst, tCall, tCB, tNoPart, tPart, tSl, rSlT, rSlL, rSlS, rIxL, rIxT, rIxS, rIn, tBM0, tBM, tyV, rAppend, rExtend, rCat, rZfill, rEqD, iList, iTup, iStr, iRng1, iRng2, tYes, tDisp, tPairs, rd_v0, rd_vS, rd_comp, rd_for, rd_ite_t, rd_ite_f, List.set_cons_zero, List.set_cons_succ, List.nil_append, List.cons_append, List.append_nil, V.int.injEq, V.str.injEq, V.bl.injEq, V.ref.injEq, V.ty.injEq, List.cons.injEq, and_true, true_and, exists_eq_left, exists_eq_left', exists_and_left, exists_eq, exists_const, if_true, if_false, ite_true, ite_false, rd_ss, rd_si, rd_is, rd_ii, rd_bb, Option.some.injEq, exists_eq_right, exists_eq_right', and_assoc, reduceCtorEq, false_and, and_false, false_or, or_false, exists_false]
    refine ⟨_, .of ea, _, atI_nat (j := 1) rfl, _, rfl, _, .of eb, _, atI_nat ev, _, rfl, _, .of e4, ?_⟩
    rw [atI_nat at4, List.take_add_one, el, Option.toList_some, m.run_snoc]
  · rintro σ H' ⟨rfl, v3, rfl⟩
    rw [List.length_map, List.take_of_length_le (Nat.le_refl _)]
    simp only [exists_eq', rEqI, rNeI, rInDc, rLenD, rLenT, rDictOf, rMaxL, rIndex, rCatTN, rCatTE, tDNewN, tDNewTN, tDisp1T, rNeM, rRange2, rListRng, rRepN, rPopAt, rSetL, gSub, ipI, tDGet, tDGet2, sDPut, iEnum, iEZ, iZipL, iRng3, tRaise, tTryN, rLeL, rNotInD, iEnum, iZip, rInD, rIxD, rLen, rAll, rAny, rSum, rListOf, rEqS, rNeS, rSlTN, rStrB, tTupN, tLstN, rSlLN, rCatN, cxK, cxP, cxW, tSeq, tIfS, tTest, tB, tOp, tUn, tC, tAnd, tOr, tNot, tAndV, tOrV, tNotV, tIf, tNext, tBreak, tCont, tDrop, tRet, tRetN, gName, gNil, gCons, gTup, tAsg, tPar, tAug, rI, rI0, rU, rEq, rNe, tChain, tNil, tCons, tTup, tLst, tCall, tCB, tNoPart, tPart, tSl, rSlT, rSlL, rSlS, rIxL, rIxT, rIxS, rIn, tBM0, tBM, tyV, rAppend, rExtend, rCat, rZfill, rEqD, iList, iTup, iStr, iRng1, iRng2, tYes, tDisp, tPairs, rd_v0, rd_vS, rd_comp, rd_for, rd_ite_t, rd_ite_f, List.set_cons_zero, List.set_cons_succ, List.nil_append, List.cons_append, List.append_nil, V.int.injEq, V.str.injEq, V.bl.injEq, V.ref.injEq, V.ty.injEq, List.cons.injEq, and_true, true_and, exists_eq_left, exists_eq_left', exists_and_left, exists_eq, exists_const, if_true, if_false, ite_true, ite_false, rd_ss, rd_si, rd_is, rd_ii, rd_bb, Option.some.injEq, exists_eq_right, exists_eq_right', and_assoc, reduceCtorEq, false_and, and_false, false_or, or_false, exists_false]
    exact q
abbrev s_law_takes : Stmt := top 24
theorem sc_law_takes : FnScope ["_law_machine_here", "_law_row"] ["_law_machine_here", "_law_row"] (defScope s_law_takes) := ⟨rfl, rfl, rfl, by decide +kernel, rfl, by decide +kernel, by decide +kernel⟩
theorem ok_takesL (T : Txt K mg cNoNumber cNoRow) (d : Dfn K mg "_law_takes" s_law_takes ["_law_machine_here", "_law_row"]) (C_law_room : Cal P w K mg base 1 "_law_room" ["_law_machine_here", "_law_row"] (sp_room K)) : Cal P w K mg base 2 "_law_takes" ["_law_machine_here", "_law_row"] (sp_takesL K) := by
  refine d.cal sc_law_takes (fun vs H Q E h => ?_) (fun f cdv A outer s H vs Q E hr h => ?_)
  · obtain ⟨a, b, m, row, rfl, _⟩ := h
    rfl
  obtain ⟨a, b, m, row, rfl, rm, ok, hb, hl, h300, q⟩ := h
  obtain ⟨b1, c1, rs, ea, eb, pr, ec⟩ := id rm
  have hlt := ok.run_lt row 0 ok.pos hl
  have at3 : (m.ends.map V.bl)[m.run 0 row]? = some (.bl (m.fin (m.run 0 row))) := by rw [List.getElem?_map, Mc.fin_at hlt]; rfl
  refine ⟨_, (pss_one (ps_ret (pe_ix (ix_tupK K) (pe_ix (ix_tupK K) (pv 0) pe_int (fun _ _ => rfl)) (pe_callC C_law_room hr (by omega) (by rfl) (pa_c (pv 0) (pa_c (pv 1) pa_nil))) (fun _ _ => rfl)))), ?_⟩
  refine rd_st [some (.ref a), some (.ref b)] rfl ?_
  simp only [exists_eq', rEqI, rNeI, rInDc, rLenD, rLenT, rDictOf, rMaxL, rIndex, rCatTN, rCatTE, tDNewN, tDNewTN, tDisp1T, rNeM, rRange2, rListRng, rRepN, rPopAt, rSetL, gSub, ipI, tDGet, tDGet2, sDPut, iEnum, iEZ, iZipL, iRng3, tRaise, tTryN, rLeL, rNotInD, iEnum, iZip, rInD, rIxD, rLen, rAll, rAny, rSum, rListOf, rEqS, rNeS, rSlTN, rStrB, tTupN, tLstN, rSlLN, rCatN, cxK, cxP, cxW, tSeq, tIfS, tTest, tB, tOp, tUn, tC, tAnd, tOr, tNot, tAndV, tOrV, tNotV, tIf, tNext, tBreak, tCont, tDrop, tRet, tRetN, gName, gNil, gCons, gTup, tAsg, tPar, tAug, rI, rI0, rU, rEq, rNe, tChain, tNil, tCons, tTup, tLst, tCall, tCB, tNoPart, tPart, tSl, rSlT, rSlL, rSlS, rIxL, rIxT, rIxS, rIn, tBM0, tBM, tyV, rAppend, rExtend, rCat, rZfill, rEqD, iList, iTup, iStr, iRng1, iRng2, tYes, tDisp, tPairs, rd_v0, rd_vS, rd_comp, rd_for, rd_ite_t, rd_ite_f, List.set_cons_zero, List.set_cons_succ, List.nil_append, List.cons_append, List.append_nil, V.int.injEq, V.str.injEq, V.bl.injEq, V.ref.injEq, V.ty.injEq, List.cons.injEq, and_true, true_and, exists_eq_left, exists_eq_left', exists_and_left, exists_eq, exists_const, if_true, if_false, ite_true, ite_false, rd_ss, rd_si, rd_is, rd_ii, rd_bb, Option.some.injEq, exists_eq_right, exists_eq_right', and_assoc, reduceCtorEq, false_and, and_false, false_or, or_false, exists_false]
  exact ⟨_, .of ea, _, atI_nat (j := 2) rfl, a, b, m, row, rfl, rm, ok, hb, hl, h300, _, rfl, _, _, rfl, .of ec, _, atI_nat at3, q⟩
abbrev s_law_longer : Stmt := top 25
theorem sc_law_longer : FnScope ["_law_rows_here", "_law_width", "_law_found", "_law_row"] ["_law_rows_here", "_law_width"] (defScope s_law_longer) := ⟨rfl, rfl, rfl, by decide +kernel, rfl, by decide +kernel, by decide +kernel⟩
theorem ok_longer (T : Txt K mg cNoNumber cNoRow) (d : Dfn K mg "_law_longer" s_law_longer ["_law_rows_here", "_law_width"]) : Cal P w K mg base 1 "_law_longer" ["_law_rows_here", "_law_width"] sp_longer := by
  refine d.cal sc_law_longer (fun vs H Q E h => ?_) (fun f cdv A outer s H vs Q E hr h => ?_)
  · obtain ⟨D, xs, rows, w, rfl, _⟩ := h
    rfl
  obtain ⟨D, xs, rows, w, rfl, eD, pp, h16, h10, hw, q⟩ := h
  have hps := pow_small hw
  refine ⟨_, (pss_cons (ps_set (i := 2) sc_law_longer.nd rfl (Or.inl rfl) (pe_lstN pa_nil)) (pss_cons (ps_for PassesOwn.never rfl (pi_listK K (pv 0)) (pg_name (i := 3) (show List.Nodup (["_law_rows_here", "_law_width", "_law_found", "_law_row"] : List Str) by decide +kernel) (by rfl) (Or.inr (by rfl))) (pss_one (ps_set (i := 2) sc_law_longer.nd rfl (Or.inl rfl) (pe_op op_catN (pv 2) (pe_lcomp ["_law_letter"] [(3, "_law_row")] (CompOk.of rfl (by rfl) (by rfl)) (by rfl) (pi_range1 (by rfl) T.b_range (pa_c (pe_op op_shl pe_int (pv 1)) pa_nil)) (fun _ _ _ _ _ => (pg_name (i := 0) (show List.Nodup (["_law_letter", "_law_row"] : List Str) by decide +kernel) (by rfl) (Or.inl (by rfl)))) (fun _ _ _ _ _ => pf_nil) (fun _ _ _ _ _ => (pe_op op_catN (pv 1) (pe_lstN (pa_c (pv 0) pa_nil))))))))) (pss_one (ps_ret (pv 2))))), ?_⟩
  refine rd_st [some (.ref D), some (nV w), none, none] rfl ?_
  simp only [exists_eq', rEqI, rNeI, rInDc, rLenD, rLenT, rDictOf, rMaxL, rIndex, rCatTN, rCatTE, tDNewN, tDNewTN, tDisp1T, rNeM, rRange2, rListRng, rRepN, rPopAt, rSetL, gSub, ipI, tDGet, tDGet2, sDPut, iEnum, iEZ, iZipL, iRng3, tRaise, tTryN, rLeL, rNotInD, iEnum, iZip, rInD, rIxD, rLen, rAll, rAny, rSum, rListOf, rEqS, rNeS, rSlTN, rStrB, tTupN, tLstN, rSlLN, rCatN, cxK, cxP, cxW, tSeq, tIfS, tTest, tB, tOp, tUn, tC, tAnd, tOr, tNot, tAndV, tOrV, tNotV, tIf, tNext, tBreak, tCont, tDrop, tRet, tRetN, gName, gNil, gCons, gTup, tAsg, tPar, tAug, rI, rI0, rU, rEq, rNe, tChain, tNil, tCons, tTup, tLst, tCall, tCB, tNoPart, tPart, tSl, rSlT, rSlL, rSlS, rIxL, rIxT, rIxS, rIn, tBM0, tBM, tyV, rAppend, rExtend, rCat, rZfill, rEqD, iList, iTup, iStr, iRng1, iRng2, tYes, tDisp, tPairs, rd_v0, rd_vS, rd_comp, rd_for, rd_ite_t, rd_ite_f, List.set_cons_zero, List.set_cons_succ, List.nil_append, List.cons_append, List.append_nil, V.int.injEq, V.str.injEq, V.bl.injEq, V.ref.injEq, V.ty.injEq, List.cons.injEq, and_true, true_and, exists_eq_left, exists_eq_left', exists_and_left, exists_eq, exists_const, if_true, if_false, ite_true, ite_false, rd_ss, rd_si, rd_is, rd_ii, rd_bb, Option.some.injEq, exists_eq_right, exists_eq_right', and_assoc, reduceCtorEq, false_and, and_false, false_or, or_false, exists_false]
  have hp2 : (1 : Int) * 2 ^ ((w : Nat) : Int).toNat = ((2 ^ w : Nat) : Int) := by rw [Int.one_mul, pow_nat]; rfl
  refine ⟨small_line (by simp), fun p H1 n1 => ⟨⟨_, .of (n1.g _ _ eD)⟩, ?_⟩⟩
  refine fb_list (K := K) (a := D) (xs := xs) (fun i σ H' => Same H H' ∧ ∃ p' v3 ys, σ = [some (.ref D), some (nV w), some (.ref p'), v3] ∧ H' p' = some (.lst ys) ∧ Paired (RowL H') ys (longer w (rows.take i))) ⟨n1.g, p, none, [], rfl, n1.at', .nil⟩ (fun i σ H' _ z => .of (z.1 _ _ eD)) ?_ ?_
  · rintro i y σ H' hy ⟨g, p', v3, ys, rfl, ep, py⟩
    obtain ⟨row, er, c, rfl, ec⟩ := SS.Paired.at pp hy
    have h10r := h10 row (List.mem_of_getElem? er)
    simp only [exists_eq', rEqI, rNeI, rInDc, rLenD, rLenT, rDictOf, rMaxL, rIndex, rCatTN, rCatTE, tDNewN, tDNewTN, tDisp1T, rNeM, rRange2, rListRng, rRepN, rPopAt, rSetL, gSub, ipI, tDGet, tDGet2, sDPut, iEnum, iEZ, iZipL, iRng3, tRaise, tTryN, rLeL, rNotInD, iEnum, iZip, rInD, rIxD, rLen, rAll, rAny, rSum, rListOf, rEqS, rNeS, rSlTN, rStrB, tTupN, tLstN, rSlLN, rCatN, cxK, cxP, cxW, tSeq, tIfS, tTest, tB, tOp, tUn, tC, tAnd, tOr, tNot, tAndV, tOrV, tNotV, tIf, tNext, tBreak, tCont, tDrop, tRet, tRetN, gName, gNil, gCons, gTup, tAsg, tPar, tAug, rI, rI0, rU, rEq, rNe, tChain, tNil, tCons, tTup, tLst, tCall, tCB, tNoPart, tPart, tSl, rSlT, rSlL, rSlS, rIxL, rIxT, rIxS, rIn, tBM0, tBM, tyV, rAppend, rExtend, rCat, rZfill, rEqD, iList, iTup, iStr, iRng1, iRng2, tYes, tDisp, tPairs, rd_v0, rd_vS, rd_comp, rd_for, rd_ite_t, rd_ite_f, List.set_cons_zero, List.set_cons_succ, List.nil_append, List.cons_append, List.append_nil, V.int.injEq, V.str.injEq, V.bl.injEq, V.ref.injEq, V.ty.injEq, List.cons.injEq, and_true, true_and, exists_eq_left, exists_eq_left', exists_and_left, exists_eq, exists_const, if_true, if_false, ite_true, ite_false, rd_ss, rd_si, rd_is, rd_ii, rd_bb, Option.some.injEq, exists_eq_right, exists_eq_right', and_assoc, reduceCtorEq, false_and, and_false, false_or, or_false, exists_false]
    refine ⟨⟨by omega, by omega, by decide⟩, by rw [hp2]; omega, by rw [hp2]; omega, ?_⟩
    rw [hp2, Int.toNat_natCast]
    refine cn_range (fun σ => ∃ v, σ = [v, some (.ref c)]) (fun l => (row ++ [l]).map nV) (by omega) ⟨_, rfl⟩ ?_ ?_
    · rintro D3 i3 zs σ H4 hi3 gg hD3 hD3' hl3 hy3 ⟨v, rfl⟩
      simp only [exists_eq', rEqI, rNeI, rInDc, rLenD, rLenT, rDictOf, rMaxL, rIndex, rCatTN, rCatTE, tDNewN, tDNewTN, tDisp1T, rNeM, rRange2, rListRng, rRepN, rPopAt, rSetL, gSub, ipI, tDGet, tDGet2, sDPut, iEnum, iEZ, iZipL, iRng3, tRaise, tTryN, rLeL, rNotInD, iEnum, iZip, rInD, rIxD, rLen, rAll, rAny, rSum, rListOf, rEqS, rNeS, rSlTN, rStrB, tTupN, tLstN, rSlLN, rCatN, cxK, cxP, cxW, tSeq, tIfS, tTest, tB, tOp, tUn, tC, tAnd, tOr, tNot, tAndV, tOrV, tNotV, tIf, tNext, tBreak, tCont, tDrop, tRet, tRetN, gName, gNil, gCons, gTup, tAsg, tPar, tAug, rI, rI0, rU, rEq, rNe, tChain, tNil, tCons, tTup, tLst, tCall, tCB, tNoPart, tPart, tSl, rSlT, rSlL, rSlS, rIxL, rIxT, rIxS, rIn, tBM0, tBM, tyV, rAppend, rExtend, rCat, rZfill, rEqD, iList, iTup, iStr, iRng1, iRng2, tYes, tDisp, tPairs, rd_v0, rd_vS, rd_comp, rd_for, rd_ite_t, rd_ite_f, List.set_cons_zero, List.set_cons_succ, List.nil_append, List.cons_append, List.append_nil, V.int.injEq, V.str.injEq, V.bl.injEq, V.ref.injEq, V.ty.injEq, List.cons.injEq, and_true, true_and, exists_eq_left, exists_eq_left', exists_and_left, exists_eq, exists_const, if_true, if_false, ite_true, ite_false, rd_ss, rd_si, rd_is, rd_ii, rd_bb, Option.some.injEq, exists_eq_right, exists_eq_right', and_assoc, reduceCtorEq, false_and, and_false, false_or, or_false, exists_false]
      refine ⟨small_line (by simp), fun p5 H5 n5 => ⟨_, n5.g _ _ (gg _ _ (g _ _ ec)), _, n5.at', small_line (by rw [List.length_map]; simp; omega), fun p6 H6 n6 => ?_⟩⟩
      refine cn_step (by omega) hi3 hD3 hD3' hl3 hy3 gg (n5.g.trans n6.g) ⟨_, rfl⟩ (fun e => ?_) ?_
      · have := n6.nil
        rw [e, n5.g _ _ hD3'] at this
        cases this
      · rw [n6.at', List.map_append, Int.zero_add]
        rfl
    · intro D3 zs H4 hD3 g4 eD3 hl3 hy3
      have hlen : (longer w (rows.take i)).length ≤ 16 * 16 := by
        rw [longer_len]
        refine Nat.mul_le_mul ?_ hps.2
        rw [List.length_take]
        omega
      refine ⟨D3, rfl, _, g4 _ _ ep, _, eD3, small_line (by rw [py.length]; omega), fun p5 H5 n5 => ⟨g.trans (g4.trans n5.g), _, n5.at', ?_⟩⟩
      rw [List.take_add_one, er, Option.toList_some, longer_snoc]
      refine paired_app (L2.Paired.mapP py fun _ _ h => h.same (g4.trans n5.g)) (paired_ix _ _ (by rw [hl3, List.length_map, List.length_range]) fun j x y e1 e2 => ?_)
      obtain ⟨c', e3, e4, e5⟩ := hy3 j x e1
      rw [List.getElem?_map] at e2
      obtain ⟨z, ez, rfl⟩ := Option.map_eq_some_iff.mp e2
      have hj : j < 2 ^ w := by
        have := (List.getElem?_eq_some_iff.mp e1).1
        omega
      rw [List.getElem?_range hj] at ez
      injection ez with ez
      subst ez
      exact ⟨c', e3, n5.g _ _ e5⟩
  · rintro σ H' ⟨g, p', v3, ys, rfl, ep, py⟩
    rw [pp.length, List.take_of_length_le (Nat.le_refl _)] at py
    simp only [exists_eq', rEqI, rNeI, rInDc, rLenD, rLenT, rDictOf, rMaxL, rIndex, rCatTN, rCatTE, tDNewN, tDNewTN, tDisp1T, rNeM, rRange2, rListRng, rRepN, rPopAt, rSetL, gSub, ipI, tDGet, tDGet2, sDPut, iEnum, iEZ, iZipL, iRng3, tRaise, tTryN, rLeL, rNotInD, iEnum, iZip, rInD, rIxD, rLen, rAll, rAny, rSum, rListOf, rEqS, rNeS, rSlTN, rStrB, tTupN, tLstN, rSlLN, rCatN, cxK, cxP, cxW, tSeq, tIfS, tTest, tB, tOp, tUn, tC, tAnd, tOr, tNot, tAndV, tOrV, tNotV, tIf, tNext, tBreak, tCont, tDrop, tRet, tRetN, gName, gNil, gCons, gTup, tAsg, tPar, tAug, rI, rI0, rU, rEq, rNe, tChain, tNil, tCons, tTup, tLst, tCall, tCB, tNoPart, tPart, tSl, rSlT, rSlL, rSlS, rIxL, rIxT, rIxS, rIn, tBM0, tBM, tyV, rAppend, rExtend, rCat, rZfill, rEqD, iList, iTup, iStr, iRng1, iRng2, tYes, tDisp, tPairs, rd_v0, rd_vS, rd_comp, rd_for, rd_ite_t, rd_ite_f, List.set_cons_zero, List.set_cons_succ, List.nil_append, List.cons_append, List.append_nil, V.int.injEq, V.str.injEq, V.bl.injEq, V.ref.injEq, V.ty.injEq, List.cons.injEq, and_true, true_and, exists_eq_left, exists_eq_left', exists_and_left, exists_eq, exists_const, if_true, if_false, ite_true, ite_false, rd_ss, rd_si, rd_is, rd_ii, rd_bb, Option.some.injEq, exists_eq_right, exists_eq_right', and_assoc, reduceCtorEq, false_and, and_false, false_or, or_false, exists_false]
    exact q p' ys H' g ep py
abbrev s_law_rows : Stmt := top 26
theorem sc_law_rows : FnScope ["_law_width", "_law_most", "_law_rows_here", "_law_last", "_law_k"] ["_law_width", "_law_most"] (defScope s_law_rows) := ⟨rfl, rfl, rfl, by decide +kernel, rfl, by decide +kernel, by decide +kernel⟩
theorem ok_rows (T : Txt K mg cNoNumber cNoRow) (d : Dfn K mg "_law_rows" s_law_rows ["_law_width", "_law_most"]) (C_law_longer : Cal P w K mg base 1 "_law_longer" ["_law_rows_here", "_law_width"] sp_longer) : Cal P w K mg base 2 "_law_rows" ["_law_width", "_law_most"] sp_rowsU := by
  refine d.cal sc_law_rows (fun vs H Q E h => ?_) (fun f cdv A outer s H vs Q E hr h => ?_)
  · obtain ⟨w, k, rfl, _⟩ := h
    rfl
  obtain ⟨w, k, rfl, hwk, hk, hw, q⟩ := h
  refine ⟨_, (pss_cons (ps_set (i := 2) sc_law_rows.nd rfl (Or.inl rfl) (pe_lstN (pa_c (pe_lstN pa_nil) pa_nil))) (pss_cons (ps_set (i := 3) sc_law_rows.nd rfl (Or.inl rfl) (pe_lstN (pa_c (pe_lstN pa_nil) pa_nil))) (pss_cons (ps_for PassesOwn.never rfl (pi_range1 (by rfl) T.b_range (pa_c (pv 1) pa_nil)) (pg_name (i := 4) (show List.Nodup (["_law_width", "_law_most", "_law_rows_here", "_law_last", "_law_k"] : List Str) by decide +kernel) (by rfl) (Or.inl (by rfl))) (pss_cons (ps_set (i := 3) sc_law_rows.nd rfl (Or.inl rfl) (pe_callC C_law_longer hr (by omega) (by rfl) (pa_c (pv 3) (pa_c (pv 0) pa_nil)))) (pss_one (ps_set (i := 2) sc_law_rows.nd rfl (Or.inl rfl) (pe_op op_catN (pv 2) (pv 3)))))) (pss_one (ps_ret (pv 2)))))), ?_⟩
  refine rd_st [some (nV w), some (nV k), none, none, none] rfl ?_
  simp only [exists_eq', rEqI, rNeI, rInDc, rLenD, rLenT, rDictOf, rMaxL, rIndex, rCatTN, rCatTE, tDNewN, tDNewTN, tDisp1T, rNeM, rRange2, rListRng, rRepN, rPopAt, rSetL, gSub, ipI, tDGet, tDGet2, sDPut, iEnum, iEZ, iZipL, iRng3, tRaise, tTryN, rLeL, rNotInD, iEnum, iZip, rInD, rIxD, rLen, rAll, rAny, rSum, rListOf, rEqS, rNeS, rSlTN, rStrB, tTupN, tLstN, rSlLN, rCatN, cxK, cxP, cxW, tSeq, tIfS, tTest, tB, tOp, tUn, tC, tAnd, tOr, tNot, tAndV, tOrV, tNotV, tIf, tNext, tBreak, tCont, tDrop, tRet, tRetN, gName, gNil, gCons, gTup, tAsg, tPar, tAug, rI, rI0, rU, rEq, rNe, tChain, tNil, tCons, tTup, tLst, tCall, tCB, tNoPart, tPart, tSl, rSlT, rSlL, rSlS, rIxL, rIxT, rIxS, rIn, tBM0, tBM, tyV, rAppend, rExtend, rCat, rZfill, rEqD, iList, iTup, iStr, iRng1, iRng2, tYes, tDisp, tPairs, rd_v0, rd_vS, rd_comp, rd_for, rd_ite_t, rd_ite_f, List.set_cons_zero, List.set_cons_succ, List.nil_append, List.cons_append, List.append_nil, V.int.injEq, V.str.injEq, V.bl.injEq, V.ref.injEq, V.ty.injEq, List.cons.injEq, and_true, true_and, exists_eq_left, exists_eq_left', exists_and_left, exists_eq, exists_const, if_true, if_false, ite_true, ite_false, rd_ss, rd_si, rd_is, rd_ii, rd_bb, Option.some.injEq, exists_eq_right, exists_eq_right', and_assoc, reduceCtorEq, false_and, and_false, false_or, or_false, exists_false]
  refine ⟨small_line (by simp), fun e1 H1 n1 => ⟨small_line (by simp), fun p1 H2 n2 => ⟨small_line (by simp), fun e2 H3 n3 => ⟨small_line (by simp), fun p2 H4 n4 => ⟨by omega, by omega, ?_⟩⟩⟩⟩⟩
  rw [Int.toNat_natCast]
  refine fb_range (fun i σ H' => Same H H' ∧ ∃ p' q' v4 ys zs, σ = [some (nV w), some (nV k), some (.ref p'), some (.ref q'), v4] ∧ H' p' = some (.lst ys) ∧ Paired (RowL H') ys (uptoR w i) ∧ H' q' = some (.lst zs) ∧ Paired (RowL H') zs (allR w i))
    ⟨n1.g.trans (n2.g.trans (n3.g.trans n4.g)), p1, p2, none, _, _, rfl, (n3.g.trans n4.g) _ _ n2.at', .cons ⟨e1, rfl, (n2.g.trans (n3.g.trans n4.g)) _ _ n1.at'⟩ .nil, n4.at', .cons ⟨e2, rfl, n4.g _ _ n3.at'⟩ .nil⟩ ?_ ?_
  · rintro i σ H' hi ⟨g, p', q', v4, ys, zs, rfl, ep, py, eq, pz⟩
    have hall : (allR w i).length ≤ 16 := by rw [allR_len]; exact pow16 hw hk hi hwk
    have hall2 : (allR w (i + 1)).length ≤ 256 := by
      have hps := pow_small hw
      rw [allR_len, Nat.pow_succ, ← allR_len]
      exact Nat.mul_le_mul hall hps.2
    have hup : (uptoR w i).length ≤ 300 := upto300 hw hk (by omega) hwk
    simp only [exists_eq', rEqI, rNeI, rInDc, rLenD, rLenT, rDictOf, rMaxL, rIndex, rCatTN, rCatTE, tDNewN, tDNewTN, tDisp1T, rNeM, rRange2, rListRng, rRepN, rPopAt, rSetL, gSub, ipI, tDGet, tDGet2, sDPut, iEnum, iEZ, iZipL, iRng3, tRaise, tTryN, rLeL, rNotInD, iEnum, iZip, rInD, rIxD, rLen, rAll, rAny, rSum, rListOf, rEqS, rNeS, rSlTN, rStrB, tTupN, tLstN, rSlLN, rCatN, cxK, cxP, cxW, tSeq, tIfS, tTest, tB, tOp, tUn, tC, tAnd, tOr, tNot, tAndV, tOrV, tNotV, tIf, tNext, tBreak, tCont, tDrop, tRet, tRetN, gName, gNil, gCons, gTup, tAsg, tPar, tAug, rI, rI0, rU, rEq, rNe, tChain, tNil, tCons, tTup, tLst, tCall, tCB, tNoPart, tPart, tSl, rSlT, rSlL, rSlS, rIxL, rIxT, rIxS, rIn, tBM0, tBM, tyV, rAppend, rExtend, rCat, rZfill, rEqD, iList, iTup, iStr, iRng1, iRng2, tYes, tDisp, tPairs, rd_v0, rd_vS, rd_comp, rd_for, rd_ite_t, rd_ite_f, List.set_cons_zero, List.set_cons_succ, List.nil_append, List.cons_append, List.append_nil, V.int.injEq, V.str.injEq, V.bl.injEq, V.ref.injEq, V.ty.injEq, List.cons.injEq, and_true, true_and, exists_eq_left, exists_eq_left', exists_and_left, exists_eq, exists_const, if_true, if_false, ite_true, ite_false, rd_ss, rd_si, rd_is, rd_ii, rd_bb, Option.some.injEq, exists_eq_right, exists_eq_right', and_assoc, reduceCtorEq, false_and, and_false, false_or, or_false, exists_false]
    refine ⟨q', zs, allR w i, w, rfl, eq, pz, hall, fun row mr => by have := (allR_ok i row mr).1; omega, hw, fun D' zs' H5 g5 e5 p5 => ⟨D', rfl, _, g5 _ _ ep, _, e5, small_line ?_, fun p6 H6 n6 => ?_⟩⟩
    · rw [py.length, p5.length, show longer w (allR w i) = allR w (i + 1) from rfl]; omega
    · exact ⟨g.trans (g5.trans n6.g), D', rfl, _, n6.at', paired_app (L2.Paired.mapP py fun _ _ h => h.same (g5.trans n6.g)) (L2.Paired.mapP p5 fun _ _ h => h.same n6.g), _, n6.g _ _ e5, L2.Paired.mapP p5 fun _ _ h => h.same n6.g⟩
  · rintro σ H' ⟨g, p', q', v4, ys, zs, rfl, ep, py, eq, pz⟩
    simp only [exists_eq', rEqI, rNeI, rInDc, rLenD, rLenT, rDictOf, rMaxL, rIndex, rCatTN, rCatTE, tDNewN, tDNewTN, tDisp1T, rNeM, rRange2, rListRng, rRepN, rPopAt, rSetL, gSub, ipI, tDGet, tDGet2, sDPut, iEnum, iEZ, iZipL, iRng3, tRaise, tTryN, rLeL, rNotInD, iEnum, iZip, rInD, rIxD, rLen, rAll, rAny, rSum, rListOf, rEqS, rNeS, rSlTN, rStrB, tTupN, tLstN, rSlLN, rCatN, cxK, cxP, cxW, tSeq, tIfS, tTest, tB, tOp, tUn, tC, tAnd, tOr, tNot, tAndV, tOrV, tNotV, tIf, tNext, tBreak, tCont, tDrop, tRet, tRetN, gName, gNil, gCons, gTup, tAsg, tPar, tAug, rI, rI0, rU, rEq, rNe, tChain, tNil, tCons, tTup, tLst, tCall, tCB, tNoPart, tPart, tSl, rSlT, rSlL, rSlS, rIxL, rIxT, rIxS, rIn, tBM0, tBM, tyV, rAppend, rExtend, rCat, rZfill, rEqD, iList, iTup, iStr, iRng1, iRng2, tYes, tDisp, tPairs, rd_v0, rd_vS, rd_comp, rd_for, rd_ite_t, rd_ite_f, List.set_cons_zero, List.set_cons_succ, List.nil_append, List.cons_append, List.append_nil, V.int.injEq, V.str.injEq, V.bl.injEq, V.ref.injEq, V.ty.injEq, List.cons.injEq, and_true, true_and, exists_eq_left, exists_eq_left', exists_and_left, exists_eq, exists_const, if_true, if_false, ite_true, ite_false, rd_ss, rd_si, rd_is, rd_ii, rd_bb, Option.some.injEq, exists_eq_right, exists_eq_right', and_assoc, reduceCtorEq, false_and, and_false, false_or, or_false, exists_false]
    exact q p' ys H' g ep py
end
end K38

set_option Elab.async false
set_option linter.all false
set_option maxRecDepth 100000
set_option maxHeartbeats 4000000
namespace K38
open PySem PySem.Spec PyProof.Rows L2 SS SM
abbrev sp_law := sp_lawF
seal PE PT PW PA PS PSs
section
variable {P : Program} {w : World} {K : PySem.W.Frag} {mg : Str → Option Value} {base : Heap} {cNoNumber cNoRow : Addr}
abbrev s_law_one : Stmt := top 29
theorem sc_law_one : FnScope ["_law_machine_here", "_law_length_here", "_law_number", "_law_found", "_law_again", "_law_kept"] ["_law_machine_here", "_law_length_here", "_law_number"] (defScope s_law_one) := ⟨rfl, rfl, rfl, by decide +kernel, rfl, by decide +kernel, by decide +kernel⟩
theorem ok_one (T : Txt K mg cNoNumber cNoRow) (d : Dfn K mg "_law_one" s_law_one ["_law_machine_here", "_law_length_here", "_law_number"]) (C_row_by : CalE P w K mg base 4 "row_by" ["machine", "length", "number"] (sp_rowby cNoNumber)) (C_number_of : CalE P w K mg base 3 "number_of" ["machine", "row"] (sp_numof K cNoRow)) (C_law_takes : Cal P w K mg base 2 "_law_takes" ["_law_machine_here", "_law_row"] (sp_takesL K)) : Cal P w K mg base 5 "_law_one" ["_law_machine_here", "_law_length_here", "_law_number"] sp_one := by
  refine d.cal sc_law_one (fun vs H Q E h => ?_) (fun f cdv A outer s H vs Q E hr h => ?_)
  · obtain ⟨a, m, L, n, rfl, _⟩ := h
    rfl
  obtain ⟨a, m, L, n, rfl, rm, ok, hL, hn, q⟩ := h
  have hu := hu_at hr 8 (by decide)
  refine ⟨_, (pss_cons (ps_set (i := 3) sc_law_one.nd rfl (Or.inl rfl) (pe_callEn C_row_by hr (by omega) (by rfl) (pa_c (pv 0) (pa_c (pv 1) (pa_c (pv 2) pa_nil))))) (pss_cons (ps_if (PW.pt (pw_or (pt_not (pt_val (pe_cB call_isk (by rfl) T.b_isinstance boot_isinstance (pa_c (pv 3) (pa_c (pe_bltn (v := .ty "list") (by rfl) T.b_list boot_list (by rfl)) pa_nil))))) (pw_or (pt_cmpR op_ne (pe_cB (call_len_seqK K) (by rfl) T.b_len boot_len (pa_c (pv 3) pa_nil)) (pv 1) (nomark _)) (pw_or1 (pt_not (pt_val (pe_callC C_law_takes hr (by omega) (by rfl) (pa_c (pv 0) (pa_c (pv 3) pa_nil))))))))) (pss_one (ps_ret pe_non)) pss_nil) (pss_cons (ps_if (pt_not (pt_val (pe_cB (call_all_blK K rfl) (by rfl) T.b_all boot_all (pa_c (pe_lcomp ["_law_letter"] [(0, "_law_machine_here")] (CompOk.of rfl (by rfl) (by rfl)) (by rfl) (pi_listK K (pv 3)) (fun _ _ _ _ _ => (pg_name (i := 0) (show List.Nodup (["_law_letter", "_law_machine_here"] : List Str) by decide +kernel) (by rfl) (Or.inl (by rfl)))) (fun _ _ _ _ _ => pf_nil) (fun _ _ _ _ _ => (pe_and (pe_cB call_isk (by rfl) T.b_isinstance boot_isinstance (pa_c (pv 0) (pa_c (pe_bltn (v := .ty "int") (by rfl) T.b_int boot_int (by rfl)) pa_nil))) (pe_one (pe_chain op_le op_lt pe_int (pv 0) (pe_op op_shl pe_int (pe_ix (ix_tupK K) (pv 1) pe_int (fun _ _ => rfl)))))))) pa_nil)))) (pss_one (ps_ret pe_non)) pss_nil) (pss_cons (ps_set (i := 4) sc_law_one.nd rfl (Or.inl rfl) (pe_callEn C_number_of hr (by omega) (by rfl) (pa_c (pv 0) (pa_c (pe_cTy (call_list_ofNK K) (by rfl) T.b_list boot_list (pa_c (pv 3) pa_nil)) pa_nil)))) (pss_cons (ps_if (PW.pt (pw_or (pt_cmpR op_ne (pv 4) (pv 2) (nomark _)) (pw_or1 (pt_val (pe_cB call_isk (by rfl) T.b_isinstance boot_isinstance (pa_c (pv 4) (pa_c (pe_bltn (v := .ty "bool") (by rfl) T.b_bool boot_bool (by rfl)) pa_nil))))))) (pss_one (ps_ret pe_non)) pss_nil) (pss_cons (ps_set (i := 5) sc_law_one.nd rfl (Or.inl rfl) (pe_cTy (call_list_ofNK K) (by rfl) T.b_list boot_list (pa_c (pv 3) pa_nil))) (pss_cons (ps_expr (pe_bmK K PySem.F.plainAttrs_list PySem.F.slot_list_append PySem.F.type_list_append mt_append (pv 3) (pa_c pe_int pa_nil))) (pss_cons (ps_if (pt_cmpR (op_neIK K hu) (pe_callEn C_row_by hr (by omega) (by rfl) (pa_c (pv 0) (pa_c (pv 1) (pa_c (pv 2) pa_nil)))) (pv 5) (nomark _)) (pss_one (ps_ret pe_non)) pss_nil) (pss_one (ps_ret (pv 5))))))))))), ?_⟩
  refine rd_st [some (.ref a), some (nV L), some (nV n), none, none, none] rfl ?_
  simp only [exists_eq', rEqI, rNeI, rInDc, rLenD, rLenT, rDictOf, rMaxL, rIndex, rCatTN, rCatTE, tDNewN, tDNewTN, tDisp1T, rNeM, rRange2, rListRng, rRepN, rPopAt, rSetL, gSub, ipI, tDGet, tDGet2, sDPut, iEnum, iEZ, iZipL, iRng3, tRaise, tTryN, rLeL, rNotInD, iEnum, iZip, rInD, rIxD, rLen, rAll, rAny, rSum, rListOf, rEqS, rNeS, rSlTN, rStrB, tTupN, tLstN, rSlLN, rCatN, cxK, cxP, cxW, tSeq, tIfS, tTest, tB, tOp, tUn, tC, tAnd, tOr, tNot, tAndV, tOrV, tNotV, tIf, tNext, tBreak, tCont, tDrop, tRet, tRetN, gName, gNil, gCons, gTup, tAsg, tPar, tAug, rI, rI0, rU, rEq, rNe, tChain, tNil, tCons, tTup, tLst, tCall, tCB, tNoPart, tPart, tSl, rSlT, rSlL, rSlS, rIxL, rIxT, rIxS, rIn, tBM0, tBM, tyV, rAppend, rExtend, rCat, rZfill, rEqD, iList, iTup, iStr, iRng1, iRng2, tYes, tDisp, tPairs, rd_v0, rd_vS, rd_comp, rd_for, rd_ite_t, rd_ite_f, List.set_cons_zero, List.set_cons_succ, List.nil_append, List.cons_append, List.append_nil, V.int.injEq, V.str.injEq, V.bl.injEq, V.ref.injEq, V.ty.injEq, List.cons.injEq, and_true, true_and, exists_eq_left, exists_eq_left', exists_and_left, exists_eq, exists_const, if_true, if_false, ite_true, ite_false, rd_ss, rd_si, rd_is, rd_ii, rd_bb, Option.some.injEq, exists_eq_right, exists_eq_right', and_assoc, reduceCtorEq, false_and, and_false, false_or, or_false, exists_false]
  refine ⟨a, m, _, _, rfl, rm, ok, .inl ⟨L, n, rfl, rfl, hL, hn, fun D u H1 hD g1 eD N => ?_⟩⟩
  have hNl := N.len
  refine ⟨_, .lst eD, by decide, iteF ⟨D, rfl, _, .inl (.of eD), ?_⟩⟩
  rw [List.length_map, hNl, show (!decide ((L : Int) = (L : Int))) = false by simp]
  refine iteF ⟨a, D, m, u, rfl, rm.same g1, ok, .of eD, N.row, by omega, _, rfl, ?_⟩
  rw [N.acc]
  obtain ⟨b1, c1, rs, ea, eb, pr, ec⟩ := id rm
  refine iteF ⟨D, rfl, ⟨_, .of eD⟩, cm_list (K := K) (a := D) (xs := u.map nV) (fun σ => ∃ v, σ = [v, some (.ref a)]) (fun _ => .bl true) (by rw [List.length_map]; omega) (.of eD) ⟨_, rfl⟩ ?_ ?_⟩
  · rintro D3 i σ H3 x hi hm hx gg hD3 hD3' ⟨v, rfl⟩
    obtain ⟨l, ml, rfl⟩ := List.mem_map.mp hm
    have hl := N.row l ml
    have hp2 : (1 : Int) * 2 ^ ((m.w : Nat) : Int).toNat = ((2 ^ m.w : Nat) : Int) := by rw [Int.one_mul, pow_nat]; rfl
    have hwid := ok.wid
    simp only [exists_eq', rEqI, rNeI, rInDc, rLenD, rLenT, rDictOf, rMaxL, rIndex, rCatTN, rCatTE, tDNewN, tDNewTN, tDisp1T, rNeM, rRange2, rListRng, rRepN, rPopAt, rSetL, gSub, ipI, tDGet, tDGet2, sDPut, iEnum, iEZ, iZipL, iRng3, tRaise, tTryN, rLeL, rNotInD, iEnum, iZip, rInD, rIxD, rLen, rAll, rAny, rSum, rListOf, rEqS, rNeS, rSlTN, rStrB, tTupN, tLstN, rSlLN, rCatN, cxK, cxP, cxW, tSeq, tIfS, tTest, tB, tOp, tUn, tC, tAnd, tOr, tNot, tAndV, tOrV, tNotV, tIf, tNext, tBreak, tCont, tDrop, tRet, tRetN, gName, gNil, gCons, gTup, tAsg, tPar, tAug, rI, rI0, rU, rEq, rNe, tChain, tNil, tCons, tTup, tLst, tCall, tCB, tNoPart, tPart, tSl, rSlT, rSlL, rSlS, rIxL, rIxT, rIxS, rIn, tBM0, tBM, tyV, rAppend, rExtend, rCat, rZfill, rEqD, iList, iTup, iStr, iRng1, iRng2, tYes, tDisp, tPairs, rd_v0, rd_vS, rd_comp, rd_for, rd_ite_t, rd_ite_f, List.set_cons_zero, List.set_cons_succ, List.nil_append, List.cons_append, List.append_nil, V.int.injEq, V.str.injEq, V.bl.injEq, V.ref.injEq, V.ty.injEq, List.cons.injEq, and_true, true_and, exists_eq_left, exists_eq_left', exists_and_left, exists_eq, exists_const, if_true, if_false, ite_true, ite_false, rd_ss, rd_si, rd_is, rd_ii, rd_bb, Option.some.injEq, exists_eq_right, exists_eq_right', and_assoc, reduceCtorEq, false_and, and_false, false_or, or_false, exists_false]
    refine ⟨_, .int _, by decide, iteT ?_⟩
    rw [decide_eq_true (by omega)]
    refine iteT ⟨_, .of ((g1.trans gg) _ _ ea), _, atI_0, _, rfl, ⟨by omega, by omega, by decide⟩, ?_⟩
    exact cm_step (by rw [List.length_map]; omega) hx hD3 hD3' gg ⟨_, rfl⟩ (by rw [hp2, decide_eq_true (by omega)])
  intro D3 H3 hD3 g3 eD3
  have eD3' : H3 D3 = some (.lst ((u.map fun _ => true).map V.bl)) := by rw [eD3, List.map_map, List.map_map]; rfl
  refine ⟨D3, rfl, _, .of eD3', ?_⟩
  rw [show (!(u.map fun _ => true).all id) = false by simp]
  refine iteF ⟨D, rfl, _, .inl (.of (g3 _ _ eD)), fun l5 H5 n5 => ⟨a, l5, m, u, rfl, rm.same (g1.trans (g3.trans n5.g)), ok, n5.lst, N.row, by omega, .inl ⟨by omega, N.acc, fun H6 g6 => ⟨rfl, ?_⟩⟩⟩⟩
  rw [N.num, show (!decide (nV n = nV n)) = false by simp]
  have g16 : Same H1 H6 := g3.trans (n5.g.trans g6)
  refine iteF ⟨_, .int _, by decide, iteF ⟨D, rfl, _, .inl (.of (g16 _ _ eD)), fun l7 H7 n7 => ⟨.inl ⟨_, .of ((g16.trans n7.g) _ _ eD)⟩, D, rfl, _, (g16.trans n7.g) _ _ eD, small1000 (by rw [List.length_map]; omega), a, m, _, _, rfl, rm.same ((g1.trans (g16.trans n7.g)).wr hD _), ok, .inl ⟨L, n, rfl, rfl, hL, hn, fun D8 u8 H8 hD8 g8 e8 N8 => ?_⟩⟩⟩⟩
  have eu : u8 = u := N8.one ok N
  subst eu
  have hne : l7 ≠ D := fun e => by
    have := n7.nil
    rw [e, g16 _ _ eD] at this
    cases this
  have el7 : H8 l7 = some (.lst (u8.map nV)) := g8 _ _ (by rw [upd_ne hne]; exact n7.at')
  refine ⟨D8, rfl, u8.map (fun (n : Nat) => (n : Int)), .of (by rw [← map_nV]; exact e8), u8.map (fun (n : Nat) => (n : Int)), .of (by rw [← map_nV]; exact el7), ?_⟩
  rw [show (!decide ((u8.map fun (n : Nat) => (n : Int)) = (u8.map fun (n : Nat) => (n : Int)))) = false by simp]
  exact iteF (q l7 u8 H8 ((g1.trans g16).free n7.nil) (((g1.trans (g16.trans n7.g)).wr hD _).trans g8) el7 N)
abbrev s_law_length : Stmt := top 30
theorem sc_law_length : FnScope ["_law_machine_here", "_law_length_here", "_law_cell", "_law_many", "_law_odd", "_law_number", "_law_row", "_law_behind"] ["_law_machine_here", "_law_length_here", "_law_cell"] (defScope s_law_length) := ⟨rfl, rfl, rfl, by decide +kernel, rfl, by decide +kernel, by decide +kernel⟩
theorem ok_lengthK (T : Txt K mg cNoNumber cNoRow) (d : Dfn K mg "_law_length" s_law_length ["_law_machine_here", "_law_length_here", "_law_cell"]) (C_how_many : CalE P w K mg base 4 "how_many" ["machine", "length"] (sp_many cNoNumber)) (C_law_row_refused : Cal P w K mg base 5 "_law_row_refused" ["_law_machine_here", "_law_length_here", "_law_number"] sp_rowref) (C_law_one : Cal P w K mg base 5 "_law_one" ["_law_machine_here", "_law_length_here", "_law_number"] sp_one) : Cal P w K mg base 6 "_law_length" ["_law_machine_here", "_law_length_here", "_law_cell"] sp_lengthK := by
  refine d.cal sc_law_length (fun vs H Q E h => ?_) (fun f cdv A outer s H vs Q E hr h => ?_)
  · obtain ⟨a, m, L, c, rfl, _⟩ := h
    rfl
  obtain ⟨a, m, L, c, rfl, rm, ok, hL, q⟩ := h
  have hu := hu_at hr 8 (by decide)
  refine ⟨_, (pss_cons (ps_set (i := 3) sc_law_length.nd rfl (Or.inl rfl) (pe_callEn C_how_many hr (by omega) (by rfl) (pa_c (pv 0) (pa_c (pv 1) pa_nil)))) (pss_cons (ps_if (PW.pt (pw_or (pt_not (pt_val (pe_callC C_law_row_refused hr (by omega) (by rfl) (pa_c (pv 0) (pa_c (pv 1) (pa_c (pv 3) pa_nil)))))) (pw_or1 (pt_not (pt_val (pe_callC C_law_row_refused hr (by omega) (by rfl) (pa_c (pv 0) (pa_c (pv 1) (pa_c (pe_un un_neg pe_int) pa_nil))))))))) (pss_one (ps_ret pe_bl)) pss_nil) (pss_cons (ps_set (i := 4) sc_law_length.nd rfl (Or.inl rfl) (pe_ix (ix_listK K) (pe_lstN (pa_c pe_bl (pa_c pe_bl (pa_c pe_non (pa_c pe_str (pa_c (pe_lstN (pa_c pe_int pa_nil)) pa_nil)))))) (pe_op op_mod (pv 2) pe_int) (fun _ _ => rfl))) (pss_cons (ps_if (PW.pt (pw_or (pt_not (pt_val (pe_callC C_law_row_refused hr (by omega) (by rfl) (pa_c (pv 0) (pa_c (pv 1) (pa_c (pv 4) pa_nil)))))) (pw_or1 (pt_not (pt_val (pe_callC C_law_row_refused hr (by omega) (by rfl) (pa_c (pv 0) (pa_c (pv 4) (pa_c pe_int pa_nil))))))))) (pss_one (ps_ret pe_bl)) pss_nil) (pss_cons (ps_if (pt_cmpR op_eq (pv 3) pe_int (nomark _)) (pss_one (ps_ret pe_bl)) pss_nil) (pss_cons (ps_for PassesOwn.never rfl (pi_listK K (pe_lstN (pa_c pe_int (pa_c (pe_op op_sub (pv 3) pe_int) (pa_c (pe_op op_mod (pv 2) (pv 3)) pa_nil))))) (pg_name (i := 5) (show List.Nodup (["_law_machine_here", "_law_length_here", "_law_cell", "_law_many", "_law_odd", "_law_number", "_law_row", "_law_behind"] : List Str) by decide +kernel) (by rfl) (Or.inl (by rfl))) (pss_cons (ps_set (i := 6) sc_law_length.nd rfl (Or.inl rfl) (pe_callC C_law_one hr (by omega) (by rfl) (pa_c (pv 0) (pa_c (pv 1) (pa_c (pv 5) pa_nil))))) (pss_cons (ps_if (pt_cmpR op_isN (pv 6) pe_non (nomark _)) (pss_one (ps_ret pe_bl)) pss_nil) (pss_one (ps_if (pt_cmpR op_lt (pe_op op_add (pv 5) pe_int) (pv 3) (nomark _)) (pss_cons (ps_set (i := 7) sc_law_length.nd rfl (Or.inl rfl) (pe_callC C_law_one hr (by omega) (by rfl) (pa_c (pv 0) (pa_c (pv 1) (pa_c (pe_op op_add (pv 5) pe_int) pa_nil))))) (pss_one (ps_if (PW.pt (pw_or (pt_cmpR op_isN (pv 7) pe_non (nomark _)) (pw_or1 (pt_cmpR (op_leL hu) (pv 7) (pv 6) (nomark _))))) (pss_one (ps_ret pe_bl)) pss_nil))) pss_nil))))) (pss_one (ps_ret pe_bl)))))))), ?_⟩
  refine rd_st [some (.ref a), some (nV L), some (.int c), none, none, none, none, none] rfl ?_
  simp only [exists_eq', rEqI, rNeI, rInDc, rLenD, rLenT, rDictOf, rMaxL, rIndex, rCatTN, rCatTE, tDNewN, tDNewTN, tDisp1T, rNeM, rRange2, rListRng, rRepN, rPopAt, rSetL, gSub, ipI, tDGet, tDGet2, sDPut, iEnum, iEZ, iZipL, iRng3, tRaise, tTryN, rLeL, rNotInD, iEnum, iZip, rInD, rIxD, rLen, rAll, rAny, rSum, rListOf, rEqS, rNeS, rSlTN, rStrB, tTupN, tLstN, rSlLN, rCatN, cxK, cxP, cxW, tSeq, tIfS, tTest, tB, tOp, tUn, tC, tAnd, tOr, tNot, tAndV, tOrV, tNotV, tIf, tNext, tBreak, tCont, tDrop, tRet, tRetN, gName, gNil, gCons, gTup, tAsg, tPar, tAug, rI, rI0, rU, rEq, rNe, tChain, tNil, tCons, tTup, tLst, tCall, tCB, tNoPart, tPart, tSl, rSlT, rSlL, rSlS, rIxL, rIxT, rIxS, rIn, tBM0, tBM, tyV, rAppend, rExtend, rCat, rZfill, rEqD, iList, iTup, iStr, iRng1, iRng2, tYes, tDisp, tPairs, rd_v0, rd_vS, rd_comp, rd_for, rd_ite_t, rd_ite_f, List.set_cons_zero, List.set_cons_succ, List.nil_append, List.cons_append, List.append_nil, V.int.injEq, V.str.injEq, V.bl.injEq, V.ref.injEq, V.ty.injEq, List.cons.injEq, and_true, true_and, exists_eq_left, exists_eq_left', exists_and_left, exists_eq, exists_const, if_true, if_false, ite_true, ite_false, rd_ss, rd_si, rd_is, rd_ii, rd_bb, Option.some.injEq, exists_eq_right, exists_eq_right', and_assoc, reduceCtorEq, false_and, and_false, false_or, or_false, exists_false]
  refine ⟨a, m, _, rfl, rm, ok, .inl ⟨L, rfl, hL, fun H1 g1 => ?_⟩⟩
  have c0 := Int.emod_nonneg c (show (5 : Int) ≠ 0 by decide)
  have c1 := Int.emod_lt_of_pos c (show (0 : Int) < 5 by decide)
  refine ⟨a, m, _, _, rfl, rm.same g1, ok, .inr ⟨L, rfl, hL, .inl ⟨_, rfl, by omega⟩⟩, fun H2 g2 => ⟨_, rfl, iteF ⟨a, m, _, _, rfl, rm.same (g1.trans g2), ok, .inr ⟨L, rfl, hL, .inl ⟨_, rfl, by omega⟩⟩, fun H3 g3 => ⟨_, rfl, iteF ⟨small_line (by simp), fun p4 H4 n4 => ⟨small_line (by simp), fun p5 H5 n5 => ⟨by decide, ?_⟩⟩⟩⟩⟩⟩⟩
  obtain ⟨v, ev, k, kd, nk⟩ : ∃ v, atI [V.bl true, V.bl false, V.non, V.str (Str.ofString "0"), V.ref p4] (c % 5) = some v ∧ ∃ k, Kd H5 v k ∧ k ≠ "int" := by
    have hj : c % 5 = 0 ∨ c % 5 = 1 ∨ c % 5 = 2 ∨ c % 5 = 3 ∨ c % 5 = 4 := by omega
    rcases hj with e | e | e | e | e <;> rw [e]
    · exact ⟨_, atI_0, _, .bl _, by decide⟩
    · exact ⟨_, atI_nat (j := 1) rfl, _, .bl _, by decide⟩
    · exact ⟨_, atI_nat (j := 2) rfl, _, .non, by decide⟩
    · exact ⟨_, atI_nat (j := 3) rfl, _, .str _, by decide⟩
    · exact ⟨_, atI_nat (j := 4) rfl, _, .lst (n5.g _ _ n4.at'), by decide⟩
  have g5 : Same H H5 := g1.trans (g2.trans (g3.trans (n4.g.trans n5.g)))
  refine ⟨_, n5.lst, v, ev, a, m, _, v, rfl, rm.same g5, ok, .inr ⟨L, rfl, hL, .inr ⟨k, kd, nk⟩⟩, fun H6 g6 => ⟨_, rfl, iteF ⟨a, m, v, _, rfl, rm.same (g5.trans g6), ok, .inl (NoLen.same (.inr ⟨k, kd, nk⟩) g6), fun H7 g7 => ⟨_, rfl, iteF ⟨rfl, ?_⟩⟩⟩⟩⟩
  have g07 : Same H H7 := g5.trans (g6.trans g7)
  by_cases hz : cnt m L 0 = 0
  · rw [decide_eq_true (by rw [hz]; rfl)]
    exact iteT (q H7 g07)
  · rw [decide_eq_false (fun e => hz (by injection e with e; omega))]
    have hc0 := Int.emod_nonneg c (show ((cnt m L 0 : Nat) : Int) ≠ 0 by omega)
    have hc1 := Int.emod_lt_of_pos c (show (0 : Int) < ((cnt m L 0 : Nat) : Int) by omega)
    refine iteF ⟨_, rfl, _, rfl, by omega, small_line (by simp), fun p8 H8 n8 => ?_⟩
    have el : [V.int 0, V.int (((cnt m L 0 : Nat) : Int) - 1), V.int (c % ((cnt m L 0 : Nat) : Int))] = ([0, cnt m L 0 - 1, (c % ((cnt m L 0 : Nat) : Int)).toNat] : List Nat).map nV := by
      show _ = [V.int 0, V.int ((cnt m L 0 - 1 : Nat) : Int), V.int (((c % ((cnt m L 0 : Nat) : Int)).toNat : Nat) : Int)]
      rw [Int.toNat_of_nonneg hc0, show ((cnt m L 0 - 1 : Nat) : Int) = ((cnt m L 0 : Nat) : Int) - 1 by omega]
    rw [el] at n8
    have hNs : ∀ x ∈ ([0, cnt m L 0 - 1, (c % ((cnt m L 0 : Nat) : Int)).toNat] : List Nat), x < cnt m L 0 := fun x hx => by
      simp only [List.mem_cons, List.not_mem_nil, or_false] at hx
      omega
    generalize ([0, cnt m L 0 - 1, (c % ((cnt m L 0 : Nat) : Int)).toNat] : List Nat) = Ns at n8 hNs
    have g08 : Same H H8 := g07.trans n8.g
    refine ⟨⟨_, n8.lst⟩, fb_list (K := K) (a := p8) (xs := Ns.map nV) (fun i σ H' => Same H8 H' ∧ ∃ v5 v6 v7, σ = [some (.ref a), some (nV L), some (.int c), some (nV (cnt m L 0)), some v, v5, v6, v7]) ⟨Same.refl _, _, _, _, rfl⟩ (fun i σ H' _ z => z.1.seq n8.lst) ?_ ?_⟩
    · rintro i y σ H' hy ⟨g, v5, v6, v7, rfl⟩
      rw [List.getElem?_map] at hy
      obtain ⟨x, ex, rfl⟩ := Option.map_eq_some_iff.mp hy
      have hx := hNs x (List.mem_of_getElem? ex)
      simp only [exists_eq', rEqI, rNeI, rInDc, rLenD, rLenT, rDictOf, rMaxL, rIndex, rCatTN, rCatTE, tDNewN, tDNewTN, tDisp1T, rNeM, rRange2, rListRng, rRepN, rPopAt, rSetL, gSub, ipI, tDGet, tDGet2, sDPut, iEnum, iEZ, iZipL, iRng3, tRaise, tTryN, rLeL, rNotInD, iEnum, iZip, rInD, rIxD, rLen, rAll, rAny, rSum, rListOf, rEqS, rNeS, rSlTN, rStrB, tTupN, tLstN, rSlLN, rCatN, cxK, cxP, cxW, tSeq, tIfS, tTest, tB, tOp, tUn, tC, tAnd, tOr, tNot, tAndV, tOrV, tNotV, tIf, tNext, tBreak, tCont, tDrop, tRet, tRetN, gName, gNil, gCons, gTup, tAsg, tPar, tAug, rI, rI0, rU, rEq, rNe, tChain, tNil, tCons, tTup, tLst, tCall, tCB, tNoPart, tPart, tSl, rSlT, rSlL, rSlS, rIxL, rIxT, rIxS, rIn, tBM0, tBM, tyV, rAppend, rExtend, rCat, rZfill, rEqD, iList, iTup, iStr, iRng1, iRng2, tYes, tDisp, tPairs, rd_v0, rd_vS, rd_comp, rd_for, rd_ite_t, rd_ite_f, List.set_cons_zero, List.set_cons_succ, List.nil_append, List.cons_append, List.append_nil, V.int.injEq, V.str.injEq, V.bl.injEq, V.ref.injEq, V.ty.injEq, List.cons.injEq, and_true, true_and, exists_eq_left, exists_eq_left', exists_and_left, exists_eq, exists_const, if_true, if_false, ite_true, ite_false, rd_ss, rd_si, rd_is, rd_ii, rd_bb, Option.some.injEq, exists_eq_right, exists_eq_right', and_assoc, reduceCtorEq, false_and, and_false, false_or, or_false, exists_false]
      refine ⟨a, m, L, x, rfl, rm.same (g08.trans g), ok, hL, hx, fun D u H9 hD g9 eD N => ?_⟩
      show (if decide (V.ref D = V.non) = true then _ else _)
      rw [show decide (V.ref D = V.non) = false by simp]
      refine iteF ?_
      by_cases hx1 : x + 1 < cnt m L 0
      · rw [decide_eq_true (by omega)]
        refine iteT ⟨a, m, L, x + 1, rfl, rm.same (g08.trans (g.trans g9)), ok, hL, hx1, fun D' u' H10 hD' g10 eD' N' => ?_⟩
        obtain ⟨j, pj, qj, e1, e2, e3, e4⟩ := (N.bef ok N' (Nat.lt_succ_self x)).first
        show (if decide (V.ref D' = V.non) = true then _ else _)
        rw [show decide (V.ref D' = V.non) = false by simp]
        refine iteF ⟨D', rfl, D, rfl, u'.map (fun (n : Nat) => (n : Int)), .of (by rw [← map_nV]; exact eD'), u.map (fun (n : Nat) => (n : Int)), .of (by rw [← map_nV]; exact g10 _ _ eD), j, by rw [← List.map_take, ← List.map_take, e1], (qj : Int), by rw [List.getElem?_map, e3]; rfl, (pj : Int), by rw [List.getElem?_map, e2]; rfl, by omega, ?_⟩
        rw [decide_eq_false (by omega)]
        exact iteF (g.trans (g9.trans g10))
      · rw [decide_eq_false (by omega)]
        exact iteF (g.trans g9)
    · rintro σ H' ⟨g, v5, v6, v7, rfl⟩
      simp only [exists_eq', rEqI, rNeI, rInDc, rLenD, rLenT, rDictOf, rMaxL, rIndex, rCatTN, rCatTE, tDNewN, tDNewTN, tDisp1T, rNeM, rRange2, rListRng, rRepN, rPopAt, rSetL, gSub, ipI, tDGet, tDGet2, sDPut, iEnum, iEZ, iZipL, iRng3, tRaise, tTryN, rLeL, rNotInD, iEnum, iZip, rInD, rIxD, rLen, rAll, rAny, rSum, rListOf, rEqS, rNeS, rSlTN, rStrB, tTupN, tLstN, rSlLN, rCatN, cxK, cxP, cxW, tSeq, tIfS, tTest, tB, tOp, tUn, tC, tAnd, tOr, tNot, tAndV, tOrV, tNotV, tIf, tNext, tBreak, tCont, tDrop, tRet, tRetN, gName, gNil, gCons, gTup, tAsg, tPar, tAug, rI, rI0, rU, rEq, rNe, tChain, tNil, tCons, tTup, tLst, tCall, tCB, tNoPart, tPart, tSl, rSlT, rSlL, rSlS, rIxL, rIxT, rIxS, rIn, tBM0, tBM, tyV, rAppend, rExtend, rCat, rZfill, rEqD, iList, iTup, iStr, iRng1, iRng2, tYes, tDisp, tPairs, rd_v0, rd_vS, rd_comp, rd_for, rd_ite_t, rd_ite_f, List.set_cons_zero, List.set_cons_succ, List.nil_append, List.cons_append, List.append_nil, V.int.injEq, V.str.injEq, V.bl.injEq, V.ref.injEq, V.ty.injEq, List.cons.injEq, and_true, true_and, exists_eq_left, exists_eq_left', exists_and_left, exists_eq, exists_const, if_true, if_false, ite_true, ite_false, rd_ss, rd_si, rd_is, rd_ii, rd_bb, Option.some.injEq, exists_eq_right, exists_eq_right', and_assoc, reduceCtorEq, false_and, and_false, false_or, or_false, exists_false]
      exact q H' (g08.trans g)
abbrev s_law_short : Stmt := top 31
theorem sc_law_short : FnScope ["_law_machine_here", "_law_length_here", "_law_rows_here", "_law_taken", "_law_row"] ["_law_machine_here", "_law_length_here"] (defScope s_law_short) := ⟨rfl, rfl, rfl, by decide +kernel, rfl, by decide +kernel, by decide +kernel⟩
theorem ok_shortK (T : Txt K mg cNoNumber cNoRow) (d : Dfn K mg "_law_short" s_law_short ["_law_machine_here", "_law_length_here"]) (C_law_rows : Cal P w K mg base 2 "_law_rows" ["_law_width", "_law_most"] sp_rowsU) (C_law_takes : Cal P w K mg base 2 "_law_takes" ["_law_machine_here", "_law_row"] (sp_takesL K)) (C_law_one : Cal P w K mg base 5 "_law_one" ["_law_machine_here", "_law_length_here", "_law_number"] sp_one)
    (C_law_number_refused : Cal P w K mg base 4 "_law_number_refused" ["_law_machine_here", "_law_row"] (sp_numref K)) : Cal P w K mg base 6 "_law_short" ["_law_machine_here", "_law_length_here"] sp_shortK := by
  refine d.cal sc_law_short (fun vs H Q E h => ?_) (fun f cdv A outer s H vs Q E hr h => ?_)
  · obtain ⟨a, m, L, rfl, _⟩ := h
    rfl
  obtain ⟨a, m, L, rfl, rm, ok, hL, q⟩ := h
  obtain ⟨b1, c1, rs, ea, eb, pr, ec⟩ := id rm
  have hu := hu_at hr 8 (by decide)
  refine ⟨_, (pss_cons (ps_setC (i := 2) sc_law_short.nd rfl (Or.inl rfl) ["_law_row"] [(1, "_law_length_here")] (CompOk.of rfl (by rfl) (by rfl)) (by rfl) (pi_listK K (pe_callC C_law_rows hr (by omega) (by rfl) (pa_c (pe_ix (ix_tupK K) (pv 0) pe_int (fun _ _ => rfl)) (pa_c pe_int pa_nil)))) (fun _ _ _ _ _ => (pg_name (i := 0) (show List.Nodup (["_law_row", "_law_length_here"] : List Str) by decide +kernel) (by rfl) (Or.inl (by rfl)))) (fun _ _ _ _ _ => (pf_one (pt_cmpR op_eq (pe_cB (call_len_seqK K) (by rfl) T.b_len boot_len (pa_c (pv 0) pa_nil)) (pv 1) (nomark _)))) (fun _ _ _ _ _ => (pv 0))) (pss_cons (ps_setC (i := 3) sc_law_short.nd rfl (Or.inl rfl) ["_law_row"] [(0, "_law_machine_here")] (CompOk.of rfl (by rfl) (by rfl)) (by rfl) (pi_listK K (pv 2)) (fun _ _ _ _ _ => (pg_name (i := 0) (show List.Nodup (["_law_row", "_law_machine_here"] : List Str) by decide +kernel) (by rfl) (Or.inl (by rfl)))) (fun _ _ _ _ _ => (pf_one (pt_val (pe_callC C_law_takes hr (by omega) (by rfl) (pa_c (pv 1) (pa_c (pv 0) pa_nil)))))) (fun _ _ _ _ _ => (pv 0))) (pss_cons (ps_if (pt_cmpR (op_neM hu) (pe_lcomp ["_law_number"] [(0, "_law_machine_here"), (1, "_law_length_here")] (CompOk.of rfl (by rfl) (by rfl)) (by rfl) (pi_range1 (by rfl) T.b_range (pa_c (pe_cB (call_len_seqK K) (by rfl) T.b_len boot_len (pa_c (pv 3) pa_nil)) pa_nil)) (fun _ _ _ _ _ => (pg_name (i := 0) (show List.Nodup (["_law_number", "_law_machine_here", "_law_length_here"] : List Str) by decide +kernel) (by rfl) (Or.inl (by rfl)))) (fun _ _ _ _ _ => pf_nil) (fun _ _ _ _ _ => (pe_callC C_law_one hr (by omega) (by rfl) (pa_c (pv 1) (pa_c (pv 2) (pa_c (pv 0) pa_nil)))))) (pv 3) (nomark _)) (pss_one (ps_ret pe_bl)) pss_nil) (pss_cons (ps_for PassesOwn.never rfl (pi_listK K (pv 2)) (pg_name (i := 4) (show List.Nodup (["_law_machine_here", "_law_length_here", "_law_rows_here", "_law_taken", "_law_row"] : List Str) by decide +kernel) (by rfl) (Or.inl (by rfl))) (pss_one (ps_if (PW.pt (pw_and (pt_cmpR (op_notInD hu) (pv 4) (pv 3) (by with_unfolding_all rfl)) (pw_and1 (pt_not (pt_val (pe_callC C_law_number_refused hr (by omega) (by rfl) (pa_c (pv 0) (pa_c (pv 4) pa_nil)))))))) (pss_one (ps_ret pe_bl)) pss_nil))) (pss_one (ps_ret pe_bl)))))), ?_⟩
  refine rd_st [some (.ref a), some (nV L), none, none, none] rfl ?_
  simp only [exists_eq', rEqI, rNeI, rInDc, rLenD, rLenT, rDictOf, rMaxL, rIndex, rCatTN, rCatTE, tDNewN, tDNewTN, tDisp1T, rNeM, rRange2, rListRng, rRepN, rPopAt, rSetL, gSub, ipI, tDGet, tDGet2, sDPut, iEnum, iEZ, iZipL, iRng3, tRaise, tTryN, rLeL, rNotInD, iEnum, iZip, rInD, rIxD, rLen, rAll, rAny, rSum, rListOf, rEqS, rNeS, rSlTN, rStrB, tTupN, tLstN, rSlLN, rCatN, cxK, cxP, cxW, tSeq, tIfS, tTest, tB, tOp, tUn, tC, tAnd, tOr, tNot, tAndV, tOrV, tNotV, tIf, tNext, tBreak, tCont, tDrop, tRet, tRetN, gName, gNil, gCons, gTup, tAsg, tPar, tAug, rI, rI0, rU, rEq, rNe, tChain, tNil, tCons, tTup, tLst, tCall, tCB, tNoPart, tPart, tSl, rSlT, rSlL, rSlS, rIxL, rIxT, rIxS, rIn, tBM0, tBM, tyV, rAppend, rExtend, rCat, rZfill, rEqD, iList, iTup, iStr, iRng1, iRng2, tYes, tDisp, tPairs, rd_v0, rd_vS, rd_comp, rd_for, rd_ite_t, rd_ite_f, List.set_cons_zero, List.set_cons_succ, List.nil_append, List.cons_append, List.append_nil, V.int.injEq, V.str.injEq, V.bl.injEq, V.ref.injEq, V.ty.injEq, List.cons.injEq, and_true, true_and, exists_eq_left, exists_eq_left', exists_and_left, exists_eq, exists_const, if_true, if_false, ite_true, ite_false, rd_ss, rd_si, rd_is, rd_ii, rd_bb, Option.some.injEq, exists_eq_right, exists_eq_right', and_assoc, reduceCtorEq, false_and, and_false, false_or, or_false, exists_false]
  have hwid := ok.wid
  refine ⟨_, .of ea, _, atI_0, m.w, 2, rfl, by omega, by omega, by omega, fun D1 xs H1 g1 e1 p1 => ?_⟩
  have hxl : xs.length ≤ 300 := by rw [p1.length]; exact upto300 (k := 2) hwid (by omega) (by omega) (by omega)
  refine ⟨D1, rfl, ⟨_, .of e1⟩, cf_list (K := K) (a := D1) (xs := xs) (fun σ => ∃ v, σ = [v, some (nV L)]) (fun v => (rowOf H1 v).length == L) id (by omega) (.of e1) ⟨_, rfl⟩ ?_ ?_⟩
  · rintro D9 i9 σ H9 x hi9 hm hx gg hD9 hD9' ⟨v, rfl⟩
    obtain ⟨row, er, rl⟩ := SS.Paired.at p1 hx
    have hro := rowOf_at rl
    obtain ⟨c, rfl, ec9⟩ := rl
    simp only [exists_eq', rEqI, rNeI, rInDc, rLenD, rLenT, rDictOf, rMaxL, rIndex, rCatTN, rCatTE, tDNewN, tDNewTN, tDisp1T, rNeM, rRange2, rListRng, rRepN, rPopAt, rSetL, gSub, ipI, tDGet, tDGet2, sDPut, iEnum, iEZ, iZipL, iRng3, tRaise, tTryN, rLeL, rNotInD, iEnum, iZip, rInD, rIxD, rLen, rAll, rAny, rSum, rListOf, rEqS, rNeS, rSlTN, rStrB, tTupN, tLstN, rSlLN, rCatN, cxK, cxP, cxW, tSeq, tIfS, tTest, tB, tOp, tUn, tC, tAnd, tOr, tNot, tAndV, tOrV, tNotV, tIf, tNext, tBreak, tCont, tDrop, tRet, tRetN, gName, gNil, gCons, gTup, tAsg, tPar, tAug, rI, rI0, rU, rEq, rNe, tChain, tNil, tCons, tTup, tLst, tCall, tCB, tNoPart, tPart, tSl, rSlT, rSlL, rSlS, rIxL, rIxT, rIxS, rIn, tBM0, tBM, tyV, rAppend, rExtend, rCat, rZfill, rEqD, iList, iTup, iStr, iRng1, iRng2, tYes, tDisp, tPairs, rd_v0, rd_vS, rd_comp, rd_for, rd_ite_t, rd_ite_f, List.set_cons_zero, List.set_cons_succ, List.nil_append, List.cons_append, List.append_nil, V.int.injEq, V.str.injEq, V.bl.injEq, V.ref.injEq, V.ty.injEq, List.cons.injEq, and_true, true_and, exists_eq_left, exists_eq_left', exists_and_left, exists_eq, exists_const, if_true, if_false, ite_true, ite_false, rd_ss, rd_si, rd_is, rd_ii, rd_bb, Option.some.injEq, exists_eq_right, exists_eq_right', and_assoc, reduceCtorEq, false_and, and_false, false_or, or_false, exists_false]
    refine ⟨_, .inl (.of (gg _ _ ec9)), ?_⟩
    rw [List.length_map]
    by_cases hh : row.length = L
    · rw [decide_eq_true (by omega)]
      exact iteT (cf_step (by omega) hx (by rw [hro]; simp [hh]) hD9 hD9' gg ⟨_, rfl⟩ rfl)
    · rw [decide_eq_false (by omega)]
      exact iteF (cf_skip hx (by rw [hro]; simp [hh]) hD9' gg ⟨_, rfl⟩)
  intro D2 H2 hD2 g2 e2
  rw [List.map_id] at e2
  have p2 : Paired (RowL H2) (xs.filter fun v => (rowOf H1 v).length == L) (allR m.w L) := by
    rw [← upto_of m.w 2 L (by omega)]
    exact L2.Paired.mapP (paired_filter (fun x y h => by rw [rowOf_at h]) p1) fun _ _ h => h.same g2
  have hfl : (xs.filter fun v => (rowOf H1 v).length == L).length ≤ 300 := Nat.le_trans (List.length_filter_le _ _) hxl
  generalize (xs.filter fun v => (rowOf H1 v).length == L) = zs at e2 p2 hfl
  have g02 : Same H H2 := g1.trans g2
  refine ⟨D2, rfl, ⟨_, .of e2⟩, cf_list (K := K) (a := D2) (xs := zs) (fun σ => ∃ v, σ = [v, some (.ref a)]) (fun v => m.fin (m.run 0 (rowOf H2 v))) id (by omega) (.of e2) ⟨_, rfl⟩ ?_ ?_⟩
  · rintro D11 i11 σ H11 x hi11 hm hx gg hD11 hD11' ⟨v, rfl⟩
    obtain ⟨row, er, rl⟩ := SS.Paired.at p2 hx
    have hro := rowOf_at rl
    have hal := allR_ok L row (List.mem_of_getElem? er)
    obtain ⟨c, rfl, ec9⟩ := rl
    simp only [exists_eq', rEqI, rNeI, rInDc, rLenD, rLenT, rDictOf, rMaxL, rIndex, rCatTN, rCatTE, tDNewN, tDNewTN, tDisp1T, rNeM, rRange2, rListRng, rRepN, rPopAt, rSetL, gSub, ipI, tDGet, tDGet2, sDPut, iEnum, iEZ, iZipL, iRng3, tRaise, tTryN, rLeL, rNotInD, iEnum, iZip, rInD, rIxD, rLen, rAll, rAny, rSum, rListOf, rEqS, rNeS, rSlTN, rStrB, tTupN, tLstN, rSlLN, rCatN, cxK, cxP, cxW, tSeq, tIfS, tTest, tB, tOp, tUn, tC, tAnd, tOr, tNot, tAndV, tOrV, tNotV, tIf, tNext, tBreak, tCont, tDrop, tRet, tRetN, gName, gNil, gCons, gTup, tAsg, tPar, tAug, rI, rI0, rU, rEq, rNe, tChain, tNil, tCons, tTup, tLst, tCall, tCB, tNoPart, tPart, tSl, rSlT, rSlL, rSlS, rIxL, rIxT, rIxS, rIn, tBM0, tBM, tyV, rAppend, rExtend, rCat, rZfill, rEqD, iList, iTup, iStr, iRng1, iRng2, tYes, tDisp, tPairs, rd_v0, rd_vS, rd_comp, rd_for, rd_ite_t, rd_ite_f, List.set_cons_zero, List.set_cons_succ, List.nil_append, List.cons_append, List.append_nil, V.int.injEq, V.str.injEq, V.bl.injEq, V.ref.injEq, V.ty.injEq, List.cons.injEq, and_true, true_and, exists_eq_left, exists_eq_left', exists_and_left, exists_eq, exists_const, if_true, if_false, ite_true, ite_false, rd_ss, rd_si, rd_is, rd_ii, rd_bb, Option.some.injEq, exists_eq_right, exists_eq_right', and_assoc, reduceCtorEq, false_and, and_false, false_or, or_false, exists_false]
    refine ⟨a, c, m, row, rfl, rm.same (g02.trans gg), ok, .of (gg _ _ ec9), hal.2, by omega, _, rfl, ?_⟩
    cases hfin : m.fin (m.run 0 row) with
    | true => exact iteT (cf_step (by omega) hx (by rw [hro]; exact hfin) hD11 hD11' gg ⟨_, rfl⟩ rfl)
    | false => exact iteF (cf_skip hx (by rw [hro]; exact hfin) hD11' gg ⟨_, rfl⟩)
  intro D3 H3 hD3 g3 e3
  rw [List.map_id] at e3
  have p3 : Paired (RowL H3) (zs.filter fun v => m.fin (m.run 0 (rowOf H2 v))) ((allR m.w L).filter fun row => m.fin (m.run 0 row)) := L2.Paired.mapP (paired_filter (fun x y h => by rw [rowOf_at h]) p2) fun _ _ h => h.same g3
  have hfl3 : (zs.filter fun v => m.fin (m.run 0 (rowOf H2 v))).length ≤ 300 := Nat.le_trans (List.length_filter_le _ _) hfl
  generalize (zs.filter fun v => m.fin (m.run 0 (rowOf H2 v))) = ts at e3 p3 hfl3
  have htl : ts.length = cnt m L 0 := by rw [p3.length, all_count ok]
  have g03 : Same H H3 := g02.trans g3
  refine ⟨D3, rfl, _, .inl (.of e3), by omega, by omega, ?_⟩
  rw [Int.toNat_natCast]
  have hnth : ∀ j, j < ts.length → ∃ u, ((allR m.w L).filter fun row => m.fin (m.run 0 row))[j]? = some u ∧ Nth m L j u := fun j hj => by
    have hj' : j < ((allR m.w L).filter fun row => m.fin (m.run 0 row)).length := by rw [← p3.length]; exact hj
    exact ⟨_, List.getElem?_eq_getElem hj', taken_nth ok L j _ (List.getElem?_eq_getElem hj')⟩
  refine cn_range (fun σ => ∃ v, σ = [v, some (.ref a), some (nV L)]) (fun j => ((((allR m.w L).filter fun row => m.fin (m.run 0 row)).getD j []).map nV)) (by omega) ⟨_, rfl⟩ ?_ ?_
  · rintro D4 j ys σ H4 hj gg hD4 hD4' hl4 hy4 ⟨v, rfl⟩
    obtain ⟨u, eu, N⟩ := hnth j hj
    simp only [exists_eq', rEqI, rNeI, rInDc, rLenD, rLenT, rDictOf, rMaxL, rIndex, rCatTN, rCatTE, tDNewN, tDNewTN, tDisp1T, rNeM, rRange2, rListRng, rRepN, rPopAt, rSetL, gSub, ipI, tDGet, tDGet2, sDPut, iEnum, iEZ, iZipL, iRng3, tRaise, tTryN, rLeL, rNotInD, iEnum, iZip, rInD, rIxD, rLen, rAll, rAny, rSum, rListOf, rEqS, rNeS, rSlTN, rStrB, tTupN, tLstN, rSlLN, rCatN, cxK, cxP, cxW, tSeq, tIfS, tTest, tB, tOp, tUn, tC, tAnd, tOr, tNot, tAndV, tOrV, tNotV, tIf, tNext, tBreak, tCont, tDrop, tRet, tRetN, gName, gNil, gCons, gTup, tAsg, tPar, tAug, rI, rI0, rU, rEq, rNe, tChain, tNil, tCons, tTup, tLst, tCall, tCB, tNoPart, tPart, tSl, rSlT, rSlL, rSlS, rIxL, rIxT, rIxS, rIn, tBM0, tBM, tyV, rAppend, rExtend, rCat, rZfill, rEqD, iList, iTup, iStr, iRng1, iRng2, tYes, tDisp, tPairs, rd_v0, rd_vS, rd_comp, rd_for, rd_ite_t, rd_ite_f, List.set_cons_zero, List.set_cons_succ, List.nil_append, List.cons_append, List.append_nil, V.int.injEq, V.str.injEq, V.bl.injEq, V.ref.injEq, V.ty.injEq, List.cons.injEq, and_true, true_and, exists_eq_left, exists_eq_left', exists_and_left, exists_eq, exists_const, if_true, if_false, ite_true, ite_false, rd_ss, rd_si, rd_is, rd_ii, rd_bb, Option.some.injEq, exists_eq_right, exists_eq_right', and_assoc, reduceCtorEq, false_and, and_false, false_or, or_false, exists_false]
    refine ⟨a, m, L, j, by rw [Int.zero_add], rm.same (g03.trans gg), ok, by omega, N.lt ok, fun D5 u5 H5 hD5 g5 e5 N5 => ?_⟩
    have e : u5 = u := N5.one ok N
    subst e
    exact cn_step (by omega) hj hD4 hD4' hl4 hy4 gg g5 ⟨_, rfl⟩ (fun e => by rw [e, hD4'] at hD5; cases hD5) (by rw [e5, List.getD_eq_getElem?_getD, eu]; rfl)
  intro D4 ys H4 hD4 g4 e4 hl4 hy4
  generalize hT : ((allR m.w L).filter fun row => m.fin (m.run 0 row)) = T at *
  refine ⟨_, neok_lists (k := 7) (.of e4) (.of (g4 _ _ e3)) hl4 (fun _ => true) fun j h1 h2 => ?_, ?_⟩
  · obtain ⟨c, ec4, _, ecc⟩ := hy4 j _ (List.getElem?_eq_getElem h1)
    obtain ⟨row, er, rl⟩ := SS.Paired.at p3 (List.getElem?_eq_getElem h2)
    have z := eq_rowL (X := (cxOf CX0 P w K mg base ["_law_machine_here", "_law_length_here", "_law_rows_here", "_law_taken", "_law_row"] "_law_short" (defScope s_law_short) f cdv A outer s H E).nox) (k := 6) (H := H4) (x := ys[j]) (y := ts[j]) (r1 := row) (r2 := row) ⟨c, ec4, by rw [ecc, List.getD_eq_getElem?_getD, er]; rfl⟩ (rl.same g4)
    rw [decide_eq_true rfl] at z
    exact z
  rw [show (!(List.range ys.length).all fun _ => true) = false by simp]
  have g04 : Same H H4 := g03.trans g4
  refine iteF ⟨D2, rfl, ⟨_, .of ((g3.trans g4) _ _ e2)⟩, fb_list (K := K) (a := D2) (xs := zs) (fun i σ H' => Same H4 H' ∧ ∃ v4, σ = [some (.ref a), some (nV L), some (.ref D2), some (.ref D3), v4]) ⟨Same.refl _, _, rfl⟩ (fun i σ H' _ z => .of ((g3.trans (g4.trans z.1)) _ _ e2)) ?_ ?_⟩
  · rintro i y σ H' hy ⟨g, v4, rfl⟩
    obtain ⟨row, er, rl⟩ := SS.Paired.at p2 hy
    have hmr := List.mem_of_getElem? er
    have hal := allR_ok L row hmr
    obtain ⟨c, rfl, ec9⟩ := id rl
    have hany : (List.range ts.length).any (fun j => decide (T.getD j [] = row)) = m.fin (m.run 0 row) := by
      rw [Bool.eq_iff_iff, List.any_eq_true]
      constructor
      · rintro ⟨j, hj, e⟩
        have hj' := List.mem_range.mp hj
        have e' : T.getD j [] = row := of_decide_eq_true e
        obtain ⟨u, eu, N⟩ := hnth j hj'
        rw [List.getD_eq_getElem?_getD, eu] at e'
        rw [← e']
        exact N.acc
      · intro hfin
        have hm : row ∈ T := by rw [← hT]; exact List.mem_filter.mpr ⟨hmr, hfin⟩
        obtain ⟨j, hj, e⟩ := List.getElem_of_mem hm
        have hj2 : j < ts.length := by rw [p3.length]; exact hj
        exact ⟨j, List.mem_range.mpr hj2, decide_eq_true (by rw [List.getD_eq_getElem?_getD, List.getElem?_eq_getElem hj, e]; rfl)⟩
    simp only [exists_eq', rEqI, rNeI, rInDc, rLenD, rLenT, rDictOf, rMaxL, rIndex, rCatTN, rCatTE, tDNewN, tDNewTN, tDisp1T, rNeM, rRange2, rListRng, rRepN, rPopAt, rSetL, gSub, ipI, tDGet, tDGet2, sDPut, iEnum, iEZ, iZipL, iRng3, tRaise, tTryN, rLeL, rNotInD, iEnum, iZip, rInD, rIxD, rLen, rAll, rAny, rSum, rListOf, rEqS, rNeS, rSlTN, rStrB, tTupN, tLstN, rSlLN, rCatN, cxK, cxP, cxW, tSeq, tIfS, tTest, tB, tOp, tUn, tC, tAnd, tOr, tNot, tAndV, tOrV, tNotV, tIf, tNext, tBreak, tCont, tDrop, tRet, tRetN, gName, gNil, gCons, gTup, tAsg, tPar, tAug, rI, rI0, rU, rEq, rNe, tChain, tNil, tCons, tTup, tLst, tCall, tCB, tNoPart, tPart, tSl, rSlT, rSlL, rSlS, rIxL, rIxT, rIxS, rIn, tBM0, tBM, tyV, rAppend, rExtend, rCat, rZfill, rEqD, iList, iTup, iStr, iRng1, iRng2, tYes, tDisp, tPairs, rd_v0, rd_vS, rd_comp, rd_for, rd_ite_t, rd_ite_f, List.set_cons_zero, List.set_cons_succ, List.nil_append, List.cons_append, List.append_nil, V.int.injEq, V.str.injEq, V.bl.injEq, V.ref.injEq, V.ty.injEq, List.cons.injEq, and_true, true_and, exists_eq_left, exists_eq_left', exists_and_left, exists_eq, exists_const, if_true, if_false, ite_true, ite_false, rd_ss, rd_si, rd_is, rd_ii, rd_bb, Option.some.injEq, exists_eq_right, exists_eq_right', and_assoc, reduceCtorEq, false_and, and_false, false_or, or_false, exists_false]
    refine ⟨_, .of ((g4.trans g) _ _ e3), fun j => decide (T.getD j [] = row), fun j hj => ?_, ?_⟩
    · obtain ⟨row', er', rl'⟩ := SS.Paired.at p3 (List.getElem?_eq_getElem hj)
      have z := eq_rowL (X := (cxOf CX0 P w K mg base ["_law_machine_here", "_law_length_here", "_law_rows_here", "_law_taken", "_law_row"] "_law_short" (defScope s_law_short) f cdv A outer s H E).nox) (k := 6) (rl'.same (g4.trans g)) (rl.same (g3.trans (g4.trans g)))
      rw [← show T.getD j [] = row' by rw [List.getD_eq_getElem?_getD, er']; rfl] at z
      exact z
    · rw [hany]
      cases hfin : m.fin (m.run 0 row) with
      | true => exact iteF g
      | false => exact iteT ⟨a, c, m, row, rfl, rm.same (g04.trans g), ok, .of ((g3.trans (g4.trans g)) _ _ ec9), hal.2, by omega, .inr hfin, fun H6 g6 => ⟨_, rfl, iteF (g.trans g6)⟩⟩
  · rintro σ H' ⟨g, v4, rfl⟩
    simp only [exists_eq', rEqI, rNeI, rInDc, rLenD, rLenT, rDictOf, rMaxL, rIndex, rCatTN, rCatTE, tDNewN, tDNewTN, tDisp1T, rNeM, rRange2, rListRng, rRepN, rPopAt, rSetL, gSub, ipI, tDGet, tDGet2, sDPut, iEnum, iEZ, iZipL, iRng3, tRaise, tTryN, rLeL, rNotInD, iEnum, iZip, rInD, rIxD, rLen, rAll, rAny, rSum, rListOf, rEqS, rNeS, rSlTN, rStrB, tTupN, tLstN, rSlLN, rCatN, cxK, cxP, cxW, tSeq, tIfS, tTest, tB, tOp, tUn, tC, tAnd, tOr, tNot, tAndV, tOrV, tNotV, tIf, tNext, tBreak, tCont, tDrop, tRet, tRetN, gName, gNil, gCons, gTup, tAsg, tPar, tAug, rI, rI0, rU, rEq, rNe, tChain, tNil, tCons, tTup, tLst, tCall, tCB, tNoPart, tPart, tSl, rSlT, rSlL, rSlS, rIxL, rIxT, rIxS, rIn, tBM0, tBM, tyV, rAppend, rExtend, rCat, rZfill, rEqD, iList, iTup, iStr, iRng1, iRng2, tYes, tDisp, tPairs, rd_v0, rd_vS, rd_comp, rd_for, rd_ite_t, rd_ite_f, List.set_cons_zero, List.set_cons_succ, List.nil_append, List.cons_append, List.append_nil, V.int.injEq, V.str.injEq, V.bl.injEq, V.ref.injEq, V.ty.injEq, List.cons.injEq, and_true, true_and, exists_eq_left, exists_eq_left', exists_and_left, exists_eq, exists_const, if_true, if_false, ite_true, ite_false, rd_ss, rd_si, rd_is, rd_ii, rd_bb, Option.some.injEq, exists_eq_right, exists_eq_right', and_assoc, reduceCtorEq, false_and, and_false, false_or, or_false, exists_false]
    exact q H' (g04.trans g)
abbrev s_law : Stmt := top 32
theorem sc_law : FnScope ["_law_script", "_law_mixed_here", "_law_cell", "_law_start", "_law_machine_here", "_law_length_here"] ["_law_script"] (defScope s_law) := ⟨rfl, rfl, rfl, by decide +kernel, rfl, by decide +kernel, by decide +kernel⟩
theorem ok_law {f : Addr} {fd : FuncData} (T : Txt K mg cNoNumber cNoRow) (F : Fun K "law" "law" s_law f fd) (C_law_cell_at : Cal P w K mg base 1 "_law_cell_at" ["_law_script", "_law_k"] (sp_cell K)) (C_law_mixed : Cal P w K mg base 1 "_law_mixed" ["_law_cell"] sp_mixed) (C_law_machine : Cal P w K mg base 2 "_law_machine" ["_law_cells", "_law_width", "_law_most"] (sp_machS K))
    (C_law_length : Cal P w K mg base 6 "_law_length" ["_law_machine_here", "_law_length_here", "_law_cell"] sp_lengthK) (C_law_short : Cal P w K mg base 6 "_law_short" ["_law_machine_here", "_law_length_here"] sp_shortK) (C_law_row_refused : Cal P w K mg base 5 "_law_row_refused" ["_law_machine_here", "_law_length_here", "_law_number"] sp_rowref)
    (C_law_number_refused : Cal P w K mg base 4 "_law_number_refused" ["_law_machine_here", "_law_row"] (sp_numref K)) : FnOk P w K mg base CX0 7 f fd ["_law_script"] (sp_law K) := by
  refine F.ok sc_law (fun vs H Q E h => ?_) (fun cdv A outer s H vs Q E hr h => ?_)
  · obtain ⟨a, ns, rfl, _⟩ := h
    rfl
  obtain ⟨a, ns, rfl, hS, h63, q⟩ := h
  have hu := hu_at hr 8 (by decide)
  refine ⟨_, (pss_cons (ps_set (i := 1) sc_law.nd rfl (Or.inl rfl) (pe_callC C_law_mixed hr (by omega) (by rfl) (pa_c (pe_callC C_law_cell_at hr (by omega) (by rfl) (pa_c (pv 0) (pa_c pe_int pa_nil))) pa_nil))) (pss_cons (ps_set (i := 2) sc_law.nd rfl (Or.inl rfl) (pe_op op_mod (pe_callC C_law_cell_at hr (by omega) (by rfl) (pa_c (pv 0) (pa_c pe_int pa_nil))) (pe_op op_pow pe_int pe_int))) (pss_cons (ps_for PassesOwn.never rfl (pi_range3 (by rfl) T.b_range (pa_c pe_int (pa_c (pe_cB (call_max2 rfl) (by rfl) T.b_max boot_max (pa_c pe_int (pa_c (pe_cB (call_min2 rfl) (by rfl) T.b_min boot_min (pa_c (pe_cB (call_len_seqK K) (by rfl) T.b_len boot_len (pa_c (pv 0) pa_nil)) (pa_c pe_int pa_nil))) pa_nil))) (pa_c pe_int pa_nil)))) (pg_name (i := 3) (show List.Nodup (["_law_script", "_law_mixed_here", "_law_cell", "_law_start", "_law_machine_here", "_law_length_here"] : List Str) by decide +kernel) (by rfl) (Or.inl (by rfl))) (pss_cons (ps_set (i := 4) sc_law.nd rfl (Or.inl rfl) (pe_callC C_law_machine hr (by omega) (by rfl) (pa_c (pe_slice (sl_listNK K) (pv 0) (po_some (pv 3)) (po_some (pe_op op_add (pv 3) pe_int))) (pa_c (pe_op op_mod (pv 1) pe_int) (pa_c pe_int pa_nil))))) (pss_cons (ps_for PassesOwn.never rfl (pi_listK K (pe_lstN (pa_c pe_int (pa_c pe_int (pa_c pe_int (pa_c pe_int (pa_c (pe_op op_mod (pe_op op_fdiv (pv 1) pe_int) pe_int) pa_nil))))))) (pg_name (i := 5) (show List.Nodup (["_law_script", "_law_mixed_here", "_law_cell", "_law_start", "_law_machine_here", "_law_length_here"] : List Str) by decide +kernel) (by rfl) (Or.inl (by rfl))) (pss_one (ps_if (pt_not (pt_val (pe_callC C_law_length hr (by omega) (by rfl) (pa_c (pv 4) (pa_c (pv 5) (pa_c (pv 2) pa_nil)))))) (pss_one (ps_ret pe_bl)) pss_nil))) (pss_cons (ps_if (PW.pt (pw_or (pt_not (pt_val (pe_callC C_law_short hr (by omega) (by rfl) (pa_c (pv 4) (pa_c pe_int pa_nil))))) (pw_or1 (pt_not (pt_val (pe_callC C_law_short hr (by omega) (by rfl) (pa_c (pv 4) (pa_c pe_int pa_nil)))))))) (pss_one (ps_ret pe_bl)) pss_nil) (pss_cons (ps_if (PW.pt (pw_and (pt_cmpR op_lt (pe_ix (ix_tupK K) (pv 4) pe_int (fun _ _ => rfl)) pe_int (nomark _)) (pw_and1 (pt_not (pt_val (pe_callC C_law_short hr (by omega) (by rfl) (pa_c (pv 4) (pa_c pe_int pa_nil)))))))) (pss_one (ps_ret pe_bl)) pss_nil) (pss_one (ps_if (PW.pt (pw_or (pt_not (pt_val (pe_callC C_law_row_refused hr (by omega) (by rfl) (pa_c (pv 4) (pa_c pe_int (pa_c pe_int pa_nil)))))) (pw_or1 (pt_not (pt_val (pe_callC C_law_number_refused hr (by omega) (by rfl) (pa_c (pv 4) (pa_c (pe_op op_repN (pe_lstN (pa_c pe_int pa_nil)) pe_int) pa_nil)))))))) (pss_one (ps_ret pe_bl)) pss_nil))))))) (pss_one (ps_ret pe_bl))))), ?_⟩
  refine rd_st [some (.ref a), none, none, none, none, none] rfl ?_
  simp only [exists_eq', rEqI, rNeI, rInDc, rLenD, rLenT, rDictOf, rMaxL, rIndex, rCatTN, rCatTE, tDNewN, tDNewTN, tDisp1T, rNeM, rRange2, rListRng, rRepN, rPopAt, rSetL, gSub, ipI, tDGet, tDGet2, sDPut, iEnum, iEZ, iZipL, iRng3, tRaise, tTryN, rLeL, rNotInD, iEnum, iZip, rInD, rIxD, rLen, rAll, rAny, rSum, rListOf, rEqS, rNeS, rSlTN, rStrB, tTupN, tLstN, rSlLN, rCatN, cxK, cxP, cxW, tSeq, tIfS, tTest, tB, tOp, tUn, tC, tAnd, tOr, tNot, tAndV, tOrV, tNotV, tIf, tNext, tBreak, tCont, tDrop, tRet, tRetN, gName, gNil, gCons, gTup, tAsg, tPar, tAug, rI, rI0, rU, rEq, rNe, tChain, tNil, tCons, tTup, tLst, tCall, tCB, tNoPart, tPart, tSl, rSlT, rSlL, rSlS, rIxL, rIxT, rIxS, rIn, tBM0, tBM, tyV, rAppend, rExtend, rCat, rZfill, rEqD, iList, iTup, iStr, iRng1, iRng2, tYes, tDisp, tPairs, rd_v0, rd_vS, rd_comp, rd_for, rd_ite_t, rd_ite_f, List.set_cons_zero, List.set_cons_succ, List.nil_append, List.cons_append, List.append_nil, V.int.injEq, V.str.injEq, V.bl.injEq, V.ref.injEq, V.ty.injEq, List.cons.injEq, and_true, true_and, exists_eq_left, exists_eq_left', exists_and_left, exists_eq, exists_const, if_true, if_false, ite_true, ite_false, rd_ss, rd_si, rd_is, rd_ii, rd_bb, Option.some.injEq, exists_eq_right, exists_eq_right', and_assoc, reduceCtorEq, false_and, and_false, false_or, or_false, exists_false]
  refine ⟨a, ns, 0, rfl, hS, by decide, fun c => ⟨c, rfl, fun r r0 r1 => ⟨a, ns, 1, rfl, hS, by decide, fun c' => ⟨⟨by decide, by decide, by decide⟩, _, rfl, by decide, _, .inl hS, by decide, ?_⟩⟩⟩⟩
  rw [List.length_map]
  have hmx : 2 ≤ (if (if 19 < (ns.length : Int) then 19 else (ns.length : Int)) > 2 then if 19 < (ns.length : Int) then 19 else (ns.length : Int) else 2) ∧ (if (if 19 < (ns.length : Int) then 19 else (ns.length : Int)) > 2 then if 19 < (ns.length : Int) then 19 else (ns.length : Int) else 2) ≤ 63 := by
    split <;> (try split) <;> omega
  generalize (if (if 19 < (ns.length : Int) then 19 else (ns.length : Int)) > 2 then if 19 < (ns.length : Int) then 19 else (ns.length : Int) else 2) = mx at hmx
  obtain ⟨sm1, sm2⟩ := small_step (a := 1) (b := mx) (c := 9) (by decide) (by decide) (by omega) (by omega) (.inl rfl)
  refine ⟨sm1, by omega, by decide, sm2, ?_⟩
  generalize c' % 10 ^ Int.toNat 60 = cc
  refine fb_range3 (fun i σ H' => Same H H' ∧ ∃ v3 v4 v5, σ = [some (.ref a), some (.int r), some (.int cc), v3, v4, v5]) ⟨Same.refl _, _, _, _, rfl⟩ ?_ ?_
  · rintro i σ H' hi ⟨g, v3, v4, v5, rfl⟩
    simp only [exists_eq', rEqI, rNeI, rInDc, rLenD, rLenT, rDictOf, rMaxL, rIndex, rCatTN, rCatTE, tDNewN, tDNewTN, tDisp1T, rNeM, rRange2, rListRng, rRepN, rPopAt, rSetL, gSub, ipI, tDGet, tDGet2, sDPut, iEnum, iEZ, iZipL, iRng3, tRaise, tTryN, rLeL, rNotInD, iEnum, iZip, rInD, rIxD, rLen, rAll, rAny, rSum, rListOf, rEqS, rNeS, rSlTN, rStrB, tTupN, tLstN, rSlLN, rCatN, cxK, cxP, cxW, tSeq, tIfS, tTest, tB, tOp, tUn, tC, tAnd, tOr, tNot, tAndV, tOrV, tNotV, tIf, tNext, tBreak, tCont, tDrop, tRet, tRetN, gName, gNil, gCons, gTup, tAsg, tPar, tAug, rI, rI0, rU, rEq, rNe, tChain, tNil, tCons, tTup, tLst, tCall, tCB, tNoPart, tPart, tSl, rSlT, rSlL, rSlS, rIxL, rIxT, rIxS, rIn, tBM0, tBM, tyV, rAppend, rExtend, rCat, rZfill, rEqD, iList, iTup, iStr, iRng1, iRng2, tYes, tDisp, tPairs, rd_v0, rd_vS, rd_comp, rd_for, rd_ite_t, rd_ite_f, List.set_cons_zero, List.set_cons_succ, List.nil_append, List.cons_append, List.append_nil, V.int.injEq, V.str.injEq, V.bl.injEq, V.ref.injEq, V.ty.injEq, List.cons.injEq, and_true, true_and, exists_eq_left, exists_eq_left', exists_and_left, exists_eq, exists_const, if_true, if_false, ite_true, ite_false, rd_ss, rd_si, rd_is, rd_ii, rd_bb, Option.some.injEq, exists_eq_right, exists_eq_right', and_assoc, reduceCtorEq, false_and, and_false, false_or, or_false, exists_false]
    refine ⟨_, g.seq hS, fun p1 H1 n1 => ?_⟩
    rw [cutL_map] at n1
    have lm := cutL_len ns (some (1 + (i : Int) * 9)) (some (1 + (i : Int) * 9 + 9))
    have w0 := Int.emod_nonneg r (show (5 : Int) ≠ 0 by decide)
    have w1 := Int.emod_lt_of_pos r (show (0 : Int) < 5 by decide)
    have x0 := Int.emod_nonneg (r / 3) (show (101 : Int) ≠ 0 by decide)
    have x1 := Int.emod_lt_of_pos (r / 3) (show (0 : Int) < 101 by decide)
    refine ⟨by decide, p1, _, _, rfl, n1.lst, by omega, w0, by omega, fun pm m H2 g2 rm ok ew h9 => ⟨⟨by decide, by decide⟩, by decide, small_line (by simp), fun pl H3 n3 => ?_⟩⟩
    have el : [V.int 0, V.int 1, V.int 2, V.int 3, V.int (r / 3 % 101)] = ([0, 1, 2, 3, (r / 3 % 101).toNat] : List Nat).map nV := by
      show _ = [V.int 0, V.int 1, V.int 2, V.int 3, V.int (((r / 3 % 101).toNat : Nat) : Int)]
      rw [Int.toNat_of_nonneg x0]
    rw [el] at n3
    have hLs : ∀ L ∈ ([0, 1, 2, 3, (r / 3 % 101).toNat] : List Nat), L ≤ 100 := fun L hL => by
      simp only [List.mem_cons, List.not_mem_nil, or_false] at hL
      omega
    generalize ([0, 1, 2, 3, (r / 3 % 101).toNat] : List Nat) = Ls at n3 hLs
    have g03 : Same H H3 := g.trans (n1.g.trans (g2.trans n3.g))
    have rm3 := rm.same n3.g
    refine ⟨⟨_, n3.lst⟩, fb_list (K := K) (a := pl) (xs := Ls.map nV) (fun j σ H'' => Same H3 H'' ∧ ∃ v5, σ = [some (.ref a), some (.int r), some (.int cc), some (.int (1 + (i : Int) * 9)), some (.ref pm), v5]) ⟨Same.refl _, _, rfl⟩ (fun j σ H'' _ z => z.1.seq n3.lst) ?_ ?_⟩
    · rintro j y σ H'' hy ⟨g5, v5, rfl⟩
      rw [List.getElem?_map] at hy
      obtain ⟨L, eL, rfl⟩ := Option.map_eq_some_iff.mp hy
      simp only [exists_eq', rEqI, rNeI, rInDc, rLenD, rLenT, rDictOf, rMaxL, rIndex, rCatTN, rCatTE, tDNewN, tDNewTN, tDisp1T, rNeM, rRange2, rListRng, rRepN, rPopAt, rSetL, gSub, ipI, tDGet, tDGet2, sDPut, iEnum, iEZ, iZipL, iRng3, tRaise, tTryN, rLeL, rNotInD, iEnum, iZip, rInD, rIxD, rLen, rAll, rAny, rSum, rListOf, rEqS, rNeS, rSlTN, rStrB, tTupN, tLstN, rSlLN, rCatN, cxK, cxP, cxW, tSeq, tIfS, tTest, tB, tOp, tUn, tC, tAnd, tOr, tNot, tAndV, tOrV, tNotV, tIf, tNext, tBreak, tCont, tDrop, tRet, tRetN, gName, gNil, gCons, gTup, tAsg, tPar, tAug, rI, rI0, rU, rEq, rNe, tChain, tNil, tCons, tTup, tLst, tCall, tCB, tNoPart, tPart, tSl, rSlT, rSlL, rSlS, rIxL, rIxT, rIxS, rIn, tBM0, tBM, tyV, rAppend, rExtend, rCat, rZfill, rEqD, iList, iTup, iStr, iRng1, iRng2, tYes, tDisp, tPairs, rd_v0, rd_vS, rd_comp, rd_for, rd_ite_t, rd_ite_f, List.set_cons_zero, List.set_cons_succ, List.nil_append, List.cons_append, List.append_nil, V.int.injEq, V.str.injEq, V.bl.injEq, V.ref.injEq, V.ty.injEq, List.cons.injEq, and_true, true_and, exists_eq_left, exists_eq_left', exists_and_left, exists_eq, exists_const, if_true, if_false, ite_true, ite_false, rd_ss, rd_si, rd_is, rd_ii, rd_bb, Option.some.injEq, exists_eq_right, exists_eq_right', and_assoc, reduceCtorEq, false_and, and_false, false_or, or_false, exists_false]
      exact ⟨pm, m, L, cc, rfl, rm3.same g5, ok, hLs L (List.mem_of_getElem? eL), fun H6 g6 => ⟨_, rfl, iteF (g5.trans g6)⟩⟩
    · rintro σ H'' ⟨g5, v5, rfl⟩
      obtain ⟨b1, c1, rs, ea, eb, pr, ec⟩ := id rm3
      simp only [exists_eq', rEqI, rNeI, rInDc, rLenD, rLenT, rDictOf, rMaxL, rIndex, rCatTN, rCatTE, tDNewN, tDNewTN, tDisp1T, rNeM, rRange2, rListRng, rRepN, rPopAt, rSetL, gSub, ipI, tDGet, tDGet2, sDPut, iEnum, iEZ, iZipL, iRng3, tRaise, tTryN, rLeL, rNotInD, iEnum, iZip, rInD, rIxD, rLen, rAll, rAny, rSum, rListOf, rEqS, rNeS, rSlTN, rStrB, tTupN, tLstN, rSlLN, rCatN, cxK, cxP, cxW, tSeq, tIfS, tTest, tB, tOp, tUn, tC, tAnd, tOr, tNot, tAndV, tOrV, tNotV, tIf, tNext, tBreak, tCont, tDrop, tRet, tRetN, gName, gNil, gCons, gTup, tAsg, tPar, tAug, rI, rI0, rU, rEq, rNe, tChain, tNil, tCons, tTup, tLst, tCall, tCB, tNoPart, tPart, tSl, rSlT, rSlL, rSlS, rIxL, rIxT, rIxS, rIn, tBM0, tBM, tyV, rAppend, rExtend, rCat, rZfill, rEqD, iList, iTup, iStr, iRng1, iRng2, tYes, tDisp, tPairs, rd_v0, rd_vS, rd_comp, rd_for, rd_ite_t, rd_ite_f, List.set_cons_zero, List.set_cons_succ, List.nil_append, List.cons_append, List.append_nil, V.int.injEq, V.str.injEq, V.bl.injEq, V.ref.injEq, V.ty.injEq, List.cons.injEq, and_true, true_and, exists_eq_left, exists_eq_left', exists_and_left, exists_eq, exists_const, if_true, if_false, ite_true, ite_false, rd_ss, rd_si, rd_is, rd_ii, rd_bb, Option.some.injEq, exists_eq_right, exists_eq_right', and_assoc, reduceCtorEq, false_and, and_false, false_or, or_false, exists_false]
      refine ⟨pm, m, 0, rfl, rm3.same g5, ok, by omega, fun H6 g6 => ⟨_, rfl, iteF ⟨pm, m, 1, rfl, rm3.same (g5.trans g6), ok, by omega, fun H7 g7 => ⟨_, rfl, iteF ?_⟩⟩⟩⟩
      have g57 : Same H3 H7 := g5.trans (g6.trans g7)
      refine ⟨_, .of (g57 _ _ ea), _, atI_0, _, rfl, ?_⟩
      by_cases hw3 : m.w < 3
      · rw [decide_eq_true (by omega)]
        exact iteT ⟨pm, m, 2, rfl, rm3.same g57, ok, by omega, fun H8 g8 => ⟨_, rfl, iteF ⟨pm, m, _, _, rfl, rm3.same (g57.trans g8), ok, .inl (.inl ⟨101, rfl, by omega⟩), fun H9 g9 => ⟨_, rfl, iteF ⟨small_line (by simp), fun p10 H10 n10 => ⟨_, n10.at', by decide, by decide, small_line (by decide), fun p11 H11 n11 => ⟨pm, p11, m, List.replicate 101 0, rfl, rm3.same ((g57.trans g8).trans (g9.trans (n10.g.trans n11.g))), ok, n11.lst, fun l hl => by rw [(List.mem_replicate.mp hl).2]; exact Nat.two_pow_pos _, by decide, .inl (by decide), fun H12 g12 => ⟨_, rfl, iteF (g03.trans ((g57.trans g8).trans (g9.trans (n10.g.trans (n11.g.trans g12)))))⟩⟩⟩⟩⟩⟩⟩⟩
      · rw [decide_eq_false (by omega)]
        exact iteF ⟨pm, m, _, _, rfl, rm3.same (g57), ok, .inl (.inl ⟨101, rfl, by omega⟩), fun H9 g9 => ⟨_, rfl, iteF ⟨small_line (by simp), fun p10 H10 n10 => ⟨_, n10.at', by decide, by decide, small_line (by decide), fun p11 H11 n11 => ⟨pm, p11, m, List.replicate 101 0, rfl, rm3.same ((g57).trans (g9.trans (n10.g.trans n11.g))), ok, n11.lst, fun l hl => by rw [(List.mem_replicate.mp hl).2]; exact Nat.two_pow_pos _, by decide, .inl (by decide), fun H12 g12 => ⟨_, rfl, iteF (g03.trans ((g57).trans (g9.trans (n10.g.trans (n11.g.trans g12)))))⟩⟩⟩⟩⟩⟩
  · rintro σ H' ⟨g, v3, v4, v5, rfl⟩
    simp only [exists_eq', rEqI, rNeI, rInDc, rLenD, rLenT, rDictOf, rMaxL, rIndex, rCatTN, rCatTE, tDNewN, tDNewTN, tDisp1T, rNeM, rRange2, rListRng, rRepN, rPopAt, rSetL, gSub, ipI, tDGet, tDGet2, sDPut, iEnum, iEZ, iZipL, iRng3, tRaise, tTryN, rLeL, rNotInD, iEnum, iZip, rInD, rIxD, rLen, rAll, rAny, rSum, rListOf, rEqS, rNeS, rSlTN, rStrB, tTupN, tLstN, rSlLN, rCatN, cxK, cxP, cxW, tSeq, tIfS, tTest, tB, tOp, tUn, tC, tAnd, tOr, tNot, tAndV, tOrV, tNotV, tIf, tNext, tBreak, tCont, tDrop, tRet, tRetN, gName, gNil, gCons, gTup, tAsg, tPar, tAug, rI, rI0, rU, rEq, rNe, tChain, tNil, tCons, tTup, tLst, tCall, tCB, tNoPart, tPart, tSl, rSlT, rSlL, rSlS, rIxL, rIxT, rIxS, rIn, tBM0, tBM, tyV, rAppend, rExtend, rCat, rZfill, rEqD, iList, iTup, iStr, iRng1, iRng2, tYes, tDisp, tPairs, rd_v0, rd_vS, rd_comp, rd_for, rd_ite_t, rd_ite_f, List.set_cons_zero, List.set_cons_succ, List.nil_append, List.cons_append, List.append_nil, V.int.injEq, V.str.injEq, V.bl.injEq, V.ref.injEq, V.ty.injEq, List.cons.injEq, and_true, true_and, exists_eq_left, exists_eq_left', exists_and_left, exists_eq, exists_const, if_true, if_false, ite_true, ite_false, rd_ss, rd_si, rd_is, rd_ii, rd_bb, Option.some.injEq, exists_eq_right, exists_eq_right', and_assoc, reduceCtorEq, false_and, and_false, false_or, or_false, exists_false]
    exact q H'
end
end K38

set_option Elab.async false
set_option linter.all false
set_option maxRecDepth 100000
namespace K38
open PySem PySem.Spec PyProof.Rows L2 SS SM
section
variable {P : Program} {w : World} {K : PySem.W.Frag} {mg : Str → Option Value} {base : Heap} {f : Addr} {fd : FuncData} {cNoNumber cNoRow : Addr}
theorem all (T : Txt K mg cNoNumber cNoRow) (d_gone : Dfn K mg "gone" s_gone ["machine", "row"]) (d_takes : Dfn K mg "takes" s_takes ["machine", "row"]) (d_is_whole : Dfn K mg "is_whole" s_is_whole ["thing"]) (d_is_below : Dfn K mg "is_below" s_is_below ["thing", "bound"]) (d_one_letter_more : Dfn K mg "one_letter_more" s_one_letter_more ["machine", "counts"]) (d_counts_from : Dfn K mg "counts_from" s_counts_from ["machine", "length"]) (d_check_length : Dfn K mg "check_length" s_check_length ["length"]) (d_how_many : Dfn K mg "how_many" s_how_many ["machine", "length"]) (d_row_by : Dfn K mg "row_by" s_row_by ["machine", "length", "number"]) (d_number_of : Dfn K mg "number_of" s_number_of ["machine", "row"]) (d_law_cell_at : Dfn K mg "_law_cell_at" s_law_cell_at ["_law_script", "_law_k"]) (d_law_mixed : Dfn K mg "_law_mixed" s_law_mixed ["_law_cell"]) (d_law_free_machine : Dfn K mg "_law_free_machine" s_law_free_machine ["_law_number", "_law_width", "_law_most"]) (d_law_machine : Dfn K mg "_law_machine" s_law_machine ["_law_cells", "_law_width", "_law_most"]) (d_law_room : Dfn K mg "_law_room" s_law_room ["_law_machine_here", "_law_row"]) (d_law_takes : Dfn K mg "_law_takes" s_law_takes ["_law_machine_here", "_law_row"]) (d_law_longer : Dfn K mg "_law_longer" s_law_longer ["_law_rows_here", "_law_width"]) (d_law_rows : Dfn K mg "_law_rows" s_law_rows ["_law_width", "_law_most"]) (d_law_row_refused : Dfn K mg "_law_row_refused" s_law_row_refused ["_law_machine_here", "_law_length_here", "_law_number"]) (d_law_number_refused : Dfn K mg "_law_number_refused" s_law_number_refused ["_law_machine_here", "_law_row"]) (d_law_one : Dfn K mg "_law_one" s_law_one ["_law_machine_here", "_law_length_here", "_law_number"]) (d_law_length : Dfn K mg "_law_length" s_law_length ["_law_machine_here", "_law_length_here", "_law_cell"]) (d_law_short : Dfn K mg "_law_short" s_law_short ["_law_machine_here", "_law_length_here"]) (F : Fun K "law" "law" s_law f fd) : FnOk P w K mg base CX0 7 f fd ["_law_script"] (sp_law K) := by
  have b1 := ok_wholeX (P := P) (w := w) (base := base) T d_is_whole
  have b2 := ok_belowX T d_is_below b1
  have c1 := ok_more (P := P) (w := w) (base := base) T d_one_letter_more
  have c2 := ok_from T d_counts_from c1
  have c3 := ok_checkL T d_check_length b2
  have c4 := ok_many T d_how_many c3 c2
  have l1 := ok_cell (P := P) (w := w) (base := base) T d_law_cell_at
  have l2 := ok_mixed (P := P) (w := w) (base := base) T d_law_mixed
  have l3 := ok_free (P := P) (w := w) (base := base) T d_law_free_machine
  have l4 := ok_machS T d_law_machine l2 l3
  have r1 := ok_room (P := P) (w := w) (base := base) T d_law_room
  have r2 := ok_takesL T d_law_takes r1
  have r3 := ok_longer (P := P) (w := w) (base := base) T d_law_longer
  have r4 := ok_rows T d_law_rows r3
  have n1 := ok_gone (P := P) (w := w) (base := base) T d_gone
  have n2 := ok_takes T d_takes n1
  have n3 := ok_rowby T d_row_by c3 c2 b2
  have n4 := ok_numof T d_number_of n2 n1 c2
  have f1 := ok_rowref T d_law_row_refused n3
  have f2 := ok_numref T d_law_number_refused n4
  have o1 := ok_one T d_law_one n3 n4 r2
  have o2 := ok_lengthK T d_law_length c4 f1 o1
  have o3 := ok_shortK T d_law_short r4 r2 o1 f2
  exact ok_law T F l1 l2 l4 o2 o3 f1 f2
end
end K38
namespace K38
open PySem PySem.Spec PyProof.Rows L2 SS SM
theorem txt_mk {K : PySem.W.Frag} {mg : Str → Option Value} {cNoNumber cNoRow : Addr} (h0 : mg "list" = none) (h1 : mg "isinstance" = none) (h2 : mg "tuple" = none) (h3 : mg "int" = none) (h4 : mg "bool" = none) (h5 : mg "len" = none) (h6 : mg "max" = none) (h7 : mg "min" = none) (h8 : mg "sum" = none) (h9 : mg "range" = none) (h10 : mg "all" = none) (h11 : mg "enumerate" = none) (h12 : GlV mg "LONGEST" (.int 100)) (h13 : mg "NoRow" = some (.ref cNoRow)) (h14 : KSup K cNoRow) (h15 : PySem.W.mroIn K cNoRow (.ref cNoRow) = some true) (h16 : PySem.W.excIn K cNoRow veM "ValueError.__new__" = true) (h17 : mg "NoNumber" = some (.ref cNoNumber)) (h18 : KSup K cNoNumber) (h19 : PySem.W.mroIn K cNoNumber (.ref cNoNumber) = some true) (h20 : PySem.W.excIn K cNoNumber veM "ValueError.__new__" = true) : ∃ (qcNoNumber qcNoRow : Addr) , Txt K mg qcNoNumber qcNoRow  :=
  ⟨cNoNumber, cNoRow, ⟨h0, h1, h2, h3, h4, h5, h6, h7, h8, h9, h10, h11, h12, h13, h14, h15, h16, h17, h18, h19, h20⟩⟩
end K38
open PySem PySem.W PyProof.Rows
set_option maxRecDepth 100000 in
set_option maxHeartbeats 0 in
theorem PySem.Challenge.cw_setsays_k38_rows_by_numbers_holds : PySem.Challenge.rw_setsays_k38_rows_by_numbers.Holds := by
  w_on; o_law; k_head; (case hw => w_witness2)
  k_fill
  refine L2.walk_ofK (l := PySem.Challenge.rw_setsays_k38_rows_by_numbers) (n := 63) (k := 7) (x := "_law_script") (CX := L2.CX0) (sp := K38.sp_law) rfl (by decide) rfl ⟨rfl, by decide, by decide⟩ (fun w h Y => PySem.W.kIn_of Y) ?F (fun _ _ a ns hl _ hS => ⟨a, ns, rfl, hS, hl, fun _ => rfl⟩) fun _ _ _ _ z => z
  case F =>
    intro w mg fa h KX G hmg
    obtain ⟨cNoNumber, cNoRow, T⟩ : ∃ (cNoNumber cNoRow : Addr) , K38.Txt (L2.KOf KX) mg cNoNumber cNoRow  := by
      dsimp only [L2.KOf]
      refine' K38.txt_mk (PySem.W.mg_none_of KX G ?t0) (PySem.W.mg_none_of KX G ?t1) (PySem.W.mg_none_of KX G ?t2) (PySem.W.mg_none_of KX G ?t3) (PySem.W.mg_none_of KX G ?t4) (PySem.W.mg_none_of KX G ?t5) (PySem.W.mg_none_of KX G ?t6) (PySem.W.mg_none_of KX G ?t7) (PySem.W.mg_none_of KX G ?t8) (PySem.W.mg_none_of KX G ?t9) (PySem.W.mg_none_of KX G ?t10) (PySem.W.mg_none_of KX G ?t11) (L2.glv_mk KX G ?t12 ?r12) (PySem.W.mg_of KX G ?t13) ⟨?t14a, ?t14b, ?t14c⟩ ?t15 ?t16 (PySem.W.mg_of KX G ?t17) ⟨?t18a, ?t18b, ?t18c⟩ ?t19 ?t20
      (case t0 => k_is)
      (case t1 => k_is)
      (case t2 => k_is)
      (case t3 => k_is)
      (case t4 => k_is)
      (case t5 => k_is)
      (case t6 => k_is)
      (case t7 => k_is)
      (case t8 => k_is)
      (case t9 => k_is)
      (case t10 => k_is)
      (case t11 => k_is)
      (case t12 => k_is); (case r12 => exact ⟨_, rfl⟩)
      (case t13 => k_is)
      (case t14a => k_is); (case t14b => k_is); (case t14c => k_is)
      (case t15 => k_is)
      (case t16 => k_exc)
      (case t17 => k_is)
      (case t18a => k_is); (case t18b => k_is); (case t18c => k_is)
      (case t19 => k_is)
      (case t20 => k_exc)
    have d_gone : L2.Dfn (L2.KOf KX) mg "gone" K38.s_gone ["machine", "row"] := by
      dsimp only [L2.KOf]
      refine' L2.dfn_mk KX G ?a ?l ?c ?k (fun _ _ _ _ _ _ us hl => match us, hl with | [_, _], _ => rfl)
      (case a => k_is); (case l => k_is); (case c => k_is); (case k => k_is)
    have d_takes : L2.Dfn (L2.KOf KX) mg "takes" K38.s_takes ["machine", "row"] := by
      dsimp only [L2.KOf]
      refine' L2.dfn_mk KX G ?a ?l ?c ?k (fun _ _ _ _ _ _ us hl => match us, hl with | [_, _], _ => rfl)
      (case a => k_is); (case l => k_is); (case c => k_is); (case k => k_is)
    have d_is_whole : L2.Dfn (L2.KOf KX) mg "is_whole" K38.s_is_whole ["thing"] := by
      dsimp only [L2.KOf]
      refine' L2.dfn_mk KX G ?a ?l ?c ?k (fun _ _ _ _ _ _ us hl => match us, hl with | [_], _ => rfl)
      (case a => k_is); (case l => k_is); (case c => k_is); (case k => k_is)
    have d_is_below : L2.Dfn (L2.KOf KX) mg "is_below" K38.s_is_below ["thing", "bound"] := by
      dsimp only [L2.KOf]
      refine' L2.dfn_mk KX G ?a ?l ?c ?k (fun _ _ _ _ _ _ us hl => match us, hl with | [_, _], _ => rfl)
      (case a => k_is); (case l => k_is); (case c => k_is); (case k => k_is)
    have d_one_letter_more : L2.Dfn (L2.KOf KX) mg "one_letter_more" K38.s_one_letter_more ["machine", "counts"] := by
      dsimp only [L2.KOf]
      refine' L2.dfn_mk KX G ?a ?l ?c ?k (fun _ _ _ _ _ _ us hl => match us, hl with | [_, _], _ => rfl)
      (case a => k_is); (case l => k_is); (case c => k_is); (case k => k_is)
    have d_counts_from : L2.Dfn (L2.KOf KX) mg "counts_from" K38.s_counts_from ["machine", "length"] := by
      dsimp only [L2.KOf]
      refine' L2.dfn_mk KX G ?a ?l ?c ?k (fun _ _ _ _ _ _ us hl => match us, hl with | [_, _], _ => rfl)
      (case a => k_is); (case l => k_is); (case c => k_is); (case k => k_is)
    have d_check_length : L2.Dfn (L2.KOf KX) mg "check_length" K38.s_check_length ["length"] := by
      dsimp only [L2.KOf]
      refine' L2.dfn_mk KX G ?a ?l ?c ?k (fun _ _ _ _ _ _ us hl => match us, hl with | [_], _ => rfl)
      (case a => k_is); (case l => k_is); (case c => k_is); (case k => k_is)
    have d_how_many : L2.Dfn (L2.KOf KX) mg "how_many" K38.s_how_many ["machine", "length"] := by
      dsimp only [L2.KOf]
      refine' L2.dfn_mk KX G ?a ?l ?c ?k (fun _ _ _ _ _ _ us hl => match us, hl with | [_, _], _ => rfl)
      (case a => k_is); (case l => k_is); (case c => k_is); (case k => k_is)
    have d_row_by : L2.Dfn (L2.KOf KX) mg "row_by" K38.s_row_by ["machine", "length", "number"] := by
      dsimp only [L2.KOf]
      refine' L2.dfn_mk KX G ?a ?l ?c ?k (fun _ _ _ _ _ _ us hl => match us, hl with | [_, _, _], _ => rfl)
      (case a => k_is); (case l => k_is); (case c => k_is); (case k => k_is)
    have d_number_of : L2.Dfn (L2.KOf KX) mg "number_of" K38.s_number_of ["machine", "row"] := by
      dsimp only [L2.KOf]
      refine' L2.dfn_mk KX G ?a ?l ?c ?k (fun _ _ _ _ _ _ us hl => match us, hl with | [_, _], _ => rfl)
      (case a => k_is); (case l => k_is); (case c => k_is); (case k => k_is)
    have d_law_cell_at : L2.Dfn (L2.KOf KX) mg "_law_cell_at" K38.s_law_cell_at ["_law_script", "_law_k"] := by
      dsimp only [L2.KOf]
      refine' L2.dfn_mk KX G ?a ?l ?c ?k (fun _ _ _ _ _ _ us hl => match us, hl with | [_, _], _ => rfl)
      (case a => k_is); (case l => k_is); (case c => k_is); (case k => k_is)
    have d_law_mixed : L2.Dfn (L2.KOf KX) mg "_law_mixed" K38.s_law_mixed ["_law_cell"] := by
      dsimp only [L2.KOf]
      refine' L2.dfn_mk KX G ?a ?l ?c ?k (fun _ _ _ _ _ _ us hl => match us, hl with | [_], _ => rfl)
      (case a => k_is); (case l => k_is); (case c => k_is); (case k => k_is)
    have d_law_free_machine : L2.Dfn (L2.KOf KX) mg "_law_free_machine" K38.s_law_free_machine ["_law_number", "_law_width", "_law_most"] := by
      dsimp only [L2.KOf]
      refine' L2.dfn_mk KX G ?a ?l ?c ?k (fun _ _ _ _ _ _ us hl => match us, hl with | [_, _, _], _ => rfl)
      (case a => k_is); (case l => k_is); (case c => k_is); (case k => k_is)
    have d_law_machine : L2.Dfn (L2.KOf KX) mg "_law_machine" K38.s_law_machine ["_law_cells", "_law_width", "_law_most"] := by
      dsimp only [L2.KOf]
      refine' L2.dfn_mk KX G ?a ?l ?c ?k (fun _ _ _ _ _ _ us hl => match us, hl with | [_, _, _], _ => rfl)
      (case a => k_is); (case l => k_is); (case c => k_is); (case k => k_is)
    have d_law_room : L2.Dfn (L2.KOf KX) mg "_law_room" K38.s_law_room ["_law_machine_here", "_law_row"] := by
      dsimp only [L2.KOf]
      refine' L2.dfn_mk KX G ?a ?l ?c ?k (fun _ _ _ _ _ _ us hl => match us, hl with | [_, _], _ => rfl)
      (case a => k_is); (case l => k_is); (case c => k_is); (case k => k_is)
    have d_law_takes : L2.Dfn (L2.KOf KX) mg "_law_takes" K38.s_law_takes ["_law_machine_here", "_law_row"] := by
      dsimp only [L2.KOf]
      refine' L2.dfn_mk KX G ?a ?l ?c ?k (fun _ _ _ _ _ _ us hl => match us, hl with | [_, _], _ => rfl)
      (case a => k_is); (case l => k_is); (case c => k_is); (case k => k_is)
    have d_law_longer : L2.Dfn (L2.KOf KX) mg "_law_longer" K38.s_law_longer ["_law_rows_here", "_law_width"] := by
      dsimp only [L2.KOf]
      refine' L2.dfn_mk KX G ?a ?l ?c ?k (fun _ _ _ _ _ _ us hl => match us, hl with | [_, _], _ => rfl)
      (case a => k_is); (case l => k_is); (case c => k_is); (case k => k_is)
    have d_law_rows : L2.Dfn (L2.KOf KX) mg "_law_rows" K38.s_law_rows ["_law_width", "_law_most"] := by
      dsimp only [L2.KOf]
      refine' L2.dfn_mk KX G ?a ?l ?c ?k (fun _ _ _ _ _ _ us hl => match us, hl with | [_, _], _ => rfl)
      (case a => k_is); (case l => k_is); (case c => k_is); (case k => k_is)
    have d_law_row_refused : L2.Dfn (L2.KOf KX) mg "_law_row_refused" K38.s_law_row_refused ["_law_machine_here", "_law_length_here", "_law_number"] := by
      dsimp only [L2.KOf]
      refine' L2.dfn_mk KX G ?a ?l ?c ?k (fun _ _ _ _ _ _ us hl => match us, hl with | [_, _, _], _ => rfl)
      (case a => k_is); (case l => k_is); (case c => k_is); (case k => k_is)
    have d_law_number_refused : L2.Dfn (L2.KOf KX) mg "_law_number_refused" K38.s_law_number_refused ["_law_machine_here", "_law_row"] := by
      dsimp only [L2.KOf]
      refine' L2.dfn_mk KX G ?a ?l ?c ?k (fun _ _ _ _ _ _ us hl => match us, hl with | [_, _], _ => rfl)
      (case a => k_is); (case l => k_is); (case c => k_is); (case k => k_is)
    have d_law_one : L2.Dfn (L2.KOf KX) mg "_law_one" K38.s_law_one ["_law_machine_here", "_law_length_here", "_law_number"] := by
      dsimp only [L2.KOf]
      refine' L2.dfn_mk KX G ?a ?l ?c ?k (fun _ _ _ _ _ _ us hl => match us, hl with | [_, _, _], _ => rfl)
      (case a => k_is); (case l => k_is); (case c => k_is); (case k => k_is)
    have d_law_length : L2.Dfn (L2.KOf KX) mg "_law_length" K38.s_law_length ["_law_machine_here", "_law_length_here", "_law_cell"] := by
      dsimp only [L2.KOf]
      refine' L2.dfn_mk KX G ?a ?l ?c ?k (fun _ _ _ _ _ _ us hl => match us, hl with | [_, _, _], _ => rfl)
      (case a => k_is); (case l => k_is); (case c => k_is); (case k => k_is)
    have d_law_short : L2.Dfn (L2.KOf KX) mg "_law_short" K38.s_law_short ["_law_machine_here", "_law_length_here"] := by
      dsimp only [L2.KOf]
      refine' L2.dfn_mk KX G ?a ?l ?c ?k (fun _ _ _ _ _ _ us hl => match us, hl with | [_, _], _ => rfl)
      (case a => k_is); (case l => k_is); (case c => k_is); (case k => k_is)
    have L : ∃ fd : FuncData, (∀ (s : Shared) (v : Value), BindsTo s fd ⟨[v], []⟩ [("_law_script", v)]) ∧ L2.Fun (L2.KOf KX) "law" "law" K38.s_law fa fd := by
      dsimp only [L2.KOf]
      refine' L2.law_mk KX G hmg ?a ?l ?c ?k ?b
      (case a => k_is); (case l => k_is); (case c => k_is); (case k => k_is)
      exact fun s u => .of_eq rfl
    obtain ⟨fd, hb, F⟩ := L
    exact ⟨fd, hb, fun base _ _ => K38.all T d_gone d_takes d_is_whole d_is_below d_one_letter_more d_counts_from d_check_length d_how_many d_row_by d_number_of d_law_cell_at d_law_mixed d_law_free_machine d_law_machine d_law_room d_law_takes d_law_longer d_law_rows d_law_row_refused d_law_number_refused d_law_one d_law_length d_law_short F⟩
#print axioms PySem.Challenge.cw_setsays_k38_rows_by_numbers_holds


