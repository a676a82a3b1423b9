import PyProof.Rows.All
import Wide.All
import OpenK.AllK
import Wide.FinOn
import Lean
import PyProof.EqAt
import PyProof.EqKinds
import PyProof.TupleCall
import PyProof.CodeObjX
import PyProof.NeKinds
import PyProof.ZipIter
import PyProof.EnumStmt
import PyProof.EnumMake
import KE.KDictOf
import PyProof.AttrMissHeap
import PyProof.Rows.SeqMore2
import PyProof.Rows.MinMaxN
import PyProof.DefMake
import PyProof.DefStmt
import PyProof.RaisesMany
import PyProof.ExcClass2
import PyProof.Rows.Own
import PyProof.Rows.CatchOwn
import PyProof.RulesDel
import KE.KIsAll
import PyProof.IsiH_list
import PyProof.ExcArgsOwn
import OpenK.KOwn
import PyProof.ExcBaseAll.ValueError
import PyProof.FString5
import PyProof.ListMulRoad
import PyProof.FactsAll.tuple_2
import PyProof.Rows.Range3
import PySem.Challenge.RW_setsays_k10_bare_ones_hold
set_option Elab.async false
set_option maxRecDepth 100000
namespace L2
open PySem PySem.Spec PyProof.Rows
abbrev Key := Sum Int Str
def blI (b : Bool) : Int := if b = true then 1 else 0
def isBl (k : Int) : Value → Bool
  | .bool b => k == blI b
  | _ => false
def keyIs : Key → Value → Bool
  | .inl k, v => Value.isInt k v || isBl k v
  | .inr x, v => Value.isStrOf x v
def keyH (w : World) : Key → Int
  | .inl k => hashInt k
  | .inr x => hashStr w x
theorem isBl_shape {k : Int} : ∀ {v : Value}, isBl k v = true → ∃ b, k = blI b ∧ v = Value.bool b := by
  intro v h
  cases v
  case bool b => exact ⟨b, eq_of_beq h, rfl⟩
  all_goals exact absurd h Bool.false_ne_true
theorem keyIs_shape : ∀ {k : Key} {v : Value}, keyIs k v = true → (∃ i t, k = Sum.inl i ∧ v = Value.int i t) ∨ (∃ x t, k = Sum.inr x ∧ v = Value.str x t) ∨ ∃ b, k = Sum.inl (blI b) ∧ v = Value.bool b
  | .inl i, v, h => by
    rcases (Bool.or_eq_true _ _).mp (show (Value.isInt i v || isBl i v) = true from h) with h | h
    · obtain ⟨t, e⟩ := Value.isInt_shape (k := i) (v := v) h
      exact .inl ⟨i, t, rfl, e⟩
    · obtain ⟨b, e, e'⟩ := isBl_shape h
      exact .inr (.inr ⟨b, by rw [e], e'⟩)
  | .inr x, v, h => by
    obtain ⟨t, e⟩ := Value.isStrOf_shape (x := x) (v := v) h
    exact .inr (.inl ⟨x, t, rfl, e⟩)
theorem keyIs_int (i : Int) (t : Tok) : keyIs (.inl i) (.int i t) = true := by simp [keyIs, Value.isInt]
theorem keyIs_bl (b : Bool) : keyIs (.inl (blI b)) (.bool b) = true := by simp [keyIs, isBl]
theorem hash_bl {prog : Program} {w : World} {A : Around} {E : Value → Shared → Prop} {s : Shared} {b : Bool} {Q : Int → Shared → Prop} (h : Q (hashInt (blI b)) { s with toks := s.toks + 1 }) : wpAny (model prog w) A (pyHash (.bool b)) Q E s := by
  have hT : s.TypeIs (.bool b) "bool" := rfl
  have hr := rawHash_range (blI b)
  unfold pyHash
  refine wpAny_bind ?_
  rw [cRoomFor, if_neg (show ¬ [Value.bool b].any Value.onHeap = true from Bool.false_ne_true)]
  refine wpAny_pure (wpAny_bind (wpAny_specialOf hT PySem.F.slot_bool_hash.lookup ?_))
  show wpAny _ _ (if (some (Value.builtin "int.__hash__") == some Value.none) = true then _ else _) Q E s
  rw [if_neg (show ¬ (some (Value.builtin "int.__hash__") == some Value.none) = true from Bool.false_ne_true)]
  refine wpAny_bind (wpAny_specialOf hT PySem.F.slot_bool_hash.lookup ?_)
  show wpAny _ _ (callSpecialIfBoundUnlessNone? (.bool b) "__hash__" _ >>= _) Q E s
  refine wpAny_bind (wpAny_callSpecialIfBoundUnlessNone?_slot hT PySem.F.slot_bool_hash (wpAny_call_entry PySem.F.slot_bool_hash hT PySem.F.entry_int_hash ?_ (PySem.F.args_int_hash_1 _)))
  refine (show wpAny _ _ (do ret (← mkInt (rawHash (blI b)))) _ _ s from wpAny_ret_mkInt ?_)
  show wpAny _ _ (if (decide (-(2 : Int) ^ 63 ≤ rawHash (blI b)) && decide (rawHash (blI b) < 2 ^ 63)) = true then _ else _) Q E _
  rw [if_pos (by rw [decide_eq_true hr.1, decide_eq_true hr.2]; rfl)]
  exact wpAny_pure h
theorem keyIs_str (x : Str) (t : Tok) : keyIs (.inr x) (.str x t) = true := by simp [keyIs, Value.isStrOf]
theorem key_ll (a b : Int) : decide ((Sum.inl a : Key) = Sum.inl b) = (a == b) := by
  by_cases e : a = b
  · subst e; simp
  · have h : ¬ (Sum.inl a : Key) = Sum.inl b := fun q => e (Sum.inl.inj q)
    rw [decide_eq_false h]
    exact (beq_eq_false_iff_ne.mpr e).symm
theorem key_rr (a b : Str) : decide ((Sum.inr a : Key) = Sum.inr b) = decide (a = b) := by
  by_cases e : a = b
  · subst e; simp
  · have h : ¬ (Sum.inr a : Key) = Sum.inr b := fun q => e (Sum.inr.inj q)
    rw [decide_eq_false h, decide_eq_false e]
theorem key_lr (a : Int) (b : Str) : decide ((Sum.inl a : Key) = Sum.inr b) = false := decide_eq_false (fun q => nomatch q)
theorem key_rl (a : Str) (b : Int) : decide ((Sum.inr a : Key) = Sum.inl b) = false := decide_eq_false (fun q => nomatch q)
def mixKind (prog : Program) (w : World) : PySem.KeyKind prog w Key where
  is := keyIs
  hash := keyH w
  inj := fun v a b ha hb => by
    rcases keyIs_shape ha with ⟨i, t, rfl, rfl⟩ | ⟨x, t, rfl, rfl⟩ | ⟨c, rfl, rfl⟩
    · rcases keyIs_shape hb with ⟨j, u, rfl, e⟩ | ⟨y, u, rfl, e⟩ | ⟨d, rfl, e⟩
      · injection e with e1 _; rw [e1]
      · exact nomatch e
      · exact nomatch e
    · rcases keyIs_shape hb with ⟨j, u, rfl, e⟩ | ⟨y, u, rfl, e⟩ | ⟨d, rfl, e⟩
      · exact nomatch e
      · injection e with e1 _; rw [e1]
      · exact nomatch e
    · rcases keyIs_shape hb with ⟨j, u, rfl, e⟩ | ⟨y, u, rfl, e⟩ | ⟨d, rfl, e⟩
      · exact nomatch e
      · exact nomatch e
      · injection e with e1; rw [e1]
  byValue := fun k v h => by
    rcases keyIs_shape h with ⟨i, t, rfl, rfl⟩ | ⟨x, t, rfl, rfl⟩ | ⟨c, rfl, rfl⟩ <;> rfl
  pyHash := fun hv h => by
    rcases keyIs_shape hv with ⟨i, t, rfl, rfl⟩ | ⟨x, t, rfl, rfl⟩ | ⟨c, rfl, rfl⟩
    · exact wpAny_pyHash_int h
    · exact wpAny_pyHash_str h
    · exact hash_bl h
  eqBool := fun hu hv h => by
    rcases keyIs_shape hu with ⟨i, t, rfl, rfl⟩ | ⟨x, t, rfl, rfl⟩ | ⟨c, rfl, rfl⟩
    · rcases keyIs_shape hv with ⟨j, u, rfl, rfl⟩ | ⟨y, u, rfl, rfl⟩ | ⟨d, rfl, rfl⟩
      · rw [key_ll] at h; exact wpAny_eqBool_int h
      · rw [key_lr] at h; exact SeqAt.EqAt.int_str i t y u _ _ _ _ h
      · rw [key_ll] at h; exact SeqAt.EqAt.int_bool i t d _ _ _ _ h
    · rcases keyIs_shape hv with ⟨j, u, rfl, rfl⟩ | ⟨y, u, rfl, rfl⟩ | ⟨d, rfl, rfl⟩
      · rw [key_rl] at h; exact SeqAt.EqAt.str_int x t j u _ _ _ _ h
      · rw [key_rr] at h; exact wpAny_eqBool_str h
      · rw [key_rl] at h; exact SeqAt.EqAt.str_bool x t d _ _ _ _ h
    · rcases keyIs_shape hv with ⟨j, u, rfl, rfl⟩ | ⟨y, u, rfl, rfl⟩ | ⟨d, rfl, rfl⟩
      · rw [key_ll] at h; exact SeqAt.EqAt.bool_int c j u _ _ _ _ h
      · rw [key_lr] at h; exact SeqAt.EqAt.bool_str c y u _ _ _ _ h
      · rw [key_ll, show (blI c == blI d) = (c == d) by cases c <;> cases d <;> rfl] at h
        exact SeqAt.EqAt.bool_bool c d _ _ _ _ h
  «strs» := fun k x t v h => by
    rcases keyIs_shape h with ⟨i, u, rfl, e⟩ | ⟨y, u, rfl, e⟩ | ⟨d, rfl, e⟩
    · exact nomatch e
    · injection e with e1 _
      subst e1
      cases v <;> rfl
    · exact nomatch e
theorem mixKind_int (prog : Program) (w : World) (i : Int) (t : Tok) : (mixKind prog w).is (.inl i) (.int i t) = true := keyIs_int i t
theorem mixKind_str (prog : Program) (w : World) (x : Str) (t : Tok) : (mixKind prog w).is (.inr x) (.str x t) = true := keyIs_str x t
inductive V where
  | non | bl (b : Bool) | int (i : Int) | str (x : Str) | byt (b : Array UInt8) | flt (b : UInt64) | ref (a : Addr) | ty (n : String)
  deriving DecidableEq
def RelV : V → Value → Prop
  | .non, u => u = Value.none
  | .bl b, u => u = Value.bool b
  | .int i, u => ∃ t, u = Value.int i t
  | .str x, u => ∃ t, u = Value.str x t
  | .byt b, u => ∃ t, u = Value.bytes b t
  | .flt b, u => ∃ t, u = Value.float b t
  | .ref a, u => u = Value.ref a
  | .ty n, u => u = Value.type n
abbrev Vals : List V → List Value → Prop := Paired RelV
theorem Vals.length {xs : List V} {us : List Value} (r : Vals xs us) : xs.length = us.length := Paired.length r
theorem Vals.get : ∀ {xs : List V} {us : List Value} {i : Nat} {x : V}, Vals xs us → xs[i]? = some x → ∃ u, us[i]? = some u ∧ RelV x u
  | _, _, _, _, .nil, e => by simp at e
  | _, _, 0, _, .cons r _, e => by simp at e; subst e; exact ⟨_, rfl, r⟩
  | _, _, i + 1, x, .cons _ t, e => by
    obtain ⟨u, h1, h2⟩ := Vals.get (i := i) (x := x) t (by simpa using e)
    exact ⟨u, by simpa using h1, h2⟩
theorem Vals.set {x : V} {u : Value} (r : RelV x u) : ∀ {xs : List V} {us : List Value} (i : Nat), Vals xs us → Vals (xs.set i x) (us.set i u)
  | _, _, _, .nil => .nil
  | _, _, 0, .cons _ t => .cons r t
  | _, _, i + 1, .cons q t => .cons q (Vals.set r i t)
theorem Vals.append : ∀ {xs ys : List V} {us ws : List Value}, Vals xs us → Vals ys ws → Vals (xs ++ ys) (us ++ ws)
  | _, _, _, _, .nil, s => s
  | _, _, _, _, .cons r t, s => .cons r (Vals.append t s)
theorem Vals.take : ∀ {xs : List V} {us : List Value} (n : Nat), Vals xs us → Vals (xs.take n) (us.take n)
  | _, _, 0, _ => .nil
  | _, _, _ + 1, .nil => .nil
  | _, _, n + 1, .cons r t => .cons r (Vals.take n t)
theorem Vals.drop : ∀ {xs : List V} {us : List Value} (n : Nat), Vals xs us → Vals (xs.drop n) (us.drop n)
  | _, _, 0, r => r
  | _, _, _ + 1, .nil => .nil
  | _, _, n + 1, .cons _ t => Vals.drop n t
def RelO : Option V → Option Value → Prop
  | some v, some u => RelV v u
  | none, none => True
  | _, _ => False
def KV {κ : Type} : List (κ × V) → List (κ × Value) → Prop := Paired fun (p : κ × V) (q : κ × Value) => p.1 = q.1 ∧ RelV p.2 q.2
def kV : Key → V
  | .inl i => .int i
  | .inr x => .str x
inductive HO where
    | lst (xs : List V)
    | tup (xs : List V)
    | dK (kvs : List (Key × V)) | dT (kvs : List (List Key × V))
    | set (S : Int → Bool) (n : Nat)
    | ins (C dx : Addr) (fs : List (Str × V))
    | own (x : Addr)
    | xd (fs : List (Str × V))
    | met (f x : Addr)
    | rng (lo hi : Int)
    | frz (o : Obj) (u : HO)
    | tbl (qs : List (Pos × Str)) (ps : Array Value)
    | ext (φ : Heap → Prop)
abbrev Hp := Addr → Option HO
def upd (H : Hp) (a : Addr) (o : HO) : Hp := fun b => if b = a then some o else H b
theorem upd_same {H : Hp} {a : Addr} {o : HO} : upd H a o a = some o := by unfold upd; rw [if_pos rfl]
theorem upd_ne {H : Hp} {a b : Addr} {o : HO} (h : b ≠ a) : upd H a o b = H b := by unfold upd; rw [if_neg h]
theorem ne_of {H : Hp} {a b : Addr} {o u : HO} (h : H a = some o) (h' : H b = some u) (d : o ≠ u) : a ≠ b := by
  intro e; subst e; rw [h] at h'; exact d (Option.some.inj h')
theorem ne_of_none {H : Hp} {a b : Addr} {o : HO} (h : H a = some o) (h' : H b = none) : a ≠ b := by
  intro e; subst e; rw [h] at h'; cases h'
section
variable (P : Program) (w : World)
def CodeObj (o : Obj) (q : Str) : Prop := ∃ vs t, o.data = .fields vs ∧ vs[1]? = some (.str q t)
def ObjOk (H : Hp) (h : Heap) (a : Addr) : HO → Prop
  | .lst xs => xs.length ≤ sizeLine ∧ ∃ (its : List Value) (n : Nat), Vals xs its ∧ h.get? a = some { cls := .type "list", data := .seq its.toArray n }
  | .tup xs => xs.length ≤ sizeLine ∧ ∃ its : List Value, Vals xs its ∧ IsTup h a its.toArray
  | .dK kvs => kvs.length ≤ sizeLine ∧ (a == sysModules) = false ∧ ∃ vs, KV kvs vs ∧ h.DictOf (mixKind P w) a vs
  | .dT kvs => kvs.length ≤ sizeLine ∧ (a == sysModules) = false ∧ ∃ xs : List (List Key × Addr × Value),
      Paired (fun (p : List Key × V) (q : List Key × Addr × Value) => p.1 = q.1 ∧ H q.2.1 = some (.tup (p.1.map kV)) ∧ RelV p.2 q.2.2) kvs xs ∧
      ∃ o es ep, h.get? a = some o ∧ o.ExactDict ∧ o.data = .dict es ep ∧ es.toList = xs.map (entryOfKey (tupleKind (mixKind P w))) ∧ (xs.map (·.1)).Nodup
  | .set S n => h.SetOf (intKind P w) a S n
  | .ins C dx fs => H dx = some (.own a) ∧ fs.length ≤ 1000 ∧ dx ≠ a ∧ h.get? a = some (PySem.W.instObj C dx) ∧
      ∃ mA, h.Ns1 dx mA ∧ (∀ f, RelO (fs.lookup f) (mA f)) ∧ PySem.Within mA (fs.map (·.1))
  | .own _ => ∃ o, h.get? a = some o
  | .xd fs => ∃ mA, h.Ns1 a mA ∧ ∀ f, RelO (fs.lookup f) (mA f)
  | .rng lo hi => ∃ t u v, h.get? a = some { cls := .type "range", data := .fields #[.int lo t, .int hi u, .int 1 v] }
  | .frz o u => h.get? a = some o ∧ ObjOk H h a u
  | .tbl qs ps => ∃ more : Array Value, h.get? a = some { cls := .none, data := .fields (ps ++ more) } ∧ TriplesOk (ps ++ more).toList ∧ ∀ p ∈ qs, ∀ v, codeAmong p.1 (ps ++ more).toList = some v → ∃ c o, v = .ref c ∧ H c = some (.frz o (.own c)) ∧ CodeObj o p.2
  | .met f x => h.get? a = some (PySem.W.methodObj (.ref f) (.ref x))
  | .ext φ => φ h ∧ (∃ o, h.get? a = some o) ∧ ∀ h1 h2 : Heap, φ h1 → (∀ o, h1.get? a = some o → h2.get? a = some o) → φ h2
def HOk (H : Hp) (h : Heap) : Prop := ∀ a o, H a = some o → ObjOk P w H h a o
end
section
variable {P : Program} {w : World} {H H' : Hp} {h h' : Heap} {a : Addr} {o : HO}
theorem ObjOk.lt (x : ObjOk P w H h a o) : a < h.objs.size := by
  cases o with
  | lst xs => obtain ⟨_, _, _, _, e⟩ := x; exact Heap.lt_size e
  | tup xs => obtain ⟨_, _, _, p⟩ := x; exact p.lt
  | dK kvs => obtain ⟨_, _, _, _, o, _, _, e, _⟩ := x; exact Heap.lt_size e
  | dT kvs => obtain ⟨_, _, _, _, o, _, _, e, _⟩ := x; exact Heap.lt_size e
  | set S n => obtain ⟨o, _, _, _, e, _⟩ := x; exact Heap.lt_size e
  | ins C dx fs => obtain ⟨_, _, _, e, _⟩ := x; exact Heap.lt_size e
  | own y => obtain ⟨_, e⟩ := x; exact Heap.lt_size e
  | xd fs => obtain ⟨_, ⟨_, _, _, e, _⟩, _⟩ := x; exact Heap.lt_size e
  | rng lo hi => obtain ⟨_, _, _, e⟩ := x; exact Heap.lt_size e
  | frz ob u => obtain ⟨e, _⟩ := x; exact Heap.lt_size e
  | tbl qs ps => obtain ⟨_, e, _⟩ := x; exact Heap.lt_size e
  | met f y => exact Heap.lt_size (show h.get? a = some _ from x)
  | ext φ => obtain ⟨_, ⟨_, e⟩, _⟩ := x; exact Heap.lt_size e
theorem Paired.mapP {α β : Type} {F G : α → β → Prop} : ∀ {l₁ : List α} {l₂ : List β}, Paired F l₁ l₂ → (∀ a b, F a b → G a b) → Paired G l₁ l₂
  | _, _, .nil, _ => .nil
  | _, _, .cons r t, f => .cons (f _ _ r) (Paired.mapP t f)
theorem ObjOk.stay (x : ObjOk P w H h a o) (k : ∀ b u, (b = a ∨ H b = some (.own a)) → h.get? b = some u → h'.get? b = some u)
    (ho : ∀ b, H b = some (.own a) → H' b = some (.own a)) (hf : ∀ b o u q, CodeObj o q → H b = some (.frz o u) → H' b = some (.frz o u)) (ht : ∀ b xs, H b = some (.tup xs) → H' b = some (.tup xs)) : ObjOk P w H' h' a o := by
  induction o with
  | lst xs => obtain ⟨z, its, n, r, e⟩ := x; exact ⟨z, its, n, r, k _ _ (.inl rfl) e⟩
  | tup xs => obtain ⟨z, its, r, ob, e, c⟩ := x; exact ⟨z, its, r, ob, k _ _ (.inl rfl) e, c⟩
  | dK kvs => obtain ⟨z, y, vs, r, ob, es, ep, e, c⟩ := x; exact ⟨z, y, vs, r, ob, es, ep, k _ _ (.inl rfl) e, c⟩
  | dT kvs =>
    obtain ⟨z, y, xs, r, ob, es, ep, e, c⟩ := x
    exact ⟨z, y, xs, Paired.mapP r fun p q z => ⟨z.1, ht _ _ z.2.1, z.2.2⟩, ob, es, ep, k _ _ (.inl rfl) e, c⟩
  | set S n => obtain ⟨ob, es, ep, t, e, c⟩ := x; exact ⟨ob, es, ep, t, k _ _ (.inl rfl) e, c⟩
  | ins C dx fs =>
    obtain ⟨d, z, ne, e, mA, ⟨od, es, ep, e2, c⟩, r⟩ := x
    exact ⟨ho _ d, z, ne, k _ _ (.inl rfl) e, mA, ⟨od, es, ep, k _ _ (.inr d) e2, c⟩, r⟩
  | own y => obtain ⟨ob, e⟩ := x; exact ⟨ob, k _ _ (.inl rfl) e⟩
  | xd fs => obtain ⟨mA, ⟨od, es, ep, e, c⟩, r⟩ := x; exact ⟨mA, ⟨od, es, ep, k _ _ (.inl rfl) e, c⟩, r⟩
  | rng lo hi => obtain ⟨t, u, v, e⟩ := x; exact ⟨t, u, v, k _ _ (.inl rfl) e⟩
  | frz ob u ih => obtain ⟨e, q⟩ := x; exact ⟨k _ _ (.inl rfl) e, ih q⟩
  | tbl qs ps => obtain ⟨more, e, t, c⟩ := x; exact ⟨more, k _ _ (.inl rfl) e, t, fun p hp v q => let ⟨c1, o, r, z, co⟩ := c p hp v q; ⟨c1, o, r, hf _ _ _ _ co z, co⟩⟩
  | met f y =>
    have e : h.get? a = some (PySem.W.methodObj (.ref f) (.ref y)) := x
    show h'.get? a = some (PySem.W.methodObj (.ref f) (.ref y))
    exact k a _ (.inl rfl) e
  | ext φ => obtain ⟨p, ⟨o, e⟩, st⟩ := x; exact ⟨st _ _ p fun o q => k _ _ (.inl rfl) q, ⟨o, k _ _ (.inl rfl) e⟩, st⟩
theorem HOk.lt (x : HOk P w H h) (e : H a = some o) : a < h.objs.size := (x a o e).lt
theorem HOk.fresh (x : HOk P w H h) (e : h.objs.size ≤ a) : H a = none := by
  cases q : H a with
  | none => rfl
  | some u => exact absurd (Nat.lt_of_lt_of_le (x.lt q) e) (Nat.lt_irrefl _)
theorem HOk.kept (x : HOk P w H h) (k : ∀ b u, h.get? b = some u → h'.get? b = some u) : HOk P w H h' := fun a o e =>
  (x a o e).stay (fun b u _ q => k b u q) (fun _ q => q) (fun _ _ _ _ _ q => q) fun _ _ q => q
theorem HOk.laid (x : HOk P w H h) (k : ∀ b u, h.get? b = some u → h'.get? b = some u) (hp : h.objs.size ≤ a) (new : ObjOk P w (upd H a o) h' a o) : HOk P w (upd H a o) h' := fun b u e => by
  have hn := x.fresh hp
  by_cases hb : b = a
  · subst hb; rw [upd_same] at e; cases e; exact new
  · rw [upd_ne hb] at e
    exact (x b u e).stay (fun c v _ q => k c v q) (fun c q => by rw [upd_ne (ne_of_none q hn)]; exact q) (fun c _ _ _ _ q => by rw [upd_ne (ne_of_none q hn)]; exact q) fun c xs q => by rw [upd_ne (ne_of_none q hn)]; exact q
end
def Rd (H : Hp) (a : Addr) (u : HO) : Prop := H a = some u ∨ ∃ o, H a = some (.frz o u)
theorem Rd.ok {P : Program} {w : World} {H : Hp} {h : Heap} {a : Addr} {u : HO} (r : Rd H a u) (x : HOk P w H h) : ObjOk P w H h a u := by
  rcases r with r | ⟨o, r⟩
  · exact x a u r
  · obtain ⟨_, q⟩ := x a _ r
    exact q
def Mut : Option HO → Prop
  | some (.lst _) => True
  | some (.dK _) => True
  | some (.dT _) => True
  | some (.set _ _) => True
  | some (.ins _ _ _) => True
  | some (.ext _) => True
  | _ => False
section
variable {P : Program} {w : World} {H : Hp} {h h' : Heap} {x e : Addr} {o' : HO}
theorem HOk.write (ok : HOk P w H h) (mu : Mut (H x)) (he : e = x ∨ H e = some (.own x)) (k : ∀ b u, b ≠ e → h.get? b = some u → h'.get? b = some u) (heo : ∃ u, h'.get? e = some u)
    (new : ObjOk P w (upd H x o') h' x o') : HOk P w (upd H x o') h' := fun b u q => by
  have nown : ∀ c y, H c = some (.own y) → c ≠ x := fun c y r z => by subst z; rw [r] at mu; exact mu
  have ntup : ∀ c xs, H c = some (.tup xs) → c ≠ x := fun c xs r z => by subst z; rw [r] at mu; exact mu
  have nfrz : ∀ c o y, H c = some (.frz o y) → c ≠ x := fun c o y r z => by subst z; rw [r] at mu; exact mu
  by_cases hb : b = x
  · subst hb; rw [upd_same] at q; cases q; exact new
  · rw [upd_ne hb] at q
    by_cases hbe : b = e
    · have q' : H b = some (.own x) := by
        rcases he with z | z
        · exact absurd (hbe.trans z) hb
        · rw [hbe]; exact z
      rw [q] at q'; cases q'
      obtain ⟨v, hv⟩ := heo
      exact ⟨v, by rw [hbe]; exact hv⟩
    · refine (ok b u q).stay (fun c v hc r => k c v ?_ r) (fun c r => by rw [upd_ne (nown c b r)]; exact r) (fun c o y _ _ r => by rw [upd_ne (nfrz c o y r)]; exact r) fun c xs r => by rw [upd_ne (ntup c xs r)]; exact r
      rcases hc with rfl | hc
      · exact hbe
      · rintro rfl
        rcases he with z | z
        · exact nown c b hc z
        · rw [hc] at z; cases z; exact hb rfl
end
structure Un (fs ex : List Addr) (H H' : Hp) (h h' : Heap) : Prop where
  keep : ∀ b o, h.get? b = some o → H b = none → b ∉ fs → b ∉ ex → h'.get? b = some o
  slot : ∀ b o, h.get? b = some o → H b = none → b ∈ fs → b ∉ ex → ∃ sl, h'.get? b = some { o with slots := sl }
  free : ∀ b o, h.get? b = some o → H b = none → b ∉ ex → H' b = none
  there : ∀ b o, h.get? b = some o → b ∉ ex → ∃ o', h'.get? b = some o'
  tups : ∀ b xs, H b = some (.tup xs) → H' b = some (.tup xs)
  frzs : ∀ b o u, H b = some (.frz o u) → H' b = some (.frz o u)
  tbls : ∀ b qs ps, H b = some (.tbl qs ps) → H' b = some (.tbl qs ps)
section
variable {fs fs' ex ex' : List Addr} {H H1 H2 : Hp} {h h1 h2 h' : Heap} {a x e : Addr} {o : HO}
theorem Un.any (u : Un fs ex H H1 h h1) {b : Addr} {ob : Obj} (q : h.get? b = some ob) (n : H b = none) (hx : b ∉ ex) : ∃ sl, h1.get? b = some { ob with slots := sl } := by
  by_cases hb : b ∈ fs
  · exact u.slot b ob q n hb hx
  · exact ⟨ob.slots, u.keep b ob q n hb hx⟩
theorem Un.kept (k : ∀ b u, h.get? b = some u → h'.get? b = some u) : Un fs ex H H h h' :=
  ⟨fun b ob q _ _ _ => k b ob q, fun b ob q _ _ _ => ⟨ob.slots, k b ob q⟩, fun _ _ _ n _ => n, fun b ob q _ => ⟨ob, k b ob q⟩, fun _ _ q => q, fun _ _ _ q => q, fun _ _ _ q => q⟩
theorem Un.refl : Un fs ex H H h h := Un.kept fun _ _ q => q
theorem Un.laid (k : ∀ b u, h.get? b = some u → h'.get? b = some u) (hp : h.objs.size ≤ a) (hn : H a = none) : Un fs ex H (upd H a o) h h' where
  keep := fun b u q _ _ _ => k b u q
  slot := fun b u q _ _ _ => ⟨u.slots, k b u q⟩
  free := fun b u q n _ => by rw [upd_ne (Nat.ne_of_lt (Nat.lt_of_lt_of_le (Heap.lt_size q) hp))]; exact n
  there := fun b u q _ => ⟨u, k b u q⟩
  tups := fun b xs q => by rw [upd_ne (ne_of_none q hn)]; exact q
  frzs := fun b u xs q => by rw [upd_ne (ne_of_none q hn)]; exact q
  tbls := fun b qs ps q => by rw [upd_ne (ne_of_none q hn)]; exact q
theorem Un.write (mu : Mut (H x)) (he : e = x ∨ H e = some (.own x)) (k : ∀ b u, b ≠ e → h.get? b = some u → h'.get? b = some u) (heo : ∃ u, h'.get? e = some u) : Un fs ex H (upd H x o) h h' := by
  have hx : ∀ b, H b = none → b ≠ x := fun b n z => by subst z; rw [n] at mu; exact mu
  have hb : ∀ b, H b = none → b ≠ e := fun b n z => by
    subst z
    rcases he with r | r
    · exact hx b n r
    · rw [n] at r; cases r
  have hm : ∀ b u, H b = some u → ¬ Mut (some u) → b ≠ x := fun b u q nm z => by subst z; rw [q] at mu; exact nm mu
  refine ⟨fun b u q n _ _ => k b u (hb b n) q, fun b u q n _ _ => ⟨u.slots, k b u (hb b n) q⟩, fun b u q n _ => by rw [upd_ne (hx b n)]; exact n, fun b u q _ => ?_,
    fun b xs q => by rw [upd_ne (hm b _ q fun z => z)]; exact q, fun b u xs q => by rw [upd_ne (hm b _ q fun z => z)]; exact q, fun b qs ps q => by rw [upd_ne (hm b _ q fun z => z)]; exact q⟩
  by_cases hbe : b = e
  · subst hbe; exact heo
  · exact ⟨u, k b u hbe q⟩
end
def trk (h : Heap) (H : Hp) : List Addr := (List.range h.objs.size).filter fun a => (H a).isSome
def hidT (h : Heap) (H : Hp) : Heap := PySem.W.hideAll h (trk h H)
theorem hidT_size (h : Heap) (H : Hp) : (hidT h H).objs.size = h.objs.size := PySem.W.hideAll_size _ _
theorem hidT_get {h : Heap} {H : Hp} {b : Addr} {o : Obj} (e : h.get? b = some o) (n : H b = none) : (hidT h H).get? b = some o :=
  PySem.W.hideAll_get _ e fun hm => by
    have q : (H b).isSome = true := (List.mem_filter.mp hm).2
    rw [n] at q; simp at q
theorem of_hidT {h : Heap} {H : Hp} {b : Addr} {o : Obj} (e : (hidT h H).get? b = some o) : h.get? b = some o ∧ H b = none := by
  have e' : h.get? b = some o := PySem.W.of_hideAll (trk h H) e
  refine ⟨e', ?_⟩
  cases q : H b with
  | none => rfl
  | some x =>
    have hm : b ∈ trk h H := List.mem_filter.mpr ⟨List.mem_range.mpr (Heap.lt_size e'), by simp [q]⟩
    have z : (hidT h H).get? b = none := PySem.W.hideAll_none (trk h H) hm
    rw [z] at e; cases e
def allNews (g h : Heap) (L : Addr) : List (Addr × Obj) := (List.range h.objs.size).filterMap fun a => if a = L ∨ (g.get? a).isSome = true then none else (h.get? a).map fun o => (a, o)
def rest (g h : Heap) (L d : Addr) : List (Addr × Obj) := (allNews g h L).filter fun p => decide (p.1 ≠ d)
structure Mod (K : PySem.W.Frag) (mg : Str → Option Value) (base : Heap) : Prop where
  kin : K.In base
  glob : base.Ns mainGlobals mg
  blt : ∃ mb, base.Ns builtinsNs mb ∧ ∀ x : Str, x ≠ "__name__" → mb x = bootBuiltins x
  nolimit : base.NoLimit
structure Cx where
  prog : Program
  w : World
  K : PySem.W.Frag
  mg : Str → Option Value
  base : Heap
  A : Around
  N : List Str
  s₀ : Shared
  H₀ : Hp
  env : Env
  outer : List Env
  stack : List Env
  ex : List Addr
  fn : Str → Bool
  calm : Bool
  pn : List (Addr × Obj)
  xe : Value → Shared → Prop
def frs (l : List Env) : List Addr := l.filterMap (·.frame)
abbrev Cx.fs (X : Cx) : List Addr := frs X.outer
def Vis (sc : Scope) (x : Str) : Prop := sc.names.lookup x = some .local ∨ sc.names.lookup x = some .cell ∨ sc.names.lookup x = some .free
def Loc (sc : Scope) (x : Str) : Prop := sc.names.lookup x = some .local ∨ sc.names.lookup x = some .cell
def Look (env : Env) (h : Heap) (m : Str → Option Value) (x : Str) (u : Value) : Prop :=
  (env.kindOf x = some .local ∧ m x = some u) ∨ ((env.kindOf x = some .cell ∨ env.kindOf x = some .free) ∧ ∃ c, env.cells.lookup x = some c ∧ h.IsCell c (some u))
structure Cx.Ok (X : Cx) : Prop where
  mod : Mod X.K X.mg X.base
  kind : X.env.scope.kind = .function
  glob : X.env.globals = mainGlobals
  blt : X.env.builtins = builtinsNs
  above : X.s₀.heap.objs.size ≤ X.env.locals
  inj : ∀ x y c, X.env.cells.lookup x = some c → X.env.cells.lookup y = some c → x = y
  has : ∀ x, (X.env.kindOf x = some .cell ∨ X.env.kindOf x = some .free) → ∃ c, X.env.cells.lookup x = some c
  cab : ∀ x c, X.fn x = true → X.env.cells.lookup x = some c → X.s₀.heap.objs.size ≤ c
  hd : X.calm = true → X.A.handled = none
  frames : X.A.frames = some X.stack
  stk : X.stack = X.outer ∨ (X.stack = X.env :: X.outer ∧ X.env.frame = some X.env.locals)
  exf : ∀ b ∈ X.ex, b ≠ X.env.locals ∧ ∀ x c, X.env.cells.lookup x = some c → c ≠ b
  bs : ∀ b o, X.base.get? b = some o → X.s₀.heap.get? b = some o ∧ X.H₀ b = none
  bsz : X.base.objs.size ≤ X.s₀.heap.objs.size
  noex : ∀ b o, X.base.get? b = some o → b ∉ X.ex
  exfs : ∀ b ∈ X.ex, b ∉ X.fs
  funs : X.s₀.heap.FunFrames X.base X.outer
  frf : ∀ b ∈ X.fs, X.H₀ b = none
structure Inv (X : Cx) (pins : List (Addr × Obj)) (σ : List (Option V)) (H : Hp) (s : Shared) : Prop where
  ok : X.Ok
  os : s.os = X.s₀.os
  bare : AllBare s.gens
  base : Un X.fs X.ex X.H₀ H X.s₀.heap s.heap
  loc : ∃ m, s.heap.Ns X.env.locals m ∧ ∀ (i : Nat) (x : Str) (v : V), X.N[i]? = some x → σ[i]? = some (some v) → Vis X.env.scope x → ∃ u, RelV v u ∧ Look X.env s.heap m x u
  cell : ∀ x c, X.env.cells.lookup x = some c → ∃ v, s.heap.IsCell c v
  free : H X.env.locals = none
  freeC : ∀ x c, X.env.cells.lookup x = some c → H c = none
  pin : ∀ p ∈ X.pn ++ pins, s.heap.get? p.1 = some p.2 ∧ H p.1 = none ∧ p.1 ≠ X.env.locals ∧ p.1 ∉ X.fs ∧ ∀ v, p.2.data ≠ .cell v
  hok : HOk X.prog X.w H s.heap
  len : σ.length = X.N.length
section
variable {X : Cx} {pins : List (Addr × Obj)} {σ : List (Option V)} {H H' : Hp} {s : Shared} {h' : Heap}
theorem Cx.Ok.nofr (ok : X.Ok) {b : Addr} {o : Obj} (e : X.base.get? b = some o) : b ∉ X.fs := fun hb => by
  have := (ok.funs.mem hb).1
  rw [e] at this; cases this
theorem Inv.bs (I : Inv X pins σ H s) : ∀ b o, X.base.get? b = some o → s.heap.get? b = some o ∧ H b = none := fun b o e =>
  ⟨I.base.keep b o (I.ok.bs b o e).1 (I.ok.bs b o e).2 (I.ok.nofr e) (I.ok.noex b o e), I.base.free b o (I.ok.bs b o e).1 (I.ok.bs b o e).2 (I.ok.noex b o e)⟩
theorem Inv.bk (I : Inv X pins σ H s) : ∀ b o, X.base.get? b = some o → s.heap.get? b = some o := fun b o e => (I.bs b o e).1
theorem Inv.mod (I : Inv X pins σ H s) : Mod X.K X.mg X.base := I.ok.mod
theorem Inv.kIn (I : Inv X pins σ H s) : X.K.In s.heap := I.ok.mod.kin.keeps I.bk
theorem Inv.lt (I : Inv X pins σ H s) : X.env.locals < s.heap.objs.size := let ⟨_, hn, _⟩ := I.loc; hn.lt
theorem Inv.sz (I : Inv X pins σ H s) : X.s₀.heap.objs.size ≤ s.heap.objs.size := Nat.le_trans I.ok.above (Nat.le_of_lt I.lt)
theorem Inv.nofs (I : Inv X pins σ H s) {a : Addr} (h : s.heap.objs.size ≤ a) : a ∉ X.fs := fun hb => by
  obtain ⟨_, o, ho, _⟩ := I.ok.funs.mem hb
  exact absurd (Nat.lt_of_lt_of_le (Heap.lt_size ho) (Nat.le_trans I.sz h)) (Nat.lt_irrefl _)
theorem Inv.cne (I : Inv X pins σ H s) : ∀ x c, X.env.cells.lookup x = some c → c ≠ X.env.locals := fun x c e z => by
  obtain ⟨v, o, ho, hd⟩ := I.cell x c e
  obtain ⟨m, ⟨o', es, ep, ho', hd', _⟩, _⟩ := I.loc
  rw [z, ho'] at ho; cases ho; rw [hd'] at hd; cases hd
theorem Inv.funs (I : Inv X pins σ H s) : s.heap.FunFrames X.base X.outer := by
  have all : ∀ (l : List Env), (∀ b ∈ frs l, b ∈ X.fs) → X.s₀.heap.FunFrames X.base l → s.heap.FunFrames X.base l := by
    intro l
    induction l with
    | nil => intro _ _; trivial
    | cons env r ih =>
      intro hs hl
      obtain ⟨hk, ⟨L, o, hf, hn, ho, hd⟩, hr⟩ := hl
      have hL : L ∈ X.fs := hs L (by unfold frs; rw [List.filterMap_cons, hf]; exact List.mem_cons_self)
      obtain ⟨sl, e⟩ := I.base.slot L o ho (I.ok.frf L hL) hL fun z => I.ok.exfs L z hL
      exact ⟨hk, ⟨L, _, hf, hn, e, hd⟩, ih (fun b hb => hs b (by unfold frs; rw [List.filterMap_cons, hf]; exact List.mem_cons_of_mem _ hb)) hr⟩
  exact all X.outer (fun _ hb => hb) I.ok.funs
theorem Inv.stack (I : Inv X pins σ H s) : s.heap.FunFrames X.base X.stack := by
  rcases I.ok.stk with e | ⟨e, hf⟩
  · rw [e]; exact I.funs
  · rw [e]
    obtain ⟨m, hn, _⟩ := I.loc
    refine .cons (by rw [I.ok.kind]; decide) hf hn ?_ I.funs
    exact Heap.get?_none_of_le (Nat.le_trans I.ok.bsz I.ok.above)
theorem Inv.stkSub (I : Inv X pins σ H s) : ∀ b ∈ frs X.stack, b ∈ X.env.locals :: X.fs := fun b hb => by
  rcases I.ok.stk with e | ⟨e, hf⟩
  · rw [e] at hb; exact List.mem_cons_of_mem _ hb
  · rw [e] at hb
    unfold frs at hb
    rw [List.filterMap_cons, hf] at hb
    exact hb
theorem Inv.stkFree (I : Inv X pins σ H s) : ∀ b ∈ frs X.stack, H b = none := fun b hb => by
  rcases List.mem_cons.mp (I.stkSub b hb) with e | hb
  · rw [e]; exact I.free
  · obtain ⟨_, o, ho, _⟩ := I.ok.funs.mem hb
    exact I.base.free b o ho (I.ok.frf b hb) fun z => I.ok.exfs b z hb
theorem Inv.step {g' : Array GenState} {t' : Nat} {d' : Drawn} {ch : List Addr} (I : Inv X pins σ H s)
    (hch : ∀ b ∈ ch, (b ∈ X.ex ∨ X.s₀.heap.objs.size ≤ b) ∧ b ≠ X.env.locals ∧ (∀ x c, X.env.cells.lookup x = some c → c ≠ b) ∧ ∀ p ∈ X.pn ++ pins, p.1 ≠ b)
    (keep : ∀ b o, b ≠ X.env.locals → b ∉ X.fs → b ∉ ch → s.heap.get? b = some o → H b = none → h'.get? b = some o)
    (slot : ∀ b o, b ≠ X.env.locals → b ∈ X.fs → b ∉ ch → s.heap.get? b = some o → H b = none → ∃ sl, h'.get? b = some { o with slots := sl }) (free : ∀ b o, b ∉ ch → s.heap.get? b = some o → H b = none → H' b = none)
    (there : ∀ b o, b ∉ ch → s.heap.get? b = some o → ∃ o', h'.get? b = some o')
    (tups : ∀ b xs, H b = some (.tup xs) → H' b = some (.tup xs)) (frzs : ∀ b o u, H b = some (.frz o u) → H' b = some (.frz o u)) (tbls : ∀ b qs ps, H b = some (.tbl qs ps) → H' b = some (.tbl qs ps))
    (ns : ∀ m, s.heap.Ns X.env.locals m → h'.Ns X.env.locals m) (hok : HOk X.prog X.w H' h') (hg : AllBare g') :
    Inv X pins σ H' { s with heap := h', gens := g', drawn := d', toks := t' } := by
  have neL : ∀ b o, X.s₀.heap.get? b = some o → b ≠ X.env.locals := fun b o e => Nat.ne_of_lt (Nat.lt_of_lt_of_le (Heap.lt_size e) I.ok.above)
  have neC : ∀ b o, X.s₀.heap.get? b = some o → b ∉ X.ex → b ∉ ch := fun b o e hx hb => by
    rcases (hch b hb).1 with z | z
    · exact hx z
    · exact absurd (Nat.lt_of_lt_of_le (Heap.lt_size e) z) (Nat.lt_irrefl _)
  have cellK : ∀ x c, X.env.cells.lookup x = some c → ∀ v, s.heap.IsCell c v → h'.IsCell c v := fun x c e v ⟨o, ho, hd⟩ => by
    have nch : c ∉ ch := fun z => (hch c z).2.2.1 x c e rfl
    by_cases hc : c ∈ X.fs
    · obtain ⟨sl, q⟩ := slot c o (I.cne x c e) hc nch ho (I.freeC x c e)
      exact ⟨_, q, hd⟩
    · exact ⟨o, keep c o (I.cne x c e) hc nch ho (I.freeC x c e), hd⟩
  refine ⟨I.ok, I.os, hg, ⟨fun b o e n hb hx => ?_, fun b o e n hb hx => ?_, fun b o e n hx => ?_, fun b o e hx => ?_, fun b xs e => tups b xs (I.base.tups b xs e), fun b o xs e => frzs b o xs (I.base.frzs b o xs e), fun b qs ps e => tbls b qs ps (I.base.tbls b qs ps e)⟩, ?_, fun x c e => ?_, ?_, fun x c e => ?_, fun p hp => ?_, hok, I.len⟩
  · exact keep b o (neL b o e) hb (neC b o e hx) (I.base.keep b o e n hb hx) (I.base.free b o e n hx)
  · obtain ⟨sl, e1⟩ := I.base.slot b o e n hb hx
    obtain ⟨sl', e2⟩ := slot b _ (neL b o e) hb (neC b o e hx) e1 (I.base.free b o e n hx)
    exact ⟨sl', e2⟩
  · obtain ⟨o', e1⟩ := I.base.there b o e hx
    exact free b o' (neC b o e hx) e1 (I.base.free b o e n hx)
  · obtain ⟨o', e1⟩ := I.base.there b o e hx
    exact there b o' (neC b o e hx) e1
  · obtain ⟨m, hn, hl⟩ := I.loc
    refine ⟨m, ns m hn, fun i x v e1 e2 e3 => ?_⟩
    obtain ⟨u, r, l⟩ := hl i x v e1 e2 e3
    refine ⟨u, r, ?_⟩
    rcases l with l | ⟨k, c, e, z⟩
    · exact .inl l
    · exact .inr ⟨k, c, e, cellK x c e _ z⟩
  · obtain ⟨v, z⟩ := I.cell x c e
    exact ⟨v, cellK x c e v z⟩
  · obtain ⟨m, ⟨o, _, _, ho, _⟩, _⟩ := I.loc
    exact free _ o (fun z => (hch _ z).2.1 rfl) ho I.free
  · obtain ⟨v, o, ho, hd⟩ := I.cell x c e
    exact free c o (fun z => (hch c z).2.2.1 x c e rfl) ho (I.freeC x c e)
  · obtain ⟨e, n, ne, nf, d⟩ := I.pin p hp
    have nch : p.1 ∉ ch := fun z => (hch p.1 z).2.2.2 p hp rfl
    exact ⟨keep p.1 p.2 ne nf nch e n, free p.1 p.2 nch e n, ne, nf, d⟩
theorem Inv.un {t' : Nat} (I : Inv X pins σ H s) (u : Un X.fs [] H H' s.heap h') (hok : HOk X.prog X.w H' h') : Inv X pins σ H' { s with heap := h', toks := t' } := by
  obtain ⟨m, ⟨o, es, ep, ho, r⟩, _⟩ := id I.loc
  obtain ⟨sl, hL⟩ := u.any ho I.free (by simp)
  exact I.step (g' := s.gens) (d' := s.drawn) (ch := []) (fun _ z => nomatch z) (fun b o _ hb _ e n => u.keep b o e n hb (by simp)) (fun b o _ hb _ e n => u.slot b o e n hb (by simp)) (fun b o _ e n => u.free b o e n (by simp)) (fun b o _ e => u.there b o e (by simp)) u.tups u.frzs u.tbls (fun m' hm => by
    obtain ⟨o', es', ep', ho', r'⟩ := hm
    rw [ho] at ho'; cases ho'
    exact ⟨_, es', ep', hL, r'⟩) hok I.bare
theorem Inv.call {g' : Array GenState} {t' : Nat} {d' : Drawn} {ch : List Addr} (I : Inv X pins σ H s) (u : Un (frs X.stack) ch H H' s.heap h') (hok : HOk X.prog X.w H' h') (hg : AllBare g')
    (hch : ∀ b ∈ ch, (b ∈ X.ex ∨ X.s₀.heap.objs.size ≤ b) ∧ b ≠ X.env.locals ∧ (∀ x c, X.env.cells.lookup x = some c → c ≠ b) ∧ ∀ p ∈ X.pn ++ pins, p.1 ≠ b) :
    Inv X pins σ H' { s with heap := h', gens := g', drawn := d', toks := t' } := by
  obtain ⟨m, ⟨o, es, ep, ho, r⟩, _⟩ := id I.loc
  obtain ⟨sl, hL⟩ := u.any ho I.free fun z => (hch _ z).2.1 rfl
  exact I.step (ch := ch) hch (fun b o hL hb hc e n => u.keep b o e n (fun z => (List.mem_cons.mp (I.stkSub b z)).elim hL hb) hc) (fun b o _ _ hc e n => u.any e n hc) (fun b o hc e n => u.free b o e n hc) (fun b o hc e => u.there b o e hc) u.tups u.frzs u.tbls (fun m' hm => by
    obtain ⟨o', es', ep', ho', r'⟩ := hm
    rw [ho] at ho'; cases ho'
    exact ⟨_, es', ep', hL, r'⟩) hok hg
theorem Inv.turned {t' : Nat} {it : Addr} (I : Inv X pins σ H s) (k : ∀ b o, b ≠ it → s.heap.get? b = some o → h'.get? b = some o) (hn : H it = none) (hL : it ≠ X.env.locals)
    (h1 : it ∈ X.ex ∨ X.s₀.heap.objs.size ≤ it) (h2 : ∀ x c, X.env.cells.lookup x = some c → c ≠ it) (h3 : ∀ p ∈ X.pn ++ pins, p.1 ≠ it) : Inv X pins σ H { s with heap := h', toks := t' } := by
  have nit : ∀ b u, H b = some u → b ≠ it := fun b u e z => by rw [z, hn] at e; cases e
  refine I.step (g' := s.gens) (d' := s.drawn) (ch := [it]) (fun b hb => ?_) (fun b o _ _ hc e _ => k b o (fun z => hc (by simp [z])) e) (fun b o _ _ hc e _ => ⟨o.slots, k b o (fun z => hc (by simp [z])) e⟩) (fun _ _ _ _ n => n)
    (fun b o hc e => ⟨o, k b o (fun z => hc (by simp [z])) e⟩) (fun _ _ e => e) (fun _ _ _ e => e) (fun _ _ _ e => e) (fun m hm => ?_) (fun b u e => ?_) I.bare
  · have e : b = it := by simpa using hb
    subst e
    exact ⟨h1, hL, h2, h3⟩
  · obtain ⟨o, es, ep, ho, r⟩ := hm
    exact ⟨o, es, ep, k _ o (Ne.symm hL) ho, r⟩
  · refine (I.hok b u e).stay (fun c v hc q => k c v ?_ q) (fun _ q => q) (fun _ _ _ _ _ q => q) fun _ _ q => q
    rcases hc with z | z
    · rw [z]; exact nit b u e
    · exact nit c _ z
theorem Inv.tok (I : Inv X pins σ H s) (t : Nat) : Inv X pins σ H { s with toks := t } := I.un (h' := s.heap) (t' := t) Un.refl I.hok
theorem Inv.kept {t' : Nat} (I : Inv X pins σ H s) (k : ∀ b u, s.heap.get? b = some u → h'.get? b = some u) : Inv X pins σ H { s with heap := h', toks := t' } := I.un (Un.kept k) (I.hok.kept k)
theorem Inv.laid {a : Addr} {o : HO} {t' : Nat} (I : Inv X pins σ H s) (k : ∀ b u, s.heap.get? b = some u → h'.get? b = some u) (hp : s.heap.objs.size ≤ a) (new : ObjOk X.prog X.w (upd H a o) h' a o) :
    Inv X pins σ (upd H a o) { s with heap := h', toks := t' } := I.un (Un.laid k hp (I.hok.fresh hp)) (I.hok.laid k hp new)
theorem Inv.write {x e : Addr} {o : HO} {t' : Nat} (I : Inv X pins σ H s) (mu : Mut (H x)) (he : e = x ∨ H e = some (.own x)) (k : ∀ b u, b ≠ e → s.heap.get? b = some u → h'.get? b = some u) (heo : ∃ u, h'.get? e = some u)
    (new : ObjOk X.prog X.w (upd H x o) h' x o) : Inv X pins σ (upd H x o) { s with heap := h', toks := t' } := I.un (Un.write mu he k heo) (I.hok.write mu he k heo new)
theorem Inv.pins_of {pins' : List (Addr × Obj)} (I : Inv X pins σ H s) (h : ∀ p ∈ pins', s.heap.get? p.1 = some p.2 ∧ H p.1 = none ∧ p.1 ≠ X.env.locals ∧ p.1 ∉ X.fs ∧ ∀ v, p.2.data ≠ .cell v) : Inv X pins' σ H s :=
  ⟨I.ok, I.os, I.bare, I.base, I.loc, I.cell, I.free, I.freeC, fun p hp => (List.mem_append.mp hp).elim (fun z => I.pin p (List.mem_append_left _ z)) (h p), I.hok, I.len⟩
theorem nodup_ix {N : List Str} (hN : N.Nodup) {i j : Nat} {x : Str} (a : N[i]? = some x) (b : N[j]? = some x) : i = j := by
  obtain ⟨h1, e1⟩ := List.getElem?_eq_some_iff.mp a
  obtain ⟨h2, e2⟩ := List.getElem?_eq_some_iff.mp b
  exact (List.getElem_inj hN).mp (e1.trans e2.symm)
theorem store_ok2 {M : Model} {A : Around} {E : Value → Shared → Prop} {i : Nat} {x : Str} {v : V} {u : Value} {Q : Unit → Shared → Prop} (I : Inv X pins σ H s) (hN : X.N.Nodup) (hi : X.N[i]? = some x) (hx : Loc X.env.scope x) (r : RelV v u)
    (h : ∀ s', Inv X pins (σ.set i (some v)) H s' → (∃ a, Heap.SameBut a s.heap s'.heap ∧ (a = X.env.locals ∨ X.env.cells.lookup x = some a)) → Q () s') (hf : X.fn x = true ∨ X.env.scope.names.lookup x = some .local := by first | exact .inl rfl | exact .inr rfl | assumption) : wpAny M A (storeName X.env x u) Q E s := by
  obtain ⟨m, hn, hl⟩ := id I.loc
  have hcls : (X.env.scope.kind == .class || (X.env.scope.kind == .module && X.env.locals != X.env.globals)) = false := by rw [I.ok.kind]; rfl
  have hiσ : i < σ.length := by rw [I.len]; exact (List.getElem?_eq_some_iff.mp hi).1
  have cne := I.cne
  have tracked : ∀ {a : Addr} {h' : Heap}, (∃ o, s.heap.get? a = some o ∧ H a = none) → Heap.SameBut a s.heap h' → HOk X.prog X.w H h' := fun {a h'} ha hs b ob e => by
    obtain ⟨_, _, hfree⟩ := ha
    refine (I.hok b ob e).stay (fun c w' hc q => (hs.2 c ?_).trans q) (fun _ q => q) (fun _ _ _ _ _ q => q) fun _ _ q => q
    rintro rfl
    rcases hc with rfl | hc
    · rw [hfree] at e; cases e
    · rw [hfree] at hc; cases hc
  rcases hx with hk | hk
  · refine wpAny_storeName_local hk hn (fun h' hn' hs => ?_) hcls
    obtain ⟨oL, _, _, hoL, _⟩ := id hn
    refine h _ ⟨I.ok, I.os, I.bare, ⟨fun b o e n hb hx => ?_, fun b o e n hb hx => ?_, I.base.free, fun b o e hx => ?_, I.base.tups, I.base.frzs, I.base.tbls⟩, ⟨_, hn', fun j y v' e1 e2 e3 => ?_⟩, fun y c e => ?_, I.free, I.freeC, fun p hp => ?_, tracked ⟨oL, hoL, I.free⟩ hs, by simpa using I.len⟩ ⟨_, hs, .inl rfl⟩
    · exact (hs.2 b (Nat.ne_of_lt (Nat.lt_of_lt_of_le (Heap.lt_size e) I.ok.above))).trans (I.base.keep b o e n hb hx)
    · obtain ⟨sl, e1⟩ := I.base.slot b o e n hb hx
      exact ⟨sl, (hs.2 b (Nat.ne_of_lt (Nat.lt_of_lt_of_le (Heap.lt_size e) I.ok.above))).trans e1⟩
    · obtain ⟨o', e1⟩ := I.base.there b o e hx
      exact ⟨o', (hs.2 b (Nat.ne_of_lt (Nat.lt_of_lt_of_le (Heap.lt_size e) I.ok.above))).trans e1⟩
    · by_cases hj : j = i
      · subst hj
        rw [hi] at e1; cases e1
        rw [List.getElem?_set_self hiσ] at e2
        cases e2
        exact ⟨u, r, .inl ⟨hk, by simp⟩⟩
      · rw [List.getElem?_set_ne (Ne.symm hj)] at e2
        obtain ⟨u', r', q⟩ := hl j y v' e1 e2 e3
        refine ⟨u', r', ?_⟩
        rcases q with ⟨k, e⟩ | ⟨k, c, e, z⟩
        · refine .inl ⟨k, ?_⟩
          have : y ≠ x := fun e => hj (nodup_ix hN e1 (e ▸ hi))
          simp [this, e]
        · exact .inr ⟨k, c, e, z.sameBut hs (cne y c e)⟩
    · obtain ⟨w', z⟩ := I.cell y c e
      exact ⟨w', z.sameBut hs (cne y c e)⟩
    · obtain ⟨e, n, ne, nf, d⟩ := I.pin p hp
      exact ⟨(hs.2 p.1 ne).trans e, n, ne, nf, d⟩
  · have hfn : X.fn x = true := by
      rcases hf with z | z
      · exact z
      · rw [z] at hk; cases hk
    obtain ⟨c, hc⟩ := I.ok.has x (.inl hk)
    obtain ⟨w', z⟩ := I.cell x c hc
    refine wpAny_storeName_cell I.ok.kind hk hc z (fun h' hc' hs => ?_)
    obtain ⟨oc, hoc, hocd⟩ := id z
    refine h { s with heap := h' } ⟨I.ok, I.os, I.bare, ⟨fun b o e n hb hx => ?_, fun b o e n hb hx => ?_, I.base.free, fun b o e hx => ?_, I.base.tups, I.base.frzs, I.base.tbls⟩, ⟨m, hn.sameBut hs (Ne.symm (cne x c hc)), fun j y v' e1 e2 e3 => ?_⟩, fun y c' e => ?_, I.free, I.freeC, fun p hp => ?_, tracked ⟨oc, hoc, I.freeC x c hc⟩ hs, by simpa using I.len⟩ ⟨c, hs, .inr hc⟩
    · exact (hs.2 b (Nat.ne_of_lt (Nat.lt_of_lt_of_le (Heap.lt_size e) (I.ok.cab x c hfn hc)))).trans (I.base.keep b o e n hb hx)
    · obtain ⟨sl, e1⟩ := I.base.slot b o e n hb hx
      exact ⟨sl, (hs.2 b (Nat.ne_of_lt (Nat.lt_of_lt_of_le (Heap.lt_size e) (I.ok.cab x c hfn hc)))).trans e1⟩
    · obtain ⟨o', e1⟩ := I.base.there b o e hx
      exact ⟨o', (hs.2 b (Nat.ne_of_lt (Nat.lt_of_lt_of_le (Heap.lt_size e) (I.ok.cab x c hfn hc)))).trans e1⟩
    · by_cases hj : j = i
      · subst hj
        rw [hi] at e1; cases e1
        rw [List.getElem?_set_self hiσ] at e2
        cases e2
        exact ⟨u, r, .inr ⟨.inl hk, c, hc, hc'⟩⟩
      · rw [List.getElem?_set_ne (Ne.symm hj)] at e2
        obtain ⟨u', r', q⟩ := hl j y v' e1 e2 e3
        refine ⟨u', r', ?_⟩
        rcases q with q | ⟨k, c', e, z'⟩
        · exact .inl q
        · refine .inr ⟨k, c', e, z'.sameBut hs ?_⟩
          rintro rfl
          exact hj (nodup_ix hN e1 (I.ok.inj _ _ _ e hc ▸ hi))
    · by_cases hcc : c' = c
      · subst hcc; exact ⟨_, hc'⟩
      · obtain ⟨w2, z2⟩ := I.cell y c' e
        exact ⟨w2, z2.sameBut hs hcc⟩
    · obtain ⟨e, n, ne, nf, d⟩ := I.pin p hp
      refine ⟨(hs.2 p.1 ?_).trans e, n, ne, nf, d⟩
      intro q
      rw [q, hoc] at e
      have q' : oc = p.2 := Option.some.inj e
      exact d w' (by rw [← q']; exact hocd)
theorem store_ok {M : Model} {A : Around} {E : Value → Shared → Prop} {i : Nat} {x : Str} {v : V} {u : Value} {Q : Unit → Shared → Prop} (I : Inv X pins σ H s) (hN : X.N.Nodup) (hi : X.N[i]? = some x) (hx : Loc X.env.scope x) (r : RelV v u)
    (h : ∀ s', Inv X pins (σ.set i (some v)) H s' → Q () s') (hf : X.fn x = true ∨ X.env.scope.names.lookup x = some .local := by first | exact .inl rfl | exact .inr rfl | assumption) : wpAny M A (storeName X.env x u) Q E s :=
  store_ok2 I hN hi hx r (fun s' I' _ => h s' I') hf
theorem Inv.call' {s' : Shared} {ch : List Addr} (I : Inv X pins σ H s) (ho : s'.os = s.os) (u : Un (frs X.stack) ch H H' s.heap s'.heap) (hok : HOk X.prog X.w H' s'.heap) (hg : AllBare s'.gens)
    (hch : ∀ b ∈ ch, (b ∈ X.ex ∨ X.s₀.heap.objs.size ≤ b) ∧ b ≠ X.env.locals ∧ (∀ x c, X.env.cells.lookup x = some c → c ≠ b) ∧ ∀ p ∈ X.pn ++ pins, p.1 ≠ b) : Inv X pins σ H' s' := by
  obtain ⟨h', g', d', t', o'⟩ := s'
  have e : o' = s.os := ho
  subst e
  exact I.call (g' := g') (t' := t') (d' := d') u hok hg hch
end
abbrev XK := Value → Option Addr → Hp → Prop
abbrev St := List (Option V)
abbrev VK := V → Hp → Prop
abbrev TE := St → Hp → VK → Prop
abbrev TT := St → Hp → (Bool → Hp → Prop) → Prop
abbrev TA := St → Hp → (List V → Hp → Prop) → Prop
structure Ends where
  nx : St → Hp → Prop
  rt : VK
  bk : St → Hp → Prop := fun _ _ => False
  ct : St → Hp → Prop := fun _ _ => False
abbrev TS := Ends → St → Hp → Prop
def EP (X : Cx) (pins : List (Addr × Obj)) (σ : St) (Q : VK) (u : Value) (s' : Shared) : Prop := ∃ v H', Inv X pins σ H' s' ∧ RelV v u ∧ Q v H'
def TP (X : Cx) (pins : List (Addr × Obj)) (σ : St) (Q : Bool → Hp → Prop) (b : Bool) (s' : Shared) : Prop := ∃ H', Inv X pins σ H' s' ∧ Q b H'
def AP (X : Cx) (pins : List (Addr × Obj)) (σ : St) (Q : List V → Hp → Prop) (us : List Value) (s' : Shared) : Prop := ∃ vs H', Inv X pins σ H' s' ∧ Vals vs us ∧ Q vs H'
def SP (X : Cx) (pins : List (Addr × Obj)) (D : Ends) (f : Flow) (s' : Shared) : Prop :=
  match f with
  | .next => ∃ σ' H', Inv X pins σ' H' s' ∧ D.nx σ' H'
  | .brk => ∃ σ' H', Inv X pins σ' H' s' ∧ D.bk σ' H'
  | .cont => ∃ σ' H', Inv X pins σ' H' s' ∧ D.ct σ' H'
  | .ret u => ∃ v σ' H', Inv X pins σ' H' s' ∧ RelV v u ∧ D.rt v H'
def PE (X : Cx) (e : Expr) (t : TE) : Prop :=
  ∀ (pins : List (Addr × Obj)) (s : Shared) (σ : St) (H : Hp) (Q : VK), Inv X pins σ H s → t σ H Q → wpAny (model X.prog X.w) X.A (eval e X.env) (EP X pins σ Q) X.xe s
def PT (X : Cx) (e : Expr) (t : TT) : Prop :=
  ∀ (pins : List (Addr × Obj)) (s : Shared) (σ : St) (H : Hp) (Q : Bool → Hp → Prop), Inv X pins σ H s → t σ H Q → wpAny (model X.prog X.w) X.A (isTrue e X.env (eval e X.env)) (TP X pins σ Q) X.xe s
def PW (X : Cx) (e : Expr) (t : TT) : Prop :=
  ∀ (whole : Sem Value) (pins : List (Addr × Obj)) (s : Shared) (σ : St) (H : Hp) (Q : Bool → Hp → Prop), Inv X pins σ H s → t σ H Q → wpAny (model X.prog X.w) X.A (isTrue e X.env whole) (TP X pins σ Q) X.xe s
theorem PW.pt {X : Cx} {e : Expr} {t : TT} (h : PW X e t) : PT X e t := h _
def PA (X : Cx) (es : List Expr) (t : TA) : Prop :=
  ∀ (pos : Pos) (pins : List (Addr × Obj)) (s : Shared) (σ : St) (H : Hp) (Q : List V → Hp → Prop), Inv X pins σ H s → t σ H Q → wpAny (model X.prog X.w) X.A (spliced (backTo pos (starEach es X.env))) (AP X pins σ Q) X.xe s
def PS (X : Cx) (st : Stmt) (t : TS) : Prop :=
  ∀ (pins : List (Addr × Obj)) (s : Shared) (σ : St) (H : Hp) (D : Ends), Inv X pins σ H s → t D σ H → wpAny (model X.prog X.w) X.A (exec st X.env) (SP X pins D) X.xe s
def PSs (X : Cx) (st : List Stmt) (t : TS) : Prop :=
  ∀ (pins : List (Addr × Obj)) (s : Shared) (σ : St) (H : Hp) (D : Ends), Inv X pins σ H s → t D σ H → wpAny (model X.prog X.w) X.A (execs st X.env) (SP X pins D) X.xe s
theorem thn {α : Type} {t : Sem α} {Q Q' : α → Shared → Prop} {M : Model} {A : Around} {E : Value → Shared → Prop} {s : Shared} (h : wpAny M A t Q E s) (hQ : ∀ a s, Q a s → Q' a s) : wpAny M A t Q' E s := wpAny_mono h hQ fun _ _ x => x
section
variable {X : Cx}
theorem bin {a b : Expr} {ta tb : TE} (ha : PE X a ta) (hb : PE X b tb) {pins : List (Addr × Obj)} {s : Shared} {σ : St} {H : Hp} {R : V → V → Hp → Prop} (I : Inv X pins σ H s) (h : ta σ H fun x H1 => tb σ H1 fun y H2 => R x y H2)
    {α : Type} {Q : α → Shared → Prop} {f : Value → Value → Sem α}
    (hf : ∀ v u s2 x y H2, Inv X pins σ H2 s2 → RelV x v → RelV y u → R x y H2 → wpAny (model X.prog X.w) X.A (f v u) Q X.xe s2) :
    wpAny (model X.prog X.w) X.A (eval a X.env) (fun v s₁ => wpAny (model X.prog X.w) X.A (eval b X.env) (fun u s₂ => wpAny (model X.prog X.w) X.A (f v u) Q X.xe s₂) X.xe s₁) X.xe s := by
  refine thn (ha pins s σ H _ I h) fun v s1 ⟨x, H1, I1, r1, q1⟩ => ?_
  refine thn (hb pins s1 σ H1 _ I1 q1) fun u s2 ⟨y, H2, I2, r2, q2⟩ => ?_
  exact hf v u s2 x y H2 I2 r1 r2 q2
def tVar (i : Nat) : TE := fun σ H Q => ∃ v, σ[i]? = some (some v) ∧ Q v H
def tC (v : V) : TE := fun _ H Q => Q v H
theorem pe_var {i : Nat} {x : Str} {pos : Pos} (hN : X.N[i]? = some x) (hv : Vis X.env.scope x) (hd : (x == ("__debug__" : Str)) = false := by decide) (hcd : (x == ("__classdict__" : Str)) = false := by decide) : PE X (.Name x pos) (tVar i) := by
  intro pins s σ H Q I h
  obtain ⟨v, e, h⟩ := h
  obtain ⟨m, hn, hl⟩ := I.loc
  obtain ⟨u, r, l⟩ := hl i x v hN e hv
  have fin : EP X pins σ Q u s := ⟨v, H, I, r, h⟩
  rcases l with ⟨hk, hm⟩ | ⟨hk, c, hc, hcell⟩
  · exact wpAny_Name (wpAny_loadName_local I.ok.kind hk hn hm fin) hd
  · rcases hk with hk | hk
    · exact wpAny_Name (wpAny_loadName_cell I.ok.kind hk hc hcell fin) hd
    · exact wpAny_Name (wpAny_loadName_free I.ok.kind hk hc hcell fin hcd) hd
theorem pe_int {i j pos} : PE X (.Constant (.int i) j pos) (tC (.int i)) := fun _ _ _ H _ I h => wpAny_Constant_int ⟨.int i, H, I.tok _, ⟨_, rfl⟩, h⟩
theorem pe_bl {b j pos} : PE X (.Constant (.bool b) j pos) (tC (.bl b)) := fun _ _ _ H _ I h => Constant_bool ⟨.bl b, H, I, rfl, h⟩
theorem pe_str {x j pos} : PE X (.Constant (.str x) j pos) (tC (.str x)) := fun _ _ _ H _ I h => Calls.Constant_str ⟨.str x, H, I.tok _, ⟨_, rfl⟩, h⟩
def Gl (X : Cx) (x : Str) : Prop := X.env.kindOf x = some .globalImplicit
theorem ld_glob {E : Value → Shared → Prop} {pins : List (Addr × Obj)} {s : Shared} {σ : St} {H : Hp} {x : Str} {u : Value} {pos : Pos} {Q : Value → Shared → Prop} (I : Inv X pins σ H s) (hg : Gl X x) (hm : X.mg x = some u) (h : Q u s)
    (hd : (x == ("__debug__" : Str)) = false := by decide) : wpAny (model X.prog X.w) X.A (eval (.Name x pos) X.env) Q E s :=
  Calls.Name_function_global I.ok.kind hg (Calls.loadGlobal_global (by rw [I.ok.glob]; exact I.mod.glob.keeps I.bk) hm h) hd
theorem ld_blt {E : Value → Shared → Prop} {pins : List (Addr × Obj)} {s : Shared} {σ : St} {H : Hp} {x : Str} {u : Value} {pos : Pos} {Q : Value → Shared → Prop} (I : Inv X pins σ H s) (hg : Gl X x) (hm : X.mg x = none) (hv : bootBuiltins x = some u) (h : Q u s)
    (hn : x ≠ "__name__" := by decide) (hd : (x == ("__debug__" : Str)) = false := by decide) : wpAny (model X.prog X.w) X.A (eval (.Name x pos) X.env) Q E s := by
  obtain ⟨mb, h1, h2⟩ := I.mod.blt
  exact Calls.Name_function_global I.ok.kind hg (Calls.loadGlobal_builtin (by rw [I.ok.glob]; exact I.mod.glob.keeps I.bk) hm (by rw [I.ok.blt]; exact h1.keeps I.bk) ((h2 x hn).trans hv) h) hd
theorem pe_glob {x : Str} {v : V} {u : Value} {pos : Pos} (hg : Gl X x) (hm : X.mg x = some u) (r : RelV v u) (hd : (x == ("__debug__" : Str)) = false := by decide) : PE X (.Name x pos) (tC v) :=
  fun _ _ _ H _ I h => ld_glob I hg hm ⟨v, H, I, r, h⟩ hd
theorem pe_bltn {x : Str} {v : V} {u : Value} {pos : Pos} (hg : Gl X x) (hm : X.mg x = none) (hv : bootBuiltins x = some u) (r : RelV v u) (hn : x ≠ "__name__" := by decide) (hd : (x == ("__debug__" : Str)) = false := by decide) : PE X (.Name x pos) (tC v) :=
  fun _ _ _ H _ I h => ld_blt I hg hm hv ⟨v, H, I, r, h⟩ hn hd
variable {a b : Expr} {ta tb : TE} {pos : Pos}
def PC (X : Cx) (op : CmpOp) (a b : Expr) (t : TE) : Prop :=
  ∀ (pins : List (Addr × Obj)) (s : Shared) (σ : St) (H : Hp) (Q : VK), Inv X pins σ H s → t σ H Q →
    wpAny (model X.prog X.w) X.A (eval a X.env) (fun v s₁ => wpAny (model X.prog X.w) X.A (eval b X.env) (fun u s₂ => wpAny (model X.prog X.w) X.A (compareOp op v u) (EP X pins σ Q) X.xe s₂) X.xe s₁) X.xe s
def tB (t : TE) : TT := fun σ H Q => t σ H fun x H1 => ∃ c, x = .bl c ∧ Q c H1
theorem pt_cmp {op : CmpOp} {t : TE} (h : PC X op a b t) (h1 : behindInMarks op b = false := by first | exact nobehind _ (by decide) (by decide) | rfl) : PT X (.Compare a [op] [b] pos) (tB t) := by
  intro pins s σ H Q I hw
  refine wpAny_isTrue_Compare1 (thn (h pins s σ H _ I hw) fun v s1 h1 => thn h1 fun u s2 h2 => thn h2 fun c s3 ⟨x, H1, I1, r1, q1⟩ => ?_) h1
  obtain ⟨d, rfl, q⟩ := q1
  cases r1
  exact wpAny_truthy_bool ⟨H1, I1, q⟩
theorem pt_val {e : Expr} {t : TE} (h : PE X e t) (he : ∀ whole, isTrue e X.env whole = (do let v ← whole; standAt e.pos; holding [v] (truthy v)) := by intro _; rfl) : PT X e (tB t) := by
  intro pins s σ H Q I hw
  refine isTrue_plain (thn (h pins s σ H _ I hw) fun v s1 ⟨x, H1, I1, r1, q1⟩ => ?_) (he _)
  obtain ⟨d, rfl, q⟩ := q1
  cases r1
  exact wpAny_truthy_bool ⟨H1, I1, q⟩
variable {tA tB' : TT} {rest : List Expr}
def tAnd (t u : TT) : TT := fun σ H Q => t σ H fun c H1 => if c = true then u σ H1 Q else Q false H1
def tOr (t u : TT) : TT := fun σ H Q => t σ H fun c H1 => if c = true then Q true H1 else u σ H1 Q
def tNot (t : TT) : TT := fun σ H Q => t σ H fun c H1 => Q (!c) H1
theorem pw_and1 (ha : PT X a tA) : PW X (.BoolOp .And [a] pos) tA := by
  intro wh pins s σ H Q I h
  refine isTrue_and (thn (ha pins s σ H Q I h) fun c s1 e => ?_)
  cases c with
  | true => exact isTrue_and_nil e
  | false => exact e
theorem pw_or1 (ha : PT X a tA) : PW X (.BoolOp .Or [a] pos) tA := by
  intro wh pins s σ H Q I h
  refine isTrue_or (thn (ha pins s σ H Q I h) fun c s1 e => ?_)
  cases c with
  | false => exact isTrue_or_nil e
  | true => exact e
theorem pw_and (ha : PT X a tA) (hb : PW X (.BoolOp .And (b :: rest) pos) tB') : PW X (.BoolOp .And (a :: b :: rest) pos) (tAnd tA tB') := by
  intro wh pins s σ H Q I h
  refine isTrue_and (thn (ha pins s σ H _ I h) fun c s1 ⟨H1, I1, q1⟩ => ?_)
  cases c with
  | true => exact hb wh pins s1 σ H1 Q I1 q1
  | false => exact ⟨H1, I1, q1⟩
theorem pw_or (ha : PT X a tA) (hb : PW X (.BoolOp .Or (b :: rest) pos) tB') : PW X (.BoolOp .Or (a :: b :: rest) pos) (tOr tA tB') := by
  intro wh pins s σ H Q I h
  refine isTrue_or (thn (ha pins s σ H _ I h) fun c s1 ⟨H1, I1, q1⟩ => ?_)
  cases c with
  | true => exact ⟨H1, I1, q1⟩
  | false => exact hb wh pins s1 σ H1 Q I1 q1
theorem pt_not (ha : PT X a tA) : PT X (.UnaryOp .Not a pos) (tNot tA) := by
  intro pins s σ H Q I h
  exact isTrue_not (ha pins s σ H (fun c H1 => Q (!c) H1) I h)
def tAndV (ta tb : TE) : TE := fun σ H Q => ta σ H fun x H1 => ∃ c, x = .bl c ∧ if c = true then tb σ H1 Q else Q (.bl false) H1
def tOrV (ta tb : TE) : TE := fun σ H Q => ta σ H fun x H1 => ∃ c, x = .bl c ∧ if c = true then Q (.bl true) H1 else tb σ H1 Q
def tNotV (ta : TE) : TE := fun σ H Q => ta σ H fun x H1 => ∃ c, x = .bl c ∧ Q (.bl (!c)) H1
theorem pe_one {op} {t : TE} (h : PE X a t) : PE X (.BoolOp op [a] pos) t := fun pins s σ H Q I hw => BoolOp_one (h pins s σ H Q I hw)
theorem pe_and (ha : PE X a ta) (hb : PE X (.BoolOp .And (b :: rest) pos) tb) : PE X (.BoolOp .And (a :: b :: rest) pos) (tAndV ta tb) := by
  intro pins s σ H Q I h
  refine BoolOp_and (thn (ha pins s σ H _ I h) fun v s1 ⟨x, H1, I1, r1, q1⟩ => ?_)
  obtain ⟨c, rfl, q1⟩ := q1
  cases r1
  refine wpAny_truthy_bool ?_
  cases c with
  | true => exact hb pins s1 σ H1 Q I1 q1
  | false => exact ⟨.bl false, H1, I1, rfl, q1⟩
theorem pe_or (ha : PE X a ta) (hb : PE X (.BoolOp .Or (b :: rest) pos) tb) : PE X (.BoolOp .Or (a :: b :: rest) pos) (tOrV ta tb) := by
  intro pins s σ H Q I h
  refine BoolOp_or (thn (ha pins s σ H _ I h) fun v s1 ⟨x, H1, I1, r1, q1⟩ => ?_)
  obtain ⟨c, rfl, q1⟩ := q1
  cases r1
  refine wpAny_truthy_bool ?_
  cases c with
  | false => exact hb pins s1 σ H1 Q I1 q1
  | true => exact ⟨.bl true, H1, I1, rfl, q1⟩
theorem pe_not (ha : PE X a ta) : PE X (.UnaryOp .Not a pos) (tNotV ta) := by
  intro pins s σ H Q I h
  refine UnaryOp_ (thn (ha pins s σ H _ I h) fun v s1 ⟨x, H1, I1, r1, q1⟩ => ?_)
  obtain ⟨c, rfl, q1⟩ := q1
  cases r1
  exact not_of (wpAny_truthy_bool ⟨.bl (!c), H1, I1, rfl, q1⟩)
def tIf (t : TT) (ta tb : TE) : TE := fun σ H Q => t σ H fun c H1 => if c = true then ta σ H1 Q else tb σ H1 Q
theorem pe_ifExp {c : Expr} (hc : PT X c tA) (ha : PE X a ta) (hb : PE X b tb) : PE X (.IfExp c a b pos) (tIf tA ta tb) := by
  intro pins s σ H Q I h
  refine wpAny_IfExp (thn (hc pins s σ H _ I h) fun d s1 ⟨H1, I1, q1⟩ => ?_)
  cases d with
  | true => exact ha pins s1 σ H1 Q I1 q1
  | false => exact hb pins s1 σ H1 Q I1 q1
end
def SqL (K : PySem.W.Frag) (H : Hp) (a : Addr) (xs : List V) : Prop :=
  Rd H a (.lst xs) ∨
    ∃ (o : Obj) (its : Array Value) (n : Nat), K.lookup a = some o ∧ o.cls = .type "list" ∧ o.dict = none ∧ o.data = .seq its n ∧ its.size ≤ sizeLine ∧ Vals xs its.toList
def SqT (K : PySem.W.Frag) (H : Hp) (a : Addr) (xs : List V) : Prop :=
  Rd H a (.tup xs) ∨
    ∃ (o : Obj) (its : Array Value) (n : Nat), K.lookup a = some o ∧ o.cls = .type "tuple" ∧ o.data = .seq its n ∧ its.size ≤ sizeLine ∧ Vals xs its.toList
def absV : Value → Option V
  | .none => some .non
  | .bool b => some (.bl b)
  | .int i _ => some (.int i)
  | .str x _ => some (.str x)
  | .bytes b _ => some (.byt b)
  | .float b _ => some (.flt b)
  | .ref a => some (.ref a)
  | .type n => some (.ty n)
  | _ => none
theorem RelV.abs {x : V} {u : Value} (r : RelV x u) : absV u = some x := by
  cases x with
  | non => cases r; rfl
  | bl _ => cases r; rfl
  | int _ => obtain ⟨t, rfl⟩ := r; rfl
  | str _ => obtain ⟨t, rfl⟩ := r; rfl
  | byt _ => obtain ⟨t, rfl⟩ := r; rfl
  | flt _ => obtain ⟨t, rfl⟩ := r; rfl
  | ref _ => cases r; rfl
  | ty _ => cases r; rfl
theorem RelV.inj {x y : V} {u : Value} (r : RelV x u) (q : RelV y u) : x = y := Option.some.inj (r.abs.symm.trans q.abs)
theorem Vals.inj : ∀ {xs ys : List V} {us : List Value}, Vals xs us → Vals ys us → xs = ys
  | _, _, _, .nil, .nil => rfl
  | _, _, _, .cons r t, .cons r' t' => by rw [r.inj r', Vals.inj t t']
section
variable {X : Cx} {pins : List (Addr × Obj)} {σ : St} {H : Hp} {s : Shared} {a : Addr} {xs ys : List V}
theorem SqL.of {K : PySem.W.Frag} (h : H a = some (.lst xs)) : SqL K H a xs := .inl (.inl h)
theorem SqT.of {K : PySem.W.Frag} (h : H a = some (.tup xs)) : SqT K H a xs := .inl (.inl h)
theorem Inv.list (I : Inv X pins σ H s) (h : SqL X.K H a xs) : ∃ its : List Value, Vals xs its ∧ PlainL s.heap a its.toArray ∧ xs.length ≤ sizeLine := by
  rcases h with h | ⟨o, its, n, hk, hc, hd, hs, hz, r⟩
  · obtain ⟨z, its, n, r, e⟩ := h.ok I.hok
    exact ⟨its, r, ⟨_, n, e, rfl, rfl, rfl⟩, z⟩
  · refine ⟨its.toList, r, ⟨o, n, I.kIn a o hk, hc, hd, by simpa using hs⟩, ?_⟩
    have e := r.length
    simp only [Array.length_toList] at e
    omega
theorem Inv.tuple (I : Inv X pins σ H s) (h : SqT X.K H a xs) : ∃ its : List Value, Vals xs its ∧ IsTup s.heap a its.toArray ∧ xs.length ≤ sizeLine := by
  rcases h with h | ⟨o, its, n, hk, hc, hs, hz, r⟩
  · obtain ⟨z, its, r, p⟩ := h.ok I.hok
    exact ⟨its, r, p, z⟩
  · refine ⟨its.toList, r, ⟨o, I.kIn a o hk, hc, n, by simpa using hs⟩, ?_⟩
    have e := r.length
    simp only [Array.length_toList] at e
    omega
theorem Inv.list_inj (I : Inv X pins σ H s) (h : SqL X.K H a xs) (h' : SqL X.K H a ys) : xs = ys := by
  obtain ⟨its, r, ⟨o, n, e, _, _, d⟩, _⟩ := I.list h
  obtain ⟨its', r', ⟨o', n', e', _, _, d'⟩, _⟩ := I.list h'
  rw [e] at e'; cases e'
  rw [d] at d'
  injection d' with d1 _
  have : its = its' := by simpa using congrArg Array.toList d1
  subst this
  exact r.inj r'
theorem Inv.tuple_inj (I : Inv X pins σ H s) (h : SqT X.K H a xs) (h' : SqT X.K H a ys) : xs = ys := by
  obtain ⟨its, r, ⟨o, e, _, n, d⟩, _⟩ := I.tuple h
  obtain ⟨its', r', ⟨o', e', _, n', d'⟩, _⟩ := I.tuple h'
  rw [e] at e'; cases e'
  rw [d] at d'
  injection d' with d1 _
  have : its = its' := by simpa using congrArg Array.toList d1
  subst this
  exact r.inj r'
end
abbrev Cx.wish (X : Cx) (E : Value → Shared → Prop) : Cx := { X with xe := E }
abbrev Cx.nox (X : Cx) : Cx := X.wish fun _ _ => False
theorem Cx.Ok.wish {X : Cx} (ok : X.Ok) (E : Value → Shared → Prop) : (X.wish E).Ok :=
  ⟨ok.mod, ok.kind, ok.glob, ok.blt, ok.above, ok.inj, ok.has, ok.cab, ok.hd, ok.frames, ok.stk, ok.exf, ok.bs, ok.bsz, ok.noex, ok.exfs, ok.funs, ok.frf⟩
theorem Cx.Ok.unwish {X : Cx} {E : Value → Shared → Prop} (ok : (X.wish E).Ok) : X.Ok :=
  ⟨ok.mod, ok.kind, ok.glob, ok.blt, ok.above, ok.inj, ok.has, ok.cab, ok.hd, ok.frames, ok.stk, ok.exf, ok.bs, ok.bsz, ok.noex, ok.exfs, ok.funs, ok.frf⟩
section
variable {X : Cx} {pins : List (Addr × Obj)} {σ : St} {H : Hp} {s : Shared} {E : Value → Shared → Prop}
theorem Inv.wish (I : Inv X pins σ H s) (E : Value → Shared → Prop) : Inv (X.wish E) pins σ H s := ⟨I.ok.wish E, I.os, I.bare, I.base, I.loc, I.cell, I.free, I.freeC, I.pin, I.hok, I.len⟩
theorem Inv.unwish (I : Inv (X.wish E) pins σ H s) : Inv X pins σ H s := ⟨I.ok.unwish, I.os, I.bare, I.base, I.loc, I.cell, I.free, I.freeC, I.pin, I.hok, I.len⟩
theorem SP.unwish {D : Ends} {f : Flow} {s' : Shared} (h : SP (X.wish E) pins D f s') : SP X pins D f s' := by
  cases f with
  | next => obtain ⟨σ', H', I, q⟩ := h; exact ⟨σ', H', I.unwish, q⟩
  | brk => obtain ⟨σ', H', I, q⟩ := h; exact ⟨σ', H', I.unwish, q⟩
  | cont => obtain ⟨σ', H', I, q⟩ := h; exact ⟨σ', H', I.unwish, q⟩
  | ret u => obtain ⟨v, σ', H', I, r, q⟩ := h; exact ⟨v, σ', H', I.unwish, r, q⟩
theorem PSs.nox {st : List Stmt} {t : TS} (h : PSs X.nox st t) : PSs X st t := fun pins s σ H D I hw =>
  wpAny_mono (h pins s σ H D (I.wish _) hw) (fun _ _ q => q.unwish) fun _ _ z => False.elim z
end
section
variable {X : Cx} {st : Stmt} {rest : List Stmt} {t u : TS} {e : Expr} {te : TE} {pos : Pos}
def tNext : TS := fun D σ H => D.nx σ H
def tSeq (t u : TS) : TS := fun D σ H => t { D with nx := u D } σ H
theorem pss_nil : PSs X [] tNext := fun _ _ σ H _ I h => wpAny_execs_nil ⟨σ, H, I, h⟩
theorem pss_cons (h1 : PS X st t) (h2 : PSs X rest u) : PSs X (st :: rest) (tSeq t u) := by
  intro pins s σ H D I h
  refine wpAny_execs_cons (thn (h1 pins s σ H { D with nx := u D } I h) fun f s1 q => ?_)
  cases f with
  | next =>
    obtain ⟨σ', H', I', q⟩ := q
    exact h2 pins s1 σ' H' D I' q
  | ret v => exact q
  | brk => exact q
  | cont => exact q
theorem pss_one (h1 : PS X st t) : PSs X [st] t := by
  intro pins s σ H D I h
  refine wpAny_execs_cons (thn (h1 pins s σ H D I h) fun f s1 q => ?_)
  cases f with
  | next => exact wpAny_execs_nil q
  | ret v => exact q
  | brk => exact q
  | cont => exact q
theorem Inv.quiet {pins : List (Addr × Obj)} {σ : St} {H : Hp} {s : Shared} (I : Inv X pins σ H s) : interactive X.env = false := by simp [interactive, I.ok.kind]
def tDrop (te : TE) : TS := fun D σ H => te σ H fun _ H1 => D.nx σ H1
theorem ps_expr (he : PE X e te) (hs : swapsWith e none pos.line X.env = pure false := by rfl) : PS X (.Expr e pos) (tDrop te) := by
  intro pins s σ H D I h
  exact wpAny_Expr_any (thn (he pins s σ H _ I h) fun v s1 ⟨x, H1, I1, r1, q1⟩ => ⟨σ, H1, I1, q1⟩) I.quiet hs
def tRet (te : TE) : TS := fun D σ H => te σ H D.rt
theorem ps_ret (he : PE X e te) : PS X (.Return (some e) pos) (tRet te) := by
  intro pins s σ H D I h
  exact wpAny_Return_some (thn (he pins s σ H _ I h) fun v s1 ⟨x, H1, I1, r1, q1⟩ => ⟨x, σ, H1, I1, r1, q1⟩)
def tIfS (c : TT) (t u : TS) : TS := fun D σ H => c σ H fun b H1 => if b = true then t D σ H1 else u D σ H1
theorem ps_if {c : Expr} {a b : List Stmt} {tc : TT} (hc : PT X c tc) (ha : PSs X a t) (hb : PSs X b u) : PS X (.If c a b pos) (tIfS tc t u) := by
  intro pins s σ H D I h
  refine wpAny_If (thn (hc pins s σ H _ I h) fun d s1 ⟨H1, I1, q1⟩ => ?_)
  cases d with
  | true => exact ha pins s1 σ H1 D I1 q1
  | false => exact hb pins s1 σ H1 D I1 q1
def tNever : TS := fun _ _ _ => False
theorem ps_never : PS X st tNever := fun _ _ _ _ _ _ h => h.elim
theorem pss_never {sts : List Stmt} : PSs X sts tNever := fun _ _ _ _ _ _ h => h.elim
end
abbrev TG := V → St → Hp → (St → Hp → Prop) → Prop
abbrev TGs := List V → St → Hp → (St → Hp → Prop) → Prop
def PG (X : Cx) (target : Expr) (t : TG) : Prop :=
  ∀ (pins : List (Addr × Obj)) (s : Shared) (σ : St) (H : Hp) (v : V) (u : Value) (Q : St → Hp → Prop), Inv X pins σ H s → RelV v u → t v σ H Q →
    wpAny (model X.prog X.w) X.A (assign target X.env u) (fun _ s' => ∃ σ' H', Inv X pins σ' H' s' ∧ Q σ' H') X.xe s
def PGs (X : Cx) (ts : List Expr) (t : TGs) : Prop :=
  ∀ (pins : List (Addr × Obj)) (s : Shared) (σ : St) (H : Hp) (vs : List V) (us : List Value) (Q : St → Hp → Prop), Inv X pins σ H s → Vals vs us → t vs σ H Q →
    wpAny (model X.prog X.w) X.A (assignInOrder ((assignEach ts X.env).map (·.2)) us) (fun _ s' => ∃ σ' H', Inv X pins σ' H' s' ∧ Q σ' H') X.xe s
abbrev TSet := V → V → V → Hp → (Hp → Prop) → Prop
def PSet (X : Cx) (t : TSet) : Prop :=
  ∀ (pins : List (Addr × Obj)) (s : Shared) (σ : St) (H : Hp) (o i v : V) (ov iv u : Value) (Q : Hp → Prop), Inv X pins σ H s → RelV o ov → RelV i iv → RelV v u → t o i v H Q →
    wpAny (model X.prog X.w) X.A (setItem ov iv u) (fun _ s' => ∃ H', Inv X pins σ H' s' ∧ Q H') X.xe s
section
variable {X : Cx} {pos : Pos}
def gName (i : Nat) : TG := fun v σ H Q => Q (σ.set i (some v)) H
theorem pg_name {i : Nat} {x : Str} (hN : X.N.Nodup) (hi : X.N[i]? = some x) (hx : Loc X.env.scope x) (hf : X.fn x = true ∨ X.env.scope.names.lookup x = some .local := by first | exact .inl rfl | exact .inr rfl | assumption) : PG X (.Name x pos) (gName i) := by
  intro pins s σ H v u Q I r h
  exact wpAny_assign_Name (store_ok I hN hi hx r (fun s' I' => ⟨_, H, I', h⟩) hf)
def gNil : TGs := fun vs σ H Q => vs = [] ∧ Q σ H
def gCons (t : TG) (u : TGs) : TGs := fun vs σ H Q => ∃ v r, vs = v :: r ∧ t v σ H fun σ' H' => u r σ' H' Q
theorem pgs_nil : PGs X [] gNil := by
  intro pins s σ H vs us Q I r h
  obtain ⟨e, h⟩ := h
  subst e
  cases r
  exact assignInOrder_nil ⟨σ, H, I, h⟩
theorem pgs_cons {e : Expr} {es : List Expr} {t : TG} {u : TGs} (h1 : PG X e t) (h2 : PGs X es u)
    (hs : (assignEach (e :: es) X.env).map (·.2) = assign e X.env :: (assignEach es X.env).map (·.2) := by rfl) : PGs X (e :: es) (gCons t u) := by
  intro pins s σ H vs us Q I r h
  obtain ⟨v, vr, e1, h⟩ := h
  subst e1
  cases r with
  | cons r rr =>
    rw [hs]
    refine assignInOrder_cons (thn (h1 pins s σ H _ _ _ I r h) fun _ s1 ⟨σ1, H1, I1, q1⟩ => ?_)
    exact h2 pins s1 σ1 H1 _ _ Q I1 rr q1
def gTup (K : PySem.W.Frag) (n : Nat) (t : TGs) : TG := fun v σ H Q => ∃ a xs, v = .ref a ∧ SqT K H a xs ∧ xs.length = n ∧ t xs σ H Q
theorem pg_tup {es : List Expr} {k : Nat} {t : TGs} {n : Nat} (hc : X.calm = true) (h : PGs X es t)
    (hn : (assignEach es X.env).length = n := by rfl) (hst : (assignEach es X.env).findIdx? (·.1) = none := by rfl) : PG X (.Tuple es k pos) (gTup X.K n t) := by
  intro pins s σ H v u Q I r hw
  obtain ⟨a, xs, e1, hq, hl, hw⟩ := hw
  subst e1
  cases r
  obtain ⟨its, rv, ht, hz⟩ := I.tuple hq
  refine assign_Tuple_tuple (I.ok.hd hc) ht (by simp [hn, ← hl, rv.length]) hst fun h' hx => ?_
  have I1 : Inv X pins σ H { s with heap := h' } := I.kept (t' := s.toks) fun b o e => hx b o (Nat.ne_of_lt (Heap.lt_size e)) e
  exact h pins _ σ H xs _ Q I1 (by simpa using rv) hw
def gSub (to ti : TE) (t : TSet) : TG := fun v σ H Q => to σ H fun o H1 => ti σ H1 fun i H2 => t o i v H2 fun H3 => Q σ H3
theorem pg_sub {o i : Expr} {to ti : TE} {t : TSet} (ho : PE X o to) (hi : PE X i ti) (hs : PSet X t)
    (ha : ∀ v, assign (.Subscript o i pos) X.env v = (do
      let ov ← holding [v] (eval o X.env)
      let iv ← holding [v, ov] (eval i X.env)
      standAt pos
      holding [v, ov, iv] (setItem ov iv v)
      release [v, ov, iv] []) := by intro _; rfl) : PG X (.Subscript o i pos) (gSub to ti t) := by
  intro pins s σ H v u Q I r h
  rw [ha]
  refine wpAny_bind (wpAny_holding (thn (ho pins s σ H _ I h) fun ov s1 ⟨x, H1, I1, r1, q1⟩ => ?_))
  refine wpAny_bind (wpAny_holding (thn (hi pins s1 σ H1 _ I1 q1) fun iv s2 ⟨y, H2, I2, r2, q2⟩ => ?_))
  refine wpAny_bind (wpAny_standAt (wpAny_bind (wpAny_holding (thn (hs pins s2 σ H2 x y v ov iv u _ I2 r1 r2 r q2) fun _ s3 ⟨H3, I3, q3⟩ => ?_))))
  exact wpAny_release ⟨σ, H3, I3, q3⟩
def tAsg (te : TE) (g : TG) : TS := fun D σ H => te σ H fun x H1 => g x σ H1 D.nx
theorem ps_asg {tg e : Expr} {te : TE} {g : TG} (he : PE X e te) (hg : PG X tg g) (hs : swapsWithSole [tg] e pos.line X.env = pure false := by rfl) (hw : swappedStores [tg] e X.env = pure none := by rfl)
    (h1 : (assignEach [tg] X.env).map (·.2) = [assign tg X.env] := by rfl) : PS X (.Assign [tg] e pos) (tAsg te g) := by
  intro pins s σ H D I h
  refine wpAny_Assign_stores (thn (he pins s σ H _ I h) fun v s1 ⟨x, H1, I1, r1, q1⟩ => ?_) hs hw
  rw [h1]
  exact thn (hg pins s1 σ H1 x v _ I1 r1 q1) fun _ s2 q => q
theorem ps_set {i : Nat} {x : Str} {e : Expr} {te : TE} {pos' : Pos} (hN : X.N.Nodup) (hi : X.N[i]? = some x) (hx : Loc X.env.scope x) (he : PE X e te) (hs : swapsWith e (some (.Name x pos')) pos.line X.env = pure false := by rfl) (hf : X.fn x = true ∨ X.env.scope.names.lookup x = some .local := by first | exact .inl rfl | exact .inr rfl | assumption) :
    PS X (.Assign [.Name x pos'] e pos) (tAsg te (gName i)) := by
  intro pins s σ H D I h
  refine wpAny_Assign_Name (thn (he pins s σ H _ I h) fun v s1 ⟨y, H1, I1, r1, q1⟩ => ?_) hs
  exact store_ok I1 hN hi hx r1 (fun s2 I2 => ⟨_, H1, I2, q1⟩) hf
end
structure It where
  go : Nat → Hp → Prop
  yld : Nat → Hp → V → Hp → Prop
  stop : Nat → Hp → Prop
def FpOk (X : Cx) (pins : List (Addr × Obj)) (H : Hp) (b : Addr) : Prop :=
  H b = none ∧ b ≠ X.env.locals ∧ b ∉ X.fs ∧ (b ∈ X.ex ∨ X.s₀.heap.objs.size ≤ b) ∧ (∀ x c, X.env.cells.lookup x = some c → c ≠ b) ∧ ∀ p ∈ X.pn ++ pins, p.1 ≠ b
theorem Inv.fpOk {X : Cx} {pins : List (Addr × Obj)} {σ : St} {H H' : Hp} {s : Shared} {b : Addr} (I : Inv X pins σ H s) (hb : s.heap.objs.size ≤ b) (hn : H' b = none) : FpOk X pins H' b := by
  refine ⟨hn, Nat.ne_of_gt (Nat.lt_of_lt_of_le I.lt hb), I.nofs hb, .inr (Nat.le_trans I.sz hb), fun x c e z => ?_, fun p hp z => ?_⟩
  · obtain ⟨v, q⟩ := I.cell x c e
    exact absurd (Nat.lt_of_lt_of_le q.lt (by rw [z]; exact hb)) (Nat.lt_irrefl _)
  · exact absurd (Nat.lt_of_lt_of_le (Heap.lt_size (I.pin p hp).1) (by rw [z]; exact hb)) (Nat.lt_irrefl _)
structure Turn (P : Program) (w : World) (K : PySem.W.Frag) (tg : Expr) (J : It) (fp : List Addr) (it : Addr) (tn : Nat → Heap → Prop) : Prop where
  mem : it ∈ fp
  obj : ∀ i h, tn i h → ∀ b ∈ fp, ∃ o, h.get? b = some o ∧ ∀ v, o.data ≠ .cell v
  keep : ∀ i h h', tn i h → (∀ b ∈ fp, ∀ o, h.get? b = some o → h'.get? b = some o) → tn i h'
  item : ∀ (X : Cx), X.prog = P → X.w = w → X.K = K → X.calm = true → ∀ (i : Nat) (pins : List (Addr × Obj)) (s : Shared) (σ : St) (H : Hp) (E : Value → Shared → Prop), Inv X pins σ H s → (∀ b ∈ fp, FpOk X pins H b) → tn i s.heap → J.go i H →
    wpAny (model P w) X.A (pyNext (.ref it)) (fun r s1 => ∃ u, r = some u ∧
      wpAny (model P w) X.A (letOwnedTupleGo tg (.ref it) u) (fun _ s2 => ∃ x H', Inv X pins σ H' s2 ∧ RelV x u ∧ J.yld i H x H' ∧ tn (i + 1) s2.heap ∧ ∀ b ∈ fp, H' b = none) E s1) E s
  done : ∀ (X : Cx), X.prog = P → X.w = w → X.K = K → X.calm = true → ∀ (i : Nat) (pins : List (Addr × Obj)) (s : Shared) (σ : St) (H : Hp) (E : Value → Shared → Prop), Inv X pins σ H s → (∀ b ∈ fp, FpOk X pins H b) → tn i s.heap → J.stop i H →
    wpAny (model P w) X.A (pyNext (.ref it)) (fun r s1 => r = none ∧ Inv X pins σ H s1) E s
  self : ∀ (A : Around) (i : Nat) (s : Shared) (Q : Value → Shared → Prop) (E : Value → Shared → Prop), tn i s.heap → Q (.ref it) s → wpAny (model P w) A (pyIter (.ref it)) Q E s
abbrev TI := St → Hp → (It → Hp → Prop) → Prop
def PIE (X : Cx) (pins : List (Addr × Obj)) (σ : St) (tg : Expr) (R : It → Hp → Prop) (itv : Value) (s2 : Shared) : Prop :=
  ∃ (it : Addr) (fp : List Addr) (tn : Nat → Heap → Prop) (J : It) (H' : Hp), itv = .ref it ∧ Inv X pins σ H' s2 ∧ Turn X.prog X.w X.K tg J fp it tn ∧ tn 0 s2.heap ∧ (∀ b ∈ fp, FpOk X pins H' b) ∧ R J H'
def PI (X : Cx) (tg iter : Expr) (wi : TI) : Prop :=
  ∀ (pins : List (Addr × Obj)) (s : Shared) (σ : St) (H : Hp) (R : It → Hp → Prop), Inv X pins σ H s → wi σ H R →
    wpAny (model X.prog X.w) X.A (eval iter X.env) (fun v s1 => wpAny (model X.prog X.w) X.A (pyIter v) (PIE X pins σ tg R) X.xe s1) X.xe s
theorem go_of {M : Model} {A : Around} {E : Value → Shared → Prop} {s : Shared} {tg : Expr} {it : Addr} {u : Value} {o : Obj} {n : String} {vs : Array Value} {Q : Unit → Shared → Prop} (ho : s.heap.get? it = some o) (hc : o.cls = .type n) (hd : o.data = .fields vs)
    (hn : ["enumerate", "zip", "dict_itemiterator", "dict_reverseitemiterator", "odict_iterator", "itertools.zip_longest", "itertools.pairwise"].contains n = false) (hQ : Q () s) : wpAny M A (letOwnedTupleGo tg (.ref it) u) Q E s := by
  unfold letOwnedTupleGo
  cases tg <;> first
    | exact wpAny_pure hQ
    | (cases u <;> first
        | exact wpAny_pure hQ
        | (refine wpAny_bind (wpAny_load ho ?_)
           rw [hc, hd]
           show wpAny M A (if (["enumerate", "zip", "dict_itemiterator", "dict_reverseitemiterator", "odict_iterator", "itertools.zip_longest", "itertools.pairwise"].contains n && vs[0]? == some (rawInt _)) = true then _ else _) Q E s
           rw [if_neg (by intro h; rw [hn, Bool.false_and] at h; cases h)]
           exact wpAny_pure hQ))
def Itl (K : PySem.W.Frag) (a : Addr) : It :=
  ⟨fun i H => ∃ xs x, SqL K H a xs ∧ xs[i]? = some x, fun i H x H' => H' = H ∧ ∀ xs, SqL K H a xs → xs[i]? = some x, fun i H => ∃ xs, SqL K H a xs ∧ xs.length ≤ i⟩
def Itt (K : PySem.W.Frag) (a : Addr) : It :=
  ⟨fun i H => ∃ xs x, SqT K H a xs ∧ xs[i]? = some x, fun i H x H' => H' = H ∧ ∀ xs, SqT K H a xs → xs[i]? = some x, fun i H => ∃ xs, SqT K H a xs ∧ xs.length ≤ i⟩
def Itr (lo : Int) (n : Nat) : It := ⟨fun i _ => i < n, fun i H x H' => H' = H ∧ x = .int (lo + i), fun i _ => n ≤ i⟩
theorem turn_list {P : Program} {w : World} {K : PySem.W.Frag} {tg : Expr} (a it : Addr) : Turn P w K tg (Itl K a) [it] it (fun i h => h.IsListIter it a i) where
  mem := by simp
  obj := fun i h st b hb => by
    have e : b = it := by simpa using hb
    subst e
    obtain ⟨o, e, c, d⟩ := st
    exact ⟨o, e, fun v z => by rw [d] at z; cases z⟩
  keep := fun i h h' st k => st.at fun o e => k it (by simp) o e
  item := by
    intro X hP hw hK hc i pins s σ H E I hf st hg
    subst hP hw hK
    obtain ⟨xs, x, hq, hx⟩ := hg
    obtain ⟨its, rv, p, hz⟩ := I.list hq
    obtain ⟨u, hu, ru⟩ := rv.get hx
    obtain ⟨f0, f1, f2, f3, f4, f5⟩ := hf it (by simp)
    refine wpAny_pyNext_list_item st p.isList (x := u) (by simpa using hu) fun h' st' sb => ?_
    have I1 : Inv X pins σ H { s with heap := h' } := I.turned (t' := s.toks) (fun b o hb e => (sb.2 b hb).trans e) f0 f1 f3 f4 f5
    obtain ⟨o, e, c, d⟩ := id st'
    exact ⟨u, rfl, go_of (s := { s with heap := h' }) e c d (by decide) ⟨x, H, I1, ru, ⟨rfl, fun ys hy => by rw [I.list_inj hy hq]; exact hx⟩, st', fun b hb => (hf b hb).1⟩⟩
  done := by
    intro X hP hw hK hc i pins s σ H E I hf st hg
    subst hP hw hK
    obtain ⟨xs, hq, hx⟩ := hg
    obtain ⟨its, rv, p, hz⟩ := I.list hq
    obtain ⟨f0, f1, f2, f3, f4, f5⟩ := hf it (by simp)
    have hl := rv.length
    exact wpAny_pyNext_list_end (I.ok.hd hc) st p.isList (by simp; omega) fun h' eb => ⟨rfl, I.turned (t' := s.toks) (fun b o hb e => eb b o hb e) f0 f1 f3 f4 f5⟩
  self := fun _ _ _ _ _ st h => wpAny_pyIter_listiter st h
theorem turn_tuple {P : Program} {w : World} {K : PySem.W.Frag} {tg : Expr} (a it : Addr) : Turn P w K tg (Itt K a) [it] it (fun i h => h.IsTupleIter it a i) where
  mem := by simp
  obj := fun i h st b hb => by
    have e : b = it := by simpa using hb
    subst e
    obtain ⟨o, e, c, d⟩ := st
    exact ⟨o, e, fun v z => by rw [d] at z; cases z⟩
  keep := fun i h h' st k => st.at fun o e => k it (by simp) o e
  item := by
    intro X hP hw hK hc i pins s σ H E I hf st hg
    subst hP hw hK
    obtain ⟨xs, x, hq, hx⟩ := hg
    obtain ⟨its, rv, p, hz⟩ := I.tuple hq
    obtain ⟨u, hu, ru⟩ := rv.get hx
    obtain ⟨f0, f1, f2, f3, f4, f5⟩ := hf it (by simp)
    refine wpAny_pyNext_tuple_item st (show s.heap.IsTuple a its.toArray from p) (x := u) (by simpa using hu) fun h' st' sb => ?_
    have I1 : Inv X pins σ H { s with heap := h' } := I.turned (t' := s.toks) (fun b o hb e => (sb.2 b hb).trans e) f0 f1 f3 f4 f5
    obtain ⟨o, e, c, d⟩ := id st'
    exact ⟨u, rfl, go_of (s := { s with heap := h' }) e c d (by decide) ⟨x, H, I1, ru, ⟨rfl, fun ys hy => by rw [I.tuple_inj hy hq]; exact hx⟩, st', fun b hb => (hf b hb).1⟩⟩
  done := by
    intro X hP hw hK hc i pins s σ H E I hf st hg
    subst hP hw hK
    obtain ⟨xs, hq, hx⟩ := hg
    obtain ⟨its, rv, p, hz⟩ := I.tuple hq
    obtain ⟨f0, f1, f2, f3, f4, f5⟩ := hf it (by simp)
    have hl := rv.length
    exact wpAny_pyNext_tuple_end (I.ok.hd hc) st (show s.heap.IsTuple a its.toArray from p) (by simp; omega) fun h' eb => ⟨rfl, I.turned (t' := s.toks) (fun b o hb e => eb b o hb e) f0 f1 f3 f4 f5⟩
  self := fun _ _ _ _ _ st h => wpAny_pyIter_tupleiter st h
theorem turn_range {P : Program} {w : World} {K : PySem.W.Frag} {tg : Expr} (it : Addr) (lo : Int) (n : Nat) : Turn P w K tg (Itr lo n) [it] it (fun i h => IsRangeIter h it (lo + (i : Nat) * 1) ((n : Int) - (i : Nat)) 1) where
  mem := by simp
  obj := fun i h st b hb => by
    have e : b = it := by simpa using hb
    subst e
    exact ⟨_, st, fun v z => by
      have z' : Data.fields _ = Data.cell v := z
      cases z'⟩
  keep := fun i h h' st k => k it (by simp) _ st
  item := by
    intro X hP hw hK hc i pins s σ H E I hf st hg
    subst hP hw hK
    obtain ⟨f0, f1, f2, f3, f4, f5⟩ := hf it (by simp)
    have W := Walks.range (prog := X.prog) (w := X.w) (I.ok.hd hc) it lo 1 n
    refine W.item i s _ _ hg st fun v h' tk hv st' kk => ?_
    obtain ⟨t, rfl⟩ := hv
    have I1 : Inv X pins σ H { s with heap := h', toks := tk } := I.turned (fun b o hb e => kk b o (by simpa using hb) e) f0 f1 f3 f4 f5
    refine ⟨_, rfl, go_of (s := { s with heap := h', toks := tk }) (n := "range_iterator") st' rfl rfl (by decide) ⟨.int (lo + i), H, I1, ⟨t, ?_⟩, ⟨rfl, rfl⟩, st', fun b hb => (hf b hb).1⟩⟩
    rw [Int.mul_one]
  done := by
    intro X hP hw hK hc i pins s σ H E I hf st hg
    subst hP hw hK
    obtain ⟨f0, f1, f2, f3, f4, f5⟩ := hf it (by simp)
    exact wpAny_pyNext_range_end (I.ok.hd hc) st (by have : n ≤ i := hg; omega) fun h' eb => ⟨rfl, I.turned (t' := s.toks) (fun b o hb e => eb b o hb e) f0 f1 f3 f4 f5⟩
  self := fun _ _ _ _ _ st h => wpAny_pyIter_rangeiter st h
section
variable {X : Cx} {tg : Expr}
def iList (K : PySem.W.Frag) (tl : TE) : TI := fun σ H R => tl σ H fun x H1 => ∃ a, x = .ref a ∧ (∃ xs, SqL K H1 a xs) ∧ R (Itl K a) H1
def iTup (K : PySem.W.Frag) (tl : TE) : TI := fun σ H R => tl σ H fun x H1 => ∃ a, x = .ref a ∧ (∃ xs, SqT K H1 a xs) ∧ R (Itt K a) H1
theorem pi_list {l : Expr} {tl : TE} (hl : PE X l tl) : PI X tg l (iList X.K tl) := by
  intro pins s σ H R I h
  refine thn (hl pins s σ H _ I h) fun v s1 ⟨x, H1, I1, r1, q1⟩ => ?_
  obtain ⟨a, e, ⟨xs, hq⟩, q⟩ := q1
  subst e
  cases r1
  obtain ⟨its, rv, p, hz⟩ := I1.list hq
  refine wpAny_pyIter_list p.isList ?_
  refine ⟨s1.heap.objs.size, [s1.heap.objs.size], _, _, H1, rfl, I1.kept (t' := s1.toks) fun b o e => Heap.get?_push_of_some _ e, turn_list a _, ⟨_, Heap.get?_push_size _ rfl, rfl, rfl⟩, fun b hb => ?_, q⟩
  have e : b = s1.heap.objs.size := by simpa using hb
  subst e
  exact I1.fpOk (Nat.le_refl _) (I1.hok.fresh (Nat.le_refl _))
theorem pi_tup {l : Expr} {tl : TE} (hl : PE X l tl) : PI X tg l (iTup X.K tl) := by
  intro pins s σ H R I h
  refine thn (hl pins s σ H _ I h) fun v s1 ⟨x, H1, I1, r1, q1⟩ => ?_
  obtain ⟨a, e, ⟨xs, hq⟩, q⟩ := q1
  subst e
  cases r1
  obtain ⟨its, rv, p, hz⟩ := I1.tuple hq
  refine wpAny_pyIter_tuple (show s1.heap.IsTuple a its.toArray from p) ?_
  refine ⟨s1.heap.objs.size, [s1.heap.objs.size], _, _, H1, rfl, I1.kept (t' := s1.toks) fun b o e => Heap.get?_push_of_some _ e, turn_tuple a _, ⟨_, Heap.get?_push_size _ rfl, rfl, rfl⟩, fun b hb => ?_, q⟩
  have e : b = s1.heap.objs.size := by simpa using hb
  subst e
  exact I1.fpOk (Nat.le_refl _) (I1.hok.fresh (Nat.le_refl _))
theorem range_it {pins : List (Addr × Obj)} {σ : St} {H : Hp} {s : Shared} {R : It → Hp → Prop} {E : Value → Shared → Prop} {lo hi : Int} {t u v : Tok} {tk : Nat} (I : Inv X pins σ H s) (h1 : -(2 ^ 62) ≤ lo) (h2 : lo < 2 ^ 62) (h3 : -(2 ^ 62) ≤ hi) (h4 : hi < 2 ^ 62)
    (q : R (Itr lo (hi - lo).toNat) H) : wpAny (model X.prog X.w) X.A (pyIter (.ref s.heap.objs.size)) (PIE X pins σ tg R) E { s with heap := s.heap.push { cls := .type "range", data := .fields #[.int lo t, .int hi u, .int 1 v] }, toks := tk } := by
  refine wpAny_pyIter_range (IsRange.new ..) (small_one h1 h2 h3 h4) ?_
  have I1 : Inv X pins σ H { s with heap := s.heap.push { cls := .type "range", data := .fields #[.int lo t, .int hi u, .int 1 v] }, toks := tk } := I.kept fun b o e => Heap.get?_push_of_some _ e
  refine ⟨(s.heap.push { cls := .type "range", data := .fields #[.int lo t, .int hi u, .int 1 v] }).objs.size, [(s.heap.push { cls := .type "range", data := .fields #[.int lo t, .int hi u, .int 1 v] }).objs.size], _, _, H, rfl,
    I1.kept (t' := tk) fun b o e => Heap.get?_push_of_some _ e, turn_range _ lo (hi - lo).toNat, ?_, fun b hb => ?_, q⟩
  · have e1 : lo + ((0 : Nat) : Int) * 1 = lo := by simp
    have e2 : (((hi - lo).toNat : Nat) : Int) - ((0 : Nat) : Int) = Builtin.Range.rangeSize lo hi 1 := by rw [rangeSize_one]; split <;> omega
    show IsRangeIter _ _ (lo + ((0 : Nat) : Int) * 1) ((((hi - lo).toNat : Nat) : Int) - ((0 : Nat) : Int)) 1
    rw [e1, e2]
    exact Heap.get?_push_size _ rfl
  · have e : b = (s.heap.push { cls := .type "range", data := .fields #[.int lo t, .int hi u, .int 1 v] }).objs.size := by simpa using hb
    subst e
    exact I1.fpOk (Nat.le_refl _) (I1.hok.fresh (Nat.le_refl _))
def iRng1 (ta : TA) : TI := fun σ H R => ta σ H fun vs H1 => ∃ j : Int, vs = [.int j] ∧ -(2 ^ 62) ≤ j ∧ j < 2 ^ 62 ∧ R (Itr 0 j.toNat) H1
theorem pi_range1 {a : Expr} {ta : TA} {p pos : Pos} (hg : Gl X "range") (hm : X.mg "range" = none) (ha : PA X [a] ta) (hs : starEach [a] X.env = [(false, eval a X.env)] := by rfl) : PI X tg (.Call (.Name "range" p) [a] [] pos) (iRng1 ta) := by
  intro pins s σ H R I h
  refine Call_ (ld_blt I hg hm boot_range (PyProof.Rows.callWith_type1 (thn (ha pos pins s σ H _ I h) fun us s1 ⟨vs, H1, I1, r1, q1⟩ => ?_) hs rfl))
  obtain ⟨j, e, q1, q2, q⟩ := q1
  subst e
  cases r1 with
  | cons r rr =>
    cases rr
    obtain ⟨t, rfl⟩ := r
    exact call_range_1 (range_it I1 (by omega) (by omega) q1 q2 (by simpa using q))
def tFor (wi : TI) (g : TG) (tb : TS) : TS := fun D σ H => wi σ H fun J H1 => ∃ W : Nat → Nat → St → Hp → Prop, (∃ m, W 0 m σ H1) ∧ ∀ i m σ H, W i m σ H →
  (J.stop i H ∧ D.nx σ H) ∨ (J.go i H ∧ ∃ N : St → Hp → Prop, (∀ σ' H', N σ' H' → ∃ m', m' < m ∧ W (i + 1) m' σ' H') ∧ ∀ x H', J.yld i H x H' → g x σ H' fun σ2 H2 => tb { D with nx := N, ct := N, bk := D.nx } σ2 H2)
def pinsAt (fp : List Addr) (h : Heap) : List (Addr × Obj) := fp.filterMap fun b => (h.get? b).map fun o => (b, o)
theorem mem_pinsAt {fp : List Addr} {h : Heap} {b : Addr} {o : Obj} (hb : b ∈ fp) (e : h.get? b = some o) : (b, o) ∈ pinsAt fp h := List.mem_filterMap.mpr ⟨b, hb, by rw [e]; rfl⟩
theorem of_pinsAt {fp : List Addr} {h : Heap} {p : Addr × Obj} (hp : p ∈ pinsAt fp h) : p.1 ∈ fp ∧ h.get? p.1 = some p.2 := by
  obtain ⟨b, hb, e⟩ := List.mem_filterMap.mp hp
  cases q : h.get? b with
  | none => rw [q] at e; cases e
  | some o =>
    rw [q] at e
    have e' : (b, o) = p := Option.some.inj e
    subst e'
    exact ⟨hb, q⟩
theorem Inv.pinned {pins : List (Addr × Obj)} {σ : St} {H : Hp} {s : Shared} {fp : List Addr} (I : Inv X pins σ H s) (hf : ∀ b ∈ fp, FpOk X pins H b) (ho : ∀ b ∈ fp, ∃ o, s.heap.get? b = some o ∧ ∀ v, o.data ≠ .cell v) : Inv X (pins ++ pinsAt fp s.heap) σ H s :=
  I.pins_of fun p hp => (List.mem_append.mp hp).elim (fun z => I.pin p (List.mem_append_right _ z)) fun z => by
    obtain ⟨hb, e⟩ := of_pinsAt z
    obtain ⟨f0, f1, f2, _⟩ := hf p.1 hb
    obtain ⟨o, e', d⟩ := ho p.1 hb
    rw [e] at e'; cases e'
    exact ⟨e, f0, f1, f2, d⟩
theorem Inv.unpinned {pins pl : List (Addr × Obj)} {σ : St} {H : Hp} {s : Shared} (I : Inv X (pins ++ pl) σ H s) : Inv X pins σ H s := I.pins_of fun p hp => I.pin p (List.mem_append_right _ (List.mem_append_left _ hp))
theorem ps_for {iter : Expr} {body : List Stmt} {wi : TI} {g : TG} {tb : TS} {pos : Pos} (hp : PassesOwn (model X.prog X.w) X.A X.env X.xe) (hc : X.calm = true) (hi : PI X tg iter wi) (hg : PG X tg g) (hb : PSs X body tb)
    (hs : ∀ x, foldedSetIterable iter X.env x = pure x := by intro _; rfl) : PS X (.For tg iter body [] pos) (tFor wi g tb) := by
  intro pins s σ H D I h
  refine wpAny_For (thn (hi pins s σ H _ I h) fun v s1 h1 => thn h1 fun itv s2 h2 => ?_) hs
  obtain ⟨it, fp, tn, J, H2, e, I2, T, st2, f2, W, ⟨m0, w0⟩, turn⟩ := h2
  subst e
  have stat : ∀ {H' : Hp}, (∀ b ∈ fp, H' b = none) → ∀ b ∈ fp, FpOk X pins H' b := fun hn b hb => ⟨hn b hb, (f2 b hb).2⟩
  refine codeAny_forLoop_any (fun n s' => ∃ i σ' H', Inv X pins σ' H' s' ∧ tn i s'.heap ∧ (∀ b ∈ fp, H' b = none) ∧ W i n σ' H') ?_ m0 ⟨0, σ, H2, I2, st2, fun b hb => (f2 b hb).1, w0⟩
  rintro n s3 ⟨i, σ3, H3, I3, st3, fr3, w3⟩
  rcases turn i n σ3 H3 w3 with ⟨stop, qn⟩ | ⟨go, N, hN, step⟩
  · refine wpAny_passesOwn hp (thn (T.done X rfl rfl rfl hc i pins s3 σ3 H3 X.xe I3 (stat fr3) st3 stop) fun r s4 ⟨hr, I4⟩ => ?_)
    subst hr
    exact wpAny_execs_nil ⟨σ3, H3, I4, qn⟩
  · refine wpAny_passesOwn hp (thn (T.item X rfl rfl rfl hc i pins s3 σ3 H3 X.xe I3 (stat fr3) st3 go) fun r s4 ⟨u, hr, h4⟩ => ?_)
    subst hr
    refine wpAny_passesOwn hp (thn h4 fun _ s5 ⟨x, H5, I5, r5, y5, st5, fr5⟩ => ?_)
    have I5' := I5.pinned (stat fr5) (T.obj _ _ st5)
    refine wpAny_passesOwn hp (thn (hg _ s5 σ3 H5 x u _ I5' r5 (step x H5 y5)) fun _ s6 ⟨σ6, H6, I6, q6⟩ => ?_)
    refine wpAny_passesOwn hp (thn (hb _ s6 σ6 H6 _ I6 q6) fun f s7 q7 => ?_)
    have again : ∀ {σ7 : St} {H7 : Hp}, Inv X (pins ++ pinsAt fp s5.heap) σ7 H7 s7 → N σ7 H7 → ∃ m, m < n ∧ ∃ i σ' H', Inv X pins σ' H' s7 ∧ tn i s7.heap ∧ (∀ b ∈ fp, H' b = none) ∧ W i m σ' H' := fun {σ7 H7} I7 n7 => by
      obtain ⟨m', hm, w7⟩ := hN σ7 H7 n7
      refine ⟨m', hm, i + 1, σ7, H7, I7.unpinned, T.keep _ _ _ st5 fun b hb o e => (I7.pin (b, o) (List.mem_append_right _ (List.mem_append_right _ (mem_pinsAt hb e)))).1, fun b hb => ?_, w7⟩
      obtain ⟨o, e, d⟩ := T.obj _ _ st5 b hb
      exact (I7.pin (b, o) (List.mem_append_right _ (List.mem_append_right _ (mem_pinsAt hb e)))).2.1
    cases f with
    | next => obtain ⟨σ7, H7, I7, n7⟩ := q7; exact again I7 n7
    | cont => obtain ⟨σ7, H7, I7, n7⟩ := q7; exact again I7 n7
    | brk => obtain ⟨σ7, H7, I7, q7⟩ := q7; exact ⟨σ7, H7, I7.unpinned, q7⟩
    | ret v => obtain ⟨x7, σ7, H7, I7, r7, q7⟩ := q7; exact ⟨x7, σ7, H7, I7.unpinned, r7, q7⟩
end
theorem for_list {K : PySem.W.Frag} {a : Addr} {xs : List V} {g : TG} {tb : TS} {D : Ends} {σ : St} {H : Hp} (Pv : Nat → St → Hp → Prop) (h0 : Pv 0 σ H) (hl : ∀ i σ H, i ≤ xs.length → Pv i σ H → SqL K H a xs)
    (hs : ∀ i x σ H, xs[i]? = some x → Pv i σ H → g x σ H fun σ2 H2 => tb { D with nx := Pv (i + 1), ct := Pv (i + 1), bk := D.nx } σ2 H2) (hd : ∀ σ H, Pv xs.length σ H → D.nx σ H) :
    ∃ W : Nat → Nat → St → Hp → Prop, (∃ m, W 0 m σ H) ∧ ∀ i m σ H, W i m σ H →
      ((Itl K a).stop i H ∧ D.nx σ H) ∨ ((Itl K a).go i H ∧ ∃ N : St → Hp → Prop, (∀ σ' H', N σ' H' → ∃ m', m' < m ∧ W (i + 1) m' σ' H') ∧ ∀ x H', (Itl K a).yld i H x H' → g x σ H' fun σ2 H2 => tb { D with nx := N, ct := N, bk := D.nx } σ2 H2) := by
  refine ⟨fun i m σ H => m = xs.length - i ∧ i ≤ xs.length ∧ Pv i σ H, ⟨xs.length, by simp, Nat.zero_le _, h0⟩, ?_⟩
  rintro i m σ H ⟨rfl, hi, p⟩
  have q := hl i σ H hi p
  by_cases hlt : i < xs.length
  · refine .inr ⟨⟨xs, xs[i], q, by simp [hlt]⟩, Pv (i + 1), fun σ' H' p' => ⟨xs.length - (i + 1), by omega, rfl, hlt, p'⟩, fun x H' y => ?_⟩
    obtain ⟨e, y⟩ := y
    subst e
    exact hs i x σ _ (y xs q) p
  · have e : i = xs.length := by omega
    subst e
    exact .inl ⟨⟨xs, q, Nat.le_refl _⟩, hd σ H p⟩
theorem for_tup {K : PySem.W.Frag} {a : Addr} {xs : List V} {g : TG} {tb : TS} {D : Ends} {σ : St} {H : Hp} (Pv : Nat → St → Hp → Prop) (h0 : Pv 0 σ H) (hl : ∀ i σ H, i ≤ xs.length → Pv i σ H → SqT K H a xs)
    (hs : ∀ i x σ H, xs[i]? = some x → Pv i σ H → g x σ H fun σ2 H2 => tb { D with nx := Pv (i + 1), ct := Pv (i + 1), bk := D.nx } σ2 H2) (hd : ∀ σ H, Pv xs.length σ H → D.nx σ H) :
    ∃ W : Nat → Nat → St → Hp → Prop, (∃ m, W 0 m σ H) ∧ ∀ i m σ H, W i m σ H →
      ((Itt K a).stop i H ∧ D.nx σ H) ∨ ((Itt K a).go i H ∧ ∃ N : St → Hp → Prop, (∀ σ' H', N σ' H' → ∃ m', m' < m ∧ W (i + 1) m' σ' H') ∧ ∀ x H', (Itt K a).yld i H x H' → g x σ H' fun σ2 H2 => tb { D with nx := N, ct := N, bk := D.nx } σ2 H2) := by
  refine ⟨fun i m σ H => m = xs.length - i ∧ i ≤ xs.length ∧ Pv i σ H, ⟨xs.length, by simp, Nat.zero_le _, h0⟩, ?_⟩
  rintro i m σ H ⟨rfl, hi, p⟩
  have q := hl i σ H hi p
  by_cases hlt : i < xs.length
  · refine .inr ⟨⟨xs, xs[i], q, by simp [hlt]⟩, Pv (i + 1), fun σ' H' p' => ⟨xs.length - (i + 1), by omega, rfl, hlt, p'⟩, fun x H' y => ?_⟩
    obtain ⟨e, y⟩ := y
    subst e
    exact hs i x σ _ (y xs q) p
  · have e : i = xs.length := by omega
    subst e
    exact .inl ⟨⟨xs, q, Nat.le_refl _⟩, hd σ H p⟩
theorem for_range {lo : Int} {n : Nat} {g : TG} {tb : TS} {D : Ends} {σ : St} {H : Hp} (Pv : Nat → St → Hp → Prop) (h0 : Pv 0 σ H)
    (hs : ∀ i σ H, i < n → Pv i σ H → g (.int (lo + i)) σ H fun σ2 H2 => tb { D with nx := Pv (i + 1), ct := Pv (i + 1), bk := D.nx } σ2 H2) (hd : ∀ σ H, Pv n σ H → D.nx σ H) :
    ∃ W : Nat → Nat → St → Hp → Prop, (∃ m, W 0 m σ H) ∧ ∀ i m σ H, W i m σ H →
      ((Itr lo n).stop i H ∧ D.nx σ H) ∨ ((Itr lo n).go i H ∧ ∃ N : St → Hp → Prop, (∀ σ' H', N σ' H' → ∃ m', m' < m ∧ W (i + 1) m' σ' H') ∧ ∀ x H', (Itr lo n).yld i H x H' → g x σ H' fun σ2 H2 => tb { D with nx := N, ct := N, bk := D.nx } σ2 H2) := by
  refine ⟨fun i m σ H => m = n - i ∧ i ≤ n ∧ Pv i σ H, ⟨n, by simp, Nat.zero_le _, h0⟩, ?_⟩
  rintro i m σ H ⟨rfl, hi, p⟩
  by_cases hlt : i < n
  · refine .inr ⟨hlt, Pv (i + 1), fun σ' H' p' => ⟨n - (i + 1), by omega, rfl, hlt, p'⟩, fun x H' y => ?_⟩
    obtain ⟨e, y⟩ := y
    subst e y
    exact hs i σ _ hlt p
  · have e : i = n := by omega
    subst e
    exact .inl ⟨Nat.le_refl _, hd σ H p⟩
abbrev R2 := V → V → Hp → VK → Prop
def OpR (X : Cx) (f : Value → Value → Sem Value) (r : R2) : Prop :=
  ∀ (pins : List (Addr × Obj)) (s : Shared) (σ : St) (H : Hp) (x y : V) (v u : Value) (Q : VK), Inv X pins σ H s → RelV x v → RelV y u → r x y H Q →
    wpAny (model X.prog X.w) X.A (f v u) (EP X pins σ Q) X.xe s
def CallR (X : Cx) (f : Value) (r : List V → Hp → VK → Prop) : Prop :=
  ∀ (pins : List (Addr × Obj)) (s : Shared) (σ : St) (H : Hp) (xs : List V) (us : List Value) (Q : VK), Inv X pins σ H s → Vals xs us → r xs H Q →
    wpAny (model X.prog X.w) X.A (call f us) (EP X pins σ Q) X.xe s
def tOp (r : R2) (ta tb : TE) : TE := fun σ H Q => ta σ H fun x H1 => tb σ H1 fun y H2 => r x y H2 Q
def rI (C : Int → Int → Prop) (g : Int → Int → V) : R2 := fun x y H Q => ∃ i j, x = .int i ∧ y = .int j ∧ C i j ∧ Q (g i j) H
def rI0 (g : Int → Int → V) : R2 := fun x y H Q => ∃ i j, x = .int i ∧ y = .int j ∧ Q (g i j) H
section
variable {X : Cx} {a b c : Expr} {ta tb tc : TE} {pos : Pos}
theorem binT (ha : PE X a ta) (hb : PE X b tb) {pins : List (Addr × Obj)} {s : Shared} {σ : St} {H : Hp} {R : V → V → Hp → Prop} (I : Inv X pins σ H s)
    (h : ta σ H fun x H1 => tb σ H1 fun y H2 => R x y H2) {Q : Value → Shared → Prop} {f : Value → Value → Sem Value}
    (hf : ∀ v u s2 x y H2, Inv X pins σ H2 s2 → RelV x v → RelV y u → R x y H2 → wpAny (model X.prog X.w) X.A (f v u) Q X.xe s2) :
    wpAny (model X.prog X.w) X.A (eval a X.env) (fun v s₁ => wpAny (model X.prog X.w) X.A (eval b X.env) (fun u s₂ => wpAny (model X.prog X.w) X.A (f v u) Q X.xe s₂) X.xe s₁) X.xe s := by
  refine thn (ha pins s σ H _ I h) fun v s1 ⟨x, H1, I1, r1, q1⟩ => ?_
  refine thn (hb pins s1 σ H1 _ I1 q1) fun u s2 ⟨y, H2, I2, r2, q2⟩ => ?_
  exact hf v u s2 x y H2 I2 r1 r2 q2
theorem pe_op {op : Operator} {r : R2} (ho : OpR X (binaryOp op) r) (ha : PE X a ta) (hb : PE X b tb) : PE X (.BinOp a op b pos) (tOp r ta tb) := by
  intro pins s σ H Q I h
  exact wpAny_BinOp (binT ha hb I h fun v u s2 x y H2 I2 rx ry q => ho pins s2 σ H2 x y v u Q I2 rx ry q)
theorem opI {f : Value → Value → Sem Value} {C : Int → Int → Prop} {g : Int → Int → Int}
    (rule : ∀ (i j : Int) (t u : Tok) (s : Shared) (Q : Value → Shared → Prop) (E : Value → Shared → Prop), C i j → Q (.int (g i j) s.toks) { s with toks := s.toks + 1 } → wpAny (model X.prog X.w) X.A (f (.int i t) (.int j u)) Q E s) :
    OpR X f (rI C fun i j => .int (g i j)) := by
  intro pins s σ H x y v u Q I rx ry h
  obtain ⟨i, j, rfl, rfl, hc, q⟩ := h
  obtain ⟨t, rfl⟩ := rx
  obtain ⟨t', rfl⟩ := ry
  exact rule i j t t' s _ _ hc ⟨.int (g i j), H, I.tok _, ⟨_, rfl⟩, q⟩
theorem opI0 {f : Value → Value → Sem Value} {g : Int → Int → Int}
    (rule : ∀ (i j : Int) (t u : Tok) (s : Shared) (Q : Value → Shared → Prop) (E : Value → Shared → Prop), Q (.int (g i j) s.toks) { s with toks := s.toks + 1 } → wpAny (model X.prog X.w) X.A (f (.int i t) (.int j u)) Q E s) :
    OpR X f (rI0 fun i j => .int (g i j)) := by
  intro pins s σ H x y v u Q I rx ry h
  obtain ⟨i, j, rfl, rfl, q⟩ := h
  obtain ⟨t, rfl⟩ := rx
  obtain ⟨t', rfl⟩ := ry
  exact rule i j t t' s _ _ ⟨.int (g i j), H, I.tok _, ⟨_, rfl⟩, q⟩
theorem opB0 {f : Value → Value → Sem Value} {g : Int → Int → Bool}
    (rule : ∀ (i j : Int) (t u : Tok) (s : Shared) (Q : Value → Shared → Prop) (E : Value → Shared → Prop), Q (.bool (g i j)) s → wpAny (model X.prog X.w) X.A (f (.int i t) (.int j u)) Q E s) :
    OpR X f (rI0 fun i j => .bl (g i j)) := by
  intro pins s σ H x y v u Q I rx ry h
  obtain ⟨i, j, rfl, rfl, q⟩ := h
  obtain ⟨t, rfl⟩ := rx
  obtain ⟨t', rfl⟩ := ry
  exact rule i j t t' s _ _ ⟨.bl (g i j), H, I, rfl, q⟩
def CDiv (i j : Int) : Prop := 0 < j ∧ j < 1073741824
def CPow (i j : Int) : Prop := 0 ≤ j ∧ j ≤ 1000000 ∧ i.natAbs < 2 ^ 64
def CMul (i j : Int) : Prop := (-(2 ^ 64) < i ∧ i < 2 ^ 64) ∨ (-(2 ^ 64) < j ∧ j < 2 ^ 64)
theorem CMul.ok {i j : Int} (h : CMul i j) : IntMulOk i j := by
  rcases h with ⟨h1, h2⟩ | ⟨h1, h2⟩
  · exact .of_left (intBits_le_64 h1 h2)
  · exact .of_right (intBits_le_64 h1 h2)
theorem two_pow_nn (k : Nat) : (0 : Int) ≤ 2 ^ k := by
  rw [two_pow_cast]
  exact Int.natCast_nonneg _
theorem op_add : OpR X (binaryOp .Add) (rI0 fun i j => .int (i + j)) := opI0 fun _ _ _ _ _ _ _ q => add_int q
theorem op_sub : OpR X (binaryOp .Sub) (rI0 fun i j => .int (i - j)) := opI0 fun _ _ _ _ _ _ _ q => sub_int q
theorem op_mul : OpR X (binaryOp .Mult) (rI CMul fun i j => .int (i * j)) := opI fun _ _ _ _ _ _ _ hc q => mul_int q hc.ok
theorem op_fdiv : OpR X (binaryOp .FloorDiv) (rI CDiv fun i j => .int (i / j)) := opI fun i j _ _ _ _ _ hc q => by
  have h1 : (0 : Int) < j := hc.1
  have h2 : j < 1073741824 := hc.2
  exact floordiv_int (by omega) (by rw [Int.fdiv_eq_ediv_of_nonneg i (by omega)]; exact q) (.inl (PyProof.noPylong_small (by omega)))
theorem op_mod : OpR X (binaryOp .Mod) (rI (fun _ j => 0 < j) fun i j => .int (i % j)) := opI fun i j _ _ _ _ _ hc q => by
  have h1 : (0 : Int) < j := hc
  exact mod_int' (by omega) (by rw [Int.fmod_eq_emod_of_nonneg i (by omega)]; exact q)
theorem op_shl : OpR X (binaryOp .LShift) (rI CPow fun i j => .int (i * 2 ^ j.toNat)) := opI fun _ _ _ _ _ _ _ hc q => lshift_int_small hc.1 hc.2.1 hc.2.2 q
theorem op_shr : OpR X (binaryOp .RShift) (rI (fun _ j => 0 ≤ j) fun i j => .int (i / 2 ^ j.toNat)) := opI fun i j _ _ _ _ _ hc q =>
  rshift_int hc (by rw [Int.fdiv_eq_ediv_of_nonneg i (two_pow_nn _)]; exact q)
theorem op_and : OpR X (binaryOp .BitAnd) (rI0 fun i j => .int (Builtin.bitAnd i j)) := opI0 fun _ _ _ _ _ _ _ q => and_int q
end
def scal : V → V → Bool
  | .non, .non => true | .non, .int _ => true | .int _, .non => true | .non, .bl _ => true | .bl _, .non => true | .non, .str _ => true | .str _, .non => true
  | .int _, .int _ => true | .bl _, .bl _ => true | .str _, .str _ => true | .byt _, .byt _ => true
  | .int _, .str _ => true | .str _, .int _ => true | .bl _, .str _ => true | .str _, .bl _ => true
  | _, _ => false
def rEq : R2 := fun x y H Q => scal x y = true ∧ Q (.bl (decide (x = y))) H
def rNe : R2 := fun x y H Q => scal x y = true ∧ Q (.bl (!decide (x = y))) H
theorem dec_int {i j : Int} : decide (V.int i = V.int j) = (i == j) := by
  rw [Bool.eq_iff_iff]
  simp
theorem dec_bl {i j : Bool} : decide (V.bl i = V.bl j) = (i == j) := by
  rw [Bool.eq_iff_iff]
  simp
theorem dec_str {i j : Str} : decide (V.str i = V.str j) = (i == j) := by
  rw [Bool.eq_iff_iff]
  simp
theorem dec_byt {i j : Array UInt8} : decide (V.byt i = V.byt j) = (i.toList == j.toList) := by
  rw [Bool.eq_iff_iff]
  cases i
  cases j
  simp
section
variable {X : Cx} {a b c : Expr} {ta tb tc : TE} {pos : Pos}
theorem fin_bl {pins : List (Addr × Obj)} {σ : St} {H : Hp} {s : Shared} {Q : VK} {k k' : Bool} (I : Inv X pins σ H s) (q : Q (.bl k) H) (e : k = k') : EP X pins σ Q (.bool k') s := by
  subst e
  exact ⟨.bl k, H, I, rfl, q⟩
theorem op_eq : OpR X (compareOp .Eq) rEq := by
  intro pins s σ H x y v u Q I rx ry h
  obtain ⟨hs, q⟩ := h
  cases x with
  | non =>
    cases rx
    cases y with
    | non => cases ry; exact PySem.EqNone.eq_none_none (fin_bl I q (by simp))
    | bl j => cases ry; exact PySem.EqNone.eq_none_bool (fin_bl I q (by simp))
    | int j => obtain ⟨t', rfl⟩ := ry; exact PySem.EqNone.eq_none_int (fin_bl I q (by simp))
    | str j => obtain ⟨t', rfl⟩ := ry; exact PySem.EqNone.eq_none_str (fin_bl I q (by simp))
    | _ => exact absurd (show false = true from hs) Bool.false_ne_true
  | bl i =>
    cases rx
    cases y with
    | non => cases ry; exact PySem.EqNone.eq_bool_none (fin_bl I q (by simp))
    | bl j => cases ry; exact eq_bool (fin_bl I q dec_bl)
    | str j => obtain ⟨t', rfl⟩ := ry; exact PySem.EqMixed.eq_bool_str (fin_bl I q (by simp))
    | _ => exact absurd (show false = true from hs) Bool.false_ne_true
  | int i =>
    obtain ⟨t, rfl⟩ := rx
    cases y with
    | non => cases ry; exact PySem.EqNone.eq_int_none (fin_bl I q (by simp))
    | int j => obtain ⟨t', rfl⟩ := ry; exact eq_int (fin_bl I q dec_int)
    | str j => obtain ⟨t', rfl⟩ := ry; exact PySem.EqMixed.eq_int_str (fin_bl I q (by simp))
    | _ => exact absurd (show false = true from hs) Bool.false_ne_true
  | str i =>
    obtain ⟨t, rfl⟩ := rx
    cases y with
    | non => cases ry; exact PySem.EqNone.eq_str_none (fin_bl I q (by simp))
    | bl j => cases ry; exact PySem.EqMixed.eq_str_bool (fin_bl I q (by simp))
    | int j => obtain ⟨t', rfl⟩ := ry; exact PySem.EqMixed.eq_str_int (fin_bl I q (by simp))
    | str j => obtain ⟨t', rfl⟩ := ry; exact eq_str (fin_bl I q dec_str)
    | _ => exact absurd (show false = true from hs) Bool.false_ne_true
  | byt i =>
    obtain ⟨t, rfl⟩ := rx
    cases y with
    | byt j => obtain ⟨t', rfl⟩ := ry; exact PySem.W.eq_bytes (fin_bl I q dec_byt)
    | _ => exact absurd (show false = true from hs) Bool.false_ne_true
  | _ => cases y <;> exact absurd (show false = true from hs) Bool.false_ne_true
theorem op_ne : OpR X (compareOp .NotEq) rNe := by
  intro pins s σ H x y v u Q I rx ry h
  obtain ⟨hs, q⟩ := h
  cases x with
  | non =>
    cases rx
    cases y with
    | non => cases ry; exact PySem.EqNone.ne_none_none (fin_bl I q (by simp))
    | bl j => cases ry; exact PySem.EqNone.ne_none_bool (fin_bl I q (by simp))
    | int j => obtain ⟨t', rfl⟩ := ry; exact PySem.EqNone.ne_none_int (fin_bl I q (by simp))
    | str j => obtain ⟨t', rfl⟩ := ry; exact PySem.EqNone.ne_none_str (fin_bl I q (by simp))
    | _ => exact absurd (show false = true from hs) Bool.false_ne_true
  | bl i =>
    cases rx
    cases y with
    | non => cases ry; exact PySem.EqNone.ne_bool_none (fin_bl I q (by simp))
    | bl j => cases ry; exact ne_bool (fin_bl I q (congrArg not dec_bl))
    | str j => obtain ⟨t', rfl⟩ := ry; exact PySem.EqMixed.ne_bool_str (fin_bl I q (by simp))
    | _ => exact absurd (show false = true from hs) Bool.false_ne_true
  | int i =>
    obtain ⟨t, rfl⟩ := rx
    cases y with
    | non => cases ry; exact PySem.EqNone.ne_int_none (fin_bl I q (by simp))
    | int j => obtain ⟨t', rfl⟩ := ry; exact ne_int (fin_bl I q (congrArg not dec_int))
    | str j => obtain ⟨t', rfl⟩ := ry; exact PySem.EqMixed.ne_int_str (fin_bl I q (by simp))
    | _ => exact absurd (show false = true from hs) Bool.false_ne_true
  | str i =>
    obtain ⟨t, rfl⟩ := rx
    cases y with
    | non => cases ry; exact PySem.EqNone.ne_str_none (fin_bl I q (by simp))
    | bl j => cases ry; exact PySem.EqMixed.ne_str_bool (fin_bl I q (by simp))
    | int j => obtain ⟨t', rfl⟩ := ry; exact PySem.EqMixed.ne_str_int (fin_bl I q (by simp))
    | str j => obtain ⟨t', rfl⟩ := ry; exact ne_str (fin_bl I q (congrArg not dec_str))
    | _ => exact absurd (show false = true from hs) Bool.false_ne_true
  | byt i =>
    obtain ⟨t, rfl⟩ := rx
    cases y with
    | byt j => obtain ⟨t', rfl⟩ := ry; exact PySem.W.ne_bytes (fin_bl I q (congrArg not dec_byt))
    | _ => exact absurd (show false = true from hs) Bool.false_ne_true
  | _ => cases y <;> exact absurd (show false = true from hs) Bool.false_ne_true
theorem op_lt : OpR X (compareOp .Lt) (rI0 fun i j => .bl (decide (i < j))) := opB0 fun _ _ _ _ _ _ _ q => lt_int q
theorem op_le : OpR X (compareOp .LtE) (rI0 fun i j => .bl (decide (i ≤ j))) := opB0 fun _ _ _ _ _ _ _ q => le_int q
theorem op_gt : OpR X (compareOp .Gt) (rI0 fun i j => .bl (decide (j < i))) := opB0 fun _ _ _ _ _ _ _ q => gt_int q
theorem op_in_str : OpR X (compareOp .In) (fun x y H Q => ∃ i j, x = .str i ∧ y = .str j ∧ Q (.bl (!(Builtin.Str.occurrences j i 0 j.length 1).isEmpty)) H) := by
  intro pins s σ H x y v u Q I rx ry h
  obtain ⟨i, j, rfl, rfl, q⟩ := h
  obtain ⟨t, rfl⟩ := rx
  obtain ⟨t', rfl⟩ := ry
  exact in_str (fin_bl I q rfl)
theorem nomark (b : Expr) {op : CmpOp} (h : op ≠ .In := by decide) (h2 : op ≠ .NotIn := by decide) : behindInMarks op b = false := by
  have e1 : (op == CmpOp.In) = false := by cases op <;> first | rfl | exact absurd rfl h
  have e2 : (op == CmpOp.NotIn) = false := by cases op <;> first | rfl | exact absurd rfl h2
  cases b <;> simp [behindInMarks, e1, e2]
theorem pe_cmpR {op : CmpOp} {r : R2} (ho : OpR X (compareOp op) r) (ha : PE X a ta) (hb : PE X b tb) (hm : behindInMarks op b = false) : PE X (.Compare a [op] [b] pos) (tOp r ta tb) := by
  intro pins s σ H Q I h
  exact wpAny_Compare1 (binT ha hb I h fun v u s2 x y H2 I2 rx ry q => ho pins s2 σ H2 x y v u Q I2 rx ry q) hm
def tTest (t : TE) : TT := fun σ H Q => t σ H fun x H' => ∃ k, x = .bl k ∧ Q k H'
theorem pt_cmpR {op : CmpOp} {r : R2} (ho : OpR X (compareOp op) r) (ha : PE X a ta) (hb : PE X b tb) (hm : behindInMarks op b = false) : PT X (.Compare a [op] [b] pos) (tTest (tOp r ta tb)) := by
  intro pins s σ H Q I h
  refine wpAny_isTrue_Compare1 (thn (ha pins s σ H _ I h) fun v s1 ⟨x, H1, I1, r1, q1⟩ => thn (hb pins s1 σ H1 _ I1 q1) fun u s2 ⟨y, H2, I2, r2, q2⟩ =>
    thn (ho pins s2 σ H2 x y v u _ I2 r1 r2 q2) fun c s3 ⟨z, H3, I3, r3, k, e, q3⟩ => ?_) hm
  subst e
  cases r3
  exact wpAny_truthy_bool ⟨H3, I3, q3⟩
def tChain (r r' : R2) (ta tb tc : TE) : TE := fun σ H Q => ta σ H fun x H1 => tb σ H1 fun y H2 => r x y H2 fun z H3 => ∃ k, z = .bl k ∧
  (if k = true then tc σ H3 fun w' H4 => r' y w' H4 Q else Q (.bl false) H3)
theorem pe_chain {op op' : CmpOp} {r r' : R2} (ho : OpR X (compareOp op) r) (ho' : OpR X (compareOp op') r') (ha : PE X a ta) (hb : PE X b tb) (hc : PE X c tc)
    (hm : lastMarks [op, op'] [b, c] = false := by with_unfolding_all rfl) : PE X (.Compare a [op, op'] [b, c] pos) (tChain r r' ta tb tc) := by
  intro pins s σ H Q I h
  refine Compare_chain (thn (ha pins s σ H _ I h) fun v s1 ⟨x, H1, I1, r1, q1⟩ => chain_link (thn (hb pins s1 σ H1 _ I1 q1) fun u s2 ⟨y, H2, I2, r2, q2⟩ =>
    thn (ho pins s2 σ H2 x y v u _ I2 r1 r2 q2) fun d s3 ⟨z, H3, I3, r3, k, e, q3⟩ => ?_)) hm
  subst e
  cases r3
  refine wpAny_truthy_bool ?_
  cases k with
  | false => exact ite_ff ⟨.bl false, H3, I3, rfl, q3⟩
  | true => exact ite_tt (chain_last (thn (hc pins s3 σ H3 _ I3 q3) fun w' s4 ⟨z', H4, I4, r4, q4⟩ => ho' pins s4 σ H4 y z' u w' Q I4 r2 r4 q4))
theorem line63 : (sizeLine : Nat) < 2 ^ 63 := by rw [sizeLine_eq]; decide
theorem vals1 {x : V} {us : List Value} (r : Vals [x] us) : ∃ u, us = [u] ∧ RelV x u := by
  cases r with
  | cons r1 r2 => cases r2; exact ⟨_, rfl, r1⟩
theorem vals2 {x y : V} {us : List Value} (r : Vals [x, y] us) : ∃ u w', us = [u, w'] ∧ RelV x u ∧ RelV y w' := by
  cases r with
  | cons r1 r2 =>
    cases r2 with
    | cons r3 r4 => cases r4; exact ⟨_, _, rfl, r1, r3⟩
theorem call_max2 (hc : X.calm = true) : CallR X (.builtin "max") (fun xs H Q => ∃ i j, xs = [.int i, .int j] ∧ Q (.int (if j > i then j else i)) H) := by
  intro pins s σ H xs us Q I r h
  obtain ⟨i, j, rfl, q⟩ := h
  obtain ⟨u, w', rfl, ⟨t, rfl⟩, ⟨t', rfl⟩⟩ := vals2 r
  refine max_two_ints (I.ok.hd hc) fun h' tk k => ⟨_, H, I.kept k, ?_, q⟩
  by_cases hj : j > i
  · rw [if_pos hj, if_pos hj]; exact ⟨_, rfl⟩
  · rw [if_neg hj, if_neg hj]; exact ⟨_, rfl⟩
theorem call_int1 : CallR X (.type "int") (fun xs H Q => (∃ i, xs = [.int i] ∧ Q (.int i) H) ∨ ∃ k, xs = [.bl k] ∧ Q (.int (if k then 1 else 0)) H) := by
  intro pins s σ H xs us Q I r h
  rcases h with ⟨i, rfl, q⟩ | ⟨k, rfl, q⟩
  · obtain ⟨u, rfl, t, rfl⟩ := vals1 r
    exact call_int_int ⟨.int i, H, I, ⟨_, rfl⟩, q⟩
  · obtain ⟨u, rfl, r1⟩ := vals1 r
    cases r1
    exact call_int_bool ⟨.int (if k then 1 else 0), H, I.tok _, ⟨_, rfl⟩, q⟩
end
structure ObjM (h : Heap) (x dx C : Addr) (mA : Str → Option Value) : Prop where
  obj : h.get? x = some (PySem.W.instObj C dx)
  ns : h.Ns1 dx mA
  ne : dx ≠ x
theorem lookIn_ns {h : Heap} {dx : Addr} {mA : Str → Option Value} (n : h.Ns1 dx mA) : ∃ od, h.get? dx = some od ∧ ∀ name, PySem.W.lookIn name od = some (mA name) := by
  obtain ⟨o, es, ep, ho, hd, hk, _, hm⟩ := n
  refine ⟨o, ho, fun name => ?_⟩
  have e := hm name
  unfold nsFind findBy at e
  rw [← Array.find?_toList] at e
  unfold PySem.W.lookIn
  rw [hd]
  dsimp only
  split
  · rename_i y q
    rw [q] at e
    exact congrArg some e
  · rename_i q
    rw [q] at e
    have a : es.toList.any (·.refKey) = false := by
      rw [List.any_eq_false]
      intro y hy
      obtain ⟨z, t, hkey⟩ := hk y (Array.mem_toList_iff.mp hy)
      simp [DictEntry.refKey, hkey]
    have a' : ¬ es.toList.any (·.refKey) = true := by rw [a]; exact Bool.false_ne_true
    rw [if_neg a']
    exact congrArg some e
theorem ObjM.look {h : Heap} {x dx C : Addr} {mA : Str → Option Value} (I : ObjM h x dx C mA) : ∃ od, PySem.W.InstAt h x (PySem.W.instObj C dx) C (some od) ∧ ∀ name, PySem.W.lookIn name od = some (mA name) :=
  let ⟨od, ho, hl⟩ := lookIn_ns I.ns
  ⟨od, ⟨I.obj, rfl, rfl, ho⟩, hl⟩
section
variable {prog : Program} {w : World} {A : Around} {E : Value → Shared → Prop} {s : Shared} {K : PySem.W.Frag} {x dx C f : Addr} {mA : Str → Option Value} {name : Str} {v : Value}
theorem get_map {expr : Bool} {Q : Value → Shared → Prop} (X : K.In s.heap) (I : ObjM s.heap x dx C mA) (hg : PySem.W.plainGet K C name = true) (hh : PySem.W.hasDictIn K C = true)
    (ha : PySem.W.findIn K (.ref C) name = some none) (hv : mA name = some v) (hv' : PySem.W.handedIn v = true) (h : Q v { s with toks := s.toks + 1 }) :
    wpAny (model prog w) A (getAttr (.ref x) name expr) Q E s := by
  obtain ⟨od, J, hl⟩ := I.look
  exact PySem.W.get_value X J (PySem.W.plainGet_of hg).1 (PySem.W.findObj_own hh ha rfl (by rw [hl, hv])) hv' h
theorem get_meth {pl : Sem Bool} {Q : Value × List Value → Shared → Prop} (X : K.In s.heap) (I : ObjM s.heap x dx C mA) (hg : PySem.W.plainGet K C name = true)
    (hf : PySem.W.findIn K (.ref C) name = some (some (.ref f))) (ht : PySem.W.isFn K (.ref f) = true) (hv : mA name = none) (h : Q (.ref f, [.ref x]) s) :
    wpAny (model prog w) A (getMethod (.ref x) name pl) Q E s := by
  obtain ⟨od, J, hl⟩ := I.look
  exact PySem.W.method_fn X J (PySem.W.plainGet_of hg).1 (PySem.W.plainGet_of hg).2 hf (beq_iff_eq.mp ht) (by show (PySem.W.lookIn name od).map (·.isSome) = some false; rw [hl, hv]; rfl) h
theorem set_map {ns : List Str} {Q : Unit → Shared → Prop} (X : K.In s.heap) (I : ObjM s.heap x dx C mA)
    (hs : PySem.W.findIn K (.ref C) "__setattr__" = some (some (.builtin "object.__setattr__"))) (hp : PySem.W.plainOver K C = true) (ht : PySem.W.takerIn K C name = some none) (hh : PySem.W.hasDictIn K C = true)
    (hw : PySem.Within mA ns) (hsz : ns.length ≤ sizeLine)
    (h : ∀ h', ObjM h' x dx C (fun y => if y = name then some v else mA y) → Heap.SameBut dx s.heap h' → Q () { s with heap := h', toks := s.toks + 2 }) :
    wpAny (model prog w) A (setAttr (.ref x) name v) Q E s := by
  obtain ⟨od, J, hl⟩ := I.look
  refine PySem.W.set_plain X J hs (PySem.W.osa_open (s := { s with toks := s.toks + 1 }) (r := none) X J hp ht fun b => ?_)
  obtain ⟨cd, hc, hd'⟩ := PySem.W.any_some hh
  have hx : s.heap.get? x = some ⟨.ref C, some dx, .plain, #[]⟩ := I.obj
  refine wpAny_bind (wpAny_pure (wpAny_bind (wpAny_bind (wpAny_loadPart hx (wpAny_bind (PySem.W.Looks.here (s := { s with toks := s.toks + 1 }) (PySem.W.looks_clsIn X hc) ?_))))))
  rw [hd']
  refine wpAny_pure (a := some dx) (wpAny_bind (wpAny_pure (wpAny_bind ?_)))
  refine wpAny_nsSet1 (s := { s with toks := s.toks + 1 }) I.ns fun h' hn2 hs2 => ?_
  obtain ⟨oD, esD, epD, hoD, hdD, hcD⟩ := hn2.count (PySem.Within.cons name v hw)
  refine wpAny_bind (wpAny_lookBehind hoD (by rw [hdD]; exact pastItsLine_dict (Nat.le_trans hcD (by rw [List.length_cons]; omega))) ?_)
  exact wpAny_pure (h _ ⟨(hs2.2 _ (Ne.symm I.ne)).trans I.obj, hn2, I.ne⟩ hs2)
theorem make_map {R : Result → Shared → Prop} {vs : List Value} {kw : List (Str × Value)} (X : K.In s.heap) (hm : PySem.W.makesIn K C = true)
    (hi : PySem.W.findIn K (.ref C) "__init__" = some (some (.ref f))) (hf : PySem.W.typeIn K (.ref f) = some (.type "function"))
    (h : codeAny (model prog w) (A.under (.builtin "type.__call__" ⟨.ref C :: vs, kw⟩)) (.call (.ref f) ⟨.ref (s.heap.objs.size + 1) :: vs, kw⟩) (PySem.W.InitBack (s.heap.objs.size + 1) R)
      { s with heap := (s.heap.push PySem.W.emptyDict).push (PySem.W.instObj C s.heap.objs.size) }) :
    codeAny (model prog w) A (.call (.ref C) ⟨vs, kw⟩) R s := by
  obtain ⟨hh, g, d, t, os⟩ := s
  exact PySem.W.make_core (PySem.W.makes_of X hm) (PySem.W.looks_findIn X hi) (fun self => PySem.W.bind_fn X self hf) (.inl rfl) h
end
def putF (f : Str) (v : V) : List (Str × V) → List (Str × V)
  | [] => [(f, v)]
  | (g, x) :: r => if g = f then (g, v) :: r else (g, x) :: putF f v r
theorem lookup_putF (f g : Str) (v : V) : ∀ fs : List (Str × V), (putF f v fs).lookup g = if g = f then some v else fs.lookup g
  | [] => by
    show List.lookup g [(f, v)] = _
    by_cases h : g = f
    · have hb : (g == f) = true := beq_iff_eq.mpr h
      simp only [List.lookup, hb, if_pos h]
    · have hb : (g == f) = false := beq_eq_false_iff_ne.mpr h
      simp only [List.lookup, hb, if_neg h]
  | (k, x) :: r => by
    have ih := lookup_putF f g v r
    rw [show putF f v ((k, x) :: r) = (if k = f then (k, v) :: r else (k, x) :: putF f v r) from rfl]
    by_cases hk : k = f
    · rw [if_pos hk]
      by_cases h : g = k
      · have hb : (g == k) = true := beq_iff_eq.mpr h
        simp only [List.lookup, hb, if_pos (h.trans hk)]
      · have hb : (g == k) = false := beq_eq_false_iff_ne.mpr h
        simp only [List.lookup, hb, if_neg (fun e : g = f => h (e.trans hk.symm))]
    · rw [if_neg hk]
      by_cases h : g = k
      · have hb : (g == k) = true := beq_iff_eq.mpr h
        simp only [List.lookup, hb, if_neg (fun e : g = f => hk (h.symm.trans e))]
      · have hb : (g == k) = false := beq_eq_false_iff_ne.mpr h
        simp only [List.lookup, hb]
        exact ih
theorem keys_putF (f : Str) (v : V) : ∀ fs : List (Str × V), f ∈ (putF f v fs).map (·.1) ∧ ∀ g, g ∈ fs.map (·.1) → g ∈ (putF f v fs).map (·.1)
  | [] => ⟨by simp [putF], fun g h => by simp at h⟩
  | (k, x) :: r => by
    obtain ⟨i1, i2⟩ := keys_putF f v r
    rw [show putF f v ((k, x) :: r) = (if k = f then (k, v) :: r else (k, x) :: putF f v r) from rfl]
    by_cases hk : k = f
    · rw [if_pos hk]
      subst hk
      exact ⟨by simp, fun g h => by simpa using h⟩
    · rw [if_neg hk]
      refine ⟨?_, fun g h => ?_⟩
      · rw [List.map_cons]
        exact List.mem_cons_of_mem _ i1
      · rw [List.map_cons] at h ⊢
        rcases List.mem_cons.mp h with e | e
        · exact List.mem_cons.mpr (.inl e)
        · exact List.mem_cons_of_mem _ (i2 g e)
theorem length_putF (f : Str) (v : V) : ∀ fs : List (Str × V), (putF f v fs).length ≤ fs.length + 1
  | [] => by simp [putF]
  | (k, x) :: r => by
    have ih := length_putF f v r
    rw [show putF f v ((k, x) :: r) = (if k = f then (k, v) :: r else (k, x) :: putF f v r) from rfl]
    by_cases hk : k = f
    · rw [if_pos hk, List.length_cons, List.length_cons]; omega
    · rw [if_neg hk, List.length_cons, List.length_cons]; omega
theorem RelO.some_of {v : V} {o : Option Value} (r : RelO (some v) o) : ∃ u, o = some u ∧ RelV v u := by
  cases o with
  | none => exact (show False from r).elim
  | some u => exact ⟨u, rfl, r⟩
theorem RelO.none_of {o : Option Value} (r : RelO none o) : o = none := by
  cases o with
  | none => rfl
  | some u => exact (show False from r).elim
theorem handed_of {v : V} {u : Value} (r : RelV v u) : PySem.W.handedIn u = true := by
  cases v with
  | non => cases (show u = Value.none from r); rfl
  | bl b => cases (show u = Value.bool b from r); rfl
  | int i => obtain ⟨t, e⟩ := (show ∃ t, u = Value.int i t from r); cases e; rfl
  | str x => obtain ⟨t, e⟩ := (show ∃ t, u = Value.str x t from r); cases e; rfl
  | byt b => obtain ⟨t, e⟩ := (show ∃ t, u = Value.bytes b t from r); cases e; rfl
  | flt b => obtain ⟨t, e⟩ := (show ∃ t, u = Value.float b t from r); cases e; rfl
  | ref a => cases (show u = Value.ref a from r); rfl
  | ty n => cases (show u = Value.type n from r); rfl
section
variable {P : Program} {w : World} {H H' : Hp} {h h' : Heap} {a C dx : Addr} {fs fs' : List (Str × V)}
theorem ins_get (hok : HOk P w H h) (e : H a = some (.ins C dx fs)) : ∃ mA, ObjM h a dx C mA ∧ (∀ f, RelO (fs.lookup f) (mA f)) ∧ PySem.Within mA (fs.map (·.1)) ∧ fs.length ≤ 1000 ∧ H dx = some (.own a) := by
  obtain ⟨d, z, ne, ob, mA, n, r, q⟩ := (show ObjOk P w H h a (.ins C dx fs) from hok a _ e)
  exact ⟨mA, ⟨ob, n, ne⟩, r, q, z, d⟩
end
structure Cls (K : PySem.W.Frag) (C : Addr) : Prop where
  pg : PySem.W.plainGet K C Str.empty = true
  hd : PySem.W.hasDictIn K C = true
  po : PySem.W.plainOver K C = true
  sa : PySem.W.findIn K (.ref C) "__setattr__" = some (some (.builtin "object.__setattr__"))
theorem Cls.get {K : PySem.W.Frag} {C : Addr} (c : Cls K C) (f : Str) : PySem.W.plainGet K C f = true := c.pg
def NoAttr (K : PySem.W.Frag) (C : Addr) (f : Str) : Prop := PySem.W.findIn K (.ref C) f = some none
theorem NoAttr.taker {K : PySem.W.Frag} {C : Addr} {f : Str} (n : NoAttr K C f) : PySem.W.takerIn K C f = some none := by
  unfold PySem.W.takerIn
  rw [show PySem.W.findIn K (.ref C) f = some none from n]
  rfl
structure Meth (K : PySem.W.Frag) (C : Addr) (m : Str) (f : Addr) : Prop where
  at_ : PySem.W.findIn K (.ref C) m = some (some (.ref f))
  fn : PySem.W.isFn K (.ref f) = true
  kp : PySem.W.keepIn K (.ref f) = true
section
variable {X : Cx} {pins : List (Addr × Obj)} {σ : St} {H : Hp} {s : Shared} {a C dx : Addr} {fs : List (Str × V)} {f : Str} {v : V} {A : Around} {E : Value → Shared → Prop}
theorem getattr_ok {b : Bool} {Q : Value → Shared → Prop} (I : Inv X pins σ H s) (e : H a = some (.ins C dx fs)) (c : Cls X.K C) (n : NoAttr X.K C f) (l : fs.lookup f = some v)
    (h : ∀ u s', Inv X pins σ H s' → RelV v u → Q u s') : wpAny (model X.prog X.w) A (getAttr (.ref a) f b) Q E s := by
  obtain ⟨mA, O, r, _, _, _⟩ := ins_get I.hok e
  obtain ⟨u, hu, ru⟩ := RelO.some_of (v := v) (o := mA f) (by rw [← l]; exact r f)
  exact get_map I.kIn O (c.get f) c.hd n hu (handed_of ru) (h u _ (I.tok _) ru)
theorem getmeth_ok {m : Str} {g : Addr} {pl : Sem Bool} {Q : Value × List Value → Shared → Prop} (I : Inv X pins σ H s) (e : H a = some (.ins C dx fs)) (c : Cls X.K C) (k : Meth X.K C m g) (l : fs.lookup m = none)
    (h : Q (.ref g, [.ref a]) s) : wpAny (model X.prog X.w) A (getMethod (.ref a) m pl) Q E s := by
  obtain ⟨mA, O, r, _, _, _⟩ := ins_get I.hok e
  have hn : mA m = none := RelO.none_of (by rw [← l]; exact r m)
  exact get_meth I.kIn O (c.get m) k.at_ k.fn hn h
theorem setattr_ok {y : V} {u : Value} {Q : Unit → Shared → Prop} (I : Inv X pins σ H s) (e : H a = some (.ins C dx fs)) (c : Cls X.K C) (n : NoAttr X.K C f) (hl : fs.length < 1000) (ry : RelV y u)
    (h : ∀ s', Inv X pins σ (upd H a (.ins C dx (putF f y fs))) s' → Q () s') : wpAny (model X.prog X.w) A (setAttr (.ref a) f u) Q E s := by
  obtain ⟨mA, O, r, wi, _, ho⟩ := ins_get I.hok e
  have hz : (fs.map (·.1)).length ≤ sizeLine := by rw [List.length_map, sizeLine_eq]; omega
  refine set_map I.kIn O c.sa c.po n.taker c.hd wi hz fun h' O' sb => h _ ?_
  have hd : ∃ o, h'.get? dx = some o := let ⟨o, _, _, e', _⟩ := O'.ns; ⟨o, e'⟩
  refine I.write (x := a) (e := dx) (by rw [e]; exact True.intro) (.inr ho) (fun b q hb z => (sb.2 b hb).trans z) hd ?_
  refine ⟨by rw [upd_ne O.ne]; exact ho, ?_, O.ne, O'.obj, _, O'.ns, fun g => ?_, fun g hg => ?_⟩
  · have := length_putF f y fs; omega
  · show RelO ((putF f y fs).lookup g) (if g = f then some u else mA g)
    rw [lookup_putF]
    by_cases q : g = f
    · rw [if_pos q, if_pos q]; exact ry
    · rw [if_neg q, if_neg q]; exact r g
  · by_cases q : g = f
    · rw [q]; exact (keys_putF f y fs).1
    · refine (keys_putF f y fs).2 g (wi g fun z => hg ?_)
      show (if g = f then some u else mA g) = none
      rw [if_neg q]; exact z
theorem Inv.made (I : Inv X pins σ H s) : Inv X pins σ (upd (upd H s.heap.objs.size (.own (s.heap.objs.size + 1))) (s.heap.objs.size + 1) (.ins C s.heap.objs.size []))
    { s with heap := (s.heap.push PySem.W.emptyDict).push (PySem.W.instObj C s.heap.objs.size) } := by
  have e1 : (s.heap.push PySem.W.emptyDict).get? s.heap.objs.size = some PySem.W.emptyDict := Heap.get?_push_size s.heap rfl
  have e2 : ((s.heap.push PySem.W.emptyDict).push (PySem.W.instObj C s.heap.objs.size)).get? (s.heap.objs.size + 1) = some (PySem.W.instObj C s.heap.objs.size) := by
    have := Heap.get?_push_size (s.heap.push PySem.W.emptyDict) (o := PySem.W.instObj C s.heap.objs.size) rfl
    rwa [Heap.size_push] at this
  have e3 : (s.heap.push PySem.W.emptyDict).Ns s.heap.objs.size (fun _ => none) := ⟨PySem.W.emptyDict, #[], _, e1, rfl, (fun e he => absurd he (by simp)), fun _ => rfl⟩
  have I1 := I.laid (a := s.heap.objs.size) (o := .own (s.heap.objs.size + 1)) (h' := s.heap.push PySem.W.emptyDict) (t' := s.toks) (fun b u q => Heap.get?_push_of_some _ q) (Nat.le_refl _) ⟨_, e1⟩
  refine I1.laid (a := s.heap.objs.size + 1) (o := .ins C s.heap.objs.size []) (t' := s.toks) (fun b u q => Heap.get?_push_of_some _ q) (Nat.le_of_eq (Heap.size_push _ _)) ?_
  have ne : s.heap.objs.size ≠ s.heap.objs.size + 1 := Nat.ne_of_lt (Nat.lt_succ_self _)
  refine ⟨by rw [upd_ne ne, upd_same], Nat.zero_le _, ne, e2, fun _ => none, (Heap.Ns1.of_empty e3).at fun o q => Heap.get?_push_of_some _ q, fun _ => True.intro, fun y hy => absurd rfl hy⟩
theorem attr_of {prog : Program} {w : World} {env : Env} {e : Expr} {f : Str} {pos : Pos} {s : Shared} {Q : Value → Shared → Prop} (hb : attributeBase e f env (eval e env) = eval e env)
    (h : wpAny (model prog w) A (eval e env) (fun o s₁ => wpAny (model prog w) A (getAttr o f true) Q E s₁) E s) : wpAny (model prog w) A (eval (.Attribute e f pos) env) Q E s :=
  Attribute_any_ h (by rw [arm_eval_Attribute, hb])
end
def tFld (K : PySem.W.Frag) (ta : TE) (f : Str) : TE := fun σ H Q => ta σ H fun x H1 => ∃ a C dx fs v, x = .ref a ∧ H1 a = some (.ins C dx fs) ∧ Cls K C ∧ NoAttr K C f ∧ fs.lookup f = some v ∧ Q v H1
def sFld (K : PySem.W.Frag) (ta tv : TE) (f : Str) : TS := fun D σ H => tv σ H fun y H1 => ta σ H1 fun x H2 => ∃ a C dx fs, x = .ref a ∧ H2 a = some (.ins C dx fs) ∧ Cls K C ∧ NoAttr K C f ∧ fs.length < 1000 ∧
  D.nx σ (upd H2 a (.ins C dx (putF f y fs)))
section
variable {X : Cx} {o e value : Expr} {f : Str} {pos pos' tpos : Pos} {ta tv : TE}
theorem pe_fld (he : PE X e ta) (hb : attributeBase e f X.env (eval e X.env) = eval e X.env) : PE X (.Attribute e f pos) (tFld X.K ta f) := by
  intro pins s σ H Q I h
  refine attr_of hb (thn (he pins s σ H _ I h) fun u s1 ⟨x, H1, I1, rx, a, C, dx, fs, v, ex, ea, c, n, l, q⟩ => ?_)
  subst ex
  obtain rfl : u = Value.ref a := rx
  exact getattr_ok I1 ea c n l fun u' s2 I2 ru => ⟨v, H1, I2, ru, q⟩
theorem ps_fld (ha : PE X o ta) (hv : PE X value tv) (hs : swapsWith value (some (.Attribute o f pos')) pos.line X.env = pure false) : PS X (.Assign [.Attribute o f pos'] value pos) (sFld X.K ta tv f) := by
  intro pins s σ H D I h
  refine plainObj_wpAny_Assign_Attribute (thn (hv pins s σ H _ I h) fun u s1 ⟨y, H1, I1, ry, q⟩ => thn (ha pins s1 σ H1 _ I1 q) fun ov s2 ⟨x, H2, I2, rx, a, C, dx, fs, ex, ea, c, n, l, q2⟩ => ?_) hs
  subst ex
  obtain rfl : ov = Value.ref a := rx
  exact setattr_ok I2 ea c n l ry fun s3 I3 => ⟨σ, _, I3, q2⟩
theorem methcall_of {pl : Sem Bool} {m : Str} {apos : Pos} {args : List Expr} {pins : List (Addr × Obj)} {s : Shared} {σ : St} {H : Hp} {Q : Value → Shared → Prop} {te : TE} (he : PE X e te) (I : Inv X pins σ H s)
    (h : te σ H fun x H1 => ∃ a C dx fs g, x = .ref a ∧ H1 a = some (.ins C dx fs) ∧ Cls X.K C ∧ Meth X.K C m g ∧ fs.lookup m = none ∧
      ∀ s1, Inv X pins σ H1 s1 → wpAny (model X.prog X.w) X.A (callWith pos (.ref g) [.ref a] (backTo pos (starEach args X.env)) (backToKw pos (keywordEach [] X.env))) Q X.xe s1)
    (ht : eval (.Call (.Attribute e m apos) args [] pos) X.env = (do
      let ov ← eval e X.env
      standAt apos.atName
      let (f, first) ← holding [ov] (getMethod ov m pl)
      callWith pos f first (backTo pos (starEach args X.env)) (backToKw pos (keywordEach [] X.env)))) :
    wpAny (model X.prog X.w) X.A (eval (.Call (.Attribute e m apos) args [] pos) X.env) Q X.xe s := by
  refine PySem.W.methodCall_KW (pl := pl) (thn (he pins s σ H _ I h) fun u s1 ⟨x, H1, I1, rx, a, C, dx, fs, g, ex, ea, c, k, l, q⟩ => ?_) ht
  subst ex
  obtain rfl : u = Value.ref a := rx
  exact getmeth_ok I1 ea c k l (q s1 I1)
end
section
variable {X : Cx} {pins : List (Addr × Obj)} {σ : St} {H : Hp} {s : Shared} {A : Around} {E : Value → Shared → Prop} {Q : Value → Shared → Prop} {c : Value} {b : Bool}
inductive TyOf (K : PySem.W.Frag) (H : Hp) : V → Value → Prop where
  | non : TyOf K H .non (.type "NoneType")
  | bl (x : Bool) : TyOf K H (.bl x) (.type "bool")
  | int (i : Int) : TyOf K H (.int i) (.type "int")
  | str (x : Str) : TyOf K H (.str x) (.type "str")
  | flt (x : UInt64) : TyOf K H (.flt x) (.type "float")
  | lst {a : Addr} {xs : List V} (e : H a = some (.lst xs)) : TyOf K H (.ref a) (.type "list")
  | frz {a : Addr} {o : Obj} {xs : List V} (e : H a = some (.frz o (.lst xs))) : TyOf K H (.ref a) (.type "list")
  | tup {a : Addr} {xs : List V} (e : H a = some (.tup xs)) : TyOf K H (.ref a) (.type "tuple")
  | dK {a : Addr} {kvs : List (Key × V)} (e : H a = some (.dK kvs)) : TyOf K H (.ref a) (.type "dict")
  | dT {a : Addr} {kvs : List (List Key × V)} (e : H a = some (.dT kvs)) : TyOf K H (.ref a) (.type "dict")
  | ins {a C dx : Addr} {fs : List (Str × V)} (e : H a = some (.ins C dx fs)) (cl : Cls K C) (ha : PySem.W.findIn K (.ref C) "__class__" = some (some (.builtin "object.__class__")))
      (hn : PySem.W.specialIn K (.builtin "object.__class__") "__get__" = some (some (.builtin "getset_descriptor.__get__"))) (htk : PySem.W.takesIn K (.builtin "object.__class__") = some true)
      (hm : PySem.W.mroIn K C (.type "object") = some true) : TyOf K H (.ref a) (.ref C)
theorem isinst_ok {x : V} {u t : Value} (I : Inv X pins σ H s) (rx : RelV x u) (ty : TyOf X.K H x t) (e : PySem.W.kitOne X.K t c = some b) (h : ∀ tk, Q (.bool b) { s with toks := tk }) :
    wpAny (model X.prog X.w) A (call (.builtin "isinstance") [u, c]) Q E s := by
  cases ty with
  | non => cases (show u = Value.none from rx); exact PySem.W.kia_one PySem.W.kitx_none I.kIn True.intro e (fun z => nomatch z) h
  | bl y => cases (show u = Value.bool y from rx); exact PySem.W.kia_one PySem.W.kitx_bool I.kIn True.intro e (fun z => nomatch z) h
  | int i => obtain ⟨t, q⟩ := (show ∃ t, u = Value.int i t from rx); cases q; exact PySem.W.kia_one PySem.W.kitx_int I.kIn True.intro e (fun z => nomatch z) h
  | str y => obtain ⟨t, q⟩ := (show ∃ t, u = Value.str y t from rx); cases q; exact PySem.W.kia_one PySem.W.kitx_str I.kIn True.intro e (fun z => nomatch z) h
  | flt y => obtain ⟨t, q⟩ := (show ∃ t, u = Value.float y t from rx); cases q; exact PySem.W.kia_one PySem.W.kitx_float I.kIn True.intro e (fun z => nomatch z) h
  | @lst a xs ea =>
    cases (show u = Value.ref a from rx)
    obtain ⟨_, _, n, _, h1⟩ := (show ObjOk X.prog X.w H s.heap a (.lst xs) from I.hok a _ ea)
    exact PySem.W.kia_one PySem.W.kitx_list I.kIn ⟨_, h1, rfl⟩ e (fun z => nomatch z) h
  | @frz a ob xs ea =>
    cases (show u = Value.ref a from rx)
    obtain ⟨_, _, _, n, _, h1⟩ := (show ObjOk X.prog X.w H s.heap a (.frz ob (.lst xs)) from I.hok a _ ea)
    exact PySem.W.kia_one PySem.W.kitx_list I.kIn ⟨_, h1, rfl⟩ e (fun z => nomatch z) h
  | @tup a xs ea =>
    cases (show u = Value.ref a from rx)
    obtain ⟨_, _, _, p⟩ := (show ObjOk X.prog X.w H s.heap a (.tup xs) from I.hok a _ ea)
    obtain ⟨o, h1, h2, _⟩ := p
    exact PySem.W.kia_one PySem.W.kitx_tuple I.kIn ⟨o, h1, h2⟩ e (fun z => nomatch z) h
  | @dK a kvs ea =>
    cases (show u = Value.ref a from rx)
    obtain ⟨_, _, vs, _, p⟩ := (show ObjOk X.prog X.w H s.heap a (.dK kvs) from I.hok a _ ea)
    obtain ⟨o, es, ep, h1, h2, _⟩ := p
    exact PySem.W.kia_one PySem.W.kitx_dict I.kIn ⟨o, h1, h2.1⟩ e (fun z => nomatch z) h
  | @dT a kvs ea =>
    cases (show u = Value.ref a from rx)
    obtain ⟨_, _, xs, _, o, es, ep, h1, h2, _⟩ := (show ObjOk X.prog X.w H s.heap a (.dT kvs) from I.hok a _ ea)
    exact PySem.W.kia_one PySem.W.kitx_dict I.kIn ⟨o, h1, h2.1⟩ e (fun z => nomatch z) h
  | @ins a C dx fs ea cl ha hn htk hm =>
    cases (show u = Value.ref a from rx)
    obtain ⟨mA, O, _⟩ := ins_get I.hok ea
    obtain ⟨od, J, _⟩ := O.look
    exact PySem.W.kia_one (PySem.W.kitx_own (cl.get _) cl.hd ha hn htk hm) I.kIn J e (fun z => nomatch z) h
end
structure Room (k : Nat) (A : Around) : Prop where
  hd : A.handled = none
  dp : A.depth + 3 * k + 5 < recursionLimit
  un : A.units + 16 * k + 200 < cLine
theorem Room.mono {j k : Nat} {A : Around} (r : Room k A) (h : j ≤ k) : Room j A := ⟨r.hd, by have := r.dp; omega, by have := r.un; omega⟩
theorem Room.deeper {k : Nat} {A : Around} (r : Room (k + 1) A) (env : Env) : Room k (A.deeper env) :=
  ⟨r.hd, by have := r.dp; show A.depth + 1 + 3 * k + 5 < _; omega, by have := r.un; show A.units + 3 + 16 * k + 200 < _; omega⟩
theorem make_depth {A : Around} {C : Addr} {us : List Value} {kw : List (Str × Value)} : (A.under (.builtin "type.__call__" ⟨.ref C :: us, kw⟩)).depth = A.depth + 1 := by
  first | rfl | simp [Around.under, Code.weight, Code.isCreation, Code.isGuard, Code.isCaller, Code.frames, Code.isFrame, guardIds]
theorem make_units {A : Around} {C : Addr} {us : List Value} {kw : List (Str × Value)} : (A.under (.builtin "type.__call__" ⟨.ref C :: us, kw⟩)).units = A.units + 1 := by
  first | rfl | simp [Around.under, Code.cUnits, Code.frames, Code.isFrame]
theorem Room.make {k : Nat} {A : Around} (r : Room (k + 1) A) (C : Addr) (us : List Value) (kw : List (Str × Value)) : Room k (A.under (.builtin "type.__call__" ⟨.ref C :: us, kw⟩)) :=
  ⟨r.hd, by have := r.dp; rw [make_depth]; omega, by have := r.un; rw [make_units]; omega⟩
theorem Room.depth {k : Nat} {A : Around} (r : Room k A) : A.depth < recursionLimit := by have := r.dp; omega
theorem Room.units {k : Nat} {A : Around} (r : Room k A) : A.units + 64 < cLine := by have := r.un; omega
def tNil : TA := fun _ H Q => Q [] H
def tCons (ta : TE) (tr : TA) : TA := fun σ H Q => ta σ H fun x H1 => tr σ H1 fun xs H2 => Q (x :: xs) H2
section
variable {X : Cx} {e : Expr} {es : List Expr} {te : TE} {t : TA} {pos : Pos}
theorem pa_nil : PA X [] tNil := fun _ _ _ _ H Q I h => Calls.spliced_nil ⟨[], H, I, .nil, h⟩
theorem pa_cons (ha : PE X e te) (hr : PA X es t) (hs : starEach (e :: es) X.env = (false, eval e X.env) :: starEach es X.env := by rfl) : PA X (e :: es) (tCons te t) := by
  intro pos pins s σ H Q I h
  rw [hs]
  show wpAny _ _ (spliced ((false, eval e X.env) :: backTo pos (starEach es X.env))) _ _ s
  refine Calls.spliced_cons (thn (ha pins s σ H _ I h) fun u s1 ⟨x, H1, I1, r1, q1⟩ => ?_)
  exact thn (hr pos pins s1 σ H1 _ I1 q1) fun us s2 ⟨xs, H2, I2, r2, q2⟩ => ⟨x :: xs, H2, I2, .cons r1 r2, q2⟩
end
abbrev Sp := List V → Hp → VK → XK → Prop
abbrev CXT := List Env → Hp → Shared → XK → Value → Shared → Prop
structure Env0 (P : Program) (w : World) (K : PySem.W.Frag) (mg : Str → Option Value) (base : Heap) (A : Around) (outer : List Env) (s : Shared) (H : Hp) : Prop where
  frames : A.frames = some outer
  mod : Mod K mg base
  bs : ∀ b o, base.get? b = some o → s.heap.get? b = some o ∧ H b = none
  bsz : base.objs.size ≤ s.heap.objs.size
  funs : s.heap.FunFrames base outer
  frf : ∀ b ∈ frs outer, H b = none
  hok : HOk P w H s.heap
  bare : AllBare s.gens
def CE (outer : List Env) (P : Program) (w : World) (H : Hp) (s : Shared) (Q : VK) (u : Value) (s' : Shared) : Prop :=
  ∃ v H', s'.os = s.os ∧ AllBare s'.gens ∧ Un (frs outer) [] H H' s.heap s'.heap ∧ HOk P w H' s'.heap ∧ RelV v u ∧ Q v H'
def CR (CX : CXT) (outer : List Env) (P : Program) (w : World) (H : Hp) (s : Shared) (Q : VK) (E : XK) (r : Result) (s' : Shared) : Prop :=
  match r with
  | .ok (.ret u) => CE outer P w H s Q u s'
  | .ok _ => False
  | .error e => CX outer H s E e s'
structure FnOk (P : Program) (w : World) (K : PySem.W.Frag) (mg : Str → Option Value) (base : Heap) (CX : CXT) (k : Nat) (f : Addr) (fd : FuncData) (ps : List Str) (sp : Sp) : Prop where
  len : ∀ vs H Q E, sp vs H Q E → vs.length = ps.length
  run : ∀ (A : Around) (outer : List Env) (s : Shared) (H : Hp) (args : Args) (us : List Value) (vs : List V) (Q : VK) (E : XK), Room k A → Env0 P w K mg base A outer s H → BindsTo s fd args (ps.zip us) → Vals vs us → sp vs H Q E →
    codeAny (model P w) A (.call (.ref f) args) (CR CX outer P w H s Q E) s
theorem FnOk.mono {P : Program} {w : World} {K : PySem.W.Frag} {mg : Str → Option Value} {base : Heap} {CX : CXT} {j k : Nat} {f : Addr} {fd : FuncData} {ps : List Str} {sp : Sp} (F : FnOk P w K mg base CX j f fd ps sp) (h : j ≤ k) :
    FnOk P w K mg base CX k f fd ps sp := ⟨F.len, fun A outer s H args us vs Q E hr => F.run A outer s H args us vs Q E (hr.mono h)⟩
theorem Env0.make {P : Program} {w : World} {K : PySem.W.Frag} {mg : Str → Option Value} {base : Heap} {A : Around} {outer : List Env} {s : Shared} {H : Hp} (e : Env0 P w K mg base A outer s H) (C : Addr) (us : List Value) (kw : List (Str × Value)) :
    Env0 P w K mg base (A.under (.builtin "type.__call__" ⟨.ref C :: us, kw⟩)) outer s H := ⟨by first | exact e.frames | (simpa [Around.under, Code.envs, Code.isFrame, pushEnvs] using e.frames), e.mod, e.bs, e.bsz, e.funs, e.frf, e.hok, e.bare⟩
section
variable {X : Cx} {pins : List (Addr × Obj)} {σ : St} {H : Hp} {s s' : Shared}
theorem Inv.env0 (I : Inv X pins σ H s) : Env0 X.prog X.w X.K X.mg X.base X.A X.stack s H :=
  ⟨I.ok.frames, I.ok.mod, I.bs, Nat.le_trans I.ok.bsz I.sz, I.stack, I.stkFree, I.hok, I.bare⟩
theorem Inv.after {Q : VK} {u : Value} (I : Inv X pins σ H s) (h : CE X.stack X.prog X.w H s Q u s') : EP X pins σ Q u s' := by
  obtain ⟨v, H', os, bare, un, hok, r, q⟩ := h
  obtain ⟨hh, g, d, t, os'⟩ := s'
  obtain rfl : os' = s.os := os
  exact ⟨v, H', I.call (h' := hh) (g' := g) (d' := d) (t' := t) (ch := []) un hok bare (fun b z => absurd z (by simp)), r, q⟩
end
def tCall (sp : Sp) (dvs : List V) (E : XK) (t : TA) : TE := fun σ H Q => t σ H fun vs H1 => sp (vs ++ dvs) H1 Q E
def tMeth (C : Addr) (m : Str) (sp : Sp) (dvs : List V) (E : XK) (ta : TE) (t : TA) : TE := fun σ H Q => ta σ H fun x H1 => ∃ a dx fs, x = .ref a ∧ H1 a = some (.ins C dx fs) ∧ fs.lookup m = none ∧
  t σ H1 fun vs H2 => sp (x :: (vs ++ dvs)) H2 Q E
def tMake (C : Addr) (sp : Sp) (dvs : List V) (E : XK) (t : TA) : TE := fun σ H Q => t σ H fun vs H1 => ∀ x dx, H1 x = none → H1 dx = none → dx ≠ x →
  sp (.ref x :: (vs ++ dvs)) (upd (upd H1 dx (.own x)) x (.ins C dx [])) (fun v H2 => v = .non ∧ Q (.ref x) H2) E
def Binds (K : PySem.W.Frag) (fd : FuncData) (ps : List Str) (ds : List Value) : Prop :=
  ∀ (s : Shared) (us : List Value), K.In s.heap → (us ++ ds).length = ps.length → BindsTo s fd ⟨us, []⟩ (ps.zip (us ++ ds))
theorem Binds.all {K : PySem.W.Frag} {fd : FuncData} {ps : List Str} (h : ∀ us : List Value, us.length = ps.length → bindArgs fd ⟨us, []⟩ = pure (ps.zip us)) : Binds K fd ps [] := fun s us _ hl => by
  rw [List.append_nil] at hl ⊢
  exact .of_eq (h us hl)
def Passes (CX : CXT) (X : Cx) (E : XK) : Prop := ∀ (pins : List (Addr × Obj)) (σ : St) (H : Hp) (s : Shared) (e : Value) (s' : Shared), Inv X pins σ H s → CX X.stack H s E e s' → X.xe e s'
section
variable {X : Cx} {CX : CXT} {k : Nat} {f C : Addr} {fd : FuncData} {ps : List Str} {sp : Sp} {dvs : List V} {ds : List Value} {E : XK} {x m : Str} {p pos apos : Pos} {e o : Expr} {es : List Expr} {ta : TE} {t : TA}
theorem run_fn {pins : List (Addr × Obj)} {σ : St} {H : Hp} {s : Shared} {Q : VK} {us : List Value} {vs : List V} (F : FnOk X.prog X.w X.K X.mg X.base CX k f fd ps sp) (hr : Room k X.A) (hb : Binds X.K fd ps ds) (hd : Vals dvs ds) (hx : Passes CX X E)
    (I : Inv X pins σ H s) (r : Vals vs us) (h : sp (vs ++ dvs) H Q E) : wpAny (model X.prog X.w) X.A (call (.ref f) us) (EP X pins σ Q) X.xe s := by
  have r2 : Vals (vs ++ dvs) (us ++ ds) := r.append hd
  have hl : (us ++ ds).length = ps.length := by rw [← r2.length]; exact F.len _ _ _ _ h
  refine wpAny_call (codeAny_mono (F.run X.A X.stack s H ⟨us, []⟩ (us ++ ds) (vs ++ dvs) Q E hr I.env0 (hb s us I.kIn hl) r2 h) fun r s' hq => ?_)
  cases r with
  | error e => exact hx pins σ H s e s' I hq
  | ok fl =>
    cases fl with
    | ret u => exact I.after hq
    | next => exact False.elim hq
    | brk => exact False.elim hq
    | cont => exact False.elim hq
theorem pe_call (F : FnOk X.prog X.w X.K X.mg X.base CX k f fd ps sp) (hr : Room k X.A) (hg : Gl X x) (hm : X.mg x = some (.ref f)) (hk : PySem.W.keepIn X.K (.ref f) = true) (hb : Binds X.K fd ps ds) (hd : Vals dvs ds) (hx : Passes CX X E)
    (ha : PA X (e :: es) t) (hdb : (x == ("__debug__" : Str)) = false := by decide) (he : starEach (e :: es) X.env = (false, eval e X.env) :: starEach es X.env := by rfl) (hpl : (backTo pos (starEach es X.env)).any (·.1) = false := by rfl) :
    PE X (.Call (.Name x p) (e :: es) [] pos) (tCall sp dvs E t) := by
  intro pins s σ H Q I h
  refine wpAny_Call_Name_kw (ld_glob I hg hm ?_ hdb)
  refine PySem.W.callWith_K (h₀ := X.base) I.ok.mod.kin hk (thn (ha pos pins s σ H _ I h) fun us s1 ⟨vs, H1, I1, r, q⟩ => ⟨I1.kIn, ?_⟩) he hpl
  exact run_fn F hr hb hd hx I1 r q
theorem pe_meth {pl : Sem Bool} (he : PE X o ta) (c : Cls X.K C) (hm : Meth X.K C m f) (F : FnOk X.prog X.w X.K X.mg X.base CX k f fd ps sp) (hr : Room k X.A) (hb : Binds X.K fd ps ds) (hd : Vals dvs ds) (hx : Passes CX X E) (ha : PA X (e :: es) t)
    (hst : starEach (e :: es) X.env = (false, eval e X.env) :: starEach es X.env := by rfl) (hpl : (backTo pos (starEach es X.env)).any (·.1) = false := by rfl)
    (ht : eval (.Call (.Attribute o m apos) (e :: es) [] pos) X.env = (do
      let ov ← eval o X.env
      standAt apos.atName
      let (f, first) ← holding [ov] (getMethod ov m pl)
      callWith pos f first (backTo pos (starEach (e :: es) X.env)) (backToKw pos (keywordEach [] X.env))) := by rfl) :
    PE X (.Call (.Attribute o m apos) (e :: es) [] pos) (tMeth C m sp dvs E ta t) := by
  intro pins s σ H Q I h
  refine PySem.W.methodCall_KW (pl := pl) (thn (he pins s σ H _ I h) fun u s1 ⟨x, H1, I1, rx, a, dx, fs, ex, ea, l, q⟩ => ?_) ht
  subst ex
  obtain rfl : u = Value.ref a := rx
  refine getmeth_ok I1 ea c hm l ?_
  refine PySem.W.callWith_K (first := [.ref a]) (h₀ := X.base) I.ok.mod.kin hm.kp (thn (ha pos pins s1 σ H1 _ I1 q) fun us s2 ⟨vs, H2, I2, r, q2⟩ => ⟨I2.kIn, ?_⟩) hst hpl
  exact run_fn (us := .ref a :: us) (vs := .ref a :: vs) F hr hb hd hx I2 (.cons rfl r) q2
structure Mk (K : PySem.W.Frag) (C f : Addr) : Prop where
  makes : PySem.W.makesIn K C = true
  init : PySem.W.findIn K (.ref C) "__init__" = some (some (.ref f))
  fn : PySem.W.isFn K (.ref f) = true
  kp : PySem.W.keepIn K (.ref C) = true
theorem run_make {pins : List (Addr × Obj)} {σ : St} {H : Hp} {s : Shared} {Q : VK} {us : List Value} {vs : List V} (M : Mk X.K C f) (F : FnOk X.prog X.w X.K X.mg X.base CX k f fd ps sp) (hr : Room (k + 1) X.A) (hb : Binds X.K fd ps ds) (hd : Vals dvs ds)
    (hx : Passes CX X E) (I : Inv X pins σ H s) (r : Vals vs us)
    (h : ∀ x dx, H x = none → H dx = none → dx ≠ x → sp (.ref x :: (vs ++ dvs)) (upd (upd H dx (.own x)) x (.ins C dx [])) (fun v H2 => v = .non ∧ Q (.ref x) H2) E) :
    wpAny (model X.prog X.w) X.A (call (.ref C) us) (EP X pins σ Q) X.xe s := by
  have hq := h (s.heap.objs.size + 1) s.heap.objs.size (I.hok.fresh (Nat.le_succ _)) (I.hok.fresh (Nat.le_refl _)) (Nat.ne_of_lt (Nat.lt_succ_self _))
  have I2 := Inv.made (C := C) I
  have r2 : Vals (V.ref (s.heap.objs.size + 1) :: (vs ++ dvs)) (Value.ref (s.heap.objs.size + 1) :: (us ++ ds)) := .cons rfl (r.append hd)
  have hl : (Value.ref (s.heap.objs.size + 1) :: us ++ ds).length = ps.length := by
    have e := r2.length
    rw [F.len _ _ _ _ hq] at e
    exact e.symm
  refine wpAny_call (make_map (f := f) I.kIn M.makes M.init (beq_iff_eq.mp M.fn) (codeAny_mono (F.run _ X.stack _ _ ⟨Value.ref (s.heap.objs.size + 1) :: us, []⟩ (Value.ref (s.heap.objs.size + 1) :: (us ++ ds)) _ _ E (hr.make C us [])
    (I2.env0.make C us []) (hb _ (Value.ref (s.heap.objs.size + 1) :: us) I2.kIn hl) r2 hq) fun r s' hq' => ?_))
  cases r with
  | error e => exact hx pins σ _ _ e s' I2 hq'
  | ok fl =>
    cases fl with
    | ret u =>
      obtain ⟨v, H', I3, rv, ev, q3⟩ := I2.after hq'
      subst ev
      exact ⟨rv, ⟨V.ref (s.heap.objs.size + 1), H', I3, rfl, q3⟩⟩
    | next => exact False.elim hq'
    | brk => exact False.elim hq'
    | cont => exact False.elim hq'
theorem pe_make0 (M : Mk X.K C f) (F : FnOk X.prog X.w X.K X.mg X.base CX k f fd ps sp) (hr : Room (k + 1) X.A) (hg : Gl X x) (hm : X.mg x = some (.ref C)) (hb : Binds X.K fd ps ds) (hd : Vals dvs ds) (hx : Passes CX X E)
    (hdb : (x == ("__debug__" : Str)) = false := by decide) : PE X (.Call (.Name x p) [] [] pos) (tMake C sp dvs E tNil) := by
  intro pins s σ H Q I h
  refine wpAny_Call_Name_kw (ld_glob I hg hm ?_ hdb)
  exact PySem.W.callWith_K0 I.kIn M.kp (run_make (us := []) M F hr hb hd hx I .nil h)
end
structure FnScope (N P : List Str) (sc : Scope) : Prop where
  kind : sc.kind = .function
  co : sc.isCoroutine = false
  gen : sc.isGenerator = false
  nd : N.Nodup
  pre : N.take P.length = P
  par : ∀ x ∈ P, sc.names.lookup x = some .local ∨ sc.names.lookup x = some .cell
  nofree : ∀ y ∈ sc.names, y.2 ≠ .free
theorem bindL_out {kindOf : Str → Option NameKind} {x : Str} : ∀ {binds : List (Str × Value)} {m : Str → Option Value}, (∀ v, (x, v) ∉ binds) → bindL kindOf binds m x = m x
  | [], _, _ => rfl
  | (n, v) :: r, m, h => by
    unfold bindL
    rw [bindL_out fun w hw => h w (List.mem_cons_of_mem _ hw)]
    split
    · have : x ≠ n := by rintro rfl; exact h v List.mem_cons_self
      simp [this]
    · rfl
theorem bindC_out {kindOf : Str → Option NameKind} {x : Str} : ∀ {binds : List (Str × Value)} {m : Str → Option Value}, (∀ v, (x, v) ∉ binds) → bindC kindOf binds m x = m x
  | [], _, _ => rfl
  | (n, v) :: r, m, h => by
    unfold bindC
    rw [bindC_out fun w hw => h w (List.mem_cons_of_mem _ hw)]
    split
    · rfl
    · have : x ≠ n := by rintro rfl; exact h v List.mem_cons_self
      simp [this]
theorem bindL_get {kindOf : Str → Option NameKind} {x : Str} {v : Value} : ∀ {P : List Str} {vs : List Value} {i : Nat} {m : Str → Option Value}, P.Nodup → P[i]? = some x → vs[i]? = some v → kindOf x = some .local →
    bindL kindOf (P.zip vs) m x = some v
  | [], _, _, _, _, h, _, _ => by simp at h
  | _ :: _, [], _, _, _, _, h, _ => by simp at h
  | p :: P, w :: vs, 0, m, nd, h1, h2, hk => by
    simp at h1 h2; subst h1; subst h2
    show bindL kindOf ((p, w) :: P.zip vs) m p = _
    unfold bindL
    rw [bindL_out fun v hv => (List.nodup_cons.mp nd).1 (List.of_mem_zip hv).1, if_pos hk]
    simp
  | p :: P, w :: vs, i + 1, m, nd, h1, h2, hk => by
    show bindL kindOf ((p, w) :: P.zip vs) m x = _
    unfold bindL
    exact bindL_get (i := i) (List.nodup_cons.mp nd).2 (by simpa using h1) (by simpa using h2) hk
theorem bindC_get {kindOf : Str → Option NameKind} {x : Str} {v : Value} : ∀ {P : List Str} {vs : List Value} {i : Nat} {m : Str → Option Value}, P.Nodup → P[i]? = some x → vs[i]? = some v → kindOf x ≠ some .local →
    bindC kindOf (P.zip vs) m x = some v
  | [], _, _, _, _, h, _, _ => by simp at h
  | _ :: _, [], _, _, _, _, h, _ => by simp at h
  | p :: P, w :: vs, 0, m, nd, h1, h2, hk => by
    simp at h1 h2; subst h1; subst h2
    show bindC kindOf ((p, w) :: P.zip vs) m p = _
    unfold bindC
    rw [bindC_out fun v hv => (List.nodup_cons.mp nd).1 (List.of_mem_zip hv).1, if_neg hk]
    simp
  | p :: P, w :: vs, i + 1, m, nd, h1, h2, hk => by
    show bindC kindOf ((p, w) :: P.zip vs) m x = _
    unfold bindC
    exact bindC_get (i := i) (List.nodup_cons.mp nd).2 (by simpa using h1) (by simpa using h2) hk
def start (N : List Str) (vs : List V) : St := vs.map some ++ List.replicate (N.length - vs.length) none
def cxOf (CX : CXT) (P : Program) (w : World) (K : PySem.W.Frag) (mg : Str → Option Value) (base : Heap) (N : List Str) (qual : Str) (scope : Scope) (f : Addr) (cd : Value) (A : Around) (outer : List Env) (s : Shared) (H : Hp) (E : XK) : Cx where
  prog := P
  w := w
  K := K
  mg := mg
  base := base
  A := A.deeper (envOfC qual scope s.heap.objs.size f cd)
  N := N
  s₀ := s
  H₀ := H
  env := envOfC qual scope s.heap.objs.size f cd
  outer := outer
  stack := envOfC qual scope s.heap.objs.size f cd :: outer
  ex := []
  calm := true
  fn := fun _ => true
  pn := []
  xe := fun e s' => wpAny (model P w) (A.deeper (envOfC qual scope s.heap.objs.size f cd)) (leaving (envOfC qual scope s.heap.objs.size f cd) e) (fun _ s'' => CX outer H s E e s'') (fun e' s'' => CX outer H s E e' s'') s'
theorem cell_has {sc : Scope} {n : Nat} {x : Str} (h : sc.names.lookup x = some .cell) : ∃ c, (cellsFrom n sc.names []).lookup x = some c := by
  have q := PySem.W.cellsFrom_some sc.names n [] (.inl h)
  exact Option.isSome_iff_exists.mp q
theorem inv_start {CX : CXT} {P : Program} {w : World} {K : PySem.W.Frag} {mg : Str → Option Value} {base : Heap} {N ps : List Str} {qual : Str} {scope : Scope} {f : Addr} {cd : Value} {A : Around} {outer : List Env} {s s1 : Shared} {H : Hp} {E : XK} {us : List Value} {vs : List V}
    (S : FnScope N ps scope) (hd : A.handled = none) (e0 : Env0 P w K mg base A outer s H) (hl : vs.length = ps.length) (r : Vals vs us)
    (x : InCallC s s.heap.objs.size (bindL (envOfC qual scope s.heap.objs.size f cd).kindOf (ps.zip us) fun _ => none) (cellsFrom (s.heap.objs.size + 1) scope.names []) (bindC (envOfC qual scope s.heap.objs.size f cd).kindOf (ps.zip us) fun _ => none) s1) :
    Inv (cxOf CX P w K mg base N qual scope f cd A outer s H E) [] (start N vs) H s1 := by
  have hpl : ps.length ≤ N.length := by have := congrArg List.length S.pre; rw [List.length_take] at this; omega
  obtain ⟨h1, tk, rfl, hk⟩ := x.done
  have noA : ∀ b : Addr, b ∉ (cxOf CX P w K mg base N qual scope f cd A outer s H E).ex := fun b z => absurd (show b ∈ ([] : List Addr) from z) (by simp)
  refine ⟨⟨e0.mod, S.kind, rfl, rfl, Nat.le_refl _, fun y z c h1 h2 => ?_, fun y hy => ?_, fun y c _ h => ?_, fun _ => hd, Around.frames_deeper e0.frames, .inr ⟨rfl, rfl⟩, fun b z => absurd z (noA b), e0.bs, e0.bsz, fun b _ _ => noA b, fun b z => absurd z (noA b), e0.funs, e0.frf⟩,
    rfl, e0.bare, Un.kept hk, ⟨_, x.toInCall.ns, fun i y v h1 h2 h3 => ?_⟩, fun y c h => ⟨_, x.cell y c h⟩, e0.hok.fresh (Nat.le_refl _), fun y c h => ?_, fun p hp => absurd (show p ∈ ([] : List (Addr × Obj)) from hp) (by simp), e0.hok.kept hk, ?_⟩
  · exact name_of_addr x.apart (PySem.mem_of_lookup h1) (PySem.mem_of_lookup h2)
  · have hy : scope.names.lookup y = some .cell ∨ scope.names.lookup y = some .free := hy
    rcases hy with hy | hy
    · exact cell_has hy
    · exact absurd rfl (S.nofree _ (PySem.mem_of_lookup hy))
  · exact Nat.le_of_lt (x.above y c (PySem.mem_of_lookup h))
  · have hi : i < vs.length := by
      unfold start at h2
      by_cases hi : i < vs.length
      · exact hi
      · rw [List.getElem?_append_right (by simpa using hi)] at h2
        rw [List.getElem?_replicate] at h2
        split at h2 <;> cases h2
    have ha : vs[i]? = some v := by
      unfold start at h2
      rw [List.getElem?_append_left (by simpa using hi), List.getElem?_map] at h2
      cases e : vs[i]? with
      | none => rw [e] at h2; cases h2
      | some a => rw [e] at h2; cases h2; rfl
    obtain ⟨u, hu, rv⟩ := r.get ha
    have hp : ps[i]? = some y := by
      rw [← S.pre, List.getElem?_take_of_lt (by omega)]; exact h1
    have ndP : ps.Nodup := by rw [← S.pre]; exact S.nd.sublist (List.take_sublist _ _)
    refine ⟨u, rv, ?_⟩
    rcases S.par y (List.mem_of_getElem? hp) with k | k
    · exact .inl ⟨k, bindL_get ndP hp hu k⟩
    · obtain ⟨c, e⟩ := cell_has (n := s.heap.objs.size + 1) k
      refine .inr ⟨.inl k, c, e, ?_⟩
      have q := x.cell y c e
      rw [bindC_get ndP hp hu (by show scope.names.lookup y ≠ _; rw [k]; decide)] at q
      exact q
  · exact e0.hok.fresh (Nat.le_of_lt (x.above y c (PySem.mem_of_lookup h)))
  · unfold start
    show _ = N.length
    rw [List.length_append, List.length_map, List.length_replicate]
    omega
theorem fn_of {CX : CXT} {P : Program} {w : World} {K : PySem.W.Frag} {mg : Str → Option Value} {base : Heap} {k : Nat} {f : Addr} {name qual : Str} {params : Arguments} {body : List Stmt} {scope : Scope} {dV kV doc pm cdv ct oc : Value} {an od : Option Addr}
    {osl : Array (Option Value)} {N ps : List Str} {sp : Sp} (lk : K.lookup f = some ⟨oc, od, .func (PySem.W.fnOf name qual params body scope dV kV doc pm an cdv ct), osl⟩) (hcd : PySem.W.codeIn K cdv qual = true) (S : FnScope N ps scope)
    (len : ∀ vs H Q E, sp vs H Q E → vs.length = ps.length)
    (hbody : ∀ (A : Around) (outer : List Env) (s : Shared) (H : Hp) (vs : List V) (Q : VK) (E : XK), Room k (A.deeper (envOfC qual scope s.heap.objs.size f cdv)) → sp vs H Q E →
      ∃ t, PSs (cxOf CX P w K mg base N qual scope f cdv A outer s H E) body t ∧ t { nx := fun _ H' => Q .non H', rt := Q } (start N vs) H) :
    FnOk P w K mg base CX (k + 1) f (PySem.W.fnOf name qual params body scope dV kV doc pm an cdv ct) ps sp := by
  refine ⟨len, fun A outer s H args us vs Q E hr e0 hb r hsp => ?_⟩
  have hl := len _ _ _ _ hsp
  have KX : K.In s.heap := e0.mod.kin.keeps fun b o e => (e0.bs b o e).1
  have lim : s.heap.NoLimit := e0.mod.nolimit.keeps fun b o e => (e0.bs b o e).1
  have hkind : ∀ y ∈ ps.zip us, scope.names.lookup y.1 = some .local ∨ (scope.names.lookup y.1 = some .cell ∧ ((cellsFrom (s.heap.objs.size + 1) scope.names []).lookup y.1).isSome = true) := fun ⟨n, v⟩ hy => by
    rcases S.par n (List.of_mem_zip hy).1 with q | q
    · exact .inl q
    · exact .inr ⟨q, PySem.W.cellsFrom_some _ _ _ (.inl q)⟩
  refine codeAny_call_function hr.depth (KX _ _ lk) rfl S.co S.gen rfl (PySem.W.codeRec_of KX hcd) (hb _ _ _ _ ?_)
  refine wpAny_newFunctionEnv_cells S.kind hkind fun env he s1 x => ?_
  subst he
  refine ⟨lim.keeps x.toInCall.keep, codeAny_func ?_⟩
  obtain ⟨t, ht, hq⟩ := hbody A outer s H vs Q E (hr.deeper _) hsp
  have I : Inv (cxOf CX P w K mg base N qual scope f cdv A outer s H E) [] (start N vs) H s1 := inv_start S hr.hd e0 hl r x
  refine wpAny_mono (ht [] s1 (start N vs) H _ I hq) (fun fl s' hs => ?_) fun e s' hs => hs
  have fin : ∀ {σ' : St} {H' : Hp} {v : V} {u : Value}, Inv (cxOf CX P w K mg base N qual scope f cdv A outer s H E) [] σ' H' s' → RelV v u → Q v H' → CE outer P w H s Q u s' :=
    fun {σ' H' v u} J rv q => ⟨v, H', J.os, J.bare, J.base, J.hok, rv, q⟩
  cases fl with
  | ret u =>
    obtain ⟨v, σ', H', J, rv, q⟩ := hs
    exact fin J rv q
  | next =>
    obtain ⟨σ', H', J, q⟩ := hs
    exact fin (v := V.non) (u := Value.none) J rfl q
  | brk =>
    obtain ⟨_, _, _, q⟩ := hs
    exact False.elim q
  | cont =>
    obtain ⟨_, _, _, q⟩ := hs
    exact False.elim q
section
variable {X : Cx} {x : Str} {p pos : Pos} {e : Expr} {es : List Expr} {t : TA} {id T : String} {r : List V → Hp → VK → Prop}
def tCB (r : List V → Hp → VK → Prop) (t : TA) : TE := fun σ H Q => t σ H fun vs H1 => r vs H1 Q
theorem pe_callB (hc : CallR X (.builtin id) r) (hg : Gl X x) (hm : X.mg x = none) (hv : bootBuiltins x = some (.builtin id)) (ha : PA X (e :: es) t) (hn : x ≠ "__name__" := by decide) (hdb : (x == ("__debug__" : Str)) = false := by decide)
    (he : starEach (e :: es) X.env = (false, eval e X.env) :: starEach es X.env := by rfl) (hpl : (backTo pos (starEach es X.env)).any (·.1) = false := by rfl) : PE X (.Call (.Name x p) (e :: es) [] pos) (tCB r t) := by
  intro pins s σ H Q I h
  refine wpAny_Call_Name_kw (ld_blt I hg hm hv ?_ hn hdb)
  exact PyProof.Rows.callWith_builtin1 (thn (ha pos pins s σ H _ I h) fun us s1 ⟨vs, H1, I1, r1, q1⟩ => hc pins s1 σ H1 vs us Q I1 r1 q1) he hpl
theorem pe_callTy (hc : CallR X (.type T) r) (hg : Gl X x) (hm : X.mg x = none) (hv : bootBuiltins x = some (.type T)) (ha : PA X (e :: es) t) (hn : x ≠ "__name__" := by decide) (hdb : (x == ("__debug__" : Str)) = false := by decide)
    (he : starEach (e :: es) X.env = (false, eval e X.env) :: starEach es X.env := by rfl) (hpl : (backTo pos (starEach es X.env)).any (·.1) = false := by rfl) : PE X (.Call (.Name x p) (e :: es) [] pos) (tCB r t) := by
  intro pins s σ H Q I h
  refine wpAny_Call_Name_kw (ld_blt I hg hm hv ?_ hn hdb)
  exact PyProof.Rows.callWith_type1 (thn (ha pos pins s σ H _ I h) fun us s1 ⟨vs, H1, I1, r1, q1⟩ => hc pins s1 σ H1 vs us Q I1 r1 q1) he hpl
end
end L2
namespace HT
open PySem PyProof.Rows
section
open PySem.SeqAt
open PySem.AutoSeq1 (wpAny_loadPart')
open PySem.MeetsSeq PySem.MeetsSeq2 PySem.MeetsSeq3
end
section
variable {prog : Program} {w : World} {A : Around} {E : Value → Shared → Prop} {s : Shared}
def sIx (n d : Nat) : Option Int → Nat
  | none => d
  | some v => if v < 0 then (v + (n : Int)).toNat else min v.toNat n
theorem sIx_none (n d : Nat) : sIx n d none = d := rfl
theorem sIx_nat (n d k : Nat) : sIx n d (some (k : Int)) = min k n := by
  show (if (k : Int) < 0 then ((k : Int) + (n : Int)).toNat else min (k : Int).toNat n) = min k n
  rw [if_neg (by omega), Int.toNat_natCast]
theorem sIx_le (n d : Nat) (hd : d ≤ n) (o : Option Int) : sIx n d o ≤ n := by
  cases o with
  | none => exact hd
  | some v =>
    show (if v < 0 then (v + (n : Int)).toNat else min v.toNat n) ≤ n
    by_cases hv : v < 0
    · rw [if_pos hv]; omega
    · rw [if_neg hv]; exact Nat.min_le_right _ _
theorem clip_eq (v : Int) (n d : Nat) : (if v < 0 then max (v + (n : Int)) 0 else min v (n : Int)) = ((sIx n d (some v) : Nat) : Int) := by
  show (if v < 0 then max (v + (n : Int)) 0 else min v (n : Int)) = (((if v < 0 then (v + (n : Int)).toNat else min v.toNat n) : Nat) : Int)
  by_cases hv : v < 0
  · simp only [if_pos hv]; omega
  · simp only [if_neg hv]; omega
theorem adjust_gen (lo hi : Option Int) (n : Nat) : Builtin.Slice.sliceAdjust lo hi 1 (n : Int) = (((sIx n 0 lo : Nat) : Int), ((sIx n n hi : Nat) : Int)) := by
  have h1 : ¬ ((1 : Int) < 0) := by omega
  unfold Builtin.Slice.sliceAdjust
  simp only [h1, if_false]
  refine Prod.ext ?_ ?_
  · cases lo with
    | none => rfl
    | some v => exact clip_eq v n 0
  · cases hi with
    | none => rfl
    | some v => exact clip_eq v n n
theorem places_gen (i j : Nat) : Builtin.Slice.slicePlaces (i : Int) (j : Int) 1 = j - i := by
  unfold Builtin.Slice.slicePlaces
  have h1 : (1 : Int) > 0 := by omega
  simp only [h1, if_true, Int.ediv_one]
  split <;> omega
theorem slicePart_ {v : Value} {o : Option Int} {Q : Option Int → Shared → Prop} (p : IsPart v o) (h : Q o s) : wpAny (model prog w) A (Builtin.Slice.slicePartIndex v) Q E s := by
  cases p with
  | none => exact slicePart_none h
  | int i t => exact slicePart_int h
theorem sliceApplied_gen {sl : Addr} {vl vu : Value} {lo hi : Option Int} {n : Nat} {Q : Int × Int × Nat → Shared → Prop} (hs : s.heap.IsSliceOf sl vl vu .none) (pl : IsPart vl lo) (pu : IsPart vu hi)
    (h : Q (((sIx n 0 lo : Nat) : Int), 1, sIx n n hi - sIx n 0 lo) s) : wpAny (model prog w) A (Builtin.Slice.sliceApplied (.ref sl) (pure (n : Int))) Q E s := by
  obtain ⟨os, hos, hcs, hds⟩ := id hs
  unfold Builtin.Slice.sliceApplied Builtin.Slice.sliceFields
  refine wpAny_bind (wpAny_bind (wpAny_field hos hds (x := vl) rfl (wpAny_bind (wpAny_field hos hds (x := vu) rfl (wpAny_bind (wpAny_field hos hds (x := .none) rfl (wpAny_pure ?_)))))))
  refine wpAny_bind (slicePart_none ?_)
  show wpAny _ _ (if ((1 : Int) == 0) = true then _ else _) _ _ s
  rw [if_neg (by decide)]
  refine wpAny_bind (slicePart_ pl (wpAny_bind (slicePart_ pu (wpAny_bind (wpAny_pure ?_)))))
  show wpAny _ _ (match Builtin.Slice.sliceAdjust lo hi 1 (n : Int) with | (lo, hi) => pure (lo, (1 : Int), Builtin.Slice.slicePlaces lo hi 1)) _ _ s
  rw [adjust_gen lo hi n]
  show wpAny _ _ (pure (((sIx n 0 lo : Nat) : Int), (1 : Int), Builtin.Slice.slicePlaces ((sIx n 0 lo : Nat) : Int) ((sIx n n hi : Nat) : Int) 1)) _ _ s
  rw [places_gen]
  exact wpAny_pure h
theorem pick_gen (xs : Array Value) (i k : Nat) : ((List.range k).filterMap fun (m : Nat) => xs[((i : Int) + (m : Int) * 1).toNat]?).toArray = ((xs.toList.drop i).take k).toArray := by
  have e : (fun (m : Nat) => xs[((i : Int) + (m : Int) * 1).toNat]?) = fun m => xs[i + m]? := by
    funext m
    have : ((i : Int) + (m : Int) * 1).toNat = i + m := by omega
    rw [this]
  rw [e]
  have := pick_run xs i k
  rw [List.filterMap_map] at this
  have e2 : ((fun x => xs[x]?) ∘ fun x => i + x) = fun m => xs[i + m]? := rfl
  rw [e2] at this
  rw [this]
theorem getItem_tuple_cut {t sl : Addr} {items : Array Value} {vl vu : Value} {lo hi : Option Int} {Q : Value → Shared → Prop} (ht : IsTup s.heap t items) (hs : s.heap.IsSliceOf sl vl vu .none) (pl : IsPart vl lo) (pu : IsPart vu hi)
    (hw : ¬ (sIx items.size 0 lo = 0 ∧ sIx items.size items.size hi = items.size))
    (h : Q (.ref s.heap.objs.size) { s with heap := s.heap.push { cls := .type "tuple", data := .seq ((items.toList.drop (sIx items.size 0 lo)).take (sIx items.size items.size hi - sIx items.size 0 lo)).toArray } })
    (hsz : items.size ≤ sizeLine) : wpAny (model prog w) A (getItem (.ref t) (.ref sl)) Q E s := by
  have htake : sizeOk (.seq ((items.toList.drop (sIx items.size 0 lo)).take (sIx items.size items.size hi - sIx items.size 0 lo)).toArray) := by
    show ((items.toList.drop (sIx items.size 0 lo)).take (sIx items.size items.size hi - sIx items.size 0 lo)).toArray.size ≤ sizeLine
    rw [List.size_toArray, List.length_take, List.length_drop, Array.length_toList]
    omega
  have hj : sIx items.size items.size hi ≤ items.size := sIx_le _ _ (Nat.le_refl _) hi
  obtain ⟨os, hos, hcs, hds⟩ := id hs
  have hTs : s.TypeIs (.ref sl) "slice" := ⟨os, hos, hcs⟩
  unfold getItem
  try with_reducible refine wpAny_holding ?_
  first | refine wpAny_bind (wpAny_pure ?_) | skip
  refine wpAny_bind (wpAny_sequenceKey ht.typeIs (by decide) ?_)
  refine wpAny_bind (wpAny_callSpecial?_slot (name := Str.ofString "__getitem__") ht.typeIs PyProof.Rows.slot_tuple_getitem
    (wpAny_call_entry PyProof.Rows.slot_tuple_getitem ht.typeIs entry_tuple_getitem ?_ (args_tuple_getitem _ _)))
  show wpAny _ _ (Builtin.Tuple.tupleItemsOf (.ref t) >>= _) _ _ s
  refine wpAny_bind (tupleItemsOf_ ht ?_)
  refine wpAny_bind (wpAny_typeOf hTs ?_)
  rw [if_pos (by decide)]
  refine wpAny_bind (sliceApplied_gen hs pl pu ?_)
  have hno : ¬ ((((sIx items.size 0 lo : Nat) : Int) == 0 && (1 : Int) == 1 && (sIx items.size items.size hi - sIx items.size 0 lo) == items.size) = true) := by
    intro q
    rw [Bool.and_eq_true, Bool.and_eq_true] at q
    have q1 : ((sIx items.size 0 lo : Nat) : Int) = 0 := eq_of_beq q.1.1
    have q2 : sIx items.size items.size hi - sIx items.size 0 lo = items.size := eq_of_beq q.2
    exact hw ⟨by omega, by omega⟩
  show wpAny _ _ (if (((sIx items.size 0 lo : Nat) : Int) == 0 && (1 : Int) == 1 && (sIx items.size items.size hi - sIx items.size 0 lo) == items.size) = true then _ else _) _ _ s
  rw [if_neg hno, pick_gen]
  first
    | exact wpAny_bind (m := Builtin.Tuple.tupleExact _) (wpAny_newObj_type (wpAny_pure ⟨_, rfl, wpAny_pure h⟩) htake)
    | exact wpAny_bind (m := Builtin.Tuple.tupleExact _) (wpAny_newObj_type (wpAny_bind (wpAny_pure (wpAny_pure ⟨_, rfl, wpAny_pure h⟩))) htake)
    | exact wpAny_bind (wpAny_bind (m := Builtin.Tuple.tupleExact _) (wpAny_newObj_type (wpAny_pure (wpAny_pure ⟨_, rfl, wpAny_pure h⟩)) htake))
    | exact wpAny_bind (wpAny_bind (m := Builtin.Tuple.tupleExact _) (wpAny_newObj_type (wpAny_pure ⟨_, rfl, wpAny_pure h⟩) htake))
end
end HT
namespace L2
open PySem PySem.Spec PyProof.Rows
abbrev TO := St → Hp → (Option Int → Hp → Prop) → Prop
def PO (X : Cx) (e : Option Expr) (t : TO) : Prop :=
  ∀ (pins : List (Addr × Obj)) (s : Shared) (σ : St) (H : Hp) (Q : Option Int → Hp → Prop), Inv X pins σ H s → t σ H Q →
    wpAny (model X.prog X.w) X.A (evalPart e X.env) (fun u s' => ∃ o H', Inv X pins σ H' s' ∧ IsPart u o ∧ Q o H') X.xe s
def tNoPart : TO := fun _ H Q => Q none H
def tPart (t : TE) : TO := fun σ H Q => t σ H fun x H1 => ∃ i, x = .int i ∧ Q (some i) H1
theorem intsAre_of {ns : List Int} : ∀ {us : List Value}, Vals (ns.map V.int) us → IntsAre us ns := by
  induction ns with
  | nil => intro us r; rw [List.map_nil] at r; cases r; exact .nil
  | cons n ns ih =>
    intro us r
    rw [List.map_cons] at r
    cases r with
    | cons r1 r2 =>
      obtain ⟨t, e⟩ := r1
      subst e
      exact .cons n t (ih r2)
section
variable {X : Cx} {e : Expr} {te : TE} {lo hi : Option Expr} {tl th : TO} {pos p2 : Pos}
theorem po_none : PO X none tNoPart := by
  intro pins s σ H Q I h
  rw [evalPart_none]
  exact wpAny_pure ⟨none, H, I, .none, h⟩
theorem po_some (h : PE X e te) : PO X (some e) (tPart te) := by
  intro pins s σ H Q I hw
  rw [evalPart_some]
  refine thn (h pins s σ H _ I hw) fun u s1 ⟨x, H1, I1, r1, q1⟩ => ?_
  obtain ⟨i, rfl, q⟩ := q1
  obtain ⟨t, rfl⟩ := r1
  exact ⟨some i, H1, I1, .int i t, q⟩
def SlR (X : Cx) (r : V → Option Int → Option Int → Hp → VK → Prop) : Prop :=
  ∀ (pins : List (Addr × Obj)) (s : Shared) (σ : St) (H : Hp) (x : V) (v vl vu : Value) (lo hi : Option Int) (sl : Addr) (Q : VK), Inv X pins σ H s → RelV x v → s.heap.IsSliceOf sl vl vu .none → IsPart vl lo → IsPart vu hi → r x lo hi H Q →
    ∃ T id, typeLookup (.type T) "__getitem__" = pure (some (.builtin id)) ∧ s.TypeIs v T ∧ wpAny (model X.prog X.w) X.A (getItem v (.ref sl)) (EP X pins σ Q) X.xe s
def tSl (r : V → Option Int → Option Int → Hp → VK → Prop) (te : TE) (tl th : TO) : TE := fun σ H Q => te σ H fun x H1 => tl σ H1 fun l H2 => th σ H2 fun u H3 => r x l u H3 Q
theorem pe_slice {r : V → Option Int → Option Int → Hp → VK → Prop} (hr : SlR X r) (he : PE X e te) (hl : PO X lo tl) (hu : PO X hi th) : PE X (.Subscript e (.Slice lo hi none p2) pos) (tSl r te tl th) := by
  intro pins s σ H Q I h
  refine Subscript_ (thn (he pins s σ H _ I h) fun v s1 ⟨x, H1, I1, r1, q1⟩ => ?_)
  refine wpAny_Slice (thn (hl pins s1 σ H1 _ I1 q1) fun vl s2 ⟨l, H2, I2, pl, q2⟩ => thn (hu pins s2 σ H2 _ I2 q2) fun vu s3 ⟨u, H3, I3, pu, q3⟩ => ?_)
  rw [evalPart_none]
  refine wpAny_pure ?_
  have I4 : Inv X pins σ H3 { s3 with heap := s3.heap.push { cls := .type "slice", data := .fields #[vl, vu, .none] } } := I3.kept (t' := s3.toks) fun b ob q => Heap.get?_push_of_some _ q
  obtain ⟨T, id, hT, ht, hg⟩ := hr pins { s3 with heap := s3.heap.push { cls := .type "slice", data := .fields #[vl, vu, .none] } } σ H3 x v vl vu l u s3.heap.objs.size Q I4 r1 (Heap.IsSliceOf.new ..) pl pu q3
  show wpAny (model X.prog X.w) X.A (subscriptTail e (.Slice lo hi none p2) v (.ref s3.heap.objs.size)) (EP X pins σ Q) X.xe { s3 with heap := s3.heap.push { cls := .type "slice", data := .fields #[vl, vu, .none] } }
  exact tail_any (ops := [.ref s3.heap.objs.size, v]) ht hT hg (by with_unfolding_all rfl)
def cutV (xs : List V) (lo hi : Option Int) : List V := (xs.drop (HT.sIx xs.length 0 lo)).take (HT.sIx xs.length xs.length hi - HT.sIx xs.length 0 lo)
theorem cutV_length (xs : List V) (lo hi : Option Int) : (cutV xs lo hi).length ≤ xs.length := by
  unfold cutV
  rw [List.length_take, List.length_drop]
  omega
def rSlT (K : PySem.W.Frag) : V → Option Int → Option Int → Hp → VK → Prop := fun x lo hi H Q => ∃ a xs, x = .ref a ∧ SqT K H a xs ∧
  ¬ (HT.sIx xs.length 0 lo = 0 ∧ HT.sIx xs.length xs.length hi = xs.length) ∧ ∀ p, H p = none → Q (.ref p) (upd H p (.tup (cutV xs lo hi)))
theorem sl_tup : SlR X (rSlT X.K) := by
  intro pins s σ H x v vl vu lo hi sl Q I rx hs pl pu h
  obtain ⟨a, xs, rfl, hx, hw, q⟩ := h
  cases rx
  obtain ⟨its, r, ht, hz⟩ := I.tuple hx
  have hlen : its.toArray.size = xs.length := by rw [List.size_toArray]; exact r.length.symm
  refine ⟨"tuple", _, PyProof.Rows.slot_tuple_getitem.lookup, ht.typeIs, ?_⟩
  refine HT.getItem_tuple_cut ht hs pl pu (by rw [hlen]; exact hw) ?_ (by rw [hlen]; exact hz)
  rw [hlen]
  refine ⟨.ref s.heap.objs.size, _, I.laid (t' := s.toks) (o := .tup (cutV xs lo hi)) (fun b ob q => Heap.get?_push_of_some _ q) (Nat.le_refl _) ?_, rfl, q _ (I.hok.fresh (Nat.le_refl _))⟩
  exact ⟨Nat.le_trans (cutV_length xs lo hi) hz, _, (r.drop (HT.sIx xs.length 0 lo)).take (HT.sIx xs.length xs.length hi - HT.sIx xs.length 0 lo), IsTup.new _ _⟩
end
def ixN (n : Nat) (i : Int) : Option Nat := if 0 ≤ i then (if i < n then some i.toNat else none) else if -(n : Int) ≤ i then some (i + n).toNat else none
def atI {α : Type} (xs : List α) (i : Int) : Option α := (ixN xs.length i).bind fun j => xs[j]?
theorem ixN_seq {n : Nat} {i : Int} {j : Nat} (h : ixN n i = some j) : seqIndex? i n = some j ∧ j < n ∧ -(n : Int) ≤ i ∧ i < n := by
  unfold ixN at h
  by_cases h0 : 0 ≤ i
  · rw [if_pos h0] at h
    by_cases h1 : i < n
    · rw [if_pos h1] at h
      have e : i.toNat = j := Option.some.inj h
      exact ⟨by rw [seqIndex_of h0 h1, e], by omega, by omega, h1⟩
    · rw [if_neg h1] at h; cases h
  · rw [if_neg h0] at h
    by_cases h1 : -(n : Int) ≤ i
    · rw [if_pos h1] at h
      have e : (i + n).toNat = j := Option.some.inj h
      exact ⟨by rw [seqIndex_neg (by omega) h1, e], by omega, h1, by omega⟩
    · rw [if_neg h1] at h; cases h
theorem atI_get {α : Type} {xs : List α} {i : Int} {v : α} (h : atI xs i = some v) : ∃ j, seqIndex? i xs.length = some j ∧ xs[j]? = some v ∧ j < xs.length ∧ -(xs.length : Int) ≤ i ∧ i < xs.length := by
  unfold atI at h
  cases e : ixN xs.length i with
  | none => rw [e] at h; cases h
  | some j =>
    rw [e] at h
    obtain ⟨h1, h2, h3, h4⟩ := ixN_seq e
    exact ⟨j, h1, h, h2, h3, h4⟩
theorem atI_nat {α : Type} {xs : List α} {j : Nat} {v : α} (h : xs[j]? = some v) : atI xs (j : Int) = some v := by
  have hj : j < xs.length := (List.getElem?_eq_some_iff.mp h).1
  have e : ixN xs.length (j : Int) = some j := by
    unfold ixN
    rw [if_pos (by omega), if_pos (by omega)]; simp
  unfold atI; rw [e]; exact h
def PlainIx (b : Expr) : Prop := ∀ o i, subscripted b false o i = operate [o, i] (getItem o i)
def IxR (X : Cx) (r : R2) : Prop :=
  ∀ (value slice : Expr) (pins : List (Addr × Obj)) (s : Shared) (σ : St) (H : Hp) (x y : V) (v u : Value) (Q : VK), Inv X pins σ H s → RelV x v → RelV y u → r x y H Q →
    subscripted slice false v u = operate [v, u] (getItem v u) → wpAny (model X.prog X.w) X.A (subscriptTail value slice v u) (EP X pins σ Q) X.xe s
def MtR (X : Cx) (id : String) (r : V → List V → Hp → VK → Prop) : Prop :=
  ∀ (pins : List (Addr × Obj)) (s : Shared) (σ : St) (H : Hp) (x : V) (xs : List V) (v : Value) (us : List Value) (Q : VK), Inv X pins σ H s → RelV x v → Vals xs us → r x xs H Q →
    wpAny (model X.prog X.w) X.A (call (.builtin id) (v :: us)) (EP X pins σ Q) X.xe s
section
variable {X : Cx} {a b : Expr} {ta tb : TE} {pos : Pos}
theorem pe_ix {r : R2} (hr : IxR X r) (ha : PE X a ta) (hb : PE X b tb) (hs : PlainIx b) : PE X (.Subscript a b pos) (tOp r ta tb) := by
  intro pins s σ H Q I h
  exact Subscript_ (binT ha hb I h fun v u s2 x y H2 I2 rx ry q => hr a b pins s2 σ H2 x y v u Q I2 rx ry q (hs _ _))
def rIxL (K : PySem.W.Frag) : R2 := fun x y H Q => ∃ p xs i v, x = .ref p ∧ y = .int i ∧ SqL K H p xs ∧ atI xs i = some v ∧ Q v H
def rIxT (K : PySem.W.Frag) : R2 := fun x y H Q => ∃ p xs i v, x = .ref p ∧ y = .int i ∧ SqT K H p xs ∧ atI xs i = some v ∧ Q v H
def rIxS : R2 := fun x y H Q => ∃ z i c, x = .str z ∧ y = .int i ∧ z.length ≤ sizeLine ∧ atI z.cps.toList i = some c ∧ Q (.str ⟨#[c]⟩) H
theorem ix_list : IxR X (rIxL X.K) := by
  intro value slice pins s σ H x y v u Q I rx ry h hs
  obtain ⟨p, xs, i, z, rfl, rfl, hq, he, q⟩ := h
  cases rx
  obtain ⟨t, rfl⟩ := ry
  obtain ⟨its, r, pl, hz⟩ := I.list hq
  obtain ⟨j, h1, h2, h3, h4, h5⟩ := atI_get he
  obtain ⟨w, ew, rw'⟩ := r.get h2
  have hl := r.length
  have hn := line63
  have fin : EP X pins σ Q w s := ⟨z, H, I, rw', q⟩
  by_cases h0 : 0 ≤ i
  · have hj : i.toNat = j := by
      rw [seqIndex_of h0 h5] at h1
      exact Option.some.inj h1
    exact item_listR pl.isList h0 (by omega) (by rw [hj]; simpa using ew) fin hs
  · have hj : (i + (its.toArray.size : Int)).toNat = j := by
      rw [seqIndex_neg (by omega) h4] at h1
      rw [List.size_toArray, ← hl]
      exact Option.some.inj h1
    exact subscriptTail_builtinR (x := w) pl.isList.typeIs slot_list_getitem.lookup
      (wpAny_getItem_list_neg (Q := fun r s' => r = w ∧ EP X pins σ Q r s') pl.isList (by omega) (by rw [List.size_toArray] <;> omega) (by omega) (by rw [hj]; simpa using ew) ⟨rfl, fin⟩) hs
theorem ix_tup : IxR X (rIxT X.K) := by
  intro value slice pins s σ H x y v u Q I rx ry h hs
  obtain ⟨p, xs, i, z, rfl, rfl, hq, he, q⟩ := h
  cases rx
  obtain ⟨t, rfl⟩ := ry
  obtain ⟨its, r, pl, hz⟩ := I.tuple hq
  obtain ⟨j, h1, h2, h3, h4, h5⟩ := atI_get he
  obtain ⟨w, ew, rw'⟩ := r.get h2
  have hl := r.length
  have hn := line63
  have fin : EP X pins σ Q w s := ⟨z, H, I, rw', q⟩
  exact subscriptTail_builtinR (x := w) pl.typeIs slot_tuple_getitem.lookup
    (getItem_tuple (j := j) (Q := fun r s' => r = w ∧ EP X pins σ Q r s') pl (by omega) (by omega) (by rw [List.size_toArray, ← hl]; exact h1) (by simpa using ew) ⟨rfl, fin⟩) hs
theorem ix_str : IxR X rIxS := by
  intro value slice pins s σ H x y v u Q I rx ry h hs
  obtain ⟨z, i, c, rfl, rfl, hz, he, q⟩ := h
  obtain ⟨t, rfl⟩ := rx
  obtain ⟨t', rfl⟩ := ry
  obtain ⟨j, h1, h2, h3, h4, h5⟩ := atI_get he
  have hl : z.cps.toList.length = z.length := by simp [Str.length]
  rw [hl] at h1 h4 h5
  have hn := line63
  exact tail_any (typeIs_str s z t) slot_str_getitem.lookup (getItem_str (c := c) (by
    have e1 : decide (i < -(2 ^ 63 : Int)) = false := decide_eq_false (by omega)
    have e2 : decide (i ≥ 2 ^ 63) = false := decide_eq_false (by omega)
    rw [e1, e2, Bool.or_false]) (by rw [h1]; simpa using h2) ⟨.str ⟨#[c]⟩, H, I.tok _, ⟨_, rfl⟩, q⟩) hs
theorem mapSeq_set (its : List Value) (n j : Nat) (u : Value) : Obj.mapSeq (·.setIfInBounds j u) { cls := .type "list", data := .seq its.toArray n } = { cls := .type "list", data := .seq (its.set j u).toArray n } := by
  simp [Obj.mapSeq]
theorem Inv.lst {pins : List (Addr × Obj)} {σ : St} {H : Hp} {s : Shared} {p : Addr} {xs : List V} (I : Inv X pins σ H s) (h : H p = some (.lst xs)) :
    ∃ (its : List Value) (n : Nat), Vals xs its ∧ s.heap.get? p = some { cls := .type "list", data := .seq its.toArray n } ∧ xs.length ≤ sizeLine := by
  obtain ⟨z, its, n, r, e⟩ := I.hok p _ h
  exact ⟨its, n, r, e, z⟩
theorem Inv.lstUpd {pins : List (Addr × Obj)} {σ : St} {H : Hp} {s : Shared} {p : Addr} {xs ys : List V} {its its' : List Value} {n n' : Nat} {f : Obj → Obj} (I : Inv X pins σ H s) (h : H p = some (.lst xs))
    (ho : s.heap.get? p = some { cls := .type "list", data := .seq its.toArray n }) (hf : f { cls := .type "list", data := .seq its.toArray n } = { cls := .type "list", data := .seq its'.toArray n' }) (r : Vals ys its') (hz : ys.length ≤ sizeLine) (t : Nat) :
    Inv X pins σ (upd H p (.lst ys)) { s with heap := s.heap.update p f, toks := t } := by
  have e : (s.heap.update p f).get? p = some { cls := .type "list", data := .seq its'.toArray n' } := by
    rw [Heap.get?_update_self f ho (by rw [hf] <;> rfl), hf]
  refine I.write (x := p) (e := p) (by rw [h]; trivial) (.inl rfl) (fun b u hb q => (Heap.get?_update_other _ _ (Ne.symm hb)).trans q) ⟨_, e⟩ ?_
  exact ⟨hz, its', n', r, e⟩
def rSetL : V → V → V → Hp → (Hp → Prop) → Prop := fun o i v H Q => ∃ p xs k j, o = .ref p ∧ i = .int k ∧ H p = some (.lst xs) ∧ ixN xs.length k = some j ∧ Q (upd H p (.lst (xs.set j v)))
theorem set_list : PSet X rSetL := by
  intro pins s σ H o i v ov iv u Q I ro ri rv h
  obtain ⟨p, xs, k, j, rfl, rfl, hp, hj, q⟩ := h
  cases ro
  obtain ⟨t, rfl⟩ := ri
  obtain ⟨its, n, r, ho, hz⟩ := I.lst hp
  obtain ⟨h1, h2, h3, h4⟩ := ixN_seq hj
  have hl := r.length
  have hn := line63
  have I' : Inv X pins σ (upd H p (.lst (xs.set j v))) { s with heap := s.heap.update p (Obj.mapSeq (·.setIfInBounds j u)) } :=
    I.lstUpd hp ho (mapSeq_set its n j u) (r.set rv j) (by rw [List.length_set]; exact hz) s.toks
  by_cases h0 : 0 ≤ k
  · have hk : k.toNat = j := by
      rw [seqIndex_of h0 h4] at h1
      exact Option.some.inj h1
    exact PySem.W.ki_setAt ho h0 (by omega) (by rw [List.size_toArray, ← hl]; exact h4) (by rw [hk]; exact ⟨_, I', q⟩)
  · have hk : (k + (its.toArray.size : Int)).toNat = j := by
      rw [seqIndex_neg (by omega) h3] at h1
      rw [List.size_toArray, ← hl]
      exact Option.some.inj h1
    exact PySem.W.ki_setBack ho (by omega) (by rw [List.size_toArray, ← hl]; exact h3) (by omega) (by rw [hk]; exact ⟨_, I', q⟩)
theorem slice_bounds (lo hi : Option Int) (n : Nat) : (sliceBounds lo hi none n).1 = ((HT.sIx n 0 lo : Nat) : Int) ∧ (sliceBounds lo hi none n).2.1 = ((HT.sIx n n hi : Nat) : Int) ∧ (sliceBounds lo hi none n).2.2 = 1 := by
  refine ⟨?_, ?_, rfl⟩
  · cases lo with
    | none => simp [sliceBounds, HT.sIx]
    | some i =>
      simp only [sliceBounds, HT.sIx, Option.getD_none, show (1 : Int) > 0 by decide, if_true]
      by_cases h : i < 0
      · simp only [h, if_true] <;> omega
      · simp only [h, if_false] <;> omega
  · cases hi with
    | none => simp [sliceBounds, HT.sIx]
    | some i =>
      simp only [sliceBounds, HT.sIx, Option.getD_none, show (1 : Int) > 0 by decide, if_true]
      by_cases h : i < 0
      · simp only [h, if_true] <;> omega
      · simp only [h, if_false] <;> omega
theorem slicePick_cut (its : List Value) (lo hi : Option Int) : slicePick its.toArray lo hi none = ((its.drop (HT.sIx its.length 0 lo)).take (HT.sIx its.length its.length hi - HT.sIx its.length 0 lo)).toArray := by
  obtain ⟨h1, h2, h3⟩ := slice_bounds lo hi its.toArray.size
  unfold slicePick
  rw [h1, h2, h3]
  simp only [sliceRange_one, pick_run, List.size_toArray] <;> rfl
def rSlL (K : PySem.W.Frag) : V → Option Int → Option Int → Hp → VK → Prop := fun x lo hi H Q => ∃ a xs, x = .ref a ∧ SqL K H a xs ∧ ∀ p, H p = none → Q (.ref p) (upd H p (.lst (cutV xs lo hi)))
theorem sl_list : SlR X (rSlL X.K) := by
  intro pins s σ H x v vl vu lo hi sl Q I rx hs pl pu h
  obtain ⟨a, xs, rfl, hx, q⟩ := h
  cases rx
  obtain ⟨its, r, ht, hz⟩ := I.list hx
  have hlen := r.length
  refine ⟨"list", _, slot_list_getitem.lookup, ht.isList.typeIs, ?_⟩
  refine wpAny_getItem_list_slice ht.isList hs pl pu .none (by simp) ?_ (by rw [List.size_toArray] <;> omega)
  rw [slicePick_cut, ← hlen]
  refine ⟨.ref s.heap.objs.size, _, I.laid (t' := s.toks) (o := .lst (cutV xs lo hi)) (fun b ob q => Heap.get?_push_of_some _ q) (Nat.le_refl _) ?_, rfl, q _ (I.hok.fresh (Nat.le_refl _))⟩
  exact ⟨Nat.le_trans (cutV_length xs lo hi) hz, _, 0, (r.drop (HT.sIx xs.length 0 lo)).take (HT.sIx xs.length xs.length hi - HT.sIx xs.length 0 lo), Heap.get?_push_size _ rfl⟩
def flatV : V → Bool
  | .non => true
  | .bl _ => true
  | .int _ => true
  | .str _ => true
  | _ => false
def eqV : V → V → Bool
  | .non, .non => true
  | .bl a, .bl b => a == b
  | .bl a, .int b => (if a then 1 else 0) == b
  | .int a, .bl b => a == (if b then 1 else 0)
  | .int a, .int b => a == b
  | .str a, .str b => a == b
  | _, _ => false
theorem eqAt_V {A : Around} {s : Shared} {y x : V} {u v : Value} (ry : RelV y u) (rx : RelV x v) (fy : flatV y = true) (fx : flatV x = true) : SeqAt.EqAt A s u v (eqV y x) := by
  cases y with
  | non =>
    cases ry
    cases x with
    | non => cases rx; exact SeqAt.EqAt.same _
    | bl b => cases rx; exact SeqAt.EqAt.none_bool b
    | int b => obtain ⟨t, rfl⟩ := rx; exact SeqAt.EqAt.none_int b t
    | str b => obtain ⟨t, rfl⟩ := rx; exact SeqAt.EqAt.none_str b t
    | _ => exact absurd (show false = true from fx) Bool.false_ne_true
  | bl a =>
    cases ry
    cases x with
    | non => cases rx; exact SeqAt.EqAt.bool_none a
    | bl b => cases rx; exact SeqAt.EqAt.bool_bool a b
    | int b => obtain ⟨t, rfl⟩ := rx; exact SeqAt.EqAt.bool_int a b t
    | str b => obtain ⟨t, rfl⟩ := rx; exact SeqAt.EqAt.bool_str a b t
    | _ => exact absurd (show false = true from fx) Bool.false_ne_true
  | int a =>
    obtain ⟨t', rfl⟩ := ry
    cases x with
    | non => cases rx; exact SeqAt.EqAt.int_none a t'
    | bl b => cases rx; exact SeqAt.EqAt.int_bool a t' b
    | int b => obtain ⟨t, rfl⟩ := rx; exact SeqAt.EqAt.int_int a t' b t
    | str b => obtain ⟨t, rfl⟩ := rx; exact SeqAt.EqAt.int_str a t' b t
    | _ => exact absurd (show false = true from fx) Bool.false_ne_true
  | str a =>
    obtain ⟨t', rfl⟩ := ry
    cases x with
    | non => cases rx; exact SeqAt.EqAt.str_none a t'
    | bl b => cases rx; exact SeqAt.EqAt.str_bool a t' b
    | int b => obtain ⟨t, rfl⟩ := rx; exact SeqAt.EqAt.str_int a t' b t
    | str b => obtain ⟨t, rfl⟩ := rx; exact SeqAt.EqAt.str_str a t' b t
    | _ => exact absurd (show false = true from fx) Bool.false_ne_true
  | _ => exact absurd (show false = true from fy) Bool.false_ne_true
def eqU (x : V) (u : Value) : Bool := match u with
  | .none => eqV .non x
  | .bool b => eqV (.bl b) x
  | .int i _ => eqV (.int i) x
  | .str z _ => eqV (.str z) x
  | _ => false
theorem eqU_of {x y : V} {u : Value} (r : RelV y u) (f : flatV y = true) : eqU x u = eqV y x := by
  cases y with
  | non => cases r; rfl
  | bl b => cases r; rfl
  | int i => obtain ⟨t, rfl⟩ := r; rfl
  | str z => obtain ⟨t, rfl⟩ := r; rfl
  | _ => exact absurd (show false = true from f) Bool.false_ne_true
theorem any_eqU {x : V} : ∀ {xs : List V} {us : List Value}, Vals xs us → xs.all flatV = true → us.any (eqU x) = xs.any fun y => eqV y x
  | _, _, .nil, _ => rfl
  | y :: xs, u :: us, .cons r t, f => by
    rw [List.all_cons, Bool.and_eq_true] at f
    rw [List.any_cons, List.any_cons, eqU_of r f.1, any_eqU t f.2]
theorem mem_eqAt {A : Around} {s : Shared} {x : V} {v : Value} (rx : RelV x v) (fx : flatV x = true) : ∀ {xs : List V} {us : List Value}, Vals xs us → xs.all flatV = true → ∀ u ∈ us, SeqAt.EqAt A s u v (eqU x u)
  | _, _, .nil, _ => fun u hu => by cases hu
  | y :: xs, u :: us, .cons r t, f => fun u' hu => by
    rw [List.all_cons, Bool.and_eq_true] at f
    rcases List.mem_cons.mp hu with rfl | hu
    · rw [eqU_of r f.1]; exact eqAt_V r rx f.1 fx
    · exact mem_eqAt rx fx t f.2 u' hu
def inV (x : V) (xs : List V) : Bool := xs.any fun y => eqV y x
def rIn (K : PySem.W.Frag) (neg : Bool) : R2 := fun x y H Q => ∃ p xs, y = .ref p ∧ (SqL K H p xs ∨ SqT K H p xs) ∧ flatV x = true ∧ xs.all flatV = true ∧ Q (.bl (if neg then !inV x xs else inV x xs)) H
theorem op_in_seq : OpR X (compareOp .In) (rIn X.K false) := by
  intro pins s σ H x y v u Q I rx ry h
  obtain ⟨p, xs, rfl, hq, fx, fs, q⟩ := h
  cases ry
  rcases hq with hq | hq
  · obtain ⟨its, r, pl, hz⟩ := I.list hq
    refine SeqAt.in_listAt (eqU x) pl.isList (fun w hw => mem_eqAt rx fx r fs w (by simpa using hw)) ⟨.bl _, H, I, rfl, ?_⟩
    rw [show its.toArray.any (eqU x) = its.any (eqU x) by simp, any_eqU r fs]
    exact q
  · obtain ⟨its, r, pl, hz⟩ := I.tuple hq
    refine SeqAt.in_tupleAt (eqU x) pl (fun w hw => mem_eqAt rx fx r fs w (by simpa using hw)) ⟨.bl _, H, I, rfl, ?_⟩
    rw [show its.toArray.any (eqU x) = its.any (eqU x) by simp, any_eqU r fs]
    exact q
theorem op_notIn_seq : OpR X (compareOp .NotIn) (rIn X.K true) := by
  intro pins s σ H x y v u Q I rx ry h
  obtain ⟨p, xs, rfl, hq, fx, fs, q⟩ := h
  cases ry
  rcases hq with hq | hq
  · obtain ⟨its, r, pl, hz⟩ := I.list hq
    refine SeqAt.notIn_listAt (eqU x) pl.isList (fun w hw => mem_eqAt rx fx r fs w (by simpa using hw)) ⟨.bl _, H, I, rfl, ?_⟩
    rw [show its.toArray.any (eqU x) = its.any (eqU x) by simp, any_eqU r fs]
    exact q
  · obtain ⟨its, r, pl, hz⟩ := I.tuple hq
    refine SeqAt.notIn_tupleAt (eqU x) pl (fun w hw => mem_eqAt rx fx r fs w (by simpa using hw)) ⟨.bl _, H, I, rfl, ?_⟩
    rw [show its.toArray.any (eqU x) = its.any (eqU x) by simp, any_eqU r fs]
    exact q
theorem call_len_seq : CallR X (.builtin "len") (fun xs H Q => ∃ p ys, xs = [.ref p] ∧ (SqL X.K H p ys ∨ SqT X.K H p ys) ∧ Q (.int ys.length) H) := by
  intro pins s σ H xs us Q I r h
  obtain ⟨p, ys, rfl, hq, q⟩ := h
  obtain ⟨u, rfl, rx⟩ := vals1 r
  cases rx
  have hn := line63
  rcases hq with hq | hq
  · obtain ⟨its, r', pl, hz⟩ := I.list hq
    have hlen := r'.length
    exact Calls.call_len_list pl.isList (by simp only [List.size_toArray] <;> omega) ⟨.int ys.length, H, I.tok _, ⟨s.toks + 1, by rw [List.size_toArray, hlen]⟩, q⟩
  · obtain ⟨its, r', pl, hz⟩ := I.tuple hq
    have hlen := r'.length
    exact len_tuple pl (by simp only [List.size_toArray] <;> omega) ⟨.int ys.length, H, I.tok _, ⟨s.toks + 1, by rw [List.size_toArray, hlen]⟩, q⟩
theorem call_len_str : CallR X (.builtin "len") (fun xs H Q => ∃ z, xs = [.str z] ∧ z.length ≤ sizeLine ∧ Q (.int z.length) H) := by
  intro pins s σ H xs us Q I r h
  obtain ⟨z, rfl, hz, q⟩ := h
  obtain ⟨u, rfl, t, rfl⟩ := vals1 r
  have hn := line63
  exact len_str (by omega) ⟨.int z.length, H, I.tok _, ⟨_, rfl⟩, q⟩
theorem call_list_of : CallR X (.type "list") (fun xs H Q => ∃ p ys, xs = [.ref p] ∧ (SqL X.K H p ys ∨ SqT X.K H p ys) ∧ ∀ l, H l = none → Q (.ref l) (upd H l (.lst ys))) := by
  intro pins s σ H xs us Q I r h
  obtain ⟨p, ys, rfl, hq, q⟩ := h
  obtain ⟨u, rfl, rx⟩ := vals1 r
  cases rx
  have fin : ∀ (its : List Value), Vals ys its → ys.length ≤ sizeLine → ∀ (h' : Heap) (c' : Nat), (∀ b o', s.heap.get? b = some o' → h'.get? b = some o') →
      h'.get? s.heap.objs.size = some { cls := .type "list", dict := none, data := .seq its.toArray c', slots := #[] } → EP X pins σ Q (.ref s.heap.objs.size) { s with heap := h' } := fun its r' hz h' c' kp e =>
    ⟨.ref s.heap.objs.size, _, I.laid (t' := s.toks) kp (Nat.le_refl _) (show ObjOk X.prog X.w _ h' _ (.lst ys) from ⟨hz, its, c', r', e⟩), rfl, q _ (I.hok.fresh (Nat.le_refl _))⟩
  rcases hq with hq | hq
  · obtain ⟨its, r', pl, hz⟩ := I.list hq
    have hlen := r'.length
    obtain ⟨o, ho, hc, n, hd⟩ := pl.isList
    exact call_list_seq p (.inl rfl) ho hc hd (fun h' c' kp e => fin its r' hz h' c' kp e) (by simp only [List.size_toArray] <;> omega)
  · obtain ⟨its, r', pl, hz⟩ := I.tuple hq
    have hlen := r'.length
    obtain ⟨o, ho, hc, n, hd⟩ := pl
    exact call_list_seq p (.inr rfl) ho hc hd (fun h' c' kp e => fin its r' hz h' c' kp e) (by simp only [List.size_toArray] <;> omega)
def tyV (K : PySem.W.Frag) (T : String) (x : V) (H : Hp) : Prop := match x with
  | .str _ => T = "str"
  | .int _ => T = "int"
  | .ref p => (T = "list" ∧ ∃ xs, SqL K H p xs) ∨ (T = "tuple" ∧ ∃ o, K.lookup p = some o ∧ o.cls = .type "tuple" ∧ o.dict = none) ∨
      (T = "dict" ∧ ((∃ kvs, H p = some (.dK kvs)) ∨ ∃ kvs, H p = some (.dT kvs))) ∨ (T = "set" ∧ ∃ S n, H p = some (.set S n))
  | _ => False
theorem tyV_is {pins : List (Addr × Obj)} {σ : St} {H : Hp} {s : Shared} {T : String} {x : V} {v : Value} (I : Inv X pins σ H s) (r : RelV x v) (ty : tyV X.K T x H) :
    s.TypeIs v T ∧ ∀ a, v = .ref a → ∃ ob, s.heap.get? a = some ob ∧ ob.dict = none := by
  cases x with
  | str z =>
    obtain ⟨t, rfl⟩ := r
    cases (show T = "str" from ty)
    exact ⟨typeIs_str s z t, fun _ e => nomatch e⟩
  | int i =>
    obtain ⟨t, rfl⟩ := r
    cases (show T = "int" from ty)
    exact ⟨typeIs_int s i t, fun _ e => nomatch e⟩
  | ref p =>
    cases r
    rcases ty with ⟨rfl, xs, hq⟩ | ⟨rfl, o, hk, hc, hd⟩ | ⟨rfl, hk⟩ | ⟨rfl, S, n, hk⟩
    · obtain ⟨its, _, pl, _⟩ := I.list hq
      refine ⟨pl.isList.typeIs, fun a e => ?_⟩
      cases e
      obtain ⟨o, n, e, c, hd, _⟩ := pl
      exact ⟨o, e, hd⟩
    · refine ⟨⟨o, I.kIn p o hk, hc⟩, fun a e => ?_⟩
      cases e
      exact ⟨o, I.kIn _ o hk, hd⟩
    · have z : ∃ o, s.heap.get? p = some o ∧ o.ExactDict := by
        rcases hk with ⟨kvs, hk⟩ | ⟨kvs, hk⟩
        · obtain ⟨_, _, _, _, o, _, _, e, ex, _⟩ := I.hok p _ hk
          exact ⟨o, e, ex⟩
        · obtain ⟨_, _, _, _, o, _, _, e, ex, _⟩ := I.hok p _ hk
          exact ⟨o, e, ex⟩
      obtain ⟨o, e, ex⟩ := z
      refine ⟨⟨o, e, ex.1⟩, fun a e2 => ?_⟩
      cases e2
      exact ⟨o, e, ex.2.1⟩
    · obtain ⟨o, _, _, _, e, ex, _⟩ := I.hok p _ hk
      refine ⟨⟨o, e, ex.1⟩, fun a e2 => ?_⟩
      cases e2
      exact ⟨o, e, ex.2.1⟩
  | _ => exact False.elim ty
def tBM (K : PySem.W.Frag) (T : String) (r : V → List V → Hp → VK → Prop) (to : TE) (t : TA) : TE := fun σ H Q => to σ H fun x H1 => tyV K T x H1 ∧ t σ H1 fun xs H2 => r x xs H2 Q
variable {o e : Expr} {es : List Expr} {to : TE} {t : TA} {name : Str} {apos cpos : Pos} {T id : String} {r : V → List V → Hp → VK → Prop}
theorem pe_bm (pa : PlainAttrs T) (slot : Slot T name id) (hty : typeOf (.builtin id) = pure (.type "method_descriptor")) (hm : MtR X id r) (ho : PE X o to) (ha : PA X (e :: es) t)
    (hbase : attributeBase o name X.env (eval o X.env) = eval o X.env := by rfl)
    (hfew : ((backTo cpos (starEach (e :: es) X.env)).all (fun x => !x.1) && (backToKw cpos (keywordEach [] X.env)).all (fun x => x.1.isSome)
      && decide ((e :: es).length + ([] : List Keyword).length + (if ([] : List Keyword).isEmpty then 0 else 1) < 30)) = true := by rfl)
    (hline : (apos.endLine == cpos.line) = true := by rfl) (hs : starEach (e :: es) X.env = (false, eval e X.env) :: starEach es X.env := by rfl) (hplain : (backTo cpos (starEach es X.env)).any (·.1) = false := by rfl) :
    PE X (.Call (.Attribute o name apos) (e :: es) [] cpos) (tBM X.K T r to t) := by
  intro pins s σ H Q I h
  refine wpAny_Call_method_late hbase hfew hline rfl (thn (ho pins s σ H _ I h) fun v s1 ⟨x, H1, I1, r1, ty, q1⟩ => ?_)
  obtain ⟨h1, h2⟩ := tyV_is I1 r1 ty
  refine ⟨T, id, pa, slot, hty, h1, h2, ?_⟩
  have hA := ha cpos pins s1 σ H1 _ I1 q1
  rw [hs] at hA ⊢
  refine Calls.callWith_builtin (by show (false || (backTo cpos (starEach es X.env)).any (·.1)) = false; rw [hplain] <;> rfl) (Calls.evalArgs_plain ?_)
  exact thn hA fun us s2 ⟨vs, H2, I2, r2, q2⟩ => hm pins s2 σ H2 x vs v us Q I2 r1 r2 q2
end
def MtM (X : Cx) (id : String) (r : V → List V → Hp → VK → Prop) : Prop :=
  ∀ (pins : List (Addr × Obj)) (s : Shared) (σ : St) (H : Hp) (x : V) (xs : List V) (v : Value) (us : List Value) (Q : VK), Inv X pins σ H s → RelV x v → Vals xs us → r x xs H Q →
    wpAny (model X.prog X.w) X.A (call (.builtin id) (v :: us)) (EP X pins σ Q) X.xe s
theorem Vals.one : ∀ {x : V} {us : List Value}, Vals [x] us → ∃ u, us = [u] ∧ RelV x u
  | _, _, .cons r .nil => ⟨_, rfl, r⟩
section
variable {X : Cx} {pins : List (Addr × Obj)} {σ : St} {H : Hp} {s : Shared} {l b : Addr} {xs ys zs : List V}
theorem Inv.lset {its its' : List Value} {n : Nat} {f : Array Value → Array Value} {t' : Nat} (I : Inv X pins σ H s) (hH : H l = some (.lst xs))
    (e : s.heap.get? l = some { cls := .type "list", data := .seq its.toArray n }) (hf : f its.toArray = its'.toArray) (hv : Vals ys its') (hz : ys.length ≤ sizeLine) :
    Inv X pins σ (upd H l (.lst ys)) { s with heap := s.heap.update l (Obj.mapSeq f), toks := t' } := by
  have q := PySem.IsL.update e f
  rw [hf] at q
  refine I.write (x := l) (e := l) (by rw [hH]; exact trivial) (.inl rfl) (fun b' u hb hu => (Heap.get?_update_other s.heap (Obj.mapSeq f) (Ne.symm hb)).trans hu) ⟨_, q⟩ ?_
  exact ⟨hz, its', _, hv, q⟩
theorem Inv.lnew {its : List Value} {t' : Nat} (I : Inv X pins σ H s) (hv : Vals ys its) (hz : ys.length ≤ sizeLine) :
    Inv X pins σ (upd H s.heap.objs.size (.lst ys)) { s with heap := s.heap.push { cls := .type "list", data := .seq its.toArray }, toks := t' } :=
  I.laid (fun _ _ q => Heap.get?_push_of_some _ q) (Nat.le_refl _) ⟨hz, its, 0, hv, Heap.get?_push_size _ rfl⟩
theorem Inv.fresh (I : Inv X pins σ H s) : H s.heap.objs.size = none := I.hok.fresh (Nat.le_refl _)
theorem Inv.lstM (I : Inv X pins σ H s) (hH : H l = some (.lst xs)) : xs.length ≤ sizeLine ∧ ∃ (its : List Value) (n : Nat), Vals xs its ∧ xs.length = its.length ∧ s.heap.get? l = some { cls := .type "list", data := .seq its.toArray n } := by
  obtain ⟨z, its, n, r, e⟩ := I.hok l _ hH
  exact ⟨z, its, n, r, r.length, e⟩
theorem notLongL {n : Nat} (h : n ≤ sizeLine) : Builtin.List.listTooLong n = false := by
  unfold Builtin.List.listTooLong
  exact decide_eq_false (by omega)
end
section
variable {X : Cx}
def rAppend : V → List V → Hp → VK → Prop := fun x vs H Q => ∃ l xs y, x = .ref l ∧ vs = [y] ∧ H l = some (.lst xs) ∧ xs.length < sizeLine ∧ Q .non (upd H l (.lst (xs ++ [y])))
theorem mt_append : MtM X "list.append" rAppend := by
  intro pins s σ H x vs v us Q I rx rv h
  obtain ⟨l, xs, y, rfl, rfl, hH, hz, q⟩ := h
  cases rx
  obtain ⟨u, rfl, ru⟩ := rv.one
  obtain ⟨z, its, n, r, hl, e⟩ := I.lstM hH
  refine call_meets F.slot_list_append ⟨_, e, rfl⟩ F.entry_list_append (F.args_list_append_2 _ _) (PySem.list_append l its.toArray n u (by rw [List.size_toArray]; omega)) ⟨e, ?_⟩
  refine ⟨.non, _, I.lset (its' := its ++ [u]) hH e (by simp) (r.append (.cons ru .nil)) ?_, rfl, q⟩
  rw [List.length_append, List.length_singleton]
  omega
def rExtend : V → List V → Hp → VK → Prop := fun x vs H Q => ∃ l b xs zs, x = .ref l ∧ vs = [.ref b] ∧ H l = some (.lst xs) ∧ H b = some (.lst zs) ∧ xs.length + zs.length ≤ sizeLine ∧ Q .non (upd H l (.lst (xs ++ zs)))
theorem mt_extend : MtM X "list.extend" rExtend := by
  intro pins s σ H x vs v us Q I rx rv h
  obtain ⟨l, b, xs, zs, rfl, rfl, hH, hB, hz, q⟩ := h
  cases rx
  obtain ⟨u, rfl, ru⟩ := rv.one
  cases ru
  obtain ⟨z, its, n, r, hl, e⟩ := I.lstM hH
  obtain ⟨z2, its2, n2, r2, hl2, e2⟩ := I.lstM hB
  have hsz : its.toArray.size + its2.toArray.size ≤ sizeLine := by rw [List.size_toArray, List.size_toArray]; omega
  have hlong : ¬ (!its.toArray.isEmpty && Builtin.List.listTooLong (its.toArray.size + its2.toArray.size)) = true := by
    rw [notLongL hsz, Bool.and_false]
    exact Bool.false_ne_true
  refine call_meets F.slot_list_extend ⟨_, e, rfl⟩ F.entry_list_extend (F.args_list_extend_2 _ _)
    (AutoSeq1.list_extend_list_list_0 l its.toArray n b its2.toArray n2 hlong (by rw [List.size_toArray]; omega) (by omega)) ⟨e, e2, ?_⟩
  refine ⟨.non, _, I.lset (its' := its ++ its2) hH e (by simp) (r.append r2) ?_, rfl, q⟩
  rw [List.length_append]
  omega
def rCat : R2 := fun x y H Q => ∃ l b xs zs, x = .ref l ∧ y = .ref b ∧ H l = some (.lst xs) ∧ H b = some (.lst zs) ∧ xs.length + zs.length ≤ sizeLine ∧ ∀ p, H p = none → Q (.ref p) (upd H p (.lst (xs ++ zs)))
theorem op_cat : OpR X (binaryOp .Add) rCat := by
  intro pins s σ H x y v u Q I rx ry h
  obtain ⟨l, b, xs, zs, rfl, rfl, hH, hB, hz, q⟩ := h
  cases rx
  cases ry
  obtain ⟨z, its, n, r, hl, e⟩ := I.lstM hH
  obtain ⟨z2, its2, n2, r2, hl2, e2⟩ := I.lstM hB
  refine PySem.P.add_list e e2 ?_ (by rw [List.size_toArray, List.size_toArray]; omega)
  have ea : its.toArray ++ its2.toArray = (its ++ its2).toArray := by simp
  rw [ea]
  exact ⟨.ref _, _, I.lnew (t' := s.toks) (r.append r2) (by rw [List.length_append]; omega), rfl, q _ I.fresh⟩
end
section
variable {prog : Program} {w : World} {A : Around} {E : Value → Shared → Prop} {s : Shared}
theorem bounds_run {a c n : Nat} (hac : a ≤ c) (hc : c ≤ n) : sliceBounds (some (a : Int)) (some (c : Int)) none n = ((a : Int), (c : Int), 1) := by
  simp only [sliceBounds, Option.getD_none]
  have h1 : ¬ ((a : Int) < 0) := by omega
  have h2 : ¬ ((c : Int) < 0) := by omega
  simp only [h1, h2, if_false, show (1 : Int) > 0 by decide, if_true]
  congr 1
  · omega
  · congr 1; omega
set_option maxRecDepth 100000 in
theorem setItem_slice {l b sl : Addr} {items new : Array Value} {n n2 : Nat} {vl vu : Value} {a c : Nat} {Q : Unit → Shared → Prop}
    (e : s.heap.get? l = some { cls := .type "list", data := .seq items n }) (e2 : s.heap.get? b = some { cls := .type "list", data := .seq new n2 }) (hne : l ≠ b)
    (hs : s.heap.IsSliceOf sl vl vu .none) (pl : IsPart vl (some (a : Int))) (pu : IsPart vu (some (c : Int))) (hac : a ≤ c) (hc : c ≤ items.size)
    (hsz : items.size + new.size ≤ sizeLine) (h : Q () { s with heap := s.heap.update l (Obj.mapSeq fun xs => xs.extract 0 a ++ new ++ xs.extract c xs.size) }) :
    wpAny (model prog w) A (setItem (.ref l) (.ref sl) (.ref b)) Q E s := by
  have hl : s.heap.IsList l items := PySem.IsL.isList e
  have hb : s.heap.IsList b new := PySem.IsL.isList e2
  obtain ⟨os, hos, hcs, hds⟩ := id hs
  have hTs : s.TypeIs (.ref sl) "slice" := ⟨os, hos, hcs⟩
  have hstep : ¬ ((rawPart none == rawInt 0) = true) := Bool.false_ne_true
  have hsame : Builtin.List.listSameRef (.ref l) (.ref b) = false := by
    unfold Builtin.List.listSameRef
    exact beq_eq_false_iff_ne.mpr hne
  have hmax : (max (a : Int) (c : Int)).toNat = c := by omega
  have hz' : ((fun xs : Array Value => xs.extract 0 a ++ new ++ xs.extract c xs.size) items).size ≤ sizeLine + 1 := by
    simp only [Array.size_append, Array.size_extract]
    omega
  unfold setItem
  try with_reducible refine wpAny_holding ?_
  first | refine wpAny_bind (wpAny_pure ?_) | skip
  refine wpAny_bind (wpAny_sequenceKey hl.typeIs (by decide) ?_)
  refine wpAny_bind (wpAny_callSpecial?_slot (name := Str.ofString "__setitem__") hl.typeIs slot_list_setitem
    (wpAny_call_entry slot_list_setitem hl.typeIs entry_list_setitem ?_ (args_list_setitem _ _ _)))
  show wpAny _ _ (Builtin.List.listSubscript? (.ref sl) >>= _) _ _ s
  refine wpAny_bind ?_
  unfold Builtin.List.listSubscript?
  refine wpAny_bind (wpAny_specialOf hTs slice_no_index ?_)
  simp only [Option.isNone_none, if_true]
  refine wpAny_pure ?_
  show wpAny _ _ (typeOf (.ref sl) >>= _) _ _ s
  refine wpAny_bind (wpAny_typeOf hTs ?_)
  first
    | rw [if_neg (by decide)]
    | refine PySem.W.KFB.if_not (by decide) ?_
  rw [listSliceParts_eq]
  refine wpAny_bind (wpAny_bind (wpAny_field hos hds (x := .none) rfl (wpAny_bind (wpAny_listPart .none ?_))))
  rw [if_neg hstep]
  refine wpAny_bind (wpAny_field hos hds (x := vl) rfl (wpAny_bind (wpAny_listPart pl ?_)))
  refine wpAny_bind (wpAny_field hos hds (x := vu) rfl (wpAny_bind (wpAny_listPart pu (wpAny_pure ?_))))
  first
    | simp only [hsame, Bool.false_eq_true, if_false]
    | refine PySem.W.KFB.if_not hsame ?_
    | (dsimp only
       rw [if_neg (by rw [hsame]; exact Bool.false_ne_true)])
  refine wpAny_bind (m := Builtin.List.listAllItems (.ref b) "must assign iterable to extended slice") ?_
  unfold Builtin.List.listAllItems
  refine wpAny_bind (wpAny_typeOf hb.typeIs ?_)
  first
    | refine PySem.W.KFB.if_so (by decide) ?_
    | rw [if_pos (by decide)]
    | simp only [beq_self_eq_true, Bool.true_or, if_true]
  unfold Builtin.List.listItems
  refine wpAny_bind (wpAny_seqItems e2 rfl (wpAny_pure ?_))
  refine wpAny_bind (wpAny_bind (wpAny_seqItems e rfl (wpAny_pure ?_)))
  refine wpAny_bind (wpAny_of_eq ((sliceIndices_raw (some (a : Int)) (some (c : Int)) none items.size (by simp)).trans (congrArg (pure : Int × Int × Int → Sem (Int × Int × Int)) (bounds_run hac hc))) ?_)
  show wpAny _ _ (if ((1 : Int) == 1) = true then _ else _) _ _ s
  rw [if_pos (by decide)]
  refine wpAny_bind (wpAny_rule ?_)
  first
    | simp only [notLongL hsz, Bool.false_eq_true, if_false]
    | refine PySem.W.KFB.if_not (notLongL hsz) ?_
  first | refine wpAny_bind (wpAny_pure ?_) | skip
  show wpAny _ _ (updateSeq l (fun xs => xs.extract 0 ((a : Int)).toNat ++ new ++ xs.extract (max (a : Int) (c : Int)).toNat xs.size) >>= _) _ _ s
  rw [hmax, Int.toNat_natCast]
  refine wpAny_bind (wpAny_updateSeq (hz := Nat.le_trans (Nat.le_add_right _ _) hsz) (_hz' := hz') e rfl ?_)
  refine wpAny_bind (wpAny_letGo ?_)
  first
    | exact wpAny_bind (wpAny_pure (wpAny_pure ⟨.none, rfl, wpAny_pure h⟩))
    | exact wpAny_pure ⟨.none, rfl, wpAny_pure h⟩
end
end L2
namespace Att
open PySem PySem.W PySem.Calls PyProof.Rows
theorem ints_of_wellAll {P : Params} {h : Heap} : ∀ (ns : List Int) (vs : List Value), WellAll P h vs (ns.map WData.int) → IntsAre vs ns := by
  intro ns
  induction ns with
  | nil =>
    intro vs w
    rw [List.map_nil] at w
    cases w
    exact .nil
  | cons n ns ih =>
    intro vs w
    rw [List.map_cons] at w
    cases w with
    | cons a b =>
      cases a
      exact .cons _ _ (ih _ b)
theorem script_of {l : OpenLaw} {n : Nat} (hn : l.most = some n) {P : Params} {h : Heap} {args : List WData} {vals : List Value}
    (hpre : l.row.toRowW.claim.pre args = true) (hwl : WellAll P h vals args) :
    ∃ a vs ns, vals = [Value.ref a] ∧ args = [WData.list (ns.map WData.int)] ∧ h.get? a = some { cls := .type "list", data := .seq vs.toArray } ∧ IntsAre vs ns ∧ ns.length ≤ n := by
  have hsh : WShape.hasAll [] args [.list .int] = true := (pre_splitW hpre).1
  have hc : l.pre.holds [] { args := args } = true := (pre_splitW hpre).2
  obtain ⟨d, r, rfl, h1, h2⟩ := hasAllW_cons hsh
  obtain rfl := hasAllW_nil h2
  obtain ⟨xs, rfl, h3⟩ := hasW_list h1
  obtain ⟨ns, rfl⟩ := items_int h3
  have hlen : ns.length ≤ n := by
    unfold OpenLaw.pre at hc
    have h4 : (WTm.not (.lt (.lit (.int (n : Int))) (.len (.arg 0)))).holds [] { args := [.list (ns.map .int)] } = true := by
      have h4 := (holds_andW hc).1
      rw [hn] at h4
      exact h4
    have h5 := condW_of h4 (w_not (w_lt w_lit (w_len_list (w_arg rfl))))
    rw [List.length_map] at h5
    refine Nat.le_of_not_lt fun q => ?_
    have q' : (n : Int) < ((ns.length : Nat) : Int) := by omega
    first
      | (rw [decide_eq_true q'] at h5; exact absurd h5 (by decide))
      | (simp at h5; omega)
  cases hwl with
  | cons w1 w2 =>
    cases w2
    cases w1 with
    | list ho hall => exact ⟨_, _, ns, rfl, rfl, ho, ints_of_wellAll ns _ hall, hlen⟩
theorem post_true (l : OpenLaw) (args : List WData) : l.row.toRowW.claim.post args (.bool true) args = true :=
  postW_of (r := l.row.toRowW) (X := (true == true))
    (show WShape.has [] (.bool true) .bool = true by first | rfl | decide | simp [WShape.has, WShape.arms, WShape.armsAll])
    (show (WTm.eq .res (.lit (.bool true))).value [] { args := args, res := some (.bool true), after := args } = some (.bool (true == true)) from w_eq_bool (w_res rfl) w_lit) rfl
theorem attach_call {l : OpenLaw} {n : Nat} {q : Program} {loose : List Str} {XP : (Str → Option Value) → Heap → Prop} {YP : World → Heap → Prop} {d : DefRec}
    (hn : l.most = some n) (hdf : d.params.defaults = [])
    (call : ∀ (w : World) (s₀ s₁ : Shared) (mg mb : Str → Option Value) (fa : Addr) (o : Obj) (pm cd doc : Value) (a : Addr) (vs : List Value) (ns : List Int),
      Ground q loose [] XP w s₀ mg mb s₁.heap → YP w s₁.heap →
      s₁.heap.get? fa = some o → o.data = .func (docDef d.name d.params d.body d.scope pm cd doc) → s₁.heap.CodeRec cd d.name → mg d.name = some (.ref fa) →
      s₁.heap.get? a = some { cls := .type "list", data := .seq vs.toArray } → IntsAre vs ns → ns.length ≤ n → s₁.gens = #[] →
      codeAny (model l.prog w) callerA (.call (.ref fa) ⟨[.ref a], []⟩) (fun r s' => r = .ok (.ret (.bool true)) ∧ OldK s₁.heap s'.heap ∧ s'.os = s₁.os ∧ AllBare s'.gens) s₁) :
    WalkO q loose XP YP l.row.toRowW d [] (fun f vs => PySem.call f vs) := by
  intro w s₀ s₁ mg mb G Y fa o pm cd doc dV kV ho hd hcd hD hmg hg args vals as hpre hlay hrd hwl hlo
  obtain rfl : dV = .none := Dflts.none hD hdf
  obtain rfl : kV = .none := Dflts.noKw hD
  obtain ⟨a, vs, ns, rfl, rfl, hobj, hints, hlen⟩ := script_of hn hpre hwl
  refine enter_call (codeAny_mono (call w s₀ s₁ mg mb fa o pm cd doc a vs ns G Y ho (fd_plain hd) hcd hmg hobj hints hlen hg) fun r s' hq => ?_)
  obtain ⟨rfl, h2, h3, h4⟩ := hq
  exact ⟨.inl ⟨.bool true, .bool true, [], rfl, fun _ => rfl, .bool true, post_true l _, fun _ => ⟨List.Pairwise.nil, fun _ hm => (nomatch hm)⟩⟩, h2, h3, h4⟩
end Att
namespace L2
open PySem PySem.Spec PyProof.Rows
theorem vals_ints : ∀ {vs : List Value} {ns : List Int}, IntsAre vs ns → Vals (ns.map V.int) vs
  | _, _, .nil => .nil
  | _, _, .cons n t h => .cons ⟨t, rfl⟩ (vals_ints h)
def Only (H : Hp) : Prop := ∀ b, H b = none ∨ ∃ o xs, H b = some (.frz o (.lst xs))
theorem law_call {P : Program} {w : World} {K : PySem.W.Frag} {mg mb : Str → Option Value} {CX : CXT} {k : Nat} {fa a : Addr} {fd : FuncData} {x : Str} {sp : Sp} {s₁ : Shared} {vs : List Value} {ns : List Int}
    (KX : K.In s₁.heap) (hns : s₁.heap.Ns mainGlobals mg) (hb : s₁.heap.Ns builtinsNs mb) (hbb : ∀ x : Str, x ≠ "__name__" → mb x = bootBuiltins x) (hlim : s₁.heap.NoLimit) (hg : s₁.gens = #[])
    (ha : s₁.heap.get? a = some { cls := .type "list", data := .seq vs.toArray }) (hi : IntsAre vs ns) (hl : ns.length ≤ sizeLine) (hr : Room k callerA)
    (F : ∀ base : Heap, K.In base → base.Ns mainGlobals mg → FnOk P w K mg base CX k fa fd [x] sp) (hbind : ∀ (s : Shared) (u : Value), BindsTo s fd ⟨[u], []⟩ [(x, u)])
    (hsp : ∀ H : Hp, Only H → SqL K H a (ns.map V.int) → sp [.ref a] H (fun v _ => v = .bl true) fun _ _ _ => False)
    (hCX : ∀ H e s', CX [] H s₁ (fun _ _ _ => False) e s' → False) :
    codeAny (model P w) callerA (.call (.ref fa) ⟨[.ref a], []⟩) (fun r s' => r = .ok (.ret (.bool true)) ∧ OldK s₁.heap s'.heap ∧ s'.os = s₁.os ∧ AllBare s'.gens) s₁ := by
  have rv := vals_ints hi
  have lenV := hi.length
  have core : ∀ H : Hp, Only H → SqL K H a (ns.map V.int) → HOk P w H s₁.heap → (∀ b, H b ≠ none → b = a) → (H a ≠ none → K.lookup a = none) →
      codeAny (model P w) callerA (.call (.ref fa) ⟨[.ref a], []⟩) (fun r s' => r = .ok (.ret (.bool true)) ∧ OldK s₁.heap s'.heap ∧ s'.os = s₁.os ∧ AllBare s'.gens) s₁ := by
    intro H hO hS hok hA hK
    have base_of : ∀ {b : Addr} {o : Obj}, s₁.heap.get? b = some o → H b = none → (hidT s₁.heap H).get? b = some o := fun e n => hidT_get e n
    have noA : ∀ {b : Addr} {o : Obj} {es : Array DictEntry} {ep : Nat}, s₁.heap.get? b = some o → o.data = .dict es ep → H b = none := fun {b o es ep} e d => by
      cases q : H b with
      | none => rfl
      | some u =>
        have e' : b = a := hA b (by rw [q]; simp)
        subst e'
        rw [ha] at e; cases e
        have d' : Data.seq vs.toArray _ = Data.dict es ep := d
        cases d'
    have nsK : ∀ {b : Addr} {m : Str → Option Value}, s₁.heap.Ns b m → (hidT s₁.heap H).Ns b m := fun {b m} ⟨o, es, ep, e, d, r⟩ => ⟨o, es, ep, base_of e (noA e d), d, r⟩
    have hKb : K.In (hidT s₁.heap H) := fun b o e => base_of (KX b o e) (by
      cases q : H b with
      | none => rfl
      | some u =>
        have e' : b = a := hA b (by rw [q]; simp)
        subst e'
        rw [hK (by rw [q]; simp)] at e; cases e)
    have hM : Mod K mg (hidT s₁.heap H) := ⟨hKb, nsK hns, ⟨mb, nsK hb, hbb⟩, let ⟨mc, h1, h2⟩ := hlim; ⟨mc, nsK h1, h2⟩⟩
    have e0 : Env0 P w K mg (hidT s₁.heap H) callerA [] s₁ H := ⟨rfl, hM, fun b o e => of_hidT e, Nat.le_of_eq (hidT_size _ _), trivial, fun b hb => absurd (show b ∈ ([] : List Addr) from hb) (by simp), hok, .of_eq hg⟩
    refine codeAny_mono ((F _ hKb (nsK hns)).run callerA [] s₁ H ⟨[.ref a], []⟩ [.ref a] [.ref a] _ _ hr e0 (hbind s₁ (.ref a)) (.cons rfl .nil) (hsp H hO hS)) fun r s' h => ?_
    cases r with
    | error e => exact (hCX H e s' h).elim
    | ok fl =>
      cases fl with
      | next => exact False.elim h
      | brk => exact False.elim h
      | cont => exact False.elim h
      | ret u =>
        obtain ⟨v, H', os, bare, un, hok', r', q⟩ := h
        have q' : v = .bl true := q
        subst q'
        obtain rfl : u = Value.bool true := r'
        refine ⟨rfl, OldK.of_keep fun b o e => ?_, os, bare⟩
        cases q : H b with
        | none => exact un.keep b o e q (by intro z; exact absurd (show b ∈ ([] : List Addr) from z) (by simp)) (by simp)
        | some u =>
          rcases hO b with z | ⟨ob, xs, z⟩
          · rw [q] at z; cases z
          · have z2 := un.frzs b ob _ z
            obtain ⟨e1, _⟩ := hok b _ z
            obtain ⟨e2, _⟩ := hok' b _ z2
            rw [e] at e1; cases e1
            exact e2
  cases hk : K.lookup a with
  | some o =>
    have e := KX a o hk
    rw [ha] at e
    cases e
    refine core (fun _ => none) (fun _ => .inl rfl) (.inr ⟨_, vs.toArray, _, hk, rfl, rfl, rfl, by rw [List.size_toArray, lenV]; exact hl, by simpa using rv⟩) (fun b u z => by have z' : (none : Option HO) = some u := z; cases z') (fun b z => absurd rfl z) fun z => absurd rfl z
  | none =>
    refine core (fun b => if b = a then some (.frz { cls := .type "list", data := .seq vs.toArray } (.lst (ns.map V.int))) else none) (fun b => ?_) (.inl (.inr ⟨{ cls := .type "list", data := .seq vs.toArray }, if_pos rfl⟩)) (fun b u z => ?_) (fun b z => ?_) fun _ => hk
    · by_cases hb : b = a
      · exact .inr ⟨_, _, if_pos hb⟩
      · exact .inl (if_neg hb)
    · by_cases hb : b = a
      · have z' := (if_pos hb).symm.trans z
        cases z'
        subst hb
        exact ⟨ha, by rw [List.length_map]; exact hl, vs, _, rv, ha⟩
      · have z' := (if_neg hb).symm.trans z
        cases z'
    · by_cases hb : b = a
      · exact hb
      · exact absurd (if_neg hb) z
abbrev KOf {K : PySem.W.Frag} {h : Heap} (_ : K.In h) : PySem.W.Frag := K
theorem walk_of {l : PySem.W.OpenLaw} {n k : Nat} {q : Program} {loose : List Str} {XP : (Str → Option Value) → Heap → Prop} {YP : World → Heap → Prop} {d : DefRec} {K : Params → PySem.W.Frag} {CX : World → CXT} {sp : World → Sp} {x : Str}
    (hn : l.most = some n) (hn2 : n ≤ sizeLine) (hdf : d.params.defaults = []) (hr : Room k callerA)
    (hY : ∀ (w : World) (h : Heap), YP w h → (K w.params).In h)
    (F : ∀ (w : World) (mg : Str → Option Value) (fa : Addr) (h : Heap), (K w.params).In h → h.Ns mainGlobals mg → mg d.name = some (.ref fa) →
      ∃ fd : FuncData, (∀ (s : Shared) (u : Value), BindsTo s fd ⟨[u], []⟩ [(x, u)]) ∧
        ∀ base : Heap, (K w.params).In base → base.Ns mainGlobals mg → FnOk l.prog w (K w.params) mg base (CX w) k fa fd [x] (sp w))
    (hsp : ∀ (w : World) (H : Hp) (a : Addr) (ns : List Int), ns.length ≤ n → Only H → SqL (K w.params) H a (ns.map V.int) → sp w [.ref a] H (fun v _ => v = .bl true) fun _ _ _ => False)
    (hCX : ∀ (w : World) (H : Hp) (s : Shared) (e : Value) (s' : Shared), CX w [] H s (fun _ _ _ => False) e s' → False) :
    PySem.W.WalkO q loose XP YP l.row.toRowW d [] (fun f vs => PySem.call f vs) := by
  refine Att.attach_call hn hdf fun w s₀ s₁ mg mb fa o pm cd doc a vs ns G Y ho hd hcd hmg hobj hints hlen hg => ?_
  have KX := hY w _ Y
  obtain ⟨fd, hb, hF⟩ := F w mg fa _ KX G.T.g hmg
  exact law_call KX G.T.g G.T.b G.T.builtins G.T.nolimit hg hobj hints (Nat.le_trans hlen hn2) hr hF hb (fun H hO hS => hsp w H a ns hlen hO hS) fun H e s' => hCX w H s₁ e s'
theorem walk_ofK {l : PySem.W.OpenLaw} {n k : Nat} {q : Program} {loose : List Str} {XP : (Str → Option Value) → Heap → Prop} {YP : World → Heap → Prop} {d : DefRec} {K : Params → PySem.W.Frag} {CX : CXT} {sp : PySem.W.Frag → Sp} {x : Str}
    (hn : l.most = some n) (hn2 : n ≤ sizeLine) (hdf : d.params.defaults = []) (hr : Room k callerA)
    (hY : ∀ (w : World) (h : Heap), YP w h → (K w.params).In h)
    (F : ∀ (w : World) (mg : Str → Option Value) (fa : Addr) (h : Heap), (K w.params).In h → h.Ns mainGlobals mg → mg d.name = some (.ref fa) →
      ∃ fd : FuncData, (∀ (s : Shared) (u : Value), BindsTo s fd ⟨[u], []⟩ [(x, u)]) ∧
        ∀ base : Heap, (K w.params).In base → base.Ns mainGlobals mg → FnOk l.prog w (K w.params) mg base CX k fa fd [x] (sp (K w.params)))
    (hsp : ∀ (K : PySem.W.Frag) (H : Hp) (a : Addr) (ns : List Int), ns.length ≤ n → Only H → SqL K H a (ns.map V.int) → sp K [.ref a] H (fun v _ => v = .bl true) fun _ _ _ => False)
    (hCX : ∀ (H : Hp) (s : Shared) (e : Value) (s' : Shared), CX [] H s (fun _ _ _ => False) e s' → False) :
    PySem.W.WalkO q loose XP YP l.row.toRowW d [] (fun f vs => PySem.call f vs) :=
  walk_of (K := K) (CX := fun _ => CX) (sp := fun w => sp (K w.params)) hn hn2 hdf hr hY F (fun w H a ns h1 h2 h3 => hsp (K w.params) H a ns h1 h2 h3) fun _ H s e s' => hCX H s e s'
def inClass (s : Stmt) (j : Nat) : Stmt := match s with
  | .ClassDef _ _ _ body _ _ _ _ _ _ _ => body.getD j (.Pass ⟨0, 0, 0, 0⟩)
  | _ => .Pass ⟨0, 0, 0, 0⟩
def defArgs (s : Stmt) : Arguments := match s with
  | .FunctionDef _ a _ _ _ _ _ _ _ _ => a
  | _ => { posonlyargs := [], args := [], vararg := none, kwonlyargs := [], kw_defaults := [], kwarg := none, defaults := [] }
def defBody (s : Stmt) : List Stmt := match s with
  | .FunctionDef _ _ b _ _ _ _ _ _ _ => b
  | _ => []
def defScope (s : Stmt) : Scope := match s with
  | .FunctionDef _ _ _ _ _ _ sc _ _ _ => sc
  | _ => { kind := .function, names := [], isGenerator := false, isCoroutine := false }
abbrev CX0 : CXT := fun _ _ _ _ _ _ => False
abbrev E0 : XK := fun _ _ _ => False
theorem pass0 {X : Cx} : Passes CX0 X E0 := fun _ _ _ _ _ _ _ h => h.elim
structure Fun (K : PySem.W.Frag) (x qual : Str) (st : Stmt) (f : Addr) (fd : FuncData) : Prop where
  ex : ∃ (oc : Value) (od : Option Addr) (kV doc pm : Value) (an : Option Addr) (cdv ct : Value) (osl : Array (Option Value)),
    fd = PySem.W.fnOf x qual (defArgs st) (defBody st) (defScope st) .none kV doc pm an cdv ct ∧ K.lookup f = some ⟨oc, od, .func fd, osl⟩ ∧ PySem.W.codeIn K cdv qual = true
  kp : PySem.W.keepIn K (.ref f) = true
section
variable {P : Program} {w : World} {K : PySem.W.Frag} {mg : Str → Option Value} {base : Heap}
theorem Fun.ok {x qual : Str} {st : Stmt} {f : Addr} {fd : FuncData} {N ps : List Str} {k : Nat} {sp : Sp} (F : Fun K x qual st f fd) (S : FnScope N ps (defScope st)) (len : ∀ vs H Q E, sp vs H Q E → vs.length = ps.length)
    (hbody : ∀ (cdv : Value) (A : Around) (outer : List Env) (s : Shared) (H : Hp) (vs : List V) (Q : VK) (E : XK), Room k (A.deeper (envOfC qual (defScope st) s.heap.objs.size f cdv)) → sp vs H Q E →
      ∃ t, PSs (cxOf CX0 P w K mg base N qual (defScope st) f cdv A outer s H E).nox (defBody st) t ∧ t { nx := fun _ H' => Q .non H', rt := Q } (start N vs) H) : FnOk P w K mg base CX0 (k + 1) f fd ps sp := by
  obtain ⟨oc, od, kV, doc, pm, an, cdv, ct, osl, rfl, lk, hcd⟩ := F.ex
  refine fn_of lk hcd S len fun A outer s H vs Q E hr hsp => ?_
  obtain ⟨t, h, q⟩ := hbody cdv A outer s H vs Q E hr hsp
  exact ⟨t, h.nox, q⟩
theorem Fun.binds {x qual : Str} {st : Stmt} {f : Addr} {fd : FuncData} {ps : List Str} (F : Fun K x qual st f fd)
    (h : ∀ (kV doc pm : Value) (an : Option Addr) (cdv ct : Value) (us : List Value), us.length = ps.length → bindArgs (PySem.W.fnOf x qual (defArgs st) (defBody st) (defScope st) .none kV doc pm an cdv ct) ⟨us, []⟩ = pure (ps.zip us)) : Binds K fd ps [] := by
  obtain ⟨oc, od, kV, doc, pm, an, cdv, ct, osl, rfl, lk, hcd⟩ := F.ex
  exact .all (h kV doc pm an cdv ct)
theorem fun_mk {x qual : Str} {st : Stmt} {f : Addr} {oc : Value} {od an : Option Addr} {osl : Array (Option Value)} {kV doc pm cdv ct : Value} (l : K.lookup f = some ⟨oc, od, .func (PySem.W.fnOf x qual (defArgs st) (defBody st) (defScope st) .none kV doc pm an cdv ct), osl⟩)
    (c : PySem.W.codeIn K cdv qual = true) (k : PySem.W.keepIn K (.ref f) = true) : Fun K x qual st f (PySem.W.fnOf x qual (defArgs st) (defBody st) (defScope st) .none kV doc pm an cdv ct) := ⟨⟨oc, od, kV, doc, pm, an, cdv, ct, osl, rfl, l, c⟩, k⟩
end
theorem small1000 {n : Nat} (h : n ≤ 1000) : n < sizeLine := Nat.lt_of_le_of_lt h (by decide)
section
variable {X : Cx}
theorem pv (i : Nat) {x : Str} {pos : Pos} (hN : X.N[i]? = some x := by rfl) (hv : Vis X.env.scope x := by first | exact Or.inl rfl | exact Or.inr (Or.inl rfl) | exact Or.inr (Or.inr rfl)) (hd : (x == ("__debug__" : Str)) = false := by decide)
    (hcd : (x == ("__classdict__" : Str)) = false := by decide) : PE X (.Name x pos) (tVar i) := pe_var hN hv hd hcd
end
theorem iteF {A B : Prop} (h : B) : if false = true then A else B := by
  rw [if_neg Bool.false_ne_true]
  exact h
theorem iteT {A B : Prop} (h : A) : if true = true then A else B := by
  rw [if_pos rfl]
  exact h
theorem ite2 {c A B : Prop} [Decidable c] (h1 : c → A) (h2 : ¬ c → B) : if c then A else B := by
  by_cases h : c
  · rw [if_pos h]
    exact h1 h
  · rw [if_neg h]
    exact h2 h
def Same (H H' : Hp) : Prop := ∀ b o, H b = some o → H' b = some o
theorem Same.refl (H : Hp) : Same H H := fun _ _ h => h
theorem Same.trans {H H1 H2 : Hp} (a : Same H H1) (b : Same H1 H2) : Same H H2 := fun c o h => b c o (a c o h)
theorem Same.free {H H' : Hp} (e : Same H H') {l : Addr} (h : H' l = Option.none) : H l = Option.none := by
  cases q : H l with
  | none => rfl
  | some o =>
    rw [e l o q] at h
    cases h
theorem Same.seq {K : PySem.W.Frag} {H H' : Hp} {a : Addr} {xs : List V} (e : Same H H') (h : SqL K H a xs) : SqL K H' a xs := by
  rcases h with (h | ⟨o, h⟩) | h
  · exact .inl (.inl (e _ _ h))
  · exact .inl (.inr ⟨o, e _ _ h⟩)
  · exact .inr h
theorem closure_go (env : Env) : ∀ (names : List (Str × NameKind)) (cs : List (Str × Addr)),
    (∀ p ∈ names, p.2 = .free → ∃ c, env.cells.lookup p.1 = some c) → (∀ x c, cs.lookup x = some c → env.cells.lookup x = some c) →
    ∃ cl : List (Str × Addr), (forIn names cs fun (p : Str × NameKind) (r : List (Str × Addr)) => (if (p.2 == NameKind.free) = true then (do let c ← cellOf env p.1; pure (ForInStep.yield ((p.1, c) :: r))) else pure (ForInStep.yield r) : Sem (ForInStep (List (Str × Addr))))) = (pure cl : Sem (List (Str × Addr))) ∧
      (∀ x c, cl.lookup x = some c → env.cells.lookup x = some c) ∧ (∀ x, (cs.lookup x).isSome = true → (cl.lookup x).isSome = true) ∧ (∀ p ∈ names, p.2 = .free → (cl.lookup p.1).isSome = true)
  | [], cs, _, h2 => ⟨cs, rfl, h2, fun _ h => h, fun _ h => nomatch h⟩
  | (n, k) :: r, cs, h1, h2 => by
    have h1' : ∀ p ∈ r, p.2 = .free → ∃ c, env.cells.lookup p.1 = some c := fun p hp => h1 p (List.mem_cons_of_mem _ hp)
    by_cases hk : (k == NameKind.free) = true
    · have hk' : k = .free := by simpa using hk
      obtain ⟨c, hc⟩ := h1 (n, k) List.mem_cons_self hk'
      have h2' : ∀ x c', ((n, c) :: cs).lookup x = some c' → env.cells.lookup x = some c' := fun x c' e => by
        rw [List.lookup_cons] at e
        cases hx : x == n with
        | true =>
          rw [hx] at e
          have e1 : x = n := by simpa using hx
          rw [e1, hc]; exact e
        | false => rw [hx] at e; exact h2 x c' e
      obtain ⟨cl, e1, e2, e3, e4⟩ := closure_go env r ((n, c) :: cs) h1' h2'
      have hn : (((n, c) :: cs).lookup n).isSome = true := by rw [List.lookup_cons, beq_self_eq_true]; rfl
      refine ⟨cl, ?_, e2, fun x hx => e3 x ?_, fun p hp hf => ?_⟩
      · rw [List.forIn_cons]
        have q : cellOf env n = pure c := by unfold cellOf; rw [hc]
        simp only [hk, if_true, q]
        exact e1
      · rw [List.lookup_cons]
        cases x == n with
        | true => rfl
        | false => exact hx
      · rcases List.mem_cons.mp hp with e | hp
        · rw [e]; exact e3 n hn
        · exact e4 p hp hf
    · obtain ⟨cl, e1, e2, e3, e4⟩ := closure_go env r cs h1' h2
      refine ⟨cl, ?_, e2, e3, fun p hp hf => ?_⟩
      · rw [List.forIn_cons]
        have hkf : (k == NameKind.free) = false := by simpa using hk
        simp only [hkf, Bool.false_eq_true, if_false]
        exact e1
      · rcases List.mem_cons.mp hp with e | hp
        · rw [e] at hf; exact absurd (by simpa using hf) hk
        · exact e4 p hp hf
theorem closure_of {scope : Scope} {env : Env} (h : ∀ p ∈ scope.names, p.2 = .free → ∃ c, env.cells.lookup p.1 = some c) :
    ∃ cl, closureFor scope env = pure cl ∧ (∀ x c, cl.lookup x = some c → env.cells.lookup x = some c) ∧ (∀ p ∈ scope.names, p.2 = .free → ∃ c, cl.lookup p.1 = some c) := by
  obtain ⟨cl, e1, e2, _, e4⟩ := closure_go env scope.names [] h (fun x c e => by simp at e)
  refine ⟨cl, ?_, e2, fun p hp hf => Option.isSome_iff_exists.mp (e4 p hp hf)⟩
  have q : closureFor scope env = (forIn scope.names [] fun (p : Str × NameKind) (r : List (Str × Addr)) => (if (p.2 == NameKind.free) = true then (do let c ← cellOf env p.1; pure (ForInStep.yield ((p.1, c) :: r))) else pure (ForInStep.yield r) : Sem (ForInStep (List (Str × Addr))))) >>= pure := by
    unfold closureFor
    rfl
  rw [q, e1]
  rfl
theorem relabel_free {env : Env} : ∀ {names : List (Str × NameKind)} {x : Str}, (∀ y ∈ names, y.2 ≠ .cell) →
    ((names.map fun (n, k) => if (k == NameKind.free && env.scope.kind == .function && env.kindOf n == some .cell) then (n, NameKind.cell) else (n, k)).lookup x = some .cell ∨
     (names.map fun (n, k) => if (k == NameKind.free && env.scope.kind == .function && env.kindOf n == some .cell) then (n, NameKind.cell) else (n, k)).lookup x = some .free) → (x, NameKind.free) ∈ names
  | [], _, _, h => by simp at h
  | (n, k) :: r, x, hc, h => by
    have ih := @relabel_free env r x (fun y hy => hc y (List.mem_cons_of_mem _ hy))
    simp only [List.map_cons] at h
    cases hx : x == n with
    | true =>
      have e : x = n := by simpa using hx
      subst e
      by_cases hh : (k == NameKind.free && env.scope.kind == .function && env.kindOf x == some .cell) = true
      · have : k = .free := by
          simp only [Bool.and_eq_true] at hh
          simpa using hh.1.1
        subst this
        exact List.mem_cons_self
      · rw [if_neg hh] at h
        simp only [List.lookup_cons, hx] at h
        rcases h with h | h
        · have : k = .cell := Option.some.inj h
          exact absurd this (hc (x, k) List.mem_cons_self)
        · have : k = .free := Option.some.inj h
          subst this
          exact List.mem_cons_self
    | false =>
      refine List.mem_cons_of_mem _ (ih ?_)
      by_cases hh : (k == NameKind.free && env.scope.kind == .function && env.kindOf n == some .cell) = true
      · rw [if_pos hh] at h
        simpa only [List.lookup_cons, hx] using h
      · rw [if_neg hh] at h
        simpa only [List.lookup_cons, hx] using h
theorem relabel_kind {env : Env} : ∀ {names : List (Str × NameKind)} {x : Str}, names.lookup x = some .free →
    ((names.map fun (n, k) => if (k == NameKind.free && env.scope.kind == .function && env.kindOf n == some .cell) then (n, NameKind.cell) else (n, k)).lookup x = some .cell ∨
     (names.map fun (n, k) => if (k == NameKind.free && env.scope.kind == .function && env.kindOf n == some .cell) then (n, NameKind.cell) else (n, k)).lookup x = some .free)
  | [], _, h => by simp at h
  | (n, k) :: r, x, h => by
    have ih := @relabel_kind env r x
    simp only [List.map_cons]
    cases hx : x == n with
    | true =>
      simp only [List.lookup_cons, hx] at h
      have e : k = .free := Option.some.inj h
      subst e
      by_cases hh : (NameKind.free == NameKind.free && env.scope.kind == .function && env.kindOf n == some .cell) = true
      · rw [if_pos hh]; left; simp only [List.lookup_cons, hx]
      · rw [if_neg hh]; right; simp only [List.lookup_cons, hx]
    | false =>
      simp only [List.lookup_cons, hx] at h
      by_cases hh : (k == NameKind.free && env.scope.kind == .function && env.kindOf n == some .cell) = true
      · rw [if_pos hh]; simpa only [List.lookup_cons, hx] using ih h
      · rw [if_neg hh]; simpa only [List.lookup_cons, hx] using ih h
def cxB (X : Cx) (scope : Scope) (tn : List Str) (cp : List (Nat × Str)) (cl : List (Str × Addr)) (C : Addr) (s : Shared) (H : Hp) (fp : List Addr) : Cx :=
  { X with N := tn ++ cp.map (·.2), s₀ := s, H₀ := H, env := compEnvC scope cl C X.env, outer := X.stack, ex := fp, fn := fun _ => false, pn := [], xe := fun _ _ => False }
def stB (tn : List Str) (cp : List (Nat × Str)) (σ : St) : St := List.replicate tn.length none ++ cp.map fun p => (σ[p.1]?).getD none
structure CompOk (X : Cx) (scope : Scope) (cp : List (Nat × Str)) : Prop where
  kind : scope.kind = .function
  nocell : ∀ y ∈ scope.names, y.2 ≠ .cell
  names : ∀ y ∈ scope.names, y.2 = .local → scope.names.lookup y.1 = some .local
  free : ∀ y ∈ scope.names, y.2 = .free → X.env.kindOf y.1 = some .cell ∨ X.env.kindOf y.1 = some .free
  cap : ∀ p ∈ cp, X.N[p.1]? = some p.2 ∧ scope.names.lookup p.2 = some .free
section
variable {X : Cx} {pins : List (Addr × Obj)} {σ : St} {H : Hp} {s : Shared} {scope : Scope} {tn : List Str} {cp : List (Nat × Str)} {cl : List (Str × Addr)} {fp : List Addr}
theorem mem_of_lookup' {α : Type} : ∀ {l : List (Str × α)} {x : Str} {v : α}, l.lookup x = some v → (x, v) ∈ l
  | [], _, _, h => by simp at h
  | (n, k) :: r, x, v, h => by
    rw [List.lookup_cons] at h
    cases hx : x == n with
    | true =>
      rw [hx] at h
      have e : x = n := by simpa using hx
      have e2 : k = v := Option.some.inj h
      subst e e2
      exact List.mem_cons_self
    | false => rw [hx] at h; exact List.mem_cons_of_mem _ (mem_of_lookup' h)
theorem block_start {h₁ : Heap} {t' : Nat} {m0 : Str → Option Value} (I : Inv X pins σ H s) (O : CompOk X scope cp) (hcl1 : ∀ x c, cl.lookup x = some c → X.env.cells.lookup x = some c) (hcl2 : ∀ p ∈ scope.names, p.2 = .free → ∃ c, cl.lookup p.1 = some c)
    (hf : ∀ b ∈ fp, FpOk X pins H b ∧ b < s.heap.objs.size) (hns : h₁.Ns s.heap.objs.size m0) (hk : ∀ b o, s.heap.get? b = some o → h₁.get? b = some o) :
    Inv (cxB X scope tn cp cl s.heap.objs.size s H fp) [] (stB tn cp σ) H { s with heap := h₁, toks := t' } := by
  have ok : (cxB X scope tn cp cl s.heap.objs.size s H fp).Ok := by
    refine ⟨I.ok.mod, O.kind, I.ok.glob, I.ok.blt, Nat.le_refl _, fun x y c e1 e2 => I.ok.inj x y c (hcl1 x c e1) (hcl1 y c e2), fun x hx => ?_, fun x c hx => (by cases hx), I.ok.hd, I.ok.frames, .inl rfl, fun b hb => ⟨Nat.ne_of_lt (hf b hb).2, fun x c e => ?_⟩,
      fun b o e => I.bs b o e, Nat.le_trans I.ok.bsz I.sz, fun b o e hb => ?_, fun b hb hb' => ?_, I.stack, I.stkFree⟩
    · exact hcl2 (x, .free) (relabel_free O.nocell hx) rfl
    · exact (hf b hb).1.2.2.2.2.1 x c (hcl1 x c e)
    · rcases (hf b hb).1.2.2.2.1 with z | z
      · exact I.ok.noex b o e z
      · exact absurd (Nat.lt_of_lt_of_le (Heap.lt_size e) (Nat.le_trans I.ok.bsz z)) (Nat.lt_irrefl _)
    · rcases List.mem_cons.mp (I.stkSub b hb') with z | z
      · exact (hf b hb).1.2.1 z
      · exact (hf b hb).1.2.2.1 z
  refine ⟨ok, rfl, I.bare, Un.kept hk, ⟨m0, hns, fun i x v e1 e2 e3 => ?_⟩, fun x c e => ?_, I.hok.fresh (Nat.le_refl _), fun x c e => I.freeC x c (hcl1 x c e), fun p hp => by simp [cxB] at hp, I.hok.kept hk, ?_⟩
  · -- a captured name
    have e1' : (tn ++ cp.map (·.2))[i]? = some x := e1
    have e2' : (List.replicate tn.length none ++ cp.map fun p => (σ[p.1]?).getD none)[i]? = some (some v) := e2
    by_cases hi : i < tn.length
    · rw [List.getElem?_append_left (by simpa using hi)] at e2'
      rw [List.getElem?_replicate, if_pos hi] at e2'
      cases e2'
    · rw [List.getElem?_append_right (by simpa using Nat.le_of_not_lt hi), List.length_replicate, List.getElem?_map] at e2'
      rw [List.getElem?_append_right (Nat.le_of_not_lt hi), List.getElem?_map] at e1'
      cases hp : cp[i - tn.length]? with
      | none => rw [hp] at e1'; cases e1'
      | some p =>
        rw [hp] at e1' e2'
        have e1'' : p.2 = x := Option.some.inj e1'
        have e2'' : (σ[p.1]?).getD none = some v := Option.some.inj e2'
        obtain ⟨c1, c2⟩ := O.cap p (List.mem_of_getElem? hp)
        rw [e1''] at c1 c2
        have hs : σ[p.1]? = some (some v) := by
          cases q : σ[p.1]? with
          | none => rw [q] at e2''; cases e2''
          | some z => rw [q] at e2''; exact congrArg some e2''
        have hk' := O.free (x, .free) (mem_of_lookup' c2) rfl
        have hvis : Vis X.env.scope x := by
          rcases hk' with z | z
          · exact .inr (.inl z)
          · exact .inr (.inr z)
        obtain ⟨m, hn, hl⟩ := I.loc
        obtain ⟨u, r, l⟩ := hl p.1 x v c1 hs hvis
        refine ⟨u, r, .inr ?_⟩
        rcases l with ⟨z, _⟩ | ⟨_, c, hc, o, ho, hd⟩
        · rcases hk' with y | y <;> (rw [z] at y; cases y)
        · obtain ⟨c', hc'⟩ := hcl2 (x, .free) (mem_of_lookup' c2) rfl
          have : c' = c := Option.some.inj ((hcl1 x c' hc').symm.trans hc)
          subst this
          exact ⟨relabel_kind c2, c', hc', o, hk c' o ho, hd⟩
  · obtain ⟨v, o, ho, hd⟩ := I.cell x c (hcl1 x c e)
    exact ⟨v, o, hk c o ho, hd⟩
  · show (stB tn cp σ).length = (tn ++ cp.map (·.2)).length
    unfold stB
    simp
theorem block_end {σ' : St} {H' : Hp} {s' : Shared} {h' : Heap} {pinsB : List (Addr × Obj)} (I : Inv X pins σ H s) (hf : ∀ b ∈ fp, FpOk X pins H b)
    (J : Inv (cxB X scope tn cp cl s.heap.objs.size s H fp) pinsB σ' H' s') (hs : Heap.SameBut s.heap.objs.size s'.heap h') : Inv X pins σ H' { s' with heap := h' } := by
  have ne : ∀ b o, s.heap.get? b = some o → b ≠ s.heap.objs.size := fun b o e => Nat.ne_of_lt (Heap.lt_size e)
  have U : Un (frs X.stack) fp H H' s.heap h' := by
    have u : Un (frs X.stack) fp H H' s.heap s'.heap := J.base
    refine ⟨fun b o e n h1 h2 => (hs.2 b (ne b o e)).trans (u.keep b o e n h1 h2), fun b o e n h1 h2 => ?_, u.free, fun b o e h2 => ?_, u.tups, u.frzs, u.tbls⟩
    · obtain ⟨sl, q⟩ := u.slot b o e n h1 h2
      exact ⟨sl, (hs.2 b (ne b o e)).trans q⟩
    · obtain ⟨o', q⟩ := u.there b o e h2
      exact ⟨o', (hs.2 b (ne b o e)).trans q⟩
  have fr : H' s.heap.objs.size = none := J.free
  have hok : HOk X.prog X.w H' h' := fun b ob e => by
    refine (J.hok b ob e).stay (fun c v hc q => (hs.2 c ?_).trans q) (fun _ q => q) (fun _ _ _ _ _ q => q) fun _ _ q => q
    rintro rfl
    rcases hc with z | z
    · rw [← z, fr] at e; cases e
    · rw [fr] at z; cases z
  refine I.call' (s' := { s' with heap := h' }) (ch := fp) J.os U hok J.bare fun b hb => ?_
  obtain ⟨_, f1, _, f3, f4, f5⟩ := hf b hb
  exact ⟨f3, f1, f4, f5⟩
end
def PIfs (X : Cx) (ifs : List Expr) (t : TT) : Prop :=
  ∀ (pins : List (Addr × Obj)) (s : Shared) (σ : St) (H : Hp) (Q : Bool → Hp → Prop), Inv X pins σ H s → t σ H Q →
    wpAny (model X.prog X.w) X.A (forIn ifs true fun c r => if r = true then do let ok ← isTrue c X.env (eval c X.env); pure (ForInStep.yield ok) else pure (ForInStep.yield r)) (TP X pins σ Q) X.xe s
def tYes : TT := fun _ H Q => Q true H
theorem pf_nil {X : Cx} : PIfs X [] tYes := fun _ _ _ H _ I h => wpAny_tests_nil ⟨H, I, h⟩
theorem pf_one {X : Cx} {c : Expr} {t : TT} (h : PT X c t) : PIfs X [c] t := fun pins s σ H Q I hw => wpAny_tests_one (h pins s σ H Q I hw)
theorem compLoop_own {prog : Program} {w : World} {A : Around} {R : Result → Shared → Prop} {s : Shared} {elt target iter : Expr} {ifs : List Expr} {scope : Scope} {pos : Pos} {it acc : Value} {env : Env} (I : Nat → Shared → Prop)
    (turn : ∀ n s, I n s → wpAny (model prog w) A (pyNext it) (fun r s₁ => match r with
      | none => R (.ok .next) s₁
      | some v => wpAny (model prog w) A (letOwnedTupleGo target it v) (fun _ s₂ => wpAny (model prog w) A (assign target env v) (fun _ s₃ =>
          wpAny (model prog w) A (forIn ifs true fun c r => if r = true then do let ok ← isTrue c env (eval c env); pure (ForInStep.yield ok) else pure (ForInStep.yield r)) (fun ok s₄ =>
            if ok = true then wpAny (model prog w) A (eval elt env) (fun x s₅ =>
              wpAny (model prog w) A (call (.builtin "list.append") [acc, x]) (fun _ s₆ => ∃ m, m < n ∧ I m s₆) (fun _ _ => False) s₅) (fun _ _ => False) s₄
            else ∃ m, m < n ∧ I m s₄) (fun _ _ => False) s₃) (fun _ _ => False) s₂) (fun _ _ => False) s₁) (fun _ _ => False) s)
    (n : Nat) (h : I n s) :
    codeAny (model prog w) A (.compLoop (.ListComp elt [⟨target, iter, ifs, 0⟩] scope pos) 0 it acc env) R s := by
  refine codeAny_loop rfl I (fun n s hI => ?_) n h
  show wpAny _ A ((compTurn (.ListComp elt [⟨target, iter, ifs, 0⟩] scope pos) 0 it acc env).onRaise (fun x => do noteFrame x env; theTreesLotGoes x)) _ _ s
  refine wpAny_noted ?_
  rw [compTurn_list]
  refine wpAny_bind (wpAny_standAt (wpAny_bind (wpAny_mono (turn n s hI) (fun r s₁ h₁ => ?_) fun _ _ f => f.elim)))
  cases r with
  | none => exact wpAny_pure h₁
  | some v =>
    refine wpAny_bind (wpAny_mono h₁ (fun _ s₂ h₂ => ?_) fun _ _ f => f.elim)
    refine wpAny_bind (wpAny_mono h₂ (fun _ s₃ h₃ => wpAny_bind (wpAny_mono h₃ (fun ok s₄ h₄ => ?_) fun _ _ f => f.elim)) fun _ _ f => f.elim)
    cases ok with
    | false => exact wpAny_pure ⟨rfl, h₄⟩
    | true =>
      exact wpAny_bind (wpAny_bind (wpAny_mono h₄ (fun x s₅ h₅ => wpAny_bind (wpAny_mono h₅ (fun _ s₆ h₆ => wpAny_pure (wpAny_pure ⟨rfl, h₆⟩)) fun _ _ f => f.elim)) fun _ _ f => f.elim))
def tComp (tn : List Str) (cp : List (Nat × Str)) (wi : TI) (g : TG) (tif : TT) (te : TE) : TE := fun σ H Q => wi σ H fun J H1 => ∀ D, H1 D = none → ∃ W : Nat → Nat → St → Hp → Prop,
  (∃ m, W 0 m (stB tn cp σ) (upd H1 D (.lst []))) ∧ ∀ i m σb Hb, W i m σb Hb →
    (J.stop i Hb ∧ Q (.ref D) Hb) ∨ (J.go i Hb ∧ ∀ x H', J.yld i Hb x H' → g x σb H' fun σ2 H2 => tif σ2 H2 fun c H3 =>
      if c = true then te σ2 H3 fun y H4 => ∃ ys, H4 D = some (.lst ys) ∧ ys.length < sizeLine ∧ ∃ m', m' < m ∧ W (i + 1) m' σ2 (upd H4 D (.lst (ys ++ [y])))
      else ∃ m', m' < m ∧ W (i + 1) m' σ2 H3)
theorem lcomp_core {X : Cx} {elt tg iter : Expr} {ifs : List Expr} {scope : Scope} {pos cpos : Pos} {wi : TI} {g : TG} {tif : TT} {te : TE} (tn : List Str) (cp : List (Nat × Str)) (O : CompOk X scope cp) (hc : X.calm = true) (hi : PI X tg iter wi)
    (hg : ∀ cl C s H fp, PG (cxB X scope tn cp cl C s H fp) tg g) (hif : ∀ cl C s H fp, PIfs (cxB X scope tn cp cl C s H fp) ifs tif) (he : ∀ cl C s H fp, PE (cxB X scope tn cp cl C s H fp) elt te)
    (hs : ∀ x, foldedSetIterable iter X.env x = pure x) {pins : List (Addr × Obj)} {s : Shared} {σ : St} {H : Hp} {Q : VK} {R : Value → Shared → Prop} {use : Option (Value → Sem Unit)} (I : Inv X pins σ H s) (h : tComp tn cp wi g tif te σ H Q)
    (fin : ∀ (D C : Addr) (H5 : Hp) (s5 : Shared) (m : Str → Option Value), Inv X pins σ H5 s5 → FpOk X pins H5 C → s5.heap.Ns C m → Q (.ref D) H5 → compPost (model X.prog X.w) X.A X.xe use R (.ref D) C (.ok .next) s5) :
    wpAny (model X.prog X.w) X.A (comprehension (.ListComp elt [⟨tg, iter, ifs, 0⟩] scope pos) scope X.env cpos (newList []) false (eval iter X.env) use) R X.xe s := by
  obtain ⟨cl, hcl, hcl1, hcl2⟩ := closure_of (scope := scope) (env := X.env) fun p hp hf => I.ok.has p.1 (O.free p hp hf)
  refine wpAny_comprehension_free (use := use) rfl hs hcl O.kind O.names (thn (hi pins s σ H _ I h) fun v s1 h1 => thn h1 fun itv s2 h2 => ?_)
  obtain ⟨it, fp, tn', J, H2, rfl, I2, T, st2, f2, rest⟩ := h2
  refine wpAny_newObj_type ?_
  have I3 : Inv X pins σ (upd H2 s2.heap.objs.size (.lst [])) { s2 with heap := s2.heap.push { cls := .type "list", data := .seq ([] : List Value).toArray } } := I2.lnew (its := []) (t' := s2.toks) .nil (Nat.zero_le _)
  obtain ⟨W, ⟨m0, w0⟩, turn⟩ := rest s2.heap.objs.size I2.fresh
  have fpl : ∀ b ∈ fp, b < s2.heap.objs.size := fun b hb => by
    obtain ⟨o, e, _⟩ := T.obj _ _ st2 b hb
    exact Heap.lt_size e
  have f3 : ∀ b ∈ fp, FpOk X pins (upd H2 s2.heap.objs.size (.lst [])) b := fun b hb => ⟨by rw [upd_ne (Nat.ne_of_lt (fpl b hb))]; exact (f2 b hb).1, (f2 b hb).2⟩
  have sz3 : (s2.heap.push { cls := .type "list", data := .seq ([] : List Value).toArray }).objs.size = s2.heap.objs.size + 1 := Heap.size_push ..
  refine wpAny_newFunctionEnv O.nocell (by intro y hy; simp at hy) (fun h₁ hns hsb => ?_) O.kind
  have hk1 : ∀ b o, (s2.heap.push { cls := .type "list", data := .seq ([] : List Value).toArray }).get? b = some o → h₁.get? b = some o := fun b o e =>
    hsb.extBut b o (Nat.ne_of_lt (Heap.lt_size e)) (Heap.get?_push_of_some _ e)
  have J3 := block_start (tn := tn) (cp := cp) (t' := s2.toks + ([] : List (Str × Value)).length) I3 O hcl1 hcl2 (fun b hb => ⟨f3 b hb, by rw [sz3]; exact Nat.lt_succ_of_lt (fpl b hb)⟩) hns hk1
  have st3 : tn' 0 h₁ := T.keep _ _ _ st2 fun b hb o e => hk1 b o (Heap.get?_push_of_some _ e)
  show codeAny _ _ (.compStart _ 0 (.ref it) (.ref s2.heap.objs.size) (compEnvC scope cl (s2.heap.push { cls := .type "list", data := .seq ([] : List Value).toArray }).objs.size X.env)) _ _
  generalize hXB : cxB X scope tn cp cl (s2.heap.push { cls := .type "list", data := .seq ([] : List Value).toArray }).objs.size { s2 with heap := s2.heap.push { cls := .type "list", data := .seq ([] : List Value).toArray } } (upd H2 s2.heap.objs.size (.lst [])) fp = XB at J3
  have hprog : XB.prog = X.prog := by rw [← hXB]; rfl
  have hw : XB.w = X.w := by rw [← hXB]; rfl
  have hK : XB.K = X.K := by rw [← hXB]; rfl
  have hA : XB.A = X.A := by rw [← hXB]; rfl
  have henv : XB.env = compEnvC scope cl (s2.heap.push { cls := .type "list", data := .seq ([] : List Value).toArray }).objs.size X.env := by rw [← hXB]; rfl
  have hcalm : XB.calm = true := by rw [← hXB]; exact hc
  have hxe : XB.xe = fun _ _ => False := by rw [← hXB]; rfl
  have hgB : PG XB tg g := by rw [← hXB]; exact hg _ _ _ _ _
  have hifB : PIfs XB ifs tif := by rw [← hXB]; exact hif _ _ _ _ _
  have heB : PE XB elt te := by rw [← hXB]; exact he _ _ _ _ _
  have fB : ∀ (pb : List (Addr × Obj)) (Hb : Hp), (∀ b ∈ fp, Hb b = none) → (∀ b ∈ fp, ∀ p ∈ XB.pn ++ pb, p.1 ≠ b) → ∀ b ∈ fp, FpOk XB pb Hb b := fun pb Hb hn hp b hb => by
    refine ⟨hn b hb, ?_, ?_, .inl (by rw [← hXB]; exact hb), fun x c e => ?_, hp b hb⟩
    · rw [henv]; show b ≠ (s2.heap.push { cls := .type "list", data := .seq ([] : List Value).toArray }).objs.size
      rw [sz3]; exact Nat.ne_of_lt (Nat.lt_succ_of_lt (fpl b hb))
    · rw [← hXB]
      show b ∉ frs X.stack
      intro z
      rcases List.mem_cons.mp (I2.stkSub b z) with y | y
      · exact (f2 b hb).2.1 y
      · exact (f2 b hb).2.2.1 y
    · rw [henv] at e
      exact (f2 b hb).2.2.2.2.1 x c (hcl1 x c e)
  have pn0 : XB.pn = [] := by rw [← hXB]; rfl
  have loop : ∀ s₃ : Shared, s₃ = { s2 with heap := h₁, toks := s2.toks + ([] : List (Str × Value)).length } →
      codeAny (model X.prog X.w) X.A (.compLoop (.ListComp elt [⟨tg, iter, ifs, 0⟩] scope pos) 0 (.ref it) (.ref s2.heap.objs.size) XB.env)
        (compPost (model X.prog X.w) X.A X.xe use R (.ref s2.heap.objs.size) (s2.heap.push { cls := .type "list", data := .seq ([] : List Value).toArray }).objs.size) s₃ := by
    rintro s₃ rfl
    refine compLoop_own (fun n s' => ∃ i σb Hb, Inv XB [] σb Hb s' ∧ tn' i s'.heap ∧ (∀ b ∈ fp, Hb b = none) ∧ W i n σb Hb) ?_ m0 ⟨0, stB tn cp σ, _, J3, st3, fun b hb => (f3 b hb).1, w0⟩
    rintro n s4 ⟨i, σ4, H4, I4, st4, fr4, w4⟩
    rcases turn i n σ4 H4 w4 with ⟨stop, qn⟩ | ⟨go, step⟩
    · have d := T.done XB hprog hw hK hcalm i [] s4 σ4 H4 (fun _ _ => False) I4 (fB [] H4 fr4 (fun b hb p hp => by rw [pn0] at hp; simp at hp)) st4 stop
      rw [hA] at d
      refine thn d fun r s5 ⟨hr, I5⟩ => ?_
      subst hr
      obtain ⟨mm, hn5, _⟩ := id I5.loc
      have fr5 : H4 (s2.heap.push { cls := .type "list", data := .seq ([] : List Value).toArray }).objs.size = none := by
        have z := I5.free
        rw [henv] at z
        exact z
      have J5 : Inv X pins σ H4 s5 := by
        rw [← hXB] at I5
        exact block_end (h' := s5.heap) I3 f3 I5 ⟨rfl, fun _ _ => rfl⟩
      exact fin _ _ H4 s5 mm J5 (I3.fpOk (Nat.le_refl _) fr5) (by rw [henv] at hn5; exact hn5) qn
    · have d := T.item XB hprog hw hK hcalm i [] s4 σ4 H4 (fun _ _ => False) I4 (fB [] H4 fr4 (fun b hb p hp => by rw [pn0] at hp; simp at hp)) st4 go
      rw [hA] at d
      refine thn d fun r s5 ⟨u, hr, h5⟩ => ?_
      subst hr
      refine thn h5 fun _ s6 ⟨x, H6, I6, r6, y6, st6, fr6⟩ => ?_
      have I6' := I6.pinned (fB [] H6 fr6 (fun b hb p hp => by rw [pn0] at hp; simp at hp)) (T.obj _ _ st6)
      have q6 := step x H6 y6
      have a1 := hgB _ s6 σ4 H6 x u _ I6' r6 q6
      rw [hxe, hprog, hw, hA] at a1
      refine thn a1 fun _ s7 ⟨σ7, H7, I7, q7⟩ => ?_
      have a2 := hifB _ s7 σ7 H7 _ I7 q7
      rw [hxe, hprog, hw, hA] at a2
      refine thn a2 fun ok s8 ⟨H8, I8, q8⟩ => ?_
      have again : ∀ {σ9 : St} {H9 : Hp} {s9 : Shared}, Inv XB ([] ++ pinsAt fp s6.heap) σ9 H9 s9 → (∃ m', m' < n ∧ W (i + 1) m' σ9 H9) → ∃ m, m < n ∧ ∃ i σb Hb, Inv XB [] σb Hb s9 ∧ tn' i s9.heap ∧ (∀ b ∈ fp, Hb b = none) ∧ W i m σb Hb := fun {σ9 H9 s9} I9 n9 => by
        obtain ⟨m', hm, w9⟩ := n9
        refine ⟨m', hm, i + 1, σ9, H9, I9.unpinned, T.keep _ _ _ st6 fun b hb o e => (I9.pin (b, o) (List.mem_append_right _ (List.mem_append_right _ (mem_pinsAt hb e)))).1, fun b hb => ?_, w9⟩
        obtain ⟨o, e, d⟩ := T.obj _ _ st6 b hb
        exact (I9.pin (b, o) (List.mem_append_right _ (List.mem_append_right _ (mem_pinsAt hb e)))).2.1
      cases ok with
      | false => exact again I8 q8
      | true =>
        show wpAny _ _ _ _ _ _
        have a3 := heB _ s8 σ7 H8 _ I8 q8
        rw [hxe, hprog, hw, hA] at a3
        refine thn a3 fun yv s9 ⟨y, H9, I9, r9, ys, hD, hlen, n9⟩ => ?_
        have a4 := mt_append (X := XB) _ s9 σ7 H9 (.ref s2.heap.objs.size) [y] (.ref s2.heap.objs.size) [yv] (fun _ H' => ∃ m', m' < n ∧ W (i + 1) m' σ7 H') I9 rfl (.cons r9 .nil) ⟨_, ys, y, rfl, rfl, hD, hlen, n9⟩
        rw [hxe, hprog, hw, hA] at a4
        exact thn a4 fun _ s10 ⟨_, H10, I10, _, q10⟩ => again I10 q10
  rw [henv] at loop
  refine codeAny_compStart_list (loop _ rfl) (T.self _ 0 _ _ _ st3 (loop _ rfl))
theorem pe_lcomp {X : Cx} {elt tg iter : Expr} {ifs : List Expr} {scope : Scope} {pos : Pos} {wi : TI} {g : TG} {tif : TT} {te : TE} (tn : List Str) (cp : List (Nat × Str)) (O : CompOk X scope cp) (hc : X.calm = true) (hi : PI X tg iter wi)
    (hg : ∀ cl C s H fp, PG (cxB X scope tn cp cl C s H fp) tg g) (hif : ∀ cl C s H fp, PIfs (cxB X scope tn cp cl C s H fp) ifs tif) (he : ∀ cl C s H fp, PE (cxB X scope tn cp cl C s H fp) elt te)
    (hs : ∀ x, foldedSetIterable iter X.env x = pure x := by intro _; rfl) :
    PE X (.ListComp elt [⟨tg, iter, ifs, 0⟩] scope pos) (tComp tn cp wi g tif te) := by
  intro pins s σ H Q I h
  rw [eval_ListComp]
  refine lcomp_core tn cp O hc hi hg hif he hs I h fun D C H5 s5 m I5 f5 n5 q5 => ⟨m, n5, fun h' hs' => ⟨.ref D, H5, ?_, rfl, q5⟩⟩
  obtain ⟨f0, f1, f2, f3, f4, f5⟩ := f5
  exact I5.turned (t' := s5.toks) (fun b o hb e => (hs'.2 b hb).trans e) f0 f1 f3 f4 f5
theorem ps_setC {X : Cx} {i : Nat} {x : Str} {elt tg iter : Expr} {ifs : List Expr} {scope : Scope} {pos pos' spos : Pos} {wi : TI} {g : TG} {tif : TT} {te : TE} (hN : X.N.Nodup) (hx : X.N[i]? = some x) (hl : Loc X.env.scope x) (tn : List Str) (cp : List (Nat × Str)) (O : CompOk X scope cp) (hc : X.calm = true) (hi : PI X tg iter wi)
    (hg : ∀ cl C s H fp, PG (cxB X scope tn cp cl C s H fp) tg g) (hif : ∀ cl C s H fp, PIfs (cxB X scope tn cp cl C s H fp) ifs tif) (he : ∀ cl C s H fp, PE (cxB X scope tn cp cl C s H fp) elt te)
    (hsw : swapsWith (.ListComp elt [⟨tg, iter, ifs, 0⟩] scope pos) (some (.Name x pos')) spos.line X.env = pure true := by rfl) (hs : ∀ x, foldedSetIterable iter X.env x = pure x := by intro _; rfl)
    (hf : X.fn x = true ∨ X.env.scope.names.lookup x = some .local := by first | exact .inl rfl | exact .inr rfl | assumption) :
    PS X (.Assign [.Name x pos'] (.ListComp elt [⟨tg, iter, ifs, 0⟩] scope pos) spos) (tAsg (tComp tn cp wi g tif te) (gName i)) := by
  intro pins s σ H D I h
  rw [exec_Assign_Name_used _ _ _ _ hsw]
  refine wpAny_bind (wpAny_standAt (wpAny_bind ?_))
  show wpAny _ X.A (do let _ ← comprehension (.ListComp elt [⟨tg, iter, ifs, 0⟩] scope pos) scope X.env _ (newList []) false (eval iter X.env) (some (assign (.Name x pos') X.env))) _ _ s
  refine wpAny_bind (wpAny_mono (lcomp_core tn cp O hc hi hg hif he hs (R := fun _ s' => SP X pins D .next s') I h fun E C H5 s5 m I5 f5 n5 q5 => ?_) (fun _ _ q => wpAny_pure (wpAny_pure q)) fun _ _ e => e)
  obtain ⟨f0, f1, f2, f3, f4, f5⟩ := f5
  show wpAny _ X.A (assign (.Name x pos') X.env (.ref E)) _ _ _
  refine wpAny_assign_Name (store_ok2 I5 hN hx hl (v := .ref E) rfl (fun s6 I6 ⟨a, sb, ha⟩ => ?_) hf)
  have ne : C ≠ a := by
    rcases ha with e | e
    · rw [e]; exact f1
    · exact fun z => f4 x a e z.symm
  refine ⟨m, n5.sameBut sb ne, fun h' hs' => ⟨_, H5, I6.turned (t' := s6.toks) (fun b o hb e => (hs'.2 b hb).trans e) f0 f1 f3 f4 f5, q5⟩⟩
def Its (z : Str) : It := ⟨fun i _ => i < z.cps.size, fun i H x H' => H' = H ∧ ∃ c, z.cps[i]? = some c ∧ x = .str ⟨#[c]⟩, fun i _ => z.cps.size ≤ i⟩
theorem turn_str {P : Program} {w : World} {K : PySem.W.Frag} {tg : Expr} (z : Str) (t : Tok) (it : Addr) (ty : String) (hty : ty = "str_ascii_iterator" ∨ ty = "str_iterator") :
    Turn P w K tg (Its z) [it] it (fun i h => h.IsStrIter it ty z t i) where
  mem := by simp
  obj := fun i h st b hb => by
    have e : b = it := by simpa using hb
    subst e
    obtain ⟨o, e, c, d⟩ := st
    exact ⟨o, e, fun v z => by rw [d] at z; cases z⟩
  keep := fun i h h' st k => by
    obtain ⟨o, e, r⟩ := st
    exact ⟨o, k it (by simp) o e, r⟩
  item := by
    intro X hP hw hK hc i pins s σ H E I hf st hg
    subst hP hw hK
    obtain ⟨f0, f1, f2, f3, f4, f5⟩ := hf it (by simp)
    have hi : i < z.cps.size := hg
    have hx : z.cps[i]? = some z.cps[i] := by simp [hi]
    have nn : (["enumerate", "zip", "dict_itemiterator", "dict_reverseitemiterator", "odict_iterator", "itertools.zip_longest", "itertools.pairwise"].contains ty) = false := by
      rcases hty with e | e <;> (rw [e]; decide)
    have fin : ∀ h', h'.IsStrIter it ty z t (i + 1) → Heap.SameBut it s.heap h' → ∃ u, some (Value.str ⟨#[z.cps[i]]⟩ s.toks) = some u ∧
        wpAny (model X.prog X.w) X.A (letOwnedTupleGo tg (.ref it) u) (fun _ s2 => ∃ x H', Inv X pins σ H' s2 ∧ RelV x u ∧ (Its z).yld i H x H' ∧ s2.heap.IsStrIter it ty z t (i + 1) ∧ ∀ b ∈ [it], H' b = none) E { s with heap := h', toks := s.toks + 1 } := fun h' st' sb => by
      have I1 : Inv X pins σ H { s with heap := h', toks := s.toks + 1 } := I.turned (t' := s.toks + 1) (fun b o hb e => (sb.2 b hb).trans e) f0 f1 f3 f4 f5
      obtain ⟨o, e, c, d⟩ := id st'
      exact ⟨_, rfl, go_of (s := { s with heap := h', toks := s.toks + 1 }) e c d nn ⟨.str ⟨#[z.cps[i]]⟩, H, I1, ⟨_, rfl⟩, ⟨rfl, _, hx, rfl⟩, st', fun b hb => (hf b hb).1⟩⟩
    rcases hty with e | e
    · subst e; exact wpAny_pyNext_ascii_item st hx fin
    · subst e; exact wpAny_pyNext_wide_item st hx fin
  done := by
    intro X hP hw hK hc i pins s σ H E I hf st hg
    subst hP hw hK
    obtain ⟨f0, f1, f2, f3, f4, f5⟩ := hf it (by simp)
    have hi : z.cps.size ≤ i := hg
    have hx : z.cps[i]? = none := by simp [hi]
    rcases hty with e | e
    · subst e; exact wpAny_pyNext_ascii_end (I.ok.hd hc) st hx fun h' eb => ⟨rfl, I.turned (t' := s.toks) (fun b o hb e => eb b o hb e) f0 f1 f3 f4 f5⟩
    · subst e; exact wpAny_pyNext_wide_end (I.ok.hd hc) st hx fun h' eb => ⟨rfl, I.turned (t' := s.toks) (fun b o hb e => eb b o hb e) f0 f1 f3 f4 f5⟩
  self := by
    intro A i s Q E st h
    rcases hty with e | e
    · subst e; exact wpAny_pyIter_striter_ascii st h
    · subst e; exact wpAny_pyIter_striter_wide st h
def iStr (tl : TE) : TI := fun σ H R => tl σ H fun x H1 => ∃ z, x = .str z ∧ R (Its z) H1
theorem pi_str {X : Cx} {tg l : Expr} {tl : TE} (hl : PE X l tl) : PI X tg l (iStr tl) := by
  intro pins s σ H R I h
  refine thn (hl pins s σ H _ I h) fun v s1 ⟨x, H1, I1, r1, q1⟩ => ?_
  obtain ⟨z, e, q⟩ := q1
  subst e
  obtain ⟨t, rfl⟩ := r1
  have fo : ∀ b ∈ [s1.heap.objs.size], FpOk X pins H1 b := fun b hb => by
    have e : b = s1.heap.objs.size := by simpa using hb
    subst e
    exact I1.fpOk (Nat.le_refl _) (I1.hok.fresh (Nat.le_refl _))
  cases ha : z.cps.all (· < 128)
  · exact wpAny_pyIter_wide ha ⟨s1.heap.objs.size, [s1.heap.objs.size], _, _, H1, rfl, I1.kept (t' := s1.toks) fun b o e => Heap.get?_push_of_some _ e, turn_str z t _ "str_iterator" (.inr rfl), ⟨_, Heap.get?_push_size _ rfl, rfl, rfl⟩, fo, q⟩
  · exact wpAny_pyIter_ascii ha ⟨s1.heap.objs.size, [s1.heap.objs.size], _, _, H1, rfl, I1.kept (t' := s1.toks) fun b o e => Heap.get?_push_of_some _ e, turn_str z t _ "str_ascii_iterator" (.inl rfl), ⟨_, Heap.get?_push_size _ rfl, rfl, rfl⟩, fo, q⟩
def rSlS : V → Option Int → Option Int → Hp → VK → Prop := fun x lo hi H Q => ∃ z, x = .str z ∧ z.length ≤ sizeLine ∧ Q (.str (Txt.slice z lo hi)) H
theorem sl_str {X : Cx} : SlR X rSlS := by
  intro pins s σ H x v vl vu lo hi sl Q I rx hs pl pu h
  obtain ⟨z, rfl, hz, q⟩ := h
  obtain ⟨t, rfl⟩ := rx
  refine ⟨"str", _, F.slot_str_getitem.lookup, typeIs_str _ _ _, ?_⟩
  have go : ∀ (l u : Option (Int × Tok)), vl = partValue l → vu = partValue u → lo = l.map (·.1) → hi = u.map (·.1) → wpAny (model X.prog X.w) X.A (getItem (.str z t) (.ref sl)) (EP X pins σ Q) X.xe s := by
    rintro l u rfl rfl rfl rfl
    refine wpAny_getItem_str_slice (l := l) (u := u) (st := none) ?_ rfl ?_
    · obtain ⟨o, e, c, d⟩ := hs
      exact ⟨o, e, c, d⟩
    · exact post_val_or_str ⟨Nat.le_trans (Txt.slice_le z _ _) hz, fun t' k => ⟨.str _, H, I.tok _, ⟨_, rfl⟩, q⟩⟩
  cases pl with
  | none =>
    cases pu with
    | none => exact go none none rfl rfl rfl rfl
    | int j u => exact go none (some (j, u)) rfl rfl rfl rfl
  | int i t' =>
    cases pu with
    | none => exact go (some (i, t')) none rfl rfl rfl rfl
    | int j u => exact go (some (i, t')) (some (j, u)) rfl rfl rfl rfl
theorem call_isinst {X : Cx} : CallR X (.builtin "isinstance") (fun xs H Q => ∃ x T t b, xs = [x, .ty T] ∧ TyOf X.K H x t ∧ PySem.W.kitOne X.K t (.type T) = some b ∧ Q (.bl b) H) := by
  intro pins s σ H xs us Q I r h
  obtain ⟨x, T, t, b, rfl, ty, e, q⟩ := h
  obtain ⟨u, w', rfl, rx, ry⟩ := vals2 r
  cases (show w' = Value.type T from ry)
  exact isinst_ok I rx ty e fun tk => ⟨.bl b, H, I.tok _, rfl, q⟩
section
open PyProof.Rows.LSm
theorem bools_of {bs : List Bool} : ∀ {us : List Value}, Vals (bs.map V.bl) us → BoolsAre us bs := by
  induction bs with
  | nil => intro us r; rw [List.map_nil] at r; cases r; exact .nil
  | cons b bs ih =>
    intro us r
    rw [List.map_cons] at r
    cases r with
    | cons r1 r2 =>
      cases (show _ = Value.bool b from r1)
      exact .cons b (ih r2)
theorem call_all_bl {X : Cx} (hc : X.calm = true) : CallR X (.builtin "all") (fun xs H Q => ∃ (p : Addr) (bs : List Bool), xs = [.ref p] ∧ SqL X.K H p (bs.map V.bl) ∧ Q (.bl (bs.all id)) H) := by
  intro pins s σ H xs us Q I r h
  obtain ⟨p, bs, rfl, hx, q⟩ := h
  obtain ⟨u, rfl, rx⟩ := vals1 r
  cases (show u = Value.ref p from rx)
  obtain ⟨vs, rv, pl, hz⟩ := I.list hx
  have hl := pl.isList
  have hb := bools_of rv
  have hlt : p < s.heap.objs.size := by obtain ⟨_, e, _⟩ := hl; exact Heap.lt_size e
  refine call_all_walk (wpAny_pyIter_list hl ?_)
  refine ⟨s.heap.objs.size, [s.heap.objs.size, p], [s.heap.objs.size], vs.toArray.size, _, _, fun i => (bs[i]?).getD true, rfl, Walks.list (A := X.A.in1) (I.ok.hd hc) _ p (Nat.ne_of_lt hlt) vs.toArray,
    ⟨⟨_, Heap.get?_push_size _ rfl, rfl, rfl⟩, hl.push _⟩, fun i v s' Q' E' hP hQ => ?_, fun h' tk hk => ?_⟩
  · obtain ⟨b, e, rfl⟩ := hb.get i v (by simpa using hP)
    simp only [e, Option.getD_some] at hQ
    exact wpAny_truthy_bool hQ
  · have e : ((List.range vs.toArray.size).all fun i => (bs[i]?).getD true) = bs.all id := by
      rw [List.size_toArray, hb.length]; exact range_all bs
    rw [e]
    exact ⟨.bl _, H, I.kept (kept_iter hk), rfl, q⟩
theorem call_sum_int {X : Cx} (hc : X.calm = true) : CallR X (.builtin "sum") (fun xs H Q => ∃ (p : Addr) (ns : List Int), xs = [.ref p] ∧ SqL X.K H p (ns.map V.int) ∧ Q (.int ns.sum) H) := by
  intro pins s σ H xs us Q I r h
  obtain ⟨p, ns, rfl, hx, q⟩ := h
  obtain ⟨u, rfl, rx⟩ := vals1 r
  cases (show u = Value.ref p from rx)
  obtain ⟨vs, rv, pl, hz⟩ := I.list hx
  have hi := intsAre_of rv
  obtain ⟨ys, hy⟩ := hi.allInts.items
  have hl' : s.heap.IsList p (intItems ys) := hy ▸ pl.isList
  refine sum_intListG (I.ok.hd hc) hl' fun h' tk t' hk => ?_
  have e1 : ns = ys.toList.map (·.1) := by
    rw [← nums_intItems, ← hy]
    exact (show numsOf vs.toArray.toList = ns from hi.numsOf).symm
  have e2 : preSum (numAt ys) ys.size = ns.sum := by
    rw [preSum_eq, List.take_of_length_le (by simp), e1]
  rw [e2]
  exact ⟨.int _, H, I.kept hk, ⟨_, rfl⟩, q⟩
end
def EqOk (X : Cx) (k : Nat) (H : Hp) (x y : V) (b : Bool) : Prop := ∀ (pins : List (Addr × Obj)) (σ : St) (s : Shared) (A : Around) (u v : Value), A.units + k < cLine → Inv X pins σ H s → RelV x u → RelV y v → SeqAt.EqAt A s u v b
def RcOk (X : Cx) (k : Nat) (H : Hp) (x y : V) (b : Bool) : Prop := ∀ (pins : List (Addr × Obj)) (σ : St) (s : Shared) (A : Around) (u v : Value), A.units + k < cLine → Inv X pins σ H s → RelV x u → RelV y v → SeqAt.RcAt A s u v b
section
variable {X : Cx} {k : Nat} {H : Hp} {x y : V} {a b : Addr} {xs ys : List V}
theorem eqok_flat (fx : flatV x = true) (fy : flatV y = true) : EqOk X k H x y (eqV x y) := fun _ _ _ _ _ _ _ _ rx ry => eqAt_V rx ry fx fy
theorem eqok_same : EqOk X k H (.ref a) (.ref a) true := fun _ _ _ _ u v _ _ rx ry => by
  cases (show u = Value.ref a from rx)
  cases (show v = Value.ref a from ry)
  exact SeqAt.EqAt.same _
theorem EqOk.of_rc (hne : a ≠ b) {c : Bool} (h : RcOk X k H (.ref a) (.ref b) c) : EqOk X k H (.ref a) (.ref b) c := fun pins σ s A u v hu I rx ry => by
  cases (show u = Value.ref a from rx)
  cases (show v = Value.ref b from ry)
  exact SeqAt.EqAt.of_refs hne (h pins σ s A _ _ hu I rfl rfl)
theorem Vals.at {xs : List V} {us : List Value} (r : Vals xs us) {j : Nat} (h : j < us.length) : ∃ (h' : j < xs.length), RelV xs[j] us[j] := by
  have hl := r.length
  have h' : j < xs.length := by omega
  obtain ⟨u, e, q⟩ := r.get (i := j) (x := xs[j]) (by simp [h'])
  rw [List.getElem?_eq_getElem h] at e
  cases e
  exact ⟨h', q⟩
theorem rcok_lists (hx : SqL X.K H a xs) (hy : SqL X.K H b ys) (hl : xs.length = ys.length) (e : Nat → Bool) (he : ∀ j (h1 : j < xs.length) (h2 : j < ys.length), EqOk X k H xs[j] ys[j] (e j)) :
    RcOk X (k + 1) H (.ref a) (.ref b) ((List.range xs.length).all e) := fun pins σ s A u v hu I rx ry => by
  cases (show u = Value.ref a from rx)
  cases (show v = Value.ref b from ry)
  obtain ⟨us, r1, p1, _⟩ := I.list hx
  obtain ⟨vs, r2, p2, _⟩ := I.list hy
  have l1 := r1.length
  have l2 := r2.length
  have q := SeqAt.RcAt.lists (A := A) (e := e) p1.isList p2.isList (by rw [List.size_toArray, List.size_toArray]; omega) (by omega) fun j h1 h2 => by
    rw [List.size_toArray] at h1 h2
    obtain ⟨g1, q1⟩ := r1.at h1
    obtain ⟨g2, q2⟩ := r2.at h2
    exact he j g1 g2 pins σ s A.in1 _ _ (by show A.units + 1 + k < cLine; omega) I (by simpa using q1) (by simpa using q2)
  rw [List.size_toArray, ← l1] at q
  exact q
theorem rcok_lens (hx : SqL X.K H a xs) (hy : SqL X.K H b ys) (hl : xs.length ≠ ys.length) : RcOk X k H (.ref a) (.ref b) false := fun pins σ s A u v hu I rx ry => by
  cases (show u = Value.ref a from rx)
  cases (show v = Value.ref b from ry)
  obtain ⟨us, r1, p1, _⟩ := I.list hx
  obtain ⟨vs, r2, p2, _⟩ := I.list hy
  have l1 := r1.length
  have l2 := r2.length
  exact SeqAt.RcAt.lists_lengths p1.isList p2.isList (by rw [List.size_toArray, List.size_toArray]; simp; omega) (by omega)
theorem rcok_flats (hx : SqL X.K H a xs) (hy : SqL X.K H b ys) (fx : xs.all flatV = true) (fy : ys.all flatV = true) :
    RcOk X 1 H (.ref a) (.ref b) (xs.length == ys.length && (List.range xs.length).all fun j => eqV (xs.getD j .non) (ys.getD j .non)) := by
  by_cases hl : xs.length = ys.length
  · have q := rcok_lists (k := 0) hx hy hl (fun j => eqV (xs.getD j .non) (ys.getD j .non)) fun j h1 h2 => by
      have e1 : xs.getD j .non = xs[j] := by simp [List.getD, h1]
      have e2 : ys.getD j .non = ys[j] := by simp [List.getD, h2]
      rw [e1, e2]
      exact eqok_flat (List.all_eq_true.mp fx _ (List.getElem_mem h1)) (List.all_eq_true.mp fy _ (List.getElem_mem h2))
    rw [show (xs.length == ys.length) = true by simp [hl], Bool.true_and]
    exact q
  · rw [show (xs.length == ys.length) = false by simp [hl], Bool.false_and]
    exact rcok_lens hx hy hl
end
def rEqD (X : Cx) (k : Nat) : R2 := fun x y H Q => ∃ c, RcOk X k H x y c ∧ Q (.bl c) H
theorem op_eqD {X : Cx} {k : Nat} (hu : X.A.units + k < cLine) : OpR X (compareOp .Eq) (rEqD X k) := by
  intro pins s σ H x y v u Q I rx ry h
  obtain ⟨c, r, q⟩ := h
  exact r pins σ s X.A v u hu I rx ry _ _ _ _ ⟨.bl c, H, I, rfl, q⟩
def CW (D : Addr) (n : Nat) (Pv : Nat → List V → St → Hp → Prop) (i m : Nat) (σ : St) (H : Hp) : Prop := m = n - i ∧ i ≤ n ∧ ∃ ys, H D = some (.lst ys) ∧ ys.length ≤ i ∧ Pv i ys σ H
def CStep (D : Addr) (n i : Nat) (Pv : Nat → List V → St → Hp → Prop) (σ2 : St) (y : V) (H4 : Hp) : Prop :=
  ∃ ys, H4 D = some (.lst ys) ∧ ys.length < sizeLine ∧ ∃ m', m' < n - i ∧ CW D n Pv (i + 1) m' σ2 (upd H4 D (.lst (ys ++ [y])))
def CSkip (D : Addr) (n i : Nat) (Pv : Nat → List V → St → Hp → Prop) (σ2 : St) (H3 : Hp) : Prop := ∃ m', m' < n - i ∧ CW D n Pv (i + 1) m' σ2 H3
section
variable {D : Addr} {Q : VK} {g : TG} {tif : TT} {te : TE} {σ0 : St} {H1 : Hp} {n i : Nat} {Pv : Nat → List V → St → Hp → Prop}
theorem cstep {ys : List V} {y : V} {σ2 : St} {H4 : Hp} (hn : n ≤ sizeLine) (hi : i < n) (hD : H4 D = some (.lst ys)) (hl : ys.length ≤ i) (h : Pv (i + 1) (ys ++ [y]) σ2 (upd H4 D (.lst (ys ++ [y])))) : CStep D n i Pv σ2 y H4 :=
  ⟨ys, hD, by omega, n - (i + 1), by omega, rfl, hi, ys ++ [y], upd_same, by rw [List.length_append, List.length_singleton]; omega, h⟩
theorem cskip {ys : List V} {σ2 : St} {H3 : Hp} (hi : i < n) (hD : H3 D = some (.lst ys)) (hl : ys.length ≤ i) (h : Pv (i + 1) ys σ2 H3) : CSkip D n i Pv σ2 H3 :=
  ⟨n - (i + 1), by omega, rfl, hi, ys, hD, by omega, h⟩
theorem comp_by {J : It} (Pv : Nat → List V → St → Hp → Prop) (hn : n ≤ sizeLine) (h0 : Pv 0 [] σ0 (upd H1 D (.lst [])))
    (hgo : ∀ i ys σ H, i < n → H D = some (.lst ys) → Pv i ys σ H → J.go i H) (hstop : ∀ ys σ H, H D = some (.lst ys) → Pv n ys σ H → J.stop n H)
    (hs : ∀ i ys σ H, i < n → H D = some (.lst ys) → ys.length ≤ i → Pv i ys σ H → ∀ x H', J.yld i H x H' → g x σ H' fun σ2 H2 => tif σ2 H2 fun c H3 =>
      if c = true then te σ2 H3 fun y H4 => CStep D n i Pv σ2 y H4 else CSkip D n i Pv σ2 H3)
    (hd : ∀ ys σ H, H D = some (.lst ys) → ys.length ≤ n → Pv n ys σ H → Q (.ref D) H) :
    ∃ W : Nat → Nat → St → Hp → Prop, (∃ m, W 0 m σ0 (upd H1 D (.lst []))) ∧ ∀ i m σb Hb, W i m σb Hb →
      (J.stop i Hb ∧ Q (.ref D) Hb) ∨ (J.go i Hb ∧ ∀ x H', J.yld i Hb x H' → g x σb H' fun σ2 H2 => tif σ2 H2 fun c H3 =>
        if c = true then te σ2 H3 fun y H4 => ∃ ys, H4 D = some (.lst ys) ∧ ys.length < sizeLine ∧ ∃ m', m' < m ∧ W (i + 1) m' σ2 (upd H4 D (.lst (ys ++ [y])))
        else ∃ m', m' < m ∧ W (i + 1) m' σ2 H3) := by
  refine ⟨CW D n Pv, ⟨n, by omega, Nat.zero_le _, [], upd_same, Nat.le_refl _, h0⟩, ?_⟩
  rintro i m σ H ⟨rfl, hi, ys, hD, hl, p⟩
  by_cases hlt : i < n
  · exact .inr ⟨hgo i ys σ H hlt hD p, hs i ys σ H hlt hD hl p⟩
  · have e : i = n := by omega
    subst e
    exact .inl ⟨hstop ys σ H hD p, hd ys σ H hD hl p⟩
theorem comp_str {z : Str} (Pv : Nat → List V → St → Hp → Prop) (hn : z.cps.size ≤ sizeLine) (h0 : Pv 0 [] σ0 (upd H1 D (.lst [])))
    (hs : ∀ i ys σ H c, i < z.cps.size → z.cps[i]? = some c → H D = some (.lst ys) → ys.length ≤ i → Pv i ys σ H → g (.str ⟨#[c]⟩) σ H fun σ2 H2 => tif σ2 H2 fun c H3 =>
      if c = true then te σ2 H3 fun y H4 => CStep D z.cps.size i Pv σ2 y H4 else CSkip D z.cps.size i Pv σ2 H3)
    (hd : ∀ ys σ H, H D = some (.lst ys) → ys.length ≤ z.cps.size → Pv z.cps.size ys σ H → Q (.ref D) H) :
    ∃ W : Nat → Nat → St → Hp → Prop, (∃ m, W 0 m σ0 (upd H1 D (.lst []))) ∧ ∀ i m σb Hb, W i m σb Hb →
      ((Its z).stop i Hb ∧ Q (.ref D) Hb) ∨ ((Its z).go i Hb ∧ ∀ x H', (Its z).yld i Hb x H' → g x σb H' fun σ2 H2 => tif σ2 H2 fun c H3 =>
        if c = true then te σ2 H3 fun y H4 => ∃ ys, H4 D = some (.lst ys) ∧ ys.length < sizeLine ∧ ∃ m', m' < m ∧ W (i + 1) m' σ2 (upd H4 D (.lst (ys ++ [y])))
        else ∃ m', m' < m ∧ W (i + 1) m' σ2 H3) :=
  comp_by Pv hn h0 (fun i _ _ _ hi _ _ => hi) (fun _ _ _ _ _ => Nat.le_refl _) (fun i ys σ H hi hD hl p x H' y => by
    obtain ⟨e, c, hc, ex⟩ := y
    subst e ex
    exact hs i ys σ _ c hi hc hD hl p) hd
theorem comp_list {K : PySem.W.Frag} {a : Addr} {xs : List V} (Pv : Nat → List V → St → Hp → Prop) (hn : xs.length ≤ sizeLine) (h0 : Pv 0 [] σ0 (upd H1 D (.lst [])))
    (hl : ∀ i ys σ H, i ≤ xs.length → H D = some (.lst ys) → Pv i ys σ H → SqL K H a xs)
    (hs : ∀ i ys σ H x, i < xs.length → xs[i]? = some x → H D = some (.lst ys) → ys.length ≤ i → Pv i ys σ H → g x σ H fun σ2 H2 => tif σ2 H2 fun c H3 =>
      if c = true then te σ2 H3 fun y H4 => CStep D xs.length i Pv σ2 y H4 else CSkip D xs.length i Pv σ2 H3)
    (hd : ∀ ys σ H, H D = some (.lst ys) → ys.length ≤ xs.length → Pv xs.length ys σ H → Q (.ref D) H) :
    ∃ W : Nat → Nat → St → Hp → Prop, (∃ m, W 0 m σ0 (upd H1 D (.lst []))) ∧ ∀ i m σb Hb, W i m σb Hb →
      ((Itl K a).stop i Hb ∧ Q (.ref D) Hb) ∨ ((Itl K a).go i Hb ∧ ∀ x H', (Itl K a).yld i Hb x H' → g x σb H' fun σ2 H2 => tif σ2 H2 fun c H3 =>
        if c = true then te σ2 H3 fun y H4 => ∃ ys, H4 D = some (.lst ys) ∧ ys.length < sizeLine ∧ ∃ m', m' < m ∧ W (i + 1) m' σ2 (upd H4 D (.lst (ys ++ [y])))
        else ∃ m', m' < m ∧ W (i + 1) m' σ2 H3) :=
  comp_by Pv hn h0 (fun i ys σ H hi hD p => ⟨xs, xs[i], hl i ys σ H (Nat.le_of_lt hi) hD p, by simp [hi]⟩) (fun ys σ H hD p => ⟨xs, hl _ ys σ H (Nat.le_refl _) hD p, Nat.le_refl _⟩) (fun i ys σ H hi hD hl' p x H' y => by
    obtain ⟨e, y⟩ := y
    subst e
    exact hs i ys σ _ x hi (y xs (hl i ys σ _ (Nat.le_of_lt hi) hD p)) hD hl' p) hd
end
section
variable {κ : Type} [DecidableEq κ]
def valV (kvs : List (κ × V)) (k : κ) : Option V := (kvs.find? fun kv => decide (kv.1 = k)).map (·.2)
def putK (kvs : List (κ × V)) (k : κ) (v : V) : List (κ × V) :=
  if (kvs.any fun kv => decide (kv.1 = k)) = true then kvs.map (fun kv => if kv.1 = k then (kv.1, v) else kv) else kvs ++ [(k, v)]
theorem valV_nil {k : κ} : valV ([] : List (κ × V)) k = none := rfl
theorem valV_pos {p : κ × V} {r : List (κ × V)} {k : κ} (e : p.1 = k) : valV (p :: r) k = some p.2 := by simp [valV, List.find?_cons, e]
theorem valV_neg {p : κ × V} {r : List (κ × V)} {k : κ} (e : ¬ p.1 = k) : valV (p :: r) k = valV r k := by simp [valV, List.find?_cons, e]
theorem valV_any (k : κ) : ∀ kvs : List (κ × V), (kvs.any fun kv => decide (kv.1 = k)) = (valV kvs k).isSome
  | [] => rfl
  | p :: r => by
    rw [List.any_cons]
    by_cases e : p.1 = k
    · simp only [valV_pos e, decide_eq_true e, Bool.true_or, Option.isSome_some]
    · rw [valV_neg e, decide_eq_false e, Bool.false_or]; exact valV_any k r
theorem valV_map (k j : κ) (y : V) : ∀ kvs : List (κ × V), valV (kvs.map fun kv => if kv.1 = k then (kv.1, y) else kv) j = (valV kvs j).map fun x => if j = k then y else x
  | [] => rfl
  | p :: r => by
    have ih := valV_map k j y r
    rw [List.map_cons]
    by_cases h : p.1 = k
    · rw [if_pos h]
      by_cases e : p.1 = j
      · rw [valV_pos (p := (p.1, y)) e, valV_pos e, Option.map_some, if_pos (e.symm.trans h)]
      · rw [valV_neg (p := (p.1, y)) e, valV_neg e, ih]
    · rw [if_neg h]
      by_cases e : p.1 = j
      · rw [valV_pos (p := p) e, valV_pos e, Option.map_some, if_neg (fun z => h (e.trans z))]
      · rw [valV_neg (p := p) e, valV_neg e, ih]
theorem valV_snoc (k j : κ) (y : V) : ∀ kvs : List (κ × V), valV kvs k = none → valV (kvs ++ [(k, y)]) j = if j = k then some y else valV kvs j
  | [], _ => by
    by_cases e : k = j
    · rw [if_pos e.symm]; exact valV_pos (p := (k, y)) e
    · rw [if_neg (fun z => e z.symm)]; exact valV_neg (p := (k, y)) e
  | p :: r, hn => by
    rw [List.cons_append]
    have hk : ¬ p.1 = k := fun z => by rw [valV_pos z] at hn; cases hn
    rw [valV_neg hk] at hn
    have ih := valV_snoc k j y r hn
    by_cases e : p.1 = j
    · rw [valV_pos e, valV_pos e, if_neg (fun z => hk (e.trans z))]
    · rw [valV_neg e, valV_neg e, ih]
theorem valV_put (kvs : List (κ × V)) (k j : κ) (y : V) : valV (putK kvs k y) j = if j = k then some y else valV kvs j := by
  unfold putK
  by_cases a : (kvs.any fun kv => decide (kv.1 = k)) = true
  · rw [if_pos a, valV_map]
    rw [valV_any] at a
    by_cases e : j = k
    · obtain ⟨x, hx⟩ := Option.isSome_iff_exists.mp a
      rw [if_pos e, e, hx, Option.map_some, if_pos rfl]
    · rw [if_neg e]
      cases valV kvs j with
      | none => rfl
      | some x => rw [Option.map_some, if_neg e]
  · rw [if_neg a]
    refine valV_snoc k j y kvs ?_
    rw [valV_any] at a
    cases q : valV kvs k with
    | none => rfl
    | some x => rw [q] at a; exact (a rfl).elim
theorem length_putK (kvs : List (κ × V)) (k : κ) (v : V) : (putK kvs k v).length ≤ kvs.length + 1 := by
  unfold putK
  split
  · rw [List.length_map]; omega
  · rw [List.length_append, List.length_cons, List.length_nil]; omega
theorem putK_new {kvs : List (κ × V)} {k : κ} (v : V) (h : valV kvs k = none) : putK kvs k v = kvs ++ [(k, v)] := by
  unfold putK
  rw [valV_any, h]
  exact if_neg (by decide)
theorem RelO.isSome_eq {o : Option V} {u : Option Value} (r : RelO o u) : o.isSome = u.isSome := by
  cases o with
  | none => cases u with
    | none => rfl
    | some _ => exact (show False from r).elim
  | some _ => cases u with
    | none => exact (show False from r).elim
    | some _ => rfl
theorem KV.val {kvs : List (κ × V)} {vs : List (κ × Value)} (r : KV kvs vs) (k : κ) : RelO (valV kvs k) (valueAt vs k) := by
  unfold KV at r
  induction r with
  | nil => exact True.intro
  | @cons p q ps qs h t ih =>
    obtain ⟨h1, h2⟩ := h
    by_cases e : p.1 = k
    · have e' : q.1 = k := h1.symm.trans e
      have b : valueAt (q :: qs) k = some q.2 := by simp [valueAt, List.find?_cons, e']
      rw [valV_pos e, b]; exact h2
    · have e' : ¬ q.1 = k := fun z => e (h1.trans z)
      have b : valueAt (q :: qs) k = valueAt qs k := by simp [valueAt, List.find?_cons, e']
      rw [valV_neg e, b]; exact ih
theorem KV.any {kvs : List (κ × V)} {vs : List (κ × Value)} (r : KV kvs vs) (k : κ) : (kvs.any fun kv => decide (kv.1 = k)) = vs.any fun kv => decide (kv.1 = k) := by
  unfold KV at r
  induction r with
  | nil => rfl
  | cons h t ih => rw [List.any_cons, List.any_cons, ih, h.1]
theorem KV.repl {kvs : List (κ × V)} {vs : List (κ × Value)} (r : KV kvs vs) (k : κ) {y : V} {u : Value} (ry : RelV y u) :
    KV (kvs.map fun kv => if kv.1 = k then (kv.1, y) else kv) (vs.map fun kv => if kv.1 = k then (kv.1, u) else kv) := by
  unfold KV at r ⊢
  induction r with
  | nil => exact .nil
  | @cons p q ps qs h t ih =>
    rw [List.map_cons, List.map_cons]
    refine .cons ?_ ih
    obtain ⟨h1, h2⟩ := h
    by_cases e : p.1 = k
    · rw [if_pos e, if_pos (h1.symm.trans e)]; exact ⟨h1, ry⟩
    · rw [if_neg e, if_neg (fun z => e (h1.trans z))]; exact ⟨h1, h2⟩
theorem KV.put {kvs : List (κ × V)} {vs : List (κ × Value)} (r : KV kvs vs) (k : κ) {y : V} {u : Value} (ry : RelV y u) : KV (putK kvs k y) (stored vs k u) := by
  unfold putK stored
  rw [r.any k]
  by_cases e : (vs.any fun kv => decide (kv.1 = k)) = true
  · rw [if_pos e, if_pos e]; exact r.repl k ry
  · rw [if_neg e, if_neg e]; exact Paired.snoc r ⟨rfl, ry⟩
theorem KV.length {kvs : List (κ × V)} {vs : List (κ × Value)} (r : KV kvs vs) : kvs.length = vs.length := Paired.length r
end
theorem kV_is {P : Program} {w : World} {k : Key} {u : Value} (r : RelV (kV k) u) : (mixKind P w).is k u = true := by
  cases k with
  | inl i => obtain ⟨t, e⟩ := (show ∃ t, u = Value.int i t from r); subst e; exact mixKind_int P w i t
  | inr x => obtain ⟨t, e⟩ := (show ∃ t, u = Value.str x t from r); subst e; exact mixKind_str P w x t
theorem kV_inj {a b : Key} (e : kV a = kV b) : a = b := by
  cases a with
  | inl i => cases b with
    | inl j => have e' : V.int i = V.int j := e; injection e' with e'; rw [e']
    | inr y => exact nomatch (show V.int i = V.str y from e)
  | inr x => cases b with
    | inl j => exact nomatch (show V.str x = V.int j from e)
    | inr y => have e' : V.str x = V.str y := e; injection e' with e'; rw [e']
theorem items_are {P : Program} {w : World} : ∀ {ks : List Key} {us : List Value}, Vals (ks.map kV) us → ItemsAre (mixKind P w) ks us
  | [], _, r => by rw [List.map_nil] at r; cases r; exact .nil
  | k :: ks, _, r => by
    rw [List.map_cons] at r
    cases r with
    | cons h t => exact .cons (kV_is h) (items_are t)
abbrev KT (H : Hp) : List (List Key × V) → List (List Key × Addr × Value) → Prop := Paired fun p q => p.1 = q.1 ∧ H q.2.1 = some (.tup (p.1.map kV)) ∧ RelV p.2 q.2.2
theorem KT.val {H : Hp} {kvs : List (List Key × V)} {xs : List (List Key × Addr × Value)} (r : KT H kvs xs) (k : List Key) : RelO (valV kvs k) ((atKey xs k).map (·.2)) := by
  induction r with
  | nil => exact True.intro
  | @cons p q ps qs h t ih =>
    obtain ⟨h1, _, h2⟩ := h
    by_cases e : p.1 = k
    · have e' : q.1 = k := h1.symm.trans e
      have b : atKey (q :: qs) k = some q.2 := by simp [atKey, List.find?_cons, e']
      rw [valV_pos e, b]; exact h2
    · have e' : ¬ q.1 = k := fun z => e (h1.trans z)
      have b : atKey (q :: qs) k = atKey qs k := by simp [atKey, List.find?_cons, e']
      rw [valV_neg e, b]; exact ih
theorem KT.repl {H : Hp} {kvs : List (List Key × V)} {xs : List (List Key × Addr × Value)} (r : KT H kvs xs) (k : List Key) {y : V} {u : Value} (ry : RelV y u) :
    KT H (kvs.map fun kv => if kv.1 = k then (kv.1, y) else kv) (xs.map (putAt k u)) := by
  induction r with
  | nil => exact .nil
  | @cons p q ps qs h t ih =>
    rw [List.map_cons, List.map_cons]
    refine .cons ?_ ih
    obtain ⟨h1, h2, h3⟩ := h
    unfold putAt
    by_cases e : p.1 = k
    · rw [if_pos e, if_pos (h1.symm.trans e)]; exact ⟨h1, h2, ry⟩
    · rw [if_neg e, if_neg (fun z => e (h1.trans z))]; exact ⟨h1, h2, h3⟩
theorem KT.put {H : Hp} {kvs : List (List Key × V)} {xs : List (List Key × Addr × Value)} (r : KT H kvs xs) (k : List Key) {b : Addr} {y : V} {u : Value} (hb : H b = some (.tup (k.map kV))) (ry : RelV y u) :
    KT H (putK kvs k y) (storedH xs k b u) := by
  have e : (kvs.any fun kv => decide (kv.1 = k)) = (atKey xs k).isSome := by
    rw [valV_any, (r.val k).isSome_eq, Option.isSome_map]
  unfold putK storedH
  rw [e]
  by_cases q : (atKey xs k).isSome = true
  · rw [if_pos q, if_pos q]; exact r.repl k ry
  · rw [if_neg q, if_neg q]; exact Paired.snoc r ⟨rfl, hb, ry⟩
theorem KT.keeps {H H' : Hp} {kvs : List (List Key × V)} {xs : List (List Key × Addr × Value)} (r : KT H kvs xs) (ht : ∀ b ys, H b = some (.tup ys) → H' b = some (.tup ys)) : KT H' kvs xs :=
  Paired.mapP r fun _ _ z => ⟨z.1, ht _ _ z.2.1, z.2.2⟩
section
variable {P : Program} {w : World} {H : Hp} {h : Heap} {a : Addr}
theorem rd_of {u : HO} (ok : HOk P w H h) (e : Rd H a u) : ObjOk P w H h a u := e.ok ok
theorem dk_rd {kvs : List (Key × V)} (ok : HOk P w H h) (e : Rd H a (.dK kvs)) : kvs.length ≤ sizeLine ∧ (a == sysModules) = false ∧ ∃ vs, KV kvs vs ∧ h.DictOf (mixKind P w) a vs :=
  show ObjOk P w H h a (.dK kvs) from rd_of ok e
theorem dk_of {kvs : List (Key × V)} (ok : HOk P w H h) (e : H a = some (.dK kvs)) : kvs.length ≤ sizeLine ∧ (a == sysModules) = false ∧ ∃ vs, KV kvs vs ∧ h.DictOf (mixKind P w) a vs := dk_rd ok (.inl e)
theorem key_of {ks : List Key} (ok : HOk P w H h) (e : H a = some (.tup (ks.map kV))) : (tupleKind (mixKind P w)).is h ks a := by
  obtain ⟨_, its, r, o, h1, h2, n, h3⟩ := (show ObjOk P w H h a (.tup (ks.map kV)) from ok a _ e)
  exact ⟨o, its.toArray, n, h1, h2, h3, by simpa using items_are r⟩
theorem dt_rd {kvs : List (List Key × V)} (ok : HOk P w H h) (e : Rd H a (.dT kvs)) : kvs.length ≤ sizeLine ∧ (a == sysModules) = false ∧
    ∃ xs, KT H kvs xs ∧ h.DictOfH (tupleKind (mixKind P w)) a xs := by
  obtain ⟨z, y, xs, r, o, es, ep, h1, h2, h3, h4, h5⟩ := (show ObjOk P w H h a (.dT kvs) from rd_of ok e)
  refine ⟨z, y, xs, r, o, es, ep, h1, h2, h3, h4, fun x hx => ?_, h5⟩
  have all : ∀ {l : List (List Key × V)} {m : List (List Key × Addr × Value)}, KT H l m → ∀ x ∈ m, (tupleKind (mixKind P w)).is h x.1 x.2.1 := by
    intro l m q
    induction q with
    | nil => intro x hx; exact nomatch hx
    | @cons p q ps qs hq t ih =>
      intro x hx
      rcases List.mem_cons.mp hx with e | hx
      · subst e
        exact key_of ok (by rw [← hq.1]; exact hq.2.1)
      · exact ih x hx
  exact all r x hx
theorem dt_of {kvs : List (List Key × V)} (ok : HOk P w H h) (e : H a = some (.dT kvs)) : kvs.length ≤ sizeLine ∧ (a == sysModules) = false ∧
    ∃ xs, KT H kvs xs ∧ h.DictOfH (tupleKind (mixKind P w)) a xs := dt_rd ok (.inl e)
end
def KeyV (k : Key) (y : V) : Prop := y = kV k ∨ ∃ b, y = .bl b ∧ k = .inl (blI b)
theorem KeyV.is {P : Program} {w : World} {k : Key} {y : V} {u : Value} (h : KeyV k y) (r : RelV y u) : (mixKind P w).is k u = true := by
  rcases h with rfl | ⟨b, rfl, rfl⟩
  · exact kV_is r
  · cases (show u = Value.bool b from r)
    exact keyIs_bl b
def DGet (H : Hp) (a : Addr) (y : V) (r : Option V) : Prop :=
  (∃ kvs k, Rd H a (.dK kvs) ∧ KeyV k y ∧ r = valV kvs k) ∨ ∃ kvs k b, Rd H a (.dT kvs) ∧ y = .ref b ∧ H b = some (.tup (k.map kV)) ∧ r = valV kvs k
def DPut (H : Hp) (a : Addr) (y v : V) (H' : Hp) : Prop :=
  (∃ kvs k, H a = some (.dK kvs) ∧ KeyV k y ∧ kvs.length < sizeLine ∧ H' = upd H a (.dK (putK kvs k v))) ∨
  ∃ kvs k b, H a = some (.dT kvs) ∧ y = .ref b ∧ H b = some (.tup (k.map kV)) ∧ kvs.length < sizeLine ∧ H' = upd H a (.dT (putK kvs k v))
theorem DGet.t {H : Hp} {a b : Addr} {kvs : List (List Key × V)} {k : List Key} (e : H a = some (.dT kvs)) (eb : H b = some (.tup (k.map kV))) : DGet H a (.ref b) (valV kvs k) := .inr ⟨kvs, k, b, .inl e, rfl, eb, rfl⟩
theorem DPut.t {H : Hp} {a b : Addr} {kvs : List (List Key × V)} {k : List Key} {v : V} (e : H a = some (.dT kvs)) (eb : H b = some (.tup (k.map kV))) (hl : kvs.length < sizeLine) :
    DPut H a (.ref b) v (upd H a (.dT (putK kvs k v))) := .inr ⟨kvs, k, b, e, rfl, eb, hl, rfl⟩
section
variable {X : Cx} {pins : List (Addr × Obj)} {σ : St} {H : Hp} {s : Shared} {a : Addr} {y v : V} {u r : Value} {o : Option V} {A : Around} {E : Value → Shared → Prop}
theorem Inv.big (I : Inv X pins σ H s) : sysModules < s.heap.objs.size := by
  have h : mainGlobals < s.heap.objs.size := (I.mod.glob.keeps I.bk).lt
  exact Nat.lt_trans (by decide) h
theorem d_getItem {Q : Value → Shared → Prop} (hu : A.units + 1 < cLine) (I : Inv X pins σ H s) (g : DGet H a y (some v)) (ry : RelV y u) (h : ∀ w' s', Inv X pins σ H s' → RelV v w' → Q w' s') :
    wpAny (model X.prog X.w) A (getItem (.ref a) u) Q E s := by
  rcases g with ⟨kvs, k, e, ey, l⟩ | ⟨kvs, k, b, e, ey, eb, l⟩
  · obtain ⟨z, hd, vs, rel, dd⟩ := dk_rd I.hok e
    obtain ⟨w', hw, rw'⟩ := RelO.some_of (v := v) (o := valueAt vs k) (by rw [l]; exact rel.val k)
    exact wpAny_getItem_of (ey.is ry) dd.mapOf hw (h w' _ (I.tok _) rw')
  · subst ey
    cases (show u = Value.ref b from ry)
    obtain ⟨z, hd, xs, rel, dd⟩ := dt_rd I.hok e
    obtain ⟨w', hw, rw'⟩ := RelO.some_of (v := v) (o := (atKey xs k).map (·.2)) (by rw [l]; exact rel.val k)
    obtain ⟨p, hp, hp2⟩ := Option.map_eq_some_iff.mp hw
    refine wpAny_getItem_heap (tupleKind_room_in1 hu) (key_of I.hok eb) dd hp ?_
    rw [hp2]
    exact h w' _ (I.tok _) rw'
theorem d_in {Q : Value → Shared → Prop} (hu : A.units + 1 < cLine) (I : Inv X pins σ H s) (g : DGet H a y o) (ry : RelV y u) (h : ∀ s', Inv X pins σ H s' → Q (.bool o.isSome) s') :
    wpAny (model X.prog X.w) A (compareOp .In u (.ref a)) Q E s := by
  rcases g with ⟨kvs, k, e, ey, l⟩ | ⟨kvs, k, b, e, ey, eb, l⟩
  · obtain ⟨z, hd, vs, rel, dd⟩ := dk_rd I.hok e
    refine wpAny_in_of (ey.is ry) hd dd.mapOf ?_
    rw [← (rel.val k).isSome_eq, ← l]
    exact h _ (I.tok _)
  · subst ey
    cases (show u = Value.ref b from ry)
    obtain ⟨z, hd, xs, rel, dd⟩ := dt_rd I.hok e
    refine wpAny_in_heap (tupleKind_room_in1 hu) (key_of I.hok eb) hd dd ?_
    have q := (rel.val k).isSome_eq
    rw [Option.isSome_map] at q
    rw [← q, ← l]
    exact h _ (I.tok _)
theorem d_notIn {Q : Value → Shared → Prop} (hu : A.units + 1 < cLine) (I : Inv X pins σ H s) (g : DGet H a y o) (ry : RelV y u) (h : ∀ s', Inv X pins σ H s' → Q (.bool (!o.isSome)) s') :
    wpAny (model X.prog X.w) A (compareOp .NotIn u (.ref a)) Q E s := by
  rcases g with ⟨kvs, k, e, ey, l⟩ | ⟨kvs, k, b, e, ey, eb, l⟩
  · obtain ⟨z, hd, vs, rel, dd⟩ := dk_rd I.hok e
    refine wpAny_notIn_of (ey.is ry) hd dd.mapOf ?_
    rw [← (rel.val k).isSome_eq, ← l]
    exact h _ (I.tok _)
  · subst ey
    cases (show u = Value.ref b from ry)
    obtain ⟨z, hd, xs, rel, dd⟩ := dt_rd I.hok e
    refine wpAny_notIn_heap (tupleKind_room_in1 hu) (key_of I.hok eb) hd dd ?_
    have q := (rel.val k).isSome_eq
    rw [Option.isSome_map] at q
    rw [← q, ← l]
    exact h _ (I.tok _)
theorem d_write {h' : Heap} {t' : Nat} {ob : HO} (I : Inv X pins σ H s) (mu : Mut (H a)) (hs : Heap.SameBut a s.heap h') (he : ∃ q, h'.get? a = some q) (new : ObjOk X.prog X.w (upd H a ob) h' a ob) :
    Inv X pins σ (upd H a ob) { s with heap := h', toks := t' } :=
  I.write (x := a) (e := a) mu (.inl rfl) (fun b q hb z => (hs.2 b hb).trans z) he new
theorem dk_new {P : Program} {w : World} {H' : Hp} {h' : Heap} {kvs : List (Key × V)} {vs : List (Key × Value)} (z : kvs.length ≤ sizeLine) (hd : (a == sysModules) = false) (rel : KV kvs vs) (dd : h'.DictOf (mixKind P w) a vs) :
    ObjOk P w H' h' a (.dK kvs) := ⟨z, hd, vs, rel, dd⟩
theorem d_setItem {H' : Hp} {Q : Unit → Shared → Prop} (hu : A.units + 1 < cLine) (I : Inv X pins σ H s) (g : DPut H a y v H') (ry : RelV y u) (rv : RelV v r) (h : ∀ s', Inv X pins σ H' s' → Q () s') :
    wpAny (model X.prog X.w) A (setItem (.ref a) u r) Q E s := by
  rcases g with ⟨kvs, k, e, ey, l, eH⟩ | ⟨kvs, k, b, e, ey, eb, l, eH⟩
  · subst eH
    obtain ⟨z, hd, vs, rel, dd⟩ := dk_of I.hok e
    have hz : vs.length ≤ sizeLine := by rw [← rel.length]; exact z
    have hl : (putK kvs k v).length ≤ sizeLine := by have := length_putK kvs k v; omega
    refine wpAny_setItem_pairs (hsz := hz) (ey.is ry) dd fun h' dd' hs => h _ ?_
    have he : ∃ q, h'.get? a = some q := let ⟨q, _, _, hq, _⟩ := dd'; ⟨q, hq⟩
    exact d_write I (by rw [e]; exact True.intro) hs he (dk_new hl hd (rel.put k rv) dd')
  · subst ey eH
    cases (show u = Value.ref b from ry)
    obtain ⟨z, hd, xs, rel, dd⟩ := dt_of I.hok e
    have hz : xs.length ≤ sizeLine := by rw [← Paired.length rel]; exact z
    have hl : (putK kvs k v).length ≤ sizeLine := by have := length_putK kvs k v; omega
    refine wpAny_setItem_heap (hsz := hz) (tupleKind_room_in1 hu) (key_of I.hok eb) dd fun h' dd' hs => h _ ?_
    obtain ⟨q, es, ep, hq, h2, h3, h4, _, h5⟩ := dd'
    refine d_write I (by rw [e]; exact True.intro) hs ⟨q, hq⟩ ⟨hl, hd, _, (rel.put k eb rv).keeps fun c ys ec => ?_, q, es, ep, hq, h2, h3, h4, h5⟩
    rw [upd_ne (ne_of ec e (fun z => nomatch z))]
    exact ec
end
def NoSl (i : Expr) : Prop := ∀ ov iv, subscripted i false ov iv = operate [ov, iv] (getItem ov iv)
theorem subD_of {prog : Program} {w : World} {A : Around} {E : Value → Shared → Prop} {s : Shared} {env : Env} {value slice : Expr} {pos : Pos} {T id : String} {Q : Value → Shared → Prop}
    (hl : typeLookup (.type T) "__getitem__" = pure (some (.builtin id))) (hs : NoSl slice)
    (h : wpAny (model prog w) A (eval value env) (fun o s₁ => wpAny (model prog w) A (eval slice env) (fun i s₂ => s₂.TypeIs o T ∧ wpAny (model prog w) A (getItem o i) Q E s₂) E s₁) E s) :
    wpAny (model prog w) A (eval (.Subscript value slice pos) env) Q E s := by
  refine Subscript_ (wpAny_mono h (fun o s₁ h₁ => wpAny_mono h₁ (fun i s₂ h₂ => ?_) fun _ _ x => x) fun _ _ x => x)
  obtain ⟨hT, h₂⟩ := h₂
  unfold subscriptTail
  refine wpAny_bind ?_
  rw [getitemInPython_of_ne hT.not_modules]
  refine wpAny_bind (wpAny_specialOf hT hl ?_)
  have fin : wpAny (model prog w) A (subscripted slice false o i) (fun r s₃ => wpAny (model prog w) A (letTemporaryGo value o r >>= fun _ => pure r) Q E s₃) E s₂ := by
    rw [hs o i]
    exact wpAny_operating (wpAny_mono h₂ (fun r s₃ h₃ => wpAny_bind (wpAny_letTemporaryGo (wpAny_pure h₃))) fun _ _ x => x)
  first
    | exact wpAny_pure (wpAny_bind fin)
    | exact wpAny_bind (wpAny_pure (wpAny_bind fin))
    | exact wpAny_bind fin
theorem dict_typeIs {X : Cx} {pins : List (Addr × Obj)} {σ : St} {H : Hp} {s : Shared} {a : Addr} {y : V} {o : Option V} (I : Inv X pins σ H s) (g : DGet H a y o) : s.TypeIs (.ref a) "dict" := by
  rcases g with ⟨kvs, k, e, _, _⟩ | ⟨kvs, k, b, e, _, _, _⟩
  · obtain ⟨_, _, vs, _, dd⟩ := dk_rd I.hok e
    exact dd.typeIs
  · obtain ⟨_, _, xs, _, dd⟩ := dt_rd I.hok e
    exact dd.typeIs
def tDGet (td ty : TE) : TE := fun σ H Q => td σ H fun x H1 => ty σ H1 fun y H2 => ∃ a v, x = .ref a ∧ DGet H2 a y (some v) ∧ Q v H2
def sDPut (td ty tv : TE) : TS := fun D σ H => tv σ H fun v H1 => td σ H1 fun x H2 => ty σ H2 fun y H3 => ∃ a H4, x = .ref a ∧ DPut H3 a y v H4 ∧ D.nx σ H4
section
variable {X : Cx} {o i e value : Expr} {pos pos' tpos : Pos} {td ty tv : TE}
theorem pe_dget (hu : X.A.units + 1 < cLine) (ho : PE X o td) (hi : PE X i ty) (hs : NoSl i) : PE X (.Subscript o i pos) (tDGet td ty) := by
  intro pins s σ H Q I h
  refine subD_of PySem.F.slot_dict_getitem.lookup hs (thn (ho pins s σ H _ I h) fun u s1 ⟨x, H1, I1, rx, q1⟩ => thn (hi pins s1 σ H1 _ I1 q1) fun iv s2 ⟨y, H2, I2, ry, a, v, ex, g, q2⟩ => ?_)
  subst ex
  obtain rfl : u = Value.ref a := rx
  exact ⟨dict_typeIs I2 g, d_getItem hu I2 g ry fun w' s3 I3 rw' => ⟨v, H2, I3, rw', q2⟩⟩
theorem ps_dput (hu : X.A.units + 1 < cLine) (ho : PE X o td) (hi : PE X i ty) (hv : PE X value tv) (hs : swapsWith value (some (.Subscript o i pos')) pos.line X.env = pure false) :
    PS X (.Assign [.Subscript o i pos'] value pos) (sDPut td ty tv) := by
  intro pins s σ H D I h
  refine wpAny_Assign_Subscript (thn (hv pins s σ H _ I h) fun r s1 ⟨v, H1, I1, rv, q1⟩ => thn (ho pins s1 σ H1 _ I1 q1) fun u s2 ⟨x, H2, I2, rx, q2⟩ => thn (hi pins s2 σ H2 _ I2 q2) fun iv s3 ⟨y, H3, I3, ry, a, H4, ex, g, q3⟩ => ?_) hs
  subst ex
  obtain rfl : u = Value.ref a := rx
  exact d_setItem hu I3 g ry rv fun s4 I4 => ⟨σ, H4, I4, q3⟩
end
theorem dt_empty {P : Program} {w : World} {H : Hp} (h : Heap) (hb : sysModules < h.objs.size) : ObjOk P w H (h.push { cls := .type "dict", data := .dict #[] }) h.objs.size (.dT []) :=
  ⟨Nat.zero_le _, beq_eq_false_iff_ne.mpr (Ne.symm (Nat.ne_of_lt hb)), [], .nil, _, #[], 0, Heap.get?_push_size _ rfl, ⟨rfl, rfl, rfl⟩, rfl, rfl, List.nodup_nil⟩
def tDNewT : TE := fun _ H Q => ∀ p, H p = none → Q (.ref p) (upd H p (.dT []))
section
variable {X : Cx} {pos : Pos}
theorem pe_dnewT : PE X (.Dict [] [] pos) tDNewT := fun pins s σ H Q I h =>
  wpAny_Dict_empty ⟨.ref s.heap.objs.size, _, I.laid (a := s.heap.objs.size) (o := .dT []) (t' := s.toks) (fun _ _ q => Heap.get?_push_of_some _ q) (Nat.le_refl _) (dt_empty s.heap I.big), rfl, h _ (I.hok.fresh (Nat.le_refl _))⟩
end
section
variable {κ : Type} [DecidableEq κ]
theorem nd_snoc : ∀ {l : List κ} {k : κ}, l.Nodup → ¬ k ∈ l → (l ++ [k]).Nodup
  | [], k, _, _ => by simp
  | a :: r, k, h, hk => by
    obtain ⟨h1, h2⟩ := List.nodup_cons.mp h
    show (a :: (r ++ [k])).Nodup
    refine List.nodup_cons.mpr ⟨fun m => ?_, nd_snoc h2 fun m => hk (List.mem_cons.mpr (Or.inr m))⟩
    rcases List.mem_append.mp m with q | q
    · exact h1 q
    · exact hk (List.mem_cons.mpr (Or.inl (List.mem_singleton.mp q).symm))
end
def notStar : Expr → Bool
  | .Starred _ _ => false
  | _ => true
theorem star_cons {e : Expr} {es : List Expr} {env : Env} (h : notStar e = true) : starEach (e :: es) env = (false, eval e env) :: starEach es env := by
  cases e with
  | Starred v q => exact absurd (show false = true from h) Bool.false_ne_true
  | _ => rw [starEach.eq_def]
theorem star_any : ∀ {es : List Expr} {env : Env} {pos : Pos}, es.all notStar = true → (backTo pos (starEach es env)).any (·.1) = false
  | [], env, pos, _ => by rw [starEach.eq_def]; rfl
  | e :: r, env, pos, h => by
    rw [List.all_cons, Bool.and_eq_true] at h
    rw [star_cons h.1]
    exact star_any h.2
section
variable {X : Cx} {x : Str} {p pos : Pos} {e : Expr} {es : List Expr} {te : TE} {t : TA} {T id : String} {r : List V → Hp → VK → Prop}
theorem pa_c (ha : PE X e te) (hr : PA X es t) (h : notStar e = true := by rfl) : PA X (e :: es) (tCons te t) := pa_cons ha hr (star_cons h)
theorem pe_cB (hc : CallR X (.builtin id) r) (hg : Gl X x) (hm : X.mg x = none) (hv : bootBuiltins x = some (.builtin id)) (ha : PA X (e :: es) t) (hn : x ≠ "__name__" := by decide) (hdb : (x == ("__debug__" : Str)) = false := by decide)
    (h1 : notStar e = true := by rfl) (h2 : es.all notStar = true := by rfl) : PE X (.Call (.Name x p) (e :: es) [] pos) (tCB r t) := pe_callB hc hg hm hv ha hn hdb (star_cons h1) (star_any h2)
theorem pe_cTy (hc : CallR X (.type T) r) (hg : Gl X x) (hm : X.mg x = none) (hv : bootBuiltins x = some (.type T)) (ha : PA X (e :: es) t) (hn : x ≠ "__name__" := by decide) (hdb : (x == ("__debug__" : Str)) = false := by decide)
    (h1 : notStar e = true := by rfl) (h2 : es.all notStar = true := by rfl) : PE X (.Call (.Name x p) (e :: es) [] pos) (tCB r t) := pe_callTy hc hg hm hv ha hn hdb (star_cons h1) (star_any h2)
end
structure Dfn (K : PySem.W.Frag) (mg : Str → Option Value) (x : Str) (st : Stmt) (ps : List Str) : Prop where
  ex : ∃ f fd, Fun K x x st f fd ∧ Binds K fd ps [] ∧ mg x = some (.ref f)
structure Cal (P : Program) (w : World) (K : PySem.W.Frag) (mg : Str → Option Value) (base : Heap) (n : Nat) (x : Str) (ps : List Str) (sp : Sp) : Prop where
  ex : ∃ f fd, FnOk P w K mg base CX0 n f fd ps sp ∧ Binds K fd ps [] ∧ PySem.W.keepIn K (.ref f) = true ∧ mg x = some (.ref f)
section
variable {P : Program} {w : World} {K : PySem.W.Frag} {mg : Str → Option Value} {base : Heap}
theorem Dfn.cal {x : Str} {st : Stmt} {N ps : List Str} {k : Nat} {sp : Sp} (d : Dfn K mg x st ps) (S : FnScope N ps (defScope st)) (len : ∀ vs H Q E, sp vs H Q E → vs.length = ps.length)
    (hbody : ∀ (f : Addr) (cdv : Value) (A : Around) (outer : List Env) (s : Shared) (H : Hp) (vs : List V) (Q : VK) (E : XK), Room k (A.deeper (envOfC x (defScope st) s.heap.objs.size f cdv)) → sp vs H Q E →
      ∃ t, PSs (cxOf CX0 P w K mg base N x (defScope st) f cdv A outer s H E).nox (defBody st) t ∧ t { nx := fun _ H' => Q .non H', rt := Q } (start N vs) H) : Cal P w K mg base (k + 1) x ps sp := by
  obtain ⟨f, fd, F, b, m⟩ := d.ex
  exact ⟨f, fd, F.ok S len (hbody f), b, F.kp, m⟩
theorem Cal.mono {j k : Nat} {x : Str} {ps : List Str} {sp : Sp} (c : Cal P w K mg base j x ps sp) (h : j ≤ k) : Cal P w K mg base k x ps sp := by
  obtain ⟨f, fd, F, r⟩ := c.ex
  exact ⟨f, fd, F.mono h, r⟩
theorem Dfn.never {x : Str} {st : Stmt} {ps : List Str} {sp : Sp} (d : Dfn K mg x st ps) (no : ∀ vs H Q E, ¬ sp vs H Q E) : Cal P w K mg base 0 x ps sp := by
  obtain ⟨f, fd, F, b, m⟩ := d.ex
  exact ⟨f, fd, ⟨fun vs H Q E h => absurd h (no vs H Q E), fun A outer s H args us vs Q E _ _ _ _ h => absurd h (no vs H Q E)⟩, b, F.kp, m⟩
end
section
variable {X : Cx} {n k : Nat} {x : Str} {ps : List Str} {sp : Sp} {p pos : Pos} {e : Expr} {es : List Expr} {t : TA}
theorem pe_callC (C : Cal X.prog X.w X.K X.mg X.base n x ps sp) (hr : Room k X.A) (hle : n ≤ k) (hg : Gl X x) (ha : PA X (e :: es) t) (hdb : (x == ("__debug__" : Str)) = false := by decide)
    (h1 : notStar e = true := by rfl) (h2 : es.all notStar = true := by rfl) : PE X (.Call (.Name x p) (e :: es) [] pos) (tCall sp [] E0 t) := by
  obtain ⟨f, fd, F, b, kp, m⟩ := C.ex
  exact pe_call F (hr.mono hle) hg m kp b .nil pass0 ha hdb (star_cons h1) (star_any h2)
def GlV (mg : Str → Option Value) (x : Str) (v : V) : Prop := ∃ u, mg x = some u ∧ RelV v u
theorem pe_gl {v : V} (hg : Gl X x) (h : GlV X.mg x v) (hd : (x == ("__debug__" : Str)) = false := by decide) : PE X (.Name x pos) (tC v) := by
  obtain ⟨u, m, r⟩ := h
  exact pe_glob hg m r hd
end
theorem CompOk.of {X : Cx} {scope : Scope} {cp : List (Nat × Str)} (kind : scope.kind = .function)
    (h1 : (scope.names.all fun y => y.2 != .cell && (y.2 != .local || scope.names.lookup y.1 == some .local) && (y.2 != .free || (X.env.scope.names.lookup y.1 == some .cell || X.env.scope.names.lookup y.1 == some .free))) = true)
    (h2 : (cp.all fun p => X.N[p.1]? == some p.2 && scope.names.lookup p.2 == some .free) = true) : CompOk X scope cp := by
  have g := List.all_eq_true.mp h1
  refine ⟨kind, fun y hy e => ?_, fun y hy e => ?_, fun y hy e => ?_, fun p hp => ?_⟩
  · have q := g y hy
    rw [Bool.and_eq_true, Bool.and_eq_true] at q
    rw [e] at q
    exact absurd q.1.1 (by decide)
  · have q := g y hy
    rw [Bool.and_eq_true, Bool.and_eq_true] at q
    have q := q.1.2
    rw [e] at q
    simpa using q
  · have q := g y hy
    rw [Bool.and_eq_true, Bool.and_eq_true] at q
    have q := q.2
    rw [e] at q
    have q : X.env.scope.names.lookup y.1 = some .cell ∨ X.env.scope.names.lookup y.1 = some .free := by simpa using q
    exact q
  · have q := List.all_eq_true.mp h2 p hp
    rw [Bool.and_eq_true] at q
    exact ⟨by simpa using q.1, by simpa using q.2⟩
inductive Kd (H : Hp) : V → String → Prop where
  | non : Kd H .non "NoneType"
  | bl (b : Bool) : Kd H (.bl b) "bool"
  | int (i : Int) : Kd H (.int i) "int"
  | str (z : Str) : Kd H (.str z) "str"
  | lst {a : Addr} {xs : List V} (e : H a = some (.lst xs)) : Kd H (.ref a) "list"
  | tup {a : Addr} {xs : List V} (e : H a = some (.tup xs)) : Kd H (.ref a) "tuple"
  | dK {a : Addr} {kvs : List (Key × V)} (e : H a = some (.dK kvs)) : Kd H (.ref a) "dict"
def kinds : List String := ["NoneType", "bool", "int", "str", "list", "tuple", "dict"]
def subT (k T : String) : Bool := k == T || (k == "bool" && T == "int")
theorem kit_ok (K : PySem.W.Frag) : ∀ k ∈ kinds, ∀ T ∈ ["str", "list", "tuple", "bool", "int", "dict"], PySem.W.kitOne K (.type k) (.type T) = some (subT k T) := by
  intro k hk T hT
  simp only [kinds, List.mem_cons, List.not_mem_nil, or_false] at hk hT
  rcases hk with rfl | rfl | rfl | rfl | rfl | rfl | rfl <;> rcases hT with rfl | rfl | rfl | rfl | rfl | rfl <;> first | rfl | kernel_rfl
theorem Kd.ty {K : PySem.W.Frag} {H : Hp} {x : V} {k : String} (h : Kd H x k) : TyOf K H x (.type k) ∧ k ∈ kinds := by
  cases h with
  | non => exact ⟨.non, by decide⟩
  | bl b => exact ⟨.bl b, by decide⟩
  | int i => exact ⟨.int i, by decide⟩
  | str z => exact ⟨.str z, by decide⟩
  | lst e => exact ⟨.lst e, by decide⟩
  | tup e => exact ⟨.tup e, by decide⟩
  | dK e => exact ⟨.dK e, by decide⟩
theorem Kd.same {H H' : Hp} {x : V} {k : String} (h : Kd H x k) (g : Same H H') : Kd H' x k := by
  cases h with
  | non => exact .non
  | bl b => exact .bl b
  | int i => exact .int i
  | str z => exact .str z
  | lst e => exact .lst (g _ _ e)
  | tup e => exact .tup (g _ _ e)
  | dK e => exact .dK (g _ _ e)
theorem Kd.inj {H : Hp} {x : V} {k k' : String} (h : Kd H x k) (h' : Kd H x k') : k = k' := by
  cases h with
  | lst e => cases h' with | lst _ => rfl | tup e' => rw [e] at e'; cases e' | dK e' => rw [e] at e'; cases e'
  | tup e => cases h' with | lst e' => rw [e] at e'; cases e' | tup _ => rfl | dK e' => rw [e] at e'; cases e'
  | dK e => cases h' with | lst e' => rw [e] at e'; cases e' | tup e' => rw [e] at e'; cases e' | dK _ => rfl
  | non => cases h'; rfl
  | bl _ => cases h'; rfl
  | int _ => cases h'; rfl
  | str _ => cases h'; rfl
theorem call_isk {X : Cx} : CallR X (.builtin "isinstance") (fun xs H Q => ∃ x T k, xs = [x, .ty T] ∧ Kd H x k ∧ T ∈ ["str", "list", "tuple", "bool", "int", "dict"] ∧ Q (.bl (subT k T)) H) := by
  intro pins s σ H xs us Q I r h
  obtain ⟨x, T, k, e, hk, hT, q⟩ := h
  obtain ⟨h1, h2⟩ := hk.ty (K := X.K)
  exact call_isinst pins s σ H xs us Q I r ⟨x, T, .type k, _, e, h1, kit_ok X.K k h2 T hT, q⟩
theorem same_upd {H : Hp} {p : Addr} (h : H p = none) (o : HO) : Same H (upd H p o) := fun b u q => by rw [upd_ne (ne_of_none q h)]; exact q
theorem Same.seqT {K : PySem.W.Frag} {H H' : Hp} {a : Addr} {xs : List V} (e : Same H H') (h : SqT K H a xs) : SqT K H' a xs := by
  rcases h with (h | ⟨o, h⟩) | h
  · exact .inl (.inl (e _ _ h))
  · exact .inl (.inr ⟨o, e _ _ h⟩)
  · exact .inr h
section
variable {H : Hp} {Q : VK} {v : V} {a : Option V} {r : St} {i : Nat}
theorem rd_st {t : TS} {D : Ends} {σ : St} (σ' : St) (e : σ = σ') (h : t D σ' H) : t D σ H := by rw [e]; exact h
theorem rd_v0 : tVar 0 (some v :: r) H Q = Q v H := by simp [tVar]
theorem rd_vS : tVar (i + 1) (a :: r) H Q = tVar i r H Q := rfl
theorem rd_ss {a b : Str} : (scal (.str a) (.str b) = true) = True := by simp [scal]
theorem rd_ii {a b : Int} : (scal (.int a) (.int b) = true) = True := by simp [scal]
def cBody (tn : List Str) (cp : List (Nat × Str)) (g : TG) (tif : TT) (te : TE) (σ : St) (Q : VK) (J : It) (H1 : Hp) : Prop := ∀ D, H1 D = none → ∃ W : Nat → Nat → St → Hp → Prop,
  (∃ m, W 0 m (stB tn cp σ) (upd H1 D (.lst []))) ∧ ∀ i m σb Hb, W i m σb Hb →
    (J.stop i Hb ∧ Q (.ref D) Hb) ∨ (J.go i Hb ∧ ∀ x H', J.yld i Hb x H' → g x σb H' fun σ2 H2 => tif σ2 H2 fun c H3 =>
      if c = true then te σ2 H3 fun y H4 => ∃ ys, H4 D = some (.lst ys) ∧ ys.length < sizeLine ∧ ∃ m', m' < m ∧ W (i + 1) m' σ2 (upd H4 D (.lst (ys ++ [y])))
      else ∃ m', m' < m ∧ W (i + 1) m' σ2 H3)
theorem rd_comp {tn : List Str} {cp : List (Nat × Str)} {wi : TI} {g : TG} {tif : TT} {te : TE} {σ : St} : tComp tn cp wi g tif te σ H Q = wi σ H fun J H1 => cBody tn cp g tif te σ Q J H1 := rfl
def fBody (g : TG) (tb : TS) (D : Ends) (σ : St) (J : It) (H1 : Hp) : Prop := ∃ W : Nat → Nat → St → Hp → Prop, (∃ m, W 0 m σ H1) ∧ ∀ i m σ H, W i m σ H →
  (J.stop i H ∧ D.nx σ H) ∨ (J.go i H ∧ ∃ N : St → Hp → Prop, (∀ σ' H', N σ' H' → ∃ m', m' < m ∧ W (i + 1) m' σ' H') ∧ ∀ x H', J.yld i H x H' → g x σ H' fun σ2 H2 => tb { D with nx := N, ct := N, bk := D.nx } σ2 H2)
theorem rd_for {wi : TI} {g : TG} {tb : TS} {D : Ends} {σ : St} : tFor wi g tb D σ H = wi σ H fun J H1 => fBody g tb D σ J H1 := rfl
end
section
variable {tn : List Str} {cp : List (Nat × Str)} {g : TG} {tif : TT} {te : TE} {σ0 : St} {Q : VK} {H1 : Hp}
theorem cb_by {J : It} (n : Nat) (Pv : Addr → Nat → List V → St → Hp → Prop) (hn : n ≤ sizeLine) (h0 : ∀ D, H1 D = none → Pv D 0 [] (stB tn cp σ0) (upd H1 D (.lst [])))
    (hgo : ∀ D i ys σ H, H1 D = none → i < n → H D = some (.lst ys) → Pv D i ys σ H → J.go i H) (hstop : ∀ D ys σ H, H1 D = none → H D = some (.lst ys) → Pv D n ys σ H → J.stop n H)
    (hs : ∀ D i ys σ H x H', H1 D = none → i < n → H D = some (.lst ys) → ys.length ≤ i → Pv D i ys σ H → J.yld i H x H' → g x σ H' fun σ2 H2 => tif σ2 H2 fun c H3 =>
      if c = true then te σ2 H3 fun y H4 => CStep D n i (Pv D) σ2 y H4 else CSkip D n i (Pv D) σ2 H3)
    (hd : ∀ D ys σ H, H1 D = none → H D = some (.lst ys) → ys.length ≤ n → Pv D n ys σ H → Q (.ref D) H) : cBody tn cp g tif te σ0 Q J H1 := fun D hD =>
  comp_by (Pv D) hn (h0 D hD) (fun i ys σ H => hgo D i ys σ H hD) (fun ys σ H => hstop D ys σ H hD) (fun i ys σ H hi hH hl p x H' y => hs D i ys σ H x H' hD hi hH hl p y) (fun ys σ H => hd D ys σ H hD)
theorem cb_str {z : Str} (Pv : Addr → Nat → List V → St → Hp → Prop) (hn : z.cps.size ≤ sizeLine) (h0 : ∀ D, H1 D = none → Pv D 0 [] (stB tn cp σ0) (upd H1 D (.lst [])))
    (hs : ∀ D i ys σ H c, H1 D = none → i < z.cps.size → z.cps[i]? = some c → H D = some (.lst ys) → ys.length ≤ i → Pv D i ys σ H → g (.str ⟨#[c]⟩) σ H fun σ2 H2 => tif σ2 H2 fun c H3 =>
      if c = true then te σ2 H3 fun y H4 => CStep D z.cps.size i (Pv D) σ2 y H4 else CSkip D z.cps.size i (Pv D) σ2 H3)
    (hd : ∀ D ys σ H, H1 D = none → H D = some (.lst ys) → ys.length ≤ z.cps.size → Pv D z.cps.size ys σ H → Q (.ref D) H) : cBody tn cp g tif te σ0 Q (Its z) H1 := fun D hD =>
  comp_str (Pv D) hn (h0 D hD) (fun i ys σ H c => hs D i ys σ H c hD) (fun ys σ H => hd D ys σ H hD)
theorem cb_list {K : PySem.W.Frag} {a : Addr} {xs : List V} (Pv : Addr → Nat → List V → St → Hp → Prop) (hn : xs.length ≤ sizeLine) (h0 : ∀ D, H1 D = none → Pv D 0 [] (stB tn cp σ0) (upd H1 D (.lst [])))
    (hl : ∀ D i ys σ H, H1 D = none → i ≤ xs.length → H D = some (.lst ys) → Pv D i ys σ H → SqL K H a xs)
    (hs : ∀ D i ys σ H x, H1 D = none → i < xs.length → xs[i]? = some x → H D = some (.lst ys) → ys.length ≤ i → Pv D i ys σ H → g x σ H fun σ2 H2 => tif σ2 H2 fun c H3 =>
      if c = true then te σ2 H3 fun y H4 => CStep D xs.length i (Pv D) σ2 y H4 else CSkip D xs.length i (Pv D) σ2 H3)
    (hd : ∀ D ys σ H, H1 D = none → H D = some (.lst ys) → ys.length ≤ xs.length → Pv D xs.length ys σ H → Q (.ref D) H) : cBody tn cp g tif te σ0 Q (Itl K a) H1 := fun D hD =>
  comp_list (Pv D) hn (h0 D hD) (fun i ys σ H => hl D i ys σ H hD) (fun i ys σ H x => hs D i ys σ H x hD) (fun ys σ H => hd D ys σ H hD)
theorem cb_tup {K : PySem.W.Frag} {a : Addr} {xs : List V} (Pv : Addr → Nat → List V → St → Hp → Prop) (hn : xs.length ≤ sizeLine) (h0 : ∀ D, H1 D = none → Pv D 0 [] (stB tn cp σ0) (upd H1 D (.lst [])))
    (hl : ∀ D i ys σ H, H1 D = none → i ≤ xs.length → H D = some (.lst ys) → Pv D i ys σ H → SqT K H a xs)
    (hs : ∀ D i ys σ H x, H1 D = none → i < xs.length → xs[i]? = some x → H D = some (.lst ys) → ys.length ≤ i → Pv D i ys σ H → g x σ H fun σ2 H2 => tif σ2 H2 fun c H3 =>
      if c = true then te σ2 H3 fun y H4 => CStep D xs.length i (Pv D) σ2 y H4 else CSkip D xs.length i (Pv D) σ2 H3)
    (hd : ∀ D ys σ H, H1 D = none → H D = some (.lst ys) → ys.length ≤ xs.length → Pv D xs.length ys σ H → Q (.ref D) H) : cBody tn cp g tif te σ0 Q (Itt K a) H1 :=
  cb_by xs.length Pv hn h0 (fun D i ys σ H hD hi hH p => ⟨xs, xs[i], hl D i ys σ H hD (Nat.le_of_lt hi) hH p, by simp [hi]⟩) (fun D ys σ H hD hH p => ⟨xs, hl D _ ys σ H hD (Nat.le_refl _) hH p, Nat.le_refl _⟩) (fun D i ys σ H x H' hD hi hH hl' p y => by
    obtain ⟨e, y⟩ := y
    subst e
    exact hs D i ys σ _ x hD hi (y xs (hl D i ys σ _ hD (Nat.le_of_lt hi) hH p)) hH hl' p) hd
variable {tb : TS} {D : Ends}
theorem fb_list {K : PySem.W.Frag} {a : Addr} {xs : List V} (Pv : Nat → St → Hp → Prop) (h0 : Pv 0 σ0 H1) (hl : ∀ i σ H, i ≤ xs.length → Pv i σ H → SqL K H a xs)
    (hs : ∀ i x σ H, xs[i]? = some x → Pv i σ H → g x σ H fun σ2 H2 => tb { D with nx := Pv (i + 1), ct := Pv (i + 1), bk := D.nx } σ2 H2) (hd : ∀ σ H, Pv xs.length σ H → D.nx σ H) : fBody g tb D σ0 (Itl K a) H1 := for_list Pv h0 hl hs hd
theorem fb_tup {K : PySem.W.Frag} {a : Addr} {xs : List V} (Pv : Nat → St → Hp → Prop) (h0 : Pv 0 σ0 H1) (hl : ∀ i σ H, i ≤ xs.length → Pv i σ H → SqT K H a xs)
    (hs : ∀ i x σ H, xs[i]? = some x → Pv i σ H → g x σ H fun σ2 H2 => tb { D with nx := Pv (i + 1), ct := Pv (i + 1), bk := D.nx } σ2 H2) (hd : ∀ σ H, Pv xs.length σ H → D.nx σ H) : fBody g tb D σ0 (Itt K a) H1 := for_tup Pv h0 hl hs hd
theorem fb_range {lo : Int} {n : Nat} (Pv : Nat → St → Hp → Prop) (h0 : Pv 0 σ0 H1)
    (hs : ∀ i σ H, i < n → Pv i σ H → g (.int (lo + i)) σ H fun σ2 H2 => tb { D with nx := Pv (i + 1), ct := Pv (i + 1), bk := D.nx } σ2 H2) (hd : ∀ σ H, Pv n σ H → D.nx σ H) : fBody g tb D σ0 (Itr lo n) H1 := for_range Pv h0 hs hd
end
theorem pick_any {α : Type} (xs : List α) : ∀ (i k : Nat), ((List.range k).map fun m => i + m).filterMap (fun j => xs[j]?) = (xs.drop i).take k
  | i, 0 => by simp
  | i, k + 1 => by
    have ih := pick_any xs (i + 1) k
    rw [List.range_succ_eq_map, List.map_cons, List.map_map, List.filterMap_cons]
    have e : ((fun m => i + m) ∘ Nat.succ) = fun m => i + 1 + m := by funext m; simp [Function.comp]; omega
    rw [e]
    by_cases h : i < xs.length
    · rw [show i + 0 = i from rfl, List.getElem?_eq_getElem h, ih, List.drop_eq_getElem_cons h, List.take_succ_cons]
    · rw [show i + 0 = i from rfl, List.getElem?_eq_none (by omega), ih, List.drop_eq_nil_of_le (by omega), List.drop_eq_nil_of_le (by omega)]
      simp
def cutL {α : Type} (xs : List α) (lo hi : Option Int) : List α := (xs.drop (HT.sIx xs.length 0 lo)).take (HT.sIx xs.length xs.length hi - HT.sIx xs.length 0 lo)
theorem idx_go {a b : Nat} {A B : Int} (hA : A = a) (hB : B = b) : PySem.sliceRange A B 1 = (List.range (b - a)).map fun m => a + m := by
  subst hA hB
  unfold PySem.sliceRange
  simp only [show (1 : Int) > 0 by decide, if_true]
  have e3 : (if (a : Int) < (b : Int) then ((b : Int) - (a : Int) + 1 - 1) / 1 else 0).toNat = b - a := by
    split <;> omega
  rw [e3]
  refine List.map_congr_left fun m _ => ?_
  omega
theorem slice_idx (lo hi : Option Int) (n : Nat) : Builtin.Str.strSliceIndices lo hi 1 n = (List.range (HT.sIx n n hi - HT.sIx n 0 lo)).map fun m => HT.sIx n 0 lo + m := by
  unfold Builtin.Str.strSliceIndices
  refine idx_go ?_ ?_
  · cases lo with
    | none => rfl
    | some v =>
      rw [← HT.clip_eq v n 0]
      simp only [show (1 : Int) > 0 by decide, if_true]
      split <;> omega
  · cases hi with
    | none => rfl
    | some v =>
      rw [← HT.clip_eq v n n]
      simp only [show (1 : Int) > 0 by decide, if_true]
      split <;> omega
theorem slice_cps (z : Str) (lo hi : Option Int) : (Txt.slice z lo hi).cps.toList = cutL z.cps.toList lo hi := by
  have hl : z.cps.toList.length = z.length := by simp [Str.length]
  unfold Txt.slice cutL
  rw [hl, slice_idx]
  have p := pick_any z.cps.toList (HT.sIx z.length 0 lo) (HT.sIx z.length z.length hi - HT.sIx z.length 0 lo)
  have e : (fun (j : Nat) => z.cps.toList[j]?) = fun (j : Nat) => z.cps[j]? := by funext j; simp
  rw [e] at p
  split
  · rename_i h
    simp only [List.length_map, List.length_range, beq_self_eq_true, Bool.true_and, beq_iff_eq] at h
    have h1 := HT.sIx_le z.length z.length (Nat.le_refl _) hi
    have h3 := HT.sIx_le z.length 0 (Nat.zero_le _) lo
    have h0 : HT.sIx z.length 0 lo = 0 := by omega
    have h2 : HT.sIx z.length z.length hi - HT.sIx z.length 0 lo = z.length := h
    rw [h2, h0, List.drop_zero, List.take_of_length_le (by rw [hl]; exact Nat.le_refl _)]
  · rw [← p]
theorem cutL_from {α : Type} (xs : List α) (k : Nat) : cutL xs (some (k : Int)) none = xs.drop k := by
  unfold cutL
  rw [HT.sIx_nat, HT.sIx_none, List.take_of_length_le (by rw [List.length_drop]; exact Nat.le_refl _)]
  by_cases h : k ≤ xs.length
  · rw [Nat.min_eq_left h]
  · rw [Nat.min_eq_right (by omega), List.drop_eq_nil_of_le (Nat.le_refl _), List.drop_eq_nil_of_le (by omega)]
theorem cutL_to {α : Type} (xs : List α) (k : Nat) : cutL xs none (some (k : Int)) = xs.take k := by
  unfold cutL
  rw [HT.sIx_nat, HT.sIx_none, List.drop_zero, Nat.sub_zero]
  by_cases h : k ≤ xs.length
  · rw [Nat.min_eq_left h]
  · rw [Nat.min_eq_right (by omega), List.take_of_length_le (Nat.le_refl _), List.take_of_length_le (by omega)]
theorem str_len (z : Str) : z.length = z.cps.toList.length := by simp [Str.length]
theorem atI_0 {α : Type} {c : α} {r : List α} : atI (c :: r) 0 = some c := atI_nat (j := 0) rfl
theorem RcOk.up {X : Cx} {j k : Nat} {H : Hp} {x y : V} {b : Bool} (h : RcOk X j H x y b) (hjk : j ≤ k) : RcOk X k H x y b := fun pins σ s A u v hu => h pins σ s A u v (by omega)
theorem small_line {n : Nat} (h : n ≤ 1000) : n ≤ sizeLine := Nat.le_of_lt (small1000 h)
theorem atI_mod {α : Type} {xs : List α} {i : Int} {n : Nat} (hn : xs.length = n) (h0 : 0 < n) : ∃ v, atI xs (i % (n : Int)) = some v ∧ v ∈ xs := by
  have h1 : 0 ≤ i % (n : Int) := Int.emod_nonneg _ (by omega)
  have h2 : i % (n : Int) < n := Int.emod_lt_of_pos _ (by omega)
  have h3 : (i % (n : Int)).toNat < xs.length := by omega
  refine ⟨xs[(i % (n : Int)).toNat], ?_, List.getElem_mem h3⟩
  have e : i % (n : Int) = (((i % (n : Int)).toNat : Nat) : Int) := by omega
  have q : atI xs (((i % (n : Int)).toNat : Nat) : Int) = some xs[(i % (n : Int)).toNat] := atI_nat (by simp)
  rw [← e] at q
  exact q
theorem hu_at {A : Around} {k : Nat} (hr : Room k A) (j : Nat) (h : j ≤ 64) : A.units + j < cLine := by have := hr.units; omega
section
variable {K : PySem.W.Frag} {h : Heap} {mg : Str → Option Value}
theorem dfn_mk {x : Str} {st : Stmt} {ps : List Str} {f : Addr} {oc : Value} {od an : Option Addr} {osl : Array (Option Value)} {kV doc pm cdv ct : Value} (X : K.In h) (G : h.Ns mainGlobals mg)
    (a : PySem.W.nsIn K mainGlobals x = some (some (.ref f))) (l : K.lookup f = some ⟨oc, od, .func (PySem.W.fnOf x x (defArgs st) (defBody st) (defScope st) .none kV doc pm an cdv ct), osl⟩)
    (c : PySem.W.codeIn K cdv x = true) (k : PySem.W.keepIn K (.ref f) = true)
    (hb : ∀ (kV doc pm : Value) (an : Option Addr) (cdv ct : Value) (us : List Value), us.length = ps.length → bindArgs (PySem.W.fnOf x x (defArgs st) (defBody st) (defScope st) .none kV doc pm an cdv ct) ⟨us, []⟩ = pure (ps.zip us)) : Dfn K mg x st ps :=
  ⟨f, _, fun_mk l c k, (fun_mk l c k).binds hb, PySem.W.mg_of X G a⟩
theorem law_mk {x y : Str} {st : Stmt} {f fa : Addr} {oc : Value} {od an : Option Addr} {osl : Array (Option Value)} {kV doc pm cdv ct : Value} (X : K.In h) (G : h.Ns mainGlobals mg) (hfa : mg x = some (.ref fa))
    (a : PySem.W.nsIn K mainGlobals x = some (some (.ref f))) (l : K.lookup f = some ⟨oc, od, .func (PySem.W.fnOf x x (defArgs st) (defBody st) (defScope st) .none kV doc pm an cdv ct), osl⟩)
    (c : PySem.W.codeIn K cdv x = true) (k : PySem.W.keepIn K (.ref f) = true) (hb : ∀ (s : Shared) (v : Value), BindsTo s (PySem.W.fnOf x x (defArgs st) (defBody st) (defScope st) .none kV doc pm an cdv ct) ⟨[v], []⟩ [(y, v)]) :
    ∃ fd : FuncData, (∀ (s : Shared) (v : Value), BindsTo s fd ⟨[v], []⟩ [(y, v)]) ∧ Fun K x x st fa fd := by
  have e := hfa.symm.trans (PySem.W.mg_of X G a)
  cases e
  exact ⟨_, hb, fun_mk l c k⟩
theorem glv_mk {x : Str} {u : Value} {v : V} (X : K.In h) (G : h.Ns mainGlobals mg) (a : PySem.W.nsIn K mainGlobals x = some (some u)) (r : RelV v u) : GlV mg x v := ⟨u, PySem.W.mg_of X G a, r⟩
end
section
variable {CX : CXT} {P : Program} {w : World} {K : PySem.W.Frag} {mg : Str → Option Value} {base : Heap} {N : List Str} {x : Str} {sc : Scope} {f : Addr} {cdv : Value} {A : Around} {outer : List Env} {s : Shared} {H : Hp} {E : XK}
theorem cxK : (cxOf CX P w K mg base N x sc f cdv A outer s H E).K = K := rfl
theorem cxP : (cxOf CX P w K mg base N x sc f cdv A outer s H E).prog = P := rfl
theorem cxW : (cxOf CX P w K mg base N x sc f cdv A outer s H E).w = w := rfl
end
section
variable {X : Cx} {st : Stmt} {rest : List Stmt} {t u : TS} {e : Expr} {te : TE}
def tCut (t u : TS) : TS := fun D σ H => ∃ Pv : St → Hp → Prop, t { D with nx := Pv } σ H ∧ ∀ σ' H', Pv σ' H' → u D σ' H'
theorem pss_cut (h1 : PS X st t) (h2 : PSs X rest u) : PSs X (st :: rest) (tCut t u) := by
  intro pins s σ H D I h
  obtain ⟨Pv, q1, q2⟩ := h
  refine wpAny_execs_cons (thn (h1 pins s σ H { D with nx := Pv } I q1) fun f s1 q => ?_)
  cases f with
  | next =>
    obtain ⟨σ', H', I', q⟩ := q
    exact h2 pins s1 σ' H' D I' (q2 σ' H' q)
  | ret v => exact q
  | brk => exact q
  | cont => exact q
end
local instance (priority := 10000) : BEq Key := instBEqOfDecidableEq
local instance (priority := 10000) : LawfulBEq Key := inferInstanceAs (LawfulBEq (Sum Int Str))
def onceK : List Key → List Key → List Key
  | acc, [] => acc
  | acc, k :: r => onceK (if k ∈ acc then acc else acc ++ [k]) r
theorem onceK_snoc : ∀ (ks acc : List Key) (k : Key), onceK acc (ks ++ [k]) = if k ∈ onceK acc ks then onceK acc ks else onceK acc ks ++ [k]
  | [], acc, k => rfl
  | j :: r, acc, k => onceK_snoc r _ k
theorem onceK_len : ∀ (ks acc : List Key), (onceK acc ks).length ≤ acc.length + ks.length
  | [], acc => Nat.le_refl _
  | k :: r, acc => by
    have h := onceK_len r (if k ∈ acc then acc else acc ++ [k])
    show (onceK (if k ∈ acc then acc else acc ++ [k]) r).length ≤ acc.length + (r.length + 1)
    split at h <;> rename_i c
    · rw [if_pos c]; omega
    · rw [if_neg c]
      rw [List.length_append, List.length_singleton] at h
      omega
theorem onceK_nodup : ∀ (ks acc : List Key), acc.Nodup → ((onceK acc ks).length = acc.length + ks.length ↔ (acc ++ ks).Nodup)
  | [], acc, h => by simp [onceK, h]
  | k :: r, acc, h => by
    show (onceK (if k ∈ acc then acc else acc ++ [k]) r).length = acc.length + (r.length + 1) ↔ _
    by_cases c : k ∈ acc
    · rw [if_pos c]
      have l := onceK_len r acc
      constructor
      · intro e; omega
      · intro e
        have := (List.nodup_append.mp e).2.2 k c k (List.mem_cons_self)
        exact absurd rfl this
    · rw [if_neg c]
      have h' : (acc ++ [k]).Nodup := nd_snoc h c
      have ih := onceK_nodup r (acc ++ [k]) h'
      rw [List.length_append, List.length_singleton, List.append_assoc] at ih
      rw [show acc.length + (r.length + 1) = acc.length + 1 + r.length by omega]
      exact ih
theorem onceK_all (ks : List Key) : (onceK [] ks).length = ks.length ↔ ks.Nodup := by
  have h := onceK_nodup ks [] List.nodup_nil
  simpa using h
section
variable {P : Program} {w : World} {A : Around} {R : Result → Shared → Prop} {it : Addr} {fp wr : List Addr} {G : Array GenState → Array GenState → Prop} {n : Nat} {Pv : Nat → Value → Prop} {St : Nat → Shared → Prop}
def SetIs (P : Program) (w : World) (h : Heap) (a : Addr) (ks : List Key) : Prop := h.SetOf (mixKind P w) a (fun k => decide (k ∈ onceK [] ks)) (onceK [] ks).length
theorem SetIs.kept {h h' : Heap} {a : Addr} {ks : List Key} (x : SetIs P w h a ks) (k : ∀ o, h.get? a = some o → h'.get? a = some o) : SetIs P w h' a ks := by
  obtain ⟨o, es, ep, t, ho, rest⟩ := x
  exact ⟨o, es, ep, t, k o ho, rest⟩
theorem scan_kV {k : Key} {v : Value} (h : (mixKind P w).is k v = true) : v.scannable = true := by
  rcases keyIs_shape h with ⟨i, t, rfl, rfl⟩ | ⟨x, t, rfl, rfl⟩ | ⟨c, rfl, rfl⟩ <;> rfl
theorem set_turns (W : WalksS P w A.in1 it fp wr G n Pv St) (a : Addr) (ha : a ∉ fp) (ks : List Key) (hn : ks.length = n) (hv : ∀ i v, Pv i v → ∀ k, ks[i]? = some k → (mixKind P w).is k v = true) (hb : n + 1 < scanBound) :
    ∀ (m i : Nat) (s : Shared), n - i = m → i ≤ n → St i s → SetIs P w s.heap a (ks.take i) → (∀ s', Moved (a :: wr) G s s' → SetIs P w s'.heap a ks → R (.ok (.ret .none)) s') →
      codeAny (model P w) A (.builtin "set.update.loop" ⟨[.ref a, .ref it], []⟩) R s := by
  have haw : a ∉ wr := fun h => ha (W.sub _ h)
  have up : ∀ b ∈ wr, b ∈ a :: wr := fun b h => List.mem_cons_of_mem _ h
  intro m
  induction m with
  | zero =>
    intro i s hm hi st x q
    obtain rfl : i = n := by omega
    rw [List.take_of_length_le (Nat.le_of_eq hn)] at x
    refine codeAny_builtin F.entry_set_update_loop ?_
    rw [Around.under_plainId F.plain_set_update_loop _]
    refine wpAny_bind (W.done s _ _ st fun s' mv => wpAny_pure (q s' (mv.mono up) (x.kept fun o e => mv.heap a _ haw e)))
  | succ m ih =>
    intro i s hm hi st x q
    have lt : i < n := by omega
    have hk : ks[i]? = some ks[i] := by simp [hn, lt]
    refine codeAny_builtin F.entry_set_update_loop ?_
    rw [Around.under_plainId F.plain_set_update_loop _]
    refine wpAny_bind (W.item i s _ _ lt st fun v s' pv st' mv => ?_)
    have is := hv i v pv _ hk
    have x' := x.kept (h' := s'.heap) fun o e => mv.heap a _ haw e
    refine wpAny_bind (m := holding [v] (setAdd a v)) (wpAny_holding ?_)
    unfold setAdd
    refine wpAny_holding (wpAny_bind ((mixKind P w).pyHash (k := ks[i]) is ?_))
    have room := onceK_len (ks.take i) []
    rw [List.length_take, List.length_nil] at room
    refine wpAny_setAddHashed_of (knd := mixKind P w) (s := { s' with toks := s'.toks + 1 }) is (scan_kV is) x' (by omega) fun h' sb x2 => ?_
    have x3 : SetIs P w h' a (ks.take (i + 1)) := by
      unfold SetIs
      rw [List.take_add_one, hk, Option.toList_some, onceK_snoc]
      refine SetOf_congr x2 (fun k' => ?_) ?_
      · by_cases c : ks[i] ∈ onceK [] (ks.take i)
        · rw [if_pos c]
          by_cases e : k' = ks[i]
          · subst e; simp [c]
          · simp [e]
        · rw [if_neg c]
          simp [List.mem_append]
      · by_cases c : ks[i] ∈ onceK [] (ks.take i)
        · rw [if_pos c]; simp [c]
        · rw [if_neg c]; simp [c]
    refine wpAny_pure ⟨plainId_quiet F.plain_set_update_loop _, ih (i + 1) _ (by omega) lt (W.frame _ s' _ _ st' (Nat.le_succ _) fun b hb o e => ?_) x3 fun s2 mv2 x4 => ?_⟩
    · rw [sb.2 b (fun h => ha (h ▸ hb))]; exact e
    · refine q s2 (Moved.trans W.gtrans ((mv.mono up).then_heap (Nat.le_succ _) fun b o hb e => ?_) mv2) x4
      rw [sb.2 b (fun h => hb (h ▸ List.mem_cons_self))]; exact e
end
section
variable {P : Program} {w : World} {A : Around} {E : Value → Shared → Prop} {s : Shared}
set_option maxHeartbeats 3200000 in
theorem set_of_list {l : Addr} {its : Array Value} {ks : List Key} {Q : Value → Shared → Prop} (hh : A.handled = none) (hl : s.heap.IsList l its) (hk : ks.length = its.size) (hi : ∀ (i : Nat) v k, its[i]? = some v → ks[i]? = some k → (mixKind P w).is k v = true)
    (hb : its.size + 1 < scanBound)
    (h : ∀ (h' : Heap) (tk : Nat), SetIs P w h' s.heap.objs.size ks → (∀ b o, b < s.heap.objs.size → s.heap.get? b = some o → h'.get? b = some o) → Q (.ref s.heap.objs.size) { s with heap := h', toks := tk }) :
    wpAny (model P w) A (call (.type "set") [.ref l]) Q E s := by
  obtain ⟨c, tl, hmro⟩ := F.called_set.mro
  have made := F.called_set.made
  have sub := F.called_set.sub
  refine wpAny_call (codeAny_of_tree (wpAny_pure ⟨Code.quiet_builtin _ (by decide +kernel), codeAny_builtin F.entry_type_call ?_⟩))
  rw [Around.under_plain (weight_type_call_type "set" [.ref l] []) rfl]
  have a1 := F.called_set.notType
  have a2 := F.called_set.canCreate
  have a3 := F.typeCall_set_1 (.ref l)
  repeat (any_goals (first | assumption | wp_step))
  refine codeAny_mono (code_set_new_1 (.ref l) (E := E) (Q₁ := fun obj s1 => ∃ led : Bool, obj = .ref s.heap.objs.size ∧ s1 = { s with heap := s.heap.push { cls := .type "set", dict := none, data := .set #[] 0 (.fresh 0 0 led) } }) fun led => ⟨led, rfl, rfl⟩) fun r s1 hr => ?_
  cases r with
  | error e => exact hr
  | ok fl =>
    cases fl with
    | ret obj =>
      obtain ⟨led, rfl, rfl⟩ := hr
      have at0 : (s.heap.push { cls := .type "set", dict := none, data := .set #[] 0 (.fresh 0 0 led) }).get? s.heap.objs.size = some { cls := .type "set", dict := none, data := .set #[] 0 (.fresh 0 0 led) } := Heap.get?_push_size _ rfl
      have ty : Shared.TypeIs { s with heap := s.heap.push { cls := .type "set", dict := none, data := .set #[] 0 (.fresh 0 0 led) } } (.ref s.heap.objs.size) "set" := ⟨_, at0, rfl⟩
      have i1 := F.called_set.init.lookup
      have i2 := F.called_set.init.bind (.ref s.heap.objs.size)
      repeat (any_goals (first | assumption | wp_step))
      refine codeAny_mono (codeAny_call_builtin (R := wants (fun r s2 => r = .none ∧ ∃ h' tk, s2 = { s with heap := h', toks := tk } ∧ SetIs P w h' s.heap.objs.size ks ∧
          (∀ b o, b < s.heap.objs.size → s.heap.get? b = some o → h'.get? b = some o)) E) F.called_set.init.plain F.entry_set_init (check_set_init_1 ty ?_)) fun r2 s2 hr2 => ?_
      · obtain ⟨ol, ho, hc, nl, hd⟩ := hl
        obtain ⟨oc, od, oda, osl⟩ := ol
        simp only at hc hd
        subst hc; subst hd
        have ho' : (s.heap.push { cls := .type "set", dict := none, data := .set #[] 0 (.fresh 0 0 led) }).get? l = some { cls := .type "list", dict := od, data := .seq its nl, slots := osl } := Heap.get?_push_of_some _ ho
        have b1 := F.sub_list_set
        have b2 := F.sub_list_frozenset
        have b3 : (Value.type "list" == Value.type "dict") = false := by decide
        have hl1 : (s.heap.push { cls := .type "set", dict := none, data := .set #[] 0 (.fresh 0 0 led) }).IsList l its := ⟨_, ho', rfl, nl, rfl⟩
        unfold Builtin.«set.__init__» noKeywords Builtin.Frozenset.updateFrom
        generalize hPI : pyIter = PI
        wp_walk
        subst hPI
        refine wpAny_pyIter_list hl1 ?_
        refine wpAny_bind (wpAny_runValue ?_)
        have ll : l < s.heap.objs.size := Heap.lt_size ho
        have h3 : A.in1.in1.in1.handled = none := by simp [hh]
        have ne : l ≠ (s.heap.push { cls := .type "set", dict := none, data := .set #[] 0 (.fresh 0 0 led) }).objs.size := by rw [Heap.size_push]; exact Nat.ne_of_lt (Nat.lt_succ_of_lt ll)
        have nf : s.heap.objs.size ∉ [(s.heap.push { cls := .type "set", dict := none, data := .set #[] 0 (.fresh 0 0 led) }).objs.size, l] := by
          rw [Heap.size_push]
          intro z
          rcases List.mem_cons.mp z with z | z
          · exact absurd z (Nat.ne_of_lt (Nat.lt_succ_self _))
          · exact absurd (List.mem_singleton.mp z) (Nat.ne_of_gt ll)
        refine set_turns ((Walks.list h3 _ l ne its).toS) s.heap.objs.size nf ks hk (fun i v pv k e => hi i v k pv e) hb (its.size - 0) 0 _ (by omega) (Nat.zero_le _) ⟨⟨_, Heap.get?_push_size _ rfl, rfl, rfl⟩, (hl1.push _)⟩ ?x0 ?q0
        case x0 =>
          refine SetIs.kept (h := s.heap.push { cls := .type "set", dict := none, data := .set #[] 0 (.fresh 0 0 led) }) ?_ fun o e => Heap.get?_push_of_some _ e
          rw [List.take_zero]
          exact SetOf_congr ((setObjOf_fresh (knd := mixKind P w) led).setOf at0 (by unfold scanBound; omega)) (fun _ => rfl) rfl
        case q0 =>
          intro s' mv x'
          obtain ⟨h', g', d', tk', os'⟩ := s'
          have eg : g' = s.gens := mv.gens
          have ed : d' = s.drawn := mv.drawn
          have eo : os' = s.os := mv.os
          subst eg; subst ed; subst eo
          refine wpAny_pure (wpAny_pure ⟨rfl, h', tk', rfl, x', fun b o hb e => mv.heap b o ?_ (Heap.get?_push_of_some _ (Heap.get?_push_of_some _ e))⟩)
          rw [Heap.size_push]
          intro z
          rcases List.mem_cons.mp z with z | z
          · exact absurd z (Nat.ne_of_lt hb)
          · exact absurd (List.mem_singleton.mp z) (Nat.ne_of_lt (Nat.lt_succ_of_lt hb))
      · cases r2 with
        | error e => exact hr2
        | ok f2 =>
          cases f2 with
          | ret r =>
            obtain ⟨rfl, h', tk, rfl, x', k'⟩ := hr2
            repeat (any_goals (first | assumption | wp_step))
            exact h _ _ x' k'
          | _ => exact hr2.elim
    | _ => exact hr.elim
end
def setK (P : Program) (w : World) (a : Addr) (ks : List Key) : HO := .ext fun h => SetIs P w h a ks
theorem call_set_of {X : Cx} (hc : X.calm = true) : CallR X (.type "set") (fun xs H Q => ∃ (p : Addr) (ks : List Key), xs = [.ref p] ∧ SqL X.K H p (ks.map kV) ∧ ks.length ≤ 1000 ∧ ∀ a, H a = none → Q (.ref a) (upd H a (setK X.prog X.w a ks))) := by
  intro pins s σ H xs us Q I r h
  obtain ⟨p, ks, rfl, hx, hz, q⟩ := h
  obtain ⟨u, rfl, rx⟩ := vals1 r
  cases (show u = Value.ref p from rx)
  obtain ⟨vs, rv, pl, _⟩ := I.list hx
  have lv := rv.length
  rw [List.length_map] at lv
  refine set_of_list (ks := ks) (I.ok.hd hc) pl.isList (by rw [List.size_toArray]; exact lv) (fun i v k e1 e2 => ?_) (by rw [List.size_toArray]; unfold scanBound; omega) fun h' tk x k => ?_
  · have e1' : vs[i]? = some v := by simpa using e1
    obtain ⟨u, e, q⟩ := rv.get (i := i) (x := kV k) (by rw [List.getElem?_map, e2]; rfl)
    rw [e1'] at e
    cases e
    exact kV_is q
  · refine ⟨.ref s.heap.objs.size, _, I.laid (t' := tk) (fun b u e => k b u (Heap.lt_size e) e) (Nat.le_refl _) ?_, rfl, q _ I.fresh⟩
    obtain ⟨o, es, ep, t, ho, rest⟩ := id x
    exact ⟨x, ⟨o, ho⟩, fun h1 h2 x1 k1 => x1.kept k1⟩
theorem call_len_setK {X : Cx} : CallR X (.builtin "len") (fun xs H Q => ∃ (p : Addr) (ks : List Key), xs = [.ref p] ∧ H p = some (setK X.prog X.w p ks) ∧ ks.length ≤ 1000 ∧ Q (.int ((onceK [] ks).length : Int)) H) := by
  intro pins s σ H xs us Q I r h
  obtain ⟨p, ks, rfl, hx, hz, q⟩ := h
  obtain ⟨u, rfl, rx⟩ := vals1 r
  cases (show u = Value.ref p from rx)
  obtain ⟨x, _⟩ := I.hok p _ hx
  obtain ⟨o, es, ep, t, ho, hex, hd, _, _, _, hf, hn⟩ := x
  have room := onceK_len ks []
  rw [List.length_nil] at room
  refine call_len_set ho hex hd hf (by rw [hn]; omega) ?_
  rw [hn]
  exact ⟨.int _, H, I.tok _, ⟨_, rfl⟩, q⟩
structure New (H : Hp) (p : Addr) (o : HO) (H' : Hp) : Prop where
  nil : H p = none
  g : Same H H'
  at' : H' p = some o
  eq : H' = upd H p o
theorem New.mk' {H : Hp} {p : Addr} (h : H p = none) (o : HO) : New H p o (upd H p o) := ⟨h, same_upd h o, upd_same, rfl⟩
theorem New.lst {K : PySem.W.Frag} {H H' : Hp} {p : Addr} {xs : List V} (n : New H p (.lst xs) H') : SqL K H' p xs := .of n.at'
theorem Same.wr {H H' : Hp} {p : Addr} (g : Same H H') (h : H p = none) (o : HO) : Same H (upd H' p o) := fun b u e => by rw [upd_ne (ne_of_none e h)]; exact g b u e
section
variable {X : Cx} {e : Expr} {es : List Expr} {t : TA} {pos : Pos}
def tTupN (t : TA) : TE := fun σ H Q => t σ H fun xs H1 => xs.length ≤ sizeLine ∧ ∀ p H', New H1 p (.tup xs) H' → Q (.ref p) H'
def tLstN (t : TA) : TE := fun σ H Q => t σ H fun xs H1 => xs.length ≤ sizeLine ∧ ∀ p H', New H1 p (.lst xs) H' → Q (.ref p) H'
theorem pe_tupN {x1} (h : PA X es t) : PE X (.Tuple es x1 pos) (tTupN t) := by
  intro pins s σ H Q I hq
  refine wpAny_Tuple_spliced (thn (h pos pins s σ H _ I hq) fun us s1 ⟨xs, H1, I1, r, z, q⟩ => ⟨by rw [← r.length]; exact z, ?_⟩)
  refine ⟨.ref s1.heap.objs.size, upd H1 s1.heap.objs.size (.tup xs), I1.laid (t' := s1.toks) (fun b u e => Heap.get?_push_of_some _ e) (Nat.le_refl _) ?_, rfl, q _ _ (.mk' I1.fresh _)⟩
  exact ⟨z, us, r, ⟨_, Heap.get?_push_size _ rfl, rfl, _, rfl⟩⟩
theorem pe_lstN (h : PA X es t) : PE X (.List es pos) (tLstN t) := by
  intro pins s σ H Q I hq
  refine wpAny_List_spliced (thn (h pos pins s σ H _ I hq) fun us s1 ⟨xs, H1, I1, r, z, q⟩ => ⟨by rw [← r.length]; exact z, ?_⟩)
  refine ⟨.ref s1.heap.objs.size, upd H1 s1.heap.objs.size (.lst xs), I1.laid (t' := s1.toks) (fun b u e => Heap.get?_push_of_some _ e) (Nat.le_refl _) ?_, rfl, q _ _ (.mk' I1.fresh _)⟩
  exact ⟨z, us, 0, r, Heap.get?_push_size _ rfl⟩
def rSlLN (K : PySem.W.Frag) : V → Option Int → Option Int → Hp → VK → Prop := fun x lo hi H Q => ∃ a xs, x = .ref a ∧ SqL K H a xs ∧ ∀ p H', New H p (.lst (cutL xs lo hi)) H' → Q (.ref p) H'
theorem sl_listN : SlR X (rSlLN X.K) := fun pins s σ H x v vl vu lo hi sl Q I rx hs pl pu h => by
  obtain ⟨a, xs, e, hx, q⟩ := h
  exact sl_list pins s σ H x v vl vu lo hi sl Q I rx hs pl pu ⟨a, xs, e, hx, fun p np => q p _ (.mk' np _)⟩
def rCatN : R2 := fun x y H Q => ∃ l b xs zs, x = .ref l ∧ y = .ref b ∧ H l = some (.lst xs) ∧ H b = some (.lst zs) ∧ xs.length + zs.length ≤ sizeLine ∧ ∀ p H', New H p (.lst (xs ++ zs)) H' → Q (.ref p) H'
theorem op_catN : OpR X (binaryOp .Add) rCatN := fun pins s σ H x y v u Q I rx ry h => by
  obtain ⟨l, b, xs, zs, e1, e2, h1, h2, hz, q⟩ := h
  exact op_cat pins s σ H x y v u Q I rx ry ⟨l, b, xs, zs, e1, e2, h1, h2, hz, fun p np => q p _ (.mk' np _)⟩
theorem call_list_ofN : CallR X (.type "list") (fun xs H Q => ∃ p ys, xs = [.ref p] ∧ (SqL X.K H p ys ∨ SqT X.K H p ys) ∧ ∀ l H', New H l (.lst ys) H' → Q (.ref l) H') := fun pins s σ H xs us Q I r h => by
  obtain ⟨p, ys, e, hq, q⟩ := h
  exact call_list_of pins s σ H xs us Q I r ⟨p, ys, e, hq, fun l nl => q l _ (.mk' nl _)⟩
theorem call_set_ofN (hc : X.calm = true) : CallR X (.type "set") (fun xs H Q => ∃ (p : Addr) (ks : List Key), xs = [.ref p] ∧ SqL X.K H p (ks.map kV) ∧ ks.length ≤ 1000 ∧ ∀ a H', New H a (setK X.prog X.w a ks) H' → Q (.ref a) H') := fun pins s σ H xs us Q I r h => by
  obtain ⟨p, ks, e, hx, hz, q⟩ := h
  exact call_set_of hc pins s σ H xs us Q I r ⟨p, ks, e, hx, hz, fun a na => q a _ (.mk' na _)⟩
end
section
variable {tn : List Str} {cp : List (Nat × Str)} {g : TG} {tif : TT} {te : TE} {σ0 : St} {Q : VK} {H1 : Hp} {K : PySem.W.Frag} {a : Addr} {xs : List V}
def PMap (S : St → Prop) (f : V → V) (xs : List V) (H1 : Hp) (i : Nat) (ys : List V) (σ : St) (H : Hp) : Prop := Same H1 H ∧ S σ ∧ ys = (xs.take i).map f
theorem cm_list (S : St → Prop) (f : V → V) (hn : xs.length ≤ 1000) (hS : SqL K H1 a xs) (h0 : S (stB tn cp σ0))
    (hs : ∀ D i σ H x, i < xs.length → x ∈ xs → xs[i]? = some x → Same H1 H → H1 D = none → H D = some (.lst ((xs.take i).map f)) → S σ → g x σ H fun σ2 H2 => tif σ2 H2 fun c H3 =>
      if c = true then te σ2 H3 fun y H4 => CStep D xs.length i (PMap S f xs H1) σ2 y H4 else CSkip D xs.length i (PMap S f xs H1) σ2 H3)
    (hd : ∀ D H, H1 D = none → Same H1 H → H D = some (.lst (xs.map f)) → Q (.ref D) H) : cBody tn cp g tif te σ0 Q (Itl K a) H1 := by
  refine cb_list (K := K) (a := a) (xs := xs) (fun D i ys σ H => PMap S f xs H1 i ys σ H) (small_line hn) (fun D hD => ⟨same_upd hD _, h0, rfl⟩) (fun D i ys σ H _ _ _ p => p.1.seq hS) ?_ ?_
  · rintro D i ys σ H x hD hi hx hH hl ⟨p1, p2, rfl⟩
    exact hs D i σ H x hi (List.mem_of_getElem? hx) hx p1 hD hH p2
  · rintro D ys σ H hD hH hl ⟨p1, p2, rfl⟩
    rw [List.take_of_length_le (Nat.le_refl _)] at hH
    exact hd D H hD p1 hH
theorem cm_tup (S : St → Prop) (f : V → V) (hn : xs.length ≤ 1000) (hS : SqT K H1 a xs) (h0 : S (stB tn cp σ0))
    (hs : ∀ D i σ H x, i < xs.length → x ∈ xs → xs[i]? = some x → Same H1 H → H1 D = none → H D = some (.lst ((xs.take i).map f)) → S σ → g x σ H fun σ2 H2 => tif σ2 H2 fun c H3 =>
      if c = true then te σ2 H3 fun y H4 => CStep D xs.length i (PMap S f xs H1) σ2 y H4 else CSkip D xs.length i (PMap S f xs H1) σ2 H3)
    (hd : ∀ D H, H1 D = none → Same H1 H → H D = some (.lst (xs.map f)) → Q (.ref D) H) : cBody tn cp g tif te σ0 Q (Itt K a) H1 := by
  refine cb_tup (K := K) (a := a) (xs := xs) (fun D i ys σ H => PMap S f xs H1 i ys σ H) (small_line hn) (fun D hD => ⟨same_upd hD _, h0, rfl⟩) (fun D i ys σ H _ _ _ p => p.1.seqT hS) ?_ ?_
  · rintro D i ys σ H x hD hi hx hH hl ⟨p1, p2, rfl⟩
    exact hs D i σ H x hi (List.mem_of_getElem? hx) hx p1 hD hH p2
  · rintro D ys σ H hD hH hl ⟨p1, p2, rfl⟩
    rw [List.take_of_length_le (Nat.le_refl _)] at hH
    exact hd D H hD p1 hH
theorem cm_step {S : St → Prop} {f : V → V} {D : Addr} {i : Nat} {x y : V} {σ2 : St} {H4 : Hp} (hn : xs.length ≤ 1000) (hx : xs[i]? = some x) (hD : H1 D = none) (h4 : H4 D = some (.lst ((xs.take i).map f))) (g4 : Same H1 H4) (s2 : S σ2) (e : y = f x) :
    CStep D xs.length i (PMap S f xs H1) σ2 y H4 := by
  have hi : i < xs.length := (List.getElem?_eq_some_iff.mp hx).1
  refine cstep (small_line hn) hi h4 (by rw [List.length_map, List.length_take]; omega) ⟨g4.wr hD _, s2, ?_⟩
  rw [List.take_add_one, hx, List.map_append, e]
  rfl
def PFil (S : St → Prop) (p : V → Bool) (f : V → V) (xs : List V) (H1 : Hp) (i : Nat) (ys : List V) (σ : St) (H : Hp) : Prop := Same H1 H ∧ S σ ∧ ys = ((xs.take i).filter p).map f
theorem cf_list (S : St → Prop) (p : V → Bool) (f : V → V) (hn : xs.length ≤ 1000) (hS : SqL K H1 a xs) (h0 : S (stB tn cp σ0))
    (hs : ∀ D i σ H x, i < xs.length → x ∈ xs → xs[i]? = some x → Same H1 H → H1 D = none → H D = some (.lst (((xs.take i).filter p).map f)) → S σ → g x σ H fun σ2 H2 => tif σ2 H2 fun c H3 =>
      if c = true then te σ2 H3 fun y H4 => CStep D xs.length i (PFil S p f xs H1) σ2 y H4 else CSkip D xs.length i (PFil S p f xs H1) σ2 H3)
    (hd : ∀ D H, H1 D = none → Same H1 H → H D = some (.lst ((xs.filter p).map f)) → Q (.ref D) H) : cBody tn cp g tif te σ0 Q (Itl K a) H1 := by
  refine cb_list (K := K) (a := a) (xs := xs) (fun D i ys σ H => PFil S p f xs H1 i ys σ H) (small_line hn) (fun D hD => ⟨same_upd hD _, h0, rfl⟩) (fun D i ys σ H _ _ _ p => p.1.seq hS) ?_ ?_
  · rintro D i ys σ H x hD hi hx hH hl ⟨p1, p2, rfl⟩
    exact hs D i σ H x hi (List.mem_of_getElem? hx) hx p1 hD hH p2
  · rintro D ys σ H hD hH hl ⟨p1, p2, rfl⟩
    rw [List.take_of_length_le (Nat.le_refl _)] at hH
    exact hd D H hD p1 hH
theorem cf_tup (S : St → Prop) (p : V → Bool) (f : V → V) (hn : xs.length ≤ 1000) (hS : SqT K H1 a xs) (h0 : S (stB tn cp σ0))
    (hs : ∀ D i σ H x, i < xs.length → x ∈ xs → xs[i]? = some x → Same H1 H → H1 D = none → H D = some (.lst (((xs.take i).filter p).map f)) → S σ → g x σ H fun σ2 H2 => tif σ2 H2 fun c H3 =>
      if c = true then te σ2 H3 fun y H4 => CStep D xs.length i (PFil S p f xs H1) σ2 y H4 else CSkip D xs.length i (PFil S p f xs H1) σ2 H3)
    (hd : ∀ D H, H1 D = none → Same H1 H → H D = some (.lst ((xs.filter p).map f)) → Q (.ref D) H) : cBody tn cp g tif te σ0 Q (Itt K a) H1 := by
  refine cb_tup (K := K) (a := a) (xs := xs) (fun D i ys σ H => PFil S p f xs H1 i ys σ H) (small_line hn) (fun D hD => ⟨same_upd hD _, h0, rfl⟩) (fun D i ys σ H _ _ _ p => p.1.seqT hS) ?_ ?_
  · rintro D i ys σ H x hD hi hx hH hl ⟨p1, p2, rfl⟩
    exact hs D i σ H x hi (List.mem_of_getElem? hx) hx p1 hD hH p2
  · rintro D ys σ H hD hH hl ⟨p1, p2, rfl⟩
    rw [List.take_of_length_le (Nat.le_refl _)] at hH
    exact hd D H hD p1 hH
theorem cf_step {S : St → Prop} {p : V → Bool} {f : V → V} {D : Addr} {i : Nat} {x y : V} {σ2 : St} {H4 : Hp} (hn : xs.length ≤ 1000) (hx : xs[i]? = some x) (hp : p x = true) (hD : H1 D = none) (h4 : H4 D = some (.lst (((xs.take i).filter p).map f))) (g4 : Same H1 H4) (s2 : S σ2) (e : y = f x) :
    CStep D xs.length i (PFil S p f xs H1) σ2 y H4 := by
  have hi : i < xs.length := (List.getElem?_eq_some_iff.mp hx).1
  refine cstep (small_line hn) hi h4 ?_ ⟨g4.wr hD _, s2, ?_⟩
  · rw [List.length_map]
    have := List.length_filter_le p (xs.take i)
    rw [List.length_take] at this
    omega
  · rw [List.take_add_one, hx, List.filter_append, List.map_append, e]
    simp [hp]
theorem cf_skip {S : St → Prop} {p : V → Bool} {f : V → V} {D : Addr} {i : Nat} {x : V} {σ2 : St} {H3 : Hp} (hx : xs[i]? = some x) (hp : p x = false) (h3 : H3 D = some (.lst (((xs.take i).filter p).map f))) (g3 : Same H1 H3) (s2 : S σ2) :
    CSkip D xs.length i (PFil S p f xs H1) σ2 H3 := by
  have hi : i < xs.length := (List.getElem?_eq_some_iff.mp hx).1
  refine cskip hi h3 ?_ ⟨g3, s2, ?_⟩
  · rw [List.length_map]
    have := List.length_filter_le p (xs.take i)
    rw [List.length_take] at this
    omega
  · rw [List.take_add_one, hx, List.filter_append]
    simp [hp]
end
end L2
namespace SS
open PySem PySem.Spec PyProof.Rows L2
def SMALL : Str := "abcdefghijklmnopqrstuvwxyz"
def GREAT : Str := "ABCDEFGHIJKLMNOPQRSTUVWXYZ"
def FIGS : Str := "0123456789"
def signIn (c : Nat) (z : Str) : Bool := !(Builtin.Str.occurrences z ⟨#[c]⟩ 0 z.length 1).isEmpty
def nameB (z letters : Str) : Bool := match z.cps.toList with
  | [] => false
  | c :: r => decide (r.length ≤ 3) && signIn c letters && r.all fun d => signIn d FIGS
def isNm (x : V) (letters : Str) : Bool := match x with
  | .str z => nameB z letters
  | _ => false
def sp_lf : Sp := fun vs H Q _ => ∃ x letters k, vs = [x, .str letters] ∧ Kd H x k ∧ (∀ z, x = .str z → z.length ≤ 1000) ∧ ∀ H', Same H H' → Q (.bl (isNm x letters)) H'
def sp_pl (letters : Str) : Sp := fun vs H Q _ => ∃ x k, vs = [x] ∧ Kd H x k ∧ (∀ z, x = .str z → z.length ≤ 1000) ∧ ∀ H', Same H H' → Q (.bl (isNm x letters)) H'
structure Nam (z letters : Str) : Prop where
  ex : ∃ d ds, z.cps.toList = d :: ds ∧ d ∈ letters.cps.toList ∧ ds.length ≤ 3 ∧ ∀ x ∈ ds, x ∈ FIGS.cps.toList
theorem sign_in (c : Nat) (z : Str) : signIn c z = decide (c ∈ z.cps.toList) := PySem.StrLaws.found_one z c
def Thing (H : Hp) (y : V) : Prop := (∃ k, Kd H y k) ∧ ∀ z, y = .str z → z.length ≤ 1000
theorem Thing.same {H H' : Hp} {y : V} (h : Thing H y) (g : Same H H') : Thing H' y := ⟨let ⟨k, q⟩ := h.1; ⟨k, q.same g⟩, h.2⟩
theorem Thing.str {H : Hp} {z : Str} (h : z.length ≤ 1000) : Thing H (.str z) := ⟨⟨_, .str z⟩, fun z' e => by cases e; exact h⟩
theorem Thing.tup {H : Hp} {a : Addr} {xs : List V} (e : H a = some (.tup xs)) : Thing H (.ref a) := ⟨⟨_, .tup e⟩, fun z' e => by cases e⟩
def isName (x : V) : Bool := isNm x SMALL || isNm x GREAT
def sp_nm : Sp := fun vs H Q _ => ∃ x, vs = [x] ∧ Thing H x ∧ ∀ H', Same H H' → Q (.bl (isName x)) H'
theorem isName_str {x : V} (h : isName x = true) : ∃ z, x = .str z := by
  cases x with
  | str z => exact ⟨z, rfl⟩
  | _ => exact absurd h (by simp [isName, isNm])
def frameB (xs : List V) : Bool := decide (xs.length ≤ 4) && xs.all isName && decide xs.Nodup
def frB (H : Hp) (x : V) : Bool := match x with
  | .ref a => match H a with
    | some (.lst xs) => frameB xs
    | _ => false
  | _ => false
def Things (H : Hp) (xs : List V) : Prop := xs.length ≤ 1000 ∧ ∀ y ∈ xs, Thing H y
def sp_fr : Sp := fun vs H Q _ => ∃ x, vs = [x] ∧ Thing H x ∧ (∀ a xs, x = .ref a → H a = some (.lst xs) → Things H xs) ∧ ∀ H', Same H H' → Q (.bl (frB H x)) H'
theorem names_keys : ∀ {xs : List V}, xs.all isName = true → ∃ ks : List Key, xs = ks.map kV ∧ (xs.Nodup ↔ ks.Nodup)
  | [], _ => ⟨[], rfl, by simp⟩
  | x :: r, h => by
    rw [List.all_cons, Bool.and_eq_true] at h
    obtain ⟨z, rfl⟩ := isName_str h.1
    obtain ⟨ks, e, n⟩ := names_keys h.2
    refine ⟨Sum.inr z :: ks, by rw [List.map_cons, ← e]; rfl, ?_⟩
    rw [List.nodup_cons, List.nodup_cons, n]
    refine and_congr_left fun _ => not_congr ?_
    rw [e, List.mem_map]
    constructor
    · rintro ⟨k, hk, e⟩
      have : k = Sum.inr z := kV_inj (e.trans rfl)
      exact this ▸ hk
    · exact fun hk => ⟨_, hk, rfl⟩
def sp_cell (K : PySem.W.Frag) : Sp := fun vs H Q _ => ∃ (a : Addr) (ns : List Int) (k : Int), vs = [.ref a, .int k] ∧ SqL K H a (ns.map V.int) ∧ 0 ≤ k ∧ ∀ c, Q (.int c) H
def sp_lawF (K : PySem.W.Frag) : Sp := fun vs H Q _ => ∃ (a : Addr) (ns : List Int), vs = [.ref a] ∧ SqL K H a (ns.map V.int) ∧ ns.length ≤ 63 ∧ ∀ H', Q (.bl true) H'
theorem cutL_map {α β : Type} (f : α → β) (xs : List α) (lo hi : Option Int) : cutL (xs.map f) lo hi = (cutL xs lo hi).map f := by
  unfold cutL
  rw [List.length_map, List.map_take, List.map_drop]
end SS
namespace L2
open PySem PySem.Spec PyProof.Rows
section
variable {X : Cx} {k : Nat} {H : Hp} {a b : Addr} {xs ys : List V}
theorem eqV_str (a b : Str) : eqV (.str a) (.str b) = decide (a = b) := by
  by_cases h : a = b
  · subst h; simp [eqV]
  · simp [eqV, h]
theorem flats_str (xs : List Str) : (xs.map V.str).all flatV = true := by
  rw [List.all_eq_true]
  intro x hx
  obtain ⟨z, _, rfl⟩ := List.mem_map.mp hx
  rfl
theorem rcok_nil (ha : SqL X.K H a xs) (hb : SqL X.K H b []) : RcOk X (k + 1) H (.ref a) (.ref b) (decide (xs = [])) := by
  cases xs with
  | nil =>
    have r := rcok_lists (k := k) ha hb rfl (fun _ => true) fun j h1 _ => by simp at h1
    exact r
  | cons x r => exact rcok_lens ha hb (by simp)
def rSlTN (K : PySem.W.Frag) : V → Option Int → Option Int → Hp → VK → Prop := fun x lo hi H Q => ∃ a xs, x = .ref a ∧ SqT K H a xs ∧
  ¬ (HT.sIx xs.length 0 lo = 0 ∧ HT.sIx xs.length xs.length hi = xs.length) ∧ ∀ p H', New H p (.tup (cutL xs lo hi)) H' → Q (.ref p) H'
theorem sl_tupN : SlR X (rSlTN X.K) := fun pins s σ H x v vl vu lo hi sl Q I rx hs pl pu h => by
  obtain ⟨a, xs, e, hx, hw, q⟩ := h
  exact sl_tup pins s σ H x v vl vu lo hi sl Q I rx hs pl pu ⟨a, xs, e, hx, hw, fun p np => q p _ (.mk' np _)⟩
end
section
variable {K : PySem.W.Frag} {h : Heap} {mg : Str → Option Value}
theorem glt_mk {x : Str} {p : Addr} {od : Option Addr} {its : Array Value} {n : Nat} {sl : Array (Option Value)} {xs : List V} (X : K.In h) (G : h.Ns mainGlobals mg) (a : PySem.W.nsIn K mainGlobals x = some (some (.ref p)))
    (l : K.lookup p = some ⟨.type "tuple", od, .seq its n, sl⟩) (z : its.size ≤ sizeLine) (r : Vals xs its.toList) : ∃ q, GlV mg x (.ref q) ∧ ∀ H, SqT K H q xs :=
  ⟨p, ⟨_, PySem.W.mg_of X G a, rfl⟩, fun H => .inr ⟨_, its, n, l, rfl, rfl, z, r⟩⟩
end
section
variable {X : Cx} (K : PySem.W.Frag)
theorem op_in_seqK (h : X.K = K := by rfl) : OpR X (compareOp .In) (rIn K false) := h ▸ op_in_seq
theorem op_notIn_seqK (h : X.K = K := by rfl) : OpR X (compareOp .NotIn) (rIn K true) := h ▸ op_notIn_seq
theorem ix_listK (h : X.K = K := by rfl) : IxR X (rIxL K) := h ▸ ix_list
theorem ix_tupK (h : X.K = K := by rfl) : IxR X (rIxT K) := h ▸ ix_tup
theorem sl_listNK (h : X.K = K := by rfl) : SlR X (rSlLN K) := h ▸ sl_listN
theorem sl_tupNK (h : X.K = K := by rfl) : SlR X (rSlTN K) := h ▸ sl_tupN
def rLen : List V → Hp → VK → Prop := fun xs H Q => ∃ p ys, xs = [.ref p] ∧ (SqL K H p ys ∨ SqT K H p ys) ∧ Q (.int (List.length ys)) H
theorem call_len_seqK (h : X.K = K := by rfl) : CallR X (.builtin "len") (rLen K) := h ▸ call_len_seq
def rAll : List V → Hp → VK → Prop := fun xs H Q => ∃ (p : Addr) (bs : List Bool), xs = [.ref p] ∧ SqL K H p (bs.map V.bl) ∧ Q (.bl (bs.all id)) H
theorem call_all_blK (hc : X.calm = true) (h : X.K = K := by rfl) : CallR X (.builtin "all") (rAll K) := h ▸ call_all_bl hc
def rSum : List V → Hp → VK → Prop := fun xs H Q => ∃ (p : Addr) (ns : List Int), xs = [.ref p] ∧ SqL K H p (ns.map V.int) ∧ Q (.int ns.sum) H
theorem call_sum_intK (hc : X.calm = true) (h : X.K = K := by rfl) : CallR X (.builtin "sum") (rSum K) := h ▸ call_sum_int hc
def rListOf : List V → Hp → VK → Prop := fun xs H Q => ∃ p ys, xs = [.ref p] ∧ (SqL K H p ys ∨ SqT K H p ys) ∧ ∀ l H', New H l (.lst ys) H' → Q (.ref l) H'
theorem call_list_ofNK (h : X.K = K := by rfl) : CallR X (.type "list") (rListOf K) := h ▸ call_list_ofN
theorem pi_listK {tg l : Expr} {tl : TE} (hl : PE X l tl) (h : X.K = K := by rfl) : PI X tg l (iList K tl) := h ▸ pi_list hl
theorem pi_tupK {tg l : Expr} {tl : TE} (hl : PE X l tl) (h : X.K = K := by rfl) : PI X tg l (iTup K tl) := h ▸ pi_tup hl
variable {o e : Expr} {es : List Expr} {to : TE} {t : TA} {name : Str} {apos cpos : Pos} {T id : String} {r : V → List V → Hp → VK → Prop}
theorem pe_bmK (pa : PlainAttrs T) (slot : Slot T name id) (hty : typeOf (.builtin id) = pure (.type "method_descriptor")) (hm : MtR X id r) (ho : PE X o to) (ha : PA X (e :: es) t) (h : X.K = K := by rfl)
    (hbase : attributeBase o name X.env (eval o X.env) = eval o X.env := by rfl)
    (hfew : ((backTo cpos (starEach (e :: es) X.env)).all (fun x => !x.1) && (backToKw cpos (keywordEach [] X.env)).all (fun x => x.1.isSome)
      && decide ((e :: es).length + ([] : List Keyword).length + (if ([] : List Keyword).isEmpty then 0 else 1) < 30)) = true := by rfl)
    (hline : (apos.endLine == cpos.line) = true := by rfl) (h1 : notStar e = true := by rfl) (h2 : es.all notStar = true := by rfl) :
    PE X (.Call (.Attribute o name apos) (e :: es) [] cpos) (tBM K T r to t) := h ▸ pe_bm pa slot hty hm ho ha hbase hfew hline (star_cons h1) (star_any h2)
end
end L2
namespace SS
open PySem PySem.Spec PyProof.Rows L2
inductive Sy where
  | bare (w n m : Str)
  | neg (s : Sy)
  | two (w : Str) (s t : Sy)
  | qu (w n : Str) (s : Sy)
def rowWords : List Str := ["ahead", "next"]
def treeWords : List Str := ["left", "right", "above"]
def bareWords : List Str := ["in", "same", "within", "ahead", "next", "left", "right", "above"]
def Sy.depth : Sy → Nat
  | .bare _ _ _ => 1
  | .neg s => s.depth + 1
  | .two _ s t => max s.depth t.depth + 1
  | .qu _ _ s => s.depth + 1
def Sy.parts : Sy → Nat
  | .bare _ _ _ => 1
  | .neg s => s.parts + 1
  | .two _ s t => s.parts + t.parts + 1
  | .qu _ _ s => s.parts + 1
inductive Rep (H : Hp) : V → Sy → Prop where
  | bare {a : Addr} {w n m : Str} (hw : w ∈ bareWords) (e : H a = some (.tup [.str w, .str n, .str m])) : Rep H (.ref a) (.bare w n m)
  | neg {a : Addr} {x : V} {s : Sy} (e : H a = some (.tup [.str "not", x])) (h : Rep H x s) : Rep H (.ref a) (.neg s)
  | two {a : Addr} {w : Str} {x y : V} {s t : Sy} (hw : w ∈ (["and", "or"] : List Str)) (e : H a = some (.tup [.str w, x, y])) (h1 : Rep H x s) (h2 : Rep H y t) : Rep H (.ref a) (.two w s t)
  | qu {a : Addr} {w n : Str} {x : V} {s : Sy} (hw : w ∈ (["some", "all"] : List Str)) (e : H a = some (.tup [.str w, .str n, x])) (h : Rep H x s) : Rep H (.ref a) (.qu w n s)
theorem Rep.same {H H' : Hp} {v : V} {s : Sy} (r : Rep H v s) (g : Same H H') : Rep H' v s := by
  induction r with
  | bare hw e => exact .bare hw (g _ _ e)
  | neg e _ ih => exact .neg (g _ _ e) ih
  | two hw e _ _ ih1 ih2 => exact .two hw (g _ _ e) ih1 ih2
  | qu hw e _ ih => exact .qu hw (g _ _ e) ih
theorem Rep.tup {H : Hp} {v : V} {s : Sy} (r : Rep H v s) : ∃ a xs, v = .ref a ∧ H a = some (.tup xs) := by
  cases r with
  | bare hw e => exact ⟨_, _, rfl, e⟩
  | neg e _ => exact ⟨_, _, rfl, e⟩
  | two hw e _ _ => exact ⟨_, _, rfl, e⟩
  | qu hw e _ => exact ⟨_, _, rfl, e⟩
theorem bare_tell : ∀ w ∈ bareWords, inV (.str w) [.str "some", .str "all"] = false := by decide +kernel
theorem join_tell : ∀ w ∈ (["and", "or"] : List Str), inV (.str w) [.str "some", .str "all"] = false := by decide +kernel
theorem tell_tell : ∀ w ∈ (["some", "all"] : List Str), inV (.str w) [.str "some", .str "all"] = true := by decide +kernel
theorem not_tell : inV (.str "not") [.str "some", .str "all"] = false := by decide +kernel
theorem inV_strs (z : Str) (l : List Str) : inV (.str z) (l.map V.str) = decide (z ∈ l) := by
  induction l with
  | nil => rfl
  | cons y r ih =>
    have e : inV (.str z) ((y :: r).map V.str) = (eqV (.str y) (.str z) || inV (.str z) (r.map V.str)) := rfl
    rw [e, ih, eqV_str]
    by_cases h : z = y
    · subst h; simp
    · have h' : ¬ y = z := fun q => h q.symm
      simp [h, h']
def addAll : List Str → List Str → List Str
  | f, [] => f
  | f, x :: r => addAll (if x ∈ f then f else f ++ [x]) r
def due : Sy → List Str → List Str → List Str
  | .bare _ n m, told, found => addAll found ([n, m].filter fun x => decide (x ∉ told))
  | .neg s, told, found => due s told found
  | .two _ s t, told, found => due t told (due s told found)
  | .qu _ n s, told, found => due s (told ++ [n]) found
def isT (H : Hp) (x : V) : Bool := match x with
  | .ref a => match H a with
    | some (.tup _) => true
    | _ => false
  | _ => false
theorem Kd.isT {H : Hp} {x : V} {k : String} (h : Kd H x k) : subT k "tuple" = isT H x := by
  cases h with
  | lst e => simp only [SS.isT, e]; decide
  | tup e => simp only [SS.isT, e]; decide
  | dK e => simp only [SS.isT, e]; decide
  | _ => rfl
def sp_inner : Sp := fun vs H Q _ => ∃ a xs, vs = [.ref a] ∧ H a = some (.tup xs) ∧ xs.length ≤ 1000 ∧ (∀ y ∈ xs, ∃ k, Kd H y k) ∧ ∀ D H', H D = none → Same H H' → H' D = some (.lst (xs.filter (isT H))) → Q (.ref D) H'
def Sy.inner : Sy → List Sy
  | .bare _ _ _ => []
  | .neg s => [s]
  | .two _ s t => [s, t]
  | .qu _ _ s => [s]
theorem Rep.kd {H : Hp} {v : V} {s : Sy} (r : Rep H v s) : Kd H v "tuple" := by
  obtain ⟨a, xs, rfl, e⟩ := r.tup
  exact .tup e
theorem Rep.isT {H : Hp} {v : V} {s : Sy} (r : Rep H v s) : isT H v = true := by
  obtain ⟨a, xs, rfl, e⟩ := r.tup
  simp only [SS.isT, e]
theorem Rep.items {H : Hp} {v : V} {s : Sy} (r : Rep H v s) : ∃ a xs, v = .ref a ∧ H a = some (.tup xs) ∧ xs.length ≤ 3 ∧ (∀ y ∈ xs, ∃ k, Kd H y k) ∧ Paired (Rep H) (xs.filter (SS.isT H)) s.inner := by
  cases r with
  | bare hw e =>
    refine ⟨_, _, rfl, e, Nat.le_refl _, fun y hy => ?_, .nil⟩
    simp only [List.mem_cons, List.not_mem_nil, or_false] at hy
    rcases hy with rfl | rfl | rfl <;> exact ⟨_, .str _⟩
  | neg e h =>
    refine ⟨_, _, rfl, e, by simp, fun y hy => ?_, ?_⟩
    · simp only [List.mem_cons, List.not_mem_nil, or_false] at hy
      rcases hy with rfl | rfl
      · exact ⟨_, .str _⟩
      · exact ⟨_, h.kd⟩
    · rw [List.filter_cons_of_neg (by simp [SS.isT]), List.filter_cons_of_pos h.isT]
      exact .cons h .nil
  | two hw e h1 h2 =>
    refine ⟨_, _, rfl, e, by simp, fun y hy => ?_, ?_⟩
    · simp only [List.mem_cons, List.not_mem_nil, or_false] at hy
      rcases hy with rfl | rfl | rfl
      · exact ⟨_, .str _⟩
      · exact ⟨_, h1.kd⟩
      · exact ⟨_, h2.kd⟩
    · rw [List.filter_cons_of_neg (by simp [SS.isT]), List.filter_cons_of_pos h1.isT, List.filter_cons_of_pos h2.isT]
      exact .cons h1 (.cons h2 .nil)
  | qu hw e h =>
    refine ⟨_, _, rfl, e, by simp, fun y hy => ?_, ?_⟩
    · simp only [List.mem_cons, List.not_mem_nil, or_false] at hy
      rcases hy with rfl | rfl | rfl
      · exact ⟨_, .str _⟩
      · exact ⟨_, .str _⟩
      · exact ⟨_, h.kd⟩
    · rw [List.filter_cons_of_neg (by simp [SS.isT]), List.filter_cons_of_neg (by simp [SS.isT]), List.filter_cons_of_pos h.isT]
      exact .cons h .nil
def Sy.isBare : Sy → Bool
  | .bare _ _ _ => true
  | _ => false
def sp_isbare : Sp := fun vs H Q _ => ∃ v s, vs = [v] ∧ Rep H v s ∧ ∀ H', Same H H' → Q (.bl s.isBare) H'
theorem Paired.at {α β : Type} {R : α → β → Prop} : ∀ {xs : List α} {ys : List β} {i : Nat} {x : α}, Paired R xs ys → xs[i]? = some x → ∃ y, ys[i]? = some y ∧ R x y
  | _, _, _, _, .nil, h => by simp at h
  | _, _, 0, _, .cons h _, e => by simp at e; subst e; exact ⟨_, rfl, h⟩
  | _, _, i + 1, _, .cons _ h, e => by simp only [List.getElem?_cons_succ] at e ⊢; exact Paired.at h e
theorem Paired.len {α β : Type} {R : α → β → Prop} : ∀ {xs : List α} {ys : List β}, Paired R xs ys → xs.length = ys.length
  | _, _, .nil => rfl
  | _, _, .cons _ h => by rw [List.length_cons, List.length_cons, Paired.len h]
theorem inner_depth {s t : Sy} (h : t ∈ s.inner) : t.depth < s.depth ∧ t.parts < s.parts := by
  cases s with
  | bare w n m => exact nomatch h
  | neg s => rw [List.mem_singleton.mp h]; exact ⟨Nat.lt_succ_self _, Nat.lt_succ_self _⟩
  | two w s1 s2 =>
    have h : t = s1 ∨ t = s2 := by simpa [Sy.inner] using h
    have e1 : (Sy.two w s1 s2).depth = max s1.depth s2.depth + 1 := rfl
    have e2 : (Sy.two w s1 s2).parts = s1.parts + s2.parts + 1 := rfl
    rcases h with rfl | rfl <;> (rw [e1, e2]; omega)
  | qu w n s => rw [List.mem_singleton.mp h]; exact ⟨Nat.lt_succ_self _, Nat.lt_succ_self _⟩
theorem slice_not {α : Type} {xs : List α} (h : 1 ≤ xs.length) : ¬ (HT.sIx xs.length 0 (some 1) = 0 ∧ HT.sIx xs.length xs.length none = xs.length) := fun z => by
  have e : HT.sIx xs.length 0 (some ((1 : Nat) : Int)) = min 1 xs.length := HT.sIx_nat ..
  have e' : HT.sIx xs.length 0 (some 1) = min 1 xs.length := e
  rw [e'] at z
  omega
def isPl (z : Str) : Bool := isNm (.str z) SMALL
def isSt (z : Str) : Bool := isNm (.str z) GREAT
theorem nm_ex {z l : Str} (h : isNm (.str z) l = true) : ∃ c r, z.cps.toList = c :: r ∧ r.length ≤ 3 ∧ c ∈ l.cps.toList ∧ ∀ d ∈ r, d ∈ FIGS.cps.toList := by
  simp only [isNm, nameB] at h
  split at h
  · cases h
  · rename_i c r e
    rw [Bool.and_eq_true, Bool.and_eq_true, sign_in, decide_eq_true_eq, decide_eq_true_eq, List.all_eq_true] at h
    exact ⟨c, r, e, h.1.1, h.1.2, fun d hd => by have := h.2 d hd; rw [sign_in, decide_eq_true_eq] at this; exact this⟩
theorem name_cases {z : Str} (h : isName (.str z) = true) : isPl z = true ∨ isSt z = true := by
  unfold isName at h
  rw [Bool.or_eq_true] at h
  exact h
theorem depth_qu (w n : Str) (s : Sy) : (Sy.qu w n s).depth = s.depth + 1 ∧ (Sy.qu w n s).parts = s.parts + 1 := ⟨rfl, rfl⟩
end SS
namespace L2
open PySem PySem.Spec PyProof.Rows
section
variable {P : Program} {w : World} {A : Around} {E : Value → Shared → Prop} {s : Shared}
theorem nx_tup_item {j t : Addr} {k : Nat} {its : Array Value} {y : Value} {Q : Value → Shared → Prop} (st : s.heap.IsTupleIter j t k) (tp : s.heap.IsTuple t its) (hy : its[k]? = some y)
    (q : ∀ h', h'.IsTupleIter j t (k + 1) → Heap.SameBut j s.heap h' → Q y { s with heap := h' }) : wpAny (model P w) A (Builtin.SmallTypes.nextOf (.ref j)) Q E s := by
  obtain ⟨oj, gj, cj, dj⟩ := id st
  obtain ⟨ot, gt, _, nt, dt⟩ := tp
  unfold Builtin.SmallTypes.nextOf
  refine wpAny_bind (wpAny_callSpecial?_slot (name := Str.ofString "__next__") st.typeIs F.slot_tuple_iterator_next (wpAny_call_entry F.slot_tuple_iterator_next st.typeIs F.entry_tuple_iterator_next ?_ (F.args_tuple_iterator_next_1 _)))
  show wpAny _ _ (field (.ref j) 0 >>= _) _ _ s
  refine wpAny_bind (wpAny_field gj dj (x := .ref t) rfl ?_)
  show wpAny _ _ (if (Value.ref t == Value.none) = true then _ else _) _ _ s
  rw [if_neg (show ¬ (Value.ref t == Value.none) = true from Bool.false_ne_true)]
  show wpAny _ _ (field (.ref j) 1 >>= _) _ _ s
  refine wpAny_bind (wpAny_field gj dj (x := .int k 0) rfl ?_)
  show wpAny _ _ (seqItems? (.ref t) >>= _) _ _ s
  refine wpAny_bind (wpAny_seqItems gt dt ?_)
  simp only [Int.toNat_natCast, hy]
  refine wpAny_bind (wpAny_setField gj dj (by simp) (wpAny_pure ⟨y, rfl, wpAny_pure (q _ ?_ (Heap.SameBut.update ..))⟩))
  exact ⟨_, Heap.get?_update_self _ gj (Obj.isFreed_of_fields (Obj.data_mapFields dj _)), (Obj.cls_mapFields ..).trans cj, by rw [Obj.data_mapFields dj]; simp [rawInt]⟩
theorem nx_tup_end {j t : Addr} {k : Nat} {its : Array Value} {Q : Value → Shared → Prop} (hh : A.handled = none) (st : s.heap.IsTupleIter j t k) (tp : s.heap.IsTuple t its) (hy : its[k]? = none)
    (q : ∀ h' e, Heap.ExtBut j s.heap h' → (∃ o, h'.get? e = some o ∧ o.cls = .type "StopIteration") → E (.ref e) { s with heap := h' }) : wpAny (model P w) A (Builtin.SmallTypes.nextOf (.ref j)) Q E s := by
  obtain ⟨oj, gj, cj, dj⟩ := id st
  obtain ⟨ot, gt, _, nt, dt⟩ := tp
  unfold Builtin.SmallTypes.nextOf
  refine wpAny_bind (wpAny_callSpecial?_slot (name := Str.ofString "__next__") st.typeIs F.slot_tuple_iterator_next (wpAny_call_entry F.slot_tuple_iterator_next st.typeIs F.entry_tuple_iterator_next ?_ (F.args_tuple_iterator_next_1 _)))
  show wpAny _ _ (field (.ref j) 0 >>= _) _ _ s
  refine wpAny_bind (wpAny_field gj dj (x := .ref t) rfl ?_)
  show wpAny _ _ (if (Value.ref t == Value.none) = true then _ else _) _ _ s
  rw [if_neg (show ¬ (Value.ref t == Value.none) = true from Bool.false_ne_true)]
  show wpAny _ _ (field (.ref j) 1 >>= _) _ _ s
  refine wpAny_bind (wpAny_field gj dj (x := .int k 0) rfl ?_)
  show wpAny _ _ (seqItems? (.ref t) >>= _) _ _ s
  refine wpAny_bind (wpAny_seqItems gt dt ?_)
  simp only [Int.toNat_natCast, hy]
  refine wpAny_bind (wpAny_rule (wpAny_bind (wpAny_setField gj dj (by simp) ?_)))
  show wpAny _ _ (newExc (.type "StopIteration") [] >>= _) _ _ _
  refine wpAny_bind ?_
  simp only [newExc, newTuple]
  refine wpAny_bind (wpAny_newObj_type ?_ (by size_fits))
  refine wpAny_bind (m := firstArgMember _ _) (wpAny_of_eq (a := Value.none) (by simp only [firstArgMember]; rfl) ?_)
  refine wpAny_newObj_type ?_ (by size_fits)
  simp only [raiseNew]
  refine wpAny_bind (wpAny_handled ?_)
  rw [show A.in1.handled = none from hh]
  refine wpAny_bind (wpAny_pure (wpAny_throw (q _ _ (((Heap.SameBut.update ..).extBut.push _).push _) ⟨_, Heap.get?_push_size _ rfl, rfl⟩)))
end
structure ZipT (h : Heap) (z ti ro j1 j2 t1 t2 : Addr) (f0 : Value) (i : Nat) : Prop where
  z : IsZip h z ti ro f0
  ti : IsPair h ti (.ref j1) (.ref j2)
  ro : ∃ a b, IsPair h ro a b
  j1 : h.IsTupleIter j1 t1 i
  j2 : h.IsTupleIter j2 t2 i
section
variable {P : Program} {w : World} {A : Around} {E : Value → Shared → Prop} {s : Shared} {z ti ro j1 j2 t1 t2 : Addr} {i : Nat} {its1 its2 : Array Value}
theorem zt_item {x y : Value} {Q : Option Value → Shared → Prop} (D : ZipApart z ti ro j1 j2 t1 t2) (Z : ZipT s.heap z ti ro j1 j2 t1 t2 .none i) (p1 : s.heap.IsTuple t1 its1) (p2 : s.heap.IsTuple t2 its2) (hx : its1[i]? = some x) (hy : its2[i]? = some y)
    (q : ∀ h', ZipT h' z ti ro j1 j2 t1 t2 (rawInt s.heap.objs.size) (i + 1) → IsPair h' s.heap.objs.size x y → h'.objs.size = s.heap.objs.size + 1 → (∀ c o, c ≠ z → c ≠ ro → c ≠ j1 → c ≠ j2 → s.heap.get? c = some o → h'.get? c = some o) →
      Q (some (.ref s.heap.objs.size)) { s with heap := h' }) : wpAny (model P w) A (pyNext (.ref z)) Q E s := by
  have hT : s.TypeIs (.ref z) "zip" := ⟨_, Z.z, rfl⟩
  obtain ⟨a, b, hro⟩ := Z.ro
  unfold pyNext
  refine wpAny_bind (wpAny_attempt (wpAny_callSpecial?_slot (name := Str.ofString "__next__") hT F.slot_zip_next (wpAny_call_entry F.slot_zip_next hT F.entry_zip_next ?_ (F.args_zip_next_1 _))))
  show wpAny _ _ (field (.ref z) 2 >>= _) _ _ _
  refine wpAny_bind (wpAny_field Z.z rfl (x := .bool false) rfl ?_)
  show wpAny _ _ (field (.ref z) 3 >>= _) _ _ _
  refine wpAny_bind (wpAny_field Z.z rfl (x := .ref ti) rfl ?_)
  refine wpAny_bind (wpAny_seqItems Z.ti rfl ?_)
  show wpAny _ _ (Builtin.SmallTypes.ownedTupleIsFree (.ref z) >>= _) _ _ _
  refine wpAny_bind ?_
  unfold Builtin.SmallTypes.ownedTupleIsFree
  refine wpAny_bind (wpAny_field Z.z rfl (x := .none) rfl (wpAny_pure ?_))
  simp only [if_true]
  refine wpAny_bind (wpAny_rule ?_)
  refine wpAny_bind (wpAny_field Z.z rfl (x := .ref ro) rfl ?_)
  refine wpAny_bind (wpAny_setField_rec Z.z (by simp) fun ha hza hsa => ?_)
  replace hza : IsZip ha z ti ro .ellipsis := hza
  refine wpAny_bind ?_
  simp only [List.zipIdx_cons, List.zipIdx_nil, List.forIn_cons, List.forIn_nil]
  refine wpAny_bind (wpAny_bind (wpAny_onRaise ?_))
  show wpAny _ _ (Builtin.SmallTypes.nextOf (.ref j1) >>= _) _ _ _
  refine wpAny_bind (nx_tup_item (Z.j1.extBut hsa.extBut D.i1z) (p1.extBut hsa.extBut D.l1z) hx fun hb b1 hsb => wpAny_pure ?_)
  have rob : IsPair hb ro a b := hsb.extBut _ _ D.TOi1 (hsa.extBut _ _ D.TOz hro)
  refine wpAny_bind (wpAny_seqItems rob rfl ?_)
  refine wpAny_bind (wpAny_updateSeq_pair rob fun hc roc hsc => ?_)
  replace roc : IsPair hc ro x b := roc
  refine wpAny_bind (wpAny_letGo (wpAny_pure ?_))
  refine wpAny_bind (wpAny_bind (wpAny_onRaise ?_))
  show wpAny _ _ (Builtin.SmallTypes.nextOf (.ref j2) >>= _) _ _ _
  refine wpAny_bind (nx_tup_item (((Z.j2.extBut hsa.extBut D.i2z).extBut hsb.extBut D.i12.symm).extBut hsc.extBut D.TOi2.symm) (((p2.extBut hsa.extBut D.l2z).extBut hsb.extBut D.l2i1).extBut hsc.extBut D.l2TO) hy fun hd d2 hsd => wpAny_pure ?_)
  have rod : IsPair hd ro x b := hsd.extBut _ _ D.TOi2 roc
  refine wpAny_bind (wpAny_seqItems rod rfl ?_)
  refine wpAny_bind (wpAny_updateSeq_pair rod fun he roe hse => ?_)
  replace roe : IsPair he ro x y := roe
  refine wpAny_bind (wpAny_letGo (wpAny_pure (wpAny_pure ?_)))
  refine wpAny_bind (wpAny_seqItems roe rfl ?_)
  refine wpAny_bind (wpAny_newTuple ?_)
  have sz : he.objs.size = s.heap.objs.size := by rw [hse.1, hsd.1, hsc.1, hsb.1, hsa.1]
  have ze : IsZip he z ti ro .ellipsis := hse.extBut _ _ D.TOz.symm (hsd.extBut _ _ D.i2z.symm (hsc.extBut _ _ D.TOz.symm (hsb.extBut _ _ D.i1z.symm hza)))
  have ke : ∀ c o, c ≠ z → c ≠ ro → c ≠ j1 → c ≠ j2 → s.heap.get? c = some o → he.get? c = some o := fun c o c1 c2 c3 c4 e =>
    hse.extBut _ _ c2 (hsd.extBut _ _ c4 (hsc.extBut _ _ c2 (hsb.extBut _ _ c3 (hsa.extBut _ _ c1 e))))
  have e1 : he.IsTupleIter j1 t1 (i + 1) := ((b1.extBut hsc.extBut D.TOi1.symm).extBut hsd.extBut D.i12).extBut hse.extBut D.TOi1.symm
  have e2 : he.IsTupleIter j2 t2 (i + 1) := d2.extBut hse.extBut D.TOi2.symm
  have zlt : z < he.objs.size := Heap.lt_size ze
  show wpAny _ _ (Builtin.SmallTypes.ownedTupleHandOut (.ref z) (.ref he.objs.size) >>= _) _ _ _
  refine wpAny_bind ?_
  unfold Builtin.SmallTypes.ownedTupleHandOut
  have zf : IsZip (he.push { cls := .type "tuple", data := .seq #[x, y] }) z ti ro .ellipsis := Heap.get?_push_of_some _ ze
  refine wpAny_bind (wpAny_setField_rec zf (by simp) fun hg zg hsg => ?_)
  replace zg : IsZip hg z ti ro (rawInt he.objs.size) := zg
  refine wpAny_setField_rec zg (by simp) fun hk zk hsk => ?_
  replace zk : IsZip hk z ti ro (rawInt he.objs.size) := zk
  have up : ∀ c o, c ≠ z → he.get? c = some o → hk.get? c = some o := fun c o c1 e => hsk.extBut _ _ c1 (hsg.extBut _ _ c1 (Heap.get?_push_of_some _ e))
  have tk : IsPair hk he.objs.size x y := hsk.extBut _ _ (Nat.ne_of_gt zlt) (hsg.extBut _ _ (Nat.ne_of_gt zlt) (Heap.get?_push_size _ rfl))
  have zk8 : hk.objs.size = he.objs.size + 1 := by rw [hsk.1, hsg.1, Heap.size_push]
  rw [sz] at zk tk zk8
  refine wpAny_pure ⟨_, rfl, wpAny_pure ?_⟩
  show Q (some (.ref he.objs.size)) _
  rw [sz]
  exact q hk ⟨zk, up _ _ D.TIz (ke _ _ D.TIz D.TITO D.TIi1 D.TIi2 Z.ti), ⟨_, _, up _ _ D.TOz roe⟩, e1.at fun o e => up _ o D.i1z e, e2.at fun o e => up _ o D.i2z e⟩ tk zk8 fun c o c1 c2 c3 c4 e => up c o c1 (ke c o c1 c2 c3 c4 e)
theorem zt_end {Q : Option Value → Shared → Prop} (hh : A.handled = none) (D : ZipApart z ti ro j1 j2 t1 t2) (Z : ZipT s.heap z ti ro j1 j2 t1 t2 .none i) (p1 : s.heap.IsTuple t1 its1) (p2 : s.heap.IsTuple t2 its2) (hx : its1[i]? = none)
    (q : ∀ h', (∀ c o, c ≠ z → c ≠ ro → c ≠ j1 → c ≠ j2 → s.heap.get? c = some o → h'.get? c = some o) → Q none { s with heap := h' }) : wpAny (model P w) A (pyNext (.ref z)) Q E s := by
  have hT : s.TypeIs (.ref z) "zip" := ⟨_, Z.z, rfl⟩
  unfold pyNext
  refine wpAny_bind (wpAny_attempt (wpAny_callSpecial?_slot (name := Str.ofString "__next__") hT F.slot_zip_next (wpAny_call_entry F.slot_zip_next hT F.entry_zip_next ?_ (F.args_zip_next_1 _))))
  show wpAny _ _ (field (.ref z) 2 >>= _) _ _ _
  refine wpAny_bind (wpAny_field Z.z rfl (x := .bool false) rfl ?_)
  show wpAny _ _ (field (.ref z) 3 >>= _) _ _ _
  refine wpAny_bind (wpAny_field Z.z rfl (x := .ref ti) rfl ?_)
  refine wpAny_bind (wpAny_seqItems Z.ti rfl ?_)
  show wpAny _ _ (Builtin.SmallTypes.ownedTupleIsFree (.ref z) >>= _) _ _ _
  refine wpAny_bind ?_
  unfold Builtin.SmallTypes.ownedTupleIsFree
  refine wpAny_bind (wpAny_field Z.z rfl (x := .none) rfl (wpAny_pure ?_))
  simp only [if_true]
  refine wpAny_bind (wpAny_rule ?_)
  refine wpAny_bind (wpAny_field Z.z rfl (x := .ref ro) rfl ?_)
  refine wpAny_bind (wpAny_setField_rec Z.z (by simp) fun ha hza hsa => ?_)
  replace hza : IsZip ha z ti ro .ellipsis := hza
  refine wpAny_bind ?_
  simp only [List.zipIdx_cons, List.zipIdx_nil, List.forIn_cons, List.forIn_nil]
  refine wpAny_bind (wpAny_bind (wpAny_onRaise ?_))
  show wpAny _ _ (Builtin.SmallTypes.nextOf (.ref j1) >>= _) _ _ _
  refine wpAny_bind (nx_tup_end hh (Z.j1.extBut hsa.extBut D.i1z) (p1.extBut hsa.extBut D.l1z) hx fun hb e hsb ⟨oe, ge, ce⟩ => ?_)
  have zb : IsZip hb z ti ro .ellipsis := hsb _ _ D.i1z.symm hza
  have nez : e ≠ z := fun z' => by
    subst z'
    rw [zb] at ge
    cases ge
    simp at ce
  refine wpAny_setField_rec zb (by simp) fun hc _ hsc => ?_
  refine wpAny_bind (wpAny_isInstance (T := "StopIteration") (b := true) ⟨oe, hsc.extBut _ _ nez ge, ce⟩ isSubtype_stop ?_)
  exact wpAny_pure (q _ fun c o c1 _ c3 _ x => hsc.extBut _ _ c1 (hsb _ _ c3 (hsa.extBut _ _ c1 x)))
end
abbrev zt1 (h : Heap) (a : Addr) : Heap := h.push { cls := .type "tuple_iterator", data := .fields #[.ref a, .int 0 0] }
abbrev zt2 (h : Heap) (a b : Addr) : Heap := (zt1 h a).push { cls := .type "tuple_iterator", data := .fields #[.ref b, .int 0 0] }
abbrev zt3 (h : Heap) (a b : Addr) : Heap := (zt2 h a b).push { cls := .type "tuple", data := .seq #[.ref h.objs.size, .ref (zt1 h a).objs.size] }
abbrev zt4 (h : Heap) (a b : Addr) : Heap := (zt3 h a b).push { cls := .type "tuple", data := .seq #[.none, .none] }
abbrev zt5 (h : Heap) (a b : Addr) : Heap := (zt4 h a b).push { cls := .type "zip", data := .fields #[.none, .bool false, .bool false, .ref (zt2 h a b).objs.size, .ref (zt3 h a b).objs.size] }
theorem zt_new (a b : Addr) (xs ys : Array Value) : Meets (Builtin.«zip.__new__» ⟨[.type "zip", .ref a, .ref b], []⟩) (fun _ R s => s.heap.IsTuple a xs ∧ s.heap.IsTuple b ys ∧ R (.ok (.ret (.ref (zt4 s.heap a b).objs.size))) { s with heap := zt5 s.heap a b }) :=
  .of_wp fun prog w A R s h => by
    obtain ⟨hp, g, d, tk, os⟩ := s
    obtain ⟨ha, hb, h⟩ := h
    have hsub := sub_zip
    have hA : Heap.IsTuple (Shared.heap ⟨hp, g, d, tk, os⟩) a xs := ha
    have hB : Heap.IsTuple (Shared.heap ⟨hp.push { cls := .type "tuple_iterator", data := .fields #[.ref a, .int 0 0] }, g, d, tk, os⟩) b ys := by
      obtain ⟨o, e, r⟩ := hb
      exact ⟨o, Heap.get?_push_of_some _ e, r⟩
    wp_walk using wpAny_pyIter_tuple hA, wpAny_pyIter_tuple hB
    exact ⟨_, rfl, h⟩
section
variable {P : Program} {w : World} {A : Around} {E : Value → Shared → Prop} {s : Shared}
theorem zt_call {a b : Addr} {xs ys : Array Value} {Q : Value → Shared → Prop} (ha : s.heap.IsTuple a xs) (hb : s.heap.IsTuple b ys)
    (q : ∀ h', ZipT h' (s.heap.objs.size + 4) (s.heap.objs.size + 2) (s.heap.objs.size + 3) s.heap.objs.size (s.heap.objs.size + 1) a b .none 0 → h'.objs.size = s.heap.objs.size + 5 → (∀ c o, s.heap.get? c = some o → h'.get? c = some o) → Q (.ref (s.heap.objs.size + 4)) { s with heap := h' }) :
    wpAny (model P w) A (call (.type "zip") [.ref a, .ref b]) Q E s := by
  refine callType_new F.called_zip (by decide) (F.typeCall_zip_2 _ _) (F.newCall_zip_2 _ _) (fun obj => F.args_object_init_3 obj _ _) F.entry_zip_new (zt_new a b xs ys) ⟨ha, hb, ?_⟩
  have s1 : (zt1 s.heap a).objs.size = s.heap.objs.size + 1 := Heap.size_push ..
  have s2 : (zt2 s.heap a b).objs.size = s.heap.objs.size + 2 := by rw [Heap.size_push, s1]
  have s3 : (zt3 s.heap a b).objs.size = s.heap.objs.size + 3 := by rw [Heap.size_push, s2]
  have s4 : (zt4 s.heap a b).objs.size = s.heap.objs.size + 4 := by rw [Heap.size_push, s3]
  have s5 : (zt5 s.heap a b).objs.size = s.heap.objs.size + 5 := by rw [Heap.size_push, s4]
  have k5 : (zt5 s.heap a b).get? (zt4 s.heap a b).objs.size = some _ := Heap.get?_push_size _ rfl
  have k4 : (zt5 s.heap a b).get? (zt3 s.heap a b).objs.size = some _ := Heap.get?_push_of_some _ (Heap.get?_push_size _ rfl)
  have k3 : (zt5 s.heap a b).get? (zt2 s.heap a b).objs.size = some _ := Heap.get?_push_of_some _ (Heap.get?_push_of_some _ (Heap.get?_push_size _ rfl))
  have k2 : (zt5 s.heap a b).get? (zt1 s.heap a).objs.size = some _ := Heap.get?_push_of_some _ (Heap.get?_push_of_some _ (Heap.get?_push_of_some _ (Heap.get?_push_size _ rfl)))
  have k1 : (zt5 s.heap a b).get? s.heap.objs.size = some _ := Heap.get?_push_of_some _ (Heap.get?_push_of_some _ (Heap.get?_push_of_some _ (Heap.get?_push_of_some _ (Heap.get?_push_size _ rfl))))
  rw [s2, s3, s4] at k5
  rw [s1, s2] at k3
  rw [s3] at k4
  rw [s1] at k2
  show _ ∧ _
  rw [s4]
  exact ⟨⟨_, k5, rfl⟩, q _ ⟨k5, k3, ⟨_, _, k4⟩, ⟨_, k1, rfl, rfl⟩, ⟨_, k2, rfl, rfl⟩⟩ s5 fun c o x => Heap.get?_push_of_some _ (Heap.get?_push_of_some _ (Heap.get?_push_of_some _ (Heap.get?_push_of_some _ (Heap.get?_push_of_some _ x))))⟩
end
section
variable {X : Cx} {pins : List (Addr × Obj)} {σ : St} {H : Hp} {s : Shared} {h' : Heap}
theorem Inv.turnedL {t' : Nat} {L : List Addr} (I : Inv X pins σ H s) (k : ∀ b o, b ∉ L → s.heap.get? b = some o → h'.get? b = some o) (hL : ∀ b ∈ L, FpOk X pins H b) : Inv X pins σ H { s with heap := h', toks := t' } := by
  have no : ∀ b u, H b = some u → b ∉ L := fun b u e z => by rw [(hL b z).1] at e; cases e
  refine I.step (g' := s.gens) (d' := s.drawn) (ch := L) (fun b hb => ?_) (fun b o _ _ hc e _ => k b o hc e) (fun b o _ _ hc e _ => ⟨o.slots, k b o hc e⟩) (fun _ _ _ _ n => n)
    (fun b o hc e => ⟨o, k b o hc e⟩) (fun _ _ e => e) (fun _ _ _ e => e) (fun _ _ _ e => e) (fun m hm => ?_) (fun b u e => ?_) I.bare
  · obtain ⟨_, f1, _, f3, f4, f5⟩ := hL b hb
    exact ⟨f3, f1, f4, f5⟩
  · obtain ⟨o, es, ep, ho, r⟩ := hm
    exact ⟨o, es, ep, k _ o (fun z => (hL _ z).2.1 rfl) ho, r⟩
  · refine (I.hok b u e).stay (fun c v hc q => k c v ?_ q) (fun _ q => q) (fun _ _ _ _ _ q => q) fun _ _ q => q
    rcases hc with z | z
    · rw [z]; exact no b u e
    · exact no c _ z
theorem Inv.turnedNew {t' : Nat} {L : List Addr} {p : Addr} {o : HO} (I : Inv X pins σ H s) (k : ∀ b u, b ∉ L → s.heap.get? b = some u → h'.get? b = some u) (hL : ∀ b ∈ L, FpOk X pins H b) (hp : s.heap.objs.size ≤ p) (new : ObjOk X.prog X.w (upd H p o) h' p o)
    (hl : ∀ b ∈ L, ∃ u, h'.get? b = some u) : Inv X pins σ (upd H p o) { s with heap := h', toks := t' } := by
  have hn : H p = none := I.hok.fresh hp
  have no : ∀ b u, H b = some u → b ∉ L := fun b u e z => by rw [(hL b z).1] at e; cases e
  have ne : ∀ b u, H b = some u → upd H p o b = some u := fun b u e => by rw [upd_ne (ne_of_none e hn)]; exact e
  refine I.step (g' := s.gens) (d' := s.drawn) (ch := L) (fun b hb => ?_) (fun b u _ _ hc e _ => k b u hc e) (fun b u _ _ hc e _ => ⟨u.slots, k b u hc e⟩) (fun b u _ e z => ?_)
    (fun b u hc e => ⟨u, k b u hc e⟩) (fun b xs e => ne b _ e) (fun b ob u e => ne b _ e) (fun b _ _ e => ne b _ e) (fun m hm => ?_) (fun b u e => ?_) I.bare
  · obtain ⟨_, f1, _, f3, f4, f5⟩ := hL b hb
    exact ⟨f3, f1, f4, f5⟩
  · rw [upd_ne (Nat.ne_of_lt (Nat.lt_of_lt_of_le (Heap.lt_size e) hp))]; exact z
  · obtain ⟨ob, es, ep, ho, r⟩ := hm
    exact ⟨ob, es, ep, k _ ob (fun z => (hL _ z).2.1 rfl) ho, r⟩
  · by_cases hb : b = p
    · subst hb; rw [upd_same] at e; cases e; exact new
    · rw [upd_ne hb] at e
      refine (I.hok b u e).stay (fun c v hc q => k c v ?_ q) (fun c q => ne c _ q) (fun c _ _ _ _ q => ne c _ q) fun c xs q => ne c _ q
      rcases hc with z | z
      · rw [z]; exact no b u e
      · exact no c _ z
end
def Itz (K : PySem.W.Frag) (a b : Addr) : It :=
  ⟨fun i H => ∃ xs ys x y, SqT K H a xs ∧ SqT K H b ys ∧ xs[i]? = some x ∧ ys[i]? = some y,
   fun i H v H' => ∃ p x y, v = .ref p ∧ New H p (.tup [x, y]) H' ∧ (∀ xs, SqT K H a xs → xs[i]? = some x) ∧ ∀ ys, SqT K H b ys → ys[i]? = some y,
   fun i H => ∃ xs ys, SqT K H a xs ∧ SqT K H b ys ∧ xs.length ≤ i⟩
theorem turn_zip {P : Program} {w : World} {K : PySem.W.Frag} {elts : List Expr} {x1} {tpos : Pos} (z ti ro j1 j2 a b : Addr) (D : ZipApart z ti ro j1 j2 a b) :
    Turn P w K (.Tuple elts x1 tpos) (Itz K a b) [z, ti, ro, j1, j2] z (fun i h => ZipT h z ti ro j1 j2 a b .none i) where
  mem := by simp
  obj := fun i h st c hc => by
    obtain ⟨u, v, hro⟩ := st.ro
    obtain ⟨o1, e1, c1, d1⟩ := st.j1
    obtain ⟨o2, e2, c2, d2⟩ := st.j2
    simp only [List.mem_cons, List.not_mem_nil, or_false] at hc
    rcases hc with rfl | rfl | rfl | rfl | rfl
    · exact ⟨_, st.z, fun v q => nomatch q⟩
    · exact ⟨_, st.ti, fun v q => nomatch q⟩
    · exact ⟨_, hro, fun v q => nomatch q⟩
    · exact ⟨_, e1, fun v q => by rw [d1] at q; cases q⟩
    · exact ⟨_, e2, fun v q => by rw [d2] at q; cases q⟩
  keep := fun i h h' st k => by
    obtain ⟨u, v, hro⟩ := st.ro
    exact ⟨k z (by simp) _ st.z, k ti (by simp) _ st.ti, ⟨u, v, k ro (by simp) _ hro⟩, st.j1.at fun o e => k j1 (by simp) o e, st.j2.at fun o e => k j2 (by simp) o e⟩
  item := by
    intro X hP hw hK hc i pins s σ H E I hf st hg
    subst hP hw hK
    obtain ⟨xs, ys, x, y, hx, hy, ex, ey⟩ := hg
    obtain ⟨its1, r1, p1, _⟩ := I.tuple hx
    obtain ⟨its2, r2, p2, _⟩ := I.tuple hy
    obtain ⟨u, hu, ru⟩ := r1.get ex
    obtain ⟨v, hv, rv⟩ := r2.get ey
    have fz := hf z (by simp)
    refine zt_item D st (show s.heap.IsTuple a its1.toArray from p1) (show s.heap.IsTuple b its2.toArray from p2) (x := u) (y := v) (by simpa using hu) (by simpa using hv) fun h1 Z1 q1 sz1 k1 => ⟨_, rfl, ?_⟩
    refine wpAny_letOwnedTupleGo_zip Z1.z fun h2 z2 sb2 => ?_
    have hlt : ∀ c ∈ [z, ti, ro, j1, j2], c ≠ s.heap.objs.size := fun c hc => by
      obtain ⟨o, e, _⟩ : ∃ o, s.heap.get? c = some o ∧ True := by
        obtain ⟨u', v', hro⟩ := st.ro
        obtain ⟨o1, e1, _⟩ := st.j1
        obtain ⟨o2, e2, _⟩ := st.j2
        simp only [List.mem_cons, List.not_mem_nil, or_false] at hc
        rcases hc with rfl | rfl | rfl | rfl | rfl
        · exact ⟨_, st.z, trivial⟩
        · exact ⟨_, st.ti, trivial⟩
        · exact ⟨_, hro, trivial⟩
        · exact ⟨_, e1, trivial⟩
        · exact ⟨_, e2, trivial⟩
      exact Nat.ne_of_lt (Heap.lt_size e)
    have k2 : ∀ c o, c ∉ [z, ti, ro, j1, j2] → s.heap.get? c = some o → h2.get? c = some o := fun c o hc e => by
      have hz : c ≠ z := fun q => hc (by simp [q])
      exact sb2.extBut _ _ hz (k1 c o hz (fun q => hc (by simp [q])) (fun q => hc (by simp [q])) (fun q => hc (by simp [q])) e)
    have tup2 : h2.get? s.heap.objs.size = some { cls := .type "tuple", data := .seq #[u, v] } := sb2.extBut _ _ (Ne.symm (hlt z (by simp))) q1
    have st2 : ZipT h2 z ti ro j1 j2 a b .none (i + 1) := by
      obtain ⟨u', v', hro⟩ := Z1.ro
      exact ⟨z2, sb2.extBut _ _ D.TIz Z1.ti, ⟨u', v', sb2.extBut _ _ D.TOz hro⟩, Z1.j1.extBut sb2.extBut D.i1z, Z1.j2.extBut sb2.extBut D.i2z⟩
    have there : ∀ c ∈ [z, ti, ro, j1, j2], ∃ o, h2.get? c = some o := fun c hc => by
      obtain ⟨u', v', hro⟩ := st2.ro
      obtain ⟨o1, e1, _⟩ := st2.j1
      obtain ⟨o2, e2, _⟩ := st2.j2
      simp only [List.mem_cons, List.not_mem_nil, or_false] at hc
      rcases hc with rfl | rfl | rfl | rfl | rfl
      · exact ⟨_, st2.z⟩
      · exact ⟨_, st2.ti⟩
      · exact ⟨_, hro⟩
      · exact ⟨_, e1⟩
      · exact ⟨_, e2⟩
    have I2 : Inv X pins σ (upd H s.heap.objs.size (.tup [x, y])) { s with heap := h2, toks := s.toks } := I.turnedNew k2 hf (Nat.le_refl _) ⟨small_line (by simp), [u, v], .cons ru (.cons rv .nil), ⟨_, tup2, rfl, _, rfl⟩⟩ there
    refine ⟨.ref s.heap.objs.size, _, I2, rfl, ⟨_, x, y, rfl, .mk' I.fresh _, fun ws hw => by rw [I.tuple_inj hw hx]; exact ex, fun ws hw => by rw [I.tuple_inj hw hy]; exact ey⟩, st2, fun c hc => ?_⟩
    rw [upd_ne (hlt c hc)]
    exact (hf c hc).1
  done := by
    intro X hP hw hK hc i pins s σ H E I hf st hg
    subst hP hw hK
    obtain ⟨xs, ys, hx, hy, hl⟩ := hg
    obtain ⟨its1, r1, p1, _⟩ := I.tuple hx
    obtain ⟨its2, r2, p2, _⟩ := I.tuple hy
    have l1 := r1.length
    exact zt_end (I.ok.hd hc) D st (show s.heap.IsTuple a its1.toArray from p1) (show s.heap.IsTuple b its2.toArray from p2) (by simp; omega) fun h' k => ⟨rfl, I.turnedL (t' := s.toks) (fun c o hc e => k c o (fun q => hc (by simp [q])) (fun q => hc (by simp [q])) (fun q => hc (by simp [q])) (fun q => hc (by simp [q])) e) hf⟩
  self := fun _ _ _ _ _ st h => wpAny_pyIter_zip st.z h
def iZip (K : PySem.W.Frag) (ta : TA) : TI := fun σ H R => ta σ H fun vs H1 => ∃ a b, vs = [.ref a, .ref b] ∧ (∃ xs, SqT K H1 a xs) ∧ (∃ ys, SqT K H1 b ys) ∧ R (Itz K a b) H1
theorem pi_zip {X : Cx} {elts : List Expr} {x1} {tpos : Pos} {a b : Expr} {ta : TA} {p pos : Pos} (hg : Gl X "zip") (hm : X.mg "zip" = none) (ha : PA X [a, b] ta) (h1 : notStar a = true := by rfl) (h2 : notStar b = true := by rfl) : PI X (.Tuple elts x1 tpos) (.Call (.Name "zip" p) [a, b] [] pos) (iZip X.K ta) := by
  intro pins s σ H R I h
  have hs2 : starEach [b] X.env = [(false, eval b X.env)] := by rw [star_cons h2, starEach.eq_def]
  have hs : starEach [a, b] X.env = [(false, eval a X.env), (false, eval b X.env)] := by rw [star_cons h1, hs2]
  refine Call_ (ld_blt I hg hm boot_zip (PyProof.Rows.callWith_type1 (thn (ha pos pins s σ H _ I h) fun us s1 ⟨vs, H1, I1, r1, q1⟩ => ?_) (by rw [hs, hs2]) (by rw [hs2]; rfl)))
  obtain ⟨p1, p2, e, ⟨xs, hx⟩, ⟨ys, hy⟩, q⟩ := q1
  subst e
  obtain ⟨u, v, rfl, ru, rv⟩ := vals2 r1
  cases (show u = Value.ref p1 from ru)
  cases (show v = Value.ref p2 from rv)
  obtain ⟨its1, _, t1, _⟩ := I1.tuple hx
  obtain ⟨its2, _, t2, _⟩ := I1.tuple hy
  have l1 : p1 < s1.heap.objs.size := by obtain ⟨_, e, _⟩ := t1; exact Heap.lt_size e
  have l2 : p2 < s1.heap.objs.size := by obtain ⟨_, e, _⟩ := t2; exact Heap.lt_size e
  refine zt_call (show s1.heap.IsTuple p1 its1.toArray from t1) (show s1.heap.IsTuple p2 its2.toArray from t2) fun h' Z sz k => wpAny_pyIter_zip Z.z ?_
  refine ⟨_, [s1.heap.objs.size + 4, s1.heap.objs.size + 2, s1.heap.objs.size + 3, s1.heap.objs.size, s1.heap.objs.size + 1], _, _, H1, rfl, I1.kept (t' := s1.toks) k, turn_zip _ _ _ _ _ p1 p2 (zipApart_new l1 l2), Z, fun c hc => ?_, q⟩
  have hle : s1.heap.objs.size ≤ c := by
    simp only [List.mem_cons, List.not_mem_nil, or_false] at hc
    rcases hc with rfl | rfl | rfl | rfl | rfl
    · exact Nat.le_add_right _ _
    · exact Nat.le_add_right _ _
    · exact Nat.le_add_right _ _
    · exact Nat.le_refl _
    · exact Nat.le_add_right _ _
  exact I1.fpOk hle (I1.hok.fresh hle)
theorem pi_zipK {X : Cx} (K : PySem.W.Frag) {elts : List Expr} {x1} {tpos : Pos} {a b : Expr} {ta : TA} {p pos : Pos} (hg : Gl X "zip") (hm : X.mg "zip" = none) (ha : PA X [a, b] ta) (h : X.K = K := by rfl) (h1 : notStar a = true := by rfl) (h2 : notStar b = true := by rfl) :
    PI X (.Tuple elts x1 tpos) (.Call (.Name "zip" p) [a, b] [] pos) (iZip K ta) := h ▸ pi_zip hg hm ha h1 h2
theorem pg_tupK {X : Cx} (K : PySem.W.Frag) {es : List Expr} {k : Nat} {t : TGs} {n : Nat} {pos : Pos} (hc : X.calm = true) (h : PGs X es t) (hK : X.K = K := by rfl)
    (hn : (assignEach es X.env).length = n := by rfl) (hst : (assignEach es X.env).findIdx? (·.1) = none := by rfl) : PG X (.Tuple es k pos) (gTup K n t) := hK ▸ pg_tup hc h hn hst
section
variable {tn : List Str} {cp : List (Nat × Str)} {g : TG} {tif : TT} {te : TE} {σ0 : St} {Q : VK} {H1 : Hp} {K : PySem.W.Frag} {a b : Addr} {xs ys : List V}
theorem cz_map (S : St → Prop) (f : Nat → V) (hn : xs.length ≤ 1000) (hl : xs.length = ys.length) (ha : SqT K H1 a xs) (hb : SqT K H1 b ys) (h0 : S (stB tn cp σ0))
    (hs : ∀ D i σ H H' p x y, xs[i]? = some x → ys[i]? = some y → Same H1 H → H1 D = none → H D = some (.lst ((List.range i).map f)) → S σ → New H p (.tup [x, y]) H' → g (.ref p) σ H' fun σ2 H2 => tif σ2 H2 fun c H3 =>
      if c = true then te σ2 H3 fun v H4 => CStep D xs.length i (fun i ws σ H => Same H1 H ∧ S σ ∧ ws = (List.range i).map f) σ2 v H4 else CSkip D xs.length i (fun i ws σ H => Same H1 H ∧ S σ ∧ ws = (List.range i).map f) σ2 H3)
    (hd : ∀ D H, H1 D = none → Same H1 H → H D = some (.lst ((List.range xs.length).map f)) → Q (.ref D) H) : cBody tn cp g tif te σ0 Q (Itz K a b) H1 := by
  refine cb_by xs.length (fun D i ws σ H => Same H1 H ∧ S σ ∧ ws = (List.range i).map f) (small_line hn) (fun D hD => ⟨same_upd hD _, h0, rfl⟩) (fun D i ws σ H hD hi hH p => ⟨xs, ys, xs[i], ys[i], p.1.seqT ha, p.1.seqT hb, by simp [hi], by simp [hl ▸ hi]⟩)
    (fun D ws σ H hD hH p => ⟨xs, ys, p.1.seqT ha, p.1.seqT hb, Nat.le_refl _⟩) ?_ ?_
  · rintro D i ws σ H v H' hD hi hH hlw ⟨p1, p2, rfl⟩ ⟨p, x, y, rfl, nw, ex, ey⟩
    exact hs D i σ H H' p x y (ex _ (p1.seqT ha)) (ey _ (p1.seqT hb)) p1 hD hH p2 nw
  · rintro D ws σ H hD hH hlw ⟨p1, p2, rfl⟩
    exact hd D H hD p1 hH
theorem cz_step {S : St → Prop} {f : Nat → V} {D : Addr} {i : Nat} {v : V} {σ2 : St} {H4 : Hp} (hn : xs.length ≤ 1000) (hi : i < xs.length) (hD : H1 D = none) (h4 : H4 D = some (.lst ((List.range i).map f))) (g4 : Same H1 H4) (s2 : S σ2) (e : v = f i) :
    CStep D xs.length i (fun i ws σ H => Same H1 H ∧ S σ ∧ ws = (List.range i).map f) σ2 v H4 := by
  refine cstep (small_line hn) hi h4 (by rw [List.length_map, List.length_range]; exact Nat.le_refl _) ⟨g4.wr hD _, s2, ?_⟩
  rw [List.range_succ, List.map_append, e]
  rfl
end
def DctK (K : PySem.W.Frag) (w : World) (a : Addr) (f : Str → Option V) : Prop := (a == sysModules) = false ∧ ∃ (es : Array DictEntry) (n : Nat), K.lookup a = some ⟨.type "dict", none, .dict es n, #[]⟩ ∧ PySem.W.KeysLit w.params es.toList ∧ ∀ x, RelO (f x) (findBy Value.isStrOf es x)
section
variable {X : Cx} (K : PySem.W.Frag) (w : World)
def rInD (neg : Bool) : R2 := fun x y H Q => ∃ z a f, x = .str z ∧ y = .ref a ∧ DctK K w a f ∧ Q (.bl (if neg then !(f z).isSome else (f z).isSome)) H
theorem op_notin_dct (hK : X.K = K := by rfl) (hw : X.w = w := by rfl) : OpR X (compareOp .NotIn) (rInD K w true) := by
  subst hK hw
  intro pins s σ H x y v u Q I rx ry h
  obtain ⟨z, a, f, rfl, rfl, ⟨lo, es, n, hl, hk, hr⟩, q⟩ := h
  obtain ⟨t, rfl⟩ := rx
  cases (show u = Value.ref a from ry)
  refine wpAny_notIn_of (strKind_is X.prog X.w z t) lo (PySem.W.mapOf_K (prog := X.prog) I.kIn hl hk) ?_
  rw [← (hr z).isSome_eq]
  exact ⟨.bl _, H, I.tok _, rfl, q⟩
def rIxD : R2 := fun x y H Q => ∃ a z f v, x = .ref a ∧ y = .str z ∧ DctK K w a f ∧ f z = some v ∧ Q v H
theorem ix_dct (hK : X.K = K := by rfl) (hw : X.w = w := by rfl) : IxR X (rIxD K w) := by
  subst hK hw
  intro value slice pins s σ H x y v u Q I rx ry h hs
  obtain ⟨a, z, f, r, rfl, rfl, ⟨lo, es, n, hl, hk, hr⟩, e, q⟩ := h
  cases (show v = Value.ref a from rx)
  obtain ⟨t, rfl⟩ := ry
  have hm := PySem.W.mapOf_K (prog := X.prog) I.kIn hl hk
  obtain ⟨w', hw', rw'⟩ := RelO.some_of (v := r) (o := findBy Value.isStrOf es z) (by rw [← e]; exact hr z)
  exact tail_any hm.typeIs slot_dict_getitem.lookup (wpAny_getItem_of (strKind_is X.prog X.w z t) hm hw' ⟨r, H, I.tok _, rw', q⟩) hs
end
section
variable {tn : List Str} {cp : List (Nat × Str)} {g : TG} {tif : TT} {te : TE} {σ0 : St} {Q : VK} {H1 : Hp} {K : PySem.W.Frag} {a : Addr} {xs : List V}
theorem ci_list (S : St → Prop) (f : Nat → V) (hn : xs.length ≤ 1000) (hS : SqL K H1 a xs) (h0 : S (stB tn cp σ0))
    (hs : ∀ D i σ H x, i < xs.length → xs[i]? = some x → Same H1 H → H1 D = none → H D = some (.lst ((List.range i).map f)) → S σ → g x σ H fun σ2 H2 => tif σ2 H2 fun c H3 =>
      if c = true then te σ2 H3 fun v H4 => CStep D xs.length i (fun i ws σ H => Same H1 H ∧ S σ ∧ ws = (List.range i).map f) σ2 v H4 else CSkip D xs.length i (fun i ws σ H => Same H1 H ∧ S σ ∧ ws = (List.range i).map f) σ2 H3)
    (hd : ∀ D H, H1 D = none → Same H1 H → H D = some (.lst ((List.range xs.length).map f)) → Q (.ref D) H) : cBody tn cp g tif te σ0 Q (Itl K a) H1 := by
  refine cb_list (K := K) (a := a) (xs := xs) (fun D i ws σ H => Same H1 H ∧ S σ ∧ ws = (List.range i).map f) (small_line hn) (fun D hD => ⟨same_upd hD _, h0, rfl⟩) (fun D i ys σ H _ _ _ p => p.1.seq hS) ?_ ?_
  · rintro D i ys σ H x hD hi hx hH hl ⟨p1, p2, rfl⟩
    exact hs D i σ H x hi hx p1 hD hH p2
  · rintro D ys σ H hD hH hl ⟨p1, p2, rfl⟩
    exact hd D H hD p1 hH
end
end L2
namespace SS
open PySem PySem.Spec PyProof.Rows L2
def forms : List (Str × List Str) := [("in", ["place", "set"]), ("same", ["place", "place"]), ("within", ["set", "set"]), ("ahead", ["place", "place"]), ("next", ["place", "place"]), ("left", ["place", "place"]), ("right", ["place", "place"]), ("above", ["place", "place"]),
  ("not", ["saying"]), ("and", ["saying", "saying"]), ("or", ["saying", "saying"]), ("some", ["name", "saying"]), ("all", ["name", "saying"])]
def sortB (form : V → Bool) (x : V) (s : Str) : Bool := if s = "place" then isNm x SMALL else if s = "set" then isNm x GREAT else if s = "name" then isName x else form x
def zipB (form : V → Bool) : List V → List Str → Bool
  | [], [] => true
  | x :: xs, s :: ss => sortB form x s && zipB form xs ss
  | _, _ => false
def formH (H : Hp) : Nat → V → Bool
  | 0, _ => false
  | n + 1, .ref a => match H a with
    | some (.tup (.str w :: r)) => match forms.lookup w with
      | some ss => zipB (formH H n) r ss
      | none => false
    | _ => false
  | _ + 1, _ => false
def Exp (H : Hp) : Nat → V → Prop
  | 0, v => Thing H v
  | n + 1, v => Thing H v ∧ ∀ a xs, v = .ref a → H a = some (.tup xs) → xs.length ≤ 1000 ∧ ∀ x ∈ xs, Exp H n x
theorem Exp.thing {H : Hp} : ∀ {n : Nat} {v : V}, Exp H n v → Thing H v
  | 0, _, h => h
  | _ + 1, _, h => h.1
theorem Thing.same_tup {H H' : Hp} {a : Addr} {xs : List V} (h : Thing H (.ref a)) (g : Same H H') (e : H' a = some (.tup xs)) : H a = some (.tup xs) := by
  obtain ⟨⟨k, hk⟩, _⟩ := h
  cases hk with
  | lst z => rw [g _ _ z] at e; cases e
  | tup z => rw [g _ _ z] at e; cases e; exact z
  | dK z => rw [g _ _ z] at e; cases e
theorem Exp.same {H H' : Hp} (g : Same H H') : ∀ {n : Nat} {v : V}, Exp H n v → Exp H' n v
  | 0, _, h => Thing.same h g
  | n + 1, v, h => ⟨h.1.same g, fun a xs ev e => by
    subst ev
    obtain ⟨h1, h2⟩ := h.2 a xs rfl (h.1.same_tup g e)
    exact ⟨h1, fun x hx => (h2 x hx).same g⟩⟩
theorem zipB_congr {f g : V → Bool} : ∀ {xs : List V} {ss : List Str}, (∀ x ∈ xs, f x = g x) → zipB f xs ss = zipB g xs ss
  | [], [], _ => rfl
  | [], _ :: _, _ => rfl
  | _ :: _, [], _ => rfl
  | x :: xs, s :: ss, h => by
    show (sortB f x s && zipB f xs ss) = (sortB g x s && zipB g xs ss)
    rw [zipB_congr fun y hy => h y (List.mem_cons_of_mem _ hy)]
    unfold sortB
    rw [h x List.mem_cons_self]
theorem formH_same {H H' : Hp} (g : Same H H') : ∀ {n : Nat} {v : V}, Exp H n v → formH H' n v = formH H n v
  | 0, _, _ => rfl
  | n + 1, v, h => by
    cases v with
    | ref a =>
      obtain ⟨⟨k, hk⟩, _⟩ := h.1
      cases hk with
      | lst z => simp only [formH, z, g _ _ z]
      | dK z => simp only [formH, z, g _ _ z]
      | tup z =>
        rename_i xs
        have hx := (h.2 a xs rfl z).2
        simp only [formH, z, g _ _ z]
        cases xs with
        | nil => rfl
        | cons x r =>
          cases x with
          | str wd =>
            simp only []
            cases forms.lookup wd with
            | none => rfl
            | some ss => exact zipB_congr fun y hy => formH_same g (hx y (List.mem_cons_of_mem _ hy))
          | _ => rfl
    | _ => rfl
theorem zipB_len {f : V → Bool} : ∀ {xs : List V} {ss : List Str}, xs.length ≠ ss.length → zipB f xs ss = false
  | [], [], h => absurd rfl h
  | [], _ :: _, _ => rfl
  | _ :: _, [], _ => rfl
  | x :: xs, s :: ss, h => by
    show (sortB f x s && zipB f xs ss) = false
    rw [zipB_len fun z => h (congrArg (· + 1) z), Bool.and_false]
theorem zipB_range {f : V → Bool} : ∀ {xs : List V} {ss : List Str}, xs.length = ss.length → zipB f xs ss = (List.range xs.length).all fun i => sortB f (xs.getD i .non) (ss.getD i "")
  | [], [], _ => rfl
  | [], _ :: _, h => nomatch h
  | _ :: _, [], h => nomatch h
  | x :: xs, s :: ss, h => by
    show (sortB f x s && zipB f xs ss) = _
    rw [zipB_range (Nat.succ.inj h), List.length_cons, List.range_succ_eq_map, List.all_cons, List.all_map]
    rfl
def sp_form (n : Nat) : Sp := fun vs H Q _ => ∃ v, vs = [v, .int n] ∧ Exp H n v ∧ ∀ H', Same H H' → Q (.bl (formH H n v)) H'
def sp_sort (n : Nat) : Sp := fun vs H Q _ => ∃ v s, vs = [v, .str s, .int n] ∧ Exp H n v ∧ ∀ H', Same H H' → Q (.bl (sortB (formH H n) v s)) H'
def sp_sort' : Nat → Sp
  | 0 => fun _ _ _ _ => False
  | n + 1 => sp_sort n
def wfB : Sy → Bool
  | .bare w n m => if w = "in" then isPl n && isSt m else if w = "within" then isSt n && isSt m else isPl n && isPl m
  | .neg s => wfB s
  | .two _ s t => wfB s && wfB t
  | .qu _ n s => isName (.str n) && wfB s
def letB (barred : List Str) (most : Nat) : List Str → Sy → Bool
  | known, .bare w n m => decide (known.length ≤ most) && decide (w ∉ barred) && (decide (n ∈ known) && decide (m ∈ known))
  | known, .neg s => decide (known.length ≤ most) && decide (("not" : Str) ∉ barred) && letB barred most known s
  | known, .two w s t => decide (known.length ≤ most) && decide (w ∉ barred) && (letB barred most known s && letB barred most known t)
  | known, .qu w n s => decide (known.length ≤ most) && decide (w ∉ barred) && (decide (n ∉ known) && letB barred most (known ++ [n]) s)
theorem Rep.det {H : Hp} {v : V} {s t : Sy} (r : Rep H v s) (q : Rep H v t) : s = t := by
  induction r generalizing t with
  | bare hw e =>
    cases q with
    | bare hw' e' => rw [e] at e'; cases e'; rfl
    | neg e' _ => rw [e] at e'; cases e'
    | two hw' e' h1 _ => rw [e] at e'; cases e'; cases h1
    | qu hw' e' h1 => rw [e] at e'; cases e'; cases h1
  | neg e _ ih =>
    cases q with
    | bare hw' e' => rw [e] at e'; cases e'
    | neg e' h' => rw [e] at e'; cases e'; rw [ih h']
    | two hw' e' _ _ => rw [e] at e'; cases e'
    | qu hw' e' _ => rw [e] at e'; cases e'
  | two hw e h1 h2 ih1 ih2 =>
    cases q with
    | bare hw' e' => rw [e] at e'; cases e'; cases h1
    | neg e' _ => rw [e] at e'; cases e'
    | two hw' e' a b => rw [e] at e'; cases e'; rw [ih1 a, ih2 b]
    | qu hw' e' b => rw [e] at e'; cases e'; cases h1
  | qu hw e h ih =>
    cases q with
    | bare hw' e' => rw [e] at e'; cases e'; cases h
    | neg e' _ => rw [e] at e'; cases e'
    | two hw' e' a b => rw [e] at e'; cases e'; cases a
    | qu hw' e' b => rw [e] at e'; cases e'; rw [ih b]
end SS
set_option maxHeartbeats 1000000
namespace SS
open PySem PySem.Spec PyProof.Rows L2
section
variable {f : V → Bool} {x y : V} {r : List V} {s1 s2 : Str}
theorem sort_pl : sortB f x "place" = isNm x SMALL := if_pos rfl
theorem sort_st : sortB f x "set" = isNm x GREAT := by unfold sortB; rw [if_neg (by decide +kernel), if_pos rfl]
theorem sort_nm : sortB f x "name" = isName x := by unfold sortB; rw [if_neg (by decide +kernel), if_neg (by decide +kernel), if_pos rfl]
theorem sort_sy : sortB f x "saying" = f x := by unfold sortB; rw [if_neg (by decide +kernel), if_neg (by decide +kernel), if_neg (by decide +kernel)]
theorem zip_one : zipB f r [s1] = true ↔ ∃ x, r = [x] ∧ sortB f x s1 = true := by
  cases r with
  | nil => simp [zipB]
  | cons x r =>
    cases r with
    | nil => simp [zipB]
    | cons y r => simp [zipB]
theorem zip_two : zipB f r [s1, s2] = true ↔ ∃ x y, r = [x, y] ∧ sortB f x s1 = true ∧ sortB f y s2 = true := by
  cases r with
  | nil => simp [zipB]
  | cons x r =>
    cases r with
    | nil => simp [zipB]
    | cons y r =>
      cases r with
      | nil =>
        rw [show zipB f [x, y] [s1, s2] = (sortB f x s1 && (sortB f y s2 && true)) from rfl, Bool.and_true, Bool.and_eq_true]
        exact ⟨fun h => ⟨x, y, rfl, h⟩, fun ⟨x', y', e, h⟩ => by cases e; exact h⟩
      | cons z r => simp [zipB]
theorem nm_str {l : Str} (h : isNm x l = true) : ∃ z, x = .str z := by
  cases x with
  | str z => exact ⟨z, rfl⟩
  | _ => cases h
end
theorem forms_in {wd : Str} {ss : List Str} (h : forms.lookup wd = some ss) : (wd = "in" ∧ ss = (["place", "set"] : List Str)) ∨ (wd = "within" ∧ ss = (["set", "set"] : List Str)) ∨ (wd ∈ bareWords ∧ ¬ wd = ("in" : Str) ∧ ¬ wd = ("within" : Str) ∧ ss = (["place", "place"] : List Str)) ∨
    (wd = "not" ∧ ss = (["saying"] : List Str)) ∨ (wd ∈ (["and", "or"] : List Str) ∧ ss = (["saying", "saying"] : List Str)) ∨ (wd ∈ (["some", "all"] : List Str) ∧ ss = (["name", "saying"] : List Str)) := by
  have m := mem_of_lookup' h
  simp only [forms, List.mem_cons, List.not_mem_nil, or_false, Prod.mk.injEq] at m
  rcases m with ⟨rfl, rfl⟩ | ⟨rfl, rfl⟩ | ⟨rfl, rfl⟩ | ⟨rfl, rfl⟩ | ⟨rfl, rfl⟩ | ⟨rfl, rfl⟩ | ⟨rfl, rfl⟩ | ⟨rfl, rfl⟩ | ⟨rfl, rfl⟩ | ⟨rfl, rfl⟩ | ⟨rfl, rfl⟩ | ⟨rfl, rfl⟩ | ⟨rfl, rfl⟩
  · exact .inl ⟨rfl, rfl⟩
  · exact .inr (.inr (.inl ⟨by decide +kernel, by decide +kernel, by decide +kernel, rfl⟩))
  · exact .inr (.inl ⟨rfl, rfl⟩)
  · exact .inr (.inr (.inl ⟨by decide +kernel, by decide +kernel, by decide +kernel, rfl⟩))
  · exact .inr (.inr (.inl ⟨by decide +kernel, by decide +kernel, by decide +kernel, rfl⟩))
  · exact .inr (.inr (.inl ⟨by decide +kernel, by decide +kernel, by decide +kernel, rfl⟩))
  · exact .inr (.inr (.inl ⟨by decide +kernel, by decide +kernel, by decide +kernel, rfl⟩))
  · exact .inr (.inr (.inl ⟨by decide +kernel, by decide +kernel, by decide +kernel, rfl⟩))
  · exact .inr (.inr (.inr (.inl ⟨rfl, rfl⟩)))
  · exact .inr (.inr (.inr (.inr (.inl ⟨by decide +kernel, rfl⟩))))
  · exact .inr (.inr (.inr (.inr (.inl ⟨by decide +kernel, rfl⟩))))
  · exact .inr (.inr (.inr (.inr (.inr ⟨by decide +kernel, rfl⟩))))
  · exact .inr (.inr (.inr (.inr (.inr ⟨by decide +kernel, rfl⟩))))
theorem forms_bare : ∀ wd ∈ bareWords, forms.lookup wd = some (if wd = ("in" : Str) then (["place", "set"] : List Str) else if wd = ("within" : Str) then (["set", "set"] : List Str) else (["place", "place"] : List Str)) := by decide +kernel
theorem forms_join : ∀ wd ∈ (["and", "or"] : List Str), forms.lookup wd = some (["saying", "saying"] : List Str) := by decide +kernel
theorem forms_tell : ∀ wd ∈ (["some", "all"] : List Str), forms.lookup wd = some (["name", "saying"] : List Str) := by decide +kernel
theorem forms_not : forms.lookup ("not" : Str) = some (["saying"] : List Str) := by decide +kernel
theorem form_say {H : Hp} : ∀ {n : Nat} {v : V}, formH H n v = true → ∃ s, Rep H v s ∧ wfB s = true ∧ s.depth ≤ n
  | 0, _, h => by cases h
  | n + 1, v, h => by
    cases v with
    | ref a =>
      simp only [formH] at h
      split at h
      · rename_i wd r e
        split at h
        · rename_i ss hs
          rcases forms_in hs with ⟨rfl, rfl⟩ | ⟨rfl, rfl⟩ | ⟨hw, n1, n2, rfl⟩ | ⟨rfl, rfl⟩ | ⟨hw, rfl⟩ | ⟨hw, rfl⟩
          · obtain ⟨x, y, rfl, h1, h2⟩ := zip_two.mp h
            rw [sort_pl] at h1
            rw [sort_st] at h2
            obtain ⟨z1, rfl⟩ := nm_str h1
            obtain ⟨z2, rfl⟩ := nm_str h2
            refine ⟨.bare "in" z1 z2, .bare (by decide +kernel) e, ?_, Nat.succ_le_succ (Nat.zero_le _)⟩
            show (if _ then _ else _) = true
            rw [if_pos rfl, Bool.and_eq_true]
            exact ⟨h1, h2⟩
          · obtain ⟨x, y, rfl, h1, h2⟩ := zip_two.mp h
            rw [sort_st] at h1 h2
            obtain ⟨z1, rfl⟩ := nm_str h1
            obtain ⟨z2, rfl⟩ := nm_str h2
            refine ⟨.bare "within" z1 z2, .bare (by decide +kernel) e, ?_, Nat.succ_le_succ (Nat.zero_le _)⟩
            show (if _ then _ else if _ then _ else _) = true
            rw [if_neg (by decide +kernel), if_pos rfl, Bool.and_eq_true]
            exact ⟨h1, h2⟩
          · obtain ⟨x, y, rfl, h1, h2⟩ := zip_two.mp h
            rw [sort_pl] at h1 h2
            obtain ⟨z1, rfl⟩ := nm_str h1
            obtain ⟨z2, rfl⟩ := nm_str h2
            refine ⟨.bare wd z1 z2, .bare hw e, ?_, Nat.succ_le_succ (Nat.zero_le _)⟩
            show (if _ then _ else if _ then _ else _) = true
            rw [if_neg n1, if_neg n2, Bool.and_eq_true]
            exact ⟨h1, h2⟩
          · obtain ⟨x, rfl, h1⟩ := zip_one.mp h
            rw [sort_sy] at h1
            obtain ⟨s, r, w1, d1⟩ := form_say h1
            exact ⟨.neg s, .neg e r, w1, Nat.succ_le_succ d1⟩
          · obtain ⟨x, y, rfl, h1, h2⟩ := zip_two.mp h
            rw [sort_sy] at h1 h2
            obtain ⟨s, r, w1, d1⟩ := form_say h1
            obtain ⟨t, q, w2, d2⟩ := form_say h2
            refine ⟨.two wd s t, .two hw e r q, ?_, Nat.succ_le_succ (Nat.max_le.mpr ⟨d1, d2⟩)⟩
            show (wfB s && wfB t) = true
            rw [w1, w2]
            rfl
          · obtain ⟨x, y, rfl, h1, h2⟩ := zip_two.mp h
            rw [sort_nm] at h1
            rw [sort_sy] at h2
            obtain ⟨z1, rfl⟩ := isName_str h1
            obtain ⟨t, q, w2, d2⟩ := form_say h2
            refine ⟨.qu wd z1 t, .qu hw e q, ?_, Nat.succ_le_succ d2⟩
            show (isName _ && wfB t) = true
            rw [h1, w2]
            rfl
        · cases h
      · cases h
    | _ => cases h
theorem say_form {H : Hp} {v : V} {s : Sy} (r : Rep H v s) : ∀ {n : Nat}, wfB s = true → s.depth ≤ n → formH H n v = true := by
  induction r with
  | bare hw e =>
    rename_i a wd n1 m1
    intro n h d
    cases n with
    | zero => exact absurd d (by show ¬ 1 ≤ 0; decide)
    | succ n =>
      simp only [formH, e, forms_bare wd hw]
      by_cases c1 : wd = ("in" : Str)
      · rw [if_pos c1]
        have h' : (isPl n1 && isSt m1) = true := by have z : (if _ then _ else _) = true := h; rw [if_pos c1] at z; exact z
        rw [Bool.and_eq_true] at h'
        exact zip_two.mpr ⟨_, _, rfl, by rw [sort_pl]; exact h'.1, by rw [sort_st]; exact h'.2⟩
      · rw [if_neg c1]
        by_cases c2 : wd = ("within" : Str)
        · rw [if_pos c2]
          have h' : (isSt n1 && isSt m1) = true := by have z : (if _ then _ else if _ then _ else _) = true := h; rw [if_neg c1, if_pos c2] at z; exact z
          rw [Bool.and_eq_true] at h'
          exact zip_two.mpr ⟨_, _, rfl, by rw [sort_st]; exact h'.1, by rw [sort_st]; exact h'.2⟩
        · rw [if_neg c2]
          have h' : (isPl n1 && isPl m1) = true := by have z : (if _ then _ else if _ then _ else _) = true := h; rw [if_neg c1, if_neg c2] at z; exact z
          rw [Bool.and_eq_true] at h'
          exact zip_two.mpr ⟨_, _, rfl, by rw [sort_pl]; exact h'.1, by rw [sort_pl]; exact h'.2⟩
  | neg e _ ih =>
    intro n h d
    cases n with
    | zero => exact absurd d (Nat.not_succ_le_zero _)
    | succ n =>
      simp only [formH, e, forms_not]
      exact zip_one.mpr ⟨_, rfl, by rw [sort_sy]; exact ih h (Nat.le_of_succ_le_succ d)⟩
  | two hw e _ _ ih1 ih2 =>
    rename_i s t _ _
    intro n h d
    cases n with
    | zero => exact absurd d (Nat.not_succ_le_zero _)
    | succ n =>
      have d' := Nat.max_le.mp (Nat.le_of_succ_le_succ d)
      have h' : (wfB s && wfB t) = true := h
      rw [Bool.and_eq_true] at h'
      simp only [formH, e, forms_join _ hw]
      exact zip_two.mpr ⟨_, _, rfl, by rw [sort_sy]; exact ih1 h'.1 d'.1, by rw [sort_sy]; exact ih2 h'.2 d'.2⟩
  | qu hw e _ ih =>
    rename_i nm _ s _
    intro n h d
    cases n with
    | zero => exact absurd d (Nat.not_succ_le_zero _)
    | succ n =>
      have h' : (isName (.str nm) && wfB s) = true := h
      rw [Bool.and_eq_true] at h'
      simp only [formH, e, forms_tell _ hw]
      exact zip_two.mpr ⟨_, _, rfl, by rw [sort_nm]; exact h'.1, by rw [sort_sy]; exact ih h'.2 (Nat.le_of_succ_le_succ d)⟩
def sp_count (n : Nat) : Sp := fun vs H Q _ => ∃ v s, vs = [v] ∧ Rep H v s ∧ s.depth < n ∧ ∀ H', Same H H' → Q (.int s.parts) H'
def AnySay (H : Hp) (v : V) (s : Sy) : Prop := Rep H v s ∧ wfB s = true ∧ s.depth ≤ 12 ∧ s.parts ≤ 60
def sp_anysay : Sp := fun vs H Q _ => ∃ v, vs = [v] ∧ Exp H 12 v ∧ ∀ b H', Same H H' → (b = true ↔ ∃ s, AnySay H v s) → Q (.bl b) H'
def sp_let (K : PySem.W.Frag) (bw : List Str) (n : Nat) : Sp := fun vs H Q _ => ∃ v a ba s tl mo, vs = [v, .ref a, .ref ba, .int (mo : Nat)] ∧ Rep H v s ∧ s.depth < n ∧ H a = some (.lst (List.map V.str tl)) ∧ tl.length + s.depth ≤ 300 ∧ (∀ H, SqT K H ba (bw.map V.str)) ∧ ∀ H', Same H H' → Q (.bl (letB bw mo tl s)) H'
def SayOk (H : Hp) (bw : List Str) (mo : Nat) (v fv : V) : Prop := ∃ a tl s, fv = .ref a ∧ H a = some (.lst (List.map V.str tl)) ∧ frameB (List.map V.str tl) = true ∧ AnySay H v s ∧ letB bw mo tl s = true
def sp_issay (bw : List Str) (mo : Nat) : Sp := fun vs H Q _ => ∃ v fv, vs = [v, fv] ∧ Exp H 12 v ∧ Thing H fv ∧ (∀ a xs, fv = .ref a → H a = some (.lst xs) → Things H xs) ∧ ∀ b H', Same H H' → (b = true ↔ SayOk H bw mo v fv) → Q (.bl b) H'
structure Forms (K : PySem.W.Frag) (w : World) (fa : Addr) : Prop where
  ex : ∃ f, DctK K w fa f ∧ ∀ x, (∃ ss b, forms.lookup x = some ss ∧ f x = some (.ref b) ∧ ∀ H, SqT K H b (List.map V.str ss)) ∨ (forms.lookup x = none ∧ f x = none)
def wordOf : Sy → Str
  | .bare w _ _ => w
  | .neg _ => "not"
  | .two w _ _ => w
  | .qu w _ _ => w
def letR (barred : List Str) (most : Nat) (known : List Str) : Sy → Bool
  | .bare _ n m => decide (n ∈ known) && decide (m ∈ known)
  | .neg s => letB barred most known s
  | .two _ s t => letB barred most known s && letB barred most known t
  | .qu _ n s => decide (n ∉ known) && letB barred most (known ++ [n]) s
theorem letB_eq (bw : List Str) (mo : Nat) (tl : List Str) (s : Sy) : letB bw mo tl s = (decide (tl.length ≤ mo) && decide (wordOf s ∉ bw) && letR bw mo tl s) := by cases s <;> rfl
theorem letR_inner {bw : List Str} {mo : Nat} {tl : List Str} {s : Sy} (nq : ∀ w n t, s ≠ .qu w n t) (hb : s.isBare = false) : letR bw mo tl s = s.inner.all (letB bw mo tl) := by
  cases s with
  | bare w n m => cases hb
  | neg s => simp [Sy.inner, letR]
  | two w s t => simp [Sy.inner, letR]
  | qu w n t => exact absurd rfl (nq w n t)
theorem all_range_inner {f : Sy → Bool} : ∀ (l : List Sy), ((List.range l.length).map fun i => ((l[i]?).map f).getD true).all id = l.all f
  | [] => rfl
  | x :: r => by
    rw [List.length_cons, List.range_succ_eq_map, List.map_cons, List.map_map, List.all_cons, List.all_cons, ← all_range_inner r]
    rfl
theorem names_strs : ∀ {xs : List V}, xs.all isName = true → ∃ tl : List Str, xs = tl.map V.str
  | [], _ => ⟨[], rfl⟩
  | x :: r, h => by
    rw [List.all_cons, Bool.and_eq_true] at h
    obtain ⟨z, rfl⟩ := isName_str h.1
    obtain ⟨tl, e⟩ := names_strs h.2
    exact ⟨z :: tl, by rw [List.map_cons, ← e]⟩
theorem frB_ex {H : Hp} {x : V} (h : frB H x = true) : ∃ a tl, x = .ref a ∧ H a = some (.lst (List.map V.str tl)) ∧ frameB (List.map V.str tl) = true ∧ tl.length ≤ 4 := by
  cases x with
  | ref a =>
    simp only [frB] at h
    split at h
    · rename_i xs e
      have h' := h
      unfold frameB at h'
      rw [Bool.and_eq_true, Bool.and_eq_true, decide_eq_true_eq] at h'
      obtain ⟨tl, rfl⟩ := names_strs h'.1.2
      exact ⟨a, tl, rfl, e, h, by have := h'.1.1; rw [List.length_map] at this; exact this⟩
    · cases h
  | _ => cases h
open L2
theorem strs_inj : ∀ {a b : List PySem.Str}, a.map V.str = b.map V.str → a = b
  | [], [], _ => rfl
  | [], _ :: _, h => by cases h
  | _ :: _, [], h => by cases h
  | x :: a, y :: b, h => by
    rw [List.map_cons, List.map_cons, List.cons.injEq] at h
    rw [V.str.inj h.1, strs_inj h.2]
inductive Lit where
  | str (z : Str)
  | oth
  | tnil
  | tcons (x r : Lit)
  deriving DecidableEq
def Oth (H : Hp) (v : V) : Prop := ∃ k, Kd H v k ∧ k ≠ "str" ∧ k ≠ "tuple"
def LitAt (H : Hp) : Lit → V → Prop
  | .str z, v => v = .str z ∧ z.length ≤ 1000
  | .oth, v => Oth H v
  | .tnil, v => ∃ a, v = .ref a ∧ H a = some (.tup [])
  | .tcons x r, v => ∃ a y ys, v = .ref a ∧ H a = some (.tup (y :: ys)) ∧ ys.length ≤ 100 ∧ LitAt H x y ∧ Items H r ys
where Items (H : Hp) : Lit → List V → Prop
  | .tcons x r, ys => ∃ z zs, ys = z :: zs ∧ LitAt H x z ∧ Items H r zs
  | .tnil, ys => ys = []
  | _, _ => False
abbrev Items := LitAt.Items
theorem Oth.same {H H' : Hp} {v : V} (g : Same H H') (h : Oth H v) : Oth H' v := let ⟨k, z, r⟩ := h; ⟨k, z.same g, r⟩
mutual
theorem LitAt.same {H H' : Hp} (g : Same H H') : ∀ {l : Lit} {v : V}, LitAt H l v → LitAt H' l v
  | .str z, _, h => h
  | .oth, _, h => Oth.same g h
  | .tnil, _, ⟨a, e, h⟩ => ⟨a, e, g _ _ h⟩
  | .tcons x r, _, ⟨a, y, ys, e, h, hl, h1, h2⟩ => ⟨a, y, ys, e, g _ _ h, hl, LitAt.same g h1, Items.same g h2⟩
theorem Items.same {H H' : Hp} (g : Same H H') : ∀ {l : Lit} {ys : List V}, Items H l ys → Items H' l ys
  | .tcons x r, _, ⟨z, zs, e, h1, h2⟩ => ⟨z, zs, e, LitAt.same g h1, Items.same g h2⟩
  | .tnil, _, h => h
  | .str _, _, h => h
  | .oth, _, h => h
end
theorem LitAt.thing {H : Hp} : ∀ {l : Lit} {v : V}, LitAt H l v → Thing H v
  | .str z, _, ⟨e, h⟩ => by subst e; exact .str h
  | .oth, v, ⟨k, h, h1, _⟩ => ⟨⟨k, h⟩, fun z e => by subst e; cases h; exact absurd rfl h1⟩
  | .tnil, _, ⟨a, e, h⟩ => by subst e; exact .tup h
  | .tcons x r, _, ⟨a, y, ys, e, h, _, _, _⟩ => by subst e; exact .tup h
mutual
theorem LitAt.exp {H : Hp} : ∀ (n : Nat) {l : Lit} {v : V}, LitAt H l v → Exp H n v
  | 0, _, _, h => h.thing
  | n + 1, .str z, _, h => ⟨h.thing, fun a xs e _ => by rw [h.1] at e; cases e⟩
  | n + 1, .oth, v, h => ⟨h.thing, fun a xs e e' => by
    subst e
    obtain ⟨k, hk, _, h2⟩ := h
    exact absurd (hk.inj (.tup e')) h2⟩
  | n + 1, .tnil, _, h => ⟨h.thing, fun a xs e e' => by
    obtain ⟨a', e1, e2⟩ := h
    rw [e] at e1
    cases e1
    rw [e2] at e'
    cases e'
    exact ⟨Nat.zero_le _, fun x hx => nomatch hx⟩⟩
  | n + 1, .tcons x r, _, h => ⟨h.thing, fun a xs e e' => by
    obtain ⟨a', y, ys, e1, e2, hl, h1, h2⟩ := h
    rw [e] at e1
    cases e1
    rw [e2] at e'
    cases e'
    refine ⟨by rw [List.length_cons]; omega, fun x' hx => ?_⟩
    rcases List.mem_cons.mp hx with rfl | hx
    · exact LitAt.exp n h1
    · exact Items.exp n h2 x' hx⟩
theorem Items.exp {H : Hp} : ∀ (n : Nat) {l : Lit} {ys : List V}, Items H l ys → ∀ y ∈ ys, Exp H n y
  | n, .tcons x r, _, ⟨z, zs, e, h1, h2⟩, y, hy => by
    subst e
    rcases List.mem_cons.mp hy with rfl | hy
    · exact LitAt.exp n h1
    · exact Items.exp n h2 y hy
  | n, .tnil, _, h, y, hy => by rw [show _ = [] from h] at hy; exact nomatch hy
  | n, .str _, _, h, y, hy => False.elim h
  | n, .oth, _, h, y, hy => False.elim h
end
theorem nm_len {z l : Str} (h : isNm (.str z) l = true) : z.length ≤ 4 := by
  obtain ⟨c, r, e, hl, _⟩ := nm_ex h
  rw [str_len, e, List.length_cons]
  omega
theorem name_len {z : Str} (h : isName (.str z) = true) : z.length ≤ 4 := (name_cases h).elim nm_len nm_len
theorem words_short : ∀ w ∈ bareWords, w.length ≤ 1000 := by decide +kernel
theorem wf_names {w n m : Str} (h : wfB (.bare w n m) = true) : n.length ≤ 4 ∧ m.length ≤ 4 := by
  have h' : (if w = ("in" : Str) then isPl n && isSt m else if w = ("within" : Str) then isSt n && isSt m else isPl n && isPl m) = true := h
  split at h'
  · rw [Bool.and_eq_true] at h'; exact ⟨nm_len h'.1, nm_len h'.2⟩
  · split at h'
    · rw [Bool.and_eq_true] at h'; exact ⟨nm_len h'.1, nm_len h'.2⟩
    · rw [Bool.and_eq_true] at h'; exact ⟨nm_len h'.1, nm_len h'.2⟩
theorem Exp.str {H : Hp} {z : Str} (h : z.length ≤ 1000) : ∀ n, Exp H n (.str z)
  | 0 => Thing.str h
  | n + 1 => ⟨Thing.str h, fun a xs e => by cases e⟩
theorem Exp.tup {H : Hp} {a : Addr} {xs : List V} {n : Nat} (e : H a = some (.tup xs)) (hl : xs.length ≤ 1000) (h : ∀ x ∈ xs, Exp H n x) : Exp H (n + 1) (.ref a) :=
  ⟨Thing.tup e, fun a' xs' ev e' => by cases ev; rw [e] at e'; cases e'; exact ⟨hl, h⟩⟩
theorem Rep.exp {H : Hp} {v : V} {s : Sy} (r : Rep H v s) : wfB s = true → ∀ n, Exp H n v := by
  induction r with
  | bare hw e =>
    intro h n
    obtain ⟨l1, l2⟩ := wf_names h
    cases n with
    | zero => exact Thing.tup e
    | succ n =>
      refine Exp.tup e (by simp) fun x hx => ?_
      simp only [List.mem_cons, List.not_mem_nil, or_false] at hx
      rcases hx with rfl | rfl | rfl
      · exact Exp.str (words_short _ hw) n
      · exact Exp.str (by omega) n
      · exact Exp.str (by omega) n
  | neg e _ ih =>
    intro h n
    cases n with
    | zero => exact Thing.tup e
    | succ n =>
      refine Exp.tup e (by simp) fun x hx => ?_
      simp only [List.mem_cons, List.not_mem_nil, or_false] at hx
      rcases hx with rfl | rfl
      · exact Exp.str (by decide +kernel) n
      · exact ih h n
  | two hw e _ _ ih1 ih2 =>
    rename_i w _ _ s t _ _
    intro h n
    have h' : (wfB s && wfB t) = true := h
    rw [Bool.and_eq_true] at h'
    cases n with
    | zero => exact Thing.tup e
    | succ n =>
      refine Exp.tup e (by simp) fun x hx => ?_
      simp only [List.mem_cons, List.not_mem_nil, or_false] at hx
      rcases hx with rfl | rfl | rfl
      · refine Exp.str ?_ n
        have : ∀ w ∈ (["and", "or"] : List Str), w.length ≤ 1000 := by decide +kernel
        exact this w hw
      · exact ih1 h'.1 n
      · exact ih2 h'.2 n
  | qu hw e _ ih =>
    rename_i w nm _ s _
    intro h n
    have h' : (isName (.str nm) && wfB s) = true := h
    rw [Bool.and_eq_true] at h'
    cases n with
    | zero => exact Thing.tup e
    | succ n =>
      refine Exp.tup e (by simp) fun x hx => ?_
      simp only [List.mem_cons, List.not_mem_nil, or_false] at hx
      rcases hx with rfl | rfl | rfl
      · refine Exp.str ?_ n
        have : ∀ w ∈ (["some", "all"] : List Str), w.length ≤ 1000 := by decide +kernel
        exact this w hw
      · exact Exp.str (by have := name_len h'.1; omega) n
      · exact ih h'.2 n
theorem things_strs {H : Hp} {tl : List Str} (hl : tl.length ≤ 1000) (h : ∀ z ∈ tl, z.length ≤ 1000) : Things H (tl.map V.str) := by
  refine ⟨by rw [List.length_map]; exact hl, fun y hy => ?_⟩
  obtain ⟨z, mz, rfl⟩ := List.mem_map.mp hy
  exact .str (h z mz)
section
variable {K : PySem.W.Frag} {w : World} {h : Heap} {mg : Str → Option Value}
theorem sqt_mk {p : Addr} {od : Option Addr} {its : Array Value} {n : Nat} {sl : Array (Option Value)} {xs : List V} (l : K.lookup p = some ⟨.type "tuple", od, .seq its n, sl⟩) (z : its.size ≤ sizeLine) (r : Vals xs its.toList) : ∀ H, SqT K H p xs :=
  fun H => .inr ⟨_, its, n, l, rfl, rfl, z, r⟩
def Entry (K : PySem.W.Frag) (e : DictEntry) (p : Str × List Str) : Prop := (∃ t, e.key = .str p.1 t) ∧ ∃ b, e.val = .ref b ∧ ∀ H, SqT K H b (List.map V.str p.2)
theorem entries_find : ∀ {es : List DictEntry} {ps : List (Str × List Str)}, Paired (Entry K) es ps → ∀ x, (∃ ss b, ps.lookup x = some ss ∧ findBy Value.isStrOf es.toArray x = some (.ref b) ∧ ∀ H, SqT K H b (List.map V.str ss)) ∨ (ps.lookup x = none ∧ findBy Value.isStrOf es.toArray x = none)
  | _, _, .nil, x => .inr ⟨rfl, by simp [findBy]⟩
  | e :: es, p :: ps, .cons ⟨⟨t, ek⟩, b, ev, hb⟩ r, x => by
    have ih := entries_find r x
    unfold findBy at ih ⊢
    rw [List.find?_toArray] at ih ⊢
    rw [List.lookup_cons, List.find?_cons]
    by_cases h : x = p.1
    · subst h
      have e1 : Value.isStrOf p.1 e.key = true := by rw [ek]; simp [Value.isStrOf]
      rw [e1, beq_self_eq_true]
      exact .inl ⟨_, b, rfl, congrArg some ev, hb⟩
    · have h' : ¬ p.1 = x := fun q => h q.symm
      have e1 : Value.isStrOf x e.key = false := by rw [ek]; simp [Value.isStrOf, h']
      have e2 : (x == p.1) = false := by simp [h]
      rw [e1, e2]
      exact ih
theorem forms_mk {p : Addr} {es : Array DictEntry} {n : Nat} (X : K.In h) (G : h.Ns mainGlobals mg) (a : PySem.W.nsIn K mainGlobals "FORMS" = some (some (.ref p))) (lo : (p == sysModules) = false) (l : K.lookup p = some ⟨.type "dict", none, .dict es n, #[]⟩)
    (hk : PySem.W.KeysLit w.params es.toList) (he : Paired (Entry K) es.toList forms) : ∃ q, GlV mg "FORMS" (.ref q) ∧ Forms K w q := by
  refine ⟨p, ⟨_, PySem.W.mg_of X G a, rfl⟩, ⟨fun x => match findBy Value.isStrOf es x with | some (.ref b) => some (.ref b) | _ => none, ⟨lo, es, n, l, hk, fun x => ?_⟩, fun x => ?_⟩⟩
  · rcases entries_find he x with ⟨ss, b, e1, e2, _⟩ | ⟨e1, e2⟩
    · simp only [e2]; exact rfl
    · simp only [e2]; exact trivial
  · rcases entries_find he x with ⟨ss, b, e1, e2, hb⟩ | ⟨e1, e2⟩
    · exact .inl ⟨ss, b, e1, by simp only [e2], hb⟩
    · exact .inr ⟨e1, by simp only [e2]⟩
end
end SS
namespace L2
open PySem PySem.Spec PyProof.Rows
variable {X : Cx}
section
variable {X : Cx} {k : Nat} {H : Hp} {a b : Addr} {xs ys : List V}
theorem eqV_int (a b : Int) : eqV (.int a) (.int b) = decide (a = b) := by
  by_cases h : a = b
  · subst h; simp [eqV]
  · simp [eqV, h]
theorem all_eqi : ∀ (xs ys : List Int), (xs.length == ys.length && (List.range xs.length).all fun j => eqV ((xs.map V.int).getD j .non) ((ys.map V.int).getD j .non)) = decide (xs = ys)
  | [], [] => rfl
  | [], y :: ys => by simp
  | x :: xs, [] => by simp
  | x :: xs, y :: ys => by
    have ih := all_eqi xs ys
    have e : (List.range (x :: xs).length).all (fun j => eqV (((x :: xs).map V.int).getD j .non) (((y :: ys).map V.int).getD j .non)) =
        (decide (x = y) && (List.range xs.length).all fun j => eqV ((xs.map V.int).getD j .non) ((ys.map V.int).getD j .non)) := by
      rw [List.length_cons, List.range_succ_eq_map, List.all_cons, List.all_map]
      exact congrArg (· && _) (eqV_int x y)
    rw [e]
    have e2 : ((x :: xs).length == (y :: ys).length) = (xs.length == ys.length) := by simp
    rw [e2]
    by_cases hx : x = y
    · subst hx
      rw [decide_eq_true rfl, Bool.true_and, ih]
      simp
    · rw [decide_eq_false hx, Bool.false_and, Bool.and_false]
      simp [hx]
theorem flats_int (xs : List Int) : (xs.map V.int).all flatV = true := by
  rw [List.all_eq_true]
  intro x hx
  obtain ⟨z, _, rfl⟩ := List.mem_map.mp hx
  rfl
def rEqI (K : PySem.W.Frag) : R2 := fun x y H Q => ∃ (a b : Addr) (xs ys : List Int), x = .ref a ∧ y = .ref b ∧ SqL K H a (xs.map V.int) ∧ SqL K H b (ys.map V.int) ∧ Q (.bl (decide (xs = ys))) H
theorem op_eqI (hu : X.A.units + 8 < cLine) : OpR X (compareOp .Eq) (rEqI X.K) := by
  intro pins s σ H x y v u Q I rx ry h
  obtain ⟨a, b, xs, ys, rfl, rfl, h1, h2, q⟩ := h
  have r := rcok_flats (X := X) h1 h2 (flats_int xs) (flats_int ys)
  rw [List.length_map, List.length_map, all_eqi] at r
  exact op_eqD (k := 1) (Nat.lt_of_le_of_lt (Nat.add_le_add_left (by decide) _) hu) pins s σ H _ _ v u Q I rx ry ⟨_, r, q⟩
variable (K : PySem.W.Frag)
theorem op_eqIK (hu : X.A.units + 8 < cLine) (h : X.K = K := by rfl) : OpR X (compareOp .Eq) (rEqI K) := h ▸ op_eqI hu
end
def TupS (H H' : Hp) : Prop := ∀ b xs, H b = some (.tup xs) → H' b = some (.tup xs)
theorem Same.tups {H H' : Hp} (g : Same H H') : TupS H H' := fun b xs e => g b _ e
theorem TupS.refl (H : Hp) : TupS H H := fun _ _ e => e
theorem TupS.trans {H H1 H2 : Hp} (a : TupS H H1) (b : TupS H1 H2) : TupS H H2 := fun c xs e => b c xs (a c xs e)
theorem TupS.wr {H : Hp} {p : Addr} {xs : List V} (h : H p = some (.lst xs)) (o : HO) : TupS H (upd H p o) := fun b ys e => by rw [upd_ne (ne_of e h (by intro z; cases z))]; exact e
end L2
namespace SM
structure Mc where
  w : Nat
  ways : List (List Nat)
  ends : List Bool
def Mc.fin (m : Mc) (r : Nat) : Bool := m.ends.getD r false
theorem pow_nat (n : Nat) : (2 : Int) ^ n = ((2 ^ n : Nat) : Int) := by
  induction n with
  | zero => rfl
  | succ n ih => rw [Int.pow_succ, Nat.pow_succ, ih]; omega
theorem pow_small {w : Nat} (h : w ≤ 4) : 1 ≤ 2 ^ w ∧ 2 ^ w ≤ 16 := by
  have : w = 0 ∨ w = 1 ∨ w = 2 ∨ w = 3 ∨ w = 4 := by omega
  rcases this with rfl | rfl | rfl | rfl | rfl <;> decide
section
variable {α : Type} [DecidableEq α]
def nOf (ds : List α) (x : α) : Nat := ds.idxOf x
def nxt (ds : List α) (x : α) : List α := if x ∈ ds then ds else ds ++ [x]
theorem nxt_in {ds : List α} {x : α} (h : x ∈ ds) : nxt ds x = ds := if_pos h
theorem nxt_out {ds : List α} {x : α} (h : ¬ x ∈ ds) : nxt ds x = ds ++ [x] := if_neg h
end
open PySem PySem.Spec PyProof.Rows L2 SS
abbrev nV (n : Nat) : V := .int (n : Int)
theorem Paired.at2 {α β : Type} {R : α → β → Prop} : ∀ {xs : List α} {ys : List β} {i : Nat} {y : β}, Paired R xs ys → ys[i]? = some y → ∃ x, xs[i]? = some x ∧ R x y
  | _, _, _, _, .nil, h => by simp at h
  | _, _, 0, _, .cons h _, e => by simp at e; subst e; exact ⟨_, rfl, h⟩
  | _, _, i + 1, _, .cons _ h, e => by simp only [List.getElem?_cons_succ] at e ⊢; exact Paired.at2 h e
theorem Paired.snoc {α β : Type} {R : α → β → Prop} : ∀ {xs : List α} {ys : List β} {x : α} {y : β}, Paired R xs ys → R x y → Paired R (xs ++ [x]) (ys ++ [y])
  | _, _, _, _, .nil, h => .cons h .nil
  | _, _, _, _, .cons h t, z => .cons h (Paired.snoc t z)
theorem map_nV (l : List Nat) : l.map nV = (l.map fun (n : Nat) => (n : Int)).map V.int := by rw [List.map_map]; rfl
end SM
namespace L2
open PySem PySem.Spec PyProof.Rows
theorem li_at {h h' : Heap} {j a : Addr} {i : Nat} (x : h.IsListIter j a i) (k : ∀ o, h.get? j = some o → h'.get? j = some o) : h'.IsListIter j a i := by
  obtain ⟨o, e, r⟩ := x
  exact ⟨o, k o e, r⟩
theorem li_ext {h h' : Heap} {j a b : Addr} {i : Nat} (x : h.IsListIter j a i) (k : Heap.ExtBut b h h') (n : j ≠ b) : h'.IsListIter j a i := li_at x fun o e => k j o n e
structure ZipL (h : Heap) (z ti ro j1 j2 t1 t2 : Addr) (f0 : Value) (i : Nat) : Prop where
  z : IsZip h z ti ro f0
  ti : IsPair h ti (.ref j1) (.ref j2)
  ro : ∃ a b, IsPair h ro a b
  j1 : h.IsListIter j1 t1 i
  j2 : h.IsTupleIter j2 t2 i
section
variable {P : Program} {w : World} {A : Around} {E : Value → Shared → Prop} {s : Shared} {z ti ro j1 j2 t1 t2 : Addr} {i : Nat} {its1 its2 : Array Value}
theorem zl_item {x y : Value} {Q : Option Value → Shared → Prop} (D : ZipApart z ti ro j1 j2 t1 t2) (Z : ZipL s.heap z ti ro j1 j2 t1 t2 .none i) (p1 : s.heap.IsList t1 its1) (p2 : s.heap.IsTuple t2 its2) (hx : its1[i]? = some x) (hy : its2[i]? = some y)
    (q : ∀ h', ZipL h' z ti ro j1 j2 t1 t2 (rawInt s.heap.objs.size) (i + 1) → IsPair h' s.heap.objs.size x y → h'.objs.size = s.heap.objs.size + 1 → (∀ c o, c ≠ z → c ≠ ro → c ≠ j1 → c ≠ j2 → s.heap.get? c = some o → h'.get? c = some o) →
      Q (some (.ref s.heap.objs.size)) { s with heap := h' }) : wpAny (model P w) A (pyNext (.ref z)) Q E s := by
  have hT : s.TypeIs (.ref z) "zip" := ⟨_, Z.z, rfl⟩
  obtain ⟨a, b, hro⟩ := Z.ro
  unfold pyNext
  refine wpAny_bind (wpAny_attempt (wpAny_callSpecial?_slot (name := Str.ofString "__next__") hT F.slot_zip_next (wpAny_call_entry F.slot_zip_next hT F.entry_zip_next ?_ (F.args_zip_next_1 _))))
  show wpAny _ _ (field (.ref z) 2 >>= _) _ _ _
  refine wpAny_bind (wpAny_field Z.z rfl (x := .bool false) rfl ?_)
  show wpAny _ _ (field (.ref z) 3 >>= _) _ _ _
  refine wpAny_bind (wpAny_field Z.z rfl (x := .ref ti) rfl ?_)
  refine wpAny_bind (wpAny_seqItems Z.ti rfl ?_)
  show wpAny _ _ (Builtin.SmallTypes.ownedTupleIsFree (.ref z) >>= _) _ _ _
  refine wpAny_bind ?_
  unfold Builtin.SmallTypes.ownedTupleIsFree
  refine wpAny_bind (wpAny_field Z.z rfl (x := .none) rfl (wpAny_pure ?_))
  simp only [if_true]
  refine wpAny_bind (wpAny_rule ?_)
  refine wpAny_bind (wpAny_field Z.z rfl (x := .ref ro) rfl ?_)
  refine wpAny_bind (wpAny_setField_rec Z.z (by simp) fun ha hza hsa => ?_)
  replace hza : IsZip ha z ti ro .ellipsis := hza
  refine wpAny_bind ?_
  simp only [List.zipIdx_cons, List.zipIdx_nil, List.forIn_cons, List.forIn_nil]
  refine wpAny_bind (wpAny_bind (wpAny_onRaise ?_))
  show wpAny _ _ (Builtin.SmallTypes.nextOf (.ref j1) >>= _) _ _ _
  refine wpAny_bind (wpAny_nextOf_list_item (li_ext Z.j1 hsa.extBut D.i1z) (p1.extBut hsa.extBut D.l1z) hx fun hb b1 hsb => wpAny_pure ?_)
  have rob : IsPair hb ro a b := hsb.extBut _ _ D.TOi1 (hsa.extBut _ _ D.TOz hro)
  refine wpAny_bind (wpAny_seqItems rob rfl ?_)
  refine wpAny_bind (wpAny_updateSeq_pair rob fun hc roc hsc => ?_)
  replace roc : IsPair hc ro x b := roc
  refine wpAny_bind (wpAny_letGo (wpAny_pure ?_))
  refine wpAny_bind (wpAny_bind (wpAny_onRaise ?_))
  show wpAny _ _ (Builtin.SmallTypes.nextOf (.ref j2) >>= _) _ _ _
  refine wpAny_bind (nx_tup_item (((Z.j2.extBut hsa.extBut D.i2z).extBut hsb.extBut D.i12.symm).extBut hsc.extBut D.TOi2.symm) (((p2.extBut hsa.extBut D.l2z).extBut hsb.extBut D.l2i1).extBut hsc.extBut D.l2TO) hy fun hd d2 hsd => wpAny_pure ?_)
  have rod : IsPair hd ro x b := hsd.extBut _ _ D.TOi2 roc
  refine wpAny_bind (wpAny_seqItems rod rfl ?_)
  refine wpAny_bind (wpAny_updateSeq_pair rod fun he roe hse => ?_)
  replace roe : IsPair he ro x y := roe
  refine wpAny_bind (wpAny_letGo (wpAny_pure (wpAny_pure ?_)))
  refine wpAny_bind (wpAny_seqItems roe rfl ?_)
  refine wpAny_bind (wpAny_newTuple ?_)
  have sz : he.objs.size = s.heap.objs.size := by rw [hse.1, hsd.1, hsc.1, hsb.1, hsa.1]
  have ze : IsZip he z ti ro .ellipsis := hse.extBut _ _ D.TOz.symm (hsd.extBut _ _ D.i2z.symm (hsc.extBut _ _ D.TOz.symm (hsb.extBut _ _ D.i1z.symm hza)))
  have ke : ∀ c o, c ≠ z → c ≠ ro → c ≠ j1 → c ≠ j2 → s.heap.get? c = some o → he.get? c = some o := fun c o c1 c2 c3 c4 e =>
    hse.extBut _ _ c2 (hsd.extBut _ _ c4 (hsc.extBut _ _ c2 (hsb.extBut _ _ c3 (hsa.extBut _ _ c1 e))))
  have e1 : he.IsListIter j1 t1 (i + 1) := li_ext (li_ext (li_ext b1 hsc.extBut D.TOi1.symm) hsd.extBut D.i12) hse.extBut D.TOi1.symm
  have e2 : he.IsTupleIter j2 t2 (i + 1) := d2.extBut hse.extBut D.TOi2.symm
  have zlt : z < he.objs.size := Heap.lt_size ze
  show wpAny _ _ (Builtin.SmallTypes.ownedTupleHandOut (.ref z) (.ref he.objs.size) >>= _) _ _ _
  refine wpAny_bind ?_
  unfold Builtin.SmallTypes.ownedTupleHandOut
  have zf : IsZip (he.push { cls := .type "tuple", data := .seq #[x, y] }) z ti ro .ellipsis := Heap.get?_push_of_some _ ze
  refine wpAny_bind (wpAny_setField_rec zf (by simp) fun hg zg hsg => ?_)
  replace zg : IsZip hg z ti ro (rawInt he.objs.size) := zg
  refine wpAny_setField_rec zg (by simp) fun hk zk hsk => ?_
  replace zk : IsZip hk z ti ro (rawInt he.objs.size) := zk
  have up : ∀ c o, c ≠ z → he.get? c = some o → hk.get? c = some o := fun c o c1 e => hsk.extBut _ _ c1 (hsg.extBut _ _ c1 (Heap.get?_push_of_some _ e))
  have tk : IsPair hk he.objs.size x y := hsk.extBut _ _ (Nat.ne_of_gt zlt) (hsg.extBut _ _ (Nat.ne_of_gt zlt) (Heap.get?_push_size _ rfl))
  have zk8 : hk.objs.size = he.objs.size + 1 := by rw [hsk.1, hsg.1, Heap.size_push]
  rw [sz] at zk tk zk8
  refine wpAny_pure ⟨_, rfl, wpAny_pure ?_⟩
  show Q (some (.ref he.objs.size)) _
  rw [sz]
  exact q hk ⟨zk, up _ _ D.TIz (ke _ _ D.TIz D.TITO D.TIi1 D.TIi2 Z.ti), ⟨_, _, up _ _ D.TOz roe⟩, li_at e1 fun o e => up _ o D.i1z e, e2.at fun o e => up _ o D.i2z e⟩ tk zk8 fun c o c1 c2 c3 c4 e => up c o c1 (ke c o c1 c2 c3 c4 e)
theorem zl_end {Q : Option Value → Shared → Prop} (hh : A.handled = none) (D : ZipApart z ti ro j1 j2 t1 t2) (Z : ZipL s.heap z ti ro j1 j2 t1 t2 .none i) (p1 : s.heap.IsList t1 its1) (p2 : s.heap.IsTuple t2 its2) (hx : its1[i]? = none)
    (q : ∀ h', (∀ c o, c ≠ z → c ≠ ro → c ≠ j1 → c ≠ j2 → s.heap.get? c = some o → h'.get? c = some o) → Q none { s with heap := h' }) : wpAny (model P w) A (pyNext (.ref z)) Q E s := by
  have hT : s.TypeIs (.ref z) "zip" := ⟨_, Z.z, rfl⟩
  unfold pyNext
  refine wpAny_bind (wpAny_attempt (wpAny_callSpecial?_slot (name := Str.ofString "__next__") hT F.slot_zip_next (wpAny_call_entry F.slot_zip_next hT F.entry_zip_next ?_ (F.args_zip_next_1 _))))
  show wpAny _ _ (field (.ref z) 2 >>= _) _ _ _
  refine wpAny_bind (wpAny_field Z.z rfl (x := .bool false) rfl ?_)
  show wpAny _ _ (field (.ref z) 3 >>= _) _ _ _
  refine wpAny_bind (wpAny_field Z.z rfl (x := .ref ti) rfl ?_)
  refine wpAny_bind (wpAny_seqItems Z.ti rfl ?_)
  show wpAny _ _ (Builtin.SmallTypes.ownedTupleIsFree (.ref z) >>= _) _ _ _
  refine wpAny_bind ?_
  unfold Builtin.SmallTypes.ownedTupleIsFree
  refine wpAny_bind (wpAny_field Z.z rfl (x := .none) rfl (wpAny_pure ?_))
  simp only [if_true]
  refine wpAny_bind (wpAny_rule ?_)
  refine wpAny_bind (wpAny_field Z.z rfl (x := .ref ro) rfl ?_)
  refine wpAny_bind (wpAny_setField_rec Z.z (by simp) fun ha hza hsa => ?_)
  replace hza : IsZip ha z ti ro .ellipsis := hza
  refine wpAny_bind ?_
  simp only [List.zipIdx_cons, List.zipIdx_nil, List.forIn_cons, List.forIn_nil]
  refine wpAny_bind (wpAny_bind (wpAny_onRaise ?_))
  show wpAny _ _ (Builtin.SmallTypes.nextOf (.ref j1) >>= _) _ _ _
  refine wpAny_bind (wpAny_nextOf_list_end hh (li_ext Z.j1 hsa.extBut D.i1z) (p1.extBut hsa.extBut D.l1z) hx fun hb e hsb ⟨oe, ge, ce⟩ => ?_)
  have zb : IsZip hb z ti ro .ellipsis := hsb _ _ D.i1z.symm hza
  have nez : e ≠ z := fun z' => by
    subst z'
    rw [zb] at ge
    cases ge
    simp at ce
  refine wpAny_setField_rec zb (by simp) fun hc _ hsc => ?_
  refine wpAny_bind (wpAny_isInstance (T := "StopIteration") (b := true) ⟨oe, hsc.extBut _ _ nez ge, ce⟩ isSubtype_stop ?_)
  exact wpAny_pure (q _ fun c o c1 _ c3 _ x => hsc.extBut _ _ c1 (hsb _ _ c3 (hsa.extBut _ _ c1 x)))
end
def ItzL (K : PySem.W.Frag) (a b : Addr) : It :=
  ⟨fun i H => ∃ xs ys x y, SqL K H a xs ∧ SqT K H b ys ∧ xs[i]? = some x ∧ ys[i]? = some y,
   fun i H v H' => ∃ p x y, v = .ref p ∧ New H p (.tup [x, y]) H' ∧ (∀ xs, SqL K H a xs → xs[i]? = some x) ∧ ∀ ys, SqT K H b ys → ys[i]? = some y,
   fun i H => ∃ xs ys, SqL K H a xs ∧ SqT K H b ys ∧ xs.length ≤ i⟩
theorem turn_zipL {P : Program} {w : World} {K : PySem.W.Frag} {elts : List Expr} {x1} {tpos : Pos} (z ti ro j1 j2 a b : Addr) (D : ZipApart z ti ro j1 j2 a b) :
    Turn P w K (.Tuple elts x1 tpos) (ItzL K a b) [z, ti, ro, j1, j2] z (fun i h => ZipL h z ti ro j1 j2 a b .none i) where
  mem := by simp
  obj := fun i h st c hc => by
    obtain ⟨u, v, hro⟩ := st.ro
    obtain ⟨o1, e1, c1, d1⟩ := st.j1
    obtain ⟨o2, e2, c2, d2⟩ := st.j2
    simp only [List.mem_cons, List.not_mem_nil, or_false] at hc
    rcases hc with rfl | rfl | rfl | rfl | rfl
    · exact ⟨_, st.z, fun v q => nomatch q⟩
    · exact ⟨_, st.ti, fun v q => nomatch q⟩
    · exact ⟨_, hro, fun v q => nomatch q⟩
    · exact ⟨_, e1, fun v q => by rw [d1] at q; cases q⟩
    · exact ⟨_, e2, fun v q => by rw [d2] at q; cases q⟩
  keep := fun i h h' st k => by
    obtain ⟨u, v, hro⟩ := st.ro
    exact ⟨k z (by simp) _ st.z, k ti (by simp) _ st.ti, ⟨u, v, k ro (by simp) _ hro⟩, li_at st.j1 fun o e => k j1 (by simp) o e, st.j2.at fun o e => k j2 (by simp) o e⟩
  item := by
    intro X hP hw hK hc i pins s σ H E I hf st hg
    subst hP hw hK
    obtain ⟨xs, ys, x, y, hx, hy, ex, ey⟩ := hg
    obtain ⟨its1, r1, p1, _⟩ := I.list hx
    obtain ⟨its2, r2, p2, _⟩ := I.tuple hy
    obtain ⟨u, hu, ru⟩ := r1.get ex
    obtain ⟨v, hv, rv⟩ := r2.get ey
    have fz := hf z (by simp)
    refine zl_item D st p1.isList (show s.heap.IsTuple b its2.toArray from p2) (x := u) (y := v) (by simpa using hu) (by simpa using hv) fun h1 Z1 q1 sz1 k1 => ⟨_, rfl, ?_⟩
    refine wpAny_letOwnedTupleGo_zip Z1.z fun h2 z2 sb2 => ?_
    have hlt : ∀ c ∈ [z, ti, ro, j1, j2], c ≠ s.heap.objs.size := fun c hc => by
      obtain ⟨o, e, _⟩ : ∃ o, s.heap.get? c = some o ∧ True := by
        obtain ⟨u', v', hro⟩ := st.ro
        obtain ⟨o1, e1, _⟩ := st.j1
        obtain ⟨o2, e2, _⟩ := st.j2
        simp only [List.mem_cons, List.not_mem_nil, or_false] at hc
        rcases hc with rfl | rfl | rfl | rfl | rfl
        · exact ⟨_, st.z, trivial⟩
        · exact ⟨_, st.ti, trivial⟩
        · exact ⟨_, hro, trivial⟩
        · exact ⟨_, e1, trivial⟩
        · exact ⟨_, e2, trivial⟩
      exact Nat.ne_of_lt (Heap.lt_size e)
    have k2 : ∀ c o, c ∉ [z, ti, ro, j1, j2] → s.heap.get? c = some o → h2.get? c = some o := fun c o hc e => by
      have hz : c ≠ z := fun q => hc (by simp [q])
      exact sb2.extBut _ _ hz (k1 c o hz (fun q => hc (by simp [q])) (fun q => hc (by simp [q])) (fun q => hc (by simp [q])) e)
    have tup2 : h2.get? s.heap.objs.size = some { cls := .type "tuple", data := .seq #[u, v] } := sb2.extBut _ _ (Ne.symm (hlt z (by simp))) q1
    have st2 : ZipL h2 z ti ro j1 j2 a b .none (i + 1) := by
      obtain ⟨u', v', hro⟩ := Z1.ro
      exact ⟨z2, sb2.extBut _ _ D.TIz Z1.ti, ⟨u', v', sb2.extBut _ _ D.TOz hro⟩, li_ext Z1.j1 sb2.extBut D.i1z, Z1.j2.extBut sb2.extBut D.i2z⟩
    have there : ∀ c ∈ [z, ti, ro, j1, j2], ∃ o, h2.get? c = some o := fun c hc => by
      obtain ⟨u', v', hro⟩ := st2.ro
      obtain ⟨o1, e1, _⟩ := st2.j1
      obtain ⟨o2, e2, _⟩ := st2.j2
      simp only [List.mem_cons, List.not_mem_nil, or_false] at hc
      rcases hc with rfl | rfl | rfl | rfl | rfl
      · exact ⟨_, st2.z⟩
      · exact ⟨_, st2.ti⟩
      · exact ⟨_, hro⟩
      · exact ⟨_, e1⟩
      · exact ⟨_, e2⟩
    have I2 : Inv X pins σ (upd H s.heap.objs.size (.tup [x, y])) { s with heap := h2, toks := s.toks } := I.turnedNew k2 hf (Nat.le_refl _) ⟨small_line (by simp), [u, v], .cons ru (.cons rv .nil), ⟨_, tup2, rfl, _, rfl⟩⟩ there
    refine ⟨.ref s.heap.objs.size, _, I2, rfl, ⟨_, x, y, rfl, .mk' I.fresh _, fun ws hw => by rw [I.list_inj hw hx]; exact ex, fun ws hw => by rw [I.tuple_inj hw hy]; exact ey⟩, st2, fun c hc => ?_⟩
    rw [upd_ne (hlt c hc)]
    exact (hf c hc).1
  done := by
    intro X hP hw hK hc i pins s σ H E I hf st hg
    subst hP hw hK
    obtain ⟨xs, ys, hx, hy, hl⟩ := hg
    obtain ⟨its1, r1, p1, _⟩ := I.list hx
    obtain ⟨its2, r2, p2, _⟩ := I.tuple hy
    have l1 := r1.length
    exact zl_end (I.ok.hd hc) D st p1.isList (show s.heap.IsTuple b its2.toArray from p2) (by simp; omega) fun h' k => ⟨rfl, I.turnedL (t' := s.toks) (fun c o hc e => k c o (fun q => hc (by simp [q])) (fun q => hc (by simp [q])) (fun q => hc (by simp [q])) (fun q => hc (by simp [q])) e) hf⟩
  self := fun _ _ _ _ _ st h => wpAny_pyIter_zip st.z h
def Ite (K : PySem.W.Frag) (a : Addr) : It :=
  ⟨fun i H => ∃ xs x, SqL K H a xs ∧ xs[i]? = some x, fun i H v H' => ∃ p x, v = .ref p ∧ New H p (.tup [.int (i : Int), x]) H' ∧ ∀ xs, SqL K H a xs → xs[i]? = some x, fun i H => ∃ xs, SqL K H a xs ∧ xs.length ≤ i⟩
theorem turn_enum {P : Program} {w : World} {K : PySem.W.Frag} {elts : List Expr} {x1} {tpos : Pos} (e it a : Addr) (hne : e ≠ it) :
    Turn P w K (.Tuple elts x1 tpos) (Ite K a) [e, it] e (fun i h => (∃ old, IsEnum h e it (i : Int) old) ∧ h.IsListIter it a i) where
  mem := by simp
  obj := fun i h st c hc => by
    obtain ⟨⟨old, se⟩, o1, e1, c1, d1⟩ := st
    simp only [List.mem_cons, List.not_mem_nil, or_false] at hc
    rcases hc with rfl | rfl
    · exact ⟨_, se, fun v q => nomatch q⟩
    · exact ⟨_, e1, fun v q => by rw [d1] at q; cases q⟩
  keep := fun i h h' st k => ⟨let ⟨old, se⟩ := st.1; ⟨old, k e (by simp) _ se⟩, li_at st.2 fun o z => k it (by simp) o z⟩
  item := by
    intro X hP hw hK hc i pins s σ H E I hf st hg
    subst hP hw hK
    obtain ⟨xs, x, hx, ex⟩ := hg
    obtain ⟨its, r, pl, _⟩ := I.list hx
    obtain ⟨u, hu, ru⟩ := r.get ex
    obtain ⟨⟨old, se⟩, si⟩ := st
    refine wpAny_pyNext_enum_item se si pl.isList (x := u) (by simpa using hu) hne fun h1 eo1 si1 q1 sz1 k1 => ⟨_, rfl, ?_⟩
    refine wpAny_letOwnedTupleGo_enum eo1 fun h2 e2 sb2 => ?_
    have hlt : ∀ c ∈ [e, it], c ≠ s.heap.objs.size := fun c hc => by
      simp only [List.mem_cons, List.not_mem_nil, or_false] at hc
      rcases hc with rfl | rfl
      · exact Nat.ne_of_lt (Heap.lt_size se)
      · obtain ⟨o, z, _⟩ := si
        exact Nat.ne_of_lt (Heap.lt_size z)
    have k2 : ∀ c o, c ∉ [e, it] → s.heap.get? c = some o → h2.get? c = some o := fun c o hc z =>
      sb2.extBut _ _ (fun q => hc (by simp [q])) (k1 c o (fun q => hc (by simp [q])) (fun q => hc (by simp [q])) z)
    have tup2 := sb2.extBut _ _ (Ne.symm (hlt e (by simp))) q1
    have si2 : h2.IsListIter it a (i + 1) := li_ext si1 sb2.extBut (Ne.symm hne)
    have e2' : IsEnum h2 e it ((i + 1 : Nat) : Int) u := by rw [show ((i + 1 : Nat) : Int) = (i : Int) + 1 by omega]; exact e2
    have there : ∀ c ∈ [e, it], ∃ o, h2.get? c = some o := fun c hc => by
      simp only [List.mem_cons, List.not_mem_nil, or_false] at hc
      rcases hc with rfl | rfl
      · exact ⟨_, e2⟩
      · obtain ⟨o, z, _⟩ := si2
        exact ⟨o, z⟩
    have I2 : Inv X pins σ (upd H s.heap.objs.size (.tup [.int (i : Int), x])) { s with heap := h2, toks := s.toks + 1 } := I.turnedNew k2 hf (Nat.le_refl _) ⟨small_line (by simp), [.int i s.toks, u], .cons ⟨_, rfl⟩ (.cons ru .nil), ⟨_, tup2, rfl, _, rfl⟩⟩ there
    refine ⟨.ref s.heap.objs.size, _, I2, rfl, ⟨_, x, rfl, .mk' I.fresh _, fun ws hw => by rw [I.list_inj hw hx]; exact ex⟩, ⟨⟨_, e2'⟩, si2⟩, fun c hc => ?_⟩
    rw [upd_ne (hlt c hc)]
    exact (hf c hc).1
  done := by
    intro X hP hw hK hc i pins s σ H E I hf st hg
    subst hP hw hK
    obtain ⟨xs, hx, hl⟩ := hg
    obtain ⟨its, r, pl, _⟩ := I.list hx
    have l1 := r.length
    obtain ⟨⟨old, se⟩, si⟩ := st
    exact wpAny_pyNext_enum_end (I.ok.hd hc) se si pl.isList (by simp; omega) fun h' k => ⟨rfl, I.turnedL (t' := s.toks) (fun c o hc z => k c o (fun q => hc (by simp [q])) z) hf⟩
  self := fun _ _ _ _ _ st h => let ⟨_, se⟩ := st.1; wpAny_pyIter_enum se h
def iEnum (K : PySem.W.Frag) (ta : TA) : TI := fun σ H R => ta σ H fun vs H1 => ∃ a, vs = [.ref a] ∧ (∃ xs, SqL K H1 a xs) ∧ R (Ite K a) H1
theorem pi_enum {X : Cx} {elts : List Expr} {x1} {tpos : Pos} {a : Expr} {ta : TA} {p pos : Pos} (hg : Gl X "enumerate") (hm : X.mg "enumerate" = none) (ha : PA X [a] ta) (h1 : notStar a = true := by rfl) : PI X (.Tuple elts x1 tpos) (.Call (.Name "enumerate" p) [a] [] pos) (iEnum X.K ta) := by
  intro pins s σ H R I h
  have hs : starEach [a] X.env = [(false, eval a X.env)] := by rw [star_cons h1, starEach.eq_def]
  refine Call_ (ld_blt I hg hm boot_enumerate (PyProof.Rows.callWith_type1 (thn (ha pos pins s σ H _ I h) fun us s1 ⟨vs, H1, I1, r1, q1⟩ => ?_) hs rfl))
  obtain ⟨p1, e, ⟨xs, hx⟩, q⟩ := q1
  subst e
  obtain ⟨u, rfl, ru⟩ := vals1 r1
  cases (show u = Value.ref p1 from ru)
  obtain ⟨its, _, t1, _⟩ := I1.list hx
  refine call_enumerate_list t1.isList fun h' se si sz k => wpAny_pyIter_enum se ?_
  refine ⟨_, [s1.heap.objs.size + 1, s1.heap.objs.size], _, _, H1, rfl, I1.kept (t' := s1.toks) k, turn_enum _ _ p1 (Nat.succ_ne_self _), ⟨⟨_, se⟩, si⟩, fun c hc => ?_, q⟩
  have hle : s1.heap.objs.size ≤ c := by
    simp only [List.mem_cons, List.not_mem_nil, or_false] at hc
    rcases hc with rfl | rfl
    · exact Nat.le_add_right _ _
    · exact Nat.le_refl _
  exact I1.fpOk hle (I1.hok.fresh hle)
theorem pi_enumK {X : Cx} (K : PySem.W.Frag) {elts : List Expr} {x1} {tpos : Pos} {a : Expr} {ta : TA} {p pos : Pos} (hg : Gl X "enumerate") (hm : X.mg "enumerate" = none) (ha : PA X [a] ta) (h : X.K = K := by rfl) (h1 : notStar a = true := by rfl) :
    PI X (.Tuple elts x1 tpos) (.Call (.Name "enumerate" p) [a] [] pos) (iEnum K ta) := h ▸ pi_enum hg hm ha h1
def rInDc (neg : Bool) : R2 := fun y x H Q => ∃ a o, x = .ref a ∧ DGet H a y o ∧ Q (.bl (if neg then !o.isSome else o.isSome)) H
section
variable {X : Cx} {o i value : Expr} {pos pos' : Pos} {td ty tv : TE}
theorem op_in_d (hu : X.A.units + 8 < cLine) : OpR X (compareOp .In) (rInDc false) := by
  intro pins s σ H y x v u Q I ry rx h
  obtain ⟨a, o, rfl, g, q⟩ := h
  obtain rfl : u = Value.ref a := rx
  exact d_in (by omega) I g ry fun s3 I3 => ⟨.bl o.isSome, H, I3, rfl, q⟩
theorem op_notin_d (hu : X.A.units + 8 < cLine) : OpR X (compareOp .NotIn) (rInDc true) := by
  intro pins s σ H y x v u Q I ry rx h
  obtain ⟨a, o, rfl, g, q⟩ := h
  obtain rfl : u = Value.ref a := rx
  exact d_notIn (by omega) I g ry fun s3 I3 => ⟨.bl (!o.isSome), H, I3, rfl, q⟩
theorem pe_dgetH (hu : X.A.units + 8 < cLine) (ho : PE X o td) (hi : PE X i ty) (hs : NoSl i) : PE X (.Subscript o i pos) (tDGet td ty) := pe_dget (by omega) ho hi hs
theorem ps_dputH (hu : X.A.units + 8 < cLine) (ho : PE X o td) (hi : PE X i ty) (hv : PE X value tv) (hs : swapsWith value (some (.Subscript o i pos')) pos.line X.env = pure false) :
    PS X (.Assign [.Subscript o i pos'] value pos) (sDPut td ty tv) := ps_dput (by omega) ho hi hv hs
def tDNewTN : TE := fun _ H Q => ∀ p H', New H p (.dT []) H' → Q (.ref p) H'
theorem pe_dnewTN : PE X (.Dict [] [] pos) tDNewTN := fun pins s σ H Q I h => pe_dnewT pins s σ H Q I fun p np => h p _ (.mk' np _)
end
section
variable {tn : List Str} {cp : List (Nat × Str)} {g : TG} {tif : TT} {te : TE} {σ0 : St} {Q : VK} {H1 : Hp} {n : Nat}
def PGen (S : St → Prop) (G : Nat → V → Hp → Prop) (H1 : Hp) (i : Nat) (ys : List V) (σ : St) (H : Hp) : Prop := Same H1 H ∧ S σ ∧ ys.length = i ∧ ∀ j y, ys[j]? = some y → G j y H
theorem cg_by {J : It} (S : St → Prop) (G : Nat → V → Hp → Prop) (hn : n ≤ 1000) (h0 : S (stB tn cp σ0)) (hgo : ∀ i H, i < n → Same H1 H → J.go i H) (hstop : ∀ H, Same H1 H → J.stop n H)
    (hs : ∀ D i ys σ H x H', i < n → Same H1 H → H1 D = none → H D = some (.lst ys) → ys.length = i → (∀ j y, ys[j]? = some y → G j y H) → S σ → J.yld i H x H' → g x σ H' fun σ2 H2 => tif σ2 H2 fun c H3 =>
      if c = true then te σ2 H3 fun v H4 => CStep D n i (PGen S G H1) σ2 v H4 else CSkip D n i (PGen S G H1) σ2 H3)
    (hd : ∀ D ys H, H1 D = none → Same H1 H → H D = some (.lst ys) → ys.length = n → (∀ j y, ys[j]? = some y → G j y H) → Q (.ref D) H) : cBody tn cp g tif te σ0 Q J H1 := by
  refine cb_by n (fun D => PGen S G H1) (small_line hn) (fun D hD => ⟨same_upd hD _, h0, rfl, fun j y e => by simp at e⟩) (fun D i ys σ H _ hi _ p => hgo i H hi p.1) (fun D ys σ H _ _ p => hstop H p.1) ?_ ?_
  · rintro D i ys σ H x H' hD hi hH hl ⟨p1, p2, p3, p4⟩ hy
    exact hs D i ys σ H x H' hi p1 hD hH p3 p4 p2 hy
  · rintro D ys σ H hD hH hl ⟨p1, p2, p3, p4⟩
    exact hd D ys H hD p1 hH p3 p4
theorem cg_step {S : St → Prop} {G : Nat → V → Hp → Prop} {D : Addr} {i : Nat} {ys : List V} {v : V} {σ2 : St} {H H4 : Hp} (hG : ∀ j y H H', TupS H H' → G j y H → G j y H') (hn : n ≤ 1000) (hi : i < n) (hD : H1 D = none) (h4 : H4 D = some (.lst ys)) (hl : ys.length = i)
    (hy : ∀ j y, ys[j]? = some y → G j y H) (ts : TupS H H4) (g4 : Same H1 H4) (s2 : S σ2) (e : G i v H4) : CStep D n i (PGen S G H1) σ2 v H4 := by
  refine cstep (small_line hn) hi h4 (by omega) ⟨g4.wr hD _, s2, by simp [hl], fun j y ej => ?_⟩
  by_cases h : j < ys.length
  · rw [List.getElem?_append_left h] at ej
    exact hG j y _ _ (ts.trans (TupS.wr h4 _)) (hy j y ej)
  · rw [List.getElem?_append_right (by omega)] at ej
    have e0 : j - ys.length = 0 := by
      cases hj : j - ys.length with
      | zero => rfl
      | succ k => rw [hj] at ej; simp at ej
    rw [e0] at ej
    simp at ej
    subst ej
    rw [show j = i by omega]
    exact hG i _ _ _ (TupS.wr h4 _) e
end
def NeOk (X : Cx) (k : Nat) (H : Hp) (x y : V) (b : Bool) : Prop := ∀ (pins : List (Addr × Obj)) (σ : St) (s : Shared) (A : Around) (u v : Value), A.units + k < cLine → Inv X pins σ H s → RelV x u → RelV y v → SeqAt.RcNeAt A s u v b
def rNeM (X : Cx) : R2 := fun x y H Q => ∃ c, NeOk X 8 H x y c ∧ Q (.bl c) H
theorem op_neM {X : Cx} (hu : X.A.units + 8 < cLine) : OpR X (compareOp .NotEq) (rNeM X) := by
  intro pins s σ H x y v u Q I rx ry h
  obtain ⟨c, r, q⟩ := h
  exact r pins σ s X.A v u hu I rx ry _ _ _ _ ⟨.bl c, H, I, rfl, q⟩
end L2
namespace SM
open PySem PySem.Spec PyProof.Rows L2 SS
section
variable {α κ : Type} [DecidableEq α] [DecidableEq κ]
def tabF (key : α → κ) : Nat → List α → List (κ × V)
  | _, [] => []
  | n, x :: r => (key x, nV n) :: tabF key (n + 1) r
theorem tabF_snoc (key : α → κ) : ∀ (ds : List α) (n : Nat) (d : α), tabF key n (ds ++ [d]) = tabF key n ds ++ [(key d, nV (n + ds.length))]
  | [], n, d => rfl
  | x :: r, n, d => by
    show (key x, nV n) :: tabF key (n + 1) (r ++ [d]) = _
    rw [tabF_snoc key r]
    show _ = (key x, nV n) :: (tabF key (n + 1) r ++ [(key d, nV (n + (r.length + 1)))])
    rw [show n + 1 + r.length = n + (r.length + 1) by omega]
theorem tabF_len (key : α → κ) : ∀ (ds : List α) (n : Nat), (tabF key n ds).length = ds.length
  | [], _ => rfl
  | x :: r, n => by show (tabF key (n + 1) r).length + 1 = r.length + 1; rw [tabF_len key r]
theorem tabF_val {key : α → κ} (inj : ∀ a b, key a = key b → a = b) (x : α) : ∀ (ds : List α) (n : Nat), valV (tabF key n ds) (key x) = if x ∈ ds then some (nV (n + ds.idxOf x)) else none
  | [], n => by simp [tabF, valV_nil]
  | y :: r, n => by
    show valV ((key y, nV n) :: tabF key (n + 1) r) (key x) = _
    by_cases h : y = x
    · subst h
      rw [valV_pos rfl, if_pos List.mem_cons_self]
      simp
    · rw [valV_neg (fun e => h (inj _ _ e)), tabF_val inj x r (n + 1)]
      have e : (x ∈ y :: r) ↔ x ∈ r := by simp [List.mem_cons, Ne.symm h]
      by_cases hr : x ∈ r
      · rw [if_pos hr, if_pos (e.mpr hr), List.idxOf_cons, show (y == x) = false by simp [h], cond_false, show n + 1 + r.idxOf x = n + (r.idxOf x + 1) by omega]
      · rw [if_neg hr, if_neg (fun z => hr (e.mp z))]
end
theorem TupS.wrT {H : Hp} {p : Addr} {kvs : List (List Key × V)} (h : H p = some (.dT kvs)) (o : HO) : TupS H (upd H p o) := fun b ys e => by rw [upd_ne (ne_of e h (by intro z; cases z))]; exact e
end SM
namespace L2
open PySem PySem.Spec PyProof.Rows
set_option maxHeartbeats 1000000 in
theorem enum_newZ (z ti ro : Addr) :
    Meets (Builtin.«enumerate.__new__» ⟨[.type "enumerate", .ref z], []⟩) (fun _ R s => IsZip s.heap z ti ro .none ∧
      R (.ok (.ret (.ref s.heap.objs.size))) { s with heap := s.heap.push { cls := .type "enumerate", data := .fields #[.none, .bool false, .ref z, rawInt 0, .none, .none] } }) :=
  .of_wp fun prog w A R s h => by
    obtain ⟨hp, g, d, tk, os⟩ := s; obtain ⟨hl, h⟩ := h
    have hsub := sub_enumerate
    have hL : IsZip (Shared.heap ⟨hp, g, d, tk, os⟩) z ti ro .none := hl
    wp_walk using AutoSeq1.wpAny_loadPart' hl
    refine wpAny_stack_any fun st => wpAny_pure ?_
    split
    · rename_i c _ _ _ _ _
      cases (c == Value.type "enumerate")
      · wp_walk using AutoSeq1.wpAny_loadPart' hl, wpAny_pyIter_zip hL
        exact ⟨_, rfl, h⟩
      · wp_walk using AutoSeq1.wpAny_loadPart' hl, wpAny_pyIter_zip hL
        exact ⟨_, rfl, h⟩
    · wp_walk using AutoSeq1.wpAny_loadPart' hl, wpAny_pyIter_zip hL
      exact ⟨_, rfl, h⟩
section
variable {tn : List Str} {cp : List (Nat × Str)} {g : TG} {tif : TT} {te : TE} {σ0 : St} {Q : VK} {H1 : Hp} {lo : Int} {n : Nat}
def PRnF (S : St → Prop) (p : Nat → Bool) (f : Nat → V) (H1 : Hp) (i : Nat) (ys : List V) (σ : St) (H : Hp) : Prop := Same H1 H ∧ S σ ∧ ys = ((List.range i).filter p).map f
theorem crf_map (S : St → Prop) (p : Nat → Bool) (f : Nat → V) (hn : n ≤ 1000) (h0 : S (stB tn cp σ0))
    (hs : ∀ D i σ H, i < n → Same H1 H → H1 D = none → H D = some (.lst (((List.range i).filter p).map f)) → S σ → g (.int (lo + i)) σ H fun σ2 H2 => tif σ2 H2 fun c H3 =>
      if c = true then te σ2 H3 fun v H4 => CStep D n i (PRnF S p f H1) σ2 v H4 else CSkip D n i (PRnF S p f H1) σ2 H3)
    (hd : ∀ D H, H1 D = none → Same H1 H → H D = some (.lst (((List.range n).filter p).map f)) → Q (.ref D) H) : cBody tn cp g tif te σ0 Q (Itr lo n) H1 := by
  refine cb_by n (fun D => PRnF S p f H1) (small_line hn) (fun D hD => ⟨same_upd hD _, h0, rfl⟩) (fun D i ys σ H _ hi _ _ => hi) (fun D ys σ H _ _ _ => Nat.le_refl _) ?_ ?_
  · rintro D i ys σ H x H' hD hi hH hl ⟨p1, p2, rfl⟩ ⟨rfl, rfl⟩
    exact hs D i σ _ hi p1 hD hH p2
  · rintro D ys σ H hD hH hl ⟨p1, p2, rfl⟩
    exact hd D H hD p1 hH
theorem crf_len (p : Nat → Bool) (f : Nat → V) (i : Nat) : (((List.range i).filter p).map f).length ≤ i := by
  rw [List.length_map]
  have := List.length_filter_le p (List.range i)
  rw [List.length_range] at this
  exact this
theorem crf_step {S : St → Prop} {p : Nat → Bool} {f : Nat → V} {D : Addr} {i : Nat} {v : V} {σ2 : St} {H4 : Hp} (hn : n ≤ 1000) (hi : i < n) (hp : p i = true) (hD : H1 D = none) (h4 : H4 D = some (.lst (((List.range i).filter p).map f))) (g4 : Same H1 H4) (s2 : S σ2) (e : v = f i) : CStep D n i (PRnF S p f H1) σ2 v H4 := by
  subst e
  refine cstep (small_line hn) hi h4 (crf_len p f i) ⟨g4.wr hD _, s2, ?_⟩
  rw [List.range_succ, List.filter_append, List.map_append]
  simp [hp]
theorem crf_skip {S : St → Prop} {p : Nat → Bool} {f : Nat → V} {D : Addr} {i : Nat} {σ2 : St} {H3 : Hp} (hi : i < n) (hp : p i = false) (h3 : H3 D = some (.lst (((List.range i).filter p).map f))) (g3 : Same H1 H3) (s2 : S σ2) : CSkip D n i (PRnF S p f H1) σ2 H3 := by
  refine cskip hi h3 (crf_len p f i) ⟨g3, s2, ?_⟩
  rw [List.range_succ, List.filter_append]
  simp [hp]
end
def CellOf (X : Cx) (b : Addr) : Prop := ∃ x, X.env.cells.lookup x = some b
open Classical in
noncomputable def dropX (X : Cx) (H : Hp) : Hp := fun b => if CellOf X b then none else H b
def InCl (cl : List (Str × Addr)) (b : Addr) : Prop := ∃ x, cl.lookup x = some b
open Classical in
noncomputable def dropL (cl : List (Str × Addr)) (H : Hp) : Hp := fun b => if InCl cl b then none else H b
open Classical in
noncomputable def mixL (cl : List (Str × Addr)) (H H2 : Hp) : Hp := fun b => if InCl cl b then H b else H2 b
end L2
namespace SM
open PySem PySem.Spec PyProof.Rows L2 SS
def back (bs : List Nat) : Nat := bs.reverse.foldl (fun f b => 2 * f + b) 0
def sp_mixed : Sp := fun vs H Q _ => ∃ (c : Int), vs = [.int c] ∧ ∀ r : Int, 0 ≤ r → r < 999999999989 → Q (.int r) H
def cnt (m : Mc) : Nat → Nat → Nat
  | 0, r => if m.fin r = true then 1 else 0
  | k + 1, r => ((m.ways.getD r []).map (cnt m k)).sum
def cl (m : Mc) (k : Nat) : List Nat := (List.range m.ends.length).map (cnt m k)
def NoLen (H : Hp) (v : V) (n : Int) : Prop := (∃ r : Int, v = .int r ∧ ¬ (0 ≤ r ∧ r < n)) ∨ ∃ k, Kd H v k ∧ k ≠ "int"
def sp_wholeX : Sp := fun vs H Q _ => ∃ v, vs = [v] ∧ ((∃ r : Int, v = .int r ∧ Q (.bl true) H) ∨ ∃ k, Kd H v k ∧ k ≠ "int" ∧ Q (.bl false) H)
def sp_belowX : Sp := fun vs H Q _ => ∃ (v : V) (n : Int), vs = [v, .int n] ∧ ((∃ r : Int, v = .int r ∧ 0 ≤ r ∧ r < n ∧ Q (.bl true) H) ∨ (NoLen H v n ∧ Q (.bl false) H))
end SM
namespace L2
open PySem PySem.Spec PyProof.Rows
section
variable {tn : List Str} {cp : List (Nat × Str)} {g : TG} {tif : TT} {te : TE} {σ0 : St} {Q : VK} {H1 : Hp}
theorem cef_map {K : PySem.W.Frag} {a : Addr} {xs : List V} (S : St → Prop) (p : Nat → Bool) (f : Nat → V) (hn : xs.length ≤ 1000) (ha : SqL K H1 a xs) (h0 : S (stB tn cp σ0))
    (hs : ∀ D i σ H x pt H2, xs[i]? = some x → Same H1 H → H1 D = none → H D = some (.lst (((List.range i).filter p).map f)) → S σ → New H pt (.tup [.int (i : Int), x]) H2 → g (.ref pt) σ H2 fun σ2 H3 => tif σ2 H3 fun c H4 =>
      if c = true then te σ2 H4 fun v H5 => CStep D xs.length i (PRnF S p f H1) σ2 v H5 else CSkip D xs.length i (PRnF S p f H1) σ2 H4)
    (hd : ∀ D H, H1 D = none → Same H1 H → H D = some (.lst (((List.range xs.length).filter p).map f)) → Q (.ref D) H) : cBody tn cp g tif te σ0 Q (Ite K a) H1 := by
  refine cb_by xs.length (fun D => PRnF S p f H1) (small_line hn) (fun D hD => ⟨same_upd hD _, h0, rfl⟩) (fun D i ys σ H _ hi _ q => ⟨xs, xs[i], q.1.seq ha, List.getElem?_eq_getElem hi⟩) (fun D ys σ H _ _ q => ⟨xs, q.1.seq ha, Nat.le_refl _⟩) ?_ ?_
  · rintro D i ys σ H x H' hD hi hH hl ⟨p1, p2, rfl⟩ ⟨pt, u, e, n1, ex⟩
    subst e
    exact hs D i σ H u pt H' (ex xs (p1.seq ha)) p1 hD hH p2 n1
  · rintro D ys σ H hD hH hl ⟨p1, p2, rfl⟩
    exact hd D H hD p1 hH
end
end L2
namespace SM
open PySem PySem.Spec PyProof.Rows L2 SS
def cw (row : List Nat) (k : Nat) : Nat := (row.filter fun l => l / 2 ^ k % 2 == 1).length
def isP (z : Str) : Bool := isNm (.str z) SMALL
def fitB (names : List Str) (row : List Nat) : Bool := (List.range names.length).all fun k => !isP (names.getD k (Str.ofString "")) || cw row k == 1
def NmOk (z : Str) : Prop := Nam z SMALL ∨ Nam z GREAT
def FrOk (names : List Str) : Prop := names.length ≤ 4 ∧ ∀ z ∈ names, NmOk z
def sp_isletter : Sp := fun vs H Q _ => ∃ (r : Int) (k : Nat), vs = [.int r, nV k] ∧ k ≤ 4 ∧ Q (.bl (decide (0 ≤ r ∧ r < 2 ^ k))) H
def sp_countw : Sp := fun vs H Q _ => ∃ (r : Addr) (row : List Nat) (k : Nat), vs = [.ref r, nV k] ∧ H r = some (.lst (row.map nV)) ∧ row.length ≤ 200 ∧ (∀ l ∈ row, l < 32) ∧ k ≤ 4 ∧ ∀ H', Same H H' → Q (nV (cw row k)) H'
def sp_once : Sp := fun vs H Q _ => ∃ (f r : Addr) (names : List Str) (row : List Nat), vs = [.ref f, .ref r] ∧ H f = some (.lst (names.map V.str)) ∧ FrOk names ∧ H r = some (.lst (row.map nV)) ∧ row.length ≤ 200 ∧ (∀ l ∈ row, l < 32) ∧ ∀ H', Same H H' → Q (.bl (fitB names row)) H'
theorem bit_is : ∀ l, l < 32 → ∀ t, t < 5 → Builtin.bitAnd (((l : Nat) : Int) / 2 ^ t) 1 = if (l / 2 ^ t % 2 == 1) = true then 1 else 0 := by decide +kernel
theorem cw_sum (k : Nat) (hk : k ≤ 4) : ∀ (row : List Nat), (∀ l ∈ row, l < 32) → (row.map fun (l : Nat) => Builtin.bitAnd ((l : Int) / 2 ^ k) 1).sum = ((cw row k : Nat) : Int)
  | [], _ => rfl
  | l :: row, h => by
    have ih := cw_sum k hk row fun x hx => h x (List.mem_cons_of_mem _ hx)
    rw [List.map_cons, List.sum_cons, ih, bit_is l (h l (List.mem_cons_self ..)) k (by omega)]
    unfold cw
    rw [List.filter_cons]
    split
    · rw [List.length_cons]; omega
    · omega
theorem nmok_len {z : Str} (h : NmOk z) : z.length ≤ 1000 := by
  have key : ∀ l, Nam z l → z.length ≤ 1000 := fun l hl => by
    obtain ⟨d, ds, e, _, h3, _⟩ := hl.ex
    have : z.length = z.cps.toList.length := by simp [Str.length]
    rw [this, e, List.length_cons]
    omega
  rcases h with h | h
  · exact key _ h
  · exact key _ h
theorem dec_one (c : Nat) : decide (nV c = V.int 1) = (c == 1) := by
  by_cases h : c = 1
  · subst h; rfl
  · rw [decide_eq_false (fun e => h (by injection e with e; omega))]
    simp [h]
theorem rc_flat {X : Cx} {H : Hp} {a b : Addr} {xs : List V} (ha : SqL X.K H a xs) (hb : SqL X.K H b xs) (fl : ∀ x ∈ xs, flatV x = true ∧ eqV x x = true) : RcOk X 1 H (.ref a) (.ref b) true := by
  have f : xs.all flatV = true := List.all_eq_true.mpr fun x hx => (fl x hx).1
  have r := rcok_flats (X := X) ha hb f f
  rw [show (xs.length == xs.length && (List.range xs.length).all fun j => eqV (xs.getD j .non) (xs.getD j .non)) = true by
    rw [beq_self_eq_true, Bool.true_and, List.all_eq_true]
    intro j hj
    have hj' := List.mem_range.mp hj
    rw [List.getD_eq_getElem?_getD, List.getElem?_eq_getElem hj']
    exact (fl _ (List.getElem_mem hj')).2] at r
  exact r
theorem eq_flat {X : Cx} {H : Hp} {a b : Addr} {xs : List V} {k : Nat} (ha : SqL X.K H a xs) (hb : SqL X.K H b xs) (fl : ∀ x ∈ xs, flatV x = true ∧ eqV x x = true) : EqOk X (k + 1) H (.ref a) (.ref b) true := by
  by_cases hab : a = b
  · subst hab; exact eqok_same
  · exact .of_rc hab ((rc_flat ha hb fl).up (by omega))
theorem fl_str (l : List Str) : ∀ x ∈ l.map V.str, flatV x = true ∧ eqV x x = true := fun x hx => by
  obtain ⟨z, _, rfl⟩ := List.mem_map.mp hx
  exact ⟨rfl, by simp [eqV]⟩
theorem fl_nV (l : List Nat) : ∀ x ∈ l.map nV, flatV x = true ∧ eqV x x = true := fun x hx => by
  obtain ⟨z, _, rfl⟩ := List.mem_map.mp hx
  exact ⟨rfl, by show eqV (.int _) (.int _) = true; rw [eqV_int]; simp⟩
theorem nam_mk {z l : Str} {d : Nat} {ds : List Nat} (e : z.cps.toList = d :: ds) (h1 : d ∈ l.cps.toList) (h2 : ds.length ≤ 3) (h3 : ∀ x ∈ ds, x ∈ FIGS.cps.toList) : Nam z l := ⟨d, ds, e, h1, h2, h3⟩
open PySem
def rowWords : List Str := ["in", "same", "within", "ahead", "next"]
def bst (wd : Str) (l : Nat) (one other : Bool) : Nat :=
  if l ≤ 1 then l else if l = 2 then
    (if wd = "within" then (if one && !other then 0 else 2)
    else if !one && (!other || decide (wd = "in")) then 2
    else if decide (wd = "in") || decide (wd = "same") then (if one && other then 1 else 0)
    else if other then 0 else if wd = "ahead" then 1 else 3)
  else if one then 1 else 0
def bit (c k : Nat) : Bool := c / 2 ^ k % 2 == 1
def bstep (wd : Str) (i j : Nat) (l c : Nat) : Nat := if l ≤ 1 then l else if l = 2 then bst wd 2 (bit c i) (bit c j) else bst wd 3 (bit c j) (bit c j)
def brun (wd : Str) (i j : Nat) (l : Nat) (row : List Nat) : Nat := row.foldl (bstep wd i j) l
def aend (wd : Str) (l : Nat) : Bool := decide (l = 1) || (decide (l = 2) && decide (wd = "within"))
def plc (k : Nat) : Nat → List Nat → List Nat
  | _, [] => []
  | o, c :: r => if bit c k then o :: plc k (o + 1) r else plc k (o + 1) r
theorem plc_ge {k : Nat} : ∀ {o : Nat} {r : List Nat} {x : Nat}, x ∈ plc k o r → o ≤ x
  | o, [], x, h => by simp [plc] at h
  | o, c :: r, x, h => by
    unfold plc at h
    split at h
    · rcases List.mem_cons.mp h with e | e
      · omega
      · have := plc_ge e; omega
    · have := plc_ge h; omega
theorem brun_low {wd : Str} {i j l : Nat} (h : l ≤ 1) : ∀ r : List Nat, brun wd i j l r = l
  | [] => rfl
  | c :: r => by
    show brun wd i j (bstep wd i j l c) r = l
    rw [show bstep wd i j l c = l by unfold bstep; rw [if_pos h]]
    exact brun_low h r
theorem brun_cons {wd : Str} {i j l c : Nat} {r : List Nat} : brun wd i j l (c :: r) = brun wd i j (bstep wd i j l c) r := rfl
theorem not_here {k o : Nat} {r : List Nat} : o ∉ plc k (o + 1) r := fun h => by have := plc_ge h; omega
theorem b_within {i j : Nat} : ∀ (r : List Nat) (o : Nat), aend "within" (brun "within" i j 2 r) = (plc i o r).all fun x => decide (x ∈ plc j o r)
  | [], o => by simp [brun, plc, aend]
  | c :: r, o => by
    have ih := b_within (i := i) (j := j) r (o + 1)
    rw [brun_cons]
    have hs : bstep "within" i j 2 c = if bit c i && !bit c j then 0 else 2 := by
      show bst "within" 2 (bit c i) (bit c j) = _
      cases bit c i <;> cases bit c j <;> decide +kernel
    rw [hs]
    cases hi : bit c i <;> cases hj : bit c j <;> simp only [plc, hi, hj, Bool.and_true, Bool.and_false, Bool.not_true, Bool.not_false, if_true, if_false, Bool.false_eq_true, Bool.true_eq_false]
    · exact ih
    · rw [ih]
      refine List.all_congr_mem fun x hx => ?_
      have : x ≠ o := by have := plc_ge hx; omega
      simp [this]
    · rw [brun_low (by decide)]
      simp [aend, not_here]
    · rw [List.all_cons, ih]
      simp only [List.mem_cons, true_or, decide_true, Bool.true_and]
      refine List.all_congr_mem fun x hx => ?_
      have : x ≠ o := by have := plc_ge hx; omega
      simp [this]
where
  List.all_congr_mem {l : List Nat} {p q : Nat → Bool} (h : ∀ x ∈ l, p x = q x) : l.all p = l.all q := by
    induction l with
    | nil => rfl
    | cons x l ih => rw [List.all_cons, List.all_cons, h x List.mem_cons_self, ih fun y hy => h y (List.mem_cons_of_mem _ hy)]
theorem b_in {i j : Nat} : ∀ (r : List Nat) (o : Nat), (plc i o r).length = 1 → aend "in" (brun "in" i j 2 r) = (plc i o r).all fun x => decide (x ∈ plc j o r)
  | [], o, h => by simp [plc] at h
  | c :: r, o, h => by
    rw [brun_cons]
    have hs : bstep "in" i j 2 c = if !bit c i then 2 else if bit c i && bit c j then 1 else 0 := by
      show bst "in" 2 (bit c i) (bit c j) = _
      cases bit c i <;> cases bit c j <;> decide +kernel
    rw [hs]
    cases hi : bit c i
    · simp only [plc, hi, Bool.not_false, if_true, Bool.false_eq_true, if_false] at h ⊢
      have ih := b_in (i := i) (j := j) r (o + 1) h
      rw [ih]
      refine b_within.List.all_congr_mem fun x hx => ?_
      have : x ≠ o := by have := plc_ge hx; omega
      split <;> simp [this]
    · simp only [plc, hi, if_true, List.length_cons] at h
      have e : plc i (o + 1) r = [] := List.length_eq_zero_iff.mp (by omega)
      cases hj : bit c j <;> simp only [plc, hi, hj, e, Bool.not_true, Bool.and_true, Bool.and_false, if_true, if_false, Bool.false_eq_true]
      · rw [brun_low (by decide)]; simp [aend, not_here]
      · rw [brun_low (by decide)]; simp [aend]
theorem b_same {i j : Nat} : ∀ (r : List Nat) (o : Nat), (plc i o r).length = 1 → (plc j o r).length = 1 → aend "same" (brun "same" i j 2 r) = decide (plc i o r = plc j o r)
  | [], o, h, _ => by simp [plc] at h
  | c :: r, o, h, h' => by
    rw [brun_cons]
    have hs : bstep "same" i j 2 c = if !bit c i && !bit c j then 2 else if bit c i && bit c j then 1 else 0 := by
      show bst "same" 2 (bit c i) (bit c j) = _
      cases bit c i <;> cases bit c j <;> decide +kernel
    rw [hs]
    cases hi : bit c i <;> cases hj : bit c j <;> simp only [plc, hi, hj, Bool.not_true, Bool.not_false, Bool.and_true, Bool.and_false, if_true, if_false, Bool.false_eq_true, List.length_cons] at h h' ⊢
    · exact b_same r (o + 1) h h'
    · rw [brun_low (by decide)]
      have : ¬ plc i (o + 1) r = o :: plc j (o + 1) r := fun e => not_here (k := i) (r := r) (by rw [e]; exact List.mem_cons_self)
      simp [aend, this]
    · rw [brun_low (by decide)]
      have : ¬ o :: plc i (o + 1) r = plc j (o + 1) r := fun e => not_here (k := j) (r := r) (by rw [← e]; exact List.mem_cons_self)
      simp [aend, this]
    · rw [brun_low (by decide)]
      have e1 : plc i (o + 1) r = [] := List.length_eq_zero_iff.mp (by omega)
      have e2 : plc j (o + 1) r = [] := List.length_eq_zero_iff.mp (by omega)
      simp [aend, e1, e2]
theorem hd_ge {k o : Nat} {r : List Nat} (h : (plc k o r).length = 1) : o ≤ (plc k o r).getD 0 0 := by
  match e : plc k o r, h with
  | [x], _ => exact plc_ge (k := k) (r := r) (by rw [e]; exact List.mem_cons_self)
theorem b_ahead {i j : Nat} : ∀ (r : List Nat) (o : Nat), (plc i o r).length = 1 → (plc j o r).length = 1 → aend "ahead" (brun "ahead" i j 2 r) = decide ((plc i o r).getD 0 0 < (plc j o r).getD 0 0)
  | [], o, h, _ => by simp [plc] at h
  | c :: r, o, h, h' => by
    rw [brun_cons]
    have hs : bstep "ahead" i j 2 c = if !bit c i && !bit c j then 2 else if bit c j then 0 else 1 := by
      show bst "ahead" 2 (bit c i) (bit c j) = _
      cases bit c i <;> cases bit c j <;> decide +kernel
    rw [hs]
    cases hi : bit c i <;> cases hj : bit c j <;> simp only [plc, hi, hj, Bool.not_true, Bool.not_false, Bool.and_true, Bool.and_false, if_true, if_false, Bool.false_eq_true, List.length_cons] at h h' ⊢
    · exact b_ahead r (o + 1) h h'
    · rw [brun_low (by decide)]
      have := hd_ge h
      simp only [List.getD_cons_zero]
      rw [decide_eq_false (by omega)]; rfl
    · rw [brun_low (by decide)]
      have := hd_ge h'
      simp only [List.getD_cons_zero]
      rw [decide_eq_true (by omega)]; rfl
    · rw [brun_low (by decide)]; simp [aend]
theorem b_here {i j : Nat} : ∀ (r : List Nat) (o : Nat), (plc j o r).length = 1 → aend "next" (brun "next" i j 3 r) = decide (o = (plc j o r).getD 0 0)
  | [], o, h => by simp [plc] at h
  | c :: r, o, h => by
    rw [brun_cons]
    have hs : bstep "next" i j 3 c = if bit c j then 1 else 0 := by
      show bst "next" 3 (bit c j) (bit c j) = _
      cases bit c i <;> cases bit c j <;> decide +kernel
    rw [hs]
    cases hj : bit c j <;> simp only [plc, hj, if_true, if_false, Bool.false_eq_true] at h ⊢
    · rw [brun_low (by decide)]
      have := hd_ge h
      rw [decide_eq_false (by omega)]; rfl
    · rw [brun_low (by decide)]; simp [aend]
theorem b_next {i j : Nat} : ∀ (r : List Nat) (o : Nat), (plc i o r).length = 1 → (plc j o r).length = 1 → aend "next" (brun "next" i j 2 r) = decide ((plc i o r).getD 0 0 + 1 = (plc j o r).getD 0 0)
  | [], o, h, _ => by simp [plc] at h
  | c :: r, o, h, h' => by
    rw [brun_cons]
    have hs : bstep "next" i j 2 c = if !bit c i && !bit c j then 2 else if bit c j then 0 else 3 := by
      show bst "next" 2 (bit c i) (bit c j) = _
      cases bit c i <;> cases bit c j <;> decide +kernel
    rw [hs]
    cases hi : bit c i <;> cases hj : bit c j <;> simp only [plc, hi, hj, Bool.not_true, Bool.not_false, Bool.and_true, Bool.and_false, if_true, if_false, Bool.false_eq_true, List.length_cons] at h h' ⊢
    · exact b_next r (o + 1) h h'
    · rw [brun_low (by decide)]
      have := hd_ge h
      simp only [List.getD_cons_zero]
      rw [decide_eq_false (by omega)]; rfl
    · rw [b_here r (o + 1) h']
      simp only [List.getD_cons_zero]
    · rw [brun_low (by decide)]
      simp only [List.getD_cons_zero]
      rw [decide_eq_false (by omega)]; rfl
theorem plc_filter {k : Nat} : ∀ (row : List Nat) (o : Nat), plc k o row = (((List.range row.length).filter fun x => bit (row.getD x 0) k).map (· + o))
  | [], o => rfl
  | c :: r, o => by
    rw [List.length_cons, List.range_succ_eq_map, List.filter_cons, List.filter_map]
    have ih := plc_filter (k := k) r (o + 1)
    have e : (((List.range r.length).filter ((fun x => bit ((c :: r).getD x 0) k) ∘ Nat.succ)).map Nat.succ).map (· + o) = plc k (o + 1) r := by
      rw [ih, List.map_map]
      refine (List.map_congr_left fun x _ => ?_).trans rfl
      show x + 1 + o = x + (o + 1)
      omega
    show plc k o (c :: r) = _
    unfold plc
    rw [List.getD_cons_zero]
    cases h : bit c k
    · simp only [Bool.false_eq_true, if_false]; exact e.symm
    · simp only [if_true, List.map_cons, Nat.zero_add]; rw [e]
def wth (row : List Nat) (k : Nat) : List Nat := (List.range row.length).filter fun x => bit (row.getD x 0) k
theorem plc_wth {k : Nat} (row : List Nat) : plc k 0 row = wth row k := by
  rw [plc_filter]
  show List.map (fun x => x + 0) _ = _
  simp [wth]
theorem plc_len {k : Nat} : ∀ (row : List Nat) (o : Nat), (plc k o row).length = (row.filter fun c => bit c k).length
  | [], o => rfl
  | c :: r, o => by
    unfold plc
    rw [List.filter_cons]
    cases bit c k <;> simp [plc_len r (o + 1)]
def due (wd : Str) (p q : List Nat) : Bool := if wd = "in" ∨ wd = "within" then p.all fun x => decide (x ∈ q) else if wd = "same" then decide (p = q) else if wd = "ahead" then decide (p.getD 0 0 < q.getD 0 0) else decide (p.getD 0 0 + 1 = q.getD 0 0)
theorem b_due {wd : Str} {i j : Nat} {row : List Nat} (hw : wd ∈ rowWords) (h1 : wd ≠ "within" → (wth row i).length = 1) (h2 : wd ≠ "within" → wd ≠ "in" → (wth row j).length = 1) : aend wd (brun wd i j 2 row) = due wd (wth row i) (wth row j) := by
  rw [← plc_wth, ← plc_wth] at *
  simp only [rowWords, List.mem_cons, List.not_mem_nil, or_false] at hw
  rcases hw with rfl | rfl | rfl | rfl | rfl
  · exact (b_in row 0 (h1 (by decide))).trans (by unfold due; rw [if_pos (by decide)])
  · exact (b_same row 0 (h1 (by decide)) (h2 (by decide) (by decide))).trans (by unfold due; rw [if_neg (by decide), if_pos rfl])
  · exact (b_within row 0).trans (by unfold due; rw [if_pos (by decide)])
  · exact (b_ahead row 0 (h1 (by decide)) (h2 (by decide) (by decide))).trans (by unfold due; rw [if_neg (by decide), if_neg (by decide), if_pos rfl])
  · exact (b_next row 0 (h1 (by decide)) (h2 (by decide) (by decide))).trans (by unfold due; rw [if_neg (by decide), if_neg (by decide), if_neg (by decide)])
end SM
namespace L2
open PySem PySem.Spec PyProof.Rows
def Itr3 (lo c : Int) (n : Nat) : It := ⟨fun i _ => i < n, fun i H x H' => H' = H ∧ x = .int (lo + i * c), fun i _ => n ≤ i⟩
theorem turn_range3 {P : Program} {w : World} {K : PySem.W.Frag} {tg : Expr} (it : Addr) (lo c : Int) (n : Nat) : Turn P w K tg (Itr3 lo c n) [it] it (fun i h => IsRangeIter h it (lo + (i : Nat) * c) ((n : Int) - (i : Nat)) c) where
  mem := by simp
  obj := fun i h st b hb => by
    have e : b = it := by simpa using hb
    subst e
    exact ⟨_, st, fun v z => by
      have z' : Data.fields _ = Data.cell v := z
      cases z'⟩
  keep := fun i h h' st k => k it (by simp) _ st
  item := by
    intro X hP hw hK hc i pins s σ H E I hf st hg
    subst hP hw hK
    obtain ⟨f0, f1, f2, f3, f4, f5⟩ := hf it (by simp)
    have W := Walks.range (prog := X.prog) (w := X.w) (I.ok.hd hc) it lo c n
    refine W.item i s _ _ hg st fun v h' tk hv st' kk => ?_
    obtain ⟨t, rfl⟩ := hv
    have I1 : Inv X pins σ H { s with heap := h', toks := tk } := I.turned (fun b o hb e => kk b o (by simpa using hb) e) f0 f1 f3 f4 f5
    exact ⟨_, rfl, go_of (s := { s with heap := h', toks := tk }) (n := "range_iterator") st' rfl rfl (by decide) ⟨.int (lo + i * c), H, I1, ⟨t, rfl⟩, ⟨rfl, rfl⟩, st', fun b hb => (hf b hb).1⟩⟩
  done := by
    intro X hP hw hK hc i pins s σ H E I hf st hg
    subst hP hw hK
    obtain ⟨f0, f1, f2, f3, f4, f5⟩ := hf it (by simp)
    exact wpAny_pyNext_range_end (I.ok.hd hc) st (by have : n ≤ i := hg; omega) fun h' eb => ⟨rfl, I.turned (t' := s.toks) (fun b o hb e => eb b o hb e) f0 f1 f3 f4 f5⟩
  self := fun _ _ _ _ _ st h => wpAny_pyIter_rangeiter st h
def iRng3 (ta : TA) : TI := fun σ H R => ta σ H fun vs H1 => ∃ i j c : Int, vs = [.int i, .int j, .int c] ∧ c ≠ 0 ∧ Builtin.Range.small i j c = true ∧ (j - i).natAbs < 1000 ∧ c.natAbs < 1000 ∧ 0 ≤ Builtin.Range.rangeSize i j c ∧ R (Itr3 i c (Builtin.Range.rangeSize i j c).toNat) H1
theorem pi_range3 {X : Cx} {tg a b c : Expr} {ta : TA} {p pos : Pos} (hg : Gl X "range") (hm : X.mg "range" = none) (ha : PA X [a, b, c] ta) (h1 : notStar a = true := by rfl) (h2 : notStar b = true := by rfl) (h3 : notStar c = true := by rfl) :
    PI X tg (.Call (.Name "range" p) [a, b, c] [] pos) (iRng3 ta) := by
  intro pins s σ H R I h
  have hs3 : starEach [c] X.env = [(false, eval c X.env)] := by rw [star_cons h3, starEach.eq_def]
  have hs2 : starEach [b, c] X.env = [(false, eval b X.env), (false, eval c X.env)] := by rw [star_cons h2, hs3]
  have hs : starEach [a, b, c] X.env = [(false, eval a X.env), (false, eval b X.env), (false, eval c X.env)] := by rw [star_cons h1, hs2]
  refine Call_ (ld_blt I hg hm boot_range (PyProof.Rows.callWith_type1 (thn (ha pos pins s σ H _ I h) fun us s1 ⟨vs, H1, I1, r1, q1⟩ => ?_) (by rw [hs, hs2]) (by rw [hs2]; rfl)))
  obtain ⟨i, j, k, e, hk0, hsm, hz, hz2, hnn, q⟩ := q1
  subst e
  cases r1 with
  | cons r rr =>
    cases rr with
    | cons r' rr =>
      cases rr with
      | cons r'' rr =>
        cases rr
        obtain ⟨t, rfl⟩ := r
        obtain ⟨t', rfl⟩ := r'
        obtain ⟨t'', rfl⟩ := r''
        refine PySem.call_range_3 hk0 ?_ (.inl (PyProof.noPylong_small (by omega)))
        refine wpAny_pyIter_range (IsRange.new ..) hsm ?_
        have I2 : Inv X pins σ H1 { s1 with heap := s1.heap.push { cls := .type "range", data := .fields #[.int i t, .int j t', .int k t''] }, toks := s1.toks } := I1.kept fun b o e => Heap.get?_push_of_some _ e
        refine ⟨(s1.heap.push { cls := .type "range", data := .fields #[.int i t, .int j t', .int k t''] }).objs.size, [(s1.heap.push { cls := .type "range", data := .fields #[.int i t, .int j t', .int k t''] }).objs.size], _, _, H1, rfl,
          I2.kept (t' := s1.toks) fun b o e => Heap.get?_push_of_some _ e, turn_range3 _ i k (Builtin.Range.rangeSize i j k).toNat, ?_, fun b hb => ?_, q⟩
        · have e1 : i + ((0 : Nat) : Int) * k = i := by simp
          have e2 : (((Builtin.Range.rangeSize i j k).toNat : Nat) : Int) - ((0 : Nat) : Int) = Builtin.Range.rangeSize i j k := by omega
          show IsRangeIter _ _ (i + ((0 : Nat) : Int) * k) ((((Builtin.Range.rangeSize i j k).toNat : Nat) : Int) - ((0 : Nat) : Int)) k
          rw [e1, e2]
          exact Heap.get?_push_size _ rfl
        · have e : b = (s1.heap.push { cls := .type "range", data := .fields #[.int i t, .int j t', .int k t''] }).objs.size := by simpa using hb
          subst e
          exact I2.fpOk (Nat.le_refl _) (I2.hok.fresh (Nat.le_refl _))
theorem fb_range3 {lo c : Int} {n : Nat} {g : TG} {tb : TS} {D : Ends} {σ0 : St} {H1 : Hp} (Pv : Nat → St → Hp → Prop) (h0 : Pv 0 σ0 H1)
    (hs : ∀ i σ H, i < n → Pv i σ H → g (.int (lo + i * c)) σ H fun σ2 H2 => tb { D with nx := Pv (i + 1), ct := Pv (i + 1), bk := D.nx } σ2 H2) (hd : ∀ σ H, Pv n σ H → D.nx σ H) : fBody g tb D σ0 (Itr3 lo c n) H1 := by
  refine ⟨fun i m σ H => m = n - i ∧ i ≤ n ∧ Pv i σ H, ⟨n, by simp, Nat.zero_le _, h0⟩, ?_⟩
  rintro i m σ H ⟨rfl, hi, p⟩
  by_cases hlt : i < n
  · refine .inr ⟨hlt, Pv (i + 1), fun σ' H' p' => ⟨n - (i + 1), by omega, rfl, hlt, p'⟩, fun x H' y => ?_⟩
    obtain ⟨rfl, rfl⟩ := y
    exact hs i σ H' hlt p
  · have e : i = n := by omega
    subst e
    exact .inl ⟨Nat.le_refl _, hd σ H p⟩
section
variable {X : Cx} {k : Nat} {H : Hp} {x y : V} {a b : Addr} {xs ys : List V}
theorem neok_lists (hx : SqL X.K H a xs) (hy : SqL X.K H b ys) (hl : xs.length = ys.length) (e : Nat → Bool) (he : ∀ j (h1 : j < xs.length) (h2 : j < ys.length), EqOk X k H xs[j] ys[j] (e j)) :
    NeOk X (k + 1) H (.ref a) (.ref b) (!(List.range xs.length).all e) := fun pins σ s A u v hu I rx ry => by
  cases (show u = Value.ref a from rx)
  cases (show v = Value.ref b from ry)
  obtain ⟨us, r1, p1, _⟩ := I.list hx
  obtain ⟨vs, r2, p2, _⟩ := I.list hy
  have l1 := r1.length
  have l2 := r2.length
  have q := SeqAt.RcNeAt.lists (A := A) (e := e) p1.isList p2.isList (by rw [List.size_toArray, List.size_toArray]; omega) (by omega) fun j h1 h2 => by
    rw [List.size_toArray] at h1 h2
    obtain ⟨g1, q1⟩ := r1.at h1
    obtain ⟨g2, q2⟩ := r2.at h2
    exact he j g1 g2 pins σ s A.in1 _ _ (by show A.units + 1 + k < cLine; omega) I (by simpa using q1) (by simpa using q2)
  rw [List.size_toArray, ← l1] at q
  exact q
end
structure DfnM (K : PySem.W.Frag) (C : Addr) (m q : Str) (st : Stmt) (ps : List Str) : Prop where
  ex : ∃ f fd, Fun K m q st f fd ∧ Binds K fd ps [] ∧ Meth K C m f
structure CalM (P : Program) (w : World) (K : PySem.W.Frag) (mg : Str → Option Value) (base : Heap) (n : Nat) (C : Addr) (m : Str) (ps : List Str) (sp : Sp) : Prop where
  ex : ∃ f fd, FnOk P w K mg base CX0 n f fd ps sp ∧ Binds K fd ps [] ∧ Meth K C m f
structure DfnI (K : PySem.W.Frag) (C : Addr) (q : Str) (st : Stmt) (ps : List Str) : Prop where
  ex : ∃ f fd, Fun K "__init__" q st f fd ∧ Binds K fd ps [] ∧ Mk K C f
structure CalI (P : Program) (w : World) (K : PySem.W.Frag) (mg : Str → Option Value) (base : Heap) (n : Nat) (C : Addr) (x : Str) (ps : List Str) (sp : Sp) : Prop where
  ex : ∃ f fd, FnOk P w K mg base CX0 n f fd ps sp ∧ Binds K fd ps [] ∧ Mk K C f
  mg : mg x = some (.ref C)
section
variable {P : Program} {w : World} {K : PySem.W.Frag} {mg : Str → Option Value} {base : Heap} {C : Addr}
theorem DfnM.cal {m q : Str} {st : Stmt} {N ps : List Str} {k : Nat} {sp : Sp} (d : DfnM K C m q st ps) (S : FnScope N ps (defScope st)) (len : ∀ vs H Q E, sp vs H Q E → vs.length = ps.length)
    (hbody : ∀ (f : Addr) (cdv : Value) (A : Around) (outer : List Env) (s : Shared) (H : Hp) (vs : List V) (Q : VK) (E : XK), Room k (A.deeper (envOfC q (defScope st) s.heap.objs.size f cdv)) → sp vs H Q E →
      ∃ t, PSs (cxOf CX0 P w K mg base N q (defScope st) f cdv A outer s H E).nox (defBody st) t ∧ t { nx := fun _ H' => Q .non H', rt := Q } (start N vs) H) : CalM P w K mg base (k + 1) C m ps sp := by
  obtain ⟨f, fd, F, b, M⟩ := d.ex
  exact ⟨f, fd, F.ok S len (hbody f), b, M⟩
theorem DfnI.cal {q x : Str} {st : Stmt} {N ps : List Str} {k : Nat} {sp : Sp} (d : DfnI K C q st ps) (hm : mg x = some (.ref C)) (S : FnScope N ps (defScope st)) (len : ∀ vs H Q E, sp vs H Q E → vs.length = ps.length)
    (hbody : ∀ (f : Addr) (cdv : Value) (A : Around) (outer : List Env) (s : Shared) (H : Hp) (vs : List V) (Q : VK) (E : XK), Room k (A.deeper (envOfC q (defScope st) s.heap.objs.size f cdv)) → sp vs H Q E →
      ∃ t, PSs (cxOf CX0 P w K mg base N q (defScope st) f cdv A outer s H E).nox (defBody st) t ∧ t { nx := fun _ H' => Q .non H', rt := Q } (start N vs) H) : CalI P w K mg base (k + 1) C x ps sp := by
  obtain ⟨f, fd, F, b, M⟩ := d.ex
  exact ⟨⟨f, fd, F.ok S len (hbody f), b, M⟩, hm⟩
end
section
variable {X : Cx} {C : Addr} {n k : Nat} {m x : Str} {ps : List Str} {sp : Sp} {p pos apos : Pos} {o e : Expr} {es : List Expr} {ta : TE} {t : TA}
theorem pe_methC {pl : Sem Bool} (M : CalM X.prog X.w X.K X.mg X.base n C m ps sp) (c : Cls X.K C) (hr : Room k X.A) (hle : n ≤ k) (he : PE X o ta) (ha : PA X (e :: es) t)
    (h1 : notStar e = true := by rfl) (h2 : es.all notStar = true := by rfl)
    (ht : eval (.Call (.Attribute o m apos) (e :: es) [] pos) X.env = (do
      let ov ← eval o X.env
      standAt apos.atName
      let (f, first) ← holding [ov] (getMethod ov m pl)
      callWith pos f first (backTo pos (starEach (e :: es) X.env)) (backToKw pos (keywordEach [] X.env))) := by rfl) :
    PE X (.Call (.Attribute o m apos) (e :: es) [] pos) (tMeth C m sp [] E0 ta t) := by
  obtain ⟨f, fd, F, b, hm⟩ := M.ex
  exact pe_meth (pl := pl) he c hm F (hr.mono hle) b .nil pass0 ha (star_cons h1) (star_any h2) ht
theorem pe_makeC (M : CalI X.prog X.w X.K X.mg X.base n C x ps sp) (hr : Room k X.A) (hle : n + 1 ≤ k) (hg : Gl X x) (hdb : (x == ("__debug__" : Str)) = false := by decide) : PE X (.Call (.Name x p) [] [] pos) (tMake C sp [] E0 tNil) := by
  obtain ⟨f, fd, F, b, hm⟩ := M.ex
  exact pe_make0 hm F (hr.mono hle) hg M.mg b .nil pass0 hdb
end
theorem idx_le : ∀ (zs : List Str) (m : Nat) (h : m < zs.length), zs.idxOf zs[m] ≤ m
  | y :: r, 0, h => by simp
  | y :: r, m + 1, h => by
    rw [List.idxOf_cons]
    have := idx_le r m (by simpa using h)
    cases (y == (y :: r)[m + 1])
    · simp only [cond_false, List.getElem_cons_succ]; omega
    · simp
def rIndexT (K : PySem.W.Frag) : V → List V → Hp → VK → Prop := fun x vs H Q => ∃ (p : Addr) (zs : List Str) (z : Str), x = .ref p ∧ vs = [.str z] ∧ SqL K H p (zs.map V.str) ∧ z ∈ zs ∧ zs.length ≤ 1000 ∧ Q (.int ((zs.idxOf z : Nat) : Int)) H
theorem mt_indexT {X : Cx} (hu : X.A.units + 8 < cLine) : MtR X "list.index" (rIndexT X.K) := by
  intro pins s σ H x xs v us Q I rx rs h
  obtain ⟨p, zs, z, rfl, rfl, hx, hk, hz, q⟩ := h
  cases rx
  obtain ⟨u, rfl, t, rfl⟩ := vals1 rs
  obtain ⟨vs, rv, pl, _⟩ := I.list hx
  have hlen := rv.length
  rw [List.length_map] at hlen
  have hv : ∀ (i : Nat) (hi : i < zs.length), ∃ (h : i < vs.length) (t : Tok), vs[i] = .str zs[i] t := fun i hi => by
    obtain ⟨h', y⟩ := rv.at (j := i) (by omega)
    rw [List.getElem_map] at y
    obtain ⟨t, e⟩ := (show ∃ t, vs[i] = Value.str zs[i] t from y)
    exact ⟨by omega, t, e⟩
  obtain ⟨⟨cls, dd, data, sl⟩, ho, hc, n, hd⟩ := pl.isList
  simp only at hc hd
  subst hc hd
  have hj : zs.idxOf z < zs.length := List.idxOf_lt_length_iff.mpr hk
  let e' : Value → Bool := fun | .str b _ => decide (b = z) | _ => false
  refine call_meets PySem.F.slot_list_index ⟨_, ho, rfl⟩ PySem.F.entry_list_index (PySem.F.args_list_index_2 _ _)
    (SeqAt.list_indexAt p vs.toArray n dd sl (.str z t) e' (zs.idxOf z) (by simp; omega) (by omega) ?_ ?_) ⟨ho, fun y hy => ?_, ?_⟩
  · obtain ⟨h, t', e⟩ := hv _ hj
    show e' vs[zs.idxOf z] = true
    rw [e]
    exact decide_eq_true (List.getElem_idxOf hj)
  · intro m hm hlt
    have hm' : m < zs.length := by simp at hm; omega
    obtain ⟨h, t', e⟩ := hv m hm'
    show e' vs[m] = false
    rw [e]
    refine decide_eq_false fun c => ?_
    have h2 : zs.idxOf z ≤ m := by
      rw [← c]
      exact idx_le zs m hm'
    omega
  · obtain ⟨i, hi, rfl⟩ := List.getElem_of_mem (show y ∈ vs by simpa using hy)
    obtain ⟨h, t', e⟩ := hv i (by omega)
    rw [e]
    exact eqok_flat (X := X) (k := 0) (H := H) (x := .str zs[i]) (y := .str z) rfl rfl pins σ s X.A.in1 _ _ (by show X.A.units + 1 + 0 < cLine; omega) I ⟨t', rfl⟩ ⟨t, rfl⟩
  · exact ⟨.int _, H, I.tok _, ⟨_, rfl⟩, q⟩
theorem mt_indexTK {X : Cx} (K : PySem.W.Frag) (hu : X.A.units + 8 < cLine) (h : X.K = K := by rfl) : MtR X "list.index" (rIndexT K) := h ▸ mt_indexT hu
section
variable {K : PySem.W.Frag} {C : Addr}
theorem dfnm_mk {m q : Str} {st : Stmt} {ps : List Str} {f : Addr} {oc : Value} {od an : Option Addr} {osl : Array (Option Value)} {kV doc pm cdv ct : Value} (a : PySem.W.findIn K (.ref C) m = some (some (.ref f))) (i : PySem.W.isFn K (.ref f) = true)
    (l : K.lookup f = some ⟨oc, od, .func (PySem.W.fnOf m q (defArgs st) (defBody st) (defScope st) .none kV doc pm an cdv ct), osl⟩) (c : PySem.W.codeIn K cdv q = true) (k : PySem.W.keepIn K (.ref f) = true)
    (hb : ∀ (kV doc pm : Value) (an : Option Addr) (cdv ct : Value) (us : List Value), us.length = ps.length → bindArgs (PySem.W.fnOf m q (defArgs st) (defBody st) (defScope st) .none kV doc pm an cdv ct) ⟨us, []⟩ = pure (ps.zip us)) : DfnM K C m q st ps :=
  ⟨f, _, fun_mk l c k, (fun_mk l c k).binds hb, ⟨a, i, k⟩⟩
theorem dfni_mk {q : Str} {st : Stmt} {ps : List Str} {f : Addr} {oc : Value} {od an : Option Addr} {osl : Array (Option Value)} {kV doc pm cdv ct : Value} (mk : PySem.W.makesIn K C = true) (a : PySem.W.findIn K (.ref C) "__init__" = some (some (.ref f))) (i : PySem.W.isFn K (.ref f) = true) (kc : PySem.W.keepIn K (.ref C) = true)
    (l : K.lookup f = some ⟨oc, od, .func (PySem.W.fnOf "__init__" q (defArgs st) (defBody st) (defScope st) .none kV doc pm an cdv ct), osl⟩) (c : PySem.W.codeIn K cdv q = true) (k : PySem.W.keepIn K (.ref f) = true)
    (hb : ∀ (kV doc pm : Value) (an : Option Addr) (cdv ct : Value) (us : List Value), us.length = ps.length → bindArgs (PySem.W.fnOf "__init__" q (defArgs st) (defBody st) (defScope st) .none kV doc pm an cdv ct) ⟨us, []⟩ = pure (ps.zip us)) : DfnI K C q st ps :=
  ⟨f, _, fun_mk l c k, (fun_mk l c k).binds hb, ⟨mk, a, i, kc⟩⟩
theorem noattr_mk {f : Str} (h : PySem.W.findIn K (.ref C) f = some none) : NoAttr K C f := h
end
section
variable {prog : Program} {w : World} {A : Around} {E : Value → Shared → Prop}
theorem drawn_list {it l : Addr} {its : Array Value} (ne : l ≠ it) : ∀ (n i : Nat) (s : Shared) (Q : List Value → Shared → Prop), s.heap.IsListIter it l i → s.heap.IsList l its → i + n ≤ its.size →
    (∀ h', h'.IsListIter it l (i + n) → Heap.SameBut it s.heap h' → Q ((its.toList.drop i).take n) { s with heap := h' }) → wpAny (model prog w) A (draw (.ref it) n) Q E s := by
  intro n
  induction n with
  | zero => exact fun i s Q st _ _ q => wpAny_pure (by simpa using q s.heap st (.refl ..))
  | succ n ih =>
    intro i s Q st hl le q
    have lt : i < its.size := by omega
    have e1 : its.toList.drop i = its[i] :: its.toList.drop (i + 1) := by rw [List.drop_eq_getElem_cons (by simpa using lt), Array.getElem_toList]
    show wpAny _ _ (pyNext (.ref it) >>= fun _ => _) Q E s
    refine wpAny_bind (wpAny_pyNext_list_item st hl (Array.getElem?_eq_getElem lt) fun h1 st1 k1 => wpAny_bind (wpAny_holding ?_))
    refine ih (i + 1) { s with heap := h1 } _ st1 (hl.extBut k1.extBut ne) (by omega) fun h2 st2 k2 => wpAny_pure ?_
    have z := q h2 (by rw [Nat.add_comm n 1, ← Nat.add_assoc]; exact st2) (k1.trans k2)
    rwa [e1, List.take_succ_cons] at z
theorem items_list {l : Addr} {its : Array Value} {s : Shared} {Q : List Value → Shared → Prop} (hh : A.handled = none) (hl : s.heap.IsList l its)
    (q : ∀ h', Heap.ExtBut s.heap.objs.size s.heap h' → Q its.toList { s with heap := h' }) : wpAny (model prog w) A (unpackItems (.ref l) its.size none) Q E s := by
  have ne : l ≠ s.heap.objs.size := by
    obtain ⟨o, ho, _⟩ := hl
    exact Nat.ne_of_lt (Heap.lt_size ho)
  unfold unpackItems notIterableAtAll
  refine wpAny_bind (wpAny_bind (wpAny_specialOf hl.typeIs slot_list_iter.lookup (wpAny_pure ?_)))
  simp only [if_false, Bool.false_eq_true]
  refine wpAny_bind (wpAny_holding (wpAny_pyIter_list hl (wpAny_bind (wpAny_holding ?_))))
  refine drawn_list ne its.size 0 _ _ ⟨_, Heap.get?_push_size _ rfl, rfl, rfl⟩ (hl.push _) (by omega) fun h1 st1 k1 => ?_
  rw [List.drop_zero, List.take_of_length_le (Nat.le_of_eq (Array.length_toList)), if_neg (by simp)]
  refine wpAny_bind (wpAny_holding (wpAny_pyNext_list_end hh st1 ((hl.push _).extBut k1.extBut ne) (Array.getElem?_eq_none (by omega)) fun h2 k2 => ?_))
  simp only [if_false, Bool.false_eq_true, Option.isSome_none]
  exact wpAny_pure (q h2 fun b o nb e => k2 b o nb (k1.extBut b o nb (Heap.get?_push_of_some _ e)))
theorem assign_list {env : Env} {elts : List Expr} {k : Nat} {pos : Pos} {l : Addr} {its : Array Value} {s : Shared} {Q : Unit → Shared → Prop} (hh : A.handled = none) (hl : s.heap.IsList l its)
    (hn : (assignEach elts env).length = its.size) (hst : (assignEach elts env).findIdx? (·.1) = none)
    (q : ∀ h', Heap.ExtBut s.heap.objs.size s.heap h' → wpAny (model prog w) A (assignInOrder ((assignEach elts env).map (·.2)) its.toList) Q E { s with heap := h' }) :
    wpAny (model prog w) A (assign (.Tuple elts k pos) env (.ref l)) Q E s := by
  rw [arm_assign_Tuple]
  refine wpAny_bind (wpAny_standAt ?_)
  unfold unpack
  rw [hn, hst]
  exact wpAny_bind (wpAny_holding (items_list hh hl q))
end
def gLst (K : PySem.W.Frag) (n : Nat) (t : TGs) : TG := fun v σ H Q => ∃ a xs, v = .ref a ∧ SqL K H a xs ∧ xs.length = n ∧ t xs σ H Q
theorem pg_lst {X : Cx} (K : PySem.W.Frag) {es : List Expr} {k : Nat} {t : TGs} {n : Nat} {pos : Pos} (hc : X.calm = true) (h : PGs X es t) (hK : X.K = K := by rfl)
    (hn : (assignEach es X.env).length = n := by rfl) (hst : (assignEach es X.env).findIdx? (·.1) = none := by rfl) : PG X (.Tuple es k pos) (gLst K n t) := by
  subst hK
  intro pins s σ H v u Q I r hw
  obtain ⟨a, xs, e1, hq, hl, hw⟩ := hw
  subst e1
  cases r
  obtain ⟨its, rv, pl, hz⟩ := I.list hq
  have ls : its.length = n := by rw [← rv.length]; exact hl
  refine assign_list (I.ok.hd hc) pl.isList (by rw [hn, List.size_toArray, ls]) hst fun h' hx => ?_
  have I1 : Inv X pins σ H { s with heap := h' } := I.kept (t' := s.toks) fun b o e => hx b o (Nat.ne_of_lt (Heap.lt_size e)) e
  exact h pins _ σ H xs _ Q I1 rv hw
end L2
namespace SM
structure Thg where
  w : Nat
  step : List Nat → List (List Nat)
  fin : List Nat → Bool
section
variable {T : Thg} {G : List Nat → Prop} {first : List Nat} {fs : List (List Nat)}
theorem idx_of_mem {α : Type} [DecidableEq α] : ∀ {xs : List α} {x : α}, x ∈ xs → xs[nOf xs x]? = some x
  | y :: ys, x, h => by
    by_cases e : y = x
    · subst e; simp [nOf]
    · have h' : x ∈ ys := by
        rcases List.mem_cons.mp h with z | z
        · exact absurd z.symm e
        · exact z
      show (y :: ys)[List.idxOf x (y :: ys)]? = some x
      rw [List.idxOf_cons, show (y == x) = false by simp [e], cond_false, List.getElem?_cons_succ]
      exact idx_of_mem h'
end
open PySem PySem.Spec PyProof.Rows L2 SS
theorem band_bit {c a : Nat} (hc : c < 32) (ha : a ≤ 4) : (!decide (Builtin.bitAnd (c : Int) ((2 ^ a : Nat) : Int) = 0)) = bit c a := by
  have h : ∀ (c : Fin 32) (a : Fin 5), (!decide (Builtin.bitAnd ((c : Nat) : Int) ((2 ^ (a : Nat) : Nat) : Int) = 0)) = bit c a := by decide +kernel
  exact h ⟨c, hc⟩ ⟨a, by omega⟩
def noK : List Key := [.inr "no"]
def yesK : List Key := [.inr "yes"]
def frmK (wd : Str) (i j : Nat) : List Key := [.inr wd, .inl ((2 ^ i : Nat) : Int), .inl ((2 ^ j : Nat) : Int)]
def FLine (H : Hp) (v : V) (k : List Key) : Prop := ∃ a, v = .ref a ∧ H a = some (.tup (k.map kV))
theorem FLine.ts {H H' : Hp} {v : V} {k : List Key} (h : FLine H v k) (g : TupS H H') : FLine H' v k := let ⟨a, e, h⟩ := h; ⟨a, e, g _ _ h⟩
structure Lf (C : Addr) (H0 H : Hp) (p : Addr) (rest : List (List Key)) (sts : List (List Key × V)) : Prop where
  ex : ∃ (dx pf pn ps : Addr) (rs : List V), H p = some (.ins C dx [("forms", .ref pf), ("numbers", .ref pn), ("steps", .ref ps)]) ∧ H0 pf = none ∧ H0 pn = none ∧ H0 ps = none ∧ pn ≠ ps ∧ H pf = some (.lst rs) ∧ Paired (FLine H) rs (noK :: yesK :: rest) ∧ H pn = some (.dT (tabF id 2 rest)) ∧ H ps = some (.dT sts)
  g : Same H0 H
abbrev fl3 (x y z : V) : List (Str × V) := [("forms", x), ("numbers", y), ("steps", z)]
theorem fl_skip {f g : Str} {v : V} {r : List (Str × V)} (h : (f == g) = false) : List.lookup f ((g, v) :: r) = List.lookup f r := by simp only [List.lookup, h]
theorem fl_hit {f : Str} {v : V} {r : List (Str × V)} : List.lookup f ((f, v) :: r) = some v := by simp only [List.lookup, BEq.rfl]
theorem fl_forms {x y z : V} : List.lookup ("forms" : Str) (fl3 x y z) = some x := fl_hit
theorem fl_numbers {x y z : V} : List.lookup ("numbers" : Str) (fl3 x y z) = some y := (fl_skip (by decide)).trans fl_hit
theorem fl_steps {x y z : V} : List.lookup ("steps" : Str) (fl3 x y z) = some z := (fl_skip (by decide)).trans ((fl_skip (by decide)).trans fl_hit)
theorem fl_none {f : Str} {x y z : V} (h1 : (f == ("forms" : Str)) = false) (h2 : (f == ("numbers" : Str)) = false) (h3 : (f == ("steps" : Str)) = false) : List.lookup f (fl3 x y z) = none := (fl_skip h1).trans ((fl_skip h2).trans ((fl_skip h3).trans rfl))
theorem fl_put (x y z : V) : putF "steps" z (putF "numbers" y (putF "forms" x [])) = fl3 x y z := by
  show putF "steps" z (putF "numbers" y [("forms", x)]) = _
  have e1 : putF "numbers" y [("forms", x)] = ([("forms", x), ("numbers", y)] : List (Str × V)) := by
    show (if ("forms" : Str) = "numbers" then _ else _) = _
    rw [if_neg (by decide)]; rfl
  rw [e1]
  show (if ("forms" : Str) = "steps" then _ else _ :: (if ("numbers" : Str) = "steps" then _ else _ :: _)) = _
  rw [if_neg (by decide), if_neg (by decide)]; rfl
theorem Lf.more {C : Addr} {H0 H H' : Hp} {p : Addr} {rest : List (List Key)} {sts : List (List Key × V)} (h : Lf C H0 H p rest sts) (g : Same H H') : Lf C H0 H' p rest sts := by
  obtain ⟨⟨dx, pf, pn, ps, rs, e1, e2, e3, e4, e5, e6, e7, e8, e9⟩, g0⟩ := h
  exact ⟨⟨dx, pf, pn, ps, rs, g _ _ e1, e2, e3, e4, e5, g _ _ e6, L2.Paired.mapP e7 fun _ _ z => z.ts g.tups, g _ _ e8, g _ _ e9⟩, g0.trans g⟩
theorem nOf_one (k : List Key) : nOf (nxt [] k) k = 0 := by
  rw [nxt_out (by simp)]
  unfold nOf
  simp
theorem id_inj {α : Type} : ∀ a b : α, id a = id b → a = b := fun _ _ e => e
theorem Lf.form {C : Addr} {H0 H : Hp} {p : Addr} {rest : List (List Key)} {sts : List (List Key × V)} (L : Lf C H0 H p rest sts) {l : Nat} {k : List Key} (h : (noK :: yesK :: rest)[l]? = some k) :
    ∃ (dx pf pn ps : Addr) (rs : List V) (b : Addr), H p = some (.ins C dx (fl3 (.ref pf) (.ref pn) (.ref ps))) ∧ H pf = some (.lst rs) ∧ rs[l]? = some (.ref b) ∧ H b = some (.tup (k.map kV)) := by
  obtain ⟨⟨dx, pf, pn, ps, rs, e1, z2, z3, z4, ne, e6, e7, e8, e9⟩, g0⟩ := L
  obtain ⟨v, ev, b, rfl, eb⟩ := Paired.at2 e7 h
  exact ⟨dx, pf, pn, ps, rs, b, e1, e6, ev, eb⟩
def FR (wd : Str) (i j : Nat) (rest : List (List Key)) : Prop := rest = [frmK wd i j] ∨ rest = [frmK wd i j, frmK "here" j j]
theorem FR.len {wd : Str} {i j : Nat} {rest : List (List Key)} (h : FR wd i j rest) : 1 ≤ rest.length ∧ rest.length ≤ 2 := by rcases h with rfl | rfl <;> simp
theorem FR.two {wd : Str} {i j l : Nat} {rest : List (List Key)} (h : FR wd i j rest) (h2 : 2 ≤ l) (hl : l < 2 + rest.length) : (l = 2 ∧ (noK :: yesK :: rest)[l]? = some (frmK wd i j)) ∨ (l = 3 ∧ (noK :: yesK :: rest)[l]? = some (frmK "here" j j)) := by
  rcases h with rfl | rfl
  · simp only [List.length_cons, List.length_nil] at hl
    obtain rfl : l = 2 := by omega
    exact .inl ⟨rfl, rfl⟩
  · simp only [List.length_cons, List.length_nil] at hl
    rcases (show l = 2 ∨ l = 3 by omega) with rfl | rfl
    · exact .inl ⟨rfl, rfl⟩
    · exact .inr ⟨rfl, rfl⟩
theorem FR.here {i j : Nat} {rest : List (List Key)} (h : FR "next" i j rest) : nxt rest (frmK "here" j j) = [frmK "next" i j, frmK "here" j j] ∧ nOf (nxt rest (frmK "here" j j)) (frmK "here" j j) = 1 := by
  have ne : ¬ frmK "next" i j = frmK "here" j j := fun e => by
    have := List.head_eq_of_cons_eq e
    exact absurd (Sum.inr.inj this) (by decide)
  have e : nxt rest (frmK "here" j j) = [frmK "next" i j, frmK "here" j j] := by
    rcases h with rfl | rfl
    · rw [nxt_out (by simpa using fun z => ne z.symm)]; rfl
    · rw [nxt_in (by simp)]
  rw [e]
  refine ⟨rfl, ?_⟩
  have z := idx_of_mem (xs := [frmK "next" i j, frmK "here" j j]) (x := frmK "here" j j) (by simp)
  match e : nOf [frmK "next" i j, frmK "here" j j] (frmK "here" j j) with
  | 0 => rw [e] at z; exact absurd (Option.some.inj z) ne
  | 1 => rfl
  | n + 2 => rw [e] at z; cases z
def StK (wd : Str) (i j : Nat) (rest : List (List Key)) (sts : List (List Key × V)) : Prop := ∀ l c v, valV sts [.inl ((l : Nat) : Int), .inl ((c : Nat) : Int)] = some v → v = nV (bstep wd i j l c) ∧ bstep wd i j l c < 2 + rest.length
def sp_linit (C : Addr) : Sp := fun vs H Q _ => ∃ (p dx : Addr) (H0 : Hp), vs = [.ref p] ∧ H = upd (upd H0 dx (.own p)) p (.ins C dx []) ∧ H0 p = none ∧ H0 dx = none ∧ dx ≠ p ∧ ∀ H', Lf C H0 H' p [] [] → Q .non H'
def sp_lnum (C : Addr) : Sp := fun vs H Q _ => ∃ (p a : Addr) (H0 : Hp) (rest : List (List Key)) (sts : List (List Key × V)) (k : List Key), vs = [.ref p, .ref a] ∧ Lf C H0 H p rest sts ∧ rest.length ≤ 10 ∧ H a = some (.tup (k.map kV)) ∧ ∀ H', TupS H H' → Lf C H0 H' p (nxt rest k) sts → Q (nV (2 + nOf (nxt rest k) k)) H'
def sp_bitof : Sp := fun vs H Q _ => ∃ (b : Addr) (z : Str) (tl : List Str) (i : Nat), vs = [.str z, .ref b] ∧ H b = some (.lst (tl.map V.str)) ∧ tl.length ≤ 4 ∧ tl.idxOf z = i ∧ i < tl.length ∧ Q (nV (2 ^ i)) H
def sp_lsay (C : Addr) : Sp := fun vs H Q _ => ∃ (p b : Addr) (v : V) (H0 : Hp) (wd n m : Str) (tl : List Str) (i j : Nat), vs = [.ref p, v, .ref b] ∧ Lf C H0 H p [] [] ∧ Rep H v (.bare wd n m) ∧ H b = some (.lst (tl.map V.str)) ∧ tl.length ≤ 4 ∧ tl.idxOf n = i ∧ i < tl.length ∧ tl.idxOf m = j ∧ j < tl.length ∧ ∀ H', Lf C H0 H' p [frmK wd i j] [] → Q (nV 2) H'
def sp_lbb (C : Addr) : Sp := fun vs H Q _ => ∃ (p : Addr) (H0 : Hp) (wd : Str) (i j l : Nat) (one other : Bool) (rest : List (List Key)) (sts : List (List Key × V)), vs = [.ref p, nV l, .bl one, .bl other] ∧ wd ∈ rowWords ∧ Lf C H0 H p rest sts ∧ FR wd i j rest ∧ 2 ≤ l ∧ l < 2 + rest.length ∧
  ∀ rest' H', TupS H H' → FR wd i j rest' → rest.length ≤ rest'.length → bst wd l one other < 2 + rest'.length → Lf C H0 H' p rest' sts → Q (nV (bst wd l one other)) H'
def sp_lbf (C : Addr) : Sp := fun vs H Q _ => ∃ (p : Addr) (H0 : Hp) (wd : Str) (i j l c : Nat) (rest : List (List Key)) (sts : List (List Key × V)), vs = [.ref p, nV l, nV c] ∧ wd ∈ rowWords ∧ i ≤ 4 ∧ j ≤ 4 ∧ c < 32 ∧ Lf C H0 H p rest sts ∧ FR wd i j rest ∧ 2 ≤ l ∧ l < 2 + rest.length ∧
  ∀ rest' H', TupS H H' → FR wd i j rest' → rest.length ≤ rest'.length → bstep wd i j l c < 2 + rest'.length → Lf C H0 H' p rest' sts → Q (nV (bstep wd i j l c)) H'
def sp_lbeh (C : Addr) : Sp := fun vs H Q _ => ∃ (p : Addr) (H0 : Hp) (wd : Str) (i j l c : Nat) (rest : List (List Key)) (sts : List (List Key × V)), vs = [.ref p, nV l, nV c] ∧ wd ∈ rowWords ∧ i ≤ 4 ∧ j ≤ 4 ∧ c < 32 ∧ Lf C H0 H p rest sts ∧ FR wd i j rest ∧ StK wd i j rest sts ∧ sts.length ≤ 200 ∧ l < 2 + rest.length ∧
  ∀ rest' sts' H', FR wd i j rest' → StK wd i j rest' sts' → sts'.length ≤ sts.length + 1 → bstep wd i j l c < 2 + rest'.length → Lf C H0 H' p rest' sts' → Q (nV (bstep wd i j l c)) H'
def sp_lend (C : Addr) : Sp := fun vs H Q _ => ∃ (p : Addr) (H0 : Hp) (wd : Str) (i j l : Nat) (rest : List (List Key)) (sts : List (List Key × V)), vs = [.ref p, nV l] ∧ wd ∈ rowWords ∧ Lf C H0 H p rest sts ∧ FR wd i j rest ∧ l < 2 + rest.length ∧ ∀ H', Same H H' → Q (.bl (aend wd l)) H'
structure BareIn (tl : List Str) (wd n m : Str) (i j : Nat) : Prop where
  hw : wd ∈ rowWords
  ei : tl.idxOf n = i
  hi : i < tl.length
  ej : tl.idxOf m = j
  hj : j < tl.length
  fr : frameB (tl.map V.str) = true
  ok : letB treeWords 4 tl (.bare wd n m) = true
  wf : wfB (.bare wd n m) = true
def sp_holdsby : Sp := fun vs H Q _ => ∃ (v : V) (b r : Addr) (wd n m : Str) (tl : List Str) (i j : Nat) (row : List Nat), vs = [v, .ref b, .ref r] ∧ Rep H v (.bare wd n m) ∧ H b = some (.lst (tl.map V.str)) ∧ tl.length ≤ 4 ∧ BareIn tl wd n m i j ∧ H r = some (.lst (row.map nV)) ∧ row.length ≤ 100 ∧ (∀ c ∈ row, c < 32) ∧ ∀ H', Same H H' → Q (.bl (aend wd (brun wd i j 2 row))) H'
def sp_okframe : Sp := fun vs H Q _ => ∃ (b : Addr) (tl : List Str), vs = [.ref b] ∧ H b = some (.lst (tl.map V.str)) ∧ tl.length ≤ 4 ∧ (∀ z ∈ tl, z.length ≤ 4) ∧ frameB (tl.map V.str) = true ∧ ∀ H', Same H H' → Q .non H'
def sp_oklet : Sp := fun vs H Q _ => ∃ (v : V) (b : Addr) (tl : List Str) (wd n m : Str) (i j : Nat), vs = [v, .ref b] ∧ Rep H v (.bare wd n m) ∧ H b = some (.lst (tl.map V.str)) ∧ tl.length ≤ 4 ∧ (∀ z ∈ tl, z.length ≤ 4) ∧ BareIn tl wd n m i j ∧ ∀ H', Same H H' → Q .non H'
def sp_okrow : Sp := fun vs H Q _ => ∃ (b r : Addr) (tl : List Str) (row : List Nat), vs = [.ref b, .ref r] ∧ H b = some (.lst (tl.map V.str)) ∧ tl.length ≤ 4 ∧ H r = some (.lst (row.map nV)) ∧ row.length ≤ 200 ∧ (∀ c ∈ row, c < 2 ^ tl.length) ∧ ∀ H', Same H H' → Q .non H'
def sp_fitsN : Sp := fun vs H Q _ => ∃ (b r : Addr) (tl : List Str) (row : List Nat), vs = [.ref b, .ref r] ∧ H b = some (.lst (tl.map V.str)) ∧ FrOk tl ∧ H r = some (.lst (row.map nV)) ∧ row.length ≤ 200 ∧ (∀ c ∈ row, c < 2 ^ tl.length) ∧ ∀ H', Same H H' → Q (.bl (fitB tl row)) H'
def sp_holds : Sp := fun vs H Q _ => ∃ (v : V) (b r : Addr) (wd n m : Str) (tl : List Str) (i j : Nat) (row : List Nat), vs = [v, .ref b, .ref r] ∧ Rep H v (.bare wd n m) ∧ H b = some (.lst (tl.map V.str)) ∧ FrOk tl ∧ (∀ z ∈ tl, z.length ≤ 4) ∧ BareIn tl wd n m i j ∧ H r = some (.lst (row.map nV)) ∧ row.length ≤ 100 ∧ (∀ c ∈ row, c < 2 ^ tl.length) ∧ ∀ H', Same H H' → Q (.bl (fitB tl row && aend wd (brun wd i j 2 row))) H'
def frames10 : List (List Str) := [["x", "X"], ["X", "x"], ["x", "y"], ["X", "Y"], ["y", "X", "x"], ["X", "x", "Y"], ["y", "x"], ["x"], ["X"], ["x", "Y", "X"], ["x", "X", "y"]]
def isXY (z : Str) : Bool := decide (z ∈ (["x", "y"] : List Str))
def isSS (z : Str) : Bool := decide (z ∈ (["X", "Y"] : List Str))
def okS (wd n m : Str) : Bool := (decide (wd ∈ (["same", "ahead", "next"] : List Str)) && (isXY n && isXY m)) || (decide (wd = "in") && (isXY n && isSS m)) || (decide (wd = "within") && (isSS n && isSS m))
theorem fr10 {tl : List Str} (h : tl ∈ frames10) : (1 ≤ tl.length ∧ tl.length ≤ 3) ∧ FrOk tl ∧ (∀ z ∈ tl, z.length ≤ 4) ∧ frameB (tl.map V.str) = true ∧ ∀ k, k < tl.length → isP (tl.getD k (Str.ofString "")) = isXY (tl.getD k (Str.ofString "")) := by
  have nx : ∀ z : Str, z ∈ (["x", "y"] : List Str) → NmOk z := fun z hz => by
    refine .inl ?_
    simp only [List.mem_cons, List.not_mem_nil, or_false] at hz
    rcases hz with rfl | rfl <;> exact nam_mk rfl (by decide +kernel) (by decide) (by intro x hx; cases hx)
  have nX : ∀ z : Str, z ∈ (["X", "Y"] : List Str) → NmOk z := fun z hz => by
    refine .inr ?_
    simp only [List.mem_cons, List.not_mem_nil, or_false] at hz
    rcases hz with rfl | rfl <;> exact nam_mk rfl (by decide +kernel) (by decide) (by intro x hx; cases hx)
  have h1 : ∀ tl ∈ frames10, (1 ≤ tl.length ∧ tl.length ≤ 3) ∧ (∀ z ∈ tl, z ∈ (["x", "y"] : List Str) ∨ z ∈ (["X", "Y"] : List Str)) ∧ (∀ z ∈ tl, z.length ≤ 4) ∧ ∀ k, k < tl.length → isP (tl.getD k (Str.ofString "")) = isXY (tl.getD k (Str.ofString "")) := by decide +kernel
  have h2 : ∀ tl ∈ frames10, frameB (tl.map V.str) = true := by decide +kernel
  obtain ⟨a, b, c, d⟩ := h1 tl h
  exact ⟨a, ⟨by omega, fun z hz => (b z hz).elim (nx z) (nX z)⟩, c, h2 tl h, d⟩
theorem bare10 {tl : List Str} (h : tl ∈ frames10) {wd n m : Str} (hn : n ∈ tl) (hm : m ∈ tl) (ok : okS wd n m = true) : BareIn tl wd n m (tl.idxOf n) (tl.idxOf m) := by
  have hw : wd ∈ SM.rowWords := by
    simp only [okS, Bool.or_eq_true, Bool.and_eq_true, decide_eq_true_eq] at ok
    rcases ok with (⟨h, _⟩ | ⟨h, _⟩) | ⟨h, _⟩
    · simp only [List.mem_cons, List.not_mem_nil, or_false] at h
      rcases h with rfl | rfl | rfl <;> decide
    · subst h; decide
    · subst h; decide
  have h1 : ∀ tl ∈ frames10, ∀ wd ∈ SM.rowWords, ∀ n ∈ tl, ∀ m ∈ tl, okS wd n m = true → letB treeWords 4 tl (.bare wd n m) = true ∧ wfB (.bare wd n m) = true := by decide +kernel
  obtain ⟨a, b⟩ := h1 tl h wd hw n hn m hm ok
  exact ⟨hw, rfl, List.idxOf_lt_length_iff.mpr hn, rfl, List.idxOf_lt_length_iff.mpr hm, (fr10 h).2.2.2.1, a, b⟩
def clr (k c : Nat) : Nat := c - c / 2 ^ k % 2 * 2 ^ k
theorem clr_ok {n k k' c : Nat} (hn : n ≤ 3) (hk : k < n) (hk' : k' < n) (hc : c < 2 ^ n) : clr k c < 2 ^ n ∧ bit (clr k c) k' = (bit c k' && !decide (k' = k)) ∧ (bit c k = false → c + 2 ^ k < 2 ^ n ∧ bit (c + 2 ^ k) k' = (bit c k' || decide (k' = k))) := by
  have h : ∀ (n : Fin 4) (k k' : Fin 3) (c : Fin 8), k.val < n.val → k'.val < n.val → c.val < 2 ^ n.val → clr k.val c.val < 2 ^ n.val ∧ bit (clr k.val c.val) k'.val = (bit c.val k'.val && !decide (k'.val = k.val)) ∧ (bit c.val k.val = false → c.val + 2 ^ k.val < 2 ^ n.val ∧ bit (c.val + 2 ^ k.val) k'.val = (bit c.val k'.val || decide (k'.val = k.val))) := by decide +kernel
  have : 2 ^ n ≤ 8 := Nat.pow_le_pow_right (by decide) hn
  exact h ⟨n, by omega⟩ ⟨k, by omega⟩ ⟨k', by omega⟩ ⟨c, by omega⟩ hk hk' hc
theorem cw_bit (row : List Nat) (k : Nat) : cw row k = (row.filter fun c => bit c k).length := rfl
theorem wth_len (row : List Nat) (k : Nat) : (wth row k).length = cw row k := by rw [← plc_wth, plc_len]; rfl
theorem cw_map {f : Nat → Nat} {k : Nat} : ∀ {row : List Nat}, (∀ c ∈ row, bit (f c) k = bit c k) → cw (row.map f) k = cw row k
  | [], _ => rfl
  | c :: r, h => by
    have ih := cw_map (f := f) (k := k) (row := r) fun x hx => h x (List.mem_cons_of_mem _ hx)
    rw [cw_bit, cw_bit] at ih ⊢
    rw [List.map_cons, List.filter_cons, List.filter_cons, h c List.mem_cons_self]
    cases bit c k <;> simp [ih]
theorem cw_zero {k : Nat} {row : List Nat} (h : ∀ c ∈ row, bit c k = false) : cw row k = 0 := by
  rw [cw_bit, List.length_eq_zero_iff, List.filter_eq_nil_iff]
  intro c hc
  rw [h c hc]; decide
theorem cw_set {k x : Nat} : ∀ {row : List Nat} {i : Nat} (hi : i < row.length), bit x k = bit row[i] k → cw (row.set i x) k = cw row k
  | c :: r, 0, _, e => by
    have e' : bit x k = bit c k := e
    rw [cw_bit, cw_bit, List.set_cons_zero, List.filter_cons, List.filter_cons, e']
    cases bit c k <;> rfl
  | c :: r, i + 1, hi, e => by
    have ih := cw_set (k := k) (x := x) (row := r) (i := i) (by simpa using hi) (by simpa using e)
    rw [cw_bit, cw_bit] at ih ⊢
    rw [List.set_cons_succ, List.filter_cons, List.filter_cons]
    cases bit c k <;> simp [ih]
theorem cw_set1 {k x : Nat} : ∀ {row : List Nat} {i : Nat} (hi : i < row.length), bit x k = true → (∀ c ∈ row, bit c k = false) → cw (row.set i x) k = 1
  | c :: r, 0, _, e, h => by
    have := cw_zero (k := k) (row := r) fun y hy => h y (List.mem_cons_of_mem _ hy)
    rw [cw_bit] at this ⊢
    rw [List.set_cons_zero, List.filter_cons, e, if_pos rfl, List.length_cons, this]
  | c :: r, i + 1, hi, e, h => by
    have ih := cw_set1 (k := k) (x := x) (row := r) (i := i) (by simpa using hi) e fun y hy => h y (List.mem_cons_of_mem _ hy)
    rw [cw_bit] at ih ⊢
    rw [List.set_cons_succ, List.filter_cons, h c List.mem_cons_self]
    simpa using ih
theorem cw_snoc (row : List Nat) (c k : Nat) : cw (row ++ [c]) k = cw row k + if bit c k then 1 else 0 := by
  rw [cw_bit, cw_bit, List.filter_append, List.length_append]
  cases h : bit c k <;> simp [h]
def Fit10 (tl : List Str) (k : Nat) (row : List Nat) : Prop := ∀ j, j < k → isXY (tl.getD j (Str.ofString "")) = true → cw row j = 1
theorem fit10_fits {tl : List Str} {row : List Nat} (h : tl ∈ frames10) (f : Fit10 tl tl.length row) : fitB tl row = true := by
  unfold fitB
  rw [List.all_eq_true]
  intro k hk
  have hk' := List.mem_range.mp hk
  rw [(fr10 h).2.2.2.2 k hk']
  cases hx : isXY (tl.getD k (Str.ofString "")) with
  | false => rfl
  | true => rw [f k hk' hx]; rfl
theorem fit10_not {tl : List Str} {row : List Nat} {k : Nat} (h : tl ∈ frames10) (hk : k < tl.length) (hx : isXY (tl.getD k (Str.ofString "")) = true) (hc : cw row k ≠ 1) : fitB tl row = false := by
  unfold fitB
  rw [Bool.eq_false_iff]
  intro hz
  have := List.all_eq_true.mp hz k (List.mem_range.mpr hk)
  rw [(fr10 h).2.2.2.2 k hk, hx] at this
  simp [hc] at this
theorem due10 {tl : List Str} {row : List Nat} {wd n m : Str} (h : tl ∈ frames10) (f : Fit10 tl tl.length row) (hn : n ∈ tl) (hm : m ∈ tl) (ok : okS wd n m = true) :
    (wd ≠ "within" → (wth row (tl.idxOf n)).length = 1) ∧ (wd ≠ "within" → wd ≠ "in" → (wth row (tl.idxOf m)).length = 1) := by
  have hg : ∀ z, z ∈ tl → isXY z = true → (wth row (tl.idxOf z)).length = 1 := fun z hz hx => by
    have hi := List.idxOf_lt_length_iff.mpr hz
    rw [wth_len]
    refine f _ hi ?_
    rw [List.getD_eq_getElem?_getD, List.getElem?_eq_getElem hi, Option.getD_some, List.getElem_idxOf hi]
    exact hx
  simp only [okS, Bool.or_eq_true, Bool.and_eq_true, decide_eq_true_eq] at ok
  rcases ok with (⟨_, h1, h2⟩ | ⟨e, h1, _⟩) | ⟨e, _⟩
  · exact ⟨fun _ => hg n hn h1, fun _ _ => hg m hm h2⟩
  · exact ⟨fun _ => hg n hn h1, fun _ z => absurd e z⟩
  · exact ⟨fun z => absurd e z, fun z _ => absurd e z⟩
def Sys (tl : List Str) (H : Hp) (rs : List V) : Prop := ∀ v ∈ rs, ∃ (a : Addr) (wd n m : Str), v = .ref a ∧ H a = some (.tup [.str wd, .str n, .str m]) ∧ n ∈ tl ∧ m ∈ tl ∧ okS wd n m = true
theorem Sys.ts {tl : List Str} {H H' : Hp} {rs : List V} (h : Sys tl H rs) (g : TupS H H') : Sys tl H' rs := fun v hv => let ⟨a, wd, n, m, e, ea, r⟩ := h v hv; ⟨a, wd, n, m, e, g _ _ ea, r⟩
def sp_frame10 : Sp := fun vs H Q _ => ∃ n : Int, vs = [.int n] ∧ 0 ≤ n ∧ ∀ p tl H', H p = none → Same H H' → H' p = some (.lst (tl.map V.str)) → tl ∈ frames10 → Q (.ref p) H'
def sp_says10 : Sp := fun vs H Q _ => ∃ (b : Addr) (tl : List Str), vs = [.ref b] ∧ H b = some (.lst (tl.map V.str)) ∧ tl ∈ frames10 ∧ ∀ D rs H', Same H H' → H' D = some (.lst rs) → rs.length ≤ 100 → Sys tl H' rs → Q (.ref D) H'
def sp_row10 : Sp := fun vs H Q _ => ∃ (c b : Addr) (ns : List Int) (tl : List Str) (n : Int), vs = [.ref c, .ref b, .int n] ∧ H c = some (.lst (ns.map V.int)) ∧ 1 ≤ ns.length ∧ ns.length ≤ 63 ∧ H b = some (.lst (tl.map V.str)) ∧ tl ∈ frames10 ∧ 0 ≤ n ∧
  ∀ D row H', H D = none → Same H H' → H' D = some (.lst (row.map nV)) → row.length = ns.length → (∀ c ∈ row, c < 2 ^ tl.length) → Fit10 tl tl.length row → Q (.ref D) H'
def sp_due10 : Sp := fun vs H Q _ => ∃ (v : V) (b r : Addr) (wd n m : Str) (tl : List Str) (row : List Nat), vs = [v, .ref b, .ref r] ∧ Rep H v (.bare wd n m) ∧ n ∈ tl ∧ m ∈ tl ∧ okS wd n m = true ∧ H b = some (.lst (tl.map V.str)) ∧ tl ∈ frames10 ∧ H r = some (.lst (row.map nV)) ∧ row.length ≤ 100 ∧ (∀ c ∈ row, c < 2 ^ tl.length) ∧ Fit10 tl tl.length row ∧
  ∀ H', Same H H' → Q (.bl (due wd (wth row (tl.idxOf n)) (wth row (tl.idxOf m)))) H'
def sp_all10 : Sp := fun vs H Q _ => ∃ (b r : Addr) (tl : List Str) (row : List Nat), vs = [.ref b, .ref r] ∧ H b = some (.lst (tl.map V.str)) ∧ tl ∈ frames10 ∧ H r = some (.lst (row.map nV)) ∧ row.length ≤ 90 ∧ (∀ c ∈ row, c < 2 ^ tl.length) ∧ Fit10 tl tl.length row ∧ ∀ H', Same H H' → Q (.bl true) H'
theorem ixN10 {n j : Nat} (h : j < n) : ixN n (j : Int) = some j := by unfold ixN; rw [if_pos (by omega), if_pos (by omega), Int.toNat_natCast]
theorem nats_of {b : Nat} : ∀ {ys : List V}, (∀ (j : Nat) y, ys[j]? = some y → ∃ x : Nat, x < b ∧ y = nV x) → ∃ row : List Nat, ys = row.map nV ∧ ∀ c ∈ row, c < b
  | [], _ => ⟨[], rfl, fun c hc => (nomatch hc)⟩
  | y :: ys, h => by
    obtain ⟨x, hx, rfl⟩ := h 0 _ rfl
    obtain ⟨row, rfl, hr⟩ := nats_of (ys := ys) fun j y e => h (j + 1) y e
    exact ⟨x :: row, rfl, fun c hc => (List.mem_cons.mp hc).elim (fun e => e ▸ hx) (hr c)⟩
def clrs (k i : Nat) (row : List Nat) : List Nat := (row.take i).map (clr k) ++ row.drop i
theorem clrs_len {k i : Nat} {row : List Nat} (h : i ≤ row.length) : (clrs k i row).length = row.length := by simp [clrs]; omega
theorem clrs_at {k i : Nat} {row : List Nat} (h : i < row.length) : (clrs k i row)[i]? = some row[i] := by
  unfold clrs
  rw [List.getElem?_append_right (by simp; omega)]
  simp only [List.length_map, List.length_take, List.getElem?_drop]
  rw [show i + (i - min i row.length) = i by omega]
  exact List.getElem?_eq_getElem h
theorem clrs_next {k i : Nat} {row : List Nat} (h : i < row.length) : (clrs k i row).set i (clr k row[i]) = clrs k (i + 1) row := by
  unfold clrs
  rw [List.set_append_right _ _ (by simp; omega)]
  simp only [List.length_map, List.length_take]
  rw [show i - min i row.length = 0 by omega, List.drop_eq_getElem_cons h, List.set_cons_zero, List.take_add_one, List.getElem?_eq_getElem h, Option.toList_some, List.map_append]
  simp
theorem clrs_all {k : Nat} {row : List Nat} : clrs k row.length row = row.map (clr k) := by simp [clrs]
theorem clr_int {n k c : Nat} (hn : n ≤ 3) (hk : k < n) (hc : c < 2 ^ n) : (c : Int) - (c : Int) / ((2 ^ k : Nat) : Int) % 2 * ((2 ^ k : Nat) : Int) = ((clr k c : Nat) : Int) := by
  have h : ∀ (k : Fin 3) (c : Fin 8), ((c.val : Int)) - ((c.val : Nat) : Int) / ((2 ^ k.val : Nat) : Int) % 2 * ((2 ^ k.val : Nat) : Int) = ((clr k.val c.val : Nat) : Int) := by decide +kernel
  have : 2 ^ n ≤ 8 := Nat.pow_le_pow_right (by decide) hn
  exact h ⟨k, by omega⟩ ⟨c, by omega⟩
theorem fit10_next {tl : List Str} {row : List Nat} {k at' : Nat} (hl : tl.length ≤ 3) (hk : k < tl.length) (hc : ∀ c ∈ row, c < 2 ^ tl.length) (f : Fit10 tl k row) (ha : at' < row.length) :
    (∀ c ∈ (row.map (clr k)).set at' (((row.map (clr k)).getD at' 0) + 2 ^ k), c < 2 ^ tl.length) ∧ Fit10 tl (k + 1) ((row.map (clr k)).set at' (((row.map (clr k)).getD at' 0) + 2 ^ k)) := by
  have hlen : at' < (row.map (clr k)).length := by rw [List.length_map]; exact ha
  have h0 : ∀ c ∈ row.map (clr k), c < 2 ^ tl.length ∧ bit c k = false := fun c hm => by
    obtain ⟨x, hx, rfl⟩ := List.mem_map.mp hm
    obtain ⟨a, b, _⟩ := clr_ok hl hk hk (hc x hx)
    exact ⟨a, by rw [b]; simp⟩
  have hg : (row.map (clr k)).getD at' 0 = (row.map (clr k))[at'] := by rw [List.getD_eq_getElem?_getD, List.getElem?_eq_getElem hlen]; rfl
  rw [hg]
  have hx := h0 _ (List.getElem_mem hlen)
  refine ⟨fun c hm => ?_, fun j hj hxy => ?_⟩
  · rcases List.mem_or_eq_of_mem_set hm with z | z
    · exact (h0 c z).1
    · rw [z]; exact ((clr_ok hl hk hk hx.1).2.2 hx.2).1
  · by_cases e : j = k
    · subst e
      refine cw_set1 hlen ?_ fun c hm => (h0 c hm).2
      rw [((clr_ok hl hk hk hx.1).2.2 hx.2).2]; simp
    · have hj' : j < tl.length := by omega
      rw [cw_set hlen (by rw [((clr_ok hl hk hj' hx.1).2.2 hx.2).2]; simp [e]), cw_map fun c hm => by rw [(clr_ok hl hk hj' (hc c hm)).2.1]; simp [e]]
      exact f j (by omega) hxy
theorem bit_int {c k : Nat} : decide ((c : Int) / ((2 ^ k : Nat) : Int) % 2 = 1) = bit c k := by
  unfold bit
  rw [Bool.eq_iff_iff, decide_eq_true_iff, beq_iff_eq]
  rw [← Int.natCast_ediv]
  omega
theorem inV_nats10 (z : Nat) : ∀ l : List Nat, inV (nV z) (l.map nV) = decide (z ∈ l)
  | [] => by simp [inV]
  | y :: r => by
    have e : inV (nV z) ((y :: r).map nV) = (eqV (nV y) (nV z) || inV (nV z) (r.map nV)) := rfl
    have e2 : eqV (nV y) (nV z) = decide ((y : Int) = (z : Int)) := rfl
    rw [e, inV_nats10 z r, e2]
    by_cases h : z = y
    · simp [h]
    · have h1 : ¬ (y : Int) = (z : Int) := by omega
      simp [h, h1]
theorem ints_inj : ∀ (a b : List Nat), a.map (fun (x : Nat) => (x : Int)) = b.map (fun (x : Nat) => (x : Int)) → a = b
  | [], [], _ => rfl
  | [], _ :: _, h => by simp at h
  | _ :: _, [], h => by simp at h
  | x :: a, y :: b, h => by
    rw [List.map_cons, List.map_cons, List.cons.injEq] at h
    have e : x = y := by omega
    rw [e, ints_inj a b h.2]
def sp_unfit10 : Sp := sp_all10
end SM
set_option maxHeartbeats 4000000
namespace K10
open PySem PySem.Spec PyProof.Rows L2 SS SM
def top (i : Nat) : Stmt := PySem.Challenge.pw_setsays_k10_bare_ones_hold.main.body.getD i (.Pass ⟨0, 0, 0, 0⟩)
structure Txt (K : PySem.W.Frag) (mg : Str → Option Value) (w : World) (tw rw fa cLeftovers : Addr) : Prop where
  b_isinstance : mg "isinstance" = none
  b_tuple : mg "tuple" = none
  b_str : mg "str" = none
  b_list : mg "list" = none
  b_int : mg "int" = none
  b_bool : mg "bool" = none
  b_set : mg "set" = none
  b_len : mg "len" = none
  b_all : mg "all" = none
  b_sum : mg "sum" = none
  b_max : mg "max" = none
  b_zip : mg "zip" = none
  b_range : mg "range" = none
  b_enumerate : mg "enumerate" = none
  g_FIGURES : GlV mg "FIGURES" (.str FIGS)
  g_LONGEST_NAME : GlV mg "LONGEST_NAME" (.int 4)
  g_SMALL_LETTERS : GlV mg "SMALL_LETTERS" (.str SMALL)
  g_GREAT_LETTERS : GlV mg "GREAT_LETTERS" (.str GREAT)
  g_MOST_NAMES : GlV mg "MOST_NAMES" (.int 4)
  g_DEEPEST : GlV mg "DEEPEST" (.int 12)
  g_MOST_PARTS : GlV mg "MOST_PARTS" (.int 60)
  g_NO : GlV mg "NO" (.int 0)
  g_YES : GlV mg "YES" (.int 1)
  g_TELLING_WORDS : GlV mg "TELLING_WORDS" (.ref tw)
  t_TELLING_WORDS : ∀ H, SqT K H tw [.str "some", .str "all"]
  g_TREE_WORDS : GlV mg "TREE_WORDS" (.ref rw)
  t_TREE_WORDS : ∀ H, SqT K H rw [.str "left", .str "right", .str "above"]
  g_FORMS : GlV mg "FORMS" (.ref fa)
  f_FORMS : Forms K w fa
  m_Leftovers : mg "Leftovers" = some (.ref cLeftovers)
  cl_Leftovers : Cls K cLeftovers
  n_forms : NoAttr K cLeftovers "forms"
  n_numbers : NoAttr K cLeftovers "numbers"
  n_steps : NoAttr K cLeftovers "steps"
seal PE PT PW PA PS PSs
section
variable {P : Program} {w : World} {K : PySem.W.Frag} {mg : Str → Option Value} {base : Heap} {tw rw fa cLeftovers : Addr}
abbrev s_is_letter_with_figures : Stmt := top 11
theorem sc_is_letter_with_figures : FnScope ["thing", "letters"] ["thing", "letters"] (defScope s_is_letter_with_figures) := ⟨rfl, rfl, rfl, by decide +kernel, rfl, by decide +kernel, by decide +kernel⟩
theorem ok_lf (T : Txt K mg w tw rw fa cLeftovers) (d : Dfn K mg "is_letter_with_figures" s_is_letter_with_figures ["thing", "letters"]) : Cal P w K mg base 1 "is_letter_with_figures" ["thing", "letters"] sp_lf := by
  refine d.cal sc_is_letter_with_figures (fun vs H Q E h => ?_) (fun f cdv A outer s H vs Q E hr h => ?_)
  · obtain ⟨x, l, k, rfl, _⟩ := h
    rfl
  obtain ⟨x, l, k, rfl, hk, hz, q⟩ := h
  refine ⟨_, (pss_cons (ps_if (PW.pt (pw_or (pt_not (pt_val (pe_cB call_isk (by rfl) T.b_isinstance boot_isinstance (pa_c (pv 0) (pa_c (pe_bltn (v := .ty "str") (by rfl) T.b_str boot_str (by rfl)) pa_nil))))) (pw_or (pt_cmpR op_eq (pv 0) pe_str (nomark _)) (pw_or1 (pt_cmpR op_gt (pe_cB call_len_str (by rfl) T.b_len boot_len (pa_c (pv 0) pa_nil)) (pe_gl (by rfl) T.g_LONGEST_NAME) (nomark _)))))) (pss_one (ps_ret pe_bl)) pss_nil) (pss_one (ps_ret (pe_and (pe_cmpR op_in_str (pe_ix ix_str (pv 0) pe_int (fun _ _ => rfl)) (pv 1) (by with_unfolding_all rfl)) (pe_one (pe_cB (call_all_blK K rfl) (by rfl) T.b_all boot_all (pa_c (pe_lcomp ["sign"] [] (CompOk.of rfl (by rfl) (by rfl)) (by rfl) (pi_str (pe_slice sl_str (pv 0) (po_some pe_int) po_none)) (fun _ _ _ _ _ => (pg_name (i := 0) (show List.Nodup (["sign"] : List Str) by decide +kernel) (by rfl) (Or.inl (by rfl)))) (fun _ _ _ _ _ => pf_nil) (fun _ _ _ _ _ => (pe_cmpR op_in_str (pv 0) (pe_gl (by rfl) T.g_FIGURES) (by with_unfolding_all rfl)))) pa_nil))))))), ?_⟩
  refine rd_st [some x, some (.str l)] rfl ?_
  simp only [rAll, tSeq, tIfS, tTest, tB, tOp, tC, tOr, tNot, tAndV, tNext, tRet, rI0, rEq, tNil, tCons, tCB, tNoPart, tPart, tSl, rSlS, rIxS, iStr, rd_v0, rd_vS, rd_comp, V.int.injEq, V.str.injEq, V.bl.injEq, V.ty.injEq, List.cons.injEq, and_true, exists_eq_left', exists_and_left, if_true, and_assoc]
  refine ⟨k, hk, by decide, ?_⟩
  cases hk with
  | str z =>
    have hz' := hz z rfl
    have hl := str_len z
    rw [show (!subT "str" "str") = false by decide]
    simp only [V.str.injEq, true_and, exists_eq_left', if_false, rd_ss, reduceCtorEq]
    refine ite2 (fun c => ?_) (fun c => ?_)
    · have c' := of_decide_eq_true c
      subst c'
      exact q H (Same.refl H)
    have c' := of_decide_eq_false (Bool.eq_false_iff.mpr c)
    have ne : z.cps.toList ≠ [] := fun e => c' (ext_toList e)
    refine ⟨by have := small1000 hz'; omega, ?_⟩
    obtain ⟨c0, r0, e0⟩ := List.exists_cons_of_ne_nil ne
    have q' : ∀ H', Same H H' → Q (.bl (decide (r0.length ≤ 3) && signIn c0 l && r0.all fun d => signIn d FIGS)) H' := fun H' g => by
      have h := q H' g
      simp only [isNm, nameB, e0] at h
      exact h
    rw [e0, List.length_cons] at hl
    refine ite2 (fun c => ?_) (fun c => ?_)
    · have c2 := of_decide_eq_true c
      have h := q' H (Same.refl H)
      rw [show decide (r0.length ≤ 3) = false by simp; omega, Bool.false_and, Bool.false_and] at h
      exact h
    have c2 := of_decide_eq_false (Bool.eq_false_iff.mpr c)
    rw [show decide (r0.length ≤ 3) = true by simp; omega, Bool.true_and] at q'
    refine ⟨by have := small1000 hz'; omega, c0, by rw [e0]; exact atI_0, ?_⟩
    refine ite2 (fun c => ?_) (fun c => ?_)
    · rw [show signIn c0 l = true from c, Bool.true_and] at q'
      have es : (Txt.slice z (some 1) none).cps.toList = r0 := by
        rw [slice_cps, show ((1 : Int)) = ((1 : Nat) : Int) from rfl, cutL_from, e0]
        rfl
      have en : (Txt.slice z (some 1) none).cps.size = r0.length := by rw [← es]; simp
      refine ⟨by have := small1000 hz'; omega, ?_⟩
      refine cb_str (fun D i ys σ H' => Same H H' ∧ (∃ v, σ = [v]) ∧ ys = (r0.take i).map fun d => V.bl (signIn d FIGS)) (by rw [en]; exact Nat.le_of_lt (small1000 (by omega))) (fun D hD => ⟨same_upd hD _, ⟨none, rfl⟩, rfl⟩) ?_ ?_
      · rintro D i ys σ H' d hD hi hd hD' hys ⟨g, ⟨v, rfl⟩, rfl⟩
        simp only [tOp, tC, gName, tYes, rd_v0, List.set_cons_zero, V.str.injEq, exists_eq_left', if_true]
        refine cstep (by rw [en]; exact Nat.le_of_lt (small1000 (by omega))) hi hD' hys ⟨fun b o e => ?_, ⟨_, rfl⟩, ?_⟩
        · rw [upd_ne (ne_of_none e hD)]; exact g b o e
        · rw [en] at hi
          have e1 : r0[i]? = some d := by rw [← es]; simpa using hd
          rw [List.take_add_one, e1, List.map_append]
          rfl
      · rintro D ys σ H' hD hD' hys ⟨g, _, rfl⟩
        rw [en, List.take_of_length_le (Nat.le_refl _)] at hD'
        refine ⟨_, rfl, r0.map fun d => signIn d FIGS, .of (by rw [hD', List.map_map]; rfl), ?_⟩
        have h := q' H' g
        rw [List.all_map]
        exact h
    · have h := q' H (Same.refl H)
      rw [show signIn c0 l = false from Bool.eq_false_iff.mpr c, Bool.false_and] at h
      exact h
  | non => exact q H (Same.refl H)
  | bl b => exact q H (Same.refl H)
  | int i => exact q H (Same.refl H)
  | lst e => exact q H (Same.refl H)
  | tup e => exact q H (Same.refl H)
  | dK e => exact q H (Same.refl H)
abbrev s_is_place : Stmt := top 12
theorem sc_is_place : FnScope ["thing"] ["thing"] (defScope s_is_place) := ⟨rfl, rfl, rfl, by decide +kernel, rfl, by decide +kernel, by decide +kernel⟩
theorem ok_place (T : Txt K mg w tw rw fa cLeftovers) (d : Dfn K mg "is_place" s_is_place ["thing"]) (C_is_letter_with_figures : Cal P w K mg base 1 "is_letter_with_figures" ["thing", "letters"] sp_lf) : Cal P w K mg base 2 "is_place" ["thing"] (sp_pl SMALL) := by
  refine d.cal sc_is_place (fun vs H Q E h => ?_) (fun f cdv A outer s H vs Q E hr h => ?_)
  · obtain ⟨x, k, rfl, _⟩ := h
    rfl
  obtain ⟨x, k, rfl, hk, hz, q⟩ := h
  refine ⟨_, (pss_one (ps_ret (pe_callC C_is_letter_with_figures hr (by omega) (by rfl) (pa_c (pv 0) (pa_c (pe_gl (by rfl) T.g_SMALL_LETTERS) pa_nil))))), ?_⟩
  refine rd_st [some x] rfl ?_
  simp only [tC, tRet, tNil, tCons, tCall, rd_v0, List.append_nil]
  exact ⟨x, SMALL, k, rfl, hk, hz, q⟩
abbrev s_is_set : Stmt := top 13
theorem sc_is_set : FnScope ["thing"] ["thing"] (defScope s_is_set) := ⟨rfl, rfl, rfl, by decide +kernel, rfl, by decide +kernel, by decide +kernel⟩
theorem ok_set (T : Txt K mg w tw rw fa cLeftovers) (d : Dfn K mg "is_set" s_is_set ["thing"]) (C_is_letter_with_figures : Cal P w K mg base 1 "is_letter_with_figures" ["thing", "letters"] sp_lf) : Cal P w K mg base 2 "is_set" ["thing"] (sp_pl GREAT) := by
  refine d.cal sc_is_set (fun vs H Q E h => ?_) (fun f cdv A outer s H vs Q E hr h => ?_)
  · obtain ⟨x, k, rfl, _⟩ := h
    rfl
  obtain ⟨x, k, rfl, hk, hz, q⟩ := h
  refine ⟨_, (pss_one (ps_ret (pe_callC C_is_letter_with_figures hr (by omega) (by rfl) (pa_c (pv 0) (pa_c (pe_gl (by rfl) T.g_GREAT_LETTERS) pa_nil))))), ?_⟩
  refine rd_st [some x] rfl ?_
  simp only [tC, tRet, tNil, tCons, tCall, rd_v0, List.append_nil]
  exact ⟨x, GREAT, k, rfl, hk, hz, q⟩
abbrev s_is_name : Stmt := top 14
theorem sc_is_name : FnScope ["thing"] ["thing"] (defScope s_is_name) := ⟨rfl, rfl, rfl, by decide +kernel, rfl, by decide +kernel, by decide +kernel⟩
theorem ok_nm (T : Txt K mg w tw rw fa cLeftovers) (d : Dfn K mg "is_name" s_is_name ["thing"]) (C_is_place : Cal P w K mg base 2 "is_place" ["thing"] (sp_pl SMALL)) (C_is_set : Cal P w K mg base 2 "is_set" ["thing"] (sp_pl GREAT)) : Cal P w K mg base 3 "is_name" ["thing"] sp_nm := by
  refine d.cal sc_is_name (fun vs H Q E h => ?_) (fun f cdv A outer s H vs Q E hr h => ?_)
  · obtain ⟨x, rfl, _⟩ := h
    rfl
  obtain ⟨x, rfl, ⟨⟨k, hk⟩, hz⟩, q⟩ := h
  refine ⟨_, (pss_one (ps_ret (pe_or (pe_callC C_is_place hr (by omega) (by rfl) (pa_c (pv 0) pa_nil)) (pe_one (pe_callC C_is_set hr (by omega) (by rfl) (pa_c (pv 0) pa_nil)))))), ?_⟩
  refine rd_st [some x] rfl ?_
  simp only [tOrV, tRet, tNil, tCons, tCall, rd_v0, List.append_nil]
  refine ⟨x, k, rfl, hk, hz, fun H1 g1 => ⟨_, rfl, ite2 (fun c => ?_) (fun c => ⟨x, k, rfl, hk.same g1, hz, fun H2 g2 => ?_⟩)⟩⟩
  · have h := q H1 g1
    rw [show isName x = true by unfold isName; rw [c, Bool.true_or]] at h
    exact h
  · have h := q H2 (g1.trans g2)
    rw [show isName x = isNm x GREAT by unfold isName; rw [Bool.eq_false_iff.mpr c, Bool.false_or]] at h
    exact h
abbrev s_is_frame : Stmt := top 15
theorem sc_is_frame : FnScope ["thing"] ["thing"] (defScope s_is_frame) := ⟨rfl, rfl, rfl, by decide +kernel, rfl, by decide +kernel, by decide +kernel⟩
theorem ok_frame (T : Txt K mg w tw rw fa cLeftovers) (d : Dfn K mg "is_frame" s_is_frame ["thing"]) (C_is_name : Cal P w K mg base 3 "is_name" ["thing"] sp_nm) : Cal P w K mg base 4 "is_frame" ["thing"] sp_fr := by
  refine d.cal sc_is_frame (fun vs H Q E h => ?_) (fun f cdv A outer s H vs Q E hr h => ?_)
  · obtain ⟨x, rfl, _⟩ := h
    rfl
  obtain ⟨x, rfl, ⟨⟨k, hk⟩, hz⟩, hxs, q⟩ := h
  refine ⟨_, (pss_cons (ps_if (PW.pt (pw_or (pt_not (pt_val (pe_cB call_isk (by rfl) T.b_isinstance boot_isinstance (pa_c (pv 0) (pa_c (pe_bltn (v := .ty "list") (by rfl) T.b_list boot_list (by rfl)) pa_nil))))) (pw_or1 (pt_cmpR op_gt (pe_cB (call_len_seqK K) (by rfl) T.b_len boot_len (pa_c (pv 0) pa_nil)) (pe_gl (by rfl) T.g_MOST_NAMES) (nomark _))))) (pss_one (ps_ret pe_bl)) pss_nil) (pss_one (ps_ret (pe_and (pe_cB (call_all_blK K rfl) (by rfl) T.b_all boot_all (pa_c (pe_lcomp ["name"] [] (CompOk.of rfl (by rfl) (by rfl)) (by rfl) (pi_listK K (pv 0)) (fun _ _ _ _ _ => (pg_name (i := 0) (show List.Nodup (["name"] : List Str) by decide +kernel) (by rfl) (Or.inl (by rfl)))) (fun _ _ _ _ _ => pf_nil) (fun _ _ _ _ _ => (pe_callC C_is_name hr (by omega) (by rfl) (pa_c (pv 0) pa_nil)))) pa_nil)) (pe_one (pe_cmpR op_eq (pe_cB call_len_setK (by rfl) T.b_len boot_len (pa_c (pe_cTy (call_set_ofN rfl) (by rfl) T.b_set boot_set (pa_c (pv 0) pa_nil)) pa_nil)) (pe_cB (call_len_seqK K) (by rfl) T.b_len boot_len (pa_c (pv 0) pa_nil)) (nomark _))))))), ?_⟩
  refine rd_st [some x] rfl ?_
  simp only [rLen, rAll, cxK, cxP, cxW, tSeq, tIfS, tTest, tB, tOp, tC, tOr, tNot, tAndV, tNext, tRet, rI0, rEq, tNil, tCons, tCB, iList, rd_v0, rd_comp, V.int.injEq, V.bl.injEq, V.ref.injEq, V.ty.injEq, List.cons.injEq, and_true, true_and, exists_eq_left', exists_and_left, if_true, rd_ii, and_assoc]
  refine ⟨k, hk, by decide, ?_⟩
  cases hk with
  | lst e =>
    rename_i a xs
    obtain ⟨hl, hy⟩ := hxs a xs rfl e
    have hS : SqL K H a xs := .of e
    have ef : frB H (.ref a) = frameB xs := by simp only [frB, e]
    rw [ef] at q
    refine iteF ⟨a, rfl, xs, .inl hS, ?_⟩
    refine ite2 (fun c => ?_) (fun c => ⟨a, rfl, ⟨xs, hS⟩, ?_⟩)
    · have c' := of_decide_eq_true c
      have h := q H (Same.refl H)
      rw [show frameB xs = false by unfold frameB; rw [decide_eq_false (by omega), Bool.false_and, Bool.false_and]] at h
      exact h
    have c' := of_decide_eq_false (Bool.eq_false_iff.mpr c)
    have ef2 : frameB xs = (xs.all isName && decide xs.Nodup) := by unfold frameB; rw [decide_eq_true (by omega), Bool.true_and]
    rw [ef2] at q
    refine cb_list (K := K) (a := a) (xs := xs) (fun D i ys σ H' => Same H H' ∧ (∃ v, σ = [v]) ∧ ys = (xs.take i).map fun y => V.bl (isName y)) (small_line hl) (fun D hD => ⟨same_upd hD _, ⟨none, rfl⟩, rfl⟩) (fun D i ys σ H' _ _ _ ⟨g, _⟩ => g.seq hS) ?_ ?_
    · rintro D i ys σ H' y hD hi hx hD' hys ⟨g, ⟨v, rfl⟩, rfl⟩
      simp only [gName, tNil, tCons, tCall, tYes, rd_v0, List.set_cons_zero, List.append_nil, if_true]
      refine ⟨y, rfl, (hy y (List.mem_of_getElem? hx)).same g, fun H2 g2 => ?_⟩
      refine cstep (small_line hl) hi (g2 _ _ hD') hys ⟨fun b o e => ?_, ⟨_, rfl⟩, ?_⟩
      · rw [upd_ne (ne_of_none e hD)]; exact g2 b o (g b o e)
      · rw [List.take_add_one, hx, List.map_append]
        rfl
    · rintro D ys σ H' hD hD' hys ⟨g, _, rfl⟩
      rw [List.take_of_length_le (Nat.le_refl _)] at hD'
      refine ⟨D, rfl, xs.map isName, .of (by rw [hD', List.map_map]; rfl), ?_⟩
      rw [List.all_map, show (id ∘ isName) = isName from rfl]
      refine ite2 (fun ca => ?_) (fun ca => ?_)
      · obtain ⟨ks, ek, nk⟩ := names_keys ca
        have lk : ks.length = xs.length := by rw [ek, List.length_map]
        refine ⟨a, rfl, ks, ek ▸ g.seq hS, by omega, fun b H3 n3 => ⟨ks, n3.at', by omega, a, rfl, xs, .inl (n3.g.seq (g.seq hS)), ?_⟩⟩
        have h := q _ (g.trans n3.g)
        rw [ca, Bool.true_and] at h
        have ed : decide xs.Nodup = decide (((onceK [] ks).length : Int) = (xs.length : Int)) := by
          refine decide_eq_decide.mpr ?_
          rw [nk, ← onceK_all, lk]
          omega
        rw [ed] at h
        exact h
      · have h := q H' g
        rw [Bool.eq_false_iff.mpr ca, Bool.false_and] at h
        exact h
  | non => exact q H (Same.refl H)
  | bl b => exact q H (Same.refl H)
  | int i => exact q H (Same.refl H)
  | str z => exact q H (Same.refl H)
  | tup e =>
    have h := q H (Same.refl H)
    simp only [frB, e] at h
    exact h
  | dK e =>
    have h := q H (Same.refl H)
    simp only [frB, e] at h
    exact h
abbrev s_is_of_sort : Stmt := top 22
theorem sc_is_of_sort : FnScope ["thing", "sort", "deepest"] ["thing", "sort", "deepest"] (defScope s_is_of_sort) := ⟨rfl, rfl, rfl, by decide +kernel, rfl, by decide +kernel, by decide +kernel⟩
theorem ok_sort {n k : Nat} (hk : 3 ≤ k) (T : Txt K mg w tw rw fa cLeftovers) (d : Dfn K mg "is_of_sort" s_is_of_sort ["thing", "sort", "deepest"]) (C_is_place : Cal P w K mg base 2 "is_place" ["thing"] (sp_pl SMALL)) (C_is_set : Cal P w K mg base 2 "is_set" ["thing"] (sp_pl GREAT)) (C_is_name : Cal P w K mg base 3 "is_name" ["thing"] sp_nm)
    (C_has_form : Cal P w K mg base k "has_form" ["thing", "deepest"] (sp_form n)) : Cal P w K mg base (k + 1) "is_of_sort" ["thing", "sort", "deepest"] (sp_sort n) := by
  refine d.cal sc_is_of_sort (fun vs H Q E h => ?_) (fun f cdv A outer s H vs Q E hr h => ?_)
  · obtain ⟨v, s, rfl, _⟩ := h
    rfl
  obtain ⟨v, so, rfl, ex, q⟩ := h
  refine ⟨_, (pss_cons (ps_if (pt_cmpR op_eq (pv 1) pe_str (nomark _)) (pss_one (ps_ret (pe_callC C_is_place hr (by omega) (by rfl) (pa_c (pv 0) pa_nil)))) pss_nil) (pss_cons (ps_if (pt_cmpR op_eq (pv 1) pe_str (nomark _)) (pss_one (ps_ret (pe_callC C_is_set hr (by omega) (by rfl) (pa_c (pv 0) pa_nil)))) pss_nil) (pss_cons (ps_if (pt_cmpR op_eq (pv 1) pe_str (nomark _)) (pss_one (ps_ret (pe_callC C_is_name hr (by omega) (by rfl) (pa_c (pv 0) pa_nil)))) pss_nil) (pss_one (ps_ret (pe_callC C_has_form hr (by omega) (by rfl) (pa_c (pv 0) (pa_c (pv 2) pa_nil)))))))), ?_⟩
  refine rd_st [some v, some (.str so), some (.int n)] rfl ?_
  simp only [tSeq, tIfS, tTest, tOp, tC, tNext, tRet, rEq, tNil, tCons, tCall, rd_v0, rd_vS, List.append_nil, V.str.injEq, V.bl.injEq, true_and, exists_eq_left', rd_ss]
  obtain ⟨⟨kd, hkd⟩, hz⟩ := ex.thing
  have e1 : ∀ b : Str, decide (V.str so = V.str b) = decide (so = b) := fun b => by simp
  unfold sortB at q
  refine ite2 (fun c => ?_) fun c => ?_
  · rw [if_pos (of_decide_eq_true c)] at q
    exact ⟨v, kd, rfl, hkd, hz, q⟩
  rw [if_neg (of_decide_eq_false (Bool.eq_false_iff.mpr c))] at q
  refine ite2 (fun c => ?_) fun c => ?_
  · rw [if_pos (of_decide_eq_true c)] at q
    exact ⟨v, kd, rfl, hkd, hz, q⟩
  rw [if_neg (of_decide_eq_false (Bool.eq_false_iff.mpr c))] at q
  refine ite2 (fun c => ?_) fun c => ?_
  · rw [if_pos (of_decide_eq_true c)] at q
    exact ⟨v, rfl, ⟨⟨kd, hkd⟩, hz⟩, q⟩
  rw [if_neg (of_decide_eq_false (Bool.eq_false_iff.mpr c))] at q
  exact ⟨v, rfl, ex, q⟩
abbrev s_has_form : Stmt := top 23
theorem sc_has_form : FnScope ["thing", "deepest", "sorts"] ["thing", "deepest"] (defScope s_has_form) := ⟨rfl, rfl, rfl, by decide +kernel, rfl, by decide +kernel, by decide +kernel⟩
theorem ok_form {n k : Nat} (T : Txt K mg w tw rw fa cLeftovers) (d : Dfn K mg "has_form" s_has_form ["thing", "deepest"]) (C_is_of_sort : Cal P w K mg base k "is_of_sort" ["thing", "sort", "deepest"] (sp_sort' n)) : Cal P w K mg base (k + 1) "has_form" ["thing", "deepest"] (sp_form n) := by
  refine d.cal sc_has_form (fun vs H Q E h => ?_) (fun f cdv A outer s H vs Q E hr h => ?_)
  · obtain ⟨v, rfl, _⟩ := h
    rfl
  obtain ⟨v, rfl, ex, q⟩ := h
  refine ⟨_, (pss_cons (ps_if (PW.pt (pw_or (pt_cmpR op_eq (pv 1) pe_int (nomark _)) (pw_or (pt_not (pt_val (pe_cB call_isk (by rfl) T.b_isinstance boot_isinstance (pa_c (pv 0) (pa_c (pe_bltn (v := .ty "tuple") (by rfl) T.b_tuple boot_tuple (by rfl)) pa_nil))))) (pw_or1 (pt_cmpR op_eq (pe_cB (call_len_seqK K) (by rfl) T.b_len boot_len (pa_c (pv 0) pa_nil)) pe_int (nomark _)))))) (pss_one (ps_ret pe_bl)) pss_nil) (pss_cons (ps_if (PW.pt (pw_or (pt_not (pt_val (pe_cB call_isk (by rfl) T.b_isinstance boot_isinstance (pa_c (pe_ix (ix_tupK K) (pv 0) pe_int (fun _ _ => rfl)) (pa_c (pe_bltn (v := .ty "str") (by rfl) T.b_str boot_str (by rfl)) pa_nil))))) (pw_or1 (pt_cmpR (op_notin_dct K w) (pe_ix (ix_tupK K) (pv 0) pe_int (fun _ _ => rfl)) (pe_gl (by rfl) T.g_FORMS) (by with_unfolding_all rfl))))) (pss_one (ps_ret pe_bl)) pss_nil) (pss_cons (ps_set (i := 2) sc_has_form.nd rfl (Or.inl rfl) (pe_ix (ix_dct K w) (pe_gl (by rfl) T.g_FORMS) (pe_ix (ix_tupK K) (pv 0) pe_int (fun _ _ => rfl)) (fun _ _ => rfl))) (pss_cons (ps_if (pt_cmpR op_ne (pe_cB (call_len_seqK K) (by rfl) T.b_len boot_len (pa_c (pv 0) pa_nil)) (pe_op op_add pe_int (pe_cB (call_len_seqK K) (by rfl) T.b_len boot_len (pa_c (pv 2) pa_nil))) (nomark _)) (pss_one (ps_ret pe_bl)) pss_nil) (pss_one (ps_ret (pe_cB (call_all_blK K rfl) (by rfl) T.b_all boot_all (pa_c (pe_lcomp ["part", "sort"] [(1, "deepest")] (CompOk.of rfl (by rfl) (by rfl)) (by rfl) (pi_zipK K (by rfl) T.b_zip (pa_c (pe_slice (sl_tupNK K) (pv 0) (po_some pe_int) po_none) (pa_c (pv 2) pa_nil))) (fun _ _ _ _ _ => (pg_tupK K (n := 2) rfl (pgs_cons (pg_name (i := 0) (show List.Nodup (["part", "sort", "deepest"] : List Str) by decide +kernel) (by rfl) (Or.inl (by rfl))) (pgs_cons (pg_name (i := 1) (show List.Nodup (["part", "sort", "deepest"] : List Str) by decide +kernel) (by rfl) (Or.inl (by rfl))) pgs_nil)))) (fun _ _ _ _ _ => pf_nil) (fun _ _ _ _ _ => (pe_callC C_is_of_sort hr (by omega) (by rfl) (pa_c (pv 0) (pa_c (pv 1) (pa_c (pe_op op_sub (pv 2) pe_int) pa_nil)))))) pa_nil)))))))), ?_⟩
  refine rd_st [some v, some (.int n), none] rfl ?_
  simp only [iZip, rInD, rIxD, rLen, rAll, rSlTN, tSeq, tIfS, tTest, tB, tOp, tC, tOr, tNot, tNext, tRet, gName, tAsg, rI0, rEq, rNe, tNil, tCons, tCB, tNoPart, tPart, tSl, rIxT, rd_v0, rd_vS, rd_comp, List.set_cons_zero, List.set_cons_succ, V.int.injEq, V.bl.injEq, V.ref.injEq, V.ty.injEq, List.cons.injEq, and_true, true_and, exists_eq_left', exists_and_left, if_true, rd_ii, and_assoc]
  cases n with
  | zero =>
    rw [decide_eq_true (show ((0 : Nat) : Int) = 0 from rfl)]
    exact iteT (q H (Same.refl H))
  | succ n =>
  rw [decide_eq_false (show ¬ ((n + 1 : Nat) : Int) = 0 by omega)]
  obtain ⟨⟨⟨kd, hkd⟩, hz⟩, hin⟩ := id ex
  refine iteF ⟨kd, hkd, by decide, ?_⟩
  cases hkd with
  | tup e =>
    rename_i a xs
    obtain ⟨hl, hx⟩ := hin a xs rfl e
    have hS : SqT K H a xs := .of e
    refine iteF ⟨a, rfl, xs, .inr hS, ?_⟩
    cases xs with
    | nil =>
      have h := q H (Same.refl H)
      simp only [formH, e] at h
      exact iteT h
    | cons x0 r =>
    rw [decide_eq_false (show ¬ (((x0 :: r).length : Nat) : Int) = 0 by rw [List.length_cons]; omega)]
    obtain ⟨⟨k0, hk0⟩, _⟩ := (hx x0 List.mem_cons_self).thing
    refine iteF ⟨a, rfl, _, hS, _, atI_0, k0, hk0, by decide, ?_⟩
    cases hk0 with
    | str wd =>
      have q' : ∀ H', Same H H' → Q (.bl (match forms.lookup wd with | some ss => zipB (formH H n) r ss | none => false)) H' := fun H' g => by
        have h := q H' g
        simp only [formH, e] at h
        exact h
      obtain ⟨fm, hd, hf⟩ := T.f_FORMS.ex
      refine iteF ⟨a, rfl, _, hS, _, atI_0, wd, rfl, fm, hd, ?_⟩
      rcases hf wd with ⟨ss, b, hls, hfw, hst⟩ | ⟨hls, hfw⟩
      · rw [hls] at q'
        replace q' : ∀ H', Same H H' → Q (.bl (zipB (formH H n) r ss)) H' := q'
        rw [hfw]
        refine iteF ⟨a, rfl, _, hS, _, atI_0, wd, rfl, fm, hd, .ref b, hfw, a, rfl, _, .inr hS, b, rfl, _, .inr (hst H), ?_⟩
        rw [List.length_cons, List.length_map]
        by_cases hlen : r.length = ss.length
        · rw [decide_eq_true (show (((r.length + 1 : Nat)) : Int) = 1 + (ss.length : Int) by omega)]
          refine iteF ⟨a, rfl, _, hS, slice_not (by simp), fun p H1 n1 => ?_⟩
          have ec : cutL (V.str wd :: r) (some 1) none = r := by
            rw [show ((1 : Int)) = ((1 : Nat) : Int) from rfl, cutL_from]
            rfl
          rw [ec] at n1
          have lr : r.length ≤ 1000 := by rw [List.length_cons] at hl; omega
          refine ⟨b, rfl, ⟨_, .of n1.at'⟩, ⟨_, hst H1⟩, cz_map (K := K) (a := p) (b := b) (xs := r) (ys := ss.map V.str) (fun σ => ∃ v1 v2, σ = [v1, v2, some (.int ((n + 1 : Nat) : Int))]) (fun i => .bl (sortB (formH H n) (r.getD i .non) (ss.getD i ""))) lr (by rw [List.length_map]; exact hlen) (.of n1.at') (hst H1) ⟨_, _, rfl⟩ ?_ ?_⟩
          · rintro D i σ G G' pp x y ex1 ey1 g hD hD' ⟨v1, v2, rfl⟩ nw
            rw [List.getElem?_map] at ey1
            obtain ⟨sx, es, rfl⟩ := Option.map_eq_some_iff.mp ey1
            have hi : i < r.length := (List.getElem?_eq_some_iff.mp ex1).1
            have mx : x ∈ r := List.mem_of_getElem? ex1
            have gx : Same H G' := n1.g.trans (g.trans nw.g)
            have exx := hx x (List.mem_cons_of_mem _ mx)
            simp only [tOp, tC, gName, gNil, gCons, gTup, rI0, tNil, tCons, tCall, tYes, rd_v0, rd_vS, List.set_cons_zero, List.set_cons_succ, List.append_nil, V.int.injEq, V.ref.injEq, exists_eq_left', exists_and_left, if_true]
            refine ⟨_, .of nw.at', rfl, _, _, rfl, _, _, rfl, rfl, ?_⟩
            have en : (((n + 1 : Nat) : Int) - 1) = (n : Int) := by omega
            rw [en]
            refine ⟨x, sx, rfl, exx.same gx, fun G2 g2 => cz_step lr hi hD (g2 _ _ (nw.g _ _ hD')) (g.trans (nw.g.trans g2)) ⟨_, _, rfl⟩ ?_⟩
            have e1 : r.getD i .non = x := by rw [List.getD_eq_getElem?_getD, ex1]; rfl
            have e2 : ss.getD i "" = sx := by rw [List.getD_eq_getElem?_getD, es]; rfl
            rw [e1, e2]
            unfold sortB
            rw [formH_same gx exx]
          · intro D G hD g eD
            refine ⟨D, rfl, (List.range r.length).map fun i => sortB (formH H n) (r.getD i .non) (ss.getD i ""), .of (by rw [eD, List.map_map]; rfl), ?_⟩
            have h := q' G (n1.g.trans g)
            rw [zipB_range hlen] at h
            rw [List.all_map]
            exact h
        · rw [decide_eq_false (show ¬ (((r.length + 1 : Nat)) : Int) = 1 + (ss.length : Int) by omega)]
          have h := q' H (Same.refl H)
          rw [zipB_len hlen] at h
          exact iteT h
      · rw [hls] at q'
        rw [hfw]
        exact iteT (q' H (Same.refl H))
    | _ =>
      have h := q H (Same.refl H)
      simp only [formH, e] at h
      exact iteT h
  | non => exact iteT (q H (Same.refl H))
  | bl b => exact iteT (q H (Same.refl H))
  | int i => exact iteT (q H (Same.refl H))
  | str z => exact iteT (q H (Same.refl H))
  | lst e =>
    have h := q H (Same.refl H)
    simp only [formH, e] at h
    exact iteT h
  | dK e =>
    have h := q H (Same.refl H)
    simp only [formH, e] at h
    exact iteT h
theorem all_form (T : Txt K mg w tw rw fa cLeftovers) (d1 : Dfn K mg "is_of_sort" s_is_of_sort ["thing", "sort", "deepest"]) (d2 : Dfn K mg "has_form" s_has_form ["thing", "deepest"]) (C1 : Cal P w K mg base 2 "is_place" ["thing"] (sp_pl SMALL)) (C2 : Cal P w K mg base 2 "is_set" ["thing"] (sp_pl GREAT)) (C3 : Cal P w K mg base 3 "is_name" ["thing"] sp_nm) :
    ∀ n, Cal P w K mg base (2 * n + 4) "has_form" ["thing", "deepest"] (sp_form n) ∧ Cal P w K mg base (2 * n + 5) "is_of_sort" ["thing", "sort", "deepest"] (sp_sort n)
  | 0 => by
    have c := ok_form (n := 0) T d2 ((d1.never (sp := sp_sort' 0) fun vs H Q E h => h).mono (Nat.zero_le 3) : Cal P w K mg base 3 _ _ _)
    exact ⟨c, ok_sort (by decide) T d1 C1 C2 C3 c⟩
  | n + 1 => by
    have ih := all_form T d1 d2 C1 C2 C3 n
    have c := ok_form (n := n + 1) T d2 ih.2
    exact ⟨c, ok_sort (by omega) T d1 C1 C2 C3 c⟩
end
section
variable {P : Program} {w : World} {K : PySem.W.Frag} {mg : Str → Option Value} {base : Heap} {tw rw fa cLeftovers : Addr}
abbrev s_law_row : Stmt := top 54
theorem sc_law_row : FnScope ["_law_cells", "_law_frame_here", "_law_mixed_here", "_law_row_here", "_law_at", "_law_k", "_law_place"] ["_law_cells", "_law_frame_here", "_law_mixed_here"] (defScope s_law_row) := ⟨rfl, rfl, rfl, by decide +kernel, rfl, by decide +kernel, by decide +kernel⟩
theorem ok_row10 (T : Txt K mg w tw rw fa cLeftovers) (d : Dfn K mg "_law_row" s_law_row ["_law_cells", "_law_frame_here", "_law_mixed_here"]) (C_law_mixed : Cal P w K mg base 1 "_law_mixed" ["_law_cell"] sp_mixed) : Cal P w K mg base 2 "_law_row" ["_law_cells", "_law_frame_here", "_law_mixed_here"] sp_row10 := by
  refine d.cal sc_law_row (fun vs H Q E h => ?_) (fun f cdv A outer s H vs Q E hr h => ?_)
  · obtain ⟨c, b, ns, tl, n, rfl, _⟩ := h
    rfl
  obtain ⟨c, b, ns, tl, n, rfl, ec, h1, h63, eb, ht, hn, q⟩ := h
  refine ⟨_, (pss_cons (ps_setC (i := 3) sc_law_row.nd rfl (Or.inl rfl) ["_law_cell"] [(1, "_law_frame_here")] (CompOk.of rfl (by rfl) (by rfl)) (by rfl) (pi_listK K (pv 0)) (fun _ _ _ _ _ => (pg_name (i := 0) (show List.Nodup (["_law_cell", "_law_frame_here"] : List Str) by decide +kernel) (by rfl) (Or.inl (by rfl)))) (fun _ _ _ _ _ => pf_nil) (fun _ _ _ _ _ => (pe_op op_mod (pe_op op_fdiv (pe_callC C_law_mixed hr (by omega) (by rfl) (pa_c (pv 0) pa_nil)) pe_int) (pe_ix (ix_listK K) (pe_lstN (pa_c pe_int (pa_c pe_int (pa_c pe_int (pa_c pe_int pa_nil))))) (pe_cB (call_len_seqK K) (by rfl) T.b_len boot_len (pa_c (pv 1) pa_nil)) (fun _ _ => rfl))))) (pss_cons (ps_set (i := 4) sc_law_row.nd rfl (Or.inl rfl) (pe_op op_mod (pv 2) (pe_cB (call_len_seqK K) (by rfl) T.b_len boot_len (pa_c (pv 3) pa_nil)))) (pss_cons (ps_for PassesOwn.never rfl (pi_range1 (by rfl) T.b_range (pa_c (pe_cB (call_len_seqK K) (by rfl) T.b_len boot_len (pa_c (pv 1) pa_nil)) pa_nil)) (pg_name (i := 5) sc_law_row.nd (by rfl) (Or.inl (by rfl))) (pss_one (ps_if (pt_cmpR (op_in_seqK K) (pe_ix (ix_listK K) (pv 1) (pv 5) (fun _ _ => rfl)) (pe_tupN (pa_c pe_str (pa_c pe_str pa_nil))) (by with_unfolding_all rfl)) (pss_cons (ps_for PassesOwn.never rfl (pi_range1 (by rfl) T.b_range (pa_c (pe_cB (call_len_seqK K) (by rfl) T.b_len boot_len (pa_c (pv 3) pa_nil)) pa_nil)) (pg_name (i := 6) sc_law_row.nd (by rfl) (Or.inl (by rfl))) (pss_one (ps_asg (pe_op op_sub (pe_ix (ix_listK K) (pv 3) (pv 6) (fun _ _ => rfl)) (pe_op op_mul (pe_op op_mod (pe_op op_fdiv (pe_ix (ix_listK K) (pv 3) (pv 6) (fun _ _ => rfl)) (pe_ix (ix_listK K) (pe_lstN (pa_c pe_int (pa_c pe_int (pa_c pe_int pa_nil)))) (pv 5) (fun _ _ => rfl))) pe_int) (pe_ix (ix_listK K) (pe_lstN (pa_c pe_int (pa_c pe_int (pa_c pe_int pa_nil)))) (pv 5) (fun _ _ => rfl)))) (pg_sub (pv 3) (pv 6) set_list)))) (pss_cons (ps_asg (pe_op op_add (pe_ix (ix_listK K) (pv 3) (pv 4) (fun _ _ => rfl)) (pe_ix (ix_listK K) (pe_lstN (pa_c pe_int (pa_c pe_int (pa_c pe_int pa_nil)))) (pv 5) (fun _ _ => rfl))) (pg_sub (pv 3) (pv 4) set_list)) (pss_one (ps_set (i := 4) sc_law_row.nd rfl (Or.inl rfl) (pe_op op_mod (pe_ix (ix_listK K) (pe_lstN (pa_c (pe_op op_add (pv 4) pe_int) (pa_c (pe_op op_mod (pe_op op_fdiv (pv 2) pe_int) (pe_cB (call_len_seqK K) (by rfl) T.b_len boot_len (pa_c (pv 3) pa_nil))) (pa_c (pv 4) (pa_c (pe_op op_sub (pe_op op_add (pv 4) (pe_cB (call_len_seqK K) (by rfl) T.b_len boot_len (pa_c (pv 3) pa_nil))) pe_int) pa_nil))))) (pe_op op_mod (pe_op op_fdiv (pv 2) pe_int) pe_int) (fun _ _ => rfl)) (pe_cB (call_len_seqK K) (by rfl) T.b_len boot_len (pa_c (pv 3) pa_nil))))))) pss_nil))) (pss_one (ps_ret (pv 3)))))), ?_⟩
  refine rd_st [some (.ref c), some (.ref b), some (.int n), none, none, none, none] rfl ?_
  simp only [rLen, tSeq, tOp, gName, tAsg, rI, tNil, tCons, tCB, iList, iRng1, rd_v0, rd_vS, rd_comp, rd_for, List.set_cons_zero, List.set_cons_succ, V.int.injEq, V.ref.injEq, List.cons.injEq, and_true, exists_eq_left', exists_and_left]
  obtain ⟨⟨hl1, hl3⟩, fo, hz4, hfr, hP⟩ := fr10 ht
  have h8 : 2 ^ tl.length ≤ 8 := Nat.pow_le_pow_right (by decide) hl3
  have hpi : ∀ k, k < 3 → ([V.int 1, V.int 2, V.int 4] : List V)[k]? = some (nV (2 ^ k)) := fun k hk => by
    rcases (show k = 0 ∨ k = 1 ∨ k = 2 by omega) with rfl | rfl | rfl <;> rfl
  have hpi4 : ([V.int 1, V.int 2, V.int 4, V.int 8] : List V)[tl.length]? = some (nV (2 ^ tl.length)) := by
    rcases (show tl.length = 1 ∨ tl.length = 2 ∨ tl.length = 3 by omega) with e | e | e <;> rw [e] <;> rfl
  refine ⟨⟨_, .of ec⟩, cg_by (n := ns.length) (fun σ => ∃ v, σ = [v, some (.ref b)]) (fun j y H => ∃ x : Nat, x < 2 ^ tl.length ∧ y = nV x) (by omega) ⟨_, rfl⟩ (fun i H5 hi gh => ⟨_, .int ns[i], .of (gh _ _ ec), by rw [List.getElem?_map, List.getElem?_eq_getElem hi]; rfl⟩) (fun H5 gh => ⟨_, .of (gh _ _ ec), by rw [List.length_map]; exact Nat.le_refl _⟩) ?_ ?_⟩
  · rintro D i ys σ H5 x H5' hi gh hD hD' hl hy' ⟨v, rfl⟩ ⟨rfl, yx⟩
    have ex := yx _ (.of (gh _ _ ec))
    rw [List.getElem?_map, List.getElem?_eq_getElem hi] at ex
    cases ex
    simp only [rLen, tLstN, tOp, tC, gName, rI, tNil, tCons, tCall, tCB, rIxL, tYes, rd_v0, rd_vS, List.set_cons_zero, List.append_nil, V.int.injEq, V.ref.injEq, List.cons.injEq, and_true, exists_eq_left', exists_and_left, if_true]
    refine ⟨_, rfl, fun r0 h0 hr1 => ⟨_, rfl, ⟨by decide, by decide⟩, small_line (by simp), fun p Hp np => ⟨_, .inl (.of ((gh.trans np.g) _ _ eb)), _, np.lst, _, by rw [List.length_map]; exact atI_nat hpi4, _, rfl, by have := Nat.two_pow_pos tl.length; omega, ?_⟩⟩⟩
    have hp0 : 0 < 2 ^ tl.length := Nat.two_pow_pos tl.length
    have e1 : 0 ≤ r0 / 3 % ((2 ^ tl.length : Nat) : Int) := Int.emod_nonneg _ (by omega)
    have e2 : r0 / 3 % ((2 ^ tl.length : Nat) : Int) < ((2 ^ tl.length : Nat) : Int) := Int.emod_lt_of_pos _ (by omega)
    refine cg_step (fun j y H H' ts z => z) (by omega) hi hD (np.g _ _ hD') hl hy' np.g.tups (gh.trans np.g) ⟨_, rfl⟩ ⟨(r0 / 3 % ((2 ^ tl.length : Nat) : Int)).toNat, by omega, ?_⟩
    show V.int _ = V.int _
    congr 1
    omega
  intro pr ys H1 hpr g1 epr hyl hy
  obtain ⟨row0, rfl, hrow0⟩ := nats_of hy
  rw [List.length_map] at hyl
  have eb1 := g1 _ _ eb
  refine ⟨pr, rfl, _, .inl (.of epr), by rw [List.length_map]; omega, _, .inl (.of eb1), by rw [List.length_map]; omega, by rw [List.length_map]; omega, ?_⟩
  rw [List.length_map, List.length_map, Int.toNat_natCast]
  refine fb_range (fun k σ H' => Same H H' ∧ ∃ row at' v5 v6, σ = [some (.ref c), some (.ref b), some (.int n), some (.ref pr), some (nV at'), v5, v6] ∧ H' pr = some (.lst (row.map nV)) ∧ row.length = ns.length ∧ (∀ c ∈ row, c < 2 ^ tl.length) ∧ Fit10 tl k row ∧ at' < ns.length)
    ⟨g1, row0, (n % (row0.length : Int)).toNat, none, none, ?_, epr, hyl, hrow0, fun j hj => absurd hj (by omega), ?_⟩ ?_ ?_
  · have := Int.emod_nonneg n (show (row0.length : Int) ≠ 0 by omega)
    show _ = [_, _, _, _, some (V.int _), _, _]
    rw [Int.toNat_of_nonneg this]
  · have := Int.emod_nonneg n (show (row0.length : Int) ≠ 0 by omega)
    have := Int.emod_lt_of_pos n (show (0 : Int) < (row0.length : Int) by omega)
    omega
  · rintro k σ H' hk ⟨g, row, at', v5, v6, rfl, ep, hlen, hc, F, ha⟩
    have ek : (tl.map V.str)[k]? = some (.str tl[k]) := by rw [List.getElem?_map, List.getElem?_eq_getElem hk]; rfl
    have hp2 : 1 ≤ 2 ^ k ∧ 2 ^ k ≤ 4 := by rcases (show k = 0 ∨ k = 1 ∨ k = 2 by omega) with rfl | rfl | rfl <;> decide
    have egd : tl.getD k (Str.ofString "") = tl[k] := by rw [List.getD_eq_getElem?_getD, List.getElem?_eq_getElem hk]; rfl
    simp only [rLen, tTupN, tSeq, tIfS, tTest, tOp, tC, tNext, gName, tNil, tCons, tCB, rIxL, rIn, iRng1, rd_v0, rd_vS, rd_for, List.set_cons_zero, List.set_cons_succ, V.int.injEq, V.bl.injEq, V.ref.injEq, List.cons.injEq, and_true, true_and, exists_eq_left', exists_and_left, if_false, Option.some.injEq, and_assoc, reduceCtorEq]
    rw [Int.zero_add]
    refine ⟨_, .of (g _ _ eb), _, atI_nat ek, small_line (by simp), fun p1 H2 n2 => ⟨_, .inr (.of n2.at'), rfl, rfl, ?_⟩⟩
    have hxy : inV (V.str tl[k]) [V.str "x", V.str "y"] = isXY tl[k] := inV_strs _ ["x", "y"]
    rw [hxy]
    have g2 := g.trans n2.g
    cases hX : isXY tl[k] with
    | false =>
      refine iteF ?_
      refine ⟨g2, row, at', rfl, n2.g _ _ ep, hlen, hc, fun j hj hj' => ?_, ha⟩
      by_cases e : j = k
      · subst e; rw [egd, hX] at hj'; cases hj'
      · exact F j (by omega) hj'
    | true =>
      refine iteT ⟨_, .inl (.of (n2.g _ _ ep)), by rw [List.length_map]; omega, by rw [List.length_map]; omega, ?_⟩
      rw [List.length_map, Int.toNat_natCast]
      refine fb_range (fun i σ H'' => Same H H'' ∧ ∃ v6, σ = [some (.ref c), some (.ref b), some (.int n), some (.ref pr), some (nV at'), some (nV k), v6] ∧ H'' pr = some (.lst ((clrs k i row).map nV)))
        ⟨g2, _, rfl, by simpa [clrs] using n2.g _ _ ep⟩ ?_ ?_
      · rintro i σ H'' hi ⟨gg, v6', rfl, ep'⟩
        have hci := hc _ (List.getElem_mem hi)
        have hai : ((clrs k i row).map nV)[i]? = some (nV row[i]) := by rw [List.getElem?_map, clrs_at hi]; rfl
        simp only [rSetL, gSub, tLstN, tOp, tC, gName, tAsg, rI, rI0, tNil, tCons, rIxL, rd_v0, rd_vS, List.set_cons_zero, List.set_cons_succ, V.int.injEq, V.ref.injEq, List.cons.injEq, and_true, true_and, exists_eq_left', exists_and_left]
        rw [Int.zero_add]
        refine ⟨_, .of ep', _, atI_nat hai, _, .of ep', _, atI_nat hai, small_line (by simp), fun p4 H4 n4 => ⟨_, n4.lst, _, atI_nat (hpi k (by omega)), _, rfl, _, rfl, ⟨by omega, by omega⟩, by decide, small_line (by simp), fun p5 H5 n5 => ⟨_, n5.lst, _, atI_nat (hpi k (by omega)), _, rfl, .inr ⟨by omega, by omega⟩, _, rfl, _, (n4.g.trans n5.g) _ _ ep', i, ixN10 (by rw [List.length_map, clrs_len (by omega)]; exact hi), ?_⟩⟩⟩
        refine ⟨(gg.trans (n4.g.trans n5.g)).wr hpr _, ?_⟩
        rw [upd_same, clr_int hl3 hk hci, ← clrs_next hi, List.map_set]
      · rintro σ H'' ⟨gg, v6', rfl, ep'⟩
        rw [clrs_all] at ep'
        have hat : at' < (row.map (clr k)).length := by rw [List.length_map]; omega
        have hgd : (row.map (clr k)).getD at' 0 = (row.map (clr k))[at'] := by rw [List.getD_eq_getElem?_getD, List.getElem?_eq_getElem hat]; rfl
        have eat : ((row.map (clr k)).map nV)[at']? = some (nV (row.map (clr k))[at']) := by rw [List.getElem?_map, List.getElem?_eq_getElem hat]; rfl
        obtain ⟨hc', F'⟩ := fit10_next hl3 hk hc F (show at' < row.length by omega)
        have hl' : ((row.map (clr k)).set at' ((row.map (clr k)).getD at' 0 + 2 ^ k)).length = ns.length := by rw [List.length_set, List.length_map]; exact hlen
        have em : ((row.map (clr k)).map nV).set at' (V.int (((row.map (clr k))[at'] : Nat) + ((2 ^ k : Nat) : Int))) = ((row.map (clr k)).set at' ((row.map (clr k)).getD at' 0 + 2 ^ k)).map nV := by
          rw [List.map_set, hgd]
          congr 1
        generalize (row.map (clr k)).set at' ((row.map (clr k)).getD at' 0 + 2 ^ k) = row2 at hc' F' hl' em
        simp only [rSetL, gSub, rLen, tLstN, tSeq, tOp, tC, gName, tAsg, rI, rI0, tNil, tCons, tCB, rIxL, rd_v0, rd_vS, List.set_cons_zero, List.set_cons_succ, V.int.injEq, V.ref.injEq, List.cons.injEq, and_true, true_and, exists_eq_left', exists_and_left, Option.some.injEq, and_assoc]
        refine ⟨_, .of ep', _, atI_nat eat, small_line (by simp), fun p4 H4 n4 => ⟨_, n4.lst, _, atI_nat (hpi k (by omega)), _, rfl, _, rfl, _, n4.g _ _ ep', at', ixN10 (by rw [List.length_map]; exact hat), ?_⟩⟩
        rw [em]
        have e6 : upd H4 pr (.lst (row2.map nV)) pr = some (.lst (row2.map nV)) := upd_same
        have g6 : Same H (upd H4 pr (.lst (row2.map nV))) := (gg.trans n4.g).wr hpr _
        generalize upd H4 pr (.lst (row2.map nV)) = H6 at e6 g6
        refine ⟨⟨by decide, by decide⟩, _, .inl (.of e6), by rw [List.length_map]; omega, _, .inl (.of e6), small_line (by simp), fun p7 H7 n7 => ⟨⟨by decide, by decide⟩, by decide, _, n7.lst, ?_⟩⟩
        obtain ⟨y, hy', my⟩ := atI_mod (i := n / 1000) (xs := ([V.int ((at' : Int) + 1), V.int (n / 31 % ((row2.map nV).length : Int)), nV at', V.int ((at' : Int) + ((row2.map nV).length : Int) - 1)] : List V)) (n := 4) rfl (by decide)
        refine ⟨y, hy', _, .inl (.of (n7.g _ _ e6)), ?_⟩
        obtain ⟨x, rfl⟩ : ∃ x : Int, y = .int x := by
          simp only [List.mem_cons, List.not_mem_nil, or_false] at my
          rcases my with rfl | rfl | rfl | rfl <;> exact ⟨_, rfl⟩
        have h1' := Int.emod_nonneg x (show ((row2.map nV).length : Int) ≠ 0 by rw [List.length_map]; omega)
        have h2' := Int.emod_lt_of_pos x (show (0 : Int) < ((row2.map nV).length : Int) by rw [List.length_map]; omega)
        rw [List.length_map] at h1' h2'
        refine ⟨x, rfl, by rw [List.length_map]; omega, ?_⟩
        refine ⟨g6.trans n7.g, row2, (x % ((row2.map nV).length : Int)).toNat, by rw [List.length_map]; omega, n7.g _ _ e6, hl', hc', F', by rw [List.length_map]; omega⟩
  · rintro σ H' ⟨g, row, at', v5, v6, rfl, ep, hlen, hc, F, ha⟩
    simp only [tRet, rd_v0, rd_vS]
    exact q pr row H' hpr g ep hlen hc F
end
section
variable {P : Program} {w : World} {K : PySem.W.Frag} {mg : Str → Option Value} {base : Heap} {tw rw fa cLeftovers : Addr}
abbrev s_Leftovers___init__ : Stmt := inClass (top 37) 0
theorem sc_Leftovers___init__ : FnScope ["self"] ["self"] (defScope s_Leftovers___init__) := ⟨rfl, rfl, rfl, by decide +kernel, rfl, by decide +kernel, by decide +kernel⟩
theorem ok_linit (T : Txt K mg w tw rw fa cLeftovers) (d : DfnI K cLeftovers "Leftovers.__init__" s_Leftovers___init__ ["self"]) : CalI P w K mg base 1 cLeftovers "Leftovers" ["self"] (sp_linit cLeftovers) := by
  refine d.cal T.m_Leftovers sc_Leftovers___init__ (fun vs H Q E h => ?_) (fun f cdv A outer s H vs Q E hr h => ?_)
  · obtain ⟨p, dx, H0, rfl, _⟩ := h
    rfl
  obtain ⟨p, dx, H0, rfl, eH, e0, e1, ne, q⟩ := h
  refine ⟨_, (pss_cons (ps_fld (pv 0) (pe_lstN (pa_c (pe_tupN (pa_c pe_str pa_nil)) (pa_c (pe_tupN (pa_c pe_str pa_nil)) pa_nil))) (by rfl)) (pss_cons (ps_fld (pv 0) pe_dnewTN (by rfl)) (pss_one (ps_fld (pv 0) pe_dnewTN (by rfl))))), ?_⟩
  refine rd_st [some (.ref p)] rfl ?_
  simp only [tDNewTN, sFld, tTupN, tLstN, cxK, tSeq, tC, tNil, tCons, rd_v0, V.ref.injEq, exists_eq_left', exists_and_left]
  have gH : Same H0 H := by rw [eH]; exact ((Same.refl H0).wr e1 _).wr e0 _
  have ep : H p = some (.ins cLeftovers dx []) := by rw [eH, upd_same]
  refine ⟨small_line (by simp), fun p1 H1 n1 => ⟨small_line (by simp), fun p2 H2 n2 => ⟨small_line (by simp), fun pf H3 n3 => ?_⟩⟩⟩
  have g3 : Same H H3 := n1.g.trans (n2.g.trans n3.g)
  have ep3 := g3 _ _ ep
  refine ⟨_, _, _, ep3, T.cl_Leftovers, T.n_forms, by simp, fun pn H4 n4 => ?_⟩
  have ep4 := n4.g _ _ upd_same
  refine ⟨_, _, _, ep4, T.cl_Leftovers, T.n_numbers, by simp [putF], fun ps H5 n5 => ?_⟩
  have ep5 := n5.g _ _ upd_same
  have hl : (putF "numbers" (V.ref pn) (putF "forms" (V.ref pf) [])).length < 1000 := by
    have := length_putF "numbers" (V.ref pn) (putF "forms" (V.ref pf) [])
    have := length_putF "forms" (V.ref pf) []
    simp only [List.length_nil] at this
    omega
  refine ⟨_, _, _, ep5, T.cl_Leftovers, T.n_steps, hl, q _ ?_⟩
  have g03 : Same H0 H3 := gH.trans g3
  have g04 : Same H0 H4 := (g03.wr e0 _).trans n4.g
  have g05 : Same H0 H5 := (g04.wr e0 _).trans n5.g
  have npn : p ≠ pn := ne_of_none upd_same n4.nil
  have nps : p ≠ ps := ne_of_none upd_same n5.nil
  have npf : p ≠ pf := ne_of_none (n1.g.trans n2.g _ _ ep) n3.nil
  have np1 : p ≠ p1 := ne_of_none ep n1.nil
  have np2 : p ≠ p2 := ne_of_none (n1.g _ _ ep) n2.nil
  have up : ∀ b o, b ≠ p → H3 b = some o → upd H5 p (.ins cLeftovers dx (putF "steps" (V.ref ps) (putF "numbers" (V.ref pn) (putF "forms" (V.ref pf) [])))) b = some o := fun b o hb e => by
    rw [upd_ne hb]
    refine n5.g _ _ ?_
    rw [upd_ne hb]
    refine n4.g _ _ ?_
    rw [upd_ne hb]
    exact e
  have en4 : upd H4 p (.ins cLeftovers dx (putF "numbers" (V.ref pn) (putF "forms" (V.ref pf) []))) pn = some (.dT []) := by rw [upd_ne (Ne.symm npn)]; exact n4.at'
  refine ⟨⟨dx, pf, pn, ps, [.ref p1, .ref p2], by rw [upd_same, fl_put], (gH.trans (n1.g.trans n2.g)).free n3.nil, (g03.wr e0 _).free n4.nil, (g04.wr e0 _).free n5.nil, ne_of_none en4 n5.nil, up _ _ (Ne.symm npf) n3.at', .cons ⟨p1, rfl, up _ _ (Ne.symm np1) ((n2.g.trans n3.g) _ _ n1.at')⟩ (.cons ⟨p2, rfl, up _ _ (Ne.symm np2) (n3.g _ _ n2.at')⟩ .nil), ?_, ?_⟩, g05.wr e0 _⟩
  · rw [upd_ne (Ne.symm npn)]; exact n5.g _ _ en4
  · rw [upd_ne (Ne.symm nps)]; exact n5.at'
abbrev s_Leftovers_numbered : Stmt := inClass (top 37) 1
theorem sc_Leftovers_numbered : FnScope ["self", "form"] ["self", "form"] (defScope s_Leftovers_numbered) := ⟨rfl, rfl, rfl, by decide +kernel, rfl, by decide +kernel, by decide +kernel⟩
theorem ok_lnum (T : Txt K mg w tw rw fa cLeftovers) (d : DfnM K cLeftovers "numbered" "Leftovers.numbered" s_Leftovers_numbered ["self", "form"]) : CalM P w K mg base 1 cLeftovers "numbered" ["self", "form"] (sp_lnum cLeftovers) := by
  refine d.cal sc_Leftovers_numbered (fun vs H Q E h => ?_) (fun f cdv A outer s H vs Q E hr h => ?_)
  · obtain ⟨p, a, H0, rest, sts, k, rfl, _⟩ := h
    rfl
  obtain ⟨p, a, H0, rest, sts, k, rfl, L, h10, ea, q⟩ := h
  have hu := hu_at hr 8 (by decide)
  refine ⟨_, (pss_cut (ps_if (pt_cmpR (op_notin_d hu) (pv 1) (pe_fld (pv 0) (by rfl)) (by with_unfolding_all rfl)) (pss_cons (ps_dputH hu (pe_fld (pv 0) (by rfl)) (pv 1) (pe_cB (call_len_seqK K) (by rfl) T.b_len boot_len (pa_c (pe_fld (pv 0) (by rfl)) pa_nil)) rfl) (pss_one (ps_expr (pe_bmK K PySem.F.plainAttrs_list PySem.F.slot_list_append PySem.F.type_list_append mt_append (pe_fld (pv 0) (by rfl)) (pa_c (pv 1) pa_nil))))) pss_nil) (pss_one (ps_ret (pe_dgetH hu (pe_fld (pv 0) (by rfl)) (pv 1) (fun _ _ => rfl))))), ?_⟩
  refine rd_st [some (.ref p), some (.ref a)] rfl ?_
  refine ⟨fun σ' H' => σ' = [some (.ref p), some (.ref a)] ∧ TupS H H' ∧ H' a = some (.tup (k.map kV)) ∧ Lf cLeftovers H0 H' p (nxt rest k) sts, ?_, ?_⟩
  · simp only [rInDc, sDPut, tFld, rLen, cxK, tSeq, tIfS, tTest, tOp, tNext, tDrop, tNil, tCons, tCB, tBM, tyV, rAppend, rd_v0, rd_vS, V.bl.injEq, V.ref.injEq, List.cons.injEq, and_true, true_and, exists_eq_left', exists_and_left, if_true]
    obtain ⟨⟨dx, pf, pn, ps, rs, e1, z2, z3, z4, ne, e6, e7, e8, e9⟩, g0⟩ := id L
    have hrl := SS.Paired.len e7
    simp only [List.length_cons] at hrl
    refine ⟨_, _, _, e1, T.cl_Leftovers, T.n_numbers, _, fl_numbers, pn, rfl, _, DGet.t e8 ea, ?_⟩
    have hv := tabF_val (key := (id : List Key → List Key)) id_inj k rest 2
    by_cases hin : k ∈ rest
    · rw [if_pos hin] at hv
      rw [show valV (tabF id 2 rest) k = _ from hv]
      rw [nxt_in hin]
      exact iteF ⟨TupS.refl _, ea, L⟩
    · rw [if_neg hin] at hv
      rw [show valV (tabF id 2 rest) k = _ from hv]
      have npn : p ≠ pn := ne_of e1 e8 (by intro z; cases z)
      have npf : p ≠ pf := ne_of e1 e6 (by intro z; cases z)
      have nfn : pf ≠ pn := ne_of e6 e8 (by intro z; cases z)
      have nfs : pf ≠ ps := ne_of e6 e9 (by intro z; cases z)
      have nps : p ≠ ps := ne_of e1 e9 (by intro z; cases z)
      have na : a ≠ pn := ne_of ea e8 (by intro z; cases z)
      have naf : a ≠ pf := ne_of ea e6 (by intro z; cases z)
      have e1' : ∀ o, upd H pn o p = some (.ins cLeftovers dx (fl3 (.ref pf) (.ref pn) (.ref ps))) := fun o => by rw [upd_ne npn]; exact e1
      have e6' : ∀ o, upd H pn o pf = some (.lst rs) := fun o => by rw [upd_ne nfn]; exact e6
      refine iteT ⟨_, _, _, e1, T.cl_Leftovers, T.n_forms, _, fl_forms, pf, rfl, _, .inl (.of e6), _, _, _, e1, T.cl_Leftovers, T.n_numbers, _, fl_numbers, pn, rfl, _, DPut.t e8 ea (by rw [tabF_len]; exact small1000 (by omega)), _, _, _, e1' _, T.cl_Leftovers, T.n_forms, _, fl_forms, .inl ⟨_, .of (e6' _)⟩, pf, rfl, _, e6' _, small1000 (by omega), ?_⟩
      have ek : putK (tabF id 2 rest) k (V.int (rs.length : Int)) = tabF id 2 (rest ++ [k]) := by
        rw [putK_new _ (show valV (tabF id 2 rest) k = none from hv), tabF_snoc, hrl]
        show _ ++ [(k, V.int ((rest.length + 1 + 1 : Nat) : Int))] = _ ++ [(k, V.int ((2 + rest.length : Nat) : Int))]
        rw [show rest.length + 1 + 1 = 2 + rest.length by omega]
      rw [ek, nxt_out hin]
      have tsA : TupS H (upd (upd H pn (.dT (tabF id 2 (rest ++ [k])))) pf (.lst (rs ++ [.ref a]))) := (TupS.wrT e8 _).trans (TupS.wr (e6' _) _)
      refine ⟨tsA, tsA _ _ ea, ⟨dx, pf, pn, ps, rs ++ [.ref a], by rw [upd_ne npf]; exact e1' _, z2, z3, z4, ne, upd_same, ?_, by rw [upd_ne (Ne.symm nfn), upd_same], by rw [upd_ne (Ne.symm nfs), upd_ne (Ne.symm ne)]; exact e9⟩, (g0.wr z3 _).wr z2 _⟩
      have := SM.Paired.snoc (L2.Paired.mapP e7 fun _ _ z => z.ts tsA) ⟨a, rfl, tsA _ _ ea⟩
      exact this
  · rintro σ' H' ⟨rfl, ts', ea', L'⟩
    simp only [tDGet, tFld, cxK, tRet, rd_v0, rd_vS, V.ref.injEq, exists_eq_left', exists_and_left]
    obtain ⟨⟨dx, pf, pn, ps, rs, e1, z2, z3, z4, ne, e6, e7, e8, e9⟩, g0⟩ := id L'
    have hin : k ∈ nxt rest k := by
      by_cases h : k ∈ rest
      · rw [nxt_in h]; exact h
      · rw [nxt_out h]; simp
    have z := DGet.t e8 ea'
    have hv := tabF_val (key := (id : List Key → List Key)) id_inj k (nxt rest k) 2
    rw [if_pos hin] at hv
    rw [show valV (tabF id 2 (nxt rest k)) k = _ from hv] at z
    exact ⟨_, _, _, e1, T.cl_Leftovers, T.n_numbers, _, fl_numbers, pn, rfl, _, z, q _ ts' L'⟩
abbrev s_bit_of : Stmt := top 35
theorem sc_bit_of : FnScope ["name", "names"] ["name", "names"] (defScope s_bit_of) := ⟨rfl, rfl, rfl, by decide +kernel, rfl, by decide +kernel, by decide +kernel⟩
theorem ok_bitof (T : Txt K mg w tw rw fa cLeftovers) (d : Dfn K mg "bit_of" s_bit_of ["name", "names"]) : Cal P w K mg base 1 "bit_of" ["name", "names"] sp_bitof := by
  refine d.cal sc_bit_of (fun vs H Q E h => ?_) (fun f cdv A outer s H vs Q E hr h => ?_)
  · obtain ⟨b, z, tl, i, rfl, _⟩ := h
    rfl
  obtain ⟨b, z, tl, i, rfl, eb, h4, ei, hi, q⟩ := h
  have hu := hu_at hr 8 (by decide)
  refine ⟨_, (pss_one (ps_ret (pe_op op_shl pe_int (pe_bmK K PySem.F.plainAttrs_list PySem.F.slot_list_index PySem.F.type_list_index (mt_indexTK K hu) (pv 1) (pa_c (pv 0) pa_nil))))), ?_⟩
  refine rd_st [some (.str z), some (.ref b)] rfl ?_
  simp only [rIndexT, tOp, tC, tRet, rI, tNil, tCons, tBM, tyV, rd_v0, rd_vS, V.int.injEq, V.str.injEq, V.ref.injEq, List.cons.injEq, and_true, true_and, exists_eq_left', exists_and_left]
  have hz : z ∈ tl := List.idxOf_lt_length_iff.mp (by rw [ei]; exact hi)
  refine ⟨.inl ⟨_, .of eb⟩, _, .of eb, hz, by omega, ⟨by omega, by omega, by decide⟩, ?_⟩
  rw [ei, Int.toNat_natCast, Int.one_mul]
  have : ((2 : Int) ^ i) = ((2 ^ i : Nat) : Int) := by simp
  rw [this]; exact q
abbrev s_Leftovers_of_saying : Stmt := inClass (top 37) 8
theorem sc_Leftovers_of_saying : FnScope ["self", "saying", "names", "word", "bit", "left"] ["self", "saying", "names"] (defScope s_Leftovers_of_saying) := ⟨rfl, rfl, rfl, by decide +kernel, rfl, by decide +kernel, by decide +kernel⟩
theorem ok_lsay (T : Txt K mg w tw rw fa cLeftovers) (d : DfnM K cLeftovers "of_saying" "Leftovers.of_saying" s_Leftovers_of_saying ["self", "saying", "names"]) (C_is_bare : Cal P w K mg base 2 "is_bare" ["saying"] sp_isbare) (C_bit_of : Cal P w K mg base 1 "bit_of" ["name", "names"] sp_bitof) (C_Leftovers_numbered : CalM P w K mg base 1 cLeftovers "numbered" ["self", "form"] (sp_lnum cLeftovers)) : CalM P w K mg base 3 cLeftovers "of_saying" ["self", "saying", "names"] (sp_lsay cLeftovers) := by
  refine d.cal sc_Leftovers_of_saying (fun vs H Q E h => ?_) (fun f cdv A outer s H vs Q E hr h => ?_)
  · obtain ⟨p, b, v, H0, wd, n, m, tl, i, j, rfl, _⟩ := h
    rfl
  obtain ⟨p, b, v, H0, wd, n, m, tl, i, j, rfl, L, r, eb, h4, ei, hi, ej, hj, q⟩ := h
  refine ⟨_, (pss_cons (ps_set (i := 3) sc_Leftovers_of_saying.nd rfl (Or.inl rfl) (pe_ix (ix_tupK K) (pv 1) pe_int (fun _ _ => rfl))) (pss_cons (ps_if (pt_val (pe_callC C_is_bare hr (by omega) (by rfl) (pa_c (pv 1) pa_nil))) (pss_one (ps_ret (pe_methC C_Leftovers_numbered T.cl_Leftovers hr (by omega) (pv 0) (pa_c (pe_tupN (pa_c (pv 3) (pa_c (pe_callC C_bit_of hr (by omega) (by rfl) (pa_c (pe_ix (ix_tupK K) (pv 1) pe_int (fun _ _ => rfl)) (pa_c (pv 2) pa_nil))) (pa_c (pe_callC C_bit_of hr (by omega) (by rfl) (pa_c (pe_ix (ix_tupK K) (pv 1) pe_int (fun _ _ => rfl)) (pa_c (pv 2) pa_nil))) pa_nil)))) pa_nil)))) pss_nil) pss_never)), ?_⟩
  refine rd_st [some (.ref p), some v, some (.ref b), none, none, none] rfl ?_
  simp only [tMeth, tTupN, tSeq, tIfS, tB, tOp, tC, tNext, tRet, gName, tAsg, tNil, tCons, tCall, rIxT, rd_v0, rd_vS, List.set_cons_zero, List.set_cons_succ, List.append_nil, V.int.injEq, V.ref.injEq, exists_eq_left', exists_and_left]
  cases r with
  | bare hw e =>
  rename_i a
  have L0 := L.ex
  obtain ⟨dx, pf, pn, ps, rs, e1, _⟩ := L0
  refine ⟨a, rfl, _, .of e, _, atI_0, _, _, rfl, .bare hw e, fun H1 g1 => ⟨_, rfl, ?_⟩⟩
  refine iteT ⟨_, _, g1 _ _ e1, fl_none (by decide) (by decide) (by decide), a, rfl, _, .of (g1 _ _ e), _, atI_nat (j := 1) rfl, b, n, tl, i, rfl, g1 _ _ eb, h4, ei, hi, a, rfl, _, .of (g1 _ _ e), _, atI_nat (j := 2) rfl, b, m, tl, j, rfl, g1 _ _ eb, h4, ej, hj, small_line (by simp), fun p4 H4 n4 => ?_⟩
  exact ⟨p, p4, H0, [], [], frmK wd i j, rfl, L.more (g1.trans n4.g), by decide, n4.at', fun H5 _ L5 => by rw [nOf_one]; exact q H5 (by rw [nxt_out (by simp)] at L5; exact L5)⟩
end
section
variable {P : Program} {w : World} {K : PySem.W.Frag} {mg : Str → Option Value} {base : Heap} {tw rw fa cLeftovers : Addr}
abbrev s_Leftovers_behind_bare : Stmt := inClass (top 37) 11
theorem sc_Leftovers_behind_bare : FnScope ["self", "left", "one", "other", "form"] ["self", "left", "one", "other"] (defScope s_Leftovers_behind_bare) := ⟨rfl, rfl, rfl, by decide +kernel, rfl, by decide +kernel, by decide +kernel⟩
theorem ok_lbb (T : Txt K mg w tw rw fa cLeftovers) (d : DfnM K cLeftovers "behind_bare" "Leftovers.behind_bare" s_Leftovers_behind_bare ["self", "left", "one", "other"]) (C_Leftovers_numbered : CalM P w K mg base 1 cLeftovers "numbered" ["self", "form"] (sp_lnum cLeftovers)) : CalM P w K mg base 2 cLeftovers "behind_bare" ["self", "left", "one", "other"] (sp_lbb cLeftovers) := by
  refine d.cal sc_Leftovers_behind_bare (fun vs H Q E h => ?_) (fun f cdv A outer s H vs Q E hr h => ?_)
  · obtain ⟨p, H0, wd, i, j, l, one, other, rest, sts, rfl, _⟩ := h
    rfl
  obtain ⟨p, H0, wd, i, j, l, one, other, rest, sts, rfl, hw, L, F, h2, hl, q⟩ := h
  refine ⟨_, (pss_cons (ps_set (i := 4) sc_Leftovers_behind_bare.nd rfl (Or.inl rfl) (pe_ix (ix_listK K) (pe_fld (pv 0) (by rfl)) (pv 1) (fun _ _ => rfl))) (pss_cons (ps_if (pt_cmpR op_eq (pe_ix (ix_tupK K) (pv 4) pe_int (fun _ _ => rfl)) pe_str (nomark _)) (pss_one (ps_ret (pe_ifExp (PW.pt (pw_and (pt_val (pv 2)) (pw_and1 (pt_not (pt_val (pv 3)))))) (pe_gl (by rfl) T.g_NO) (pv 1)))) pss_nil) (pss_cons (ps_if (pt_cmpR op_eq (pe_ix (ix_tupK K) (pv 4) pe_int (fun _ _ => rfl)) pe_str (nomark _)) (pss_one (ps_ret (pe_ifExp (pt_val (pv 2)) (pe_gl (by rfl) T.g_YES) (pe_gl (by rfl) T.g_NO)))) pss_nil) (pss_cons (ps_if (PW.pt (pw_and (pt_not (pt_val (pv 2))) (pw_and1 (PW.pt (pw_or (pt_not (pt_val (pv 3))) (pw_or1 (pt_cmpR op_eq (pe_ix (ix_tupK K) (pv 4) pe_int (fun _ _ => rfl)) pe_str (nomark _)))))))) (pss_one (ps_ret (pv 1))) pss_nil) (pss_cons (ps_if (pt_cmpR (op_in_seqK K) (pe_ix (ix_tupK K) (pv 4) pe_int (fun _ _ => rfl)) (pe_tupN (pa_c pe_str (pa_c pe_str pa_nil))) (by with_unfolding_all rfl)) (pss_one (ps_ret (pe_ifExp (PW.pt (pw_and (pt_val (pv 2)) (pw_and1 (pt_val (pv 3))))) (pe_gl (by rfl) T.g_YES) (pe_gl (by rfl) T.g_NO)))) pss_nil) (pss_cons (ps_if (pt_val (pv 3)) (pss_one (ps_ret (pe_gl (by rfl) T.g_NO))) pss_nil) (pss_one (ps_ret (pe_ifExp (pt_cmpR op_eq (pe_ix (ix_tupK K) (pv 4) pe_int (fun _ _ => rfl)) pe_str (nomark _)) (pe_gl (by rfl) T.g_YES) (pe_methC C_Leftovers_numbered T.cl_Leftovers hr (by omega) (pv 0) (pa_c (pe_tupN (pa_c pe_str (pa_c (pe_ix (ix_tupK K) (pv 4) pe_int (fun _ _ => rfl)) (pa_c (pe_ix (ix_tupK K) (pv 4) pe_int (fun _ _ => rfl)) pa_nil)))) pa_nil))))))))))), ?_⟩
  refine rd_st [some (.ref p), some (nV l), some (.bl one), some (.bl other), none] rfl ?_
  simp only [tFld, tMeth, tTupN, cxK, tSeq, tIfS, tTest, tB, tOp, tC, tAnd, tOr, tNot, tIf, tNext, tRet, gName, tAsg, rEq, tNil, tCons, rIxL, rIxT, rIn, rd_v0, rd_vS, List.set_cons_zero, List.set_cons_succ, List.append_nil, V.int.injEq, V.bl.injEq, V.ref.injEq, exists_eq_left', exists_and_left, if_true, if_false, reduceCtorEq]
  have hlen := F.len
  have q' : ∀ r, bst wd l one other = r → r < 2 + rest.length → Q (nV r) H := fun r e h => by subst e; exact q rest H (TupS.refl _) F (Nat.le_refl _) h L
  have q2 : ∀ H1, Same H H1 → ∀ r, bst wd l one other = r → r < 2 + rest.length → Q (nV r) H1 := fun H1 g r e h => by subst e; exact q rest H1 g.tups F (Nat.le_refl _) h (L.more g)
  rcases F.two h2 hl with ⟨rfl, ek⟩ | ⟨rfl, ek⟩
  · obtain ⟨dx, pf, pn, ps, rs, b, e1, e6, el, eb⟩ := L.form ek
    have eb : H b = some (.tup [.str wd, nV (2 ^ i), nV (2 ^ j)]) := eb
    refine ⟨_, _, _, e1, T.cl_Leftovers, T.n_forms, _, fl_forms, pf, rfl, _, .of e6, _, atI_nat el, b, rfl, _, .of eb, _, atI_0, rfl, ?_⟩
    simp only [SM.rowWords, List.mem_cons, List.not_mem_nil, or_false] at hw
    rcases hw with rfl | rfl | rfl | rfl | rfl
    · rw [decide_eq_false (by intro z; exact absurd (V.str.inj z) (by decide))]
      refine iteF ⟨b, rfl, _, .of eb, _, atI_0, rfl, ?_⟩
      rw [decide_eq_false (by intro z; exact absurd (V.str.inj z) (by decide))]
      refine iteF ?_
      cases one <;> cases other
      · exact iteT (iteT (q' 2 (by decide +kernel) (by omega)))
      · refine iteT (iteF ⟨b, rfl, _, .of eb, _, atI_0, rfl, ?_⟩)
        rw [decide_eq_true rfl]
        exact iteT (q' 2 (by decide +kernel) (by omega))
      · refine iteF ⟨b, rfl, _, .of eb, _, atI_0, small_line (by simp), fun p1 H1 n1 => ⟨_, .inr (.of n1.at'), rfl, rfl, ?_⟩⟩
        rw [show inV (V.str "in") [V.str "in", V.str "same"] = true from by decide +kernel]
        exact iteT (iteT (iteF (q2 H1 n1.g 0 (by decide +kernel) (by omega))))
      · refine iteF ⟨b, rfl, _, .of eb, _, atI_0, small_line (by simp), fun p1 H1 n1 => ⟨_, .inr (.of n1.at'), rfl, rfl, ?_⟩⟩
        rw [show inV (V.str "in") [V.str "in", V.str "same"] = true from by decide +kernel]
        exact iteT (iteT (iteT (q2 H1 n1.g 1 (by decide +kernel) (by omega))))
    · rw [decide_eq_false (by intro z; exact absurd (V.str.inj z) (by decide))]
      refine iteF ⟨b, rfl, _, .of eb, _, atI_0, rfl, ?_⟩
      rw [decide_eq_false (by intro z; exact absurd (V.str.inj z) (by decide))]
      refine iteF ?_
      cases one <;> cases other
      · exact iteT (iteT (q' 2 (by decide +kernel) (by omega)))
      · refine iteT (iteF ⟨b, rfl, _, .of eb, _, atI_0, rfl, ?_⟩)
        rw [decide_eq_false (by intro z; exact absurd (V.str.inj z) (by decide))]
        refine iteF ⟨b, rfl, _, .of eb, _, atI_0, small_line (by simp), fun p1 H1 n1 => ⟨_, .inr (.of n1.at'), rfl, rfl, ?_⟩⟩
        rw [show inV (V.str "same") [V.str "in", V.str "same"] = true from by decide +kernel]
        exact iteT (iteF (q2 H1 n1.g 0 (by decide +kernel) (by omega)))
      · refine iteF ⟨b, rfl, _, .of eb, _, atI_0, small_line (by simp), fun p1 H1 n1 => ⟨_, .inr (.of n1.at'), rfl, rfl, ?_⟩⟩
        rw [show inV (V.str "same") [V.str "in", V.str "same"] = true from by decide +kernel]
        exact iteT (iteT (iteF (q2 H1 n1.g 0 (by decide +kernel) (by omega))))
      · refine iteF ⟨b, rfl, _, .of eb, _, atI_0, small_line (by simp), fun p1 H1 n1 => ⟨_, .inr (.of n1.at'), rfl, rfl, ?_⟩⟩
        rw [show inV (V.str "same") [V.str "in", V.str "same"] = true from by decide +kernel]
        exact iteT (iteT (iteT (q2 H1 n1.g 1 (by decide +kernel) (by omega))))
    · rw [decide_eq_true rfl]
      refine iteT ?_
      cases one <;> cases other
      · exact q' 2 (by decide +kernel) (by omega)
      · exact q' 2 (by decide +kernel) (by omega)
      · exact q' 0 (by decide +kernel) (by omega)
      · exact q' 2 (by decide +kernel) (by omega)
    · rw [decide_eq_false (by intro z; exact absurd (V.str.inj z) (by decide))]
      refine iteF ⟨b, rfl, _, .of eb, _, atI_0, rfl, ?_⟩
      rw [decide_eq_false (by intro z; exact absurd (V.str.inj z) (by decide))]
      refine iteF ?_
      cases one <;> cases other
      · exact iteT (iteT (q' 2 (by decide +kernel) (by omega)))
      · refine iteT (iteF ⟨b, rfl, _, .of eb, _, atI_0, rfl, ?_⟩)
        rw [decide_eq_false (by intro z; exact absurd (V.str.inj z) (by decide))]
        refine iteF ⟨b, rfl, _, .of eb, _, atI_0, small_line (by simp), fun p1 H1 n1 => ⟨_, .inr (.of n1.at'), rfl, rfl, ?_⟩⟩
        rw [show inV (V.str "ahead") [V.str "in", V.str "same"] = false from by decide +kernel]
        exact iteF (iteT (q2 H1 n1.g 0 (by decide +kernel) (by omega)))
      · refine iteF ⟨b, rfl, _, .of eb, _, atI_0, small_line (by simp), fun p1 H1 n1 => ⟨_, .inr (.of n1.at'), rfl, rfl, ?_⟩⟩
        rw [show inV (V.str "ahead") [V.str "in", V.str "same"] = false from by decide +kernel]
        refine iteF (iteF ⟨b, rfl, _, .of (n1.g _ _ eb), _, atI_0, rfl, ?_⟩)
        rw [decide_eq_true rfl]
        exact iteT (q2 H1 n1.g 1 (by decide +kernel) (by omega))
      · refine iteF ⟨b, rfl, _, .of eb, _, atI_0, small_line (by simp), fun p1 H1 n1 => ⟨_, .inr (.of n1.at'), rfl, rfl, ?_⟩⟩
        rw [show inV (V.str "ahead") [V.str "in", V.str "same"] = false from by decide +kernel]
        exact iteF (iteT (q2 H1 n1.g 0 (by decide +kernel) (by omega)))
    · rw [decide_eq_false (by intro z; exact absurd (V.str.inj z) (by decide))]
      refine iteF ⟨b, rfl, _, .of eb, _, atI_0, rfl, ?_⟩
      rw [decide_eq_false (by intro z; exact absurd (V.str.inj z) (by decide))]
      refine iteF ?_
      cases one <;> cases other
      · exact iteT (iteT (q' 2 (by decide +kernel) (by omega)))
      · refine iteT (iteF ⟨b, rfl, _, .of eb, _, atI_0, rfl, ?_⟩)
        rw [decide_eq_false (by intro z; exact absurd (V.str.inj z) (by decide))]
        refine iteF ⟨b, rfl, _, .of eb, _, atI_0, small_line (by simp), fun p1 H1 n1 => ⟨_, .inr (.of n1.at'), rfl, rfl, ?_⟩⟩
        rw [show inV (V.str "next") [V.str "in", V.str "same"] = false from by decide +kernel]
        exact iteF (iteT (q2 H1 n1.g 0 (by decide +kernel) (by omega)))
      · refine iteF ⟨b, rfl, _, .of eb, _, atI_0, small_line (by simp), fun p1 H1 n1 => ⟨_, .inr (.of n1.at'), rfl, rfl, ?_⟩⟩
        rw [show inV (V.str "next") [V.str "in", V.str "same"] = false from by decide +kernel]
        refine iteF (iteF ⟨b, rfl, _, .of (n1.g _ _ eb), _, atI_0, rfl, ?_⟩)
        rw [decide_eq_false (by intro z; exact absurd (V.str.inj z) (by decide))]
        refine iteF ?_
        refine ⟨_, _, n1.g _ _ e1, fl_none (by decide) (by decide) (by decide), b, rfl, _, .of (n1.g _ _ eb), _, atI_nat (j := 2) rfl, b, rfl, _, .of (n1.g _ _ eb), _, atI_nat (j := 2) rfl, small_line (by simp), fun p4 H4 n4 => ?_⟩
        obtain ⟨h1, h2'⟩ := FR.here F
        refine ⟨p, p4, H0, rest, sts, frmK "here" j j, rfl, L.more (n1.g.trans n4.g), by omega, n4.at', fun H5 ts5 L5 => ?_⟩
        rw [h2']
        rw [h1] at L5
        have q3 := q [frmK "next" i j, frmK "here" j j] H5 ((n1.g.trans n4.g).tups.trans ts5) (.inr rfl) hlen.2
        rw [show bst "next" 2 true false = 3 by decide +kernel] at q3
        exact q3 (by simp) L5
      · refine iteF ⟨b, rfl, _, .of eb, _, atI_0, small_line (by simp), fun p1 H1 n1 => ⟨_, .inr (.of n1.at'), rfl, rfl, ?_⟩⟩
        rw [show inV (V.str "next") [V.str "in", V.str "same"] = false from by decide +kernel]
        exact iteF (iteT (q2 H1 n1.g 0 (by decide +kernel) (by omega)))
  · obtain ⟨dx, pf, pn, ps, rs, b, e1, e6, el, eb⟩ := L.form ek
    have eb : H b = some (.tup [.str "here", nV (2 ^ j), nV (2 ^ j)]) := eb
    refine ⟨_, _, _, e1, T.cl_Leftovers, T.n_forms, _, fl_forms, pf, rfl, _, .of e6, _, atI_nat el, b, rfl, _, .of eb, _, atI_0, rfl, ?_⟩
    rw [decide_eq_false (by intro z; exact absurd (V.str.inj z) (by decide))]
    refine iteF ⟨b, rfl, _, .of eb, _, atI_0, rfl, ?_⟩
    rw [decide_eq_true rfl]
    refine iteT ?_
    have e3 : ∀ o : Bool, bst wd 3 o other = if o then 1 else 0 := fun o => by cases o <;> rfl
    cases one
    · exact q' 0 (e3 false) (by omega)
    · exact q' 1 (e3 true) (by omega)
abbrev s_Leftovers_behind_form : Stmt := inClass (top 37) 10
theorem sc_Leftovers_behind_form : FnScope ["self", "left", "letter", "form", "without", "placed"] ["self", "left", "letter"] (defScope s_Leftovers_behind_form) := ⟨rfl, rfl, rfl, by decide +kernel, rfl, by decide +kernel, by decide +kernel⟩
theorem ok_lbf (T : Txt K mg w tw rw fa cLeftovers) (d : DfnM K cLeftovers "behind_form" "Leftovers.behind_form" s_Leftovers_behind_form ["self", "left", "letter"]) (C_Leftovers_behind_bare : CalM P w K mg base 2 cLeftovers "behind_bare" ["self", "left", "one", "other"] (sp_lbb cLeftovers)) : CalM P w K mg base 3 cLeftovers "behind_form" ["self", "left", "letter"] (sp_lbf cLeftovers) := by
  refine d.cal sc_Leftovers_behind_form (fun vs H Q E h => ?_) (fun f cdv A outer s H vs Q E hr h => ?_)
  · obtain ⟨p, H0, wd, i, j, l, c, rest, sts, rfl, _⟩ := h
    rfl
  obtain ⟨p, H0, wd, i, j, l, c, rest, sts, rfl, hw, hi, hj, hc, L, F, h2, hl, q⟩ := h
  refine ⟨_, (pss_cons (ps_set (i := 3) sc_Leftovers_behind_form.nd rfl (Or.inr rfl) (pe_ix (ix_listK K) (pe_fld (pv 0) (by rfl)) (pv 1) (fun _ _ => rfl))) (pss_cons (ps_if (pt_cmpR op_eq (pe_ix (ix_tupK K) (pv 3) pe_int (fun _ _ => rfl)) pe_str (nomark _)) pss_never pss_nil) (pss_cons (ps_if (pt_cmpR op_eq (pe_ix (ix_tupK K) (pv 3) pe_int (fun _ _ => rfl)) pe_str (nomark _)) pss_never pss_nil) (pss_cons (ps_if (pt_cmpR op_eq (pe_ix (ix_tupK K) (pv 3) pe_int (fun _ _ => rfl)) pe_str (nomark _)) pss_never pss_nil) (pss_cons (ps_if (pt_cmpR op_eq (pe_ix (ix_tupK K) (pv 3) pe_int (fun _ _ => rfl)) pe_str (nomark _)) pss_never pss_nil) (pss_one (ps_ret (pe_methC C_Leftovers_behind_bare T.cl_Leftovers hr (by omega) (pv 0) (pa_c (pv 1) (pa_c (pe_cmpR op_ne (pe_op op_and (pv 2) (pe_ix (ix_tupK K) (pv 3) pe_int (fun _ _ => rfl))) pe_int (nomark _)) (pa_c (pe_cmpR op_ne (pe_op op_and (pv 2) (pe_ix (ix_tupK K) (pv 3) pe_int (fun _ _ => rfl))) pe_int (nomark _)) pa_nil))))))))))), ?_⟩
  refine rd_st [some (.ref p), some (nV l), some (nV c), none, none, none] rfl ?_
  simp only [tFld, tMeth, cxK, tSeq, tIfS, tTest, tOp, tC, tNext, tRet, gName, tAsg, rI0, rEq, rNe, tNil, tCons, rIxL, rIxT, rd_v0, rd_vS, List.set_cons_zero, List.set_cons_succ, List.append_nil, V.int.injEq, V.bl.injEq, V.ref.injEq, true_and, exists_eq_left', exists_and_left, rd_ii]
  have key : ∃ k a b, (noK :: yesK :: rest)[l]? = some (frmK k a b) ∧ a ≤ 4 ∧ b ≤ 4 ∧ k ∈ (["in", "same", "within", "ahead", "next", "here"] : List Str) ∧ bstep wd i j l c = bst wd l (bit c a) (bit c b) := by
    rcases FR.two F h2 hl with ⟨rfl, ek⟩ | ⟨rfl, ek⟩
    · refine ⟨_, _, _, ek, hi, hj, ?_, rfl⟩
      simp only [SM.rowWords, List.mem_cons, List.not_mem_nil, or_false] at hw
      rcases hw with rfl | rfl | rfl | rfl | rfl <;> decide
    · exact ⟨_, _, _, ek, hj, hj, by decide, rfl⟩
  obtain ⟨k, ba, bb, ek, ha, hb, hk, eb0⟩ := key
  obtain ⟨dx, pf, pn, ps, rs, b, e1, e6, el, eb⟩ := L.form ek
  have eb : H b = some (.tup [.str k, nV (2 ^ ba), nV (2 ^ bb)]) := eb
  have nn : ∀ z : Str, z ∈ (["not", "and", "some set", "some place"] : List Str) → ¬ V.str k = V.str z := fun z hz e => by
    have := V.str.inj e
    subst this
    revert hk hz
    simp only [List.mem_cons, List.not_mem_nil, or_false]
    rintro hk hz
    rcases hz with rfl | rfl | rfl | rfl <;> exact absurd hk (by decide)
  refine ⟨_, _, _, e1, T.cl_Leftovers, T.n_forms, _, fl_forms, pf, rfl, _, .of e6, _, atI_nat el, b, rfl, _, .of eb, _, atI_0, rfl, ?_⟩
  rw [decide_eq_false (nn _ (by decide))]
  refine iteF ⟨b, rfl, _, .of eb, _, atI_0, rfl, ?_⟩
  rw [decide_eq_false (nn _ (by decide))]
  refine iteF ⟨b, rfl, _, .of eb, _, atI_0, rfl, ?_⟩
  rw [decide_eq_false (nn _ (by decide))]
  refine iteF ⟨b, rfl, _, .of eb, _, atI_0, rfl, ?_⟩
  rw [decide_eq_false (nn _ (by decide))]
  refine iteF ⟨_, _, e1, fl_none (by decide) (by decide) (by decide), b, rfl, _, .of eb, _, atI_nat (j := 1) rfl, _, rfl, b, rfl, _, .of eb, _, atI_nat (j := 2) rfl, _, rfl, ?_⟩
  rw [band_bit hc ha, band_bit hc hb]
  exact ⟨p, H0, wd, i, j, l, bit c ba, bit c bb, rest, sts, rfl, hw, L, F, h2, hl, fun rest' H' ts F' hr' hb' L' => by rw [← eb0] at hb' ⊢; exact q rest' H' ts F' hr' hb' L'⟩
abbrev s_Leftovers_behind : Stmt := inClass (top 37) 9
theorem sc_Leftovers_behind : FnScope ["self", "left", "letter", "step"] ["self", "left", "letter"] (defScope s_Leftovers_behind) := ⟨rfl, rfl, rfl, by decide +kernel, rfl, by decide +kernel, by decide +kernel⟩
theorem ok_lbeh (T : Txt K mg w tw rw fa cLeftovers) (d : DfnM K cLeftovers "behind" "Leftovers.behind" s_Leftovers_behind ["self", "left", "letter"]) (C_Leftovers_behind_form : CalM P w K mg base 3 cLeftovers "behind_form" ["self", "left", "letter"] (sp_lbf cLeftovers)) : CalM P w K mg base 4 cLeftovers "behind" ["self", "left", "letter"] (sp_lbeh cLeftovers) := by
  refine d.cal sc_Leftovers_behind (fun vs H Q E h => ?_) (fun f cdv A outer s H vs Q E hr h => ?_)
  · obtain ⟨p, H0, wd, i, j, l, c, rest, sts, rfl, _⟩ := h
    rfl
  obtain ⟨p, H0, wd, i, j, l, c, rest, sts, rfl, hw, hi, hj, hc, L, F, S, hs, hl, q⟩ := h
  have hu := hu_at hr 8 (by decide)
  refine ⟨_, (pss_cons (ps_if (PW.pt (pw_or (pt_cmpR op_eq (pv 1) (pe_gl (by rfl) T.g_NO) (nomark _)) (pw_or1 (pt_cmpR op_eq (pv 1) (pe_gl (by rfl) T.g_YES) (nomark _))))) (pss_one (ps_ret (pv 1))) pss_nil) (pss_cons (ps_set (i := 3) sc_Leftovers_behind.nd rfl (Or.inl rfl) (pe_tupN (pa_c (pv 1) (pa_c (pv 2) pa_nil)))) (pss_cut (ps_if (pt_cmpR (op_notin_d hu) (pv 3) (pe_fld (pv 0) (by rfl)) (by with_unfolding_all rfl)) (pss_one (ps_dputH hu (pe_fld (pv 0) (by rfl)) (pv 3) (pe_methC C_Leftovers_behind_form T.cl_Leftovers hr (by omega) (pv 0) (pa_c (pv 1) (pa_c (pv 2) pa_nil))) rfl)) pss_nil) (pss_one (ps_ret (pe_dgetH hu (pe_fld (pv 0) (by rfl)) (pv 3) (fun _ _ => rfl))))))), ?_⟩
  refine rd_st [some (.ref p), some (nV l), some (nV c), none] rfl ?_
  simp only [tTupN, cxK, tSeq, tIfS, tTest, tOp, tC, tOr, tNext, tRet, gName, tAsg, rEq, tNil, tCons, rd_v0, rd_vS, List.set_cons_zero, List.set_cons_succ, V.int.injEq, V.bl.injEq, true_and, exists_eq_left', if_true, rd_ii]
  have hlen := F.len
  by_cases h0 : l = 0
  · subst h0
    exact iteT (q rest sts H F S (by omega) (by show (0 : Nat) < _; omega) L)
  rw [decide_eq_false (by omega)]
  refine iteF ?_
  by_cases h1 : l = 1
  · subst h1
    exact iteT (q rest sts H F S (by omega) (by show (1 : Nat) < _; omega) L)
  rw [decide_eq_false (by omega)]
  refine iteF ⟨small_line (by simp), fun p1 H1 n1 => ?_⟩
  refine ⟨fun σ' H' => σ' = [some (.ref p), some (nV l), some (nV c), some (.ref p1)] ∧ H' p1 = some (.tup [nV l, nV c]) ∧ ∃ rest' sts', FR wd i j rest' ∧ StK wd i j rest' sts' ∧ sts'.length ≤ sts.length + 1 ∧ bstep wd i j l c < 2 + rest'.length ∧ Lf cLeftovers H0 H' p rest' sts' ∧ valV sts' [.inl (l : Int), .inl (c : Int)] = some (nV (bstep wd i j l c)), ?_, ?_⟩
  · simp only [rInDc, sDPut, tFld, tMeth, tIfS, tTest, tOp, tNext, tNil, tCons, rd_v0, rd_vS, List.append_nil, V.bl.injEq, V.ref.injEq, true_and, exists_eq_left', exists_and_left, if_true]
    have L1 := L.more n1.g
    obtain ⟨⟨dx, pf, pn, ps, rs, e1, z2, z3, z4, ne, e6, e7, e8, e9⟩, g0⟩ := id L1
    refine ⟨_, _, _, e1, T.cl_Leftovers, T.n_steps, _, fl_steps, ps, rfl, _, DGet.t (k := [.inl (l : Int), .inl (c : Int)]) e9 n1.at', ?_⟩
    cases hv : valV sts [.inl (l : Int), .inl (c : Int)] with
    | some v =>
      obtain ⟨rfl, hb⟩ := S l c v hv
      exact iteF ⟨n1.at', rest, F, sts, S, by omega, hb, L1, hv⟩
    | none =>
      refine iteT ⟨_, _, e1, fl_none (by decide) (by decide) (by decide), p, H0, wd, i, j, l, c, rest, sts, rfl, hw, hi, hj, hc, L1, F, by omega, hl, fun rest' H' ts F' hr' hb' L' => ?_⟩
      obtain ⟨⟨dx, pf, pn, ps, rs, e1, z2, z3, z4, ne, e6, e7, e8, e9⟩, g0⟩ := id L'
      have ep1 := ts _ _ n1.at'
      refine ⟨_, _, _, e1, T.cl_Leftovers, T.n_steps, _, fl_steps, ps, rfl, _, DPut.t (k := [.inl (l : Int), .inl (c : Int)]) e9 ep1 (small1000 (by omega)), ?_⟩
      have tsA : TupS H' (upd H' ps (.dT (putK sts [.inl (l : Int), .inl (c : Int)] (nV (bstep wd i j l c))))) := TupS.wrT e9 _
      have nps : p ≠ ps := ne_of e1 e9 (by intro z; cases z)
      have nfs : pf ≠ ps := ne_of e6 e9 (by intro z; cases z)
      refine ⟨tsA _ _ ep1, rest', F', _, ?_, ?_, hb', ⟨⟨dx, pf, pn, ps, rs, by rw [upd_ne nps]; exact e1, z2, z3, z4, ne, by rw [upd_ne nfs]; exact e6, L2.Paired.mapP e7 fun _ _ z => z.ts tsA, by rw [upd_ne ne]; exact e8, upd_same⟩, g0.wr z4 _⟩, by rw [valV_put, if_pos rfl]⟩
      · intro l' c' v' e
        rw [valV_put] at e
        split at e
        · rename_i ee
          simp only [List.cons.injEq, Sum.inl.injEq, and_true] at ee
          obtain rfl : l' = l := by omega
          obtain rfl : c' = c := by omega
          cases e
          exact ⟨rfl, hb'⟩
        · obtain ⟨h3, h4⟩ := S l' c' v' e
          exact ⟨h3, by omega⟩
      · rw [putK_new _ hv, List.length_append]; simp
  · rintro σ' H' ⟨rfl, ep1, rest', sts', F', S', hs', hb', L', hv⟩
    simp only [tDGet, tFld, tRet, rd_v0, rd_vS, V.ref.injEq, exists_eq_left', exists_and_left]
    obtain ⟨⟨dx, pf, pn, ps, rs, e1, z2, z3, z4, ne, e6, e7, e8, e9⟩, g0⟩ := id L'
    have z := DGet.t (k := [.inl (l : Int), .inl (c : Int)]) e9 ep1
    rw [hv] at z
    exact ⟨_, _, _, e1, T.cl_Leftovers, T.n_steps, _, fl_steps, ps, rfl, _, z, q rest' sts' H' F' S' hs' hb' L'⟩
abbrev s_Leftovers_at_end : Stmt := inClass (top 37) 12
theorem sc_Leftovers_at_end : FnScope ["self", "left", "form"] ["self", "left"] (defScope s_Leftovers_at_end) := ⟨rfl, rfl, rfl, by decide +kernel, rfl, by decide +kernel, by decide +kernel⟩
theorem ok_lend (T : Txt K mg w tw rw fa cLeftovers) (d : DfnM K cLeftovers "at_end" "Leftovers.at_end" s_Leftovers_at_end ["self", "left"]) : CalM P w K mg base 1 cLeftovers "at_end" ["self", "left"] (sp_lend cLeftovers) := by
  refine d.cal sc_Leftovers_at_end (fun vs H Q E h => ?_) (fun f cdv A outer s H vs Q E hr h => ?_)
  · obtain ⟨p, H0, wd, i, j, l, rest, sts, rfl, _⟩ := h
    rfl
  obtain ⟨p, H0, wd, i, j, l, rest, sts, rfl, hw, L, F, hl, q⟩ := h
  refine ⟨_, (pss_cons (ps_set (i := 2) sc_Leftovers_at_end.nd rfl (Or.inl rfl) (pe_ix (ix_listK K) (pe_fld (pv 0) (by rfl)) (pv 1) (fun _ _ => rfl))) (pss_cons (ps_if (pt_cmpR op_eq (pe_ix (ix_tupK K) (pv 2) pe_int (fun _ _ => rfl)) pe_str (nomark _)) pss_never pss_nil) (pss_cons (ps_if (pt_cmpR op_eq (pe_ix (ix_tupK K) (pv 2) pe_int (fun _ _ => rfl)) pe_str (nomark _)) pss_never pss_nil) (pss_cons (ps_if (pt_cmpR op_eq (pe_ix (ix_tupK K) (pv 2) pe_int (fun _ _ => rfl)) pe_str (nomark _)) pss_never pss_nil) (pss_cons (ps_if (pt_cmpR op_eq (pe_ix (ix_tupK K) (pv 2) pe_int (fun _ _ => rfl)) pe_str (nomark _)) pss_never pss_nil) (pss_one (ps_ret (pe_cmpR (op_in_seqK K) (pe_ix (ix_tupK K) (pv 2) pe_int (fun _ _ => rfl)) (pe_tupN (pa_c pe_str (pa_c pe_str pa_nil))) (by with_unfolding_all rfl))))))))), ?_⟩
  refine rd_st [some (.ref p), some (nV l), none] rfl ?_
  simp only [tFld, tTupN, cxK, tSeq, tIfS, tTest, tOp, tC, tNext, tRet, gName, tAsg, rEq, tNil, tCons, rIxL, rIxT, rIn, rd_v0, rd_vS, List.set_cons_zero, List.set_cons_succ, V.int.injEq, V.bl.injEq, V.ref.injEq, exists_eq_left', exists_and_left, if_false, reduceCtorEq]
  have key : ∃ k ks, (noK :: yesK :: rest)[l]? = some (.inr k :: ks) ∧ k ∈ (["no", "yes", "in", "same", "within", "ahead", "next", "here"] : List Str) ∧ aend wd l = inV (V.str k) [V.str "yes", V.str "within"] := by
    rcases (show l = 0 ∨ l = 1 ∨ 2 ≤ l by omega) with rfl | rfl | h2
    · exact ⟨_, _, rfl, by decide, rfl⟩
    · exact ⟨_, _, rfl, by decide, rfl⟩
    · simp only [SM.rowWords, List.mem_cons, List.not_mem_nil, or_false] at hw
      rcases FR.two F h2 hl with ⟨rfl, ek⟩ | ⟨rfl, ek⟩
      · refine ⟨_, _, ek, ?_, ?_⟩ <;> rcases hw with rfl | rfl | rfl | rfl | rfl <;> decide +kernel
      · exact ⟨_, _, ek, by decide, rfl⟩
  obtain ⟨k, ks, ek, hk, ea⟩ := key
  obtain ⟨dx, pf, pn, ps, rs, b, e1, e6, el, eb⟩ := L.form ek
  have eb : H b = some (.tup (.str k :: ks.map kV)) := eb
  have nn : ∀ z : Str, z ∈ (["not", "and", "some set", "some place"] : List Str) → ¬ V.str k = V.str z := fun z hz e => by
    have := V.str.inj e
    subst this
    revert hk hz
    simp only [List.mem_cons, List.not_mem_nil, or_false]
    rintro hk hz
    rcases hz with rfl | rfl | rfl | rfl <;> exact absurd hk (by decide)
  refine ⟨_, _, _, e1, T.cl_Leftovers, T.n_forms, _, fl_forms, pf, rfl, _, .of e6, _, atI_nat el, b, rfl, _, .of eb, _, atI_0, rfl, ?_⟩
  rw [decide_eq_false (nn _ (by decide))]
  refine iteF ⟨b, rfl, _, .of eb, _, atI_0, rfl, ?_⟩
  rw [decide_eq_false (nn _ (by decide))]
  refine iteF ⟨b, rfl, _, .of eb, _, atI_0, rfl, ?_⟩
  rw [decide_eq_false (nn _ (by decide))]
  refine iteF ⟨b, rfl, _, .of eb, _, atI_0, rfl, ?_⟩
  rw [decide_eq_false (nn _ (by decide))]
  refine iteF ⟨b, rfl, _, .of eb, _, atI_0, small_line (by simp), fun p1 H1 n1 => ⟨_, .inr (.of n1.at'), rfl, rfl, ?_⟩⟩
  rw [← ea]
  exact q H1 n1.g
end
section
variable {P : Program} {w : World} {K : PySem.W.Frag} {mg : Str → Option Value} {base : Heap} {tw rw fa cLeftovers : Addr}
abbrev s_is_whole : Stmt := top 39
theorem sc_is_whole : FnScope ["thing"] ["thing"] (defScope s_is_whole) := ⟨rfl, rfl, rfl, by decide +kernel, rfl, by decide +kernel, by decide +kernel⟩
theorem ok_wholeX (T : Txt K mg w tw rw fa cLeftovers) (d : Dfn K mg "is_whole" s_is_whole ["thing"]) : Cal P w K mg base 1 "is_whole" ["thing"] sp_wholeX := by
  refine d.cal sc_is_whole (fun vs H Q E h => ?_) (fun f cdv A outer s H vs Q E hr h => ?_)
  · obtain ⟨v, rfl, _⟩ := h
    rfl
  obtain ⟨v, rfl, h⟩ := h
  refine ⟨_, (pss_one (ps_ret (pe_and (pe_cB call_isk (by rfl) T.b_isinstance boot_isinstance (pa_c (pv 0) (pa_c (pe_bltn (v := .ty "int") (by rfl) T.b_int boot_int (by rfl)) pa_nil))) (pe_one (pe_not (pe_cB call_isk (by rfl) T.b_isinstance boot_isinstance (pa_c (pv 0) (pa_c (pe_bltn (v := .ty "bool") (by rfl) T.b_bool boot_bool (by rfl)) pa_nil)))))))), ?_⟩
  refine rd_st [some v] rfl ?_
  simp only [tC, tAndV, tNotV, tRet, tNil, tCons, tCB, rd_v0, V.bl.injEq, V.ty.injEq, List.cons.injEq, and_true, exists_eq_left', exists_and_left, and_assoc]
  rcases h with ⟨r, rfl, q⟩ | ⟨k, kd, nk, q⟩
  · exact ⟨_, .int r, by decide, iteT ⟨_, .int r, by decide, q⟩⟩
  · refine ⟨_, kd, by decide, ?_⟩
    cases kd with
    | bl b => exact iteT ⟨_, .bl b, by decide, q⟩
    | int => exact absurd rfl nk
    | _ => exact iteF q
abbrev s_is_below : Stmt := top 40
theorem sc_is_below : FnScope ["thing", "bound"] ["thing", "bound"] (defScope s_is_below) := ⟨rfl, rfl, rfl, by decide +kernel, rfl, by decide +kernel, by decide +kernel⟩
theorem ok_belowX (T : Txt K mg w tw rw fa cLeftovers) (d : Dfn K mg "is_below" s_is_below ["thing", "bound"]) (C_is_whole : Cal P w K mg base 1 "is_whole" ["thing"] sp_wholeX) : Cal P w K mg base 2 "is_below" ["thing", "bound"] sp_belowX := by
  refine d.cal sc_is_below (fun vs H Q E h => ?_) (fun f cdv A outer s H vs Q E hr h => ?_)
  · obtain ⟨v, n, rfl, _⟩ := h
    rfl
  obtain ⟨v, n, rfl, h⟩ := h
  refine ⟨_, (pss_one (ps_ret (pe_and (pe_callC C_is_whole hr (by omega) (by rfl) (pa_c (pv 0) pa_nil)) (pe_one (pe_chain op_le op_lt pe_int (pv 0) (pv 1)))))), ?_⟩
  refine rd_st [some v, some (.int n)] rfl ?_
  simp only [tC, tAndV, tRet, rI0, tChain, tNil, tCons, tCall, rd_v0, rd_vS, List.append_nil, V.int.injEq, V.bl.injEq, exists_eq_left', exists_and_left]
  rcases h with ⟨r, rfl, h0, h1, q⟩ | ⟨⟨r, rfl, hn⟩ | ⟨k, kd, nk⟩, q⟩
  · refine ⟨_, rfl, .inl ⟨r, rfl, _, rfl, iteT ⟨r, rfl, ?_⟩⟩⟩
    rw [decide_eq_true h0]
    refine iteT ⟨r, rfl, ?_⟩
    rw [decide_eq_true h1]
    exact q
  · refine ⟨_, rfl, .inl ⟨r, rfl, _, rfl, iteT ⟨r, rfl, ?_⟩⟩⟩
    by_cases h0 : 0 ≤ r
    · rw [decide_eq_true h0]
      refine iteT ⟨r, rfl, ?_⟩
      rw [decide_eq_false (fun h1 => hn ⟨h0, h1⟩)]
      exact q
    · rw [decide_eq_false h0]
      exact iteF q
  · exact ⟨_, rfl, .inr ⟨k, kd, nk, _, rfl, iteF q⟩⟩
abbrev s_is_letter : Stmt := top 42
theorem sc_is_letter : FnScope ["thing", "tracks"] ["thing", "tracks"] (defScope s_is_letter) := ⟨rfl, rfl, rfl, by decide +kernel, rfl, by decide +kernel, by decide +kernel⟩
theorem ok_isletter (T : Txt K mg w tw rw fa cLeftovers) (d : Dfn K mg "is_letter" s_is_letter ["thing", "tracks"]) (C_is_below : Cal P w K mg base 2 "is_below" ["thing", "bound"] sp_belowX) : Cal P w K mg base 3 "is_letter" ["thing", "tracks"] sp_isletter := by
  refine d.cal sc_is_letter (fun vs H Q E h => ?_) (fun f cdv A outer s H vs Q E hr h => ?_)
  · obtain ⟨r, k, rfl, _⟩ := h
    rfl
  obtain ⟨r, k, rfl, hk, q⟩ := h
  have hp2 : (1 : Int) * 2 ^ ((k : Nat) : Int).toNat = 2 ^ k := by rw [Int.one_mul, Int.toNat_natCast]
  refine ⟨_, (pss_one (ps_ret (pe_callC C_is_below hr (by omega) (by rfl) (pa_c (pv 0) (pa_c (pe_op op_shl pe_int (pv 1)) pa_nil))))), ?_⟩
  refine rd_st [some (.int r), some (nV k)] rfl ?_
  simp only [tOp, tC, tRet, rI, tNil, tCons, tCall, rd_v0, rd_vS, List.append_nil, V.int.injEq, exists_eq_left', exists_and_left]
  refine ⟨⟨by omega, by omega, by decide⟩, _, _, rfl, ?_⟩
  rw [hp2]
  by_cases h : 0 ≤ r ∧ r < 2 ^ k
  · rw [decide_eq_true h] at q
    exact .inl ⟨r, rfl, h.1, h.2, q⟩
  · rw [decide_eq_false h] at q
    exact .inr ⟨.inl ⟨r, rfl, h⟩, q⟩
abbrev s_check_row : Stmt := top 43
theorem sc_check_row : FnScope ["frame", "row"] ["frame", "row"] (defScope s_check_row) := ⟨rfl, rfl, rfl, by decide +kernel, rfl, by decide +kernel, by decide +kernel⟩
theorem ok_checkN (T : Txt K mg w tw rw fa cLeftovers) (d : Dfn K mg "check_row" s_check_row ["frame", "row"]) (C_is_letter : Cal P w K mg base 3 "is_letter" ["thing", "tracks"] sp_isletter) : Cal P w K mg base 4 "check_row" ["frame", "row"] sp_okrow := by
  refine d.cal sc_check_row (fun vs H Q E h => ?_) (fun f cdv A outer s H vs Q E hr h => ?_)
  · obtain ⟨f, r, names, rs, rfl, _⟩ := h
    rfl
  obtain ⟨fa, ra, names, row, rfl, ef, h4, er, h200, hin, q⟩ := h
  refine ⟨_, (pss_one (ps_if (PW.pt (pw_or (pt_not (pt_val (pe_cB call_isk (by rfl) T.b_isinstance boot_isinstance (pa_c (pv 1) (pa_c (pe_bltn (v := .ty "list") (by rfl) T.b_list boot_list (by rfl)) pa_nil))))) (pw_or1 (pt_not (pt_val (pe_cB (call_all_blK K rfl) (by rfl) T.b_all boot_all (pa_c (pe_lcomp ["thing"] [(0, "frame")] (CompOk.of rfl (by rfl) (by rfl)) (by rfl) (pi_listK K (pv 1)) (fun _ _ _ _ _ => (pg_name (i := 0) (show List.Nodup (["thing", "frame"] : List Str) by decide +kernel) (by rfl) (Or.inl (by rfl)))) (fun _ _ _ _ _ => pf_nil) (fun _ _ _ _ _ => (pe_callC C_is_letter hr (by omega) (by rfl) (pa_c (pv 0) (pa_c (pe_cB (call_len_seqK K) (by rfl) T.b_len boot_len (pa_c (pv 1) pa_nil)) pa_nil))))) pa_nil))))))) (pss_one ps_never) pss_nil)), ?_⟩
  refine rd_st [some (.ref fa), some (.ref ra)] rfl ?_
  simp only [rAll, tIfS, tB, tC, tOr, tNot, tNext, tNil, tCons, tCB, iList, rd_v0, rd_vS, rd_comp, V.bl.injEq, V.ref.injEq, V.ty.injEq, List.cons.injEq, and_true, exists_eq_left', exists_and_left, if_true, and_assoc]
  refine ⟨_, .lst er, by decide, iteF ⟨⟨_, .of er⟩, cm_list (K := K) (a := ra) (xs := row.map nV) (fun σ => ∃ v, σ = [v, some (.ref fa)]) (fun _ => .bl true) (by rw [List.length_map]; omega) (.of er) ⟨_, rfl⟩ ?_ ?_⟩⟩
  · rintro D3 i σ H3 x hi hm hx gg hD3 hD3' ⟨v, rfl⟩
    obtain ⟨z, mz, rfl⟩ := List.mem_map.mp hm
    simp only [rLen, gName, tNil, tCons, tCall, tCB, tYes, rd_v0, rd_vS, List.set_cons_zero, List.append_nil, V.ref.injEq, List.cons.injEq, and_true, exists_eq_left', exists_and_left, if_true]
    refine ⟨_, .inl (.of (gg _ _ ef)), ?_⟩
    rw [List.length_map]
    refine ⟨z, names.length, rfl, h4, ?_⟩
    have h1 := hin z mz
    rw [show decide (0 ≤ (z : Int) ∧ (z : Int) < 2 ^ names.length) = true from decide_eq_true ⟨by omega, by rw [pow_nat]; omega⟩]
    exact cm_step (by rw [List.length_map]; omega) hx hD3 hD3' gg ⟨_, rfl⟩ rfl
  intro D3 H3 hD3 g3 eD3
  have eD3' : H3 D3 = some (.lst ((row.map fun _ => true).map V.bl)) := by rw [eD3, List.map_map, List.map_map]; rfl
  refine ⟨D3, rfl, _, .of eD3', ?_⟩
  rw [show (!(row.map fun _ => true).all id) = false by simp]
  exact iteF (q H3 g3)
abbrev s_count_with : Stmt := top 44
theorem sc_count_with : FnScope ["letters", "track"] ["letters", "track"] (defScope s_count_with) := ⟨rfl, rfl, rfl, by decide +kernel, rfl, by decide +kernel, by decide +kernel⟩
theorem ok_countw (T : Txt K mg w tw rw fa cLeftovers) (d : Dfn K mg "count_with" s_count_with ["letters", "track"]) : Cal P w K mg base 1 "count_with" ["letters", "track"] sp_countw := by
  refine d.cal sc_count_with (fun vs H Q E h => ?_) (fun f cdv A outer s H vs Q E hr h => ?_)
  · obtain ⟨r, row, k, rfl, _⟩ := h
    rfl
  obtain ⟨ra, row, k, rfl, er, h200, h32, hk, q⟩ := h
  refine ⟨_, (pss_one (ps_ret (pe_cB (call_sum_intK K rfl) (by rfl) T.b_sum boot_sum (pa_c (pe_lcomp ["letter"] [(1, "track")] (CompOk.of rfl (by rfl) (by rfl)) (by rfl) (pi_listK K (pv 0)) (fun _ _ _ _ _ => (pg_name (i := 0) (show List.Nodup (["letter", "track"] : List Str) by decide +kernel) (by rfl) (Or.inl (by rfl)))) (fun _ _ _ _ _ => pf_nil) (fun _ _ _ _ _ => (pe_op op_and (pe_op op_shr (pv 0) (pv 1)) pe_int))) pa_nil)))), ?_⟩
  refine rd_st [some (.ref ra), some (nV k)] rfl ?_
  simp only [rSum, tRet, tNil, tCons, tCB, iList, rd_v0, rd_comp, V.ref.injEq, List.cons.injEq, and_true, exists_eq_left', exists_and_left]
  refine ⟨⟨_, .of er⟩, cm_list (K := K) (a := ra) (xs := row.map nV) (fun σ => ∃ v, σ = [v, some (nV k)]) (fun v => match v with | .int i => .int (Builtin.bitAnd (i / 2 ^ k) 1) | _ => .non) (by rw [List.length_map]; omega) (.of er) ⟨_, rfl⟩ ?_ ?_⟩
  · rintro D3 i σ H3 x hi hm hx gg hD3 hD3' ⟨v, rfl⟩
    obtain ⟨z, mz, rfl⟩ := List.mem_map.mp hm
    simp only [tOp, tC, gName, rI, rI0, tYes, rd_v0, rd_vS, List.set_cons_zero, V.int.injEq, exists_eq_left', exists_and_left, if_true]
    exact ⟨by omega, cm_step (by rw [List.length_map]; omega) hx hD3 hD3' gg ⟨_, rfl⟩ (by rw [Int.toNat_natCast])⟩
  intro D3 H3 hD3 g3 eD3
  have eD3' : H3 D3 = some (.lst ((row.map fun (l : Nat) => Builtin.bitAnd ((l : Int) / 2 ^ k) 1).map V.int)) := by rw [eD3, List.map_map, List.map_map]; rfl
  refine ⟨D3, rfl, _, .of eD3', ?_⟩
  rw [cw_sum k hk row h32]
  exact q H3 g3
abbrev s_each_place_once : Stmt := top 45
theorem sc_each_place_once : FnScope ["frame", "letters"] ["frame", "letters"] (defScope s_each_place_once) := ⟨rfl, rfl, rfl, by decide +kernel, rfl, by decide +kernel, by decide +kernel⟩
theorem ok_once (T : Txt K mg w tw rw fa cLeftovers) (d : Dfn K mg "each_place_once" s_each_place_once ["frame", "letters"]) (C_is_place : Cal P w K mg base 2 "is_place" ["thing"] (sp_pl SMALL)) (C_count_with : Cal P w K mg base 1 "count_with" ["letters", "track"] sp_countw) : Cal P w K mg base 3 "each_place_once" ["frame", "letters"] sp_once := by
  refine d.cal sc_each_place_once (fun vs H Q E h => ?_) (fun f cdv A outer s H vs Q E hr h => ?_)
  · obtain ⟨f, r, names, rs, rfl, _⟩ := h
    rfl
  obtain ⟨fa, ra, names, row, rfl, ef, fo, er, h200, h32, q⟩ := h
  have h4 := fo.1
  refine ⟨_, (pss_one (ps_ret (pe_cB (call_all_blK K rfl) (by rfl) T.b_all boot_all (pa_c (pe_lcomp ["track", "name"] [(1, "letters")] (CompOk.of rfl (by rfl) (by rfl)) (by rfl) (pi_enumK K (by rfl) T.b_enumerate (pa_c (pv 0) pa_nil)) (fun _ _ _ _ _ => (pg_tupK K (n := 2) rfl (pgs_cons (pg_name (i := 0) (show List.Nodup (["track", "name", "letters"] : List Str) by decide +kernel) (by rfl) (Or.inl (by rfl))) (pgs_cons (pg_name (i := 1) (show List.Nodup (["track", "name", "letters"] : List Str) by decide +kernel) (by rfl) (Or.inl (by rfl))) pgs_nil)))) (fun _ _ _ _ _ => (pf_one (pt_val (pe_callC C_is_place hr (by omega) (by rfl) (pa_c (pv 1) pa_nil))))) (fun _ _ _ _ _ => (pe_cmpR op_eq (pe_callC C_count_with hr (by omega) (by rfl) (pa_c (pv 2) (pa_c (pv 0) pa_nil))) pe_int (nomark _)))) pa_nil)))), ?_⟩
  refine rd_st [some (.ref fa), some (.ref ra)] rfl ?_
  simp only [iEnum, iEnum, rAll, tRet, tNil, tCons, tCB, rd_v0, rd_comp, V.ref.injEq, List.cons.injEq, and_true, exists_eq_left', exists_and_left]
  refine ⟨⟨_, .of ef⟩, ?_⟩
  refine cef_map (K := K) (a := fa) (xs := names.map V.str) (fun σ => ∃ v v', σ = [v, v', some (.ref ra)]) (fun k => isP (names.getD k (Str.ofString ""))) (fun k => .bl (cw row k == 1)) (by rw [List.length_map]; omega) (.of ef) ⟨_, _, rfl⟩ ?_ ?_
  · rintro D3 i σ H3 x pt H4 hx gg hD3 hD3' ⟨v, v', rfl⟩ n4
    rw [List.getElem?_map] at hx
    obtain ⟨z, ez, rfl⟩ := Option.map_eq_some_iff.mp hx
    have hi := (List.getElem?_eq_some_iff.mp ez).1
    have hz : names.getD i (Str.ofString "") = z := by rw [List.getD_eq_getElem?_getD, ez]; rfl
    simp only [tB, tOp, tC, gName, gNil, gCons, gTup, rEq, tNil, tCons, tCall, rd_v0, rd_vS, List.set_cons_zero, List.set_cons_succ, List.append_nil, V.ref.injEq, exists_eq_left', exists_and_left]
    refine ⟨_, .of n4.at', rfl, _, _, rfl, _, _, rfl, rfl, .str z, _, rfl, .str z, (fun z' ez' => by injection ez' with ez'; subst ez'; exact nmok_len (fo.2 z (List.mem_of_getElem? ez))), fun H5 g5 => ⟨_, rfl, ?_⟩⟩
    have hv : isNm (.str z) SMALL = isP (names.getD i (Str.ofString "")) := by rw [hz]; rfl
    rw [hv]
    cases hP : isP (names.getD i (Str.ofString "")) with
    | true =>
      refine iteT ⟨ra, row, i, rfl, (gg.trans (n4.g.trans g5)) _ _ er, h200, h32, by omega, fun H6 g6 => ⟨rfl, ?_⟩⟩
      refine crf_step (by rw [List.length_map]; omega) (by rw [List.length_map]; exact hi) hP hD3 ((n4.g.trans (g5.trans g6)) _ _ hD3') (gg.trans (n4.g.trans (g5.trans g6))) ⟨_, _, rfl⟩ ?_
      exact congrArg V.bl (dec_one (cw row i))
    | false => exact iteF (crf_skip (by rw [List.length_map]; exact hi) hP ((n4.g.trans g5) _ _ hD3') (gg.trans (n4.g.trans g5)) ⟨_, _, rfl⟩)
  intro D3 H3 hD3 g3 eD3
  have eD3' : H3 D3 = some (.lst ((((List.range names.length).filter fun k => isP (names.getD k (Str.ofString ""))).map fun k => cw row k == 1).map V.bl)) := by rw [eD3, List.length_map, List.map_map]; rfl
  refine ⟨D3, rfl, _, .of eD3', ?_⟩
  have e : ((((List.range names.length).filter fun k => isP (names.getD k (Str.ofString ""))).map fun k => cw row k == 1).all id) = fitB names row := by
    unfold fitB
    rw [List.all_map, List.all_filter]
    rfl
  rw [e]
  exact q H3 g3
abbrev s_fits : Stmt := top 46
theorem sc_fits : FnScope ["frame", "row"] ["frame", "row"] (defScope s_fits) := ⟨rfl, rfl, rfl, by decide +kernel, rfl, by decide +kernel, by decide +kernel⟩
theorem ok_fitsN (T : Txt K mg w tw rw fa cLeftovers) (d : Dfn K mg "fits" s_fits ["frame", "row"]) (C_check_row : Cal P w K mg base 4 "check_row" ["frame", "row"] sp_okrow) (C_each_place_once : Cal P w K mg base 3 "each_place_once" ["frame", "letters"] sp_once) : Cal P w K mg base 5 "fits" ["frame", "row"] sp_fitsN := by
  refine d.cal sc_fits (fun vs H Q E h => ?_) (fun f cdv A outer s H vs Q E hr h => ?_)
  · obtain ⟨f, r, names, rs, rfl, _⟩ := h
    rfl
  obtain ⟨fa, ra, names, row, rfl, ef, fo, er, h200, hin, q⟩ := h
  have h4 := fo.1
  refine ⟨_, (pss_cons (ps_expr (pe_callC C_check_row hr (by omega) (by rfl) (pa_c (pv 0) (pa_c (pv 1) pa_nil)))) (pss_one (ps_ret (pe_callC C_each_place_once hr (by omega) (by rfl) (pa_c (pv 0) (pa_c (pv 1) pa_nil)))))), ?_⟩
  refine rd_st [some (.ref fa), some (.ref ra)] rfl ?_
  simp only [tSeq, tDrop, tRet, tNil, tCons, tCall, rd_v0, rd_vS, List.append_nil]
  have h32 : ∀ l ∈ row, l < 32 := fun l ml => by
    have := hin l ml
    have := pow_small h4
    omega
  exact ⟨fa, ra, names, row, rfl, ef, h4, er, h200, hin, fun H1 g1 => ⟨fa, ra, names, row, rfl, g1 _ _ ef, fo, g1 _ _ er, h200, h32, fun H2 g2 => q H2 (g1.trans g2)⟩⟩
end
section
variable {P : Program} {w : World} {K : PySem.W.Frag} {mg : Str → Option Value} {base : Heap} {tw rw fa cLeftovers : Addr}
abbrev s_inner_sayings : Stmt := top 24
theorem sc_inner_sayings : FnScope ["saying"] ["saying"] (defScope s_inner_sayings) := ⟨rfl, rfl, rfl, by decide +kernel, rfl, by decide +kernel, by decide +kernel⟩
theorem ok_inner (T : Txt K mg w tw rw fa cLeftovers) (d : Dfn K mg "inner_sayings" s_inner_sayings ["saying"]) : Cal P w K mg base 1 "inner_sayings" ["saying"] sp_inner := by
  refine d.cal sc_inner_sayings (fun vs H Q E h => ?_) (fun f cdv A outer s H vs Q E hr h => ?_)
  · obtain ⟨a, xs, rfl, _⟩ := h
    rfl
  obtain ⟨a, xs, rfl, e, hl, hk, q⟩ := h
  refine ⟨_, (pss_one (ps_ret (pe_lcomp ["thing"] [] (CompOk.of rfl (by rfl) (by rfl)) (by rfl) (pi_tupK K (pv 0)) (fun _ _ _ _ _ => (pg_name (i := 0) (show List.Nodup (["thing"] : List Str) by decide +kernel) (by rfl) (Or.inl (by rfl)))) (fun _ _ _ _ _ => (pf_one (pt_val (pe_cB call_isk (by rfl) T.b_isinstance boot_isinstance (pa_c (pv 0) (pa_c (pe_bltn (v := .ty "tuple") (by rfl) T.b_tuple boot_tuple (by rfl)) pa_nil)))))) (fun _ _ _ _ _ => (pv 0))))), ?_⟩
  refine rd_st [some (.ref a)] rfl ?_
  simp only [tRet, iTup, rd_v0, rd_comp, V.ref.injEq, exists_eq_left', exists_and_left]
  have hS : SqT K H a xs := .of e
  refine ⟨⟨xs, hS⟩, cf_tup (fun σ => ∃ v, σ = [v]) (isT H) id hl hS ⟨_, rfl⟩ ?_ ?_⟩
  · rintro D i σ H' x hi hm hx g hD hD' ⟨v, rfl⟩
    obtain ⟨k, hk'⟩ := hk x hm
    simp only [tB, tC, gName, tNil, tCons, tCB, rd_v0, List.set_cons_zero, V.bl.injEq, V.ty.injEq, List.cons.injEq, and_true, exists_eq_left', exists_and_left, and_assoc]
    refine ⟨k, hk'.same g, by decide, ?_⟩
    rw [Kd.isT hk']
    cases ht : isT H x with
    | true => exact iteT (cf_step hl hx ht hD hD' g ⟨_, rfl⟩ rfl)
    | false => exact iteF (cf_skip hx ht hD' g ⟨_, rfl⟩)
  · intro D H' hD g hD'
    rw [List.map_id] at hD'
    exact q D H' hD g hD'
abbrev s_is_bare : Stmt := top 25
theorem sc_is_bare : FnScope ["saying"] ["saying"] (defScope s_is_bare) := ⟨rfl, rfl, rfl, by decide +kernel, rfl, by decide +kernel, by decide +kernel⟩
theorem ok_isbare (T : Txt K mg w tw rw fa cLeftovers) (d : Dfn K mg "is_bare" s_is_bare ["saying"]) (C_inner_sayings : Cal P w K mg base 1 "inner_sayings" ["saying"] sp_inner) : Cal P w K mg base 2 "is_bare" ["saying"] sp_isbare := by
  refine d.cal sc_is_bare (fun vs H Q E h => ?_) (fun f cdv A outer s H vs Q E hr h => ?_)
  · obtain ⟨v, s, rfl, _⟩ := h
    rfl
  obtain ⟨v, sy, rfl, r, q⟩ := h
  have hu := hu_at hr 8 (by decide)
  refine ⟨_, (pss_one (ps_ret (pe_cmpR (op_eqD hu) (pe_callC C_inner_sayings hr (by omega) (by rfl) (pa_c (pv 0) pa_nil)) (pe_lstN pa_nil) (nomark _)))), ?_⟩
  refine rd_st [some v] rfl ?_
  simp only [tLstN, tOp, tRet, tNil, tCons, tCall, rEqD, rd_v0, List.append_nil]
  obtain ⟨a, xs, rfl, e, hl, hk, hp⟩ := r.items
  refine ⟨a, xs, rfl, e, by omega, hk, fun D H1 hD g1 eD => ⟨by decide, fun p H2 n2 => ⟨_, (rcok_nil (k := 0) (.of (n2.g _ _ eD)) n2.lst).up (by decide), ?_⟩⟩⟩
  have h := q H2 (g1.trans n2.g)
  have eb : sy.isBare = decide (xs.filter (isT H) = []) := by
    generalize xs.filter (isT H) = ys at hp
    cases sy with
    | bare w n m => cases hp; rfl
    | neg s => cases hp; rfl
    | two w s t => cases hp; rfl
    | qu w n s => cases hp; rfl
  rw [eb] at h
  exact h
abbrev s_count_parts : Stmt := top 26
theorem sc_count_parts : FnScope ["saying"] ["saying"] (defScope s_count_parts) := ⟨rfl, rfl, rfl, by decide +kernel, rfl, by decide +kernel, by decide +kernel⟩
theorem ok_count {n : Nat} (T : Txt K mg w tw rw fa cLeftovers) (d : Dfn K mg "count_parts" s_count_parts ["saying"]) (C_inner_sayings : Cal P w K mg base 1 "inner_sayings" ["saying"] sp_inner) (C_count_parts : Cal P w K mg base (n + 1) "count_parts" ["saying"] (sp_count n)) : Cal P w K mg base (n + 1 + 1) "count_parts" ["saying"] (sp_count (n + 1)) := by
  refine d.cal sc_count_parts (fun vs H Q E h => ?_) (fun f cdv A outer s H vs Q E hr h => ?_)
  · obtain ⟨v, s, rfl, _⟩ := h
    rfl
  obtain ⟨v, sy, rfl, r, hd, q⟩ := h
  refine ⟨_, (pss_one (ps_ret (pe_op op_add pe_int (pe_cB (call_sum_intK K rfl) (by rfl) T.b_sum boot_sum (pa_c (pe_lcomp ["inner"] [] (CompOk.of rfl (by rfl) (by rfl)) (by rfl) (pi_listK K (pe_callC C_inner_sayings hr (by omega) (by rfl) (pa_c (pv 0) pa_nil))) (fun _ _ _ _ _ => (pg_name (i := 0) (show List.Nodup (["inner"] : List Str) by decide +kernel) (by rfl) (Or.inl (by rfl)))) (fun _ _ _ _ _ => pf_nil) (fun _ _ _ _ _ => (pe_callC C_count_parts hr (by omega) (by rfl) (pa_c (pv 0) pa_nil)))) pa_nil))))), ?_⟩
  refine rd_st [some v] rfl ?_
  simp only [rSum, tOp, tC, tRet, rI0, tNil, tCons, tCall, tCB, iList, rd_v0, rd_comp, List.append_nil, V.int.injEq, List.cons.injEq, and_true, exists_eq_left', exists_and_left]
  obtain ⟨a, xs, rfl, e, hl, hk, hp⟩ := r.items
  refine ⟨a, xs, rfl, e, by omega, hk, fun D1 H1 hD1 g1 e1 => ⟨D1, rfl, ⟨_, .of e1⟩, ?_⟩⟩
  have hpl := Paired.len hp
  have l3 : (xs.filter (isT H)).length ≤ 1000 := Nat.le_trans (List.length_filter_le _ _) (by omega)
  refine ci_list (K := K) (a := D1) (xs := xs.filter (isT H)) (fun σ => ∃ v, σ = [v]) (fun i => .int (((sy.inner[i]?).map Sy.parts).getD 0)) l3 (.of e1) ⟨_, rfl⟩ ?_ ?_
  · rintro D i σ H' x hi hx g hD hD' ⟨v, rfl⟩
    obtain ⟨t, et, rt⟩ := Paired.at hp hx
    have dt := (inner_depth (List.mem_of_getElem? et)).1
    simp only [gName, tNil, tCons, tCall, tYes, rd_v0, List.set_cons_zero, List.append_nil, if_true]
    refine ⟨x, t, rfl, rt.same (g1.trans g), by omega, fun H2 g2 => cz_step l3 hi hD (g2 _ _ hD') (g.trans g2) ⟨_, rfl⟩ (by rw [et]; rfl)⟩
  · intro D H' hD g eD
    refine ⟨D, rfl, (List.range (xs.filter (isT H)).length).map fun i => (((sy.inner[i]?).map Sy.parts).getD 0 : Nat), .of (by rw [eD, List.map_map]; rfl), ?_⟩
    have h := q H' (g1.trans g)
    have es : (1 : Int) + ((List.range (xs.filter (isT H)).length).map fun i => ((((sy.inner[i]?).map Sy.parts).getD 0 : Nat) : Int)).sum = (sy.parts : Int) := by
      rw [hpl]
      cases sy with
      | bare w n m => rfl
      | neg s => show (1 : Int) + ((s.parts : Int) + 0) = ((s.parts + 1 : Nat) : Int); omega
      | two w s t => show (1 : Int) + ((s.parts : Int) + ((t.parts : Int) + 0)) = ((s.parts + t.parts + 1 : Nat) : Int); omega
      | qu w n s => show (1 : Int) + ((s.parts : Int) + 0) = ((s.parts + 1 : Nat) : Int); omega
    rw [es]
    exact h
theorem all_count (T : Txt K mg w tw rw fa cLeftovers) (d : Dfn K mg "count_parts" s_count_parts ["saying"]) (C1 : Cal P w K mg base 1 "inner_sayings" ["saying"] sp_inner) : ∀ n, Cal P w K mg base (n + 1) "count_parts" ["saying"] (sp_count n)
  | 0 => (d.never fun vs H Q E h => by obtain ⟨v, s, _, _, hd, _⟩ := h; exact absurd hd (Nat.not_lt_zero _)).mono (by decide)
  | n + 1 => ok_count T d C1 (all_count T d C1 n)
abbrev s_is_any_saying : Stmt := top 27
theorem sc_is_any_saying : FnScope ["thing"] ["thing"] (defScope s_is_any_saying) := ⟨rfl, rfl, rfl, by decide +kernel, rfl, by decide +kernel, by decide +kernel⟩
theorem ok_anysay (T : Txt K mg w tw rw fa cLeftovers) (d : Dfn K mg "is_any_saying" s_is_any_saying ["thing"]) (C_has_form : Cal P w K mg base 28 "has_form" ["thing", "deepest"] (sp_form 12)) (C_count_parts : Cal P w K mg base 14 "count_parts" ["saying"] (sp_count 13)) : Cal P w K mg base 29 "is_any_saying" ["thing"] sp_anysay := by
  refine d.cal sc_is_any_saying (fun vs H Q E h => ?_) (fun f cdv A outer s H vs Q E hr h => ?_)
  · obtain ⟨v, rfl, _⟩ := h
    rfl
  obtain ⟨v, rfl, ex, q⟩ := h
  refine ⟨_, (pss_one (ps_ret (pe_and (pe_callC C_has_form hr (by omega) (by rfl) (pa_c (pv 0) (pa_c (pe_gl (by rfl) T.g_DEEPEST) pa_nil))) (pe_one (pe_cmpR op_le (pe_callC C_count_parts hr (by omega) (by rfl) (pa_c (pv 0) pa_nil)) (pe_gl (by rfl) T.g_MOST_PARTS) (nomark _)))))), ?_⟩
  refine rd_st [some v] rfl ?_
  simp only [tOp, tC, tAndV, tRet, rI0, tNil, tCons, tCall, rd_v0, List.append_nil, V.int.injEq, exists_eq_left', exists_and_left]
  refine ⟨v, rfl, ex, fun H1 g1 => ⟨_, rfl, ite2 (fun c => ?_) fun c => q false H1 g1 ⟨fun z => (by cases z), fun ⟨s, r, hw, hd, _⟩ => absurd (say_form r hw hd) c⟩⟩⟩
  obtain ⟨sy, r, hw, hd⟩ := form_say c
  refine ⟨v, sy, rfl, r.same g1, by omega, fun H2 g2 => ⟨_, rfl, q _ H2 (g1.trans g2) ⟨fun z => ⟨sy, r, hw, hd, ?_⟩, fun ⟨s, r', _, _, hp⟩ => ?_⟩⟩⟩
  · have := of_decide_eq_true z
    omega
  · rw [r.det r']
    exact decide_eq_true (by omega)
abbrev s_is_let : Stmt := top 28
theorem sc_is_let : FnScope ["saying", "known", "barred", "most"] ["saying", "known", "barred", "most"] (defScope s_is_let) := ⟨rfl, rfl, rfl, by decide +kernel, rfl, by decide +kernel, by decide +kernel⟩
theorem ok_let {n : Nat} {bw : List Str} (T : Txt K mg w tw rw fa cLeftovers) (d : Dfn K mg "is_let" s_is_let ["saying", "known", "barred", "most"]) (C_inner_sayings : Cal P w K mg base 1 "inner_sayings" ["saying"] sp_inner) (C_is_bare : Cal P w K mg base 2 "is_bare" ["saying"] sp_isbare)
    (C_is_let : Cal P w K mg base (n + 2) "is_let" ["saying", "known", "barred", "most"] (sp_let K bw n)) : Cal P w K mg base (n + 1 + 2) "is_let" ["saying", "known", "barred", "most"] (sp_let K bw (n + 1)) := by
  refine d.cal sc_is_let (fun vs H Q E h => ?_) (fun f cdv A outer s H vs Q E hr h => ?_)
  · obtain ⟨v, a, ba, s, tl, mo, rfl, _⟩ := h
    rfl
  obtain ⟨v, a, ba, sy, tl, mo, rfl, r, hd, ea, hl, hb, q⟩ := h
  refine ⟨_, (pss_cons (ps_if (PW.pt (pw_or (pt_cmpR op_gt (pe_cB (call_len_seqK K) (by rfl) T.b_len boot_len (pa_c (pv 1) pa_nil)) (pv 3) (nomark _)) (pw_or1 (pt_cmpR (op_in_seqK K) (pe_ix (ix_tupK K) (pv 0) pe_int (fun _ _ => rfl)) (pv 2) (by with_unfolding_all rfl))))) (pss_one (ps_ret pe_bl)) pss_nil) (pss_cons (ps_if (pt_cmpR (op_in_seqK K) (pe_ix (ix_tupK K) (pv 0) pe_int (fun _ _ => rfl)) (pe_gl (by rfl) T.g_TELLING_WORDS) (by with_unfolding_all rfl)) (pss_one (ps_ret (pe_and (pe_cmpR (op_notIn_seqK K) (pe_ix (ix_tupK K) (pv 0) pe_int (fun _ _ => rfl)) (pv 1) (by with_unfolding_all rfl)) (pe_one (pe_callC C_is_let hr (by omega) (by rfl) (pa_c (pe_ix (ix_tupK K) (pv 0) pe_int (fun _ _ => rfl)) (pa_c (pe_op op_catN (pv 1) (pe_lstN (pa_c (pe_ix (ix_tupK K) (pv 0) pe_int (fun _ _ => rfl)) pa_nil))) (pa_c (pv 2) (pa_c (pv 3) pa_nil))))))))) pss_nil) (pss_cons (ps_if (pt_val (pe_callC C_is_bare hr (by omega) (by rfl) (pa_c (pv 0) pa_nil))) (pss_one (ps_ret (pe_cB (call_all_blK K rfl) (by rfl) T.b_all boot_all (pa_c (pe_lcomp ["name"] [(1, "known")] (CompOk.of rfl (by rfl) (by rfl)) (by rfl) (pi_tupK K (pe_slice (sl_tupNK K) (pv 0) (po_some pe_int) po_none)) (fun _ _ _ _ _ => (pg_name (i := 0) (show List.Nodup (["name", "known"] : List Str) by decide +kernel) (by rfl) (Or.inl (by rfl)))) (fun _ _ _ _ _ => pf_nil) (fun _ _ _ _ _ => (pe_cmpR (op_in_seqK K) (pv 0) (pv 1) (by with_unfolding_all rfl)))) pa_nil)))) pss_nil) (pss_one (ps_ret (pe_cB (call_all_blK K rfl) (by rfl) T.b_all boot_all (pa_c (pe_lcomp ["inner"] [(1, "known"), (2, "barred"), (3, "most")] (CompOk.of rfl (by rfl) (by rfl)) (by rfl) (pi_listK K (pe_callC C_inner_sayings hr (by omega) (by rfl) (pa_c (pv 0) pa_nil))) (fun _ _ _ _ _ => (pg_name (i := 0) (show List.Nodup (["inner", "known", "barred", "most"] : List Str) by decide +kernel) (by rfl) (Or.inl (by rfl)))) (fun _ _ _ _ _ => pf_nil) (fun _ _ _ _ _ => (pe_callC C_is_let hr (by omega) (by rfl) (pa_c (pv 0) (pa_c (pv 1) (pa_c (pv 2) (pa_c (pv 3) pa_nil))))))) pa_nil))))))), ?_⟩
  refine rd_st [some v, some (.ref a), some (.ref ba), some (.int mo)] rfl ?_
  simp only [rLen, rAll, rSlTN, tLstN, rCatN, tSeq, tIfS, tTest, tB, tOp, tC, tOr, tAndV, tNext, tRet, rI0, tNil, tCons, tCall, tCB, tNoPart, tPart, tSl, rIxT, rIn, iList, iTup, rd_v0, rd_vS, rd_comp, List.append_nil, V.int.injEq, V.bl.injEq, V.ref.injEq, List.cons.injEq, and_true, exists_eq_left', exists_and_left, if_true, if_false, reduceCtorEq]
  rw [letB_eq] at q
  refine ⟨_, .inl (.of ea), ite2 (fun c => ?_) fun c => ?_⟩
  · have c' := of_decide_eq_true c
    rw [List.length_map] at c'
    have h := q H (Same.refl H)
    rw [decide_eq_false (by omega), Bool.false_and, Bool.false_and] at h
    exact h
  have c' := of_decide_eq_false (Bool.eq_false_iff.mpr c)
  rw [List.length_map] at c'
  rw [decide_eq_true (by omega), Bool.true_and] at q
  have tw' := T.t_TELLING_WORDS H
  obtain ⟨p0, rest, ev, e0⟩ : ∃ p rest, v = .ref p ∧ H p = some (.tup (.str (wordOf sy) :: rest)) := by
    cases r with
    | bare hw e => exact ⟨_, _, rfl, e⟩
    | neg e hx => exact ⟨_, _, rfl, e⟩
    | two hw e h1 h2 => exact ⟨_, _, rfl, e⟩
    | qu hw e hx => exact ⟨_, _, rfl, e⟩
  subst ev
  refine ⟨p0, rfl, _, .of e0, _, atI_0, _, .inr (hb H), rfl, flats_str bw, ?_⟩
  rw [inV_strs]
  by_cases hwb : wordOf sy ∈ bw
  · rw [decide_eq_true hwb]
    have h := q H (Same.refl H)
    rw [decide_eq_false (fun z => z hwb), Bool.false_and] at h
    exact iteT h
  rw [decide_eq_false hwb]
  rw [decide_eq_true hwb, Bool.true_and] at q
  refine iteF ⟨p0, rfl, _, .of e0, _, atI_0, _, .inr tw', rfl, rfl, ?_⟩
  have other : (∀ w n t, sy ≠ .qu w n t) → sy.isBare = false → ∀ H1, Same H H1 → sp_inner [.ref p0] H1 (fun x H1 => ∃ a_1, x = V.ref a_1 ∧ (∃ xs, SqL K H1 a_1 xs) ∧
      cBody ["inner"] [(1, "known"), (2, "barred"), (3, "most")] (gName 0) tYes (tCall (sp_let K bw n) [] E0 (tCons (tVar 0) (tCons (tVar 1) (tCons (tVar 2) (tCons (tVar 3) tNil)))))
        [some (.ref p0), some (V.ref a), some (V.ref ba), some (V.int mo)] (fun x H1 => ∃ p, x = V.ref p ∧ ∃ x, SqL K H1 p (List.map V.bl x) ∧ Q (V.bl (x.all id)) H1) (Itl K a_1) H1) E0 := by
    intro nq hbare H1 g1
    obtain ⟨p1, xs, ev', e, hl3, hk, pr⟩ := r.items
    cases ev'
    rw [letR_inner nq hbare] at q
    have eis : xs.filter (isT H1) = xs.filter (isT H) := List.filter_congr fun y hy => by
      obtain ⟨k, z⟩ := hk y hy
      rw [← Kd.isT z, ← Kd.isT (z.same g1)]
    have hpl := Paired.len pr
    have l3 : (xs.filter (isT H)).length ≤ 1000 := Nat.le_trans (List.length_filter_le _ _) (by omega)
    refine ⟨p0, xs, rfl, g1 _ _ e, by omega, fun y hy => let ⟨k, z⟩ := hk y hy; ⟨k, z.same g1⟩, fun D1 H2 hD1 g2 e2 => ⟨D1, rfl, ⟨_, .of e2⟩, ?_⟩⟩
    rw [eis] at e2
    have g12 := g1.trans g2
    refine ci_list (K := K) (a := D1) (xs := xs.filter (isT H)) (fun σ => ∃ v, σ = [v, some (V.ref a), some (V.ref ba), some (V.int mo)]) (fun i => .bl (((sy.inner[i]?).map (letB bw mo tl)).getD true)) l3 (.of e2) ⟨_, rfl⟩ ?_ ?_
    · rintro D i σ H' x hi hx g hD hD' ⟨v, rfl⟩
      obtain ⟨t, et, rt⟩ := Paired.at pr hx
      have dt := (inner_depth (List.mem_of_getElem? et)).1
      have gx := g12.trans g
      simp only [gName, tNil, tCons, tCall, tYes, rd_v0, rd_vS, List.set_cons_zero, List.append_nil, if_true]
      exact ⟨x, a, ba, t, tl, mo, rfl, rt.same gx, by omega, gx _ _ ea, by omega, hb, fun H3 g3 => cz_step l3 hi hD (g3 _ _ hD') (g.trans g3) ⟨_, rfl⟩ (by rw [et]; rfl)⟩
    · intro D H' hD g eD
      refine ⟨D, rfl, (List.range (xs.filter (isT H)).length).map fun i => ((sy.inner[i]?).map (letB bw mo tl)).getD true, .of (by rw [eD, List.map_map]; rfl), ?_⟩
      rw [hpl, all_range_inner]
      exact q H' (g12.trans g)
  cases r with
  | qu hw e hx =>
    rename_i wd nm x t
    rw [show wordOf (Sy.qu wd nm t) = wd from rfl, tell_tell wd hw]
    replace q : ∀ H', Same H H' → Q (.bl (decide (nm ∉ tl) && letB bw mo (tl ++ [nm]) t)) H' := q
    have dn := depth_qu wd nm t
    refine iteT ⟨p0, rfl, _, .of e, _, atI_nat (j := 1) rfl, _, .inl (.of ea), rfl, flats_str tl, ?_⟩
    rw [inV_strs]
    by_cases hn : nm ∈ tl
    · rw [decide_eq_true hn]
      have h := q H (Same.refl H)
      rw [decide_eq_false (fun z => z hn), Bool.false_and] at h
      exact iteF h
    rw [decide_eq_false hn]
    rw [decide_eq_true hn, Bool.true_and] at q
    refine iteT ⟨p0, rfl, _, .of e, _, atI_nat (j := 2) rfl, p0, rfl, _, .of e, _, atI_nat (j := 1) rfl, small_line (by simp), fun p1 H1 n1 => ⟨_, n1.g _ _ ea, _, n1.at', small_line (by rw [List.length_map, List.length_singleton]; omega), fun p2 H2 n2 => ?_⟩⟩
    have g2 := n1.g.trans n2.g
    exact ⟨x, p2, ba, t, tl ++ [nm], mo, rfl, hx.same g2, by omega, by rw [n2.at', List.map_append]; rfl, by rw [List.length_append, List.length_singleton]; omega, hb, fun H3 g3 => q H3 (g2.trans g3)⟩
  | neg e hx =>
    rw [show wordOf (Sy.neg _) = ("not" : Str) from rfl, not_tell]
    exact iteF ⟨_, _, rfl, .neg e hx, fun H1 g1 => ⟨_, rfl, iteF (other (fun _ _ _ z => by cases z) rfl H1 g1)⟩⟩
  | two hw e h1 h2 =>
    rename_i wd x y t1 t2
    rw [show wordOf (Sy.two wd t1 t2) = wd from rfl, join_tell wd hw]
    exact iteF ⟨_, _, rfl, .two hw e h1 h2, fun H1 g1 => ⟨_, rfl, iteF (other (fun _ _ _ z => by cases z) rfl H1 g1)⟩⟩
  | bare hw e =>
    rename_i wd nm m
    rw [show wordOf (Sy.bare wd nm m) = wd from rfl, bare_tell wd hw]
    replace q : ∀ H', Same H H' → Q (.bl (decide (nm ∈ tl) && decide (m ∈ tl))) H' := q
    refine iteF ⟨_, _, rfl, .bare hw e, fun H1 g1 => ⟨_, rfl, iteT ⟨p0, rfl, _, .of (g1 _ _ e), slice_not (by simp), fun p H2 n2 => ⟨⟨_, .of n2.at'⟩, ?_⟩⟩⟩⟩
    have ec : cutL [V.str wd, V.str nm, V.str m] (some 1) none = [nm, m].map V.str := by
      rw [show ((1 : Int)) = ((1 : Nat) : Int) from rfl, cutL_from]
      rfl
    rw [ec] at n2
    have g := g1.trans n2.g
    refine cm_tup (K := K) (a := p) (xs := [nm, m].map V.str) (fun σ => ∃ v, σ = [v, some (.ref a)]) (fun y => .bl (inV y (tl.map V.str))) (by simp) (.of n2.at') ⟨_, rfl⟩ ?_ ?_
    · rintro D i σ H' x hi hm hx g' hD hD' ⟨v, rfl⟩
      have fx : flatV x = true := by
        obtain ⟨z, _, rfl⟩ := List.mem_map.mp hm
        rfl
      simp only [tOp, gName, rIn, tYes, rd_v0, rd_vS, List.set_cons_zero, V.ref.injEq, exists_eq_left', exists_and_left, if_true, if_false, reduceCtorEq]
      exact ⟨_, .inl (.of (g' _ _ (g _ _ ea))), fx, flats_str tl, cm_step (by simp) hx hD hD' g' ⟨_, rfl⟩ rfl⟩
    · intro D H' hD g' hD'
      refine ⟨D, rfl, [decide (nm ∈ tl), decide (m ∈ tl)], .of ?_, ?_⟩
      · rw [hD']
        show some (HO.lst [.bl (inV (.str nm) (tl.map V.str)), .bl (inV (.str m) (tl.map V.str))]) = _
        rw [inV_strs, inV_strs]
        rfl
      · have h := q H' (g.trans g')
        rw [show [decide (nm ∈ tl), decide (m ∈ tl)].all id = (decide (nm ∈ tl) && (decide (m ∈ tl) && true)) from rfl, Bool.and_true]
        exact h
theorem all_let {bw : List Str} (T : Txt K mg w tw rw fa cLeftovers) (d : Dfn K mg "is_let" s_is_let ["saying", "known", "barred", "most"]) (C1 : Cal P w K mg base 1 "inner_sayings" ["saying"] sp_inner) (C2 : Cal P w K mg base 2 "is_bare" ["saying"] sp_isbare) :
    ∀ n, Cal P w K mg base (n + 2) "is_let" ["saying", "known", "barred", "most"] (sp_let K bw n)
  | 0 => (d.never fun vs H Q E h => by obtain ⟨v, a, ba, s, tl, mo, _, _, hd, _⟩ := h; exact absurd hd (Nat.not_lt_zero _)).mono (by decide)
  | n + 1 => ok_let T d C1 C2 (all_let T d C1 C2 n)
abbrev s_is_saying : Stmt := top 29
theorem sc_is_saying : FnScope ["thing", "frame"] ["thing", "frame"] (defScope s_is_saying) := ⟨rfl, rfl, rfl, by decide +kernel, rfl, by decide +kernel, by decide +kernel⟩
theorem ok_issay (T : Txt K mg w tw rw fa cLeftovers) (d : Dfn K mg "is_saying" s_is_saying ["thing", "frame"]) (C_is_frame : Cal P w K mg base 4 "is_frame" ["thing"] sp_fr) (C_is_any_saying : Cal P w K mg base 29 "is_any_saying" ["thing"] sp_anysay)
    (C_is_let : Cal P w K mg base 15 "is_let" ["saying", "known", "barred", "most"] (sp_let K treeWords 13)) : Cal P w K mg base 30 "is_saying" ["thing", "frame"] (sp_issay treeWords 4) := by
  refine d.cal sc_is_saying (fun vs H Q E h => ?_) (fun f cdv A outer s H vs Q E hr h => ?_)
  · obtain ⟨v, fv, rfl, _⟩ := h
    rfl
  obtain ⟨v, fv, rfl, ex, tf, hf, q⟩ := h
  refine ⟨_, (pss_one (ps_ret (pe_and (pe_callC C_is_frame hr (by omega) (by rfl) (pa_c (pv 1) pa_nil)) (pe_and (pe_callC C_is_any_saying hr (by omega) (by rfl) (pa_c (pv 0) pa_nil)) (pe_one (pe_callC C_is_let hr (by omega) (by rfl) (pa_c (pv 0) (pa_c (pv 1) (pa_c (pe_gl (by rfl) T.g_TREE_WORDS) (pa_c (pe_gl (by rfl) T.g_MOST_NAMES) pa_nil)))))))))), ?_⟩
  refine rd_st [some v, some fv] rfl ?_
  simp only [tC, tAndV, tRet, tNil, tCons, tCall, rd_v0, rd_vS, List.append_nil]
  refine ⟨fv, rfl, tf, hf, fun H1 g1 => ⟨_, rfl, ite2 (fun c => ?_) fun c => q false H1 g1 ⟨fun z => (by cases z), fun ⟨a, tl, s, ev, e, hfr, _⟩ => absurd (show frB H fv = true by rw [ev]; simp only [frB, e]; exact hfr) c⟩⟩⟩
  obtain ⟨a, tl, rfl, e, hfr, h4⟩ := frB_ex c
  refine ⟨v, rfl, ex.same g1, fun b H2 g2 hb => ⟨_, rfl, ?_⟩⟩
  have back : (∃ s, AnySay H1 v s) ↔ ∃ s, AnySay H v s := ⟨fun ⟨s, r, hw, hd, hp⟩ => by
      have h1 := say_form r hw hd
      rw [formH_same g1 ex] at h1
      obtain ⟨s', r', hw', hd'⟩ := form_say h1
      rw [r.det (r'.same g1)] at hp
      exact ⟨s', r', hw', hd', hp⟩, fun ⟨s, r, hw, hd, hp⟩ => ⟨s, r.same g1, hw, hd, hp⟩⟩
  rw [back] at hb
  refine ite2 (fun cb => ?_) fun cb => q false H2 (g1.trans g2) ⟨fun z => (by cases z), fun ⟨_, _, s, _, _, _, as, _⟩ => absurd (hb.mpr ⟨s, as⟩) cb⟩
  obtain ⟨sy, as⟩ := hb.mp cb
  obtain ⟨r, hw, hd, hp⟩ := id as
  refine ⟨v, a, rw, sy, tl, 4, rfl, r.same (g1.trans g2), by omega, g2 _ _ (g1 _ _ e), by omega, T.t_TREE_WORDS, fun H3 g3 => q _ H3 (g1.trans (g2.trans g3)) ⟨fun z => ⟨a, tl, sy, rfl, e, hfr, as, z⟩, fun ⟨a', tl', s', ev, e', _, as', z⟩ => ?_⟩⟩
  cases ev
  rw [e] at e'
  have et : tl = tl' := by
    have := (Option.some.inj e')
    exact strs_inj (HO.lst.inj this)
  subst et
  rw [r.det as'.1]
  exact z
end
section
variable {P : Program} {w : World} {K : PySem.W.Frag} {mg : Str → Option Value} {base : Heap} {tw rw fa cLeftovers : Addr}
abbrev s_check_frame : Stmt := top 30
theorem sc_check_frame : FnScope ["frame"] ["frame"] (defScope s_check_frame) := ⟨rfl, rfl, rfl, by decide +kernel, rfl, by decide +kernel, by decide +kernel⟩
theorem ok_checkfrN (T : Txt K mg w tw rw fa cLeftovers) (d : Dfn K mg "check_frame" s_check_frame ["frame"]) (C_is_frame : Cal P w K mg base 4 "is_frame" ["thing"] sp_fr) : Cal P w K mg base 5 "check_frame" ["frame"] sp_okframe := by
  refine d.cal sc_check_frame (fun vs H Q E h => ?_) (fun f cdv A outer s H vs Q E hr h => ?_)
  · obtain ⟨b, tl, rfl, _⟩ := h
    rfl
  obtain ⟨b, tl, rfl, eb, h4, hl, hf, q⟩ := h
  refine ⟨_, (pss_one (ps_if (pt_not (pt_val (pe_callC C_is_frame hr (by omega) (by rfl) (pa_c (pv 0) pa_nil)))) (pss_one ps_never) pss_nil)), ?_⟩
  refine rd_st [some (.ref b)] rfl ?_
  simp only [tIfS, tB, tNot, tNext, tNil, tCons, tCall, rd_v0, List.append_nil]
  refine ⟨_, rfl, ⟨⟨_, .lst eb⟩, fun z e => by cases e⟩, (fun a xs ea e => by cases ea; rw [eb] at e; cases e; exact things_strs (by omega) (fun z hz => by have := hl z hz; omega)), fun H1 g1 => ⟨_, rfl, ?_⟩⟩
  rw [show frB H (.ref b) = true by unfold frB; simp only [eb]; exact hf]
  exact iteF (q H1 g1)
abbrev s_check_let : Stmt := top 31
theorem sc_check_let : FnScope ["saying", "frame"] ["saying", "frame"] (defScope s_check_let) := ⟨rfl, rfl, rfl, by decide +kernel, rfl, by decide +kernel, by decide +kernel⟩
theorem ok_checkletN (T : Txt K mg w tw rw fa cLeftovers) (d : Dfn K mg "check_let" s_check_let ["saying", "frame"]) (C_check_frame : Cal P w K mg base 5 "check_frame" ["frame"] sp_okframe) (C_is_saying : Cal P w K mg base 30 "is_saying" ["thing", "frame"] (sp_issay treeWords 4)) : Cal P w K mg base 31 "check_let" ["saying", "frame"] sp_oklet := by
  refine d.cal sc_check_let (fun vs H Q E h => ?_) (fun f cdv A outer s H vs Q E hr h => ?_)
  · obtain ⟨v, b, tl, wd, n, m, i, j, rfl, _⟩ := h
    rfl
  obtain ⟨v, b, tl, wd, n, m, i, j, rfl, r, eb, h4, hl, B, q⟩ := h
  refine ⟨_, (pss_cons (ps_expr (pe_callC C_check_frame hr (by omega) (by rfl) (pa_c (pv 1) pa_nil))) (pss_one (ps_if (pt_not (pt_val (pe_callC C_is_saying hr (by omega) (by rfl) (pa_c (pv 0) (pa_c (pv 1) pa_nil))))) (pss_one ps_never) pss_nil))), ?_⟩
  refine rd_st [some v, some (.ref b)] rfl ?_
  simp only [tSeq, tIfS, tB, tNot, tNext, tDrop, tNil, tCons, tCall, rd_v0, rd_vS, List.append_nil]
  refine ⟨b, tl, rfl, eb, h4, hl, B.fr, fun H1 g1 => ?_⟩
  have eb1 := g1 _ _ eb
  have r1 := r.same g1
  refine ⟨v, .ref b, rfl, r1.exp B.wf 12, ⟨⟨_, .lst eb1⟩, fun z e => by cases e⟩, (fun a xs ea e => by cases ea; rw [eb1] at e; cases e; exact things_strs (by omega) (fun z hz => by have := hl z hz; omega)), fun tb H2 g2 hb => ⟨_, rfl, ?_⟩⟩
  have : tb = true := hb.mpr ⟨b, tl, _, rfl, eb1, B.fr, ⟨r1, B.wf, by show (1 : Nat) ≤ 12; decide, by show (1 : Nat) ≤ 60; decide⟩, B.ok⟩
  rw [this]
  exact iteF (q H2 (g1.trans g2))
abbrev s_holds_by : Stmt := top 47
theorem sc_holds_by : FnScope ["saying", "frame", "row", "leftovers", "left", "letter"] ["saying", "frame", "row"] (defScope s_holds_by) := ⟨rfl, rfl, rfl, by decide +kernel, rfl, by decide +kernel, by decide +kernel⟩
theorem ok_holdsby (T : Txt K mg w tw rw fa cLeftovers) (d : Dfn K mg "holds_by" s_holds_by ["saying", "frame", "row"]) (C_Leftovers : CalI P w K mg base 1 cLeftovers "Leftovers" ["self"] (sp_linit cLeftovers)) (C_Leftovers_of_saying : CalM P w K mg base 3 cLeftovers "of_saying" ["self", "saying", "names"] (sp_lsay cLeftovers)) (C_Leftovers_behind : CalM P w K mg base 4 cLeftovers "behind" ["self", "left", "letter"] (sp_lbeh cLeftovers)) (C_Leftovers_at_end : CalM P w K mg base 1 cLeftovers "at_end" ["self", "left"] (sp_lend cLeftovers)) : Cal P w K mg base 5 "holds_by" ["saying", "frame", "row"] sp_holdsby := by
  refine d.cal sc_holds_by (fun vs H Q E h => ?_) (fun f cdv A outer s H vs Q E hr h => ?_)
  · obtain ⟨v, b, r, wd, n, m, tl, i, j, row, rfl, _⟩ := h
    rfl
  obtain ⟨v, b, r, wd, n, m, tl, i, j, row, rfl, rp, eb, h4, B, er, h100, hc, q⟩ := h
  refine ⟨_, (pss_cons (ps_set (i := 3) sc_holds_by.nd rfl (Or.inl rfl) (pe_makeC C_Leftovers hr (by omega) (by rfl))) (pss_cons (ps_set (i := 4) sc_holds_by.nd rfl (Or.inl rfl) (pe_methC C_Leftovers_of_saying T.cl_Leftovers hr (by omega) (pv 3) (pa_c (pv 0) (pa_c (pv 1) pa_nil)))) (pss_cons (ps_for PassesOwn.never rfl (pi_listK K (pv 2)) (pg_name (i := 5) sc_holds_by.nd (by rfl) (Or.inl (by rfl))) (pss_one (ps_set (i := 4) sc_holds_by.nd rfl (Or.inl rfl) (pe_methC C_Leftovers_behind T.cl_Leftovers hr (by omega) (pv 3) (pa_c (pv 4) (pa_c (pv 5) pa_nil)))))) (pss_one (ps_ret (pe_methC C_Leftovers_at_end T.cl_Leftovers hr (by omega) (pv 3) (pa_c (pv 4) pa_nil))))))), ?_⟩
  refine rd_st [some v, some (.ref b), some (.ref r), none, none, none] rfl ?_
  simp only [tMeth, tMake, tSeq, gName, tAsg, tNil, tCons, iList, rd_v0, rd_vS, rd_for, List.set_cons_zero, List.set_cons_succ, List.append_nil, V.ref.injEq, exists_eq_left', exists_and_left]
  intro p dx hp hdx ne
  refine ⟨p, dx, H, rfl, rfl, hp, hdx, ne, fun H1 L1 => ⟨rfl, ?_⟩⟩
  obtain ⟨dx', pf, pn, ps, rs, e1, _⟩ := L1.ex
  refine ⟨_, _, e1, fl_none (by decide) (by decide) (by decide), p, b, v, H, wd, n, m, tl, i, j, rfl, L1, rp.same L1.g, L1.g _ _ eb, h4, B.ei, B.hi, B.ej, B.hj, fun H2 Lf2 => ⟨⟨_, .of (Lf2.g _ _ er)⟩, ?_⟩⟩
  have hi4 : i ≤ 4 := by have := B.hi; omega
  have hj4 : j ≤ 4 := by have := B.hj; omega
  refine fb_list (K := K) (a := r) (xs := row.map nV) (fun k σ H' => ∃ rest sts l v5, σ = [some v, some (.ref b), some (.ref r), some (.ref p), some (nV l), v5] ∧ l = brun wd i j 2 (row.take k) ∧ FR wd i j rest ∧ StK wd i j rest sts ∧ sts.length ≤ k ∧ l < 2 + rest.length ∧ Lf cLeftovers H H' p rest sts)
    ⟨[frmK wd i j], [], 2, none, rfl, rfl, .inl rfl, (fun l c v e => by cases e), Nat.zero_le _, by simp, Lf2⟩ (fun k σ H' _ z => by obtain ⟨_, _, _, _, _, _, _, _, _, _, L'⟩ := z; exact .of (L'.g _ _ er)) ?_ ?_
  · rintro k y σ H' hy ⟨rest, sts, l, v5, rfl, el, F, S, hs, hl, L'⟩
    rw [List.getElem?_map] at hy
    obtain ⟨c, ec, rfl⟩ := Option.map_eq_some_iff.mp hy
    have hk := (List.getElem?_eq_some_iff.mp ec).1
    simp only [tMeth, gName, tAsg, tNil, tCons, rd_v0, rd_vS, List.set_cons_zero, List.set_cons_succ, List.append_nil, V.ref.injEq, List.cons.injEq, and_true, true_and, exists_eq_left', exists_and_left, Option.some.injEq, and_assoc]
    obtain ⟨dx', pf, pn, ps, rs, e1, _⟩ := L'.ex
    refine ⟨_, _, e1, fl_none (by decide) (by decide) (by decide), p, H, wd, i, j, l, c, rest, sts, rfl, B.hw, hi4, hj4, hc c (List.mem_of_getElem? ec), L', F, S, by omega, hl, fun rest' sts' H3 F' S' hs' hb' L3 => ?_⟩
    refine ⟨rest', sts', bstep wd i j l c, rfl, ?_, F', S', by omega, hb', L3⟩
    rw [List.take_add_one, ec, Option.toList_some]
    show _ = List.foldl _ _ (_ ++ [c])
    rw [List.foldl_append, el]
    rfl
  · rintro σ H' ⟨rest, sts, l, v5, rfl, el, F, S, hs, hl, L'⟩
    rw [List.length_map, List.take_of_length_le (Nat.le_refl _)] at el
    simp only [tMeth, tRet, tNil, tCons, rd_v0, rd_vS, List.append_nil, V.ref.injEq, exists_eq_left', exists_and_left]
    obtain ⟨dx', pf, pn, ps, rs, e1, _⟩ := L'.ex
    refine ⟨_, _, e1, fl_none (by decide) (by decide) (by decide), p, H, wd, i, j, l, rest, sts, rfl, B.hw, L', F, hl, fun H3 g3 => ?_⟩
    rw [el]
    exact q H3 (L'.g.trans g3)
abbrev s_holds : Stmt := top 48
theorem sc_holds : FnScope ["saying", "frame", "row"] ["saying", "frame", "row"] (defScope s_holds) := ⟨rfl, rfl, rfl, by decide +kernel, rfl, by decide +kernel, by decide +kernel⟩
theorem ok_holds (T : Txt K mg w tw rw fa cLeftovers) (d : Dfn K mg "holds" s_holds ["saying", "frame", "row"]) (C_check_let : Cal P w K mg base 31 "check_let" ["saying", "frame"] sp_oklet) (C_fits : Cal P w K mg base 5 "fits" ["frame", "row"] sp_fitsN) (C_holds_by : Cal P w K mg base 5 "holds_by" ["saying", "frame", "row"] sp_holdsby) : Cal P w K mg base 32 "holds" ["saying", "frame", "row"] sp_holds := by
  refine d.cal sc_holds (fun vs H Q E h => ?_) (fun f cdv A outer s H vs Q E hr h => ?_)
  · obtain ⟨v, b, r, wd, n, m, tl, i, j, row, rfl, _⟩ := h
    rfl
  obtain ⟨v, b, r, wd, n, m, tl, i, j, row, rfl, rp, eb, fo, hl, B, er, h100, hc, q⟩ := h
  refine ⟨_, (pss_cons (ps_expr (pe_callC C_check_let hr (by omega) (by rfl) (pa_c (pv 0) (pa_c (pv 1) pa_nil)))) (pss_one (ps_ret (pe_and (pe_callC C_fits hr (by omega) (by rfl) (pa_c (pv 1) (pa_c (pv 2) pa_nil))) (pe_one (pe_callC C_holds_by hr (by omega) (by rfl) (pa_c (pv 0) (pa_c (pv 1) (pa_c (pv 2) pa_nil))))))))), ?_⟩
  refine rd_st [some v, some (.ref b), some (.ref r)] rfl ?_
  simp only [tSeq, tAndV, tDrop, tRet, tNil, tCons, tCall, rd_v0, rd_vS, List.append_nil]
  have h4 := fo.1
  refine ⟨v, b, tl, wd, n, m, i, j, rfl, rp, eb, h4, hl, B, fun H1 g1 => ⟨b, r, tl, row, rfl, g1 _ _ eb, fo, g1 _ _ er, by omega, hc, fun H2 g2 => ⟨_, rfl, ?_⟩⟩⟩
  have g12 := g1.trans g2
  cases hf : fitB tl row with
  | false =>
    rw [hf] at q
    exact iteF (q H2 g12)
  | true =>
    rw [hf] at q
    have h32 : ∀ l ∈ row, l < 32 := fun l ml => by
      have := hc l ml
      have := pow_small h4
      omega
    exact iteT ⟨v, b, r, wd, n, m, tl, i, j, row, rfl, rp.same g12, g12 _ _ eb, h4, B, g12 _ _ er, h100, h32, fun H3 g3 => q H3 (g12.trans g3)⟩
end
section
variable {P : Program} {w : World} {K : PySem.W.Frag} {mg : Str → Option Value} {base : Heap} {tw rw fa cLeftovers : Addr}
abbrev s_law_due : Stmt := top 55
theorem sc_law_due : FnScope ["_law_saying", "_law_frame_here", "_law_row_here", "_law_some", "_law_name", "_law_k", "_law_one", "_law_other"] ["_law_saying", "_law_frame_here", "_law_row_here"] (defScope s_law_due) := ⟨rfl, rfl, rfl, by decide +kernel, rfl, by decide +kernel, by decide +kernel⟩
theorem ok_due10 (T : Txt K mg w tw rw fa cLeftovers) (d : Dfn K mg "_law_due" s_law_due ["_law_saying", "_law_frame_here", "_law_row_here"]) : Cal P w K mg base 1 "_law_due" ["_law_saying", "_law_frame_here", "_law_row_here"] sp_due10 := by
  refine d.cal sc_law_due (fun vs H Q E h => ?_) (fun f cdv A outer s H vs Q E hr h => ?_)
  · obtain ⟨v, b, r, wd, n, m, tl, row, rfl, _⟩ := h
    rfl
  obtain ⟨v, b, r, wd, n, m, tl, row, rfl, rp, hn, hm, ok, eb, ht, er, h100, hc, F, q⟩ := h
  have hu := hu_at hr 8 (by decide)
  refine ⟨_, (pss_cons (ps_set (i := 3) sc_law_due.nd rfl (Or.inl rfl) (pe_lstN pa_nil)) (pss_cons (ps_for PassesOwn.never rfl (pi_tupK K (pe_slice (sl_tupNK K) (pv 0) (po_some pe_int) po_none)) (pg_name (i := 4) sc_law_due.nd (by rfl) (Or.inl (by rfl))) (pss_cons (ps_set (i := 5) sc_law_due.nd rfl (Or.inr rfl) (pe_bmK K PySem.F.plainAttrs_list PySem.F.slot_list_index PySem.F.type_list_index (mt_indexTK K hu) (pv 1) (pa_c (pv 4) pa_nil))) (pss_one (ps_expr (pe_bmK K PySem.F.plainAttrs_list PySem.F.slot_list_append PySem.F.type_list_append mt_append (pv 3) (pa_c (pe_lcomp ["_law_place"] [(2, "_law_row_here"), (5, "_law_k")] (CompOk.of rfl (by rfl) (by rfl)) (by rfl) (pi_range1 (by rfl) T.b_range (pa_c (pe_cB (call_len_seqK K) (by rfl) T.b_len boot_len (pa_c (pv 2) pa_nil)) pa_nil)) (fun _ _ _ _ _ => (pg_name (i := 0) (show List.Nodup (["_law_place", "_law_row_here", "_law_k"] : List Str) by decide +kernel) (by rfl) (Or.inl (by rfl)))) (fun _ _ _ _ _ => (pf_one (pt_cmpR op_eq (pe_op op_mod (pe_op op_fdiv (pe_ix (ix_listK K) (pv 1) (pv 0) (fun _ _ => rfl)) (pe_ix (ix_listK K) (pe_lstN (pa_c pe_int (pa_c pe_int (pa_c pe_int pa_nil)))) (pv 2) (fun _ _ => rfl))) pe_int) pe_int (nomark _)))) (fun _ _ _ _ _ => (pv 0))) pa_nil)))))) (pss_cons (ps_asg (pv 3) (pg_lst K (n := 2) rfl (pgs_cons (pg_name (i := 6) sc_law_due.nd (by rfl) (Or.inl (by rfl))) (pgs_cons (pg_name (i := 7) sc_law_due.nd (by rfl) (Or.inr (by rfl))) pgs_nil)))) (pss_cons (ps_if (PW.pt (pw_or (pt_cmpR op_eq (pe_ix (ix_tupK K) (pv 0) pe_int (fun _ _ => rfl)) pe_str (nomark _)) (pw_or1 (pt_cmpR op_eq (pe_ix (ix_tupK K) (pv 0) pe_int (fun _ _ => rfl)) pe_str (nomark _))))) (pss_one (ps_ret (pe_cB (call_all_blK K rfl) (by rfl) T.b_all boot_all (pa_c (pe_lcomp ["_law_place"] [(7, "_law_other")] (CompOk.of rfl (by rfl) (by rfl)) (by rfl) (pi_listK K (pv 6)) (fun _ _ _ _ _ => (pg_name (i := 0) (show List.Nodup (["_law_place", "_law_other"] : List Str) by decide +kernel) (by rfl) (Or.inl (by rfl)))) (fun _ _ _ _ _ => pf_nil) (fun _ _ _ _ _ => (pe_cmpR (op_in_seqK K) (pv 0) (pv 1) (by with_unfolding_all rfl)))) pa_nil)))) pss_nil) (pss_cons (ps_if (pt_cmpR op_eq (pe_ix (ix_tupK K) (pv 0) pe_int (fun _ _ => rfl)) pe_str (nomark _)) (pss_one (ps_ret (pe_cmpR (op_eqIK K hu) (pv 6) (pv 7) (nomark _)))) pss_nil) (pss_cons (ps_if (pt_cmpR op_eq (pe_ix (ix_tupK K) (pv 0) pe_int (fun _ _ => rfl)) pe_str (nomark _)) (pss_one (ps_ret (pe_cmpR op_lt (pe_ix (ix_listK K) (pv 6) pe_int (fun _ _ => rfl)) (pe_ix (ix_listK K) (pv 7) pe_int (fun _ _ => rfl)) (nomark _)))) pss_nil) (pss_one (ps_ret (pe_cmpR op_eq (pe_op op_add (pe_ix (ix_listK K) (pv 6) pe_int (fun _ _ => rfl)) pe_int) (pe_ix (ix_listK K) (pv 7) pe_int (fun _ _ => rfl)) (nomark _)))))))))), ?_⟩
  refine rd_st [some v, some (.ref b), some (.ref r), none, none, none, none, none] rfl ?_
  simp only [rSlTN, tLstN, tSeq, tC, gName, tAsg, tNil, tNoPart, tPart, tSl, iTup, rd_v0, rd_for, List.set_cons_zero, List.set_cons_succ, V.int.injEq, V.ref.injEq, exists_eq_left', exists_and_left]
  obtain ⟨⟨hl1, hl3⟩, fo, hz4, hfr, hP⟩ := fr10 ht
  have h8 : 2 ^ tl.length ≤ 8 := Nat.pow_le_pow_right (by decide) hl3
  have hpi : ∀ k, k < 3 → ([V.int 1, V.int 2, V.int 4] : List V)[k]? = some (nV (2 ^ k)) := fun k hk => by
    rcases (show k = 0 ∨ k = 1 ∨ k = 2 by omega) with rfl | rfl | rfl <;> rfl
  cases rp with
  | bare hw e =>
  rename_i a
  refine ⟨by decide, fun ps H1 n1 => ⟨a, rfl, _, .of (n1.g _ _ e), slice_not (by simp), fun p3 H3 n3 => ⟨⟨_, .of n3.at'⟩, ?_⟩⟩⟩
  have ec : cutL [V.str wd, V.str n, V.str m] (some 1) none = [n, m].map V.str := by
    rw [show ((1 : Int)) = ((1 : Nat) : Int) from rfl, cutL_from]
    rfl
  rw [ec] at n3
  have hps : H ps = none := n1.nil
  have g3 := n1.g.trans n3.g
  have np3 : p3 ≠ ps := (ne_of_none n1.at' n3.nil).symm
  refine fb_tup (K := K) (a := p3) (xs := [n, m].map V.str) (fun k σ H' => Same H H' ∧ H' p3 = some (.tup ([n, m].map V.str)) ∧ ∃ rs v4 v5, σ = [some (.ref a), some (.ref b), some (.ref r), some (.ref ps), v4, v5, none, none] ∧ H' ps = some (.lst rs) ∧ rs.length = k ∧ ∀ j y, rs[j]? = some y → ∃ q, y = .ref q ∧ q ≠ ps ∧ H' q = some (.lst ((wth row (tl.idxOf (([n, m] : List Str).getD j ""))).map nV)))
    ⟨g3, n3.at', [], none, none, rfl, n3.g _ _ n1.at', rfl, fun j y h => by simp at h⟩ (fun k σ H' _ z => .of z.2.1) ?_ ?_
  · rintro k y σ H' hy ⟨g, ep3, rs, v4, v5, rfl, eps, hlen, hrs⟩
    rw [List.getElem?_map] at hy
    obtain ⟨z, ez, rfl⟩ := Option.map_eq_some_iff.mp hy
    have hz : z ∈ tl := by
      have := List.mem_of_getElem? ez
      simp only [List.mem_cons, List.not_mem_nil, or_false] at this
      rcases this with rfl | rfl
      · exact hn
      · exact hm
    have hzi := List.idxOf_lt_length_iff.mpr hz
    simp only [rIndexT, rLen, tSeq, tDrop, gName, tAsg, tNil, tCons, tCB, tBM, tyV, rAppend, iRng1, rd_v0, rd_vS, rd_comp, List.set_cons_zero, List.set_cons_succ, V.int.injEq, V.str.injEq, V.ref.injEq, List.cons.injEq, and_true, true_and, exists_eq_left', exists_and_left, and_assoc]
    refine ⟨.inl ⟨_, .of (g _ _ eb)⟩, _, .of (g _ _ eb), hz, by omega, .inl ⟨_, .of eps⟩, _, .inl (.of (g _ _ er)), by rw [List.length_map]; omega, by rw [List.length_map]; omega, ?_⟩
    rw [List.length_map, Int.toNat_natCast]
    refine crf_map (fun σ => ∃ v, σ = [v, some (.ref r), some (nV (tl.idxOf z))]) (fun x => bit (row.getD x 0) (tl.idxOf z)) (fun x => nV x) (by omega) ⟨_, rfl⟩ ?_ ?_
    · rintro D i σ H4 hi gg hD hD' ⟨v, rfl⟩
      have ei : (row.map nV)[i]? = some (nV row[i]) := by rw [List.getElem?_map, List.getElem?_eq_getElem hi]; rfl
      have egd : row.getD i 0 = row[i] := by rw [List.getD_eq_getElem?_getD, List.getElem?_eq_getElem hi]; rfl
      have hp2 : 1 ≤ 2 ^ tl.idxOf z ∧ 2 ^ tl.idxOf z ≤ 4 := by rcases (show tl.idxOf z = 0 ∨ tl.idxOf z = 1 ∨ tl.idxOf z = 2 by omega) with e | e | e <;> rw [e] <;> decide
      simp only [tLstN, tTest, tOp, tC, gName, rI, rEq, tNil, tCons, rIxL, rd_v0, rd_vS, List.set_cons_zero, V.int.injEq, V.bl.injEq, V.ref.injEq, true_and, exists_eq_left', exists_and_left, rd_ii]
      rw [Int.zero_add]
      refine ⟨_, .of ((g.trans gg) _ _ er), _, atI_nat ei, small_line (by simp), fun p5 H5 n5 => ⟨_, n5.lst, _, atI_nat (hpi _ (by omega)), _, rfl, _, rfl, ⟨by omega, by omega⟩, by decide, ?_⟩⟩
      rw [bit_int, ← egd]
      cases hb : bit (row.getD i 0) (tl.idxOf z) with
      | true => exact iteT (crf_step (by omega) hi hb hD (n5.g _ _ hD') (gg.trans n5.g) ⟨_, rfl⟩ rfl)
      | false => exact iteF (crf_skip hi hb (n5.g _ _ hD') (gg.trans n5.g) ⟨_, rfl⟩)
    intro D H4 hD g4 eD
    have nD : D ≠ ps := (ne_of_none eps hD).symm
    refine ⟨_, g4 _ _ eps, small1000 (by have := (List.getElem?_eq_some_iff.mp ez).1; simp only [List.length_cons, List.length_nil] at this; omega), (g.trans g4).wr hps _, by rw [upd_ne np3]; exact g4 _ _ ep3, _, upd_same, by rw [List.length_append, hlen]; rfl, fun j y hj => ?_⟩
    by_cases h : j < rs.length
    · rw [List.getElem?_append_left h] at hj
      obtain ⟨q0, rfl, nq, eq⟩ := hrs j y hj
      exact ⟨q0, rfl, nq, by rw [upd_ne nq]; exact g4 _ _ eq⟩
    · have hj1 : j = rs.length := by
        have := (List.getElem?_eq_some_iff.mp hj).1
        rw [List.length_append, List.length_singleton] at this
        omega
      subst hj1
      rw [List.getElem?_append_right (Nat.le_refl _), Nat.sub_self] at hj
      cases hj
      refine ⟨D, rfl, nD, ?_⟩
      rw [upd_ne nD, eD, show ([n, m] : List Str).getD rs.length "" = z by rw [hlen, List.getD_eq_getElem?_getD, ez]; rfl]
      rfl
  · rintro σ H' ⟨g, ep3, rs, v4, v5, rfl, eps, hlen, hrs⟩
    simp only [rEqI, gLst, rAll, tSeq, tIfS, tTest, tOp, tC, tOr, tNext, tRet, gName, gNil, gCons, tAsg, rI0, rEq, tNil, tCons, tCB, rIxL, rIxT, iList, rd_v0, rd_vS, rd_comp, List.set_cons_zero, List.set_cons_succ, V.int.injEq, V.bl.injEq, V.ref.injEq, List.cons.injEq, and_true, exists_eq_left', exists_and_left, if_true]
    match rs, hlen, eps, hrs with
    | [y1, y2], _, eps, hrs =>
    obtain ⟨q1, rfl, nq1, e1⟩ := hrs 0 y1 rfl
    obtain ⟨q2, rfl, nq2, e2⟩ := hrs 1 y2 rfl
    have e1 : H' q1 = some (.lst ((wth row (tl.idxOf n)).map nV)) := e1
    have e2 : H' q2 = some (.lst ((wth row (tl.idxOf m)).map nV)) := e2
    have eA := g _ _ e
    refine ⟨_, .of eps, rfl, _, _, rfl, _, _, rfl, rfl, _, .of eA, _, atI_0, rfl, ?_⟩
    obtain ⟨hd1, hd2⟩ := due10 ht F hn hm ok
    have hwl : ∀ k, (wth row k).length ≤ 100 := fun k => Nat.le_trans (List.length_filter_le _ _) (by rw [List.length_range]; exact h100)
    have hw1 := hwl (tl.idxOf n)
    have hw2 := hwl (tl.idxOf m)
    have hwd := (bare10 ht hn hm ok).hw
    simp only [SM.rowWords, List.mem_cons, List.not_mem_nil, or_false] at hwd
    rcases hwd with rfl | rfl | rfl | rfl | rfl
    · rw [decide_eq_true rfl]
      refine iteT ⟨q1, rfl, ⟨_, .of e1⟩, cm_list (K := K) (a := q1) (xs := (wth row (tl.idxOf n)).map nV) (fun σ => ∃ v, σ = [v, some (.ref q2)]) (fun v => .bl (inV v ((wth row (tl.idxOf m)).map nV))) (by rw [List.length_map]; omega) (.of e1) ⟨_, rfl⟩ ?_ ?_⟩
      · rintro D3 i σ H3 x hi hm hx gg hD3 hD3' ⟨v, rfl⟩
        obtain ⟨x, hx', rfl⟩ := List.mem_map.mp hm
        simp only [tOp, gName, rIn, tYes, rd_v0, rd_vS, List.set_cons_zero, V.ref.injEq, exists_eq_left', exists_and_left, if_true, if_false, reduceCtorEq]
        exact ⟨_, .inl (.of (gg _ _ e2)), rfl, by rw [List.all_map]; simp [flatV, Function.comp_def], cm_step (by rw [List.length_map]; omega) hx hD3 hD3' gg ⟨_, rfl⟩ rfl⟩
      intro D3 H3 hD3 g3' eD3
      have eD3' : H3 D3 = some (.lst (((wth row (tl.idxOf n)).map fun x => decide (x ∈ wth row (tl.idxOf m))).map V.bl)) := by
        rw [eD3, List.map_map, List.map_map]
        refine congrArg some (congrArg HO.lst (List.map_congr_left fun x _ => ?_))
        show V.bl (inV (nV x) _) = V.bl _
        rw [inV_nats10]
      refine ⟨D3, rfl, _, .of eD3', ?_⟩
      have := q H3 (g.trans g3')
      rw [SM.due, if_pos (by decide)] at this
      rw [List.all_map]
      exact this
    · rw [decide_eq_false (by intro z; exact absurd (V.str.inj z) (by decide))]
      refine iteF ⟨_, .of eA, _, atI_0, rfl, ?_⟩
      rw [decide_eq_false (by intro z; exact absurd (V.str.inj z) (by decide))]
      refine iteF ⟨_, .of eA, _, atI_0, rfl, ?_⟩
      rw [decide_eq_true rfl]
      refine iteT ?_
      refine ⟨q1, rfl, q2, rfl, (wth row (tl.idxOf n)).map (fun (x : Nat) => (x : Int)), by rw [← map_nV]; exact .of e1, (wth row (tl.idxOf m)).map (fun (x : Nat) => (x : Int)), by rw [← map_nV]; exact .of e2, ?_⟩
      have z := q H' g
      rw [SM.due, if_neg (by decide), if_pos rfl] at z
      rw [show decide ((wth row (tl.idxOf n)).map (fun (x : Nat) => (x : Int)) = (wth row (tl.idxOf m)).map (fun (x : Nat) => (x : Int))) = decide (wth row (tl.idxOf n) = wth row (tl.idxOf m)) from decide_eq_decide.mpr ⟨fun h => ints_inj _ _ h, fun h => by rw [h]⟩]
      exact z
    · rw [decide_eq_false (by intro z; exact absurd (V.str.inj z) (by decide))]
      refine iteF ⟨_, .of eA, _, atI_0, rfl, ?_⟩
      rw [decide_eq_true rfl]
      refine iteT ⟨q1, rfl, ⟨_, .of e1⟩, cm_list (K := K) (a := q1) (xs := (wth row (tl.idxOf n)).map nV) (fun σ => ∃ v, σ = [v, some (.ref q2)]) (fun v => .bl (inV v ((wth row (tl.idxOf m)).map nV))) (by rw [List.length_map]; omega) (.of e1) ⟨_, rfl⟩ ?_ ?_⟩
      · rintro D3 i σ H3 x hi hm hx gg hD3 hD3' ⟨v, rfl⟩
        obtain ⟨x, hx', rfl⟩ := List.mem_map.mp hm
        simp only [tOp, gName, rIn, tYes, rd_v0, rd_vS, List.set_cons_zero, V.ref.injEq, exists_eq_left', exists_and_left, if_true, if_false, reduceCtorEq]
        exact ⟨_, .inl (.of (gg _ _ e2)), rfl, by rw [List.all_map]; simp [flatV, Function.comp_def], cm_step (by rw [List.length_map]; omega) hx hD3 hD3' gg ⟨_, rfl⟩ rfl⟩
      intro D3 H3 hD3 g3' eD3
      have eD3' : H3 D3 = some (.lst (((wth row (tl.idxOf n)).map fun x => decide (x ∈ wth row (tl.idxOf m))).map V.bl)) := by
        rw [eD3, List.map_map, List.map_map]
        refine congrArg some (congrArg HO.lst (List.map_congr_left fun x _ => ?_))
        show V.bl (inV (nV x) _) = V.bl _
        rw [inV_nats10]
      refine ⟨D3, rfl, _, .of eD3', ?_⟩
      have := q H3 (g.trans g3')
      rw [SM.due, if_pos (by decide)] at this
      rw [List.all_map]
      exact this
    · rw [decide_eq_false (by intro z; exact absurd (V.str.inj z) (by decide))]
      refine iteF ⟨_, .of eA, _, atI_0, rfl, ?_⟩
      rw [decide_eq_false (by intro z; exact absurd (V.str.inj z) (by decide))]
      refine iteF ⟨_, .of eA, _, atI_0, rfl, ?_⟩
      rw [decide_eq_false (by intro z; exact absurd (V.str.inj z) (by decide))]
      refine iteF ⟨_, .of eA, _, atI_0, rfl, ?_⟩
      rw [decide_eq_true rfl]
      refine iteT ?_
      obtain ⟨x1, ex1⟩ := List.length_eq_one_iff.mp (hd1 (by decide))
      obtain ⟨x2, ex2⟩ := List.length_eq_one_iff.mp (hd2 (by decide) (by decide))
      have z := q H' g
      rw [ex1, ex2, SM.due, if_neg (by decide), if_neg (by decide), if_pos rfl] at z
      rw [ex1] at e1
      rw [ex2] at e2
      refine ⟨q1, rfl, _, .of e1, _, atI_0, q2, rfl, _, .of e2, _, atI_0, _, rfl, _, rfl, ?_⟩
      rw [show decide ((x1 : Int) < (x2 : Int)) = decide (x1 < x2) from decide_eq_decide.mpr (by omega)]
      exact z
    · rw [decide_eq_false (by intro z; exact absurd (V.str.inj z) (by decide))]
      refine iteF ⟨_, .of eA, _, atI_0, rfl, ?_⟩
      rw [decide_eq_false (by intro z; exact absurd (V.str.inj z) (by decide))]
      refine iteF ⟨_, .of eA, _, atI_0, rfl, ?_⟩
      rw [decide_eq_false (by intro z; exact absurd (V.str.inj z) (by decide))]
      refine iteF ⟨_, .of eA, _, atI_0, rfl, ?_⟩
      rw [decide_eq_false (by intro z; exact absurd (V.str.inj z) (by decide))]
      refine iteF ?_
      obtain ⟨x1, ex1⟩ := List.length_eq_one_iff.mp (hd1 (by decide))
      obtain ⟨x2, ex2⟩ := List.length_eq_one_iff.mp (hd2 (by decide) (by decide))
      have z := q H' g
      rw [ex1, ex2, SM.due, if_neg (by decide), if_neg (by decide), if_neg (by decide)] at z
      rw [ex1] at e1
      rw [ex2] at e2
      refine ⟨q1, rfl, _, .of e1, _, atI_0, _, rfl, q2, rfl, _, .of e2, _, atI_0, rfl, ?_⟩
      rw [show decide (V.int ((x1 : Int) + 1) = nV x2) = decide (x1 + 1 = x2) from decide_eq_decide.mpr ⟨fun h => by have := V.int.inj h; omega, fun h => by rw [← h]; rfl⟩]
      exact z
end
section
variable {P : Program} {w : World} {K : PySem.W.Frag} {mg : Str → Option Value} {base : Heap} {tw rw fa cLeftovers : Addr}
abbrev s_law_cell_at : Stmt := top 50
theorem sc_law_cell_at : FnScope ["_law_script", "_law_k"] ["_law_script", "_law_k"] (defScope s_law_cell_at) := ⟨rfl, rfl, rfl, by decide +kernel, rfl, by decide +kernel, by decide +kernel⟩
theorem ok_cell (T : Txt K mg w tw rw fa cLeftovers) (d : Dfn K mg "_law_cell_at" s_law_cell_at ["_law_script", "_law_k"]) : Cal P w K mg base 1 "_law_cell_at" ["_law_script", "_law_k"] (sp_cell K) := by
  refine d.cal sc_law_cell_at (fun vs H Q E h => ?_) (fun f cdv A outer s H vs Q E hr h => ?_)
  · obtain ⟨a, ns, k, rfl, _⟩ := h
    rfl
  obtain ⟨a, ns, k, rfl, hS, h0, q⟩ := h
  refine ⟨_, (pss_cons (ps_if (pt_cmpR op_lt (pv 1) (pe_cB (call_len_seqK K) (by rfl) T.b_len boot_len (pa_c (pv 0) pa_nil)) (nomark _)) (pss_one (ps_ret (pe_ix (ix_listK K) (pv 0) (pv 1) (fun _ _ => rfl)))) pss_nil) (pss_one (ps_ret pe_int))), ?_⟩
  refine rd_st [some (.ref a), some (.int k)] rfl ?_
  simp only [rLen, tSeq, tIfS, tTest, tOp, tC, tNext, tRet, rI0, tNil, tCons, tCB, rIxL, rd_v0, rd_vS, V.int.injEq, V.bl.injEq, V.ref.injEq, List.cons.injEq, and_true, exists_eq_left', exists_and_left]
  refine ⟨_, .inl hS, ite2 (fun c => ?_) (fun _ => q 0)⟩
  have c' := of_decide_eq_true c
  rw [List.length_map] at c'
  have hk : k.toNat < ns.length := by omega
  have ek : k = ((k.toNat : Nat) : Int) := by omega
  have e : atI (ns.map V.int) ((k.toNat : Nat) : Int) = some (.int ns[k.toNat]) := atI_nat (by simp [hk])
  rw [← ek] at e
  exact ⟨_, hS, _, e, q _⟩
abbrev s_law_mixed : Stmt := top 51
theorem sc_law_mixed : FnScope ["_law_cell"] ["_law_cell"] (defScope s_law_mixed) := ⟨rfl, rfl, rfl, by decide +kernel, rfl, by decide +kernel, by decide +kernel⟩
theorem ok_mixed (T : Txt K mg w tw rw fa cLeftovers) (d : Dfn K mg "_law_mixed" s_law_mixed ["_law_cell"]) : Cal P w K mg base 1 "_law_mixed" ["_law_cell"] sp_mixed := by
  refine d.cal sc_law_mixed (fun vs H Q E h => ?_) (fun f cdv A outer s H vs Q E hr h => ?_)
  · obtain ⟨c, rfl, _⟩ := h
    rfl
  obtain ⟨c, rfl, q⟩ := h
  refine ⟨_, (pss_one (ps_ret (pe_op op_mod (pe_op op_mul (pv 0) pe_int) pe_int))), ?_⟩
  refine rd_st [some (.int c)] rfl ?_
  simp only [tOp, tC, tRet, rI, rd_v0, V.int.injEq, exists_eq_left', exists_and_left]
  exact ⟨.inr ⟨by decide, by decide⟩, by decide, q _ (Int.emod_nonneg _ (by decide)) (Int.emod_lt_of_pos _ (by decide))⟩
abbrev s_law_frame : Stmt := top 52
theorem sc_law_frame : FnScope ["_law_mixed_here"] ["_law_mixed_here"] (defScope s_law_frame) := ⟨rfl, rfl, rfl, by decide +kernel, rfl, by decide +kernel, by decide +kernel⟩
theorem ok_frame10 (T : Txt K mg w tw rw fa cLeftovers) (d : Dfn K mg "_law_frame" s_law_frame ["_law_mixed_here"]) : Cal P w K mg base 1 "_law_frame" ["_law_mixed_here"] sp_frame10 := by
  refine d.cal sc_law_frame (fun vs H Q E h => ?_) (fun f cdv A outer s H vs Q E hr h => ?_)
  · obtain ⟨n, rfl, _⟩ := h
    rfl
  obtain ⟨n, rfl, hn, q⟩ := h
  refine ⟨_, (pss_one (ps_ret (pe_ix (ix_listK K) (pe_lstN (pa_c (pe_lstN (pa_c pe_str (pa_c pe_str pa_nil))) (pa_c (pe_lstN (pa_c pe_str (pa_c pe_str pa_nil))) (pa_c (pe_lstN (pa_c pe_str (pa_c pe_str pa_nil))) (pa_c (pe_lstN (pa_c pe_str (pa_c pe_str pa_nil))) (pa_c (pe_lstN (pa_c pe_str (pa_c pe_str (pa_c pe_str pa_nil)))) (pa_c (pe_lstN (pa_c pe_str (pa_c pe_str (pa_c pe_str pa_nil)))) pa_nil))))))) (pe_op op_mod (pv 0) pe_int) (fun _ _ => rfl)))), ?_⟩
  refine rd_st [some (.int n)] rfl ?_
  simp only [tLstN, tOp, tC, tRet, rI, tNil, tCons, rIxL, rd_v0, V.int.injEq, V.ref.injEq, exists_eq_left', exists_and_left]
  refine ⟨small_line (by simp), fun p1 H1 n1 => ⟨small_line (by simp), fun p2 H2 n2 => ⟨small_line (by simp), fun p3 H3 n3 => ⟨small_line (by simp), fun p4 H4 n4 => ⟨small_line (by simp), fun p5 H5 n5 => ⟨small_line (by simp), fun p6 H6 n6 => ⟨small_line (by simp), fun p7 H7 n7 => ?_⟩⟩⟩⟩⟩⟩⟩
  obtain ⟨y, hy, my⟩ := atI_mod (i := n) (xs := ([.ref p1, .ref p2, .ref p3, .ref p4, .ref p5, .ref p6] : List V)) (n := 6) rfl (by decide)
  refine ⟨by decide, _, n7.lst, y, hy, ?_⟩
  have g6 := n7.g
  have g5 := n6.g.trans g6
  have g4 := n5.g.trans g5
  have g3 := n4.g.trans g4
  have g2 := n3.g.trans g3
  have g1 := n2.g.trans g2
  have g0 := n1.g.trans g1
  have k1 := n1.nil
  have k2 := n1.g.free n2.nil
  have k3 := (n1.g.trans n2.g).free n3.nil
  have k4 := (n1.g.trans (n2.g.trans n3.g)).free n4.nil
  have k5 := (n1.g.trans (n2.g.trans (n3.g.trans n4.g))).free n5.nil
  have k6 := (n1.g.trans (n2.g.trans (n3.g.trans (n4.g.trans n5.g)))).free n6.nil
  simp only [List.mem_cons, List.not_mem_nil, or_false] at my
  rcases my with rfl | rfl | rfl | rfl | rfl | rfl
  · exact q p1 ["x", "X"] H7 k1 g0 (g1 _ _ n1.at') (by decide)
  · exact q p2 ["X", "x"] H7 k2 g0 (g2 _ _ n2.at') (by decide)
  · exact q p3 ["x", "y"] H7 k3 g0 (g3 _ _ n3.at') (by decide)
  · exact q p4 ["X", "Y"] H7 k4 g0 (g4 _ _ n4.at') (by decide)
  · exact q p5 ["y", "X", "x"] H7 k5 g0 (g5 _ _ n5.at') (by decide)
  · exact q p6 ["X", "x", "Y"] H7 k6 g0 (g6 _ _ n6.at') (by decide)
abbrev s_law_sayings : Stmt := top 53
theorem sc_law_sayings : FnScope ["_law_frame_here", "_law_found", "_law_places", "_law_sets", "_law_one", "_law_other"] ["_law_frame_here"] (defScope s_law_sayings) := ⟨rfl, rfl, rfl, by decide +kernel, rfl, by decide +kernel, by decide +kernel⟩
theorem ok_says10 (T : Txt K mg w tw rw fa cLeftovers) (d : Dfn K mg "_law_sayings" s_law_sayings ["_law_frame_here"]) : Cal P w K mg base 1 "_law_sayings" ["_law_frame_here"] sp_says10 := by
  refine d.cal sc_law_sayings (fun vs H Q E h => ?_) (fun f cdv A outer s H vs Q E hr h => ?_)
  · obtain ⟨b, tl, rfl, _⟩ := h
    rfl
  obtain ⟨b, tl, rfl, eb, ht, q⟩ := h
  refine ⟨_, (pss_cons (ps_set (i := 1) sc_law_sayings.nd rfl (Or.inl rfl) (pe_lstN pa_nil)) (pss_cons (ps_setC (i := 2) sc_law_sayings.nd rfl (Or.inl rfl) ["_law_name"] [] (CompOk.of rfl (by rfl) (by rfl)) (by rfl) (pi_listK K (pv 0)) (fun _ _ _ _ _ => (pg_name (i := 0) (show List.Nodup (["_law_name"] : List Str) by decide +kernel) (by rfl) (Or.inl (by rfl)))) (fun _ _ _ _ _ => (pf_one (pt_cmpR (op_in_seqK K) (pv 0) (pe_tupN (pa_c pe_str (pa_c pe_str pa_nil))) (by with_unfolding_all rfl)))) (fun _ _ _ _ _ => (pv 0))) (pss_cons (ps_setC (i := 3) sc_law_sayings.nd rfl (Or.inl rfl) ["_law_name"] [] (CompOk.of rfl (by rfl) (by rfl)) (by rfl) (pi_listK K (pv 0)) (fun _ _ _ _ _ => (pg_name (i := 0) (show List.Nodup (["_law_name"] : List Str) by decide +kernel) (by rfl) (Or.inl (by rfl)))) (fun _ _ _ _ _ => (pf_one (pt_cmpR (op_in_seqK K) (pv 0) (pe_tupN (pa_c pe_str (pa_c pe_str pa_nil))) (by with_unfolding_all rfl)))) (fun _ _ _ _ _ => (pv 0))) (pss_cons (ps_for PassesOwn.never rfl (pi_listK K (pv 2)) (pg_name (i := 4) sc_law_sayings.nd (by rfl) (Or.inr (by rfl))) (pss_cons (ps_for PassesOwn.never rfl (pi_listK K (pv 2)) (pg_name (i := 5) sc_law_sayings.nd (by rfl) (Or.inl (by rfl))) (pss_one (ps_set (i := 1) sc_law_sayings.nd rfl (Or.inl rfl) (pe_op op_catN (pv 1) (pe_lstN (pa_c (pe_tupN (pa_c pe_str (pa_c (pv 4) (pa_c (pv 5) pa_nil)))) (pa_c (pe_tupN (pa_c pe_str (pa_c (pv 4) (pa_c (pv 5) pa_nil)))) (pa_c (pe_tupN (pa_c pe_str (pa_c (pv 4) (pa_c (pv 5) pa_nil)))) pa_nil)))))))) (pss_one (ps_set (i := 1) sc_law_sayings.nd rfl (Or.inl rfl) (pe_op op_catN (pv 1) (pe_lcomp ["_law_other"] [(4, "_law_one")] (CompOk.of rfl (by rfl) (by rfl)) (by rfl) (pi_listK K (pv 3)) (fun _ _ _ _ _ => (pg_name (i := 0) (show List.Nodup (["_law_other", "_law_one"] : List Str) by decide +kernel) (by rfl) (Or.inl (by rfl)))) (fun _ _ _ _ _ => pf_nil) (fun _ _ _ _ _ => (pe_tupN (pa_c pe_str (pa_c (pv 1) (pa_c (pv 0) pa_nil))))))))))) (pss_cons (ps_for PassesOwn.never rfl (pi_listK K (pv 3)) (pg_name (i := 4) sc_law_sayings.nd (by rfl) (Or.inr (by rfl))) (pss_one (ps_set (i := 1) sc_law_sayings.nd rfl (Or.inl rfl) (pe_op op_catN (pv 1) (pe_lcomp ["_law_other"] [(4, "_law_one")] (CompOk.of rfl (by rfl) (by rfl)) (by rfl) (pi_listK K (pv 3)) (fun _ _ _ _ _ => (pg_name (i := 0) (show List.Nodup (["_law_other", "_law_one"] : List Str) by decide +kernel) (by rfl) (Or.inl (by rfl)))) (fun _ _ _ _ _ => pf_nil) (fun _ _ _ _ _ => (pe_tupN (pa_c pe_str (pa_c (pv 1) (pa_c (pv 0) pa_nil)))))))))) (pss_one (ps_ret (pv 1)))))))), ?_⟩
  refine rd_st [some (.ref b), none, none, none, none, none] rfl ?_
  simp only [tLstN, tSeq, gName, tAsg, tNil, iList, rd_v0, rd_vS, rd_comp, rd_for, List.set_cons_zero, List.set_cons_succ, V.ref.injEq, exists_eq_left']
  have hl3 := (fr10 ht).1
  refine ⟨by decide, fun pf H1 n1 => ⟨⟨_, .of (n1.g _ _ eb)⟩, ?_⟩⟩
  have hflt : ∀ (l : List Str) (g : Str → Bool) (p : V → Bool), (∀ z, p (V.str z) = g z) → ((l.map V.str).filter p).map id = (l.filter g).map V.str := fun l g p h => by
    rw [List.map_id, List.filter_map]
    exact congrArg (List.map V.str) (List.filter_congr fun z _ => h z)
  refine cf_list (K := K) (a := b) (xs := tl.map V.str) (fun σ => ∃ v, σ = [v]) (fun y => inV y [V.str "x", V.str "y"]) id (by rw [List.length_map]; omega) (.of (n1.g _ _ eb)) ⟨_, rfl⟩ ?_ ?_
  · rintro D i σ H' x hi hm hx g' hD hD' ⟨v, rfl⟩
    obtain ⟨z, hz, rfl⟩ := List.mem_map.mp hm
    simp only [tTupN, tTest, tOp, tC, gName, tNil, tCons, rIn, rd_v0, List.set_cons_zero, V.bl.injEq, V.ref.injEq, exists_eq_left', exists_and_left, if_false, reduceCtorEq]
    refine ⟨small_line (by simp), fun pt Ht nt => ⟨_, .inr (.of nt.at'), rfl, rfl, ?_⟩⟩
    cases hin : inV (V.str z) [V.str "x", V.str "y"] with
    | true => exact iteT (cf_step (by rw [List.length_map]; omega) hx hin hD (nt.g _ _ hD') (g'.trans nt.g) ⟨_, rfl⟩ rfl)
    | false => exact iteF (cf_skip hx hin (nt.g _ _ hD') (g'.trans nt.g) ⟨_, rfl⟩)
  intro pp H2 hpp g2 epp
  rw [hflt tl isXY _ (fun z => inV_strs z ["x", "y"])] at epp
  refine ⟨⟨_, .of ((n1.g.trans g2) _ _ eb)⟩, cf_list (K := K) (a := b) (xs := tl.map V.str) (fun σ => ∃ v, σ = [v]) (fun y => inV y [V.str "X", V.str "Y"]) id (by rw [List.length_map]; omega) (.of ((n1.g.trans g2) _ _ eb)) ⟨_, rfl⟩ ?_ ?_⟩
  · rintro D i σ H' x hi hm hx g' hD hD' ⟨v, rfl⟩
    obtain ⟨z, hz, rfl⟩ := List.mem_map.mp hm
    simp only [tTupN, tTest, tOp, tC, gName, tNil, tCons, rIn, rd_v0, List.set_cons_zero, V.bl.injEq, V.ref.injEq, exists_eq_left', exists_and_left, if_false, reduceCtorEq]
    refine ⟨small_line (by simp), fun pt Ht nt => ⟨_, .inr (.of nt.at'), rfl, rfl, ?_⟩⟩
    cases hin : inV (V.str z) [V.str "X", V.str "Y"] with
    | true => exact iteT (cf_step (by rw [List.length_map]; omega) hx hin hD (nt.g _ _ hD') (g'.trans nt.g) ⟨_, rfl⟩ rfl)
    | false => exact iteF (cf_skip hx hin (nt.g _ _ hD') (g'.trans nt.g) ⟨_, rfl⟩)
  intro pS H3 hpS g3 epS
  rw [hflt tl isSS _ (fun z => inV_strs z ["X", "Y"])] at epS
  have hpl : (tl.filter isXY).length ≤ 3 := Nat.le_trans (List.length_filter_le _ _) (by omega)
  have hsl : (tl.filter isSS).length ≤ 3 := Nat.le_trans (List.length_filter_le _ _) (by omega)
  have hpm : ∀ z ∈ tl.filter isXY, z ∈ tl ∧ isXY z = true := fun z hz => List.mem_filter.mp hz
  have hsm : ∀ z ∈ tl.filter isSS, z ∈ tl ∧ isSS z = true := fun z hz => List.mem_filter.mp hz
  generalize tl.filter isXY = pl at epp hpl hpm
  generalize tl.filter isSS = sl at epS hsl hsm
  have epp3 := g3 _ _ epp
  have epf3 := (g2.trans g3) _ _ n1.at'
  have g03 : Same H H3 := n1.g.trans (g2.trans g3)
  refine ⟨pp, rfl, ⟨_, .of epp3⟩, ?_⟩
  refine fb_list (K := K) (a := pp) (xs := pl.map V.str) (fun k σ H' => Same H3 H' ∧ ∃ pf rs v4 v5, σ = [some (.ref b), some (.ref pf), some (.ref pp), some (.ref pS), v4, v5] ∧ H' pf = some (.lst rs) ∧ rs.length ≤ 12 * k ∧ Sys tl H' rs)
    ⟨Same.refl _, pf, [], none, none, rfl, epf3, by simp, fun v hv => (nomatch hv)⟩ (fun k σ H' _ z => .of (z.1 _ _ epp3)) ?_ ?_
  · rintro k y σ H' hy ⟨g, pf', rs, v4, v5, rfl, ef, hl, S⟩
    rw [List.getElem?_map] at hy
    obtain ⟨one, e1, rfl⟩ := Option.map_eq_some_iff.mp hy
    obtain ⟨h1, h1'⟩ := hpm one (List.mem_of_getElem? e1)
    have hk := (List.getElem?_eq_some_iff.mp e1).1
    simp only [tSeq, gName, iList, rd_v0, rd_vS, rd_for, List.set_cons_zero, List.set_cons_succ, V.ref.injEq, exists_eq_left']
    refine ⟨⟨_, .of (g _ _ epp3)⟩, ?_⟩
    refine fb_list (K := K) (a := pp) (xs := pl.map V.str) (fun j σ H'' => Same H3 H'' ∧ ∃ pf rs v5, σ = [some (.ref b), some (.ref pf), some (.ref pp), some (.ref pS), some (.str one), v5] ∧ H'' pf = some (.lst rs) ∧ rs.length ≤ 12 * k + 3 * j ∧ Sys tl H'' rs)
      ⟨g, pf', rs, v5, rfl, ef, by omega, S⟩ (fun k σ H' _ z => .of (z.1 _ _ epp3)) ?_ ?_
    · rintro j y σ H'' hy ⟨gg, pf2, rs2, v5', rfl, ef2, hl2, S2⟩
      rw [List.getElem?_map] at hy
      obtain ⟨oth, e2, rfl⟩ := Option.map_eq_some_iff.mp hy
      obtain ⟨h2, h2'⟩ := hpm oth (List.mem_of_getElem? e2)
      have hj := (List.getElem?_eq_some_iff.mp e2).1
      simp only [tTupN, tLstN, rCatN, tOp, tC, gName, tAsg, tNil, tCons, rd_v0, rd_vS, List.set_cons_zero, List.set_cons_succ, V.ref.injEq, List.cons.injEq, and_true, true_and, exists_eq_left', exists_and_left, Option.some.injEq, and_assoc]
      refine ⟨small_line (by simp), fun t1 Ha na => ⟨small_line (by simp), fun t2 Hb nb => ⟨small_line (by simp), fun t3 Hc nc => ⟨small_line (by simp), fun t4 Hd nd => ⟨_, (na.g.trans (nb.g.trans (nc.g.trans nd.g))) _ _ ef2, _, nd.at', small_line (by simp only [List.length_cons, List.length_nil]; omega), fun t5 He ne => ?_⟩⟩⟩⟩⟩
      have gA := na.g.trans (nb.g.trans (nc.g.trans (nd.g.trans ne.g)))
      refine ⟨gg.trans gA, _, ne.at', by simp only [List.length_append, List.length_cons, List.length_nil]; omega, fun v hv => ?_⟩
      rcases List.mem_append.mp hv with hv | hv
      · exact S2.ts gA.tups v hv
      · simp only [List.mem_cons, List.not_mem_nil, or_false] at hv
        have o1 : ∀ wd : Str, wd ∈ (["same", "ahead", "next"] : List Str) → okS wd one oth = true := fun wd hw => by simp [okS, hw, h1', h2']
        rcases hv with rfl | rfl | rfl
        · exact ⟨t1, _, _, _, rfl, (nb.g.trans (nc.g.trans (nd.g.trans ne.g))) _ _ na.at', h1, h2, o1 _ (by decide)⟩
        · exact ⟨t2, _, _, _, rfl, (nc.g.trans (nd.g.trans ne.g)) _ _ nb.at', h1, h2, o1 _ (by decide)⟩
        · exact ⟨t3, _, _, _, rfl, (nd.g.trans ne.g) _ _ nc.at', h1, h2, o1 _ (by decide)⟩
    · rintro σ H'' ⟨gg, pf2, rs2, v5', rfl, ef2, hl2, S2⟩
      rw [List.length_map] at hl2
      simp only [rCatN, tOp, gName, tAsg, iList, rd_v0, rd_vS, rd_comp, List.set_cons_zero, List.set_cons_succ, V.ref.injEq, List.cons.injEq, and_true, true_and, exists_eq_left', exists_and_left, Option.some.injEq, and_assoc]
      refine ⟨⟨_, .of (gg _ _ epS)⟩, cg_by (n := sl.length) (fun σ => ∃ v, σ = [v, some (.str one)]) (fun j y H => ∃ a, y = .ref a ∧ ∃ z, z ∈ sl ∧ H a = some (.tup [.str "in", .str one, .str z])) (by omega) ⟨_, rfl⟩ (fun i H5 hi gh => ⟨_, .str sl[i], .of (gh _ _ (gg _ _ epS)), by rw [List.getElem?_map, List.getElem?_eq_getElem hi]; rfl⟩) (fun H5 gh => ⟨_, .of (gh _ _ (gg _ _ epS)), by rw [List.length_map]; exact Nat.le_refl _⟩) ?_ ?_⟩
      · rintro D i ys σ H5 x H5' hi gh hD hD' hl hy' ⟨v, rfl⟩ ⟨rfl, yx⟩
        have ex := yx _ (.of (gh _ _ (gg _ _ epS)))
        rw [List.getElem?_map, List.getElem?_eq_getElem hi] at ex
        cases ex
        simp only [tTupN, tC, gName, tNil, tCons, tYes, rd_v0, rd_vS, List.set_cons_zero, if_true]
        exact ⟨small_line (by simp), fun t Ht nt => cg_step (fun j y H H' ts z => let ⟨a, e, z, hz, ea⟩ := z; ⟨a, e, z, hz, ts _ _ ea⟩) (by omega) hi hD (nt.g _ _ hD') hl hy' nt.g.tups (gh.trans nt.g) ⟨_, rfl⟩ ⟨t, rfl, _, List.getElem_mem hi, nt.at'⟩⟩
      intro D ys H5 hD g5 eD hyl hy'
      refine ⟨D, rfl, _, g5 _ _ ef2, _, eD, small_line (by omega), fun t5 He ne => ?_⟩
      have gA := g5.trans ne.g
      refine ⟨gg.trans gA, _, ne.at', by rw [List.length_append]; omega, fun v hv => ?_⟩
      rcases List.mem_append.mp hv with hv | hv
      · exact S2.ts gA.tups v hv
      · obtain ⟨j, hj⟩ := List.mem_iff_getElem?.mp hv
        obtain ⟨a, rfl, z, hz, ea⟩ := hy' j v hj
        obtain ⟨h3, h3'⟩ := hsm z hz
        exact ⟨a, _, _, _, rfl, ne.g _ _ ea, h1, h3, by simp [okS, h1', h3']⟩
  · rintro σ H' ⟨g, pf', rs, v4, v5, rfl, ef, hl, S⟩
    rw [List.length_map] at hl
    simp only [tSeq, iList, rd_v0, rd_vS, rd_for, V.ref.injEq, exists_eq_left']
    refine ⟨⟨_, .of (g _ _ epS)⟩, ?_⟩
    refine fb_list (K := K) (a := pS) (xs := sl.map V.str) (fun k σ H' => Same H3 H' ∧ ∃ pf rs v4 v5, σ = [some (.ref b), some (.ref pf), some (.ref pp), some (.ref pS), v4, v5] ∧ H' pf = some (.lst rs) ∧ rs.length ≤ 36 + 3 * k ∧ Sys tl H' rs)
      ⟨g, pf', rs, v4, v5, rfl, ef, by omega, S⟩ (fun k σ H' _ z => .of (z.1 _ _ epS)) ?_ ?_
    · rintro k y σ H'' hy ⟨gg, pf2, rs2, v4', v5', rfl, ef2, hl2, S2⟩
      rw [List.getElem?_map] at hy
      obtain ⟨one, e1, rfl⟩ := Option.map_eq_some_iff.mp hy
      obtain ⟨h1, h1'⟩ := hsm one (List.mem_of_getElem? e1)
      have hk := (List.getElem?_eq_some_iff.mp e1).1
      simp only [rCatN, tOp, gName, tAsg, iList, rd_v0, rd_vS, rd_comp, List.set_cons_zero, List.set_cons_succ, V.ref.injEq, List.cons.injEq, and_true, true_and, exists_eq_left', exists_and_left, Option.some.injEq, and_assoc]
      refine ⟨⟨_, .of (gg _ _ epS)⟩, cg_by (n := sl.length) (fun σ => ∃ v, σ = [v, some (.str one)]) (fun j y H => ∃ a, y = .ref a ∧ ∃ z, z ∈ sl ∧ H a = some (.tup [.str "within", .str one, .str z])) (by omega) ⟨_, rfl⟩ (fun i H5 hi gh => ⟨_, .str sl[i], .of (gh _ _ (gg _ _ epS)), by rw [List.getElem?_map, List.getElem?_eq_getElem hi]; rfl⟩) (fun H5 gh => ⟨_, .of (gh _ _ (gg _ _ epS)), by rw [List.length_map]; exact Nat.le_refl _⟩) ?_ ?_⟩
      · rintro D i ys σ H5 x H5' hi gh hD hD' hl hy' ⟨v, rfl⟩ ⟨rfl, yx⟩
        have ex := yx _ (.of (gh _ _ (gg _ _ epS)))
        rw [List.getElem?_map, List.getElem?_eq_getElem hi] at ex
        cases ex
        simp only [tTupN, tC, gName, tNil, tCons, tYes, rd_v0, rd_vS, List.set_cons_zero, if_true]
        exact ⟨small_line (by simp), fun t Ht nt => cg_step (fun j y H H' ts z => let ⟨a, e, z, hz, ea⟩ := z; ⟨a, e, z, hz, ts _ _ ea⟩) (by omega) hi hD (nt.g _ _ hD') hl hy' nt.g.tups (gh.trans nt.g) ⟨_, rfl⟩ ⟨t, rfl, _, List.getElem_mem hi, nt.at'⟩⟩
      intro D ys H5 hD g5 eD hyl hy'
      refine ⟨D, rfl, _, g5 _ _ ef2, _, eD, small_line (by omega), fun t5 He ne => ?_⟩
      have gA := g5.trans ne.g
      refine ⟨gg.trans gA, _, ne.at', by rw [List.length_append]; omega, fun v hv => ?_⟩
      rcases List.mem_append.mp hv with hv | hv
      · exact S2.ts gA.tups v hv
      · obtain ⟨j, hj⟩ := List.mem_iff_getElem?.mp hv
        obtain ⟨a, rfl, z, hz, ea⟩ := hy' j v hj
        obtain ⟨h3, h3'⟩ := hsm z hz
        exact ⟨a, _, _, _, rfl, ne.g _ _ ea, h1, h3, by simp [okS, h1', h3']⟩
    · rintro σ H'' ⟨gg, pf2, rs2, v4', v5', rfl, ef2, hl2, S2⟩
      rw [List.length_map] at hl2
      simp only [tRet, rd_v0, rd_vS]
      exact q pf2 rs2 H'' (g03.trans gg) ef2 (by omega) S2
end
section
variable {P : Program} {w : World} {K : PySem.W.Frag} {mg : Str → Option Value} {base : Heap} {tw rw fa cLeftovers : Addr}
abbrev s_law_all : Stmt := top 56
theorem sc_law_all : FnScope ["_law_frame_here", "_law_row_here", "_law_handed", "_law_saying", "_law_found"] ["_law_frame_here", "_law_row_here"] (defScope s_law_all) := ⟨rfl, rfl, rfl, by decide +kernel, rfl, by decide +kernel, by decide +kernel⟩
theorem ok_all10 (T : Txt K mg w tw rw fa cLeftovers) (d : Dfn K mg "_law_all" s_law_all ["_law_frame_here", "_law_row_here"]) (C_law_sayings : Cal P w K mg base 1 "_law_sayings" ["_law_frame_here"] sp_says10) (C_holds : Cal P w K mg base 32 "holds" ["saying", "frame", "row"] sp_holds) (C_law_due : Cal P w K mg base 1 "_law_due" ["_law_saying", "_law_frame_here", "_law_row_here"] sp_due10) : Cal P w K mg base 33 "_law_all" ["_law_frame_here", "_law_row_here"] sp_all10 := by
  refine d.cal sc_law_all (fun vs H Q E h => ?_) (fun f cdv A outer s H vs Q E hr h => ?_)
  · obtain ⟨b, r, tl, row, rfl, _⟩ := h
    rfl
  obtain ⟨b, r, tl, row, rfl, eb, ht, er, h90, hc, F, q⟩ := h
  have hu := hu_at hr 8 (by decide)
  refine ⟨_, (pss_cons (ps_set (i := 2) sc_law_all.nd rfl (Or.inl rfl) (pe_lstN (pa_c (pe_cTy (call_list_ofNK K) (by rfl) T.b_list boot_list (pa_c (pv 0) pa_nil)) (pa_c (pe_cTy (call_list_ofNK K) (by rfl) T.b_list boot_list (pa_c (pv 1) pa_nil)) pa_nil)))) (pss_cons (ps_for PassesOwn.never rfl (pi_listK K (pe_callC C_law_sayings hr (by omega) (by rfl) (pa_c (pv 0) pa_nil))) (pg_name (i := 3) sc_law_all.nd (by rfl) (Or.inl (by rfl))) (pss_cons (ps_set (i := 4) sc_law_all.nd rfl (Or.inl rfl) (pe_callC C_holds hr (by omega) (by rfl) (pa_c (pv 3) (pa_c (pe_ix (ix_listK K) (pv 2) pe_int (fun _ _ => rfl)) (pa_c (pe_ix (ix_listK K) (pv 2) pe_int (fun _ _ => rfl)) pa_nil))))) (pss_one (ps_if (PW.pt (pw_or (pt_not (pt_val (pe_cB call_isk (by rfl) T.b_isinstance boot_isinstance (pa_c (pv 4) (pa_c (pe_bltn (v := .ty "bool") (by rfl) T.b_bool boot_bool (by rfl)) pa_nil))))) (pw_or (pt_cmpR op_ne (pv 4) (pe_callC C_law_due hr (by omega) (by rfl) (pa_c (pv 3) (pa_c (pv 0) (pa_c (pv 1) pa_nil)))) (nomark _)) (pw_or1 (pt_cmpR (op_neM hu) (pv 2) (pe_lstN (pa_c (pv 0) (pa_c (pv 1) pa_nil))) (nomark _)))))) (pss_one (ps_ret pe_bl)) pss_nil)))) (pss_one (ps_ret pe_bl)))), ?_⟩
  refine rd_st [some (.ref b), some (.ref r), none, none, none] rfl ?_
  simp only [rListOf, tLstN, tSeq, gName, tAsg, tNil, tCons, tCall, tCB, iList, rd_v0, rd_vS, rd_for, List.set_cons_zero, List.set_cons_succ, List.append_nil, V.ref.injEq, List.cons.injEq, and_true, exists_eq_left', exists_and_left]
  obtain ⟨⟨hl1, hl3⟩, fo, hz4, hfr, hP⟩ := fr10 ht
  refine ⟨_, .inl (.of eb), fun l1 H1 n1 => ⟨_, .inl (.of (n1.g _ _ er)), fun l2 H2 n2 => ⟨small_line (by simp), fun p H3 n3 => ?_⟩⟩⟩
  have e1 : H3 l1 = some (.lst (tl.map V.str)) := (n2.g.trans n3.g) _ _ n1.at'
  have e2 : H3 l2 = some (.lst (row.map nV)) := n3.g _ _ n2.at'
  have ep := n3.at'
  have g3 : Same H H3 := n1.g.trans (n2.g.trans n3.g)
  refine ⟨b, tl, rfl, g3 _ _ eb, ht, fun D rs H4 g4 eD hlen S => ⟨D, rfl, ⟨_, .of eD⟩, ?_⟩⟩
  refine fb_list (K := K) (a := D) (xs := rs) (fun k σ H' => Same H4 H' ∧ ∃ v3 v4, σ = [some (.ref b), some (.ref r), some (.ref p), v3, v4])
    ⟨Same.refl _, none, none, rfl⟩ (fun k σ H' _ z => .of (z.1 _ _ eD)) ?_ ?_
  · rintro k y σ H' hy ⟨g, v3, v4, rfl⟩
    obtain ⟨a, wd, n, m, rfl, ea, hn, hm, ok⟩ := S y (List.mem_of_getElem? hy)
    have B := bare10 ht hn hm ok
    have hbw : wd ∈ bareWords := by
      have := B.hw
      simp only [SM.rowWords, List.mem_cons, List.not_mem_nil, or_false] at this
      rcases this with rfl | rfl | rfl | rfl | rfl <;> decide
    have gg := g4.trans g
    have rp : Rep H' (.ref a) (.bare wd n m) := .bare hbw (g _ _ ea)
    simp only [exists_eq', rNeM, tLstN, tSeq, tIfS, tTest, tB, tOp, tC, tOr, tNot, tNext, tRet, gName, tAsg, rNe, tNil, tCons, tCall, tCB, rIxL, rd_v0, rd_vS, List.set_cons_zero, List.set_cons_succ, List.append_nil, V.int.injEq, V.bl.injEq, V.ref.injEq, V.ty.injEq, List.cons.injEq, and_true, true_and, exists_eq_left', exists_and_left, if_true, and_assoc]
    have ht1 : fitB tl row = true := fit10_fits ht F
    obtain ⟨hd1, hd2⟩ := due10 ht F hn hm ok
    refine ⟨_, .of (gg _ _ ep), _, atI_0, _, .of (gg _ _ ep), _, atI_nat (j := 1) rfl, .ref a, l1, l2, wd, n, m, tl, _, _, row, rfl, rp, gg _ _ e1, fo, hz4, B, gg _ _ e2, by omega, hc, fun H5 g5 => ⟨_, .bl _, by decide, iteF ?_⟩⟩
    have g05 : Same H H5 := g3.trans (gg.trans g5)
    refine ⟨.ref a, b, r, wd, n, m, tl, row, rfl, rp.same g5, hn, hm, ok, g05 _ _ eb, ht, g05 _ _ er, by omega, hc, F, fun H6 g6 => ⟨rfl, ?_⟩⟩
    rw [ht1, Bool.true_and, b_due B.hw hd1 hd2, decide_eq_true rfl]
    refine iteF ⟨small_line (by simp), fun p7 H7 n7 => ⟨false, ?_, iteF (g.trans (g5.trans (g6.trans n7.g)))⟩⟩
    have g37 : Same H3 H7 := gg.trans (g5.trans (g6.trans n7.g))
    have g07 : Same H H7 := g3.trans g37
    have r := neok_lists (X := (cxOf CX0 P w K mg base ["_law_frame_here", "_law_row_here", "_law_handed", "_law_saying", "_law_found"] "_law_all" (defScope s_law_all) f cdv A outer s H E).nox) (k := 7) (H := H7) (a := p) (b := p7) (xs := [.ref l1, .ref l2]) (ys := [.ref b, .ref r]) (.of (g37 _ _ ep)) (.of n7.at') rfl (fun _ => true) fun j h1 h2 => by
      match j, h1 with
      | 0, _ => exact eq_flat (k := 6) (.of (g37 _ _ e1)) (.of (g07 _ _ eb)) (fl_str tl)
      | 1, _ => exact eq_flat (k := 6) (.of (g37 _ _ e2)) (.of (g07 _ _ er)) (fl_nV row)
      | j + 2, h => exact absurd h (by simp)
    exact r
  · rintro σ H' ⟨g, v3, v4, rfl⟩
    simp only [tC, tRet]
    exact q H' (g3.trans (g4.trans g))
abbrev s_law_unfit : Stmt := top 57
theorem sc_law_unfit : FnScope ["_law_frame_here", "_law_row_here", "_law_k", "_law_none", "_law_saying"] ["_law_frame_here", "_law_row_here"] (defScope s_law_unfit) := ⟨rfl, rfl, rfl, by decide +kernel, rfl, by decide +kernel, by decide +kernel⟩
theorem ok_unfit10 (T : Txt K mg w tw rw fa cLeftovers) (d : Dfn K mg "_law_unfit" s_law_unfit ["_law_frame_here", "_law_row_here"]) (C_law_sayings : Cal P w K mg base 1 "_law_sayings" ["_law_frame_here"] sp_says10) (C_holds : Cal P w K mg base 32 "holds" ["saying", "frame", "row"] sp_holds) : Cal P w K mg base 33 "_law_unfit" ["_law_frame_here", "_law_row_here"] sp_unfit10 := by
  refine d.cal sc_law_unfit (fun vs H Q E h => ?_) (fun f cdv A outer s H vs Q E hr h => ?_)
  · obtain ⟨b, r, tl, row, rfl, _⟩ := h
    rfl
  obtain ⟨b, r, tl, row, rfl, eb, ht, er, h90, hc, F, q⟩ := h
  refine ⟨_, (pss_cons (ps_for PassesOwn.never rfl (pi_range1 (by rfl) T.b_range (pa_c (pe_cB (call_len_seqK K) (by rfl) T.b_len boot_len (pa_c (pv 0) pa_nil)) pa_nil)) (pg_name (i := 2) sc_law_unfit.nd (by rfl) (Or.inr (by rfl))) (pss_one (ps_if (pt_cmpR (op_in_seqK K) (pe_ix (ix_listK K) (pv 0) (pv 2) (fun _ _ => rfl)) (pe_tupN (pa_c pe_str (pa_c pe_str pa_nil))) (by with_unfolding_all rfl)) (pss_cons (ps_setC (i := 3) sc_law_unfit.nd rfl (Or.inl rfl) ["_law_letter"] [(2, "_law_k")] (CompOk.of rfl (by rfl) (by rfl)) (by rfl) (pi_listK K (pv 1)) (fun _ _ _ _ _ => (pg_name (i := 0) (show List.Nodup (["_law_letter", "_law_k"] : List Str) by decide +kernel) (by rfl) (Or.inl (by rfl)))) (fun _ _ _ _ _ => pf_nil) (fun _ _ _ _ _ => (pe_op op_sub (pv 0) (pe_op op_mul (pe_op op_mod (pe_op op_fdiv (pv 0) (pe_ix (ix_listK K) (pe_lstN (pa_c pe_int (pa_c pe_int (pa_c pe_int pa_nil)))) (pv 1) (fun _ _ => rfl))) pe_int) (pe_ix (ix_listK K) (pe_lstN (pa_c pe_int (pa_c pe_int (pa_c pe_int pa_nil)))) (pv 1) (fun _ _ => rfl)))))) (pss_one (ps_for PassesOwn.never rfl (pi_listK K (pe_callC C_law_sayings hr (by omega) (by rfl) (pa_c (pv 0) pa_nil))) (pg_name (i := 4) sc_law_unfit.nd (by rfl) (Or.inl (by rfl))) (pss_one (ps_if (PW.pt (pw_or (pt_val (pe_callC C_holds hr (by omega) (by rfl) (pa_c (pv 4) (pa_c (pv 0) (pa_c (pv 3) pa_nil))))) (pw_or1 (pt_val (pe_callC C_holds hr (by omega) (by rfl) (pa_c (pv 4) (pa_c (pv 0) (pa_c (pe_op op_catN (pv 1) (pe_lstN (pa_c (pe_ix (ix_listK K) (pe_lstN (pa_c pe_int (pa_c pe_int (pa_c pe_int pa_nil)))) (pv 2) (fun _ _ => rfl)) pa_nil))) pa_nil)))))))) (pss_one (ps_ret pe_bl)) pss_nil))))) pss_nil))) (pss_one (ps_ret pe_bl))), ?_⟩
  refine rd_st [some (.ref b), some (.ref r), none, none, none] rfl ?_
  simp only [rLen, tSeq, tNil, tCons, tCB, iRng1, rd_v0, rd_for, V.int.injEq, V.ref.injEq, List.cons.injEq, and_true, exists_eq_left', exists_and_left]
  obtain ⟨⟨hl1, hl3⟩, fo, hz4, hfr, hP⟩ := fr10 ht
  have hpi : ∀ k, k < 3 → ([V.int 1, V.int 2, V.int 4] : List V)[k]? = some (nV (2 ^ k)) := fun k hk => by
    rcases (show k = 0 ∨ k = 1 ∨ k = 2 by omega) with rfl | rfl | rfl <;> rfl
  refine ⟨_, .inl (.of eb), by rw [List.length_map]; omega, by rw [List.length_map]; omega, ?_⟩
  rw [List.length_map, Int.toNat_natCast]
  refine fb_range (fun k σ H' => Same H H' ∧ ∃ v2 v3 v4, σ = [some (.ref b), some (.ref r), v2, v3, v4]) ⟨Same.refl _, none, none, none, rfl⟩ ?_ ?_
  · rintro k σ H' hk ⟨g, v2, v3, v4, rfl⟩
    have ek : (tl.map V.str)[k]? = some (.str tl[k]) := by rw [List.getElem?_map, List.getElem?_eq_getElem hk]; rfl
    have egd : tl.getD k (Str.ofString "") = tl[k] := by rw [List.getD_eq_getElem?_getD, List.getElem?_eq_getElem hk]; rfl
    have hp2 : 1 ≤ 2 ^ k ∧ 2 ^ k ≤ 4 := by rcases (show k = 0 ∨ k = 1 ∨ k = 2 by omega) with rfl | rfl | rfl <;> decide
    simp only [exists_eq', tTupN, tSeq, tIfS, tTest, tOp, tC, tNext, gName, tAsg, tNil, tCons, tCall, rIxL, rIn, iList, rd_v0, rd_vS, rd_comp, rd_for, List.set_cons_zero, List.set_cons_succ, List.append_nil, V.int.injEq, V.bl.injEq, V.ref.injEq, List.cons.injEq, and_true, true_and, exists_eq_left', exists_and_left, if_false, reduceCtorEq]
    rw [Int.zero_add]
    refine ⟨_, .of (g _ _ eb), _, atI_nat ek, small_line (by simp), fun p1 H2 n2 => ⟨_, .inr (.of n2.at'), rfl, rfl, ?_⟩⟩
    have hxy : inV (V.str tl[k]) [V.str "x", V.str "y"] = isXY tl[k] := inV_strs _ ["x", "y"]
    rw [hxy]
    have g2 := g.trans n2.g
    cases hX : isXY tl[k] with
    | false => exact iteF g2
    | true =>
    refine iteT ⟨⟨_, .of (g2 _ _ er)⟩, cm_list (K := K) (a := r) (xs := row.map nV) (fun σ => ∃ v, σ = [v, some (nV k)]) (fun v => match v with | .int i => .int (i - i / ((2 ^ k : Nat) : Int) % 2 * ((2 ^ k : Nat) : Int)) | _ => .non) (by rw [List.length_map]; omega) (.of (g2 _ _ er)) ⟨_, rfl⟩ ?_ ?_⟩
    · rintro D3 i σ H3 x hi hm hx gg hD3 hD3' ⟨v, rfl⟩
      obtain ⟨z, mz, rfl⟩ := List.mem_map.mp hm
      simp only [tLstN, tOp, tC, gName, rI, rI0, tNil, tCons, rIxL, tYes, rd_v0, rd_vS, List.set_cons_zero, V.int.injEq, V.ref.injEq, exists_eq_left', exists_and_left, if_true]
      refine ⟨small_line (by simp), fun p4 H4 n4 => ⟨_, n4.lst, _, atI_nat (hpi k (by omega)), _, rfl, ⟨by omega, by omega⟩, by decide, small_line (by simp), fun p5 H5 n5 => ⟨_, n5.lst, _, atI_nat (hpi k (by omega)), _, rfl, .inr ⟨by omega, by omega⟩, ?_⟩⟩⟩
      exact cm_step (by rw [List.length_map]; omega) hx hD3 ((n4.g.trans n5.g) _ _ hD3') (gg.trans (n4.g.trans n5.g)) ⟨_, rfl⟩ rfl
    intro pn H3 hpn g3 epn
    have epn' : H3 pn = some (.lst ((row.map (clr k)).map nV)) := by
      rw [epn, List.map_map, List.map_map]
      refine congrArg some (congrArg HO.lst (List.map_congr_left fun x hx => ?_))
      show V.int _ = V.int _
      rw [clr_int hl3 hk (hc x hx)]
    have g03 := g2.trans g3
    have hX' : isXY (tl.getD k (Str.ofString "")) = true := by rw [egd]; exact hX
    have hc1 : ∀ c ∈ row.map (clr k), c < 2 ^ tl.length ∧ bit c k = false := fun c hm => by
      obtain ⟨x, hx, rfl⟩ := List.mem_map.mp hm
      obtain ⟨a, b, _⟩ := clr_ok hl3 hk hk (hc x hx)
      exact ⟨a, by rw [b]; simp⟩
    have f1 : fitB tl (row.map (clr k)) = false := fit10_not ht hk hX' (by rw [cw_zero fun c hm => (hc1 c hm).2]; decide)
    have hb2 : bit (2 ^ k) k = true := by rcases (show k = 0 ∨ k = 1 ∨ k = 2 by omega) with rfl | rfl | rfl <;> decide
    have f2 : fitB tl (row ++ [2 ^ k]) = false := fit10_not ht hk hX' (by rw [cw_snoc, F k hk hX', hb2]; decide)
    have hk2 : 2 ^ k < 2 ^ tl.length := Nat.pow_lt_pow_right (by decide) hk
    refine ⟨b, tl, rfl, g03 _ _ eb, ht, fun D rs H4 g4 eD hlen S => ⟨D, rfl, ⟨_, .of eD⟩, ?_⟩⟩
    refine fb_list (K := K) (a := D) (xs := rs) (fun j σ H' => Same H4 H' ∧ ∃ v4, σ = [some (.ref b), some (.ref r), some (nV k), some (.ref pn), v4])
      ⟨Same.refl _, _, rfl⟩ (fun k σ H' _ z => .of (z.1 _ _ eD)) ?_ ?_
    · rintro j y σ H5 hy ⟨g5, v4', rfl⟩
      obtain ⟨a, wd, n, m, rfl, ea, hn, hm, ok⟩ := S y (List.mem_of_getElem? hy)
      have B := bare10 ht hn hm ok
      have hbw : wd ∈ bareWords := by
        have := B.hw
        simp only [SM.rowWords, List.mem_cons, List.not_mem_nil, or_false] at this
        rcases this with rfl | rfl | rfl | rfl | rfl <;> decide
      have rp : Rep H5 (.ref a) (.bare wd n m) := .bare hbw (g5 _ _ ea)
      have g05 := g03.trans (g4.trans g5)
      simp only [exists_eq', tLstN, rCatN, tIfS, tB, tOp, tC, tOr, tNext, tRet, gName, tNil, tCons, tCall, rIxL, rd_v0, rd_vS, List.set_cons_zero, List.set_cons_succ, List.append_nil, V.int.injEq, V.ref.injEq, List.cons.injEq, and_true, true_and, exists_eq_left', exists_and_left, if_true]
      refine ⟨.ref a, b, pn, wd, n, m, tl, _, _, _, rfl, rp, g05 _ _ eb, fo, hz4, B, (g4.trans g5) _ _ epn', by rw [List.length_map]; omega, fun c hm => (hc1 c hm).1, fun H6 g6 => ⟨_, rfl, ?_⟩⟩
      rw [f1, Bool.false_and]
      have g06 := g05.trans g6
      refine iteF ⟨small_line (by simp), fun p7 H7 n7 => ⟨_, n7.lst, _, atI_nat (hpi k (by omega)), small_line (by simp), fun p8 H8 n8 => ⟨_, (g06.trans (n7.g.trans n8.g)) _ _ er, _, n8.at', small_line (by rw [List.length_map]; simp only [List.length_cons, List.length_nil]; omega), fun p9 H9 n9 => ?_⟩⟩⟩
      have g09 := g06.trans (n7.g.trans (n8.g.trans n9.g))
      have e9 : H9 p9 = some (.lst ((row ++ [2 ^ k]).map nV)) := by rw [n9.at', List.map_append]; rfl
      refine ⟨.ref a, b, p9, wd, n, m, tl, _, _, _, rfl, rp.same (g6.trans (n7.g.trans (n8.g.trans n9.g))), g09 _ _ eb, fo, hz4, B, e9, by simp only [List.length_append, List.length_cons, List.length_nil]; omega, (fun c hm => ?_), fun H10 g10 => ⟨_, rfl, ?_⟩⟩
      · rcases List.mem_append.mp hm with h | h
        · exact hc c h
        · rw [List.mem_singleton.mp h]; exact hk2
      · rw [f2, Bool.false_and]
        exact iteF (g5.trans (g6.trans (n7.g.trans (n8.g.trans (n9.g.trans g10)))))
    · rintro σ H5 ⟨g5, v4', rfl⟩
      simp only [exists_eq', List.cons.injEq, and_true, true_and, exists_and_left]
      exact g03.trans (g4.trans g5)
  · rintro σ H' ⟨g, v2, v3, v4, rfl⟩
    simp only [tC, tRet]
    exact q H' g
end
section
variable {P : Program} {w : World} {K : PySem.W.Frag} {mg : Str → Option Value} {base : Heap} {tw rw fa cLeftovers : Addr}
theorem small30 {a b : Int} (ha : 0 ≤ a) (ha' : a ≤ 1000) (hb : -1 ≤ b) (hb' : b ≤ 1000) : Builtin.Range.small a b 30 = true ∧ 0 ≤ Builtin.Range.rangeSize a b 30 := by
  have hs : 0 ≤ Builtin.Range.rangeSize a b 30 ∧ Builtin.Range.rangeSize a b 30 ≤ 1002 := by
    unfold Builtin.Range.rangeSize
    rw [if_pos (by decide)]; split <;> omega
  refine ⟨?_, hs.1⟩
  unfold Builtin.Range.small
  generalize Builtin.Range.rangeSize a b 30 = z at hs
  simp only [Builtin.Range.rangeFitsLong, Bool.and_eq_true, Bool.or_eq_true, decide_eq_true_eq, beq_iff_eq]
  simp; omega
theorem cut30 {α : Type} (xs : List α) (k : Nat) : (cutL xs (some (k : Int)) (some ((k : Int) + 30))).length = min 30 (xs.length - k) := by
  unfold cutL
  rw [show ((k : Int) + 30) = ((k + 30 : Nat) : Int) by omega, HT.sIx_nat, HT.sIx_nat, List.length_take, List.length_drop]
  omega
abbrev sp_law (K : PySem.W.Frag) : Sp := sp_lawF K
abbrev s_law : Stmt := top 58
theorem sc_law : FnScope ["_law_script", "_law_start", "_law_mixed_here", "_law_frame_here", "_law_row_here"] ["_law_script"] (defScope s_law) := ⟨rfl, rfl, rfl, by decide +kernel, rfl, by decide +kernel, by decide +kernel⟩
theorem ok_law {f : Addr} {fd : FuncData} (T : Txt K mg w tw rw fa cLeftovers) (F : Fun K "law" "law" s_law f fd) (C_law_cell_at : Cal P w K mg base 1 "_law_cell_at" ["_law_script", "_law_k"] (sp_cell K)) (C_law_mixed : Cal P w K mg base 1 "_law_mixed" ["_law_cell"] sp_mixed) (C_law_frame : Cal P w K mg base 1 "_law_frame" ["_law_mixed_here"] sp_frame10)
    (C_law_row : Cal P w K mg base 2 "_law_row" ["_law_cells", "_law_frame_here", "_law_mixed_here"] sp_row10) (C_law_all : Cal P w K mg base 33 "_law_all" ["_law_frame_here", "_law_row_here"] sp_all10) (C_law_unfit : Cal P w K mg base 33 "_law_unfit" ["_law_frame_here", "_law_row_here"] sp_unfit10) : FnOk P w K mg base CX0 34 f fd ["_law_script"] (sp_law K) := by
  refine F.ok sc_law (fun vs H Q E h => ?_) (fun cdv A outer s H vs Q E hr h => ?_)
  · obtain ⟨a, ns, rfl, _⟩ := h
    rfl
  obtain ⟨a, ns, rfl, hS, h63, q⟩ := h
  have hu := hu_at hr 8 (by decide)
  refine ⟨_, (pss_cons (ps_for PassesOwn.never rfl (pi_range3 (by rfl) T.b_range (pa_c pe_int (pa_c (pe_cB (call_max2 rfl) (by rfl) T.b_max boot_max (pa_c pe_int (pa_c (pe_cB (call_len_seqK K) (by rfl) T.b_len boot_len (pa_c (pv 0) pa_nil)) pa_nil))) (pa_c pe_int pa_nil)))) (pg_name (i := 1) sc_law.nd (by rfl) (Or.inl (by rfl))) (pss_cons (ps_set (i := 2) sc_law.nd rfl (Or.inl rfl) (pe_op op_add (pe_callC C_law_mixed hr (by omega) (by rfl) (pa_c (pe_callC C_law_cell_at hr (by omega) (by rfl) (pa_c (pv 0) (pa_c pe_int pa_nil))) pa_nil)) (pv 1))) (pss_cons (ps_set (i := 3) sc_law.nd rfl (Or.inl rfl) (pe_callC C_law_frame hr (by omega) (by rfl) (pa_c (pv 2) pa_nil))) (pss_cons (ps_set (i := 4) sc_law.nd rfl (Or.inl rfl) (pe_callC C_law_row hr (by omega) (by rfl) (pa_c (pe_op op_catN (pe_slice (sl_listNK K) (pv 0) (po_some (pv 1)) (po_some (pe_op op_add (pv 1) pe_int))) (pe_slice (sl_listNK K) (pe_lstN (pa_c pe_int pa_nil)) po_none (po_some (pe_cTy call_int1 (by rfl) T.b_int boot_int (pa_c (pe_cmpR op_le (pe_cB (call_len_seqK K) (by rfl) T.b_len boot_len (pa_c (pv 0) pa_nil)) (pv 1) (nomark _)) pa_nil))))) (pa_c (pv 3) (pa_c (pe_op op_fdiv (pv 2) pe_int) pa_nil))))) (pss_one (ps_if (PW.pt (pw_or (pt_not (pt_val (pe_callC C_law_all hr (by omega) (by rfl) (pa_c (pv 3) (pa_c (pv 4) pa_nil))))) (pw_or1 (pt_not (pt_val (pe_callC C_law_unfit hr (by omega) (by rfl) (pa_c (pv 3) (pa_c (pv 4) pa_nil)))))))) (pss_one (ps_ret pe_bl)) pss_nil)))))) (pss_one (ps_ret pe_bl))), ?_⟩
  refine rd_st [some (.ref a), none, none, none, none] rfl ?_
  simp only [iRng3, rLen, tSeq, tC, tNil, tCons, tCB, rd_v0, rd_for, V.int.injEq, V.ref.injEq, List.cons.injEq, and_true, exists_eq_left', exists_and_left, and_assoc]
  refine ⟨_, .inl hS, ?_⟩
  rw [List.length_map]
  have hmx : 2 ≤ (if (ns.length : Int) > 2 then (ns.length : Int) else 2) ∧ (if (ns.length : Int) > 2 then (ns.length : Int) else 2) ≤ 63 := by split <;> omega
  generalize (if (ns.length : Int) > 2 then (ns.length : Int) else 2) = mx at hmx
  obtain ⟨sm1, sm2⟩ := small30 (a := 1) (b := mx) (by decide) (by decide) (by omega) (by omega)
  refine ⟨by decide, by omega, by omega, by decide, sm2, ?_⟩
  refine fb_range3 (fun i σ H' => Same H H' ∧ ∃ v1 v2 v3 v4, σ = [some (.ref a), v1, v2, v3, v4]) ⟨Same.refl _, _, _, _, _, rfl⟩ ?_ ?_
  · rintro i σ H' hi ⟨g, v1, v2, v3, v4, rfl⟩
    simp only [exists_eq', rLen, tLstN, rSlLN, rCatN, tSeq, tIfS, tB, tOp, tC, tOr, tNot, tNext, tRet, gName, tAsg, rI, rI0, tNil, tCons, tCall, tCB, tNoPart, tPart, tSl, rd_v0, rd_vS, List.set_cons_zero, List.set_cons_succ, List.append_nil, V.int.injEq, V.bl.injEq, V.ref.injEq, List.cons.injEq, and_true, true_and, exists_eq_left', exists_and_left, exists_const, if_true, reduceCtorEq, false_and, false_or]
    refine ⟨a, ns, 0, rfl, g.seq hS, by decide, fun c0 => ⟨c0, rfl, fun r0 h0 hr0 => ⟨_, rfl, _, rfl, by omega, fun pb tl H1 hpb g1 eb ht => ?_⟩⟩⟩
    have g01 := g.trans g1
    show ∃ x_1, _
    refine ⟨_, g01.seq hS, fun p1 H2 n2 => ⟨small_line (by simp), fun p2 H3 n3 => ⟨_, .inl ((g01.trans (n2.g.trans n3.g)).seq hS), _, n3.lst, fun p4 H4 n4 => ⟨_, (n3.g.trans n4.g) _ _ n2.at', _, n4.at', ?_⟩⟩⟩⟩
    rw [List.length_map] at n4
    rw [cutL_map, show (1 : Int) + (i : Int) * 30 = ((1 + i * 30 : Nat) : Int) by omega]
    have hl1 := cut30 ns (1 + i * 30)
    rw [show (1 : Int) + (i : Int) * 30 = ((1 + i * 30 : Nat) : Int) by omega] at n4
    have ez : (if decide ((ns.length : Int) ≤ ((1 + i * 30 : Nat) : Int)) = true then (1 : Int) else 0) = ((if ns.length ≤ 1 + i * 30 then 1 else 0 : Nat) : Int) := by
      by_cases h : ns.length ≤ 1 + i * 30
      · rw [decide_eq_true (by omega), if_pos rfl, if_pos h]; rfl
      · rw [decide_eq_false (by omega), if_neg h]; rfl
    simp only [List.length_map]
    rw [ez, show ([V.int 0] : List V) = ([0] : List Int).map V.int from rfl, cutL_map, cutL_to]
    generalize hcs : cutL ns (some ((1 + i * 30 : Nat) : Int)) (some (((1 + i * 30 : Nat) : Int) + 30)) = cs at hl1 ⊢
    have hl2 : (([0] : List Int).take (if ns.length ≤ 1 + i * 30 then 1 else 0)).length = if ns.length ≤ 1 + i * 30 then 1 else 0 := by split <;> rfl
    generalize hc2 : ([0] : List Int).take (if ns.length ≤ 1 + i * 30 then 1 else 0) = c2 at hl2 ⊢
    have hb1 : 1 ≤ cs.length + c2.length ∧ cs.length + c2.length ≤ 31 := by rw [hl1, hl2]; split <;> omega
    refine ⟨small_line (by simp only [List.length_map]; omega), fun p5 H5 n5 => ⟨⟨by decide, by decide⟩, ?_⟩⟩
    have g15 := n2.g.trans (n3.g.trans (n4.g.trans n5.g))
    have e5 : H5 p5 = some (.lst ((cs ++ c2).map V.int)) := by rw [n5.at', List.map_append]
    refine ⟨p5, pb, cs ++ c2, tl, _, rfl, e5, by rw [List.length_append]; omega, by rw [List.length_append]; omega, g15 _ _ eb, ht, by omega, fun D row H6 hD g6 eD hlr hc F => ?_⟩
    rw [List.length_append] at hlr
    have eb6 := (g15.trans g6) _ _ eb
    refine ⟨pb, D, tl, row, rfl, eb6, ht, eD, by omega, hc, F, fun H7 g7 => ⟨_, rfl, iteF ?_⟩⟩
    exact ⟨pb, D, tl, row, rfl, g7 _ _ eb6, ht, g7 _ _ eD, by omega, hc, F, fun H8 g8 => ⟨_, rfl, iteF (g01.trans (g15.trans (g6.trans (g7.trans g8))))⟩⟩
  · rintro σ H' ⟨g, v1, v2, v3, v4, rfl⟩
    simp only [tC, tRet]
    exact q H'
end
section
variable {P : Program} {w : World} {K : PySem.W.Frag} {mg : Str → Option Value} {base : Heap} {f : Addr} {fd : FuncData} {tw rw fa cLeftovers : Addr}
theorem all (T : Txt K mg w tw rw fa cLeftovers) (d_is_letter_with_figures : Dfn K mg "is_letter_with_figures" s_is_letter_with_figures ["thing", "letters"]) (d_is_place : Dfn K mg "is_place" s_is_place ["thing"]) (d_is_set : Dfn K mg "is_set" s_is_set ["thing"]) (d_is_name : Dfn K mg "is_name" s_is_name ["thing"]) (d_is_frame : Dfn K mg "is_frame" s_is_frame ["thing"]) (d_is_of_sort : Dfn K mg "is_of_sort" s_is_of_sort ["thing", "sort", "deepest"]) (d_has_form : Dfn K mg "has_form" s_has_form ["thing", "deepest"]) (d_inner_sayings : Dfn K mg "inner_sayings" s_inner_sayings ["saying"]) (d_is_bare : Dfn K mg "is_bare" s_is_bare ["saying"]) (d_count_parts : Dfn K mg "count_parts" s_count_parts ["saying"]) (d_is_any_saying : Dfn K mg "is_any_saying" s_is_any_saying ["thing"]) (d_is_let : Dfn K mg "is_let" s_is_let ["saying", "known", "barred", "most"]) (d_is_saying : Dfn K mg "is_saying" s_is_saying ["thing", "frame"]) (d_check_frame : Dfn K mg "check_frame" s_check_frame ["frame"]) (d_check_let : Dfn K mg "check_let" s_check_let ["saying", "frame"]) (d_bit_of : Dfn K mg "bit_of" s_bit_of ["name", "names"]) (d_Leftovers___init__ : DfnI K cLeftovers "Leftovers.__init__" s_Leftovers___init__ ["self"]) (d_Leftovers_numbered : DfnM K cLeftovers "numbered" "Leftovers.numbered" s_Leftovers_numbered ["self", "form"]) (d_Leftovers_of_saying : DfnM K cLeftovers "of_saying" "Leftovers.of_saying" s_Leftovers_of_saying ["self", "saying", "names"]) (d_Leftovers_behind : DfnM K cLeftovers "behind" "Leftovers.behind" s_Leftovers_behind ["self", "left", "letter"]) (d_Leftovers_behind_form : DfnM K cLeftovers "behind_form" "Leftovers.behind_form" s_Leftovers_behind_form ["self", "left", "letter"]) (d_Leftovers_behind_bare : DfnM K cLeftovers "behind_bare" "Leftovers.behind_bare" s_Leftovers_behind_bare ["self", "left", "one", "other"]) (d_Leftovers_at_end : DfnM K cLeftovers "at_end" "Leftovers.at_end" s_Leftovers_at_end ["self", "left"]) (d_is_whole : Dfn K mg "is_whole" s_is_whole ["thing"]) (d_is_below : Dfn K mg "is_below" s_is_below ["thing", "bound"]) (d_is_letter : Dfn K mg "is_letter" s_is_letter ["thing", "tracks"]) (d_check_row : Dfn K mg "check_row" s_check_row ["frame", "row"]) (d_count_with : Dfn K mg "count_with" s_count_with ["letters", "track"]) (d_each_place_once : Dfn K mg "each_place_once" s_each_place_once ["frame", "letters"]) (d_fits : Dfn K mg "fits" s_fits ["frame", "row"]) (d_holds_by : Dfn K mg "holds_by" s_holds_by ["saying", "frame", "row"]) (d_holds : Dfn K mg "holds" s_holds ["saying", "frame", "row"]) (d_law_cell_at : Dfn K mg "_law_cell_at" s_law_cell_at ["_law_script", "_law_k"]) (d_law_mixed : Dfn K mg "_law_mixed" s_law_mixed ["_law_cell"]) (d_law_frame : Dfn K mg "_law_frame" s_law_frame ["_law_mixed_here"]) (d_law_sayings : Dfn K mg "_law_sayings" s_law_sayings ["_law_frame_here"]) (d_law_row : Dfn K mg "_law_row" s_law_row ["_law_cells", "_law_frame_here", "_law_mixed_here"]) (d_law_due : Dfn K mg "_law_due" s_law_due ["_law_saying", "_law_frame_here", "_law_row_here"]) (d_law_all : Dfn K mg "_law_all" s_law_all ["_law_frame_here", "_law_row_here"]) (d_law_unfit : Dfn K mg "_law_unfit" s_law_unfit ["_law_frame_here", "_law_row_here"]) (F : Fun K "law" "law" s_law f fd) : FnOk P w K mg base CX0 34 f fd ["_law_script"] (sp_law K) := by
  have c1 := ok_lf (P := P) (w := w) (base := base) T d_is_letter_with_figures
  have c2 := ok_place T d_is_place c1
  have c3 := ok_set T d_is_set c1
  have c4 := ok_nm T d_is_name c2 c3
  have c5 := ok_frame T d_is_frame c4
  have c6 := all_form T d_is_of_sort d_has_form c2 c3 c4 12
  have c7 := ok_inner (P := P) (w := w) (base := base) T d_inner_sayings
  have c8 := ok_isbare T d_is_bare c7
  have c9 := all_count T d_count_parts c7 13
  have c10 := ok_anysay T d_is_any_saying c6.1 c9
  have c11 := all_let (bw := treeWords) T d_is_let c7 c8 13
  have c12 := ok_issay T d_is_saying c5 c10 c11
  have b1 := ok_wholeX (P := P) (w := w) (base := base) T d_is_whole
  have b2 := ok_belowX T d_is_below b1
  have r1 := ok_isletter T d_is_letter b2
  have r2 := ok_checkN T d_check_row r1
  have r3 := ok_countw (P := P) (w := w) (base := base) T d_count_with
  have r4 := ok_once T d_each_place_once c2 r3
  have r5 := ok_fitsN T d_fits r2 r4
  have k1 := ok_checkfrN T d_check_frame c5
  have k2 := ok_checkletN T d_check_let k1 c12
  have m0 := ok_linit (P := P) (w := w) (base := base) T d_Leftovers___init__
  have m1 := ok_lnum (P := P) (w := w) (base := base) T d_Leftovers_numbered
  have m2 := ok_bitof (P := P) (w := w) (base := base) T d_bit_of
  have m3 := ok_lsay T d_Leftovers_of_saying c8 m2 m1
  have m4 := ok_lbb T d_Leftovers_behind_bare m1
  have m5 := ok_lbf T d_Leftovers_behind_form m4
  have m6 := ok_lbeh T d_Leftovers_behind m5
  have m7 := ok_lend (P := P) (w := w) (base := base) T d_Leftovers_at_end
  have m8 := ok_holdsby T d_holds_by m0 m3 m6 m7
  have m9 := ok_holds T d_holds k2 r5 m8
  have l1 := ok_cell (P := P) (w := w) (base := base) T d_law_cell_at
  have l2 := ok_mixed (P := P) (w := w) (base := base) T d_law_mixed
  have l3 := ok_frame10 (P := P) (w := w) (base := base) T d_law_frame
  have l4 := ok_says10 (P := P) (w := w) (base := base) T d_law_sayings
  have l5 := ok_row10 T d_law_row l2
  have l6 := ok_due10 (P := P) (w := w) (base := base) T d_law_due
  have l7 := ok_all10 T d_law_all l4 m9 l6
  have l8 := ok_unfit10 T d_law_unfit l4 m9
  exact ok_law T F l1 l2 l3 l5 l7 l8
end
end K10
open PySem PySem.W PyProof.Rows
namespace PySem.W.Fast
theorem tw12151837017314603855 : True := trivial
theorem tw3366714098400364938 : True := trivial
theorem tw10469245496294692244 : True := trivial
theorem tw8507742024053548239 : True := trivial
theorem tw14297923757154304532 : True := trivial
theorem tw4164419337818208169 : True := trivial
theorem tw11769308046408333243 : True := trivial
theorem tw5075884738581021617 : True := trivial
theorem tw9802684110845450595 : True := trivial
theorem tw13422262362176540064 : True := trivial
theorem tw1110924479567016392 : True := trivial
theorem tw15558629356019460861 : True := trivial
theorem tw8306073668536055394 : True := trivial
theorem tw9015842351943642084 : True := trivial
theorem tw6443718228383342685 : True := trivial
theorem tw6521054353834047663 : True := trivial
theorem tw17121953731218337250 : True := trivial
theorem tw11006532941473386164 : True := trivial
theorem tw446435096484541020 : True := trivial
theorem tw16141473636015841199 : True := trivial
theorem tw13545380973679369270 : True := trivial
theorem tw2328616222197176778 : True := trivial
theorem tw9243821355503597158 : True := trivial
theorem tw14242914076335092831 : True := trivial
theorem tw225337597037599414 : True := trivial
theorem tw17185328379912972551 : True := trivial
theorem tw3425205437668279108 : True := trivial
theorem tw1365025648084364714 : True := trivial
theorem tw877066932461106490 : True := trivial
theorem tw7458915939584326315 : True := trivial
theorem tw3745751098958953687 : True := trivial
theorem tw6943863153915279281 : True := trivial
theorem tw13424392211555681900 : True := trivial
theorem tw924838994617218826 : True := trivial
theorem tw14658251054841088334 : True := trivial
theorem tw3774080238099627283 : True := trivial
theorem tw10416885865054260713 : True := trivial
theorem tw5798774188433633645 : True := trivial
theorem tw1166515181631467315 : True := trivial
theorem tw15723709755837998099 : True := trivial
theorem tw8918808467292317497 : True := trivial
theorem tw1715545589013795918 : True := trivial
theorem tw15436329974739787335 : True := trivial
theorem tw1083695686017299501 : True := trivial
theorem tw16660004139894516913 : True := trivial
theorem tw10212517783484552492 : True := trivial
theorem tw10652584148027569353 : True := trivial
theorem tw7366831256873246489 : True := trivial
theorem tw4617696514225469323 : True := trivial
theorem tw10429827011547420281 : True := trivial
theorem tw13557138772504751582 : True := trivial
theorem tw4546985493776988526 : True := trivial
theorem tw7594143648756600616 : True := trivial
theorem tw4180584116474192276 : True := trivial
theorem tw6324750824810755141 : True := trivial
theorem tw5739682236546924894 : True := trivial
theorem tw17356674117325553184 : True := trivial
theorem tw16980696368089318537 : True := trivial
theorem tw10081724415858096254 : True := trivial
theorem tw4760871171066849459 : True := trivial
theorem tw10225865045589990022 : True := trivial
theorem tw3079914593173498664 : True := trivial
theorem tw2814110154880087736 : True := trivial
theorem tw16946286646256644993 : True := trivial
theorem tw5082231973771918262 : True := trivial
theorem tw439099998423229630 : True := trivial
theorem tw5719764327498402731 : True := trivial
theorem tw10422150991906841936 : True := trivial
theorem tw6502643054901669183 : True := trivial
theorem tw610964547929319519 : True := trivial
theorem tw10903067894581089371 : True := trivial
theorem tw2765299954107106717 : True := trivial
theorem tw1207834667871818569 : True := trivial
theorem tw6376693223062935094 : True := trivial
theorem tw18418455566599339238 : True := trivial
theorem tw3777874014084060847 : True := trivial
theorem tw3053618578097438879 : True := trivial
theorem tw8844457829944701975 : True := trivial
theorem tw2508739587307028737 : True := trivial
theorem tw13771559430455633577 : True := trivial
theorem tw4334434610649329826 : True := trivial
theorem tw17348821331945217262 : True := trivial
theorem tw10499970271948541027 : True := trivial
theorem tw2287675071192515123 : True := trivial
theorem tw2092786786345962316 : True := trivial
theorem tw18098151225508984384 : True := trivial
theorem tw6874115993988691429 : True := trivial
theorem tw15194904858881732176 : True := trivial
theorem tw3274859391991499752 : True := trivial
theorem tw18268943900519605389 : True := trivial
theorem tw17298270167798596654 : True := trivial
theorem tw9304473835746329887 : True := trivial
theorem tw6571435091197229230 : True := trivial
theorem tw3073736487643352153 : True := trivial
theorem tw17097185490543936133 : True := trivial
theorem tw10573281978168752149 : True := trivial
theorem tw13456864847978733130 : True := trivial
theorem tw13197193199526870816 : True := trivial
theorem tw16004006849318013360 : True := trivial
theorem tw10257152808030983600 : True := trivial
theorem tw9465724744078720217 : True := trivial
end PySem.W.Fast
set_option maxRecDepth 100000 in
set_option maxHeartbeats 0 in
theorem PySem.Challenge.cw_setsays_k10_bare_ones_hold_holds : PySem.Challenge.rw_setsays_k10_bare_ones_hold.Holds := by
  w_on; o_law; k_head; (case hw => w_witness2)
  k_fill
  refine L2.walk_ofK (l := PySem.Challenge.rw_setsays_k10_bare_ones_hold) (n := 63) (k := 34) (x := "_law_script") (CX := L2.CX0) (sp := K10.sp_law) rfl (by decide) rfl ⟨rfl, by decide, by decide⟩ (fun w h Y => PySem.W.kIn_of Y) ?F (fun _ _ a ns hl _ hS => ⟨a, ns, rfl, hS, hl, fun _ => rfl⟩) fun _ _ _ _ z => z
  case F =>
    intro w mg fa h KX G hmg
    obtain ⟨tw, g_TELLING_WORDS, t_TELLING_WORDS⟩ : ∃ q, L2.GlV mg "TELLING_WORDS" (.ref q) ∧ ∀ H, L2.SqT (L2.KOf KX) H q [.str "some", .str "all"] := by
      dsimp only [L2.KOf]
      refine' L2.glt_mk KX G ?a ?l ?z ?r
      (case a => k_is); (case l => k_is); (case z => decide); (case r => exact .cons ⟨_, rfl⟩ (.cons ⟨_, rfl⟩ (.nil)))
    obtain ⟨rw, g_TREE_WORDS, t_TREE_WORDS⟩ : ∃ q, L2.GlV mg "TREE_WORDS" (.ref q) ∧ ∀ H, L2.SqT (L2.KOf KX) H q [.str "left", .str "right", .str "above"] := by
      dsimp only [L2.KOf]
      refine' L2.glt_mk KX G ?a ?l ?z ?r
      (case a => k_is); (case l => k_is); (case z => decide); (case r => exact .cons ⟨_, rfl⟩ (.cons ⟨_, rfl⟩ (.cons ⟨_, rfl⟩ (.nil))))
    obtain ⟨ff, g_FORMS, f_FORMS⟩ : ∃ q, L2.GlV mg "FORMS" (.ref q) ∧ SS.Forms (L2.KOf KX) w q := by
      dsimp only [L2.KOf]
      refine' SS.forms_mk KX G ?a ?lo ?l ?hk ?he
      (case a => k_is); (case lo => decide); (case l => k_is)
      (case hk => exact ⟨⟨_, _, rfl, rfl⟩, ⟨⟨_, _, rfl, rfl⟩, ⟨⟨_, _, rfl, rfl⟩, ⟨⟨_, _, rfl, rfl⟩, ⟨⟨_, _, rfl, rfl⟩, ⟨⟨_, _, rfl, rfl⟩, ⟨⟨_, _, rfl, rfl⟩, ⟨⟨_, _, rfl, rfl⟩, ⟨⟨_, _, rfl, rfl⟩, ⟨⟨_, _, rfl, rfl⟩, ⟨⟨_, _, rfl, rfl⟩, ⟨⟨_, _, rfl, rfl⟩, ⟨⟨_, _, rfl, rfl⟩, trivial⟩⟩⟩⟩⟩⟩⟩⟩⟩⟩⟩⟩⟩)
      refine' .cons ⟨⟨_, rfl⟩, _, rfl, SS.sqt_mk ?l0 ?z0 ?r0⟩ (.cons ⟨⟨_, rfl⟩, _, rfl, SS.sqt_mk ?l1 ?z1 ?r1⟩ (.cons ⟨⟨_, rfl⟩, _, rfl, SS.sqt_mk ?l2 ?z2 ?r2⟩ (.cons ⟨⟨_, rfl⟩, _, rfl, SS.sqt_mk ?l3 ?z3 ?r3⟩ (.cons ⟨⟨_, rfl⟩, _, rfl, SS.sqt_mk ?l4 ?z4 ?r4⟩ (.cons ⟨⟨_, rfl⟩, _, rfl, SS.sqt_mk ?l5 ?z5 ?r5⟩ (.cons ⟨⟨_, rfl⟩, _, rfl, SS.sqt_mk ?l6 ?z6 ?r6⟩ (.cons ⟨⟨_, rfl⟩, _, rfl, SS.sqt_mk ?l7 ?z7 ?r7⟩ (.cons ⟨⟨_, rfl⟩, _, rfl, SS.sqt_mk ?l8 ?z8 ?r8⟩ (.cons ⟨⟨_, rfl⟩, _, rfl, SS.sqt_mk ?l9 ?z9 ?r9⟩ (.cons ⟨⟨_, rfl⟩, _, rfl, SS.sqt_mk ?l10 ?z10 ?r10⟩ (.cons ⟨⟨_, rfl⟩, _, rfl, SS.sqt_mk ?l11 ?z11 ?r11⟩ (.cons ⟨⟨_, rfl⟩, _, rfl, SS.sqt_mk ?l12 ?z12 ?r12⟩ (.nil)))))))))))))
      (case l0 => k_is); (case z0 => decide); (case r0 => exact .cons ⟨_, rfl⟩ (.cons ⟨_, rfl⟩ (.nil)))
      (case l1 => k_is); (case z1 => decide); (case r1 => exact .cons ⟨_, rfl⟩ (.cons ⟨_, rfl⟩ (.nil)))
      (case l2 => k_is); (case z2 => decide); (case r2 => exact .cons ⟨_, rfl⟩ (.cons ⟨_, rfl⟩ (.nil)))
      (case l3 => k_is); (case z3 => decide); (case r3 => exact .cons ⟨_, rfl⟩ (.cons ⟨_, rfl⟩ (.nil)))
      (case l4 => k_is); (case z4 => decide); (case r4 => exact .cons ⟨_, rfl⟩ (.cons ⟨_, rfl⟩ (.nil)))
      (case l5 => k_is); (case z5 => decide); (case r5 => exact .cons ⟨_, rfl⟩ (.cons ⟨_, rfl⟩ (.nil)))
      (case l6 => k_is); (case z6 => decide); (case r6 => exact .cons ⟨_, rfl⟩ (.cons ⟨_, rfl⟩ (.nil)))
      (case l7 => k_is); (case z7 => decide); (case r7 => exact .cons ⟨_, rfl⟩ (.cons ⟨_, rfl⟩ (.nil)))
      (case l8 => k_is); (case z8 => decide); (case r8 => exact .cons ⟨_, rfl⟩ (.nil))
      (case l9 => k_is); (case z9 => decide); (case r9 => exact .cons ⟨_, rfl⟩ (.cons ⟨_, rfl⟩ (.nil)))
      (case l10 => k_is); (case z10 => decide); (case r10 => exact .cons ⟨_, rfl⟩ (.cons ⟨_, rfl⟩ (.nil)))
      (case l11 => k_is); (case z11 => decide); (case r11 => exact .cons ⟨_, rfl⟩ (.cons ⟨_, rfl⟩ (.nil)))
      (case l12 => k_is); (case z12 => decide); (case r12 => exact .cons ⟨_, rfl⟩ (.cons ⟨_, rfl⟩ (.nil)))
    obtain ⟨cLeftovers, m_Leftovers, cl_Leftovers, n_forms, n_numbers, n_steps, d_Leftovers___init__, d_Leftovers_numbered, d_Leftovers_of_saying, d_Leftovers_behind, d_Leftovers_behind_form, d_Leftovers_behind_bare, d_Leftovers_at_end⟩ : ∃ q : Addr, mg "Leftovers" = some (.ref q) ∧ L2.Cls (L2.KOf KX) q ∧ L2.NoAttr (L2.KOf KX) q "forms" ∧ L2.NoAttr (L2.KOf KX) q "numbers" ∧ L2.NoAttr (L2.KOf KX) q "steps" ∧ L2.DfnI (L2.KOf KX) q "Leftovers.__init__" K10.s_Leftovers___init__ ["self"] ∧ L2.DfnM (L2.KOf KX) q "numbered" "Leftovers.numbered" K10.s_Leftovers_numbered ["self", "form"] ∧ L2.DfnM (L2.KOf KX) q "of_saying" "Leftovers.of_saying" K10.s_Leftovers_of_saying ["self", "saying", "names"] ∧ L2.DfnM (L2.KOf KX) q "behind" "Leftovers.behind" K10.s_Leftovers_behind ["self", "left", "letter"] ∧ L2.DfnM (L2.KOf KX) q "behind_form" "Leftovers.behind_form" K10.s_Leftovers_behind_form ["self", "left", "letter"] ∧ L2.DfnM (L2.KOf KX) q "behind_bare" "Leftovers.behind_bare" K10.s_Leftovers_behind_bare ["self", "left", "one", "other"] ∧ L2.DfnM (L2.KOf KX) q "at_end" "Leftovers.at_end" K10.s_Leftovers_at_end ["self", "left"] := by
      dsimp only [L2.KOf]
      refine' ⟨_, PySem.W.mg_of KX G ?Leftovers_m, ⟨?Leftovers_pg, ?Leftovers_hd, ?Leftovers_po, ?Leftovers_sa⟩, L2.noattr_mk ?Leftovers_n0, L2.noattr_mk ?Leftovers_n1, L2.noattr_mk ?Leftovers_n2, L2.dfni_mk ?Leftovers_y0 ?Leftovers_a0 ?Leftovers_i0 ?Leftovers_z0 ?Leftovers_l0 ?Leftovers_c0 ?Leftovers_k0 (fun _ _ _ _ _ _ us hl => match us, hl with | [_], _ => rfl), L2.dfnm_mk ?Leftovers_a1 ?Leftovers_i1 ?Leftovers_l1 ?Leftovers_c1 ?Leftovers_k1 (fun _ _ _ _ _ _ us hl => match us, hl with | [_, _], _ => rfl), L2.dfnm_mk ?Leftovers_a2 ?Leftovers_i2 ?Leftovers_l2 ?Leftovers_c2 ?Leftovers_k2 (fun _ _ _ _ _ _ us hl => match us, hl with | [_, _, _], _ => rfl), L2.dfnm_mk ?Leftovers_a3 ?Leftovers_i3 ?Leftovers_l3 ?Leftovers_c3 ?Leftovers_k3 (fun _ _ _ _ _ _ us hl => match us, hl with | [_, _, _], _ => rfl), L2.dfnm_mk ?Leftovers_a4 ?Leftovers_i4 ?Leftovers_l4 ?Leftovers_c4 ?Leftovers_k4 (fun _ _ _ _ _ _ us hl => match us, hl with | [_, _, _], _ => rfl), L2.dfnm_mk ?Leftovers_a5 ?Leftovers_i5 ?Leftovers_l5 ?Leftovers_c5 ?Leftovers_k5 (fun _ _ _ _ _ _ us hl => match us, hl with | [_, _, _, _], _ => rfl), L2.dfnm_mk ?Leftovers_a6 ?Leftovers_i6 ?Leftovers_l6 ?Leftovers_c6 ?Leftovers_k6 (fun _ _ _ _ _ _ us hl => match us, hl with | [_, _], _ => rfl)⟩
      (case Leftovers_m => k_is)
      (case Leftovers_pg => k_is)
      (case Leftovers_hd => k_is)
      (case Leftovers_po => k_is)
      (case Leftovers_sa => k_is)
      (case Leftovers_n0 => k_is)
      (case Leftovers_n1 => k_is)
      (case Leftovers_n2 => k_is)
      (case Leftovers_y0 => k_is)
      (case Leftovers_a0 => k_is)
      (case Leftovers_i0 => k_is)
      (case Leftovers_z0 => k_is)
      (case Leftovers_l0 => k_is)
      (case Leftovers_c0 => k_is)
      (case Leftovers_k0 => k_is)
      (case Leftovers_a1 => k_is)
      (case Leftovers_i1 => k_is)
      (case Leftovers_l1 => k_is)
      (case Leftovers_c1 => k_is)
      (case Leftovers_k1 => k_is)
      (case Leftovers_a2 => k_is)
      (case Leftovers_i2 => k_is)
      (case Leftovers_l2 => k_is)
      (case Leftovers_c2 => k_is)
      (case Leftovers_k2 => k_is)
      (case Leftovers_a3 => k_is)
      (case Leftovers_i3 => k_is)
      (case Leftovers_l3 => k_is)
      (case Leftovers_c3 => k_is)
      (case Leftovers_k3 => k_is)
      (case Leftovers_a4 => k_is)
      (case Leftovers_i4 => k_is)
      (case Leftovers_l4 => k_is)
      (case Leftovers_c4 => k_is)
      (case Leftovers_k4 => k_is)
      (case Leftovers_a5 => k_is)
      (case Leftovers_i5 => k_is)
      (case Leftovers_l5 => k_is)
      (case Leftovers_c5 => k_is)
      (case Leftovers_k5 => k_is)
      (case Leftovers_a6 => k_is)
      (case Leftovers_i6 => k_is)
      (case Leftovers_l6 => k_is)
      (case Leftovers_c6 => k_is)
      (case Leftovers_k6 => k_is)
    have T : K10.Txt (L2.KOf KX) mg w tw rw ff cLeftovers := by
      refine' ⟨PySem.W.mg_none_of KX G ?t0, PySem.W.mg_none_of KX G ?t1, PySem.W.mg_none_of KX G ?t2, PySem.W.mg_none_of KX G ?t3, PySem.W.mg_none_of KX G ?t4, PySem.W.mg_none_of KX G ?t5, PySem.W.mg_none_of KX G ?t6, PySem.W.mg_none_of KX G ?t7, PySem.W.mg_none_of KX G ?t8, PySem.W.mg_none_of KX G ?t9, PySem.W.mg_none_of KX G ?t10, PySem.W.mg_none_of KX G ?t11, PySem.W.mg_none_of KX G ?t12, PySem.W.mg_none_of KX G ?t13, L2.glv_mk KX G ?t14 ?r14, L2.glv_mk KX G ?t15 ?r15, L2.glv_mk KX G ?t16 ?r16, L2.glv_mk KX G ?t17 ?r17, L2.glv_mk KX G ?t18 ?r18, L2.glv_mk KX G ?t19 ?r19, L2.glv_mk KX G ?t20 ?r20, L2.glv_mk KX G ?t21 ?r21, L2.glv_mk KX G ?t22 ?r22, g_TELLING_WORDS, t_TELLING_WORDS, g_TREE_WORDS, t_TREE_WORDS, g_FORMS, f_FORMS, m_Leftovers, cl_Leftovers, n_forms, n_numbers, n_steps⟩
      (case t0 => k_is)
      (case t1 => k_is)
      (case t2 => k_is)
      (case t3 => k_is)
      (case t4 => k_is)
      (case t5 => k_is)
      (case t6 => k_is)
      (case t7 => k_is)
      (case t8 => k_is)
      (case t9 => k_is)
      (case t10 => k_is)
      (case t11 => k_is)
      (case t12 => k_is)
      (case t13 => k_is)
      (case t14 => k_is); (case r14 => exact ⟨_, rfl⟩)
      (case t15 => k_is); (case r15 => exact ⟨_, rfl⟩)
      (case t16 => k_is); (case r16 => exact ⟨_, rfl⟩)
      (case t17 => k_is); (case r17 => exact ⟨_, rfl⟩)
      (case t18 => k_is); (case r18 => exact ⟨_, rfl⟩)
      (case t19 => k_is); (case r19 => exact ⟨_, rfl⟩)
      (case t20 => k_is); (case r20 => exact ⟨_, rfl⟩)
      (case t21 => k_is); (case r21 => exact ⟨_, rfl⟩)
      (case t22 => k_is); (case r22 => exact ⟨_, rfl⟩)
    have d_is_letter_with_figures : L2.Dfn (L2.KOf KX) mg "is_letter_with_figures" K10.s_is_letter_with_figures ["thing", "letters"] := by
      dsimp only [L2.KOf]
      refine' L2.dfn_mk KX G ?a ?l ?c ?k (fun _ _ _ _ _ _ us hl => match us, hl with | [_, _], _ => rfl)
      (case a => k_is); (case l => k_is); (case c => k_is); (case k => k_is)
    have d_is_place : L2.Dfn (L2.KOf KX) mg "is_place" K10.s_is_place ["thing"] := by
      dsimp only [L2.KOf]
      refine' L2.dfn_mk KX G ?a ?l ?c ?k (fun _ _ _ _ _ _ us hl => match us, hl with | [_], _ => rfl)
      (case a => k_is); (case l => k_is); (case c => k_is); (case k => k_is)
    have d_is_set : L2.Dfn (L2.KOf KX) mg "is_set" K10.s_is_set ["thing"] := by
      dsimp only [L2.KOf]
      refine' L2.dfn_mk KX G ?a ?l ?c ?k (fun _ _ _ _ _ _ us hl => match us, hl with | [_], _ => rfl)
      (case a => k_is); (case l => k_is); (case c => k_is); (case k => k_is)
    have d_is_name : L2.Dfn (L2.KOf KX) mg "is_name" K10.s_is_name ["thing"] := by
      dsimp only [L2.KOf]
      refine' L2.dfn_mk KX G ?a ?l ?c ?k (fun _ _ _ _ _ _ us hl => match us, hl with | [_], _ => rfl)
      (case a => k_is); (case l => k_is); (case c => k_is); (case k => k_is)
    have d_is_frame : L2.Dfn (L2.KOf KX) mg "is_frame" K10.s_is_frame ["thing"] := by
      dsimp only [L2.KOf]
      refine' L2.dfn_mk KX G ?a ?l ?c ?k (fun _ _ _ _ _ _ us hl => match us, hl with | [_], _ => rfl)
      (case a => k_is); (case l => k_is); (case c => k_is); (case k => k_is)
    have d_is_of_sort : L2.Dfn (L2.KOf KX) mg "is_of_sort" K10.s_is_of_sort ["thing", "sort", "deepest"] := by
      dsimp only [L2.KOf]
      refine' L2.dfn_mk KX G ?a ?l ?c ?k (fun _ _ _ _ _ _ us hl => match us, hl with | [_, _, _], _ => rfl)
      (case a => k_is); (case l => k_is); (case c => k_is); (case k => k_is)
    have d_has_form : L2.Dfn (L2.KOf KX) mg "has_form" K10.s_has_form ["thing", "deepest"] := by
      dsimp only [L2.KOf]
      refine' L2.dfn_mk KX G ?a ?l ?c ?k (fun _ _ _ _ _ _ us hl => match us, hl with | [_, _], _ => rfl)
      (case a => k_is); (case l => k_is); (case c => k_is); (case k => k_is)
    have d_inner_sayings : L2.Dfn (L2.KOf KX) mg "inner_sayings" K10.s_inner_sayings ["saying"] := by
      dsimp only [L2.KOf]
      refine' L2.dfn_mk KX G ?a ?l ?c ?k (fun _ _ _ _ _ _ us hl => match us, hl with | [_], _ => rfl)
      (case a => k_is); (case l => k_is); (case c => k_is); (case k => k_is)
    have d_is_bare : L2.Dfn (L2.KOf KX) mg "is_bare" K10.s_is_bare ["saying"] := by
      dsimp only [L2.KOf]
      refine' L2.dfn_mk KX G ?a ?l ?c ?k (fun _ _ _ _ _ _ us hl => match us, hl with | [_], _ => rfl)
      (case a => k_is); (case l => k_is); (case c => k_is); (case k => k_is)
    have d_count_parts : L2.Dfn (L2.KOf KX) mg "count_parts" K10.s_count_parts ["saying"] := by
      dsimp only [L2.KOf]
      refine' L2.dfn_mk KX G ?a ?l ?c ?k (fun _ _ _ _ _ _ us hl => match us, hl with | [_], _ => rfl)
      (case a => k_is); (case l => k_is); (case c => k_is); (case k => k_is)
    have d_is_any_saying : L2.Dfn (L2.KOf KX) mg "is_any_saying" K10.s_is_any_saying ["thing"] := by
      dsimp only [L2.KOf]
      refine' L2.dfn_mk KX G ?a ?l ?c ?k (fun _ _ _ _ _ _ us hl => match us, hl with | [_], _ => rfl)
      (case a => k_is); (case l => k_is); (case c => k_is); (case k => k_is)
    have d_is_let : L2.Dfn (L2.KOf KX) mg "is_let" K10.s_is_let ["saying", "known", "barred", "most"] := by
      dsimp only [L2.KOf]
      refine' L2.dfn_mk KX G ?a ?l ?c ?k (fun _ _ _ _ _ _ us hl => match us, hl with | [_, _, _, _], _ => rfl)
      (case a => k_is); (case l => k_is); (case c => k_is); (case k => k_is)
    have d_is_saying : L2.Dfn (L2.KOf KX) mg "is_saying" K10.s_is_saying ["thing", "frame"] := by
      dsimp only [L2.KOf]
      refine' L2.dfn_mk KX G ?a ?l ?c ?k (fun _ _ _ _ _ _ us hl => match us, hl with | [_, _], _ => rfl)
      (case a => k_is); (case l => k_is); (case c => k_is); (case k => k_is)
    have d_check_frame : L2.Dfn (L2.KOf KX) mg "check_frame" K10.s_check_frame ["frame"] := by
      dsimp only [L2.KOf]
      refine' L2.dfn_mk KX G ?a ?l ?c ?k (fun _ _ _ _ _ _ us hl => match us, hl with | [_], _ => rfl)
      (case a => k_is); (case l => k_is); (case c => k_is); (case k => k_is)
    have d_check_let : L2.Dfn (L2.KOf KX) mg "check_let" K10.s_check_let ["saying", "frame"] := by
      dsimp only [L2.KOf]
      refine' L2.dfn_mk KX G ?a ?l ?c ?k (fun _ _ _ _ _ _ us hl => match us, hl with | [_, _], _ => rfl)
      (case a => k_is); (case l => k_is); (case c => k_is); (case k => k_is)
    have d_bit_of : L2.Dfn (L2.KOf KX) mg "bit_of" K10.s_bit_of ["name", "names"] := by
      dsimp only [L2.KOf]
      refine' L2.dfn_mk KX G ?a ?l ?c ?k (fun _ _ _ _ _ _ us hl => match us, hl with | [_, _], _ => rfl)
      (case a => k_is); (case l => k_is); (case c => k_is); (case k => k_is)
    have d_is_whole : L2.Dfn (L2.KOf KX) mg "is_whole" K10.s_is_whole ["thing"] := by
      dsimp only [L2.KOf]
      refine' L2.dfn_mk KX G ?a ?l ?c ?k (fun _ _ _ _ _ _ us hl => match us, hl with | [_], _ => rfl)
      (case a => k_is); (case l => k_is); (case c => k_is); (case k => k_is)
    have d_is_below : L2.Dfn (L2.KOf KX) mg "is_below" K10.s_is_below ["thing", "bound"] := by
      dsimp only [L2.KOf]
      refine' L2.dfn_mk KX G ?a ?l ?c ?k (fun _ _ _ _ _ _ us hl => match us, hl with | [_, _], _ => rfl)
      (case a => k_is); (case l => k_is); (case c => k_is); (case k => k_is)
    have d_is_letter : L2.Dfn (L2.KOf KX) mg "is_letter" K10.s_is_letter ["thing", "tracks"] := by
      dsimp only [L2.KOf]
      refine' L2.dfn_mk KX G ?a ?l ?c ?k (fun _ _ _ _ _ _ us hl => match us, hl with | [_, _], _ => rfl)
      (case a => k_is); (case l => k_is); (case c => k_is); (case k => k_is)
    have d_check_row : L2.Dfn (L2.KOf KX) mg "check_row" K10.s_check_row ["frame", "row"] := by
      dsimp only [L2.KOf]
      refine' L2.dfn_mk KX G ?a ?l ?c ?k (fun _ _ _ _ _ _ us hl => match us, hl with | [_, _], _ => rfl)
      (case a => k_is); (case l => k_is); (case c => k_is); (case k => k_is)
    have d_count_with : L2.Dfn (L2.KOf KX) mg "count_with" K10.s_count_with ["letters", "track"] := by
      dsimp only [L2.KOf]
      refine' L2.dfn_mk KX G ?a ?l ?c ?k (fun _ _ _ _ _ _ us hl => match us, hl with | [_, _], _ => rfl)
      (case a => k_is); (case l => k_is); (case c => k_is); (case k => k_is)
    have d_each_place_once : L2.Dfn (L2.KOf KX) mg "each_place_once" K10.s_each_place_once ["frame", "letters"] := by
      dsimp only [L2.KOf]
      refine' L2.dfn_mk KX G ?a ?l ?c ?k (fun _ _ _ _ _ _ us hl => match us, hl with | [_, _], _ => rfl)
      (case a => k_is); (case l => k_is); (case c => k_is); (case k => k_is)
    have d_fits : L2.Dfn (L2.KOf KX) mg "fits" K10.s_fits ["frame", "row"] := by
      dsimp only [L2.KOf]
      refine' L2.dfn_mk KX G ?a ?l ?c ?k (fun _ _ _ _ _ _ us hl => match us, hl with | [_, _], _ => rfl)
      (case a => k_is); (case l => k_is); (case c => k_is); (case k => k_is)
    have d_holds_by : L2.Dfn (L2.KOf KX) mg "holds_by" K10.s_holds_by ["saying", "frame", "row"] := by
      dsimp only [L2.KOf]
      refine' L2.dfn_mk KX G ?a ?l ?c ?k (fun _ _ _ _ _ _ us hl => match us, hl with | [_, _, _], _ => rfl)
      (case a => k_is); (case l => k_is); (case c => k_is); (case k => k_is)
    have d_holds : L2.Dfn (L2.KOf KX) mg "holds" K10.s_holds ["saying", "frame", "row"] := by
      dsimp only [L2.KOf]
      refine' L2.dfn_mk KX G ?a ?l ?c ?k (fun _ _ _ _ _ _ us hl => match us, hl with | [_, _, _], _ => rfl)
      (case a => k_is); (case l => k_is); (case c => k_is); (case k => k_is)
    have d_law_cell_at : L2.Dfn (L2.KOf KX) mg "_law_cell_at" K10.s_law_cell_at ["_law_script", "_law_k"] := by
      dsimp only [L2.KOf]
      refine' L2.dfn_mk KX G ?a ?l ?c ?k (fun _ _ _ _ _ _ us hl => match us, hl with | [_, _], _ => rfl)
      (case a => k_is); (case l => k_is); (case c => k_is); (case k => k_is)
    have d_law_mixed : L2.Dfn (L2.KOf KX) mg "_law_mixed" K10.s_law_mixed ["_law_cell"] := by
      dsimp only [L2.KOf]
      refine' L2.dfn_mk KX G ?a ?l ?c ?k (fun _ _ _ _ _ _ us hl => match us, hl with | [_], _ => rfl)
      (case a => k_is); (case l => k_is); (case c => k_is); (case k => k_is)
    have d_law_frame : L2.Dfn (L2.KOf KX) mg "_law_frame" K10.s_law_frame ["_law_mixed_here"] := by
      dsimp only [L2.KOf]
      refine' L2.dfn_mk KX G ?a ?l ?c ?k (fun _ _ _ _ _ _ us hl => match us, hl with | [_], _ => rfl)
      (case a => k_is); (case l => k_is); (case c => k_is); (case k => k_is)
    have d_law_sayings : L2.Dfn (L2.KOf KX) mg "_law_sayings" K10.s_law_sayings ["_law_frame_here"] := by
      dsimp only [L2.KOf]
      refine' L2.dfn_mk KX G ?a ?l ?c ?k (fun _ _ _ _ _ _ us hl => match us, hl with | [_], _ => rfl)
      (case a => k_is); (case l => k_is); (case c => k_is); (case k => k_is)
    have d_law_row : L2.Dfn (L2.KOf KX) mg "_law_row" K10.s_law_row ["_law_cells", "_law_frame_here", "_law_mixed_here"] := by
      dsimp only [L2.KOf]
      refine' L2.dfn_mk KX G ?a ?l ?c ?k (fun _ _ _ _ _ _ us hl => match us, hl with | [_, _, _], _ => rfl)
      (case a => k_is); (case l => k_is); (case c => k_is); (case k => k_is)
    have d_law_due : L2.Dfn (L2.KOf KX) mg "_law_due" K10.s_law_due ["_law_saying", "_law_frame_here", "_law_row_here"] := by
      dsimp only [L2.KOf]
      refine' L2.dfn_mk KX G ?a ?l ?c ?k (fun _ _ _ _ _ _ us hl => match us, hl with | [_, _, _], _ => rfl)
      (case a => k_is); (case l => k_is); (case c => k_is); (case k => k_is)
    have d_law_all : L2.Dfn (L2.KOf KX) mg "_law_all" K10.s_law_all ["_law_frame_here", "_law_row_here"] := by
      dsimp only [L2.KOf]
      refine' L2.dfn_mk KX G ?a ?l ?c ?k (fun _ _ _ _ _ _ us hl => match us, hl with | [_, _], _ => rfl)
      (case a => k_is); (case l => k_is); (case c => k_is); (case k => k_is)
    have d_law_unfit : L2.Dfn (L2.KOf KX) mg "_law_unfit" K10.s_law_unfit ["_law_frame_here", "_law_row_here"] := by
      dsimp only [L2.KOf]
      refine' L2.dfn_mk KX G ?a ?l ?c ?k (fun _ _ _ _ _ _ us hl => match us, hl with | [_, _], _ => rfl)
      (case a => k_is); (case l => k_is); (case c => k_is); (case k => k_is)
    have L : ∃ fd : FuncData, (∀ (s : Shared) (v : Value), BindsTo s fd ⟨[v], []⟩ [("_law_script", v)]) ∧ L2.Fun (L2.KOf KX) "law" "law" K10.s_law fa fd := by
      dsimp only [L2.KOf]
      refine' L2.law_mk KX G hmg ?a ?l ?c ?k ?b
      (case a => k_is); (case l => k_is); (case c => k_is); (case k => k_is)
      exact fun s u => .of_eq rfl
    obtain ⟨fd, hb, F⟩ := L
    exact ⟨fd, hb, fun base _ _ => K10.all T d_is_letter_with_figures d_is_place d_is_set d_is_name d_is_frame d_is_of_sort d_has_form d_inner_sayings d_is_bare d_count_parts d_is_any_saying d_is_let d_is_saying d_check_frame d_check_let d_bit_of d_Leftovers___init__ d_Leftovers_numbered d_Leftovers_of_saying d_Leftovers_behind d_Leftovers_behind_form d_Leftovers_behind_bare d_Leftovers_at_end d_is_whole d_is_below d_is_letter d_check_row d_count_with d_each_place_once d_fits d_holds_by d_holds d_law_cell_at d_law_mixed d_law_frame d_law_sayings d_law_row d_law_due d_law_all d_law_unfit F⟩
#print axioms PySem.Challenge.cw_setsays_k10_bare_ones_hold_holds
