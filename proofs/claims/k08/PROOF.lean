import PyProof.Rows.All
import Wide.All
import OpenK.AllK
import Wide.FinOn
import Lean
import PyProof.EqAt
import PyProof.EqKinds
import PyProof.TupleCall
import PyProof.CodeObjX
import PyProof.NeKinds
import PyProof.ZipIter
import PyProof.StrLawsReplace
import PyProof.StrBlockL
import PyProof.EnumStmt
import PyProof.EnumMake
import KE.KDictOf
import PyProof.AttrMissHeap
import PyProof.Rows.SeqMore2
import PyProof.Rows.MinMaxN
import PyProof.RaisesMany
import PyProof.ExcClass2
import PyProof.Rows.Own
import PyProof.Rows.CatchOwn
import PyProof.RulesDel
import KE.KIsAll
import PyProof.IsiH_list
import PyProof.ExcArgsOwn
import OpenK.KOwn
import PyProof.FString5
import PyProof.ToksMono
import PyProof.StrCalls6
import PyProof.StrCalls2
import PyProof.CallType
import PyProof.FactsAll.list_2
import PyProof.ListNew
import KE.KRevIter
import PyProof.Rows.StrWeight2
import PyProof.StrOps2
import PySem.Challenge.RW_setsays_k08_texts_refused
set_option Elab.async false
set_option linter.all false
set_option maxRecDepth 100000
namespace L2
open PySem PySem.Spec PyProof.Rows
abbrev Key := Sum Int Str
def blI (b : Bool) : Int := if b = true then 1 else 0
def isBl (k : Int) : Value → Bool
  | .bool b => k == blI b
  | _ => false
def keyIs : Key → Value → Bool
  | .inl k, v => Value.isInt k v || isBl k v
  | .inr x, v => Value.isStrOf x v
def keyH (w : World) : Key → Int
  | .inl k => hashInt k
  | .inr x => hashStr w x
theorem isBl_shape {k : Int} : ∀ {v : Value}, isBl k v = true → ∃ b, k = blI b ∧ v = Value.bool b := by
  intro v h
  cases v
  case bool b => exact ⟨b, eq_of_beq h, rfl⟩
  all_goals exact absurd h Bool.false_ne_true
theorem keyIs_shape : ∀ {k : Key} {v : Value}, keyIs k v = true → (∃ i t, k = Sum.inl i ∧ v = Value.int i t) ∨ (∃ x t, k = Sum.inr x ∧ v = Value.str x t) ∨ ∃ b, k = Sum.inl (blI b) ∧ v = Value.bool b
  | .inl i, v, h => by
    rcases (Bool.or_eq_true _ _).mp (show (Value.isInt i v || isBl i v) = true from h) with h | h
    · obtain ⟨t, e⟩ := Value.isInt_shape (k := i) (v := v) h
      exact .inl ⟨i, t, rfl, e⟩
    · obtain ⟨b, e, e'⟩ := isBl_shape h
      exact .inr (.inr ⟨b, by rw [e], e'⟩)
  | .inr x, v, h => by
    obtain ⟨t, e⟩ := Value.isStrOf_shape (x := x) (v := v) h
    exact .inr (.inl ⟨x, t, rfl, e⟩)
theorem keyIs_int (i : Int) (t : Tok) : keyIs (.inl i) (.int i t) = true := by simp [keyIs, Value.isInt]
theorem hash_bl {prog : Program} {w : World} {A : Around} {E : Value → Shared → Prop} {s : Shared} {b : Bool} {Q : Int → Shared → Prop} (h : Q (hashInt (blI b)) { s with toks := s.toks + 1 }) : wpAny (model prog w) A (pyHash (.bool b)) Q E s := by
  have hT : s.TypeIs (.bool b) "bool" := rfl
  have hr := rawHash_range (blI b)
  unfold pyHash
  refine wpAny_bind ?_
  rw [cRoomFor, if_neg (show ¬ [Value.bool b].any Value.onHeap = true from Bool.false_ne_true)]
  refine wpAny_pure (wpAny_bind (wpAny_specialOf hT PySem.F.slot_bool_hash.lookup ?_))
  show wpAny _ _ (if (some (Value.builtin "int.__hash__") == some Value.none) = true then _ else _) Q E s
  rw [if_neg (show ¬ (some (Value.builtin "int.__hash__") == some Value.none) = true from Bool.false_ne_true)]
  refine wpAny_bind (wpAny_specialOf hT PySem.F.slot_bool_hash.lookup ?_)
  show wpAny _ _ (callSpecialIfBoundUnlessNone? (.bool b) "__hash__" _ >>= _) Q E s
  refine wpAny_bind (wpAny_callSpecialIfBoundUnlessNone?_slot hT PySem.F.slot_bool_hash (wpAny_call_entry PySem.F.slot_bool_hash hT PySem.F.entry_int_hash ?_ (PySem.F.args_int_hash_1 _)))
  refine (show wpAny _ _ (do ret (← mkInt (rawHash (blI b)))) _ _ s from wpAny_ret_mkInt ?_)
  show wpAny _ _ (if (decide (-(2 : Int) ^ 63 ≤ rawHash (blI b)) && decide (rawHash (blI b) < 2 ^ 63)) = true then _ else _) Q E _
  rw [if_pos (by rw [decide_eq_true hr.1, decide_eq_true hr.2]; rfl)]
  exact wpAny_pure h
theorem keyIs_str (x : Str) (t : Tok) : keyIs (.inr x) (.str x t) = true := by simp [keyIs, Value.isStrOf]
theorem key_ll (a b : Int) : decide ((Sum.inl a : Key) = Sum.inl b) = (a == b) := by
  by_cases e : a = b
  · subst e; simp
  · have h : ¬ (Sum.inl a : Key) = Sum.inl b := fun q => e (Sum.inl.inj q)
    rw [decide_eq_false h]
    exact (beq_eq_false_iff_ne.mpr e).symm
theorem key_rr (a b : Str) : decide ((Sum.inr a : Key) = Sum.inr b) = decide (a = b) := by
  by_cases e : a = b
  · subst e; simp
  · have h : ¬ (Sum.inr a : Key) = Sum.inr b := fun q => e (Sum.inr.inj q)
    rw [decide_eq_false h, decide_eq_false e]
theorem key_lr (a : Int) (b : Str) : decide ((Sum.inl a : Key) = Sum.inr b) = false := decide_eq_false (fun q => nomatch q)
theorem key_rl (a : Str) (b : Int) : decide ((Sum.inr a : Key) = Sum.inl b) = false := decide_eq_false (fun q => nomatch q)
def mixKind (prog : Program) (w : World) : PySem.KeyKind prog w Key where
  is := keyIs
  hash := keyH w
  inj := fun v a b ha hb => by
    rcases keyIs_shape ha with ⟨i, t, rfl, rfl⟩ | ⟨x, t, rfl, rfl⟩ | ⟨c, rfl, rfl⟩
    · rcases keyIs_shape hb with ⟨j, u, rfl, e⟩ | ⟨y, u, rfl, e⟩ | ⟨d, rfl, e⟩
      · injection e with e1 _; rw [e1]
      · exact nomatch e
      · exact nomatch e
    · rcases keyIs_shape hb with ⟨j, u, rfl, e⟩ | ⟨y, u, rfl, e⟩ | ⟨d, rfl, e⟩
      · exact nomatch e
      · injection e with e1 _; rw [e1]
      · exact nomatch e
    · rcases keyIs_shape hb with ⟨j, u, rfl, e⟩ | ⟨y, u, rfl, e⟩ | ⟨d, rfl, e⟩
      · exact nomatch e
      · exact nomatch e
      · injection e with e1; rw [e1]
  byValue := fun k v h => by
    rcases keyIs_shape h with ⟨i, t, rfl, rfl⟩ | ⟨x, t, rfl, rfl⟩ | ⟨c, rfl, rfl⟩ <;> rfl
  pyHash := fun hv h => by
    rcases keyIs_shape hv with ⟨i, t, rfl, rfl⟩ | ⟨x, t, rfl, rfl⟩ | ⟨c, rfl, rfl⟩
    · exact wpAny_pyHash_int h
    · exact wpAny_pyHash_str h
    · exact hash_bl h
  eqBool := fun hu hv h => by
    rcases keyIs_shape hu with ⟨i, t, rfl, rfl⟩ | ⟨x, t, rfl, rfl⟩ | ⟨c, rfl, rfl⟩
    · rcases keyIs_shape hv with ⟨j, u, rfl, rfl⟩ | ⟨y, u, rfl, rfl⟩ | ⟨d, rfl, rfl⟩
      · rw [key_ll] at h; exact wpAny_eqBool_int h
      · rw [key_lr] at h; exact SeqAt.EqAt.int_str i t y u _ _ _ _ h
      · rw [key_ll] at h; exact SeqAt.EqAt.int_bool i t d _ _ _ _ h
    · rcases keyIs_shape hv with ⟨j, u, rfl, rfl⟩ | ⟨y, u, rfl, rfl⟩ | ⟨d, rfl, rfl⟩
      · rw [key_rl] at h; exact SeqAt.EqAt.str_int x t j u _ _ _ _ h
      · rw [key_rr] at h; exact wpAny_eqBool_str h
      · rw [key_rl] at h; exact SeqAt.EqAt.str_bool x t d _ _ _ _ h
    · rcases keyIs_shape hv with ⟨j, u, rfl, rfl⟩ | ⟨y, u, rfl, rfl⟩ | ⟨d, rfl, rfl⟩
      · rw [key_ll] at h; exact SeqAt.EqAt.bool_int c j u _ _ _ _ h
      · rw [key_lr] at h; exact SeqAt.EqAt.bool_str c y u _ _ _ _ h
      · rw [key_ll, show (blI c == blI d) = (c == d) by cases c <;> cases d <;> rfl] at h
        exact SeqAt.EqAt.bool_bool c d _ _ _ _ h
  «strs» := fun k x t v h => by
    rcases keyIs_shape h with ⟨i, u, rfl, e⟩ | ⟨y, u, rfl, e⟩ | ⟨d, rfl, e⟩
    · exact nomatch e
    · injection e with e1 _
      subst e1
      cases v <;> rfl
    · exact nomatch e
theorem mixKind_int (prog : Program) (w : World) (i : Int) (t : Tok) : (mixKind prog w).is (.inl i) (.int i t) = true := keyIs_int i t
theorem mixKind_str (prog : Program) (w : World) (x : Str) (t : Tok) : (mixKind prog w).is (.inr x) (.str x t) = true := keyIs_str x t
end L2
namespace L2
open PySem PySem.Spec PyProof.Rows
inductive V where
  | non | bl (b : Bool) | int (i : Int) | str (x : Str) | byt (b : Array UInt8) | flt (b : UInt64) | ref (a : Addr) | ty (n : String)
  deriving DecidableEq
def RelV : V → Value → Prop
  | .non, u => u = Value.none
  | .bl b, u => u = Value.bool b
  | .int i, u => ∃ t, u = Value.int i t
  | .str x, u => ∃ t, u = Value.str x t
  | .byt b, u => ∃ t, u = Value.bytes b t
  | .flt b, u => ∃ t, u = Value.float b t
  | .ref a, u => u = Value.ref a
  | .ty n, u => u = Value.type n
abbrev Vals : List V → List Value → Prop := Paired RelV
theorem Vals.length {xs : List V} {us : List Value} (r : Vals xs us) : xs.length = us.length := Paired.length r
theorem Vals.get : ∀ {xs : List V} {us : List Value} {i : Nat} {x : V}, Vals xs us → xs[i]? = some x → ∃ u, us[i]? = some u ∧ RelV x u
  | _, _, _, _, .nil, e => by simp at e
  | _, _, 0, _, .cons r _, e => by simp at e; subst e; exact ⟨_, rfl, r⟩
  | _, _, i + 1, x, .cons _ t, e => by
    obtain ⟨u, h1, h2⟩ := Vals.get (i := i) (x := x) t (by simpa using e)
    exact ⟨u, by simpa using h1, h2⟩
theorem Vals.set {x : V} {u : Value} (r : RelV x u) : ∀ {xs : List V} {us : List Value} (i : Nat), Vals xs us → Vals (xs.set i x) (us.set i u)
  | _, _, _, .nil => .nil
  | _, _, 0, .cons _ t => .cons r t
  | _, _, i + 1, .cons q t => .cons q (Vals.set r i t)
theorem Vals.append : ∀ {xs ys : List V} {us ws : List Value}, Vals xs us → Vals ys ws → Vals (xs ++ ys) (us ++ ws)
  | _, _, _, _, .nil, s => s
  | _, _, _, _, .cons r t, s => .cons r (Vals.append t s)
theorem Vals.take : ∀ {xs : List V} {us : List Value} (n : Nat), Vals xs us → Vals (xs.take n) (us.take n)
  | _, _, 0, _ => .nil
  | _, _, _ + 1, .nil => .nil
  | _, _, n + 1, .cons r t => .cons r (Vals.take n t)
theorem Vals.drop : ∀ {xs : List V} {us : List Value} (n : Nat), Vals xs us → Vals (xs.drop n) (us.drop n)
  | _, _, 0, r => r
  | _, _, _ + 1, .nil => .nil
  | _, _, n + 1, .cons _ t => Vals.drop n t
def RelO : Option V → Option Value → Prop
  | some v, some u => RelV v u
  | none, none => True
  | _, _ => False
def KV {κ : Type} : List (κ × V) → List (κ × Value) → Prop := Paired fun (p : κ × V) (q : κ × Value) => p.1 = q.1 ∧ RelV p.2 q.2
def kV : Key → V
  | .inl i => .int i
  | .inr x => .str x
inductive HO where
    | lst (xs : List V)
    | tup (xs : List V)
    | dK (kvs : List (Key × V)) | dT (kvs : List (List Key × V))
    | set (S : Int → Bool) (n : Nat)
    | ins (C dx : Addr) (fs : List (Str × V))
    | own (x : Addr)
    | xd (fs : List (Str × V))
    | met (f x : Addr)
    | rng (lo hi : Int)
    | frz (o : Obj) (u : HO)
    | tbl (qs : List (Pos × Str)) (ps : Array Value)
    | ext (φ : Heap → Prop)
abbrev Hp := Addr → Option HO
def upd (H : Hp) (a : Addr) (o : HO) : Hp := fun b => if b = a then some o else H b
theorem upd_same {H : Hp} {a : Addr} {o : HO} : upd H a o a = some o := by unfold upd; rw [if_pos rfl]
theorem upd_ne {H : Hp} {a b : Addr} {o : HO} (h : b ≠ a) : upd H a o b = H b := by unfold upd; rw [if_neg h]
theorem ne_of_none {H : Hp} {a b : Addr} {o : HO} (h : H a = some o) (h' : H b = none) : a ≠ b := by
  intro e; subst e; rw [h] at h'; cases h'
section
variable (P : Program) (w : World)
def CodeObj (o : Obj) (q : Str) : Prop := ∃ vs t, o.data = .fields vs ∧ vs[1]? = some (.str q t)
def ObjOk (H : Hp) (h : Heap) (a : Addr) : HO → Prop
  | .lst xs => xs.length ≤ sizeLine ∧ ∃ (its : List Value) (n : Nat), Vals xs its ∧ h.get? a = some { cls := .type "list", data := .seq its.toArray n }
  | .tup xs => xs.length ≤ sizeLine ∧ ∃ its : List Value, Vals xs its ∧ IsTup h a its.toArray
  | .dK kvs => kvs.length ≤ sizeLine ∧ (a == sysModules) = false ∧ ∃ vs, KV kvs vs ∧ h.DictOf (mixKind P w) a vs
  | .dT kvs => kvs.length ≤ sizeLine ∧ (a == sysModules) = false ∧ ∃ xs : List (List Key × Addr × Value),
      Paired (fun (p : List Key × V) (q : List Key × Addr × Value) => p.1 = q.1 ∧ H q.2.1 = some (.tup (p.1.map kV)) ∧ RelV p.2 q.2.2) kvs xs ∧
      ∃ o es ep, h.get? a = some o ∧ o.ExactDict ∧ o.data = .dict es ep ∧ es.toList = xs.map (entryOfKey (tupleKind (mixKind P w))) ∧ (xs.map (·.1)).Nodup
  | .set S n => h.SetOf (intKind P w) a S n
  | .ins C dx fs => H dx = some (.own a) ∧ fs.length ≤ 1000 ∧ dx ≠ a ∧ h.get? a = some (PySem.W.instObj C dx) ∧
      ∃ mA, h.Ns1 dx mA ∧ (∀ f, RelO (fs.lookup f) (mA f)) ∧ PySem.Within mA (fs.map (·.1))
  | .own _ => ∃ o, h.get? a = some o
  | .xd fs => ∃ mA, h.Ns1 a mA ∧ ∀ f, RelO (fs.lookup f) (mA f)
  | .rng lo hi => ∃ t u v, h.get? a = some { cls := .type "range", data := .fields #[.int lo t, .int hi u, .int 1 v] }
  | .frz o u => h.get? a = some o ∧ ObjOk H h a u
  | .tbl qs ps => ∃ more : Array Value, h.get? a = some { cls := .none, data := .fields (ps ++ more) } ∧ TriplesOk (ps ++ more).toList ∧ ∀ p ∈ qs, ∀ v, codeAmong p.1 (ps ++ more).toList = some v → ∃ c o, v = .ref c ∧ H c = some (.frz o (.own c)) ∧ CodeObj o p.2
  | .met f x => h.get? a = some (PySem.W.methodObj (.ref f) (.ref x))
  | .ext φ => φ h ∧ (∃ o, h.get? a = some o) ∧ ∀ h1 h2 : Heap, φ h1 → (∀ o, h1.get? a = some o → h2.get? a = some o) → φ h2
def HOk (H : Hp) (h : Heap) : Prop := ∀ a o, H a = some o → ObjOk P w H h a o
end
section
variable {P : Program} {w : World} {H H' : Hp} {h h' : Heap} {a : Addr} {o : HO}
theorem ObjOk.lt (x : ObjOk P w H h a o) : a < h.objs.size := by
  cases o with
  | lst xs => obtain ⟨_, _, _, _, e⟩ := x; exact Heap.lt_size e
  | tup xs => obtain ⟨_, _, _, p⟩ := x; exact p.lt
  | dK kvs => obtain ⟨_, _, _, _, o, _, _, e, _⟩ := x; exact Heap.lt_size e
  | dT kvs => obtain ⟨_, _, _, _, o, _, _, e, _⟩ := x; exact Heap.lt_size e
  | set S n => obtain ⟨o, _, _, _, e, _⟩ := x; exact Heap.lt_size e
  | ins C dx fs => obtain ⟨_, _, _, e, _⟩ := x; exact Heap.lt_size e
  | own y => obtain ⟨_, e⟩ := x; exact Heap.lt_size e
  | xd fs => obtain ⟨_, ⟨_, _, _, e, _⟩, _⟩ := x; exact Heap.lt_size e
  | rng lo hi => obtain ⟨_, _, _, e⟩ := x; exact Heap.lt_size e
  | frz ob u => obtain ⟨e, _⟩ := x; exact Heap.lt_size e
  | tbl qs ps => obtain ⟨_, e, _⟩ := x; exact Heap.lt_size e
  | met f y => exact Heap.lt_size (show h.get? a = some _ from x)
  | ext φ => obtain ⟨_, ⟨_, e⟩, _⟩ := x; exact Heap.lt_size e
theorem Paired.mapP {α β : Type} {F G : α → β → Prop} : ∀ {l₁ : List α} {l₂ : List β}, Paired F l₁ l₂ → (∀ a b, F a b → G a b) → Paired G l₁ l₂
  | _, _, .nil, _ => .nil
  | _, _, .cons r t, f => .cons (f _ _ r) (Paired.mapP t f)
theorem ObjOk.stay (x : ObjOk P w H h a o) (k : ∀ b u, (b = a ∨ H b = some (.own a)) → h.get? b = some u → h'.get? b = some u)
    (ho : ∀ b, H b = some (.own a) → H' b = some (.own a)) (hf : ∀ b o u q, CodeObj o q → H b = some (.frz o u) → H' b = some (.frz o u)) (ht : ∀ b xs, H b = some (.tup xs) → H' b = some (.tup xs)) : ObjOk P w H' h' a o := by
  induction o with
  | lst xs => obtain ⟨z, its, n, r, e⟩ := x; exact ⟨z, its, n, r, k _ _ (.inl rfl) e⟩
  | tup xs => obtain ⟨z, its, r, ob, e, c⟩ := x; exact ⟨z, its, r, ob, k _ _ (.inl rfl) e, c⟩
  | dK kvs => obtain ⟨z, y, vs, r, ob, es, ep, e, c⟩ := x; exact ⟨z, y, vs, r, ob, es, ep, k _ _ (.inl rfl) e, c⟩
  | dT kvs =>
    obtain ⟨z, y, xs, r, ob, es, ep, e, c⟩ := x
    exact ⟨z, y, xs, Paired.mapP r fun p q z => ⟨z.1, ht _ _ z.2.1, z.2.2⟩, ob, es, ep, k _ _ (.inl rfl) e, c⟩
  | set S n => obtain ⟨ob, es, ep, t, e, c⟩ := x; exact ⟨ob, es, ep, t, k _ _ (.inl rfl) e, c⟩
  | ins C dx fs =>
    obtain ⟨d, z, ne, e, mA, ⟨od, es, ep, e2, c⟩, r⟩ := x
    exact ⟨ho _ d, z, ne, k _ _ (.inl rfl) e, mA, ⟨od, es, ep, k _ _ (.inr d) e2, c⟩, r⟩
  | own y => obtain ⟨ob, e⟩ := x; exact ⟨ob, k _ _ (.inl rfl) e⟩
  | xd fs => obtain ⟨mA, ⟨od, es, ep, e, c⟩, r⟩ := x; exact ⟨mA, ⟨od, es, ep, k _ _ (.inl rfl) e, c⟩, r⟩
  | rng lo hi => obtain ⟨t, u, v, e⟩ := x; exact ⟨t, u, v, k _ _ (.inl rfl) e⟩
  | frz ob u ih => obtain ⟨e, q⟩ := x; exact ⟨k _ _ (.inl rfl) e, ih q⟩
  | tbl qs ps => obtain ⟨more, e, t, c⟩ := x; exact ⟨more, k _ _ (.inl rfl) e, t, fun p hp v q => let ⟨c1, o, r, z, co⟩ := c p hp v q; ⟨c1, o, r, hf _ _ _ _ co z, co⟩⟩
  | met f y =>
    have e : h.get? a = some (PySem.W.methodObj (.ref f) (.ref y)) := x
    show h'.get? a = some (PySem.W.methodObj (.ref f) (.ref y))
    exact k a _ (.inl rfl) e
  | ext φ => obtain ⟨p, ⟨o, e⟩, st⟩ := x; exact ⟨st _ _ p fun o q => k _ _ (.inl rfl) q, ⟨o, k _ _ (.inl rfl) e⟩, st⟩
theorem HOk.lt (x : HOk P w H h) (e : H a = some o) : a < h.objs.size := (x a o e).lt
theorem HOk.fresh (x : HOk P w H h) (e : h.objs.size ≤ a) : H a = none := by
  cases q : H a with
  | none => rfl
  | some u => exact absurd (Nat.lt_of_lt_of_le (x.lt q) e) (Nat.lt_irrefl _)
theorem HOk.kept (x : HOk P w H h) (k : ∀ b u, h.get? b = some u → h'.get? b = some u) : HOk P w H h' := fun a o e =>
  (x a o e).stay (fun b u _ q => k b u q) (fun _ q => q) (fun _ _ _ _ _ q => q) fun _ _ q => q
theorem HOk.laid (x : HOk P w H h) (k : ∀ b u, h.get? b = some u → h'.get? b = some u) (hp : h.objs.size ≤ a) (new : ObjOk P w (upd H a o) h' a o) : HOk P w (upd H a o) h' := fun b u e => by
  have hn := x.fresh hp
  by_cases hb : b = a
  · subst hb; rw [upd_same] at e; cases e; exact new
  · rw [upd_ne hb] at e
    exact (x b u e).stay (fun c v _ q => k c v q) (fun c q => by rw [upd_ne (ne_of_none q hn)]; exact q) (fun c _ _ _ _ q => by rw [upd_ne (ne_of_none q hn)]; exact q) fun c xs q => by rw [upd_ne (ne_of_none q hn)]; exact q
end
def Rd (H : Hp) (a : Addr) (u : HO) : Prop := H a = some u ∨ ∃ o, H a = some (.frz o u)
theorem Rd.ok {P : Program} {w : World} {H : Hp} {h : Heap} {a : Addr} {u : HO} (r : Rd H a u) (x : HOk P w H h) : ObjOk P w H h a u := by
  rcases r with r | ⟨o, r⟩
  · exact x a u r
  · obtain ⟨_, q⟩ := x a _ r
    exact q
def Mut : Option HO → Prop
  | some (.lst _) => True
  | some (.dK _) => True
  | some (.dT _) => True
  | some (.set _ _) => True
  | some (.ins _ _ _) => True
  | some (.ext _) => True
  | _ => False
section
variable {P : Program} {w : World} {H : Hp} {h h' : Heap} {x e : Addr} {o' : HO}
theorem HOk.write (ok : HOk P w H h) (mu : Mut (H x)) (he : e = x ∨ H e = some (.own x)) (k : ∀ b u, b ≠ e → h.get? b = some u → h'.get? b = some u) (heo : ∃ u, h'.get? e = some u)
    (new : ObjOk P w (upd H x o') h' x o') : HOk P w (upd H x o') h' := fun b u q => by
  have nown : ∀ c y, H c = some (.own y) → c ≠ x := fun c y r z => by subst z; rw [r] at mu; exact mu
  have ntup : ∀ c xs, H c = some (.tup xs) → c ≠ x := fun c xs r z => by subst z; rw [r] at mu; exact mu
  have nfrz : ∀ c o y, H c = some (.frz o y) → c ≠ x := fun c o y r z => by subst z; rw [r] at mu; exact mu
  by_cases hb : b = x
  · subst hb; rw [upd_same] at q; cases q; exact new
  · rw [upd_ne hb] at q
    by_cases hbe : b = e
    · have q' : H b = some (.own x) := by
        rcases he with z | z
        · exact absurd (hbe.trans z) hb
        · rw [hbe]; exact z
      rw [q] at q'; cases q'
      obtain ⟨v, hv⟩ := heo
      exact ⟨v, by rw [hbe]; exact hv⟩
    · refine (ok b u q).stay (fun c v hc r => k c v ?_ r) (fun c r => by rw [upd_ne (nown c b r)]; exact r) (fun c o y _ _ r => by rw [upd_ne (nfrz c o y r)]; exact r) fun c xs r => by rw [upd_ne (ntup c xs r)]; exact r
      rcases hc with rfl | hc
      · exact hbe
      · rintro rfl
        rcases he with z | z
        · exact nown c b hc z
        · rw [hc] at z; cases z; exact hb rfl
end
structure Un (fs ex : List Addr) (H H' : Hp) (h h' : Heap) : Prop where
  keep : ∀ b o, h.get? b = some o → H b = none → b ∉ fs → b ∉ ex → h'.get? b = some o
  slot : ∀ b o, h.get? b = some o → H b = none → b ∈ fs → b ∉ ex → ∃ sl, h'.get? b = some { o with slots := sl }
  free : ∀ b o, h.get? b = some o → H b = none → b ∉ ex → H' b = none
  there : ∀ b o, h.get? b = some o → b ∉ ex → ∃ o', h'.get? b = some o'
  tups : ∀ b xs, H b = some (.tup xs) → H' b = some (.tup xs)
  frzs : ∀ b o u, H b = some (.frz o u) → H' b = some (.frz o u)
  tbls : ∀ b qs ps, H b = some (.tbl qs ps) → H' b = some (.tbl qs ps)
section
variable {fs fs' ex ex' : List Addr} {H H1 H2 : Hp} {h h1 h2 h' : Heap} {a x e : Addr} {o : HO}
theorem Un.any (u : Un fs ex H H1 h h1) {b : Addr} {ob : Obj} (q : h.get? b = some ob) (n : H b = none) (hx : b ∉ ex) : ∃ sl, h1.get? b = some { ob with slots := sl } := by
  by_cases hb : b ∈ fs
  · exact u.slot b ob q n hb hx
  · exact ⟨ob.slots, u.keep b ob q n hb hx⟩
theorem Un.kept (k : ∀ b u, h.get? b = some u → h'.get? b = some u) : Un fs ex H H h h' :=
  ⟨fun b ob q _ _ _ => k b ob q, fun b ob q _ _ _ => ⟨ob.slots, k b ob q⟩, fun _ _ _ n _ => n, fun b ob q _ => ⟨ob, k b ob q⟩, fun _ _ q => q, fun _ _ _ q => q, fun _ _ _ q => q⟩
theorem Un.refl : Un fs ex H H h h := Un.kept fun _ _ q => q
theorem Un.laid (k : ∀ b u, h.get? b = some u → h'.get? b = some u) (hp : h.objs.size ≤ a) (hn : H a = none) : Un fs ex H (upd H a o) h h' where
  keep := fun b u q _ _ _ => k b u q
  slot := fun b u q _ _ _ => ⟨u.slots, k b u q⟩
  free := fun b u q n _ => by rw [upd_ne (Nat.ne_of_lt (Nat.lt_of_lt_of_le (Heap.lt_size q) hp))]; exact n
  there := fun b u q _ => ⟨u, k b u q⟩
  tups := fun b xs q => by rw [upd_ne (ne_of_none q hn)]; exact q
  frzs := fun b u xs q => by rw [upd_ne (ne_of_none q hn)]; exact q
  tbls := fun b qs ps q => by rw [upd_ne (ne_of_none q hn)]; exact q
theorem Un.write (mu : Mut (H x)) (he : e = x ∨ H e = some (.own x)) (k : ∀ b u, b ≠ e → h.get? b = some u → h'.get? b = some u) (heo : ∃ u, h'.get? e = some u) : Un fs ex H (upd H x o) h h' := by
  have hx : ∀ b, H b = none → b ≠ x := fun b n z => by subst z; rw [n] at mu; exact mu
  have hb : ∀ b, H b = none → b ≠ e := fun b n z => by
    subst z
    rcases he with r | r
    · exact hx b n r
    · rw [n] at r; cases r
  have hm : ∀ b u, H b = some u → ¬ Mut (some u) → b ≠ x := fun b u q nm z => by subst z; rw [q] at mu; exact nm mu
  refine ⟨fun b u q n _ _ => k b u (hb b n) q, fun b u q n _ _ => ⟨u.slots, k b u (hb b n) q⟩, fun b u q n _ => by rw [upd_ne (hx b n)]; exact n, fun b u q _ => ?_,
    fun b xs q => by rw [upd_ne (hm b _ q fun z => z)]; exact q, fun b u xs q => by rw [upd_ne (hm b _ q fun z => z)]; exact q, fun b qs ps q => by rw [upd_ne (hm b _ q fun z => z)]; exact q⟩
  by_cases hbe : b = e
  · subst hbe; exact heo
  · exact ⟨u, k b u hbe q⟩
end
def trk (h : Heap) (H : Hp) : List Addr := (List.range h.objs.size).filter fun a => (H a).isSome
def hidT (h : Heap) (H : Hp) : Heap := PySem.W.hideAll h (trk h H)
theorem hidT_size (h : Heap) (H : Hp) : (hidT h H).objs.size = h.objs.size := PySem.W.hideAll_size _ _
theorem hidT_get {h : Heap} {H : Hp} {b : Addr} {o : Obj} (e : h.get? b = some o) (n : H b = none) : (hidT h H).get? b = some o :=
  PySem.W.hideAll_get _ e fun hm => by
    have q : (H b).isSome = true := (List.mem_filter.mp hm).2
    rw [n] at q; simp at q
theorem of_hidT {h : Heap} {H : Hp} {b : Addr} {o : Obj} (e : (hidT h H).get? b = some o) : h.get? b = some o ∧ H b = none := by
  have e' : h.get? b = some o := PySem.W.of_hideAll (trk h H) e
  refine ⟨e', ?_⟩
  cases q : H b with
  | none => rfl
  | some x =>
    have hm : b ∈ trk h H := List.mem_filter.mpr ⟨List.mem_range.mpr (Heap.lt_size e'), by simp [q]⟩
    have z : (hidT h H).get? b = none := PySem.W.hideAll_none (trk h H) hm
    rw [z] at e; cases e
def allNews (g h : Heap) (L : Addr) : List (Addr × Obj) := (List.range h.objs.size).filterMap fun a => if a = L ∨ (g.get? a).isSome = true then none else (h.get? a).map fun o => (a, o)
def rest (g h : Heap) (L d : Addr) : List (Addr × Obj) := (allNews g h L).filter fun p => decide (p.1 ≠ d)
end L2
namespace L2
open PySem PySem.Spec PyProof.Rows
structure Mod (K : PySem.W.Frag) (mg : Str → Option Value) (base : Heap) : Prop where
  kin : K.In base
  glob : base.Ns mainGlobals mg
  blt : ∃ mb, base.Ns builtinsNs mb ∧ ∀ x : Str, x ≠ "__name__" → mb x = bootBuiltins x
  nolimit : base.NoLimit
structure Cx where
  prog : Program
  w : World
  K : PySem.W.Frag
  mg : Str → Option Value
  base : Heap
  A : Around
  N : List Str
  s₀ : Shared
  H₀ : Hp
  env : Env
  outer : List Env
  stack : List Env
  ex : List Addr
  fn : Str → Bool
  calm : Bool
  pn : List (Addr × Obj)
  xe : Value → Shared → Prop
def frs (l : List Env) : List Addr := l.filterMap (·.frame)
abbrev Cx.fs (X : Cx) : List Addr := frs X.outer
def Vis (sc : Scope) (x : Str) : Prop := sc.names.lookup x = some .local ∨ sc.names.lookup x = some .cell ∨ sc.names.lookup x = some .free
def Loc (sc : Scope) (x : Str) : Prop := sc.names.lookup x = some .local ∨ sc.names.lookup x = some .cell
def Look (env : Env) (h : Heap) (m : Str → Option Value) (x : Str) (u : Value) : Prop :=
  (env.kindOf x = some .local ∧ m x = some u) ∨ ((env.kindOf x = some .cell ∨ env.kindOf x = some .free) ∧ ∃ c, env.cells.lookup x = some c ∧ h.IsCell c (some u))
structure Cx.Ok (X : Cx) : Prop where
  mod : Mod X.K X.mg X.base
  kind : X.env.scope.kind = .function
  glob : X.env.globals = mainGlobals
  blt : X.env.builtins = builtinsNs
  above : X.s₀.heap.objs.size ≤ X.env.locals
  inj : ∀ x y c, X.env.cells.lookup x = some c → X.env.cells.lookup y = some c → x = y
  has : ∀ x, (X.env.kindOf x = some .cell ∨ X.env.kindOf x = some .free) → ∃ c, X.env.cells.lookup x = some c
  cab : ∀ x c, X.fn x = true → X.env.cells.lookup x = some c → X.s₀.heap.objs.size ≤ c
  hd : X.calm = true → X.A.handled = none
  frames : X.A.frames = some X.stack
  stk : X.stack = X.outer ∨ (X.stack = X.env :: X.outer ∧ X.env.frame = some X.env.locals)
  exf : ∀ b ∈ X.ex, b ≠ X.env.locals ∧ ∀ x c, X.env.cells.lookup x = some c → c ≠ b
  bs : ∀ b o, X.base.get? b = some o → X.s₀.heap.get? b = some o ∧ X.H₀ b = none
  bsz : X.base.objs.size ≤ X.s₀.heap.objs.size
  noex : ∀ b o, X.base.get? b = some o → b ∉ X.ex
  exfs : ∀ b ∈ X.ex, b ∉ X.fs
  funs : X.s₀.heap.FunFrames X.base X.outer
  frf : ∀ b ∈ X.fs, X.H₀ b = none
structure Inv (X : Cx) (pins : List (Addr × Obj)) (σ : List (Option V)) (H : Hp) (s : Shared) : Prop where
  ok : X.Ok
  os : s.os = X.s₀.os
  bare : AllBare s.gens
  base : Un X.fs X.ex X.H₀ H X.s₀.heap s.heap
  loc : ∃ m, s.heap.Ns X.env.locals m ∧ ∀ (i : Nat) (x : Str) (v : V), X.N[i]? = some x → σ[i]? = some (some v) → Vis X.env.scope x → ∃ u, RelV v u ∧ Look X.env s.heap m x u
  cell : ∀ x c, X.env.cells.lookup x = some c → ∃ v, s.heap.IsCell c v
  free : H X.env.locals = none
  freeC : ∀ x c, X.env.cells.lookup x = some c → H c = none
  pin : ∀ p ∈ X.pn ++ pins, s.heap.get? p.1 = some p.2 ∧ H p.1 = none ∧ p.1 ≠ X.env.locals ∧ p.1 ∉ X.fs ∧ ∀ v, p.2.data ≠ .cell v
  hok : HOk X.prog X.w H s.heap
  len : σ.length = X.N.length
section
variable {X : Cx} {pins : List (Addr × Obj)} {σ : List (Option V)} {H H' : Hp} {s : Shared} {h' : Heap}
theorem Cx.Ok.nofr (ok : X.Ok) {b : Addr} {o : Obj} (e : X.base.get? b = some o) : b ∉ X.fs := fun hb => by
  have := (ok.funs.mem hb).1
  rw [e] at this; cases this
theorem Inv.bs (I : Inv X pins σ H s) : ∀ b o, X.base.get? b = some o → s.heap.get? b = some o ∧ H b = none := fun b o e =>
  ⟨I.base.keep b o (I.ok.bs b o e).1 (I.ok.bs b o e).2 (I.ok.nofr e) (I.ok.noex b o e), I.base.free b o (I.ok.bs b o e).1 (I.ok.bs b o e).2 (I.ok.noex b o e)⟩
theorem Inv.bk (I : Inv X pins σ H s) : ∀ b o, X.base.get? b = some o → s.heap.get? b = some o := fun b o e => (I.bs b o e).1
theorem Inv.mod (I : Inv X pins σ H s) : Mod X.K X.mg X.base := I.ok.mod
theorem Inv.kIn (I : Inv X pins σ H s) : X.K.In s.heap := I.ok.mod.kin.keeps I.bk
theorem Inv.lt (I : Inv X pins σ H s) : X.env.locals < s.heap.objs.size := let ⟨_, hn, _⟩ := I.loc; hn.lt
theorem Inv.sz (I : Inv X pins σ H s) : X.s₀.heap.objs.size ≤ s.heap.objs.size := Nat.le_trans I.ok.above (Nat.le_of_lt I.lt)
theorem Inv.nofs (I : Inv X pins σ H s) {a : Addr} (h : s.heap.objs.size ≤ a) : a ∉ X.fs := fun hb => by
  obtain ⟨_, o, ho, _⟩ := I.ok.funs.mem hb
  exact absurd (Nat.lt_of_lt_of_le (Heap.lt_size ho) (Nat.le_trans I.sz h)) (Nat.lt_irrefl _)
theorem Inv.cne (I : Inv X pins σ H s) : ∀ x c, X.env.cells.lookup x = some c → c ≠ X.env.locals := fun x c e z => by
  obtain ⟨v, o, ho, hd⟩ := I.cell x c e
  obtain ⟨m, ⟨o', es, ep, ho', hd', _⟩, _⟩ := I.loc
  rw [z, ho'] at ho; cases ho; rw [hd'] at hd; cases hd
theorem Inv.funs (I : Inv X pins σ H s) : s.heap.FunFrames X.base X.outer := by
  have all : ∀ (l : List Env), (∀ b ∈ frs l, b ∈ X.fs) → X.s₀.heap.FunFrames X.base l → s.heap.FunFrames X.base l := by
    intro l
    induction l with
    | nil => intro _ _; trivial
    | cons env r ih =>
      intro hs hl
      obtain ⟨hk, ⟨L, o, hf, hn, ho, hd⟩, hr⟩ := hl
      have hL : L ∈ X.fs := hs L (by unfold frs; rw [List.filterMap_cons, hf]; exact List.mem_cons_self)
      obtain ⟨sl, e⟩ := I.base.slot L o ho (I.ok.frf L hL) hL fun z => I.ok.exfs L z hL
      exact ⟨hk, ⟨L, _, hf, hn, e, hd⟩, ih (fun b hb => hs b (by unfold frs; rw [List.filterMap_cons, hf]; exact List.mem_cons_of_mem _ hb)) hr⟩
  exact all X.outer (fun _ hb => hb) I.ok.funs
theorem Inv.stack (I : Inv X pins σ H s) : s.heap.FunFrames X.base X.stack := by
  rcases I.ok.stk with e | ⟨e, hf⟩
  · rw [e]; exact I.funs
  · rw [e]
    obtain ⟨m, hn, _⟩ := I.loc
    refine .cons (by rw [I.ok.kind]; decide) hf hn ?_ I.funs
    exact Heap.get?_none_of_le (Nat.le_trans I.ok.bsz I.ok.above)
theorem Inv.stkSub (I : Inv X pins σ H s) : ∀ b ∈ frs X.stack, b ∈ X.env.locals :: X.fs := fun b hb => by
  rcases I.ok.stk with e | ⟨e, hf⟩
  · rw [e] at hb; exact List.mem_cons_of_mem _ hb
  · rw [e] at hb
    unfold frs at hb
    rw [List.filterMap_cons, hf] at hb
    exact hb
theorem Inv.stkFree (I : Inv X pins σ H s) : ∀ b ∈ frs X.stack, H b = none := fun b hb => by
  rcases List.mem_cons.mp (I.stkSub b hb) with e | hb
  · rw [e]; exact I.free
  · obtain ⟨_, o, ho, _⟩ := I.ok.funs.mem hb
    exact I.base.free b o ho (I.ok.frf b hb) fun z => I.ok.exfs b z hb
theorem Inv.step {g' : Array GenState} {t' : Nat} {d' : Drawn} {ch : List Addr} (I : Inv X pins σ H s)
    (hch : ∀ b ∈ ch, (b ∈ X.ex ∨ X.s₀.heap.objs.size ≤ b) ∧ b ≠ X.env.locals ∧ (∀ x c, X.env.cells.lookup x = some c → c ≠ b) ∧ ∀ p ∈ X.pn ++ pins, p.1 ≠ b)
    (keep : ∀ b o, b ≠ X.env.locals → b ∉ X.fs → b ∉ ch → s.heap.get? b = some o → H b = none → h'.get? b = some o)
    (slot : ∀ b o, b ≠ X.env.locals → b ∈ X.fs → b ∉ ch → s.heap.get? b = some o → H b = none → ∃ sl, h'.get? b = some { o with slots := sl }) (free : ∀ b o, b ∉ ch → s.heap.get? b = some o → H b = none → H' b = none)
    (there : ∀ b o, b ∉ ch → s.heap.get? b = some o → ∃ o', h'.get? b = some o')
    (tups : ∀ b xs, H b = some (.tup xs) → H' b = some (.tup xs)) (frzs : ∀ b o u, H b = some (.frz o u) → H' b = some (.frz o u)) (tbls : ∀ b qs ps, H b = some (.tbl qs ps) → H' b = some (.tbl qs ps))
    (ns : ∀ m, s.heap.Ns X.env.locals m → h'.Ns X.env.locals m) (hok : HOk X.prog X.w H' h') (hg : AllBare g') :
    Inv X pins σ H' { s with heap := h', gens := g', drawn := d', toks := t' } := by
  have neL : ∀ b o, X.s₀.heap.get? b = some o → b ≠ X.env.locals := fun b o e => Nat.ne_of_lt (Nat.lt_of_lt_of_le (Heap.lt_size e) I.ok.above)
  have neC : ∀ b o, X.s₀.heap.get? b = some o → b ∉ X.ex → b ∉ ch := fun b o e hx hb => by
    rcases (hch b hb).1 with z | z
    · exact hx z
    · exact absurd (Nat.lt_of_lt_of_le (Heap.lt_size e) z) (Nat.lt_irrefl _)
  have cellK : ∀ x c, X.env.cells.lookup x = some c → ∀ v, s.heap.IsCell c v → h'.IsCell c v := fun x c e v ⟨o, ho, hd⟩ => by
    have nch : c ∉ ch := fun z => (hch c z).2.2.1 x c e rfl
    by_cases hc : c ∈ X.fs
    · obtain ⟨sl, q⟩ := slot c o (I.cne x c e) hc nch ho (I.freeC x c e)
      exact ⟨_, q, hd⟩
    · exact ⟨o, keep c o (I.cne x c e) hc nch ho (I.freeC x c e), hd⟩
  refine ⟨I.ok, I.os, hg, ⟨fun b o e n hb hx => ?_, fun b o e n hb hx => ?_, fun b o e n hx => ?_, fun b o e hx => ?_, fun b xs e => tups b xs (I.base.tups b xs e), fun b o xs e => frzs b o xs (I.base.frzs b o xs e), fun b qs ps e => tbls b qs ps (I.base.tbls b qs ps e)⟩, ?_, fun x c e => ?_, ?_, fun x c e => ?_, fun p hp => ?_, hok, I.len⟩
  · exact keep b o (neL b o e) hb (neC b o e hx) (I.base.keep b o e n hb hx) (I.base.free b o e n hx)
  · obtain ⟨sl, e1⟩ := I.base.slot b o e n hb hx
    obtain ⟨sl', e2⟩ := slot b _ (neL b o e) hb (neC b o e hx) e1 (I.base.free b o e n hx)
    exact ⟨sl', e2⟩
  · obtain ⟨o', e1⟩ := I.base.there b o e hx
    exact free b o' (neC b o e hx) e1 (I.base.free b o e n hx)
  · obtain ⟨o', e1⟩ := I.base.there b o e hx
    exact there b o' (neC b o e hx) e1
  · obtain ⟨m, hn, hl⟩ := I.loc
    refine ⟨m, ns m hn, fun i x v e1 e2 e3 => ?_⟩
    obtain ⟨u, r, l⟩ := hl i x v e1 e2 e3
    refine ⟨u, r, ?_⟩
    rcases l with l | ⟨k, c, e, z⟩
    · exact .inl l
    · exact .inr ⟨k, c, e, cellK x c e _ z⟩
  · obtain ⟨v, z⟩ := I.cell x c e
    exact ⟨v, cellK x c e v z⟩
  · obtain ⟨m, ⟨o, _, _, ho, _⟩, _⟩ := I.loc
    exact free _ o (fun z => (hch _ z).2.1 rfl) ho I.free
  · obtain ⟨v, o, ho, hd⟩ := I.cell x c e
    exact free c o (fun z => (hch c z).2.2.1 x c e rfl) ho (I.freeC x c e)
  · obtain ⟨e, n, ne, nf, d⟩ := I.pin p hp
    have nch : p.1 ∉ ch := fun z => (hch p.1 z).2.2.2 p hp rfl
    exact ⟨keep p.1 p.2 ne nf nch e n, free p.1 p.2 nch e n, ne, nf, d⟩
theorem Inv.un {t' : Nat} (I : Inv X pins σ H s) (u : Un X.fs [] H H' s.heap h') (hok : HOk X.prog X.w H' h') : Inv X pins σ H' { s with heap := h', toks := t' } := by
  obtain ⟨m, ⟨o, es, ep, ho, r⟩, _⟩ := id I.loc
  obtain ⟨sl, hL⟩ := u.any ho I.free (by simp)
  exact I.step (g' := s.gens) (d' := s.drawn) (ch := []) (fun _ z => nomatch z) (fun b o _ hb _ e n => u.keep b o e n hb (by simp)) (fun b o _ hb _ e n => u.slot b o e n hb (by simp)) (fun b o _ e n => u.free b o e n (by simp)) (fun b o _ e => u.there b o e (by simp)) u.tups u.frzs u.tbls (fun m' hm => by
    obtain ⟨o', es', ep', ho', r'⟩ := hm
    rw [ho] at ho'; cases ho'
    exact ⟨_, es', ep', hL, r'⟩) hok I.bare
theorem Inv.call {g' : Array GenState} {t' : Nat} {d' : Drawn} {ch : List Addr} (I : Inv X pins σ H s) (u : Un (frs X.stack) ch H H' s.heap h') (hok : HOk X.prog X.w H' h') (hg : AllBare g')
    (hch : ∀ b ∈ ch, (b ∈ X.ex ∨ X.s₀.heap.objs.size ≤ b) ∧ b ≠ X.env.locals ∧ (∀ x c, X.env.cells.lookup x = some c → c ≠ b) ∧ ∀ p ∈ X.pn ++ pins, p.1 ≠ b) :
    Inv X pins σ H' { s with heap := h', gens := g', drawn := d', toks := t' } := by
  obtain ⟨m, ⟨o, es, ep, ho, r⟩, _⟩ := id I.loc
  obtain ⟨sl, hL⟩ := u.any ho I.free fun z => (hch _ z).2.1 rfl
  exact I.step (ch := ch) hch (fun b o hL hb hc e n => u.keep b o e n (fun z => (List.mem_cons.mp (I.stkSub b z)).elim hL hb) hc) (fun b o _ _ hc e n => u.any e n hc) (fun b o hc e n => u.free b o e n hc) (fun b o hc e => u.there b o e hc) u.tups u.frzs u.tbls (fun m' hm => by
    obtain ⟨o', es', ep', ho', r'⟩ := hm
    rw [ho] at ho'; cases ho'
    exact ⟨_, es', ep', hL, r'⟩) hok hg
theorem Inv.turned {t' : Nat} {it : Addr} (I : Inv X pins σ H s) (k : ∀ b o, b ≠ it → s.heap.get? b = some o → h'.get? b = some o) (hn : H it = none) (hL : it ≠ X.env.locals)
    (h1 : it ∈ X.ex ∨ X.s₀.heap.objs.size ≤ it) (h2 : ∀ x c, X.env.cells.lookup x = some c → c ≠ it) (h3 : ∀ p ∈ X.pn ++ pins, p.1 ≠ it) : Inv X pins σ H { s with heap := h', toks := t' } := by
  have nit : ∀ b u, H b = some u → b ≠ it := fun b u e z => by rw [z, hn] at e; cases e
  refine I.step (g' := s.gens) (d' := s.drawn) (ch := [it]) (fun b hb => ?_) (fun b o _ _ hc e _ => k b o (fun z => hc (by simp [z])) e) (fun b o _ _ hc e _ => ⟨o.slots, k b o (fun z => hc (by simp [z])) e⟩) (fun _ _ _ _ n => n)
    (fun b o hc e => ⟨o, k b o (fun z => hc (by simp [z])) e⟩) (fun _ _ e => e) (fun _ _ _ e => e) (fun _ _ _ e => e) (fun m hm => ?_) (fun b u e => ?_) I.bare
  · have e : b = it := by simpa using hb
    subst e
    exact ⟨h1, hL, h2, h3⟩
  · obtain ⟨o, es, ep, ho, r⟩ := hm
    exact ⟨o, es, ep, k _ o (Ne.symm hL) ho, r⟩
  · refine (I.hok b u e).stay (fun c v hc q => k c v ?_ q) (fun _ q => q) (fun _ _ _ _ _ q => q) fun _ _ q => q
    rcases hc with z | z
    · rw [z]; exact nit b u e
    · exact nit c _ z
theorem Inv.tok (I : Inv X pins σ H s) (t : Nat) : Inv X pins σ H { s with toks := t } := I.un (h' := s.heap) (t' := t) Un.refl I.hok
theorem Inv.kept {t' : Nat} (I : Inv X pins σ H s) (k : ∀ b u, s.heap.get? b = some u → h'.get? b = some u) : Inv X pins σ H { s with heap := h', toks := t' } := I.un (Un.kept k) (I.hok.kept k)
theorem Inv.laid {a : Addr} {o : HO} {t' : Nat} (I : Inv X pins σ H s) (k : ∀ b u, s.heap.get? b = some u → h'.get? b = some u) (hp : s.heap.objs.size ≤ a) (new : ObjOk X.prog X.w (upd H a o) h' a o) :
    Inv X pins σ (upd H a o) { s with heap := h', toks := t' } := I.un (Un.laid k hp (I.hok.fresh hp)) (I.hok.laid k hp new)
theorem Inv.write {x e : Addr} {o : HO} {t' : Nat} (I : Inv X pins σ H s) (mu : Mut (H x)) (he : e = x ∨ H e = some (.own x)) (k : ∀ b u, b ≠ e → s.heap.get? b = some u → h'.get? b = some u) (heo : ∃ u, h'.get? e = some u)
    (new : ObjOk X.prog X.w (upd H x o) h' x o) : Inv X pins σ (upd H x o) { s with heap := h', toks := t' } := I.un (Un.write mu he k heo) (I.hok.write mu he k heo new)
theorem Inv.pins_of {pins' : List (Addr × Obj)} (I : Inv X pins σ H s) (h : ∀ p ∈ pins', s.heap.get? p.1 = some p.2 ∧ H p.1 = none ∧ p.1 ≠ X.env.locals ∧ p.1 ∉ X.fs ∧ ∀ v, p.2.data ≠ .cell v) : Inv X pins' σ H s :=
  ⟨I.ok, I.os, I.bare, I.base, I.loc, I.cell, I.free, I.freeC, fun p hp => (List.mem_append.mp hp).elim (fun z => I.pin p (List.mem_append_left _ z)) (h p), I.hok, I.len⟩
theorem nodup_ix {N : List Str} (hN : N.Nodup) {i j : Nat} {x : Str} (a : N[i]? = some x) (b : N[j]? = some x) : i = j := by
  obtain ⟨h1, e1⟩ := List.getElem?_eq_some_iff.mp a
  obtain ⟨h2, e2⟩ := List.getElem?_eq_some_iff.mp b
  exact (List.getElem_inj hN).mp (e1.trans e2.symm)
theorem store_ok2 {M : Model} {A : Around} {E : Value → Shared → Prop} {i : Nat} {x : Str} {v : V} {u : Value} {Q : Unit → Shared → Prop} (I : Inv X pins σ H s) (hN : X.N.Nodup) (hi : X.N[i]? = some x) (hx : Loc X.env.scope x) (r : RelV v u)
    (h : ∀ s', Inv X pins (σ.set i (some v)) H s' → (∃ a, Heap.SameBut a s.heap s'.heap ∧ (a = X.env.locals ∨ X.env.cells.lookup x = some a)) → Q () s') (hf : X.fn x = true ∨ X.env.scope.names.lookup x = some .local := by first | exact .inl rfl | exact .inr rfl | assumption) : wpAny M A (storeName X.env x u) Q E s := by
  obtain ⟨m, hn, hl⟩ := id I.loc
  have hcls : (X.env.scope.kind == .class || (X.env.scope.kind == .module && X.env.locals != X.env.globals)) = false := by rw [I.ok.kind]; rfl
  have hiσ : i < σ.length := by rw [I.len]; exact (List.getElem?_eq_some_iff.mp hi).1
  have cne := I.cne
  have tracked : ∀ {a : Addr} {h' : Heap}, (∃ o, s.heap.get? a = some o ∧ H a = none) → Heap.SameBut a s.heap h' → HOk X.prog X.w H h' := fun {a h'} ha hs b ob e => by
    obtain ⟨_, _, hfree⟩ := ha
    refine (I.hok b ob e).stay (fun c w' hc q => (hs.2 c ?_).trans q) (fun _ q => q) (fun _ _ _ _ _ q => q) fun _ _ q => q
    rintro rfl
    rcases hc with rfl | hc
    · rw [hfree] at e; cases e
    · rw [hfree] at hc; cases hc
  rcases hx with hk | hk
  · refine wpAny_storeName_local hk hn (fun h' hn' hs => ?_) hcls
    obtain ⟨oL, _, _, hoL, _⟩ := id hn
    refine h _ ⟨I.ok, I.os, I.bare, ⟨fun b o e n hb hx => ?_, fun b o e n hb hx => ?_, I.base.free, fun b o e hx => ?_, I.base.tups, I.base.frzs, I.base.tbls⟩, ⟨_, hn', fun j y v' e1 e2 e3 => ?_⟩, fun y c e => ?_, I.free, I.freeC, fun p hp => ?_, tracked ⟨oL, hoL, I.free⟩ hs, by simpa using I.len⟩ ⟨_, hs, .inl rfl⟩
    · exact (hs.2 b (Nat.ne_of_lt (Nat.lt_of_lt_of_le (Heap.lt_size e) I.ok.above))).trans (I.base.keep b o e n hb hx)
    · obtain ⟨sl, e1⟩ := I.base.slot b o e n hb hx
      exact ⟨sl, (hs.2 b (Nat.ne_of_lt (Nat.lt_of_lt_of_le (Heap.lt_size e) I.ok.above))).trans e1⟩
    · obtain ⟨o', e1⟩ := I.base.there b o e hx
      exact ⟨o', (hs.2 b (Nat.ne_of_lt (Nat.lt_of_lt_of_le (Heap.lt_size e) I.ok.above))).trans e1⟩
    · by_cases hj : j = i
      · subst hj
        rw [hi] at e1; cases e1
        rw [List.getElem?_set_self hiσ] at e2
        cases e2
        exact ⟨u, r, .inl ⟨hk, by simp⟩⟩
      · rw [List.getElem?_set_ne (Ne.symm hj)] at e2
        obtain ⟨u', r', q⟩ := hl j y v' e1 e2 e3
        refine ⟨u', r', ?_⟩
        rcases q with ⟨k, e⟩ | ⟨k, c, e, z⟩
        · refine .inl ⟨k, ?_⟩
          have : y ≠ x := fun e => hj (nodup_ix hN e1 (e ▸ hi))
          simp [this, e]
        · exact .inr ⟨k, c, e, z.sameBut hs (cne y c e)⟩
    · obtain ⟨w', z⟩ := I.cell y c e
      exact ⟨w', z.sameBut hs (cne y c e)⟩
    · obtain ⟨e, n, ne, nf, d⟩ := I.pin p hp
      exact ⟨(hs.2 p.1 ne).trans e, n, ne, nf, d⟩
  · have hfn : X.fn x = true := by
      rcases hf with z | z
      · exact z
      · rw [z] at hk; cases hk
    obtain ⟨c, hc⟩ := I.ok.has x (.inl hk)
    obtain ⟨w', z⟩ := I.cell x c hc
    refine wpAny_storeName_cell I.ok.kind hk hc z (fun h' hc' hs => ?_)
    obtain ⟨oc, hoc, hocd⟩ := id z
    refine h { s with heap := h' } ⟨I.ok, I.os, I.bare, ⟨fun b o e n hb hx => ?_, fun b o e n hb hx => ?_, I.base.free, fun b o e hx => ?_, I.base.tups, I.base.frzs, I.base.tbls⟩, ⟨m, hn.sameBut hs (Ne.symm (cne x c hc)), fun j y v' e1 e2 e3 => ?_⟩, fun y c' e => ?_, I.free, I.freeC, fun p hp => ?_, tracked ⟨oc, hoc, I.freeC x c hc⟩ hs, by simpa using I.len⟩ ⟨c, hs, .inr hc⟩
    · exact (hs.2 b (Nat.ne_of_lt (Nat.lt_of_lt_of_le (Heap.lt_size e) (I.ok.cab x c hfn hc)))).trans (I.base.keep b o e n hb hx)
    · obtain ⟨sl, e1⟩ := I.base.slot b o e n hb hx
      exact ⟨sl, (hs.2 b (Nat.ne_of_lt (Nat.lt_of_lt_of_le (Heap.lt_size e) (I.ok.cab x c hfn hc)))).trans e1⟩
    · obtain ⟨o', e1⟩ := I.base.there b o e hx
      exact ⟨o', (hs.2 b (Nat.ne_of_lt (Nat.lt_of_lt_of_le (Heap.lt_size e) (I.ok.cab x c hfn hc)))).trans e1⟩
    · by_cases hj : j = i
      · subst hj
        rw [hi] at e1; cases e1
        rw [List.getElem?_set_self hiσ] at e2
        cases e2
        exact ⟨u, r, .inr ⟨.inl hk, c, hc, hc'⟩⟩
      · rw [List.getElem?_set_ne (Ne.symm hj)] at e2
        obtain ⟨u', r', q⟩ := hl j y v' e1 e2 e3
        refine ⟨u', r', ?_⟩
        rcases q with q | ⟨k, c', e, z'⟩
        · exact .inl q
        · refine .inr ⟨k, c', e, z'.sameBut hs ?_⟩
          rintro rfl
          exact hj (nodup_ix hN e1 (I.ok.inj _ _ _ e hc ▸ hi))
    · by_cases hcc : c' = c
      · subst hcc; exact ⟨_, hc'⟩
      · obtain ⟨w2, z2⟩ := I.cell y c' e
        exact ⟨w2, z2.sameBut hs hcc⟩
    · obtain ⟨e, n, ne, nf, d⟩ := I.pin p hp
      refine ⟨(hs.2 p.1 ?_).trans e, n, ne, nf, d⟩
      intro q
      rw [q, hoc] at e
      have q' : oc = p.2 := Option.some.inj e
      exact d w' (by rw [← q']; exact hocd)
theorem store_ok {M : Model} {A : Around} {E : Value → Shared → Prop} {i : Nat} {x : Str} {v : V} {u : Value} {Q : Unit → Shared → Prop} (I : Inv X pins σ H s) (hN : X.N.Nodup) (hi : X.N[i]? = some x) (hx : Loc X.env.scope x) (r : RelV v u)
    (h : ∀ s', Inv X pins (σ.set i (some v)) H s' → Q () s') (hf : X.fn x = true ∨ X.env.scope.names.lookup x = some .local := by first | exact .inl rfl | exact .inr rfl | assumption) : wpAny M A (storeName X.env x u) Q E s :=
  store_ok2 I hN hi hx r (fun s' I' _ => h s' I') hf
theorem Inv.call' {s' : Shared} {ch : List Addr} (I : Inv X pins σ H s) (ho : s'.os = s.os) (u : Un (frs X.stack) ch H H' s.heap s'.heap) (hok : HOk X.prog X.w H' s'.heap) (hg : AllBare s'.gens)
    (hch : ∀ b ∈ ch, (b ∈ X.ex ∨ X.s₀.heap.objs.size ≤ b) ∧ b ≠ X.env.locals ∧ (∀ x c, X.env.cells.lookup x = some c → c ≠ b) ∧ ∀ p ∈ X.pn ++ pins, p.1 ≠ b) : Inv X pins σ H' s' := by
  obtain ⟨h', g', d', t', o'⟩ := s'
  have e : o' = s.os := ho
  subst e
  exact I.call (g' := g') (t' := t') (d' := d') u hok hg hch
end
abbrev XK := Value → Option Addr → Hp → Prop
abbrev St := List (Option V)
abbrev VK := V → Hp → Prop
abbrev TE := St → Hp → VK → Prop
abbrev TT := St → Hp → (Bool → Hp → Prop) → Prop
abbrev TA := St → Hp → (List V → Hp → Prop) → Prop
structure Ends where
  nx : St → Hp → Prop
  rt : VK
  bk : St → Hp → Prop := fun _ _ => False
  ct : St → Hp → Prop := fun _ _ => False
abbrev TS := Ends → St → Hp → Prop
def EP (X : Cx) (pins : List (Addr × Obj)) (σ : St) (Q : VK) (u : Value) (s' : Shared) : Prop := ∃ v H', Inv X pins σ H' s' ∧ RelV v u ∧ Q v H'
def TP (X : Cx) (pins : List (Addr × Obj)) (σ : St) (Q : Bool → Hp → Prop) (b : Bool) (s' : Shared) : Prop := ∃ H', Inv X pins σ H' s' ∧ Q b H'
def AP (X : Cx) (pins : List (Addr × Obj)) (σ : St) (Q : List V → Hp → Prop) (us : List Value) (s' : Shared) : Prop := ∃ vs H', Inv X pins σ H' s' ∧ Vals vs us ∧ Q vs H'
def SP (X : Cx) (pins : List (Addr × Obj)) (D : Ends) (f : Flow) (s' : Shared) : Prop :=
  match f with
  | .next => ∃ σ' H', Inv X pins σ' H' s' ∧ D.nx σ' H'
  | .brk => ∃ σ' H', Inv X pins σ' H' s' ∧ D.bk σ' H'
  | .cont => ∃ σ' H', Inv X pins σ' H' s' ∧ D.ct σ' H'
  | .ret u => ∃ v σ' H', Inv X pins σ' H' s' ∧ RelV v u ∧ D.rt v H'
def PE (X : Cx) (e : Expr) (t : TE) : Prop :=
  ∀ (pins : List (Addr × Obj)) (s : Shared) (σ : St) (H : Hp) (Q : VK), Inv X pins σ H s → t σ H Q → wpAny (model X.prog X.w) X.A (eval e X.env) (EP X pins σ Q) X.xe s
def PT (X : Cx) (e : Expr) (t : TT) : Prop :=
  ∀ (pins : List (Addr × Obj)) (s : Shared) (σ : St) (H : Hp) (Q : Bool → Hp → Prop), Inv X pins σ H s → t σ H Q → wpAny (model X.prog X.w) X.A (isTrue e X.env (eval e X.env)) (TP X pins σ Q) X.xe s
def PW (X : Cx) (e : Expr) (t : TT) : Prop :=
  ∀ (whole : Sem Value) (pins : List (Addr × Obj)) (s : Shared) (σ : St) (H : Hp) (Q : Bool → Hp → Prop), Inv X pins σ H s → t σ H Q → wpAny (model X.prog X.w) X.A (isTrue e X.env whole) (TP X pins σ Q) X.xe s
theorem PW.pt {X : Cx} {e : Expr} {t : TT} (h : PW X e t) : PT X e t := h _
def PA (X : Cx) (es : List Expr) (t : TA) : Prop :=
  ∀ (pos : Pos) (pins : List (Addr × Obj)) (s : Shared) (σ : St) (H : Hp) (Q : List V → Hp → Prop), Inv X pins σ H s → t σ H Q → wpAny (model X.prog X.w) X.A (spliced (backTo pos (starEach es X.env))) (AP X pins σ Q) X.xe s
def PS (X : Cx) (st : Stmt) (t : TS) : Prop :=
  ∀ (pins : List (Addr × Obj)) (s : Shared) (σ : St) (H : Hp) (D : Ends), Inv X pins σ H s → t D σ H → wpAny (model X.prog X.w) X.A (exec st X.env) (SP X pins D) X.xe s
def PSs (X : Cx) (st : List Stmt) (t : TS) : Prop :=
  ∀ (pins : List (Addr × Obj)) (s : Shared) (σ : St) (H : Hp) (D : Ends), Inv X pins σ H s → t D σ H → wpAny (model X.prog X.w) X.A (execs st X.env) (SP X pins D) X.xe s
theorem thn {α : Type} {t : Sem α} {Q Q' : α → Shared → Prop} {M : Model} {A : Around} {E : Value → Shared → Prop} {s : Shared} (h : wpAny M A t Q E s) (hQ : ∀ a s, Q a s → Q' a s) : wpAny M A t Q' E s := wpAny_mono h hQ fun _ _ x => x
end L2
namespace L2
open PySem PySem.Spec PyProof.Rows
section
variable {X : Cx}
theorem bin {a b : Expr} {ta tb : TE} (ha : PE X a ta) (hb : PE X b tb) {pins : List (Addr × Obj)} {s : Shared} {σ : St} {H : Hp} {R : V → V → Hp → Prop} (I : Inv X pins σ H s) (h : ta σ H fun x H1 => tb σ H1 fun y H2 => R x y H2)
    {α : Type} {Q : α → Shared → Prop} {f : Value → Value → Sem α}
    (hf : ∀ v u s2 x y H2, Inv X pins σ H2 s2 → RelV x v → RelV y u → R x y H2 → wpAny (model X.prog X.w) X.A (f v u) Q X.xe s2) :
    wpAny (model X.prog X.w) X.A (eval a X.env) (fun v s₁ => wpAny (model X.prog X.w) X.A (eval b X.env) (fun u s₂ => wpAny (model X.prog X.w) X.A (f v u) Q X.xe s₂) X.xe s₁) X.xe s := by
  refine thn (ha pins s σ H _ I h) fun v s1 ⟨x, H1, I1, r1, q1⟩ => ?_
  refine thn (hb pins s1 σ H1 _ I1 q1) fun u s2 ⟨y, H2, I2, r2, q2⟩ => ?_
  exact hf v u s2 x y H2 I2 r1 r2 q2
def tVar (i : Nat) : TE := fun σ H Q => ∃ v, σ[i]? = some (some v) ∧ Q v H
def tC (v : V) : TE := fun _ H Q => Q v H
theorem pe_var {i : Nat} {x : Str} {pos : Pos} (hN : X.N[i]? = some x) (hv : Vis X.env.scope x) (hd : (x == ("__debug__" : Str)) = false := by decide) (hcd : (x == ("__classdict__" : Str)) = false := by decide) : PE X (.Name x pos) (tVar i) := by
  intro pins s σ H Q I h
  obtain ⟨v, e, h⟩ := h
  obtain ⟨m, hn, hl⟩ := I.loc
  obtain ⟨u, r, l⟩ := hl i x v hN e hv
  have fin : EP X pins σ Q u s := ⟨v, H, I, r, h⟩
  rcases l with ⟨hk, hm⟩ | ⟨hk, c, hc, hcell⟩
  · exact wpAny_Name (wpAny_loadName_local I.ok.kind hk hn hm fin) hd
  · rcases hk with hk | hk
    · exact wpAny_Name (wpAny_loadName_cell I.ok.kind hk hc hcell fin) hd
    · exact wpAny_Name (wpAny_loadName_free I.ok.kind hk hc hcell fin hcd) hd
theorem pe_int {i j pos} : PE X (.Constant (.int i) j pos) (tC (.int i)) := fun _ _ _ H _ I h => wpAny_Constant_int ⟨.int i, H, I.tok _, ⟨_, rfl⟩, h⟩
theorem pe_bl {b j pos} : PE X (.Constant (.bool b) j pos) (tC (.bl b)) := fun _ _ _ H _ I h => Constant_bool ⟨.bl b, H, I, rfl, h⟩
theorem pe_non {j pos} : PE X (.Constant .none j pos) (tC .non) := fun _ _ _ H _ I h => Constant_none ⟨.non, H, I, rfl, h⟩
theorem pe_str {x j pos} : PE X (.Constant (.str x) j pos) (tC (.str x)) := fun _ _ _ H _ I h => Calls.Constant_str ⟨.str x, H, I.tok _, ⟨_, rfl⟩, h⟩
def Gl (X : Cx) (x : Str) : Prop := X.env.kindOf x = some .globalImplicit
theorem ld_glob {E : Value → Shared → Prop} {pins : List (Addr × Obj)} {s : Shared} {σ : St} {H : Hp} {x : Str} {u : Value} {pos : Pos} {Q : Value → Shared → Prop} (I : Inv X pins σ H s) (hg : Gl X x) (hm : X.mg x = some u) (h : Q u s)
    (hd : (x == ("__debug__" : Str)) = false := by decide) : wpAny (model X.prog X.w) X.A (eval (.Name x pos) X.env) Q E s :=
  Calls.Name_function_global I.ok.kind hg (Calls.loadGlobal_global (by rw [I.ok.glob]; exact I.mod.glob.keeps I.bk) hm h) hd
theorem ld_blt {E : Value → Shared → Prop} {pins : List (Addr × Obj)} {s : Shared} {σ : St} {H : Hp} {x : Str} {u : Value} {pos : Pos} {Q : Value → Shared → Prop} (I : Inv X pins σ H s) (hg : Gl X x) (hm : X.mg x = none) (hv : bootBuiltins x = some u) (h : Q u s)
    (hn : x ≠ "__name__" := by decide) (hd : (x == ("__debug__" : Str)) = false := by decide) : wpAny (model X.prog X.w) X.A (eval (.Name x pos) X.env) Q E s := by
  obtain ⟨mb, h1, h2⟩ := I.mod.blt
  exact Calls.Name_function_global I.ok.kind hg (Calls.loadGlobal_builtin (by rw [I.ok.glob]; exact I.mod.glob.keeps I.bk) hm (by rw [I.ok.blt]; exact h1.keeps I.bk) ((h2 x hn).trans hv) h) hd
theorem pe_glob {x : Str} {v : V} {u : Value} {pos : Pos} (hg : Gl X x) (hm : X.mg x = some u) (r : RelV v u) (hd : (x == ("__debug__" : Str)) = false := by decide) : PE X (.Name x pos) (tC v) :=
  fun _ _ _ H _ I h => ld_glob I hg hm ⟨v, H, I, r, h⟩ hd
theorem pe_bltn {x : Str} {v : V} {u : Value} {pos : Pos} (hg : Gl X x) (hm : X.mg x = none) (hv : bootBuiltins x = some u) (r : RelV v u) (hn : x ≠ "__name__" := by decide) (hd : (x == ("__debug__" : Str)) = false := by decide) : PE X (.Name x pos) (tC v) :=
  fun _ _ _ H _ I h => ld_blt I hg hm hv ⟨v, H, I, r, h⟩ hn hd
variable {a b : Expr} {ta tb : TE} {pos : Pos}
def PC (X : Cx) (op : CmpOp) (a b : Expr) (t : TE) : Prop :=
  ∀ (pins : List (Addr × Obj)) (s : Shared) (σ : St) (H : Hp) (Q : VK), Inv X pins σ H s → t σ H Q →
    wpAny (model X.prog X.w) X.A (eval a X.env) (fun v s₁ => wpAny (model X.prog X.w) X.A (eval b X.env) (fun u s₂ => wpAny (model X.prog X.w) X.A (compareOp op v u) (EP X pins σ Q) X.xe s₂) X.xe s₁) X.xe s
def tB (t : TE) : TT := fun σ H Q => t σ H fun x H1 => ∃ c, x = .bl c ∧ Q c H1
theorem pt_cmp {op : CmpOp} {t : TE} (h : PC X op a b t) (h1 : behindInMarks op b = false := by first | exact nobehind _ (by decide) (by decide) | rfl) : PT X (.Compare a [op] [b] pos) (tB t) := by
  intro pins s σ H Q I hw
  refine wpAny_isTrue_Compare1 (thn (h pins s σ H _ I hw) fun v s1 h1 => thn h1 fun u s2 h2 => thn h2 fun c s3 ⟨x, H1, I1, r1, q1⟩ => ?_) h1
  obtain ⟨d, rfl, q⟩ := q1
  cases r1
  exact wpAny_truthy_bool ⟨H1, I1, q⟩
theorem pt_val {e : Expr} {t : TE} (h : PE X e t) (he : ∀ whole, isTrue e X.env whole = (do let v ← whole; standAt e.pos; holding [v] (truthy v)) := by intro _; rfl) : PT X e (tB t) := by
  intro pins s σ H Q I hw
  refine isTrue_plain (thn (h pins s σ H _ I hw) fun v s1 ⟨x, H1, I1, r1, q1⟩ => ?_) (he _)
  obtain ⟨d, rfl, q⟩ := q1
  cases r1
  exact wpAny_truthy_bool ⟨H1, I1, q⟩
variable {tA tB' : TT} {rest : List Expr}
def tAnd (t u : TT) : TT := fun σ H Q => t σ H fun c H1 => if c = true then u σ H1 Q else Q false H1
def tOr (t u : TT) : TT := fun σ H Q => t σ H fun c H1 => if c = true then Q true H1 else u σ H1 Q
def tNot (t : TT) : TT := fun σ H Q => t σ H fun c H1 => Q (!c) H1
theorem pw_and1 (ha : PT X a tA) : PW X (.BoolOp .And [a] pos) tA := by
  intro wh pins s σ H Q I h
  refine isTrue_and (thn (ha pins s σ H Q I h) fun c s1 e => ?_)
  cases c with
  | true => exact isTrue_and_nil e
  | false => exact e
theorem pw_or1 (ha : PT X a tA) : PW X (.BoolOp .Or [a] pos) tA := by
  intro wh pins s σ H Q I h
  refine isTrue_or (thn (ha pins s σ H Q I h) fun c s1 e => ?_)
  cases c with
  | false => exact isTrue_or_nil e
  | true => exact e
theorem pw_and (ha : PT X a tA) (hb : PW X (.BoolOp .And (b :: rest) pos) tB') : PW X (.BoolOp .And (a :: b :: rest) pos) (tAnd tA tB') := by
  intro wh pins s σ H Q I h
  refine isTrue_and (thn (ha pins s σ H _ I h) fun c s1 ⟨H1, I1, q1⟩ => ?_)
  cases c with
  | true => exact hb wh pins s1 σ H1 Q I1 q1
  | false => exact ⟨H1, I1, q1⟩
theorem pw_or (ha : PT X a tA) (hb : PW X (.BoolOp .Or (b :: rest) pos) tB') : PW X (.BoolOp .Or (a :: b :: rest) pos) (tOr tA tB') := by
  intro wh pins s σ H Q I h
  refine isTrue_or (thn (ha pins s σ H _ I h) fun c s1 ⟨H1, I1, q1⟩ => ?_)
  cases c with
  | true => exact ⟨H1, I1, q1⟩
  | false => exact hb wh pins s1 σ H1 Q I1 q1
theorem pt_not (ha : PT X a tA) : PT X (.UnaryOp .Not a pos) (tNot tA) := by
  intro pins s σ H Q I h
  exact isTrue_not (ha pins s σ H (fun c H1 => Q (!c) H1) I h)
def tAndV (ta tb : TE) : TE := fun σ H Q => ta σ H fun x H1 => ∃ c, x = .bl c ∧ if c = true then tb σ H1 Q else Q (.bl false) H1
def tOrV (ta tb : TE) : TE := fun σ H Q => ta σ H fun x H1 => ∃ c, x = .bl c ∧ if c = true then Q (.bl true) H1 else tb σ H1 Q
def tNotV (ta : TE) : TE := fun σ H Q => ta σ H fun x H1 => ∃ c, x = .bl c ∧ Q (.bl (!c)) H1
theorem pe_one {op} {t : TE} (h : PE X a t) : PE X (.BoolOp op [a] pos) t := fun pins s σ H Q I hw => BoolOp_one (h pins s σ H Q I hw)
theorem pe_and (ha : PE X a ta) (hb : PE X (.BoolOp .And (b :: rest) pos) tb) : PE X (.BoolOp .And (a :: b :: rest) pos) (tAndV ta tb) := by
  intro pins s σ H Q I h
  refine BoolOp_and (thn (ha pins s σ H _ I h) fun v s1 ⟨x, H1, I1, r1, q1⟩ => ?_)
  obtain ⟨c, rfl, q1⟩ := q1
  cases r1
  refine wpAny_truthy_bool ?_
  cases c with
  | true => exact hb pins s1 σ H1 Q I1 q1
  | false => exact ⟨.bl false, H1, I1, rfl, q1⟩
theorem pe_or (ha : PE X a ta) (hb : PE X (.BoolOp .Or (b :: rest) pos) tb) : PE X (.BoolOp .Or (a :: b :: rest) pos) (tOrV ta tb) := by
  intro pins s σ H Q I h
  refine BoolOp_or (thn (ha pins s σ H _ I h) fun v s1 ⟨x, H1, I1, r1, q1⟩ => ?_)
  obtain ⟨c, rfl, q1⟩ := q1
  cases r1
  refine wpAny_truthy_bool ?_
  cases c with
  | false => exact hb pins s1 σ H1 Q I1 q1
  | true => exact ⟨.bl true, H1, I1, rfl, q1⟩
def tIf (t : TT) (ta tb : TE) : TE := fun σ H Q => t σ H fun c H1 => if c = true then ta σ H1 Q else tb σ H1 Q
theorem pe_ifExp {c : Expr} (hc : PT X c tA) (ha : PE X a ta) (hb : PE X b tb) : PE X (.IfExp c a b pos) (tIf tA ta tb) := by
  intro pins s σ H Q I h
  refine wpAny_IfExp (thn (hc pins s σ H _ I h) fun d s1 ⟨H1, I1, q1⟩ => ?_)
  cases d with
  | true => exact ha pins s1 σ H1 Q I1 q1
  | false => exact hb pins s1 σ H1 Q I1 q1
end
end L2
namespace L2
open PySem PySem.Spec PyProof.Rows
def SqL (K : PySem.W.Frag) (H : Hp) (a : Addr) (xs : List V) : Prop :=
  Rd H a (.lst xs) ∨
    ∃ (o : Obj) (its : Array Value) (n : Nat), K.lookup a = some o ∧ o.cls = .type "list" ∧ o.dict = none ∧ o.data = .seq its n ∧ its.size ≤ sizeLine ∧ Vals xs its.toList
def SqT (K : PySem.W.Frag) (H : Hp) (a : Addr) (xs : List V) : Prop :=
  Rd H a (.tup xs) ∨
    ∃ (o : Obj) (its : Array Value) (n : Nat), K.lookup a = some o ∧ o.cls = .type "tuple" ∧ o.data = .seq its n ∧ its.size ≤ sizeLine ∧ Vals xs its.toList
def absV : Value → Option V
  | .none => some .non
  | .bool b => some (.bl b)
  | .int i _ => some (.int i)
  | .str x _ => some (.str x)
  | .bytes b _ => some (.byt b)
  | .float b _ => some (.flt b)
  | .ref a => some (.ref a)
  | .type n => some (.ty n)
  | _ => none
theorem RelV.abs {x : V} {u : Value} (r : RelV x u) : absV u = some x := by
  cases x with
  | non => cases r; rfl
  | bl _ => cases r; rfl
  | int _ => obtain ⟨t, rfl⟩ := r; rfl
  | str _ => obtain ⟨t, rfl⟩ := r; rfl
  | byt _ => obtain ⟨t, rfl⟩ := r; rfl
  | flt _ => obtain ⟨t, rfl⟩ := r; rfl
  | ref _ => cases r; rfl
  | ty _ => cases r; rfl
theorem RelV.inj {x y : V} {u : Value} (r : RelV x u) (q : RelV y u) : x = y := Option.some.inj (r.abs.symm.trans q.abs)
theorem Vals.inj : ∀ {xs ys : List V} {us : List Value}, Vals xs us → Vals ys us → xs = ys
  | _, _, _, .nil, .nil => rfl
  | _, _, _, .cons r t, .cons r' t' => by rw [r.inj r', Vals.inj t t']
section
variable {X : Cx} {pins : List (Addr × Obj)} {σ : St} {H : Hp} {s : Shared} {a : Addr} {xs ys : List V}
theorem SqL.of {K : PySem.W.Frag} (h : H a = some (.lst xs)) : SqL K H a xs := .inl (.inl h)
theorem SqT.of {K : PySem.W.Frag} (h : H a = some (.tup xs)) : SqT K H a xs := .inl (.inl h)
theorem Inv.list (I : Inv X pins σ H s) (h : SqL X.K H a xs) : ∃ its : List Value, Vals xs its ∧ PlainL s.heap a its.toArray ∧ xs.length ≤ sizeLine := by
  rcases h with h | ⟨o, its, n, hk, hc, hd, hs, hz, r⟩
  · obtain ⟨z, its, n, r, e⟩ := h.ok I.hok
    exact ⟨its, r, ⟨_, n, e, rfl, rfl, rfl⟩, z⟩
  · refine ⟨its.toList, r, ⟨o, n, I.kIn a o hk, hc, hd, by simpa using hs⟩, ?_⟩
    have e := r.length
    simp only [Array.length_toList] at e
    omega
theorem Inv.tuple (I : Inv X pins σ H s) (h : SqT X.K H a xs) : ∃ its : List Value, Vals xs its ∧ IsTup s.heap a its.toArray ∧ xs.length ≤ sizeLine := by
  rcases h with h | ⟨o, its, n, hk, hc, hs, hz, r⟩
  · obtain ⟨z, its, r, p⟩ := h.ok I.hok
    exact ⟨its, r, p, z⟩
  · refine ⟨its.toList, r, ⟨o, I.kIn a o hk, hc, n, by simpa using hs⟩, ?_⟩
    have e := r.length
    simp only [Array.length_toList] at e
    omega
theorem Inv.list_inj (I : Inv X pins σ H s) (h : SqL X.K H a xs) (h' : SqL X.K H a ys) : xs = ys := by
  obtain ⟨its, r, ⟨o, n, e, _, _, d⟩, _⟩ := I.list h
  obtain ⟨its', r', ⟨o', n', e', _, _, d'⟩, _⟩ := I.list h'
  rw [e] at e'; cases e'
  rw [d] at d'
  injection d' with d1 _
  have : its = its' := by simpa using congrArg Array.toList d1
  subst this
  exact r.inj r'
theorem Inv.tuple_inj (I : Inv X pins σ H s) (h : SqT X.K H a xs) (h' : SqT X.K H a ys) : xs = ys := by
  obtain ⟨its, r, ⟨o, e, _, n, d⟩, _⟩ := I.tuple h
  obtain ⟨its', r', ⟨o', e', _, n', d'⟩, _⟩ := I.tuple h'
  rw [e] at e'; cases e'
  rw [d] at d'
  injection d' with d1 _
  have : its = its' := by simpa using congrArg Array.toList d1
  subst this
  exact r.inj r'
end
abbrev Cx.wish (X : Cx) (E : Value → Shared → Prop) : Cx := { X with xe := E }
abbrev Cx.nox (X : Cx) : Cx := X.wish fun _ _ => False
theorem Cx.Ok.wish {X : Cx} (ok : X.Ok) (E : Value → Shared → Prop) : (X.wish E).Ok :=
  ⟨ok.mod, ok.kind, ok.glob, ok.blt, ok.above, ok.inj, ok.has, ok.cab, ok.hd, ok.frames, ok.stk, ok.exf, ok.bs, ok.bsz, ok.noex, ok.exfs, ok.funs, ok.frf⟩
theorem Cx.Ok.unwish {X : Cx} {E : Value → Shared → Prop} (ok : (X.wish E).Ok) : X.Ok :=
  ⟨ok.mod, ok.kind, ok.glob, ok.blt, ok.above, ok.inj, ok.has, ok.cab, ok.hd, ok.frames, ok.stk, ok.exf, ok.bs, ok.bsz, ok.noex, ok.exfs, ok.funs, ok.frf⟩
section
variable {X : Cx} {pins : List (Addr × Obj)} {σ : St} {H : Hp} {s : Shared} {E : Value → Shared → Prop}
theorem Inv.wish (I : Inv X pins σ H s) (E : Value → Shared → Prop) : Inv (X.wish E) pins σ H s := ⟨I.ok.wish E, I.os, I.bare, I.base, I.loc, I.cell, I.free, I.freeC, I.pin, I.hok, I.len⟩
theorem Inv.unwish (I : Inv (X.wish E) pins σ H s) : Inv X pins σ H s := ⟨I.ok.unwish, I.os, I.bare, I.base, I.loc, I.cell, I.free, I.freeC, I.pin, I.hok, I.len⟩
theorem SP.unwish {D : Ends} {f : Flow} {s' : Shared} (h : SP (X.wish E) pins D f s') : SP X pins D f s' := by
  cases f with
  | next => obtain ⟨σ', H', I, q⟩ := h; exact ⟨σ', H', I.unwish, q⟩
  | brk => obtain ⟨σ', H', I, q⟩ := h; exact ⟨σ', H', I.unwish, q⟩
  | cont => obtain ⟨σ', H', I, q⟩ := h; exact ⟨σ', H', I.unwish, q⟩
  | ret u => obtain ⟨v, σ', H', I, r, q⟩ := h; exact ⟨v, σ', H', I.unwish, r, q⟩
theorem PSs.nox {st : List Stmt} {t : TS} (h : PSs X.nox st t) : PSs X st t := fun pins s σ H D I hw =>
  wpAny_mono (h pins s σ H D (I.wish _) hw) (fun _ _ q => q.unwish) fun _ _ z => False.elim z
end
section
variable {X : Cx} {st : Stmt} {rest : List Stmt} {t u : TS} {e : Expr} {te : TE} {pos : Pos}
def tNext : TS := fun D σ H => D.nx σ H
def tSeq (t u : TS) : TS := fun D σ H => t { D with nx := u D } σ H
theorem pss_nil : PSs X [] tNext := fun _ _ σ H _ I h => wpAny_execs_nil ⟨σ, H, I, h⟩
theorem pss_cons (h1 : PS X st t) (h2 : PSs X rest u) : PSs X (st :: rest) (tSeq t u) := by
  intro pins s σ H D I h
  refine wpAny_execs_cons (thn (h1 pins s σ H { D with nx := u D } I h) fun f s1 q => ?_)
  cases f with
  | next =>
    obtain ⟨σ', H', I', q⟩ := q
    exact h2 pins s1 σ' H' D I' q
  | ret v => exact q
  | brk => exact q
  | cont => exact q
theorem pss_one (h1 : PS X st t) : PSs X [st] t := by
  intro pins s σ H D I h
  refine wpAny_execs_cons (thn (h1 pins s σ H D I h) fun f s1 q => ?_)
  cases f with
  | next => exact wpAny_execs_nil q
  | ret v => exact q
  | brk => exact q
  | cont => exact q
def tBreak : TS := fun D σ H => D.bk σ H
def tCont : TS := fun D σ H => D.ct σ H
theorem Inv.quiet {pins : List (Addr × Obj)} {σ : St} {H : Hp} {s : Shared} (I : Inv X pins σ H s) : interactive X.env = false := by simp [interactive, I.ok.kind]
def tDrop (te : TE) : TS := fun D σ H => te σ H fun _ H1 => D.nx σ H1
def tRet (te : TE) : TS := fun D σ H => te σ H D.rt
theorem ps_ret (he : PE X e te) : PS X (.Return (some e) pos) (tRet te) := by
  intro pins s σ H D I h
  exact wpAny_Return_some (thn (he pins s σ H _ I h) fun v s1 ⟨x, H1, I1, r1, q1⟩ => ⟨x, σ, H1, I1, r1, q1⟩)
def tRetN : TS := fun D _ H => D.rt .non H
def tIfS (c : TT) (t u : TS) : TS := fun D σ H => c σ H fun b H1 => if b = true then t D σ H1 else u D σ H1
theorem ps_if {c : Expr} {a b : List Stmt} {tc : TT} (hc : PT X c tc) (ha : PSs X a t) (hb : PSs X b u) : PS X (.If c a b pos) (tIfS tc t u) := by
  intro pins s σ H D I h
  refine wpAny_If (thn (hc pins s σ H _ I h) fun d s1 ⟨H1, I1, q1⟩ => ?_)
  cases d with
  | true => exact ha pins s1 σ H1 D I1 q1
  | false => exact hb pins s1 σ H1 D I1 q1
end
abbrev TG := V → St → Hp → (St → Hp → Prop) → Prop
abbrev TGs := List V → St → Hp → (St → Hp → Prop) → Prop
def PG (X : Cx) (target : Expr) (t : TG) : Prop :=
  ∀ (pins : List (Addr × Obj)) (s : Shared) (σ : St) (H : Hp) (v : V) (u : Value) (Q : St → Hp → Prop), Inv X pins σ H s → RelV v u → t v σ H Q →
    wpAny (model X.prog X.w) X.A (assign target X.env u) (fun _ s' => ∃ σ' H', Inv X pins σ' H' s' ∧ Q σ' H') X.xe s
def PGs (X : Cx) (ts : List Expr) (t : TGs) : Prop :=
  ∀ (pins : List (Addr × Obj)) (s : Shared) (σ : St) (H : Hp) (vs : List V) (us : List Value) (Q : St → Hp → Prop), Inv X pins σ H s → Vals vs us → t vs σ H Q →
    wpAny (model X.prog X.w) X.A (assignInOrder ((assignEach ts X.env).map (·.2)) us) (fun _ s' => ∃ σ' H', Inv X pins σ' H' s' ∧ Q σ' H') X.xe s
abbrev TSet := V → V → V → Hp → (Hp → Prop) → Prop
def PSet (X : Cx) (t : TSet) : Prop :=
  ∀ (pins : List (Addr × Obj)) (s : Shared) (σ : St) (H : Hp) (o i v : V) (ov iv u : Value) (Q : Hp → Prop), Inv X pins σ H s → RelV o ov → RelV i iv → RelV v u → t o i v H Q →
    wpAny (model X.prog X.w) X.A (setItem ov iv u) (fun _ s' => ∃ H', Inv X pins σ H' s' ∧ Q H') X.xe s
abbrev TIp := V → V → Hp → VK → Prop
section
variable {X : Cx} {pos : Pos}
def gName (i : Nat) : TG := fun v σ H Q => Q (σ.set i (some v)) H
theorem pg_name {i : Nat} {x : Str} (hN : X.N.Nodup) (hi : X.N[i]? = some x) (hx : Loc X.env.scope x) (hf : X.fn x = true ∨ X.env.scope.names.lookup x = some .local := by first | exact .inl rfl | exact .inr rfl | assumption) : PG X (.Name x pos) (gName i) := by
  intro pins s σ H v u Q I r h
  exact wpAny_assign_Name (store_ok I hN hi hx r (fun s' I' => ⟨_, H, I', h⟩) hf)
def gNil : TGs := fun vs σ H Q => vs = [] ∧ Q σ H
def gCons (t : TG) (u : TGs) : TGs := fun vs σ H Q => ∃ v r, vs = v :: r ∧ t v σ H fun σ' H' => u r σ' H' Q
theorem pgs_nil : PGs X [] gNil := by
  intro pins s σ H vs us Q I r h
  obtain ⟨e, h⟩ := h
  subst e
  cases r
  exact assignInOrder_nil ⟨σ, H, I, h⟩
theorem pgs_cons {e : Expr} {es : List Expr} {t : TG} {u : TGs} (h1 : PG X e t) (h2 : PGs X es u)
    (hs : (assignEach (e :: es) X.env).map (·.2) = assign e X.env :: (assignEach es X.env).map (·.2) := by rfl) : PGs X (e :: es) (gCons t u) := by
  intro pins s σ H vs us Q I r h
  obtain ⟨v, vr, e1, h⟩ := h
  subst e1
  cases r with
  | cons r rr =>
    rw [hs]
    refine assignInOrder_cons (thn (h1 pins s σ H _ _ _ I r h) fun _ s1 ⟨σ1, H1, I1, q1⟩ => ?_)
    exact h2 pins s1 σ1 H1 _ _ Q I1 rr q1
def gTup (K : PySem.W.Frag) (n : Nat) (t : TGs) : TG := fun v σ H Q => ∃ a xs, v = .ref a ∧ SqT K H a xs ∧ xs.length = n ∧ t xs σ H Q
theorem pg_tup {es : List Expr} {k : Nat} {t : TGs} {n : Nat} (hc : X.calm = true) (h : PGs X es t)
    (hn : (assignEach es X.env).length = n := by rfl) (hst : (assignEach es X.env).findIdx? (·.1) = none := by rfl) : PG X (.Tuple es k pos) (gTup X.K n t) := by
  intro pins s σ H v u Q I r hw
  obtain ⟨a, xs, e1, hq, hl, hw⟩ := hw
  subst e1
  cases r
  obtain ⟨its, rv, ht, hz⟩ := I.tuple hq
  refine assign_Tuple_tuple (I.ok.hd hc) ht (by simp [hn, ← hl, rv.length]) hst fun h' hx => ?_
  have I1 : Inv X pins σ H { s with heap := h' } := I.kept (t' := s.toks) fun b o e => hx b o (Nat.ne_of_lt (Heap.lt_size e)) e
  exact h pins _ σ H xs _ Q I1 (by simpa using rv) hw
def gSub (to ti : TE) (t : TSet) : TG := fun v σ H Q => to σ H fun o H1 => ti σ H1 fun i H2 => t o i v H2 fun H3 => Q σ H3
theorem pg_sub {o i : Expr} {to ti : TE} {t : TSet} (ho : PE X o to) (hi : PE X i ti) (hs : PSet X t)
    (ha : ∀ v, assign (.Subscript o i pos) X.env v = (do
      let ov ← holding [v] (eval o X.env)
      let iv ← holding [v, ov] (eval i X.env)
      standAt pos
      holding [v, ov, iv] (setItem ov iv v)
      release [v, ov, iv] []) := by intro _; rfl) : PG X (.Subscript o i pos) (gSub to ti t) := by
  intro pins s σ H v u Q I r h
  rw [ha]
  refine wpAny_bind (wpAny_holding (thn (ho pins s σ H _ I h) fun ov s1 ⟨x, H1, I1, r1, q1⟩ => ?_))
  refine wpAny_bind (wpAny_holding (thn (hi pins s1 σ H1 _ I1 q1) fun iv s2 ⟨y, H2, I2, r2, q2⟩ => ?_))
  refine wpAny_bind (wpAny_standAt (wpAny_bind (wpAny_holding (thn (hs pins s2 σ H2 x y v ov iv u _ I2 r1 r2 r q2) fun _ s3 ⟨H3, I3, q3⟩ => ?_))))
  exact wpAny_release ⟨σ, H3, I3, q3⟩
def tAsg (te : TE) (g : TG) : TS := fun D σ H => te σ H fun x H1 => g x σ H1 D.nx
theorem ps_asg {tg e : Expr} {te : TE} {g : TG} (he : PE X e te) (hg : PG X tg g) (hs : swapsWithSole [tg] e pos.line X.env = pure false := by rfl) (hw : swappedStores [tg] e X.env = pure none := by rfl)
    (h1 : (assignEach [tg] X.env).map (·.2) = [assign tg X.env] := by rfl) : PS X (.Assign [tg] e pos) (tAsg te g) := by
  intro pins s σ H D I h
  refine wpAny_Assign_stores (thn (he pins s σ H _ I h) fun v s1 ⟨x, H1, I1, r1, q1⟩ => ?_) hs hw
  rw [h1]
  exact thn (hg pins s1 σ H1 x v _ I1 r1 q1) fun _ s2 q => q
theorem ps_set {i : Nat} {x : Str} {e : Expr} {te : TE} {pos' : Pos} (hN : X.N.Nodup) (hi : X.N[i]? = some x) (hx : Loc X.env.scope x) (he : PE X e te) (hs : swapsWith e (some (.Name x pos')) pos.line X.env = pure false := by rfl) (hf : X.fn x = true ∨ X.env.scope.names.lookup x = some .local := by first | exact .inl rfl | exact .inr rfl | assumption) :
    PS X (.Assign [.Name x pos'] e pos) (tAsg te (gName i)) := by
  intro pins s σ H D I h
  refine wpAny_Assign_Name (thn (he pins s σ H _ I h) fun v s1 ⟨y, H1, I1, r1, q1⟩ => ?_) hs
  exact store_ok I1 hN hi hx r1 (fun s2 I2 => ⟨_, H1, I2, q1⟩) hf
def tPar (i j : Nat) (ta : TA) : TS := fun D σ H => ta σ H fun vs H1 => ∃ v w, vs = [v, w] ∧ D.nx ((σ.set i (some v)).set j (some w)) H1
def tAug (i : Nat) (te : TE) (ti : TIp) : TS := fun D σ H => ∃ x, σ[i]? = some (some x) ∧ te σ H fun y H1 => ti x y H1 fun z H2 => D.nx (σ.set i (some z)) H2
end
structure It where
  go : Nat → Hp → Prop
  yld : Nat → Hp → V → Hp → Prop
  stop : Nat → Hp → Prop
def FpOk (X : Cx) (pins : List (Addr × Obj)) (H : Hp) (b : Addr) : Prop :=
  H b = none ∧ b ≠ X.env.locals ∧ b ∉ X.fs ∧ (b ∈ X.ex ∨ X.s₀.heap.objs.size ≤ b) ∧ (∀ x c, X.env.cells.lookup x = some c → c ≠ b) ∧ ∀ p ∈ X.pn ++ pins, p.1 ≠ b
theorem Inv.fpOk {X : Cx} {pins : List (Addr × Obj)} {σ : St} {H H' : Hp} {s : Shared} {b : Addr} (I : Inv X pins σ H s) (hb : s.heap.objs.size ≤ b) (hn : H' b = none) : FpOk X pins H' b := by
  refine ⟨hn, Nat.ne_of_gt (Nat.lt_of_lt_of_le I.lt hb), I.nofs hb, .inr (Nat.le_trans I.sz hb), fun x c e z => ?_, fun p hp z => ?_⟩
  · obtain ⟨v, q⟩ := I.cell x c e
    exact absurd (Nat.lt_of_lt_of_le q.lt (by rw [z]; exact hb)) (Nat.lt_irrefl _)
  · exact absurd (Nat.lt_of_lt_of_le (Heap.lt_size (I.pin p hp).1) (by rw [z]; exact hb)) (Nat.lt_irrefl _)
structure Turn (P : Program) (w : World) (K : PySem.W.Frag) (tg : Expr) (J : It) (fp : List Addr) (it : Addr) (tn : Nat → Heap → Prop) : Prop where
  mem : it ∈ fp
  obj : ∀ i h, tn i h → ∀ b ∈ fp, ∃ o, h.get? b = some o ∧ ∀ v, o.data ≠ .cell v
  keep : ∀ i h h', tn i h → (∀ b ∈ fp, ∀ o, h.get? b = some o → h'.get? b = some o) → tn i h'
  item : ∀ (X : Cx), X.prog = P → X.w = w → X.K = K → X.calm = true → ∀ (i : Nat) (pins : List (Addr × Obj)) (s : Shared) (σ : St) (H : Hp) (E : Value → Shared → Prop), Inv X pins σ H s → (∀ b ∈ fp, FpOk X pins H b) → tn i s.heap → J.go i H →
    wpAny (model P w) X.A (pyNext (.ref it)) (fun r s1 => ∃ u, r = some u ∧
      wpAny (model P w) X.A (letOwnedTupleGo tg (.ref it) u) (fun _ s2 => ∃ x H', Inv X pins σ H' s2 ∧ RelV x u ∧ J.yld i H x H' ∧ tn (i + 1) s2.heap ∧ ∀ b ∈ fp, H' b = none) E s1) E s
  done : ∀ (X : Cx), X.prog = P → X.w = w → X.K = K → X.calm = true → ∀ (i : Nat) (pins : List (Addr × Obj)) (s : Shared) (σ : St) (H : Hp) (E : Value → Shared → Prop), Inv X pins σ H s → (∀ b ∈ fp, FpOk X pins H b) → tn i s.heap → J.stop i H →
    wpAny (model P w) X.A (pyNext (.ref it)) (fun r s1 => r = none ∧ Inv X pins σ H s1) E s
  self : ∀ (A : Around) (i : Nat) (s : Shared) (Q : Value → Shared → Prop) (E : Value → Shared → Prop), tn i s.heap → Q (.ref it) s → wpAny (model P w) A (pyIter (.ref it)) Q E s
abbrev TI := St → Hp → (It → Hp → Prop) → Prop
def PIE (X : Cx) (pins : List (Addr × Obj)) (σ : St) (tg : Expr) (R : It → Hp → Prop) (itv : Value) (s2 : Shared) : Prop :=
  ∃ (it : Addr) (fp : List Addr) (tn : Nat → Heap → Prop) (J : It) (H' : Hp), itv = .ref it ∧ Inv X pins σ H' s2 ∧ Turn X.prog X.w X.K tg J fp it tn ∧ tn 0 s2.heap ∧ (∀ b ∈ fp, FpOk X pins H' b) ∧ R J H'
def PI (X : Cx) (tg iter : Expr) (wi : TI) : Prop :=
  ∀ (pins : List (Addr × Obj)) (s : Shared) (σ : St) (H : Hp) (R : It → Hp → Prop), Inv X pins σ H s → wi σ H R →
    wpAny (model X.prog X.w) X.A (eval iter X.env) (fun v s1 => wpAny (model X.prog X.w) X.A (pyIter v) (PIE X pins σ tg R) X.xe s1) X.xe s
theorem go_of {M : Model} {A : Around} {E : Value → Shared → Prop} {s : Shared} {tg : Expr} {it : Addr} {u : Value} {o : Obj} {n : String} {vs : Array Value} {Q : Unit → Shared → Prop} (ho : s.heap.get? it = some o) (hc : o.cls = .type n) (hd : o.data = .fields vs)
    (hn : ["enumerate", "zip", "dict_itemiterator", "dict_reverseitemiterator", "odict_iterator", "itertools.zip_longest", "itertools.pairwise"].contains n = false) (hQ : Q () s) : wpAny M A (letOwnedTupleGo tg (.ref it) u) Q E s := by
  unfold letOwnedTupleGo
  cases tg <;> first
    | exact wpAny_pure hQ
    | (cases u <;> first
        | exact wpAny_pure hQ
        | (refine wpAny_bind (wpAny_load ho ?_)
           rw [hc, hd]
           show wpAny M A (if (["enumerate", "zip", "dict_itemiterator", "dict_reverseitemiterator", "odict_iterator", "itertools.zip_longest", "itertools.pairwise"].contains n && vs[0]? == some (rawInt _)) = true then _ else _) Q E s
           rw [if_neg (by intro h; rw [hn, Bool.false_and] at h; cases h)]
           exact wpAny_pure hQ))
def Itl (K : PySem.W.Frag) (a : Addr) : It :=
  ⟨fun i H => ∃ xs x, SqL K H a xs ∧ xs[i]? = some x, fun i H x H' => H' = H ∧ ∀ xs, SqL K H a xs → xs[i]? = some x, fun i H => ∃ xs, SqL K H a xs ∧ xs.length ≤ i⟩
def Itt (K : PySem.W.Frag) (a : Addr) : It :=
  ⟨fun i H => ∃ xs x, SqT K H a xs ∧ xs[i]? = some x, fun i H x H' => H' = H ∧ ∀ xs, SqT K H a xs → xs[i]? = some x, fun i H => ∃ xs, SqT K H a xs ∧ xs.length ≤ i⟩
def Itr (lo : Int) (n : Nat) : It := ⟨fun i _ => i < n, fun i H x H' => H' = H ∧ x = .int (lo + i), fun i _ => n ≤ i⟩
theorem turn_list {P : Program} {w : World} {K : PySem.W.Frag} {tg : Expr} (a it : Addr) : Turn P w K tg (Itl K a) [it] it (fun i h => h.IsListIter it a i) where
  mem := by simp
  obj := fun i h st b hb => by
    have e : b = it := by simpa using hb
    subst e
    obtain ⟨o, e, c, d⟩ := st
    exact ⟨o, e, fun v z => by rw [d] at z; cases z⟩
  keep := fun i h h' st k => st.at fun o e => k it (by simp) o e
  item := by
    intro X hP hw hK hc i pins s σ H E I hf st hg
    subst hP hw hK
    obtain ⟨xs, x, hq, hx⟩ := hg
    obtain ⟨its, rv, p, hz⟩ := I.list hq
    obtain ⟨u, hu, ru⟩ := rv.get hx
    obtain ⟨f0, f1, f2, f3, f4, f5⟩ := hf it (by simp)
    refine wpAny_pyNext_list_item st p.isList (x := u) (by simpa using hu) fun h' st' sb => ?_
    have I1 : Inv X pins σ H { s with heap := h' } := I.turned (t' := s.toks) (fun b o hb e => (sb.2 b hb).trans e) f0 f1 f3 f4 f5
    obtain ⟨o, e, c, d⟩ := id st'
    exact ⟨u, rfl, go_of (s := { s with heap := h' }) e c d (by decide) ⟨x, H, I1, ru, ⟨rfl, fun ys hy => by rw [I.list_inj hy hq]; exact hx⟩, st', fun b hb => (hf b hb).1⟩⟩
  done := by
    intro X hP hw hK hc i pins s σ H E I hf st hg
    subst hP hw hK
    obtain ⟨xs, hq, hx⟩ := hg
    obtain ⟨its, rv, p, hz⟩ := I.list hq
    obtain ⟨f0, f1, f2, f3, f4, f5⟩ := hf it (by simp)
    have hl := rv.length
    exact wpAny_pyNext_list_end (I.ok.hd hc) st p.isList (by simp; omega) fun h' eb => ⟨rfl, I.turned (t' := s.toks) (fun b o hb e => eb b o hb e) f0 f1 f3 f4 f5⟩
  self := fun _ _ _ _ _ st h => wpAny_pyIter_listiter st h
theorem turn_tuple {P : Program} {w : World} {K : PySem.W.Frag} {tg : Expr} (a it : Addr) : Turn P w K tg (Itt K a) [it] it (fun i h => h.IsTupleIter it a i) where
  mem := by simp
  obj := fun i h st b hb => by
    have e : b = it := by simpa using hb
    subst e
    obtain ⟨o, e, c, d⟩ := st
    exact ⟨o, e, fun v z => by rw [d] at z; cases z⟩
  keep := fun i h h' st k => st.at fun o e => k it (by simp) o e
  item := by
    intro X hP hw hK hc i pins s σ H E I hf st hg
    subst hP hw hK
    obtain ⟨xs, x, hq, hx⟩ := hg
    obtain ⟨its, rv, p, hz⟩ := I.tuple hq
    obtain ⟨u, hu, ru⟩ := rv.get hx
    obtain ⟨f0, f1, f2, f3, f4, f5⟩ := hf it (by simp)
    refine wpAny_pyNext_tuple_item st (show s.heap.IsTuple a its.toArray from p) (x := u) (by simpa using hu) fun h' st' sb => ?_
    have I1 : Inv X pins σ H { s with heap := h' } := I.turned (t' := s.toks) (fun b o hb e => (sb.2 b hb).trans e) f0 f1 f3 f4 f5
    obtain ⟨o, e, c, d⟩ := id st'
    exact ⟨u, rfl, go_of (s := { s with heap := h' }) e c d (by decide) ⟨x, H, I1, ru, ⟨rfl, fun ys hy => by rw [I.tuple_inj hy hq]; exact hx⟩, st', fun b hb => (hf b hb).1⟩⟩
  done := by
    intro X hP hw hK hc i pins s σ H E I hf st hg
    subst hP hw hK
    obtain ⟨xs, hq, hx⟩ := hg
    obtain ⟨its, rv, p, hz⟩ := I.tuple hq
    obtain ⟨f0, f1, f2, f3, f4, f5⟩ := hf it (by simp)
    have hl := rv.length
    exact wpAny_pyNext_tuple_end (I.ok.hd hc) st (show s.heap.IsTuple a its.toArray from p) (by simp; omega) fun h' eb => ⟨rfl, I.turned (t' := s.toks) (fun b o hb e => eb b o hb e) f0 f1 f3 f4 f5⟩
  self := fun _ _ _ _ _ st h => wpAny_pyIter_tupleiter st h
theorem turn_range {P : Program} {w : World} {K : PySem.W.Frag} {tg : Expr} (it : Addr) (lo : Int) (n : Nat) : Turn P w K tg (Itr lo n) [it] it (fun i h => IsRangeIter h it (lo + (i : Nat) * 1) ((n : Int) - (i : Nat)) 1) where
  mem := by simp
  obj := fun i h st b hb => by
    have e : b = it := by simpa using hb
    subst e
    exact ⟨_, st, fun v z => by
      have z' : Data.fields _ = Data.cell v := z
      cases z'⟩
  keep := fun i h h' st k => k it (by simp) _ st
  item := by
    intro X hP hw hK hc i pins s σ H E I hf st hg
    subst hP hw hK
    obtain ⟨f0, f1, f2, f3, f4, f5⟩ := hf it (by simp)
    have W := Walks.range (prog := X.prog) (w := X.w) (I.ok.hd hc) it lo 1 n
    refine W.item i s _ _ hg st fun v h' tk hv st' kk => ?_
    obtain ⟨t, rfl⟩ := hv
    have I1 : Inv X pins σ H { s with heap := h', toks := tk } := I.turned (fun b o hb e => kk b o (by simpa using hb) e) f0 f1 f3 f4 f5
    refine ⟨_, rfl, go_of (s := { s with heap := h', toks := tk }) (n := "range_iterator") st' rfl rfl (by decide) ⟨.int (lo + i), H, I1, ⟨t, ?_⟩, ⟨rfl, rfl⟩, st', fun b hb => (hf b hb).1⟩⟩
    rw [Int.mul_one]
  done := by
    intro X hP hw hK hc i pins s σ H E I hf st hg
    subst hP hw hK
    obtain ⟨f0, f1, f2, f3, f4, f5⟩ := hf it (by simp)
    exact wpAny_pyNext_range_end (I.ok.hd hc) st (by have : n ≤ i := hg; omega) fun h' eb => ⟨rfl, I.turned (t' := s.toks) (fun b o hb e => eb b o hb e) f0 f1 f3 f4 f5⟩
  self := fun _ _ _ _ _ st h => wpAny_pyIter_rangeiter st h
end L2
namespace L2
open PySem PySem.Spec PyProof.Rows
section
variable {X : Cx} {tg : Expr}
def iList (K : PySem.W.Frag) (tl : TE) : TI := fun σ H R => tl σ H fun x H1 => ∃ a, x = .ref a ∧ (∃ xs, SqL K H1 a xs) ∧ R (Itl K a) H1
def iTup (K : PySem.W.Frag) (tl : TE) : TI := fun σ H R => tl σ H fun x H1 => ∃ a, x = .ref a ∧ (∃ xs, SqT K H1 a xs) ∧ R (Itt K a) H1
theorem pi_list {l : Expr} {tl : TE} (hl : PE X l tl) : PI X tg l (iList X.K tl) := by
  intro pins s σ H R I h
  refine thn (hl pins s σ H _ I h) fun v s1 ⟨x, H1, I1, r1, q1⟩ => ?_
  obtain ⟨a, e, ⟨xs, hq⟩, q⟩ := q1
  subst e
  cases r1
  obtain ⟨its, rv, p, hz⟩ := I1.list hq
  refine wpAny_pyIter_list p.isList ?_
  refine ⟨s1.heap.objs.size, [s1.heap.objs.size], _, _, H1, rfl, I1.kept (t' := s1.toks) fun b o e => Heap.get?_push_of_some _ e, turn_list a _, ⟨_, Heap.get?_push_size _ rfl, rfl, rfl⟩, fun b hb => ?_, q⟩
  have e : b = s1.heap.objs.size := by simpa using hb
  subst e
  exact I1.fpOk (Nat.le_refl _) (I1.hok.fresh (Nat.le_refl _))
theorem pi_tup {l : Expr} {tl : TE} (hl : PE X l tl) : PI X tg l (iTup X.K tl) := by
  intro pins s σ H R I h
  refine thn (hl pins s σ H _ I h) fun v s1 ⟨x, H1, I1, r1, q1⟩ => ?_
  obtain ⟨a, e, ⟨xs, hq⟩, q⟩ := q1
  subst e
  cases r1
  obtain ⟨its, rv, p, hz⟩ := I1.tuple hq
  refine wpAny_pyIter_tuple (show s1.heap.IsTuple a its.toArray from p) ?_
  refine ⟨s1.heap.objs.size, [s1.heap.objs.size], _, _, H1, rfl, I1.kept (t' := s1.toks) fun b o e => Heap.get?_push_of_some _ e, turn_tuple a _, ⟨_, Heap.get?_push_size _ rfl, rfl, rfl⟩, fun b hb => ?_, q⟩
  have e : b = s1.heap.objs.size := by simpa using hb
  subst e
  exact I1.fpOk (Nat.le_refl _) (I1.hok.fresh (Nat.le_refl _))
theorem range_it {pins : List (Addr × Obj)} {σ : St} {H : Hp} {s : Shared} {R : It → Hp → Prop} {E : Value → Shared → Prop} {lo hi : Int} {t u v : Tok} {tk : Nat} (I : Inv X pins σ H s) (h1 : -(2 ^ 62) ≤ lo) (h2 : lo < 2 ^ 62) (h3 : -(2 ^ 62) ≤ hi) (h4 : hi < 2 ^ 62)
    (q : R (Itr lo (hi - lo).toNat) H) : wpAny (model X.prog X.w) X.A (pyIter (.ref s.heap.objs.size)) (PIE X pins σ tg R) E { s with heap := s.heap.push { cls := .type "range", data := .fields #[.int lo t, .int hi u, .int 1 v] }, toks := tk } := by
  refine wpAny_pyIter_range (IsRange.new ..) (small_one h1 h2 h3 h4) ?_
  have I1 : Inv X pins σ H { s with heap := s.heap.push { cls := .type "range", data := .fields #[.int lo t, .int hi u, .int 1 v] }, toks := tk } := I.kept fun b o e => Heap.get?_push_of_some _ e
  refine ⟨(s.heap.push { cls := .type "range", data := .fields #[.int lo t, .int hi u, .int 1 v] }).objs.size, [(s.heap.push { cls := .type "range", data := .fields #[.int lo t, .int hi u, .int 1 v] }).objs.size], _, _, H, rfl,
    I1.kept (t' := tk) fun b o e => Heap.get?_push_of_some _ e, turn_range _ lo (hi - lo).toNat, ?_, fun b hb => ?_, q⟩
  · have e1 : lo + ((0 : Nat) : Int) * 1 = lo := by simp
    have e2 : (((hi - lo).toNat : Nat) : Int) - ((0 : Nat) : Int) = Builtin.Range.rangeSize lo hi 1 := by rw [rangeSize_one]; split <;> omega
    show IsRangeIter _ _ (lo + ((0 : Nat) : Int) * 1) ((((hi - lo).toNat : Nat) : Int) - ((0 : Nat) : Int)) 1
    rw [e1, e2]
    exact Heap.get?_push_size _ rfl
  · have e : b = (s.heap.push { cls := .type "range", data := .fields #[.int lo t, .int hi u, .int 1 v] }).objs.size := by simpa using hb
    subst e
    exact I1.fpOk (Nat.le_refl _) (I1.hok.fresh (Nat.le_refl _))
def iRng1 (ta : TA) : TI := fun σ H R => ta σ H fun vs H1 => ∃ j : Int, vs = [.int j] ∧ -(2 ^ 62) ≤ j ∧ j < 2 ^ 62 ∧ R (Itr 0 j.toNat) H1
def iRng2 (ta : TA) : TI := fun σ H R => ta σ H fun vs H1 => ∃ i j : Int, vs = [.int i, .int j] ∧ (-(2 ^ 62) ≤ i ∧ i < 2 ^ 62 ∧ -(2 ^ 62) ≤ j ∧ j < 2 ^ 62) ∧ R (Itr i (j - i).toNat) H1
theorem pi_range1 {a : Expr} {ta : TA} {p pos : Pos} (hg : Gl X "range") (hm : X.mg "range" = none) (ha : PA X [a] ta) (hs : starEach [a] X.env = [(false, eval a X.env)] := by rfl) : PI X tg (.Call (.Name "range" p) [a] [] pos) (iRng1 ta) := by
  intro pins s σ H R I h
  refine Call_ (ld_blt I hg hm boot_range (PyProof.Rows.callWith_type1 (thn (ha pos pins s σ H _ I h) fun us s1 ⟨vs, H1, I1, r1, q1⟩ => ?_) hs rfl))
  obtain ⟨j, e, q1, q2, q⟩ := q1
  subst e
  cases r1 with
  | cons r rr =>
    cases rr
    obtain ⟨t, rfl⟩ := r
    exact call_range_1 (range_it I1 (by omega) (by omega) q1 q2 (by simpa using q))
theorem pi_range2 {a b : Expr} {ta : TA} {p pos : Pos} (hg : Gl X "range") (hm : X.mg "range" = none) (ha : PA X [a, b] ta) (hs : starEach [a, b] X.env = [(false, eval a X.env), (false, eval b X.env)] := by rfl) (hs2 : starEach [b] X.env = [(false, eval b X.env)] := by rfl) :
    PI X tg (.Call (.Name "range" p) [a, b] [] pos) (iRng2 ta) := by
  intro pins s σ H R I h
  refine Call_ (ld_blt I hg hm boot_range (PyProof.Rows.callWith_type1 (thn (ha pos pins s σ H _ I h) fun us s1 ⟨vs, H1, I1, r1, q1⟩ => ?_) (by rw [hs, hs2]) (by rw [hs2]; rfl)))
  obtain ⟨i, j, e, ⟨q1, q2, q3, q4⟩, q⟩ := q1
  subst e
  cases r1 with
  | cons r rr =>
    cases rr with
    | cons r' rr =>
      cases rr
      obtain ⟨t, rfl⟩ := r
      obtain ⟨t', rfl⟩ := r'
      exact call_range_2 (range_it I1 q1 q2 q3 q4 q)
def tFor (wi : TI) (g : TG) (tb : TS) : TS := fun D σ H => wi σ H fun J H1 => ∃ W : Nat → Nat → St → Hp → Prop, (∃ m, W 0 m σ H1) ∧ ∀ i m σ H, W i m σ H →
  (J.stop i H ∧ D.nx σ H) ∨ (J.go i H ∧ ∃ N : St → Hp → Prop, (∀ σ' H', N σ' H' → ∃ m', m' < m ∧ W (i + 1) m' σ' H') ∧ ∀ x H', J.yld i H x H' → g x σ H' fun σ2 H2 => tb { D with nx := N, ct := N, bk := D.nx } σ2 H2)
def pinsAt (fp : List Addr) (h : Heap) : List (Addr × Obj) := fp.filterMap fun b => (h.get? b).map fun o => (b, o)
theorem mem_pinsAt {fp : List Addr} {h : Heap} {b : Addr} {o : Obj} (hb : b ∈ fp) (e : h.get? b = some o) : (b, o) ∈ pinsAt fp h := List.mem_filterMap.mpr ⟨b, hb, by rw [e]; rfl⟩
theorem of_pinsAt {fp : List Addr} {h : Heap} {p : Addr × Obj} (hp : p ∈ pinsAt fp h) : p.1 ∈ fp ∧ h.get? p.1 = some p.2 := by
  obtain ⟨b, hb, e⟩ := List.mem_filterMap.mp hp
  cases q : h.get? b with
  | none => rw [q] at e; cases e
  | some o =>
    rw [q] at e
    have e' : (b, o) = p := Option.some.inj e
    subst e'
    exact ⟨hb, q⟩
theorem Inv.pinned {pins : List (Addr × Obj)} {σ : St} {H : Hp} {s : Shared} {fp : List Addr} (I : Inv X pins σ H s) (hf : ∀ b ∈ fp, FpOk X pins H b) (ho : ∀ b ∈ fp, ∃ o, s.heap.get? b = some o ∧ ∀ v, o.data ≠ .cell v) : Inv X (pins ++ pinsAt fp s.heap) σ H s :=
  I.pins_of fun p hp => (List.mem_append.mp hp).elim (fun z => I.pin p (List.mem_append_right _ z)) fun z => by
    obtain ⟨hb, e⟩ := of_pinsAt z
    obtain ⟨f0, f1, f2, _⟩ := hf p.1 hb
    obtain ⟨o, e', d⟩ := ho p.1 hb
    rw [e] at e'; cases e'
    exact ⟨e, f0, f1, f2, d⟩
theorem Inv.unpinned {pins pl : List (Addr × Obj)} {σ : St} {H : Hp} {s : Shared} (I : Inv X (pins ++ pl) σ H s) : Inv X pins σ H s := I.pins_of fun p hp => I.pin p (List.mem_append_right _ (List.mem_append_left _ hp))
theorem ps_for {iter : Expr} {body : List Stmt} {wi : TI} {g : TG} {tb : TS} {pos : Pos} (hp : PassesOwn (model X.prog X.w) X.A X.env X.xe) (hc : X.calm = true) (hi : PI X tg iter wi) (hg : PG X tg g) (hb : PSs X body tb)
    (hs : ∀ x, foldedSetIterable iter X.env x = pure x := by intro _; rfl) : PS X (.For tg iter body [] pos) (tFor wi g tb) := by
  intro pins s σ H D I h
  refine wpAny_For (thn (hi pins s σ H _ I h) fun v s1 h1 => thn h1 fun itv s2 h2 => ?_) hs
  obtain ⟨it, fp, tn, J, H2, e, I2, T, st2, f2, W, ⟨m0, w0⟩, turn⟩ := h2
  subst e
  have stat : ∀ {H' : Hp}, (∀ b ∈ fp, H' b = none) → ∀ b ∈ fp, FpOk X pins H' b := fun hn b hb => ⟨hn b hb, (f2 b hb).2⟩
  refine codeAny_forLoop_any (fun n s' => ∃ i σ' H', Inv X pins σ' H' s' ∧ tn i s'.heap ∧ (∀ b ∈ fp, H' b = none) ∧ W i n σ' H') ?_ m0 ⟨0, σ, H2, I2, st2, fun b hb => (f2 b hb).1, w0⟩
  rintro n s3 ⟨i, σ3, H3, I3, st3, fr3, w3⟩
  rcases turn i n σ3 H3 w3 with ⟨stop, qn⟩ | ⟨go, N, hN, step⟩
  · refine wpAny_passesOwn hp (thn (T.done X rfl rfl rfl hc i pins s3 σ3 H3 X.xe I3 (stat fr3) st3 stop) fun r s4 ⟨hr, I4⟩ => ?_)
    subst hr
    exact wpAny_execs_nil ⟨σ3, H3, I4, qn⟩
  · refine wpAny_passesOwn hp (thn (T.item X rfl rfl rfl hc i pins s3 σ3 H3 X.xe I3 (stat fr3) st3 go) fun r s4 ⟨u, hr, h4⟩ => ?_)
    subst hr
    refine wpAny_passesOwn hp (thn h4 fun _ s5 ⟨x, H5, I5, r5, y5, st5, fr5⟩ => ?_)
    have I5' := I5.pinned (stat fr5) (T.obj _ _ st5)
    refine wpAny_passesOwn hp (thn (hg _ s5 σ3 H5 x u _ I5' r5 (step x H5 y5)) fun _ s6 ⟨σ6, H6, I6, q6⟩ => ?_)
    refine wpAny_passesOwn hp (thn (hb _ s6 σ6 H6 _ I6 q6) fun f s7 q7 => ?_)
    have again : ∀ {σ7 : St} {H7 : Hp}, Inv X (pins ++ pinsAt fp s5.heap) σ7 H7 s7 → N σ7 H7 → ∃ m, m < n ∧ ∃ i σ' H', Inv X pins σ' H' s7 ∧ tn i s7.heap ∧ (∀ b ∈ fp, H' b = none) ∧ W i m σ' H' := fun {σ7 H7} I7 n7 => by
      obtain ⟨m', hm, w7⟩ := hN σ7 H7 n7
      refine ⟨m', hm, i + 1, σ7, H7, I7.unpinned, T.keep _ _ _ st5 fun b hb o e => (I7.pin (b, o) (List.mem_append_right _ (List.mem_append_right _ (mem_pinsAt hb e)))).1, fun b hb => ?_, w7⟩
      obtain ⟨o, e, d⟩ := T.obj _ _ st5 b hb
      exact (I7.pin (b, o) (List.mem_append_right _ (List.mem_append_right _ (mem_pinsAt hb e)))).2.1
    cases f with
    | next => obtain ⟨σ7, H7, I7, n7⟩ := q7; exact again I7 n7
    | cont => obtain ⟨σ7, H7, I7, n7⟩ := q7; exact again I7 n7
    | brk => obtain ⟨σ7, H7, I7, q7⟩ := q7; exact ⟨σ7, H7, I7.unpinned, q7⟩
    | ret v => obtain ⟨x7, σ7, H7, I7, r7, q7⟩ := q7; exact ⟨x7, σ7, H7, I7.unpinned, r7, q7⟩
end
theorem for_range {lo : Int} {n : Nat} {g : TG} {tb : TS} {D : Ends} {σ : St} {H : Hp} (Pv : Nat → St → Hp → Prop) (h0 : Pv 0 σ H)
    (hs : ∀ i σ H, i < n → Pv i σ H → g (.int (lo + i)) σ H fun σ2 H2 => tb { D with nx := Pv (i + 1), ct := Pv (i + 1), bk := D.nx } σ2 H2) (hd : ∀ σ H, Pv n σ H → D.nx σ H) :
    ∃ W : Nat → Nat → St → Hp → Prop, (∃ m, W 0 m σ H) ∧ ∀ i m σ H, W i m σ H →
      ((Itr lo n).stop i H ∧ D.nx σ H) ∨ ((Itr lo n).go i H ∧ ∃ N : St → Hp → Prop, (∀ σ' H', N σ' H' → ∃ m', m' < m ∧ W (i + 1) m' σ' H') ∧ ∀ x H', (Itr lo n).yld i H x H' → g x σ H' fun σ2 H2 => tb { D with nx := N, ct := N, bk := D.nx } σ2 H2) := by
  refine ⟨fun i m σ H => m = n - i ∧ i ≤ n ∧ Pv i σ H, ⟨n, by simp, Nat.zero_le _, h0⟩, ?_⟩
  rintro i m σ H ⟨rfl, hi, p⟩
  by_cases hlt : i < n
  · refine .inr ⟨hlt, Pv (i + 1), fun σ' H' p' => ⟨n - (i + 1), by omega, rfl, hlt, p'⟩, fun x H' y => ?_⟩
    obtain ⟨e, y⟩ := y
    subst e y
    exact hs i σ _ hlt p
  · have e : i = n := by omega
    subst e
    exact .inl ⟨Nat.le_refl _, hd σ H p⟩
end L2
namespace L2
open PySem PySem.Spec PyProof.Rows
abbrev R2 := V → V → Hp → VK → Prop
def OpR (X : Cx) (f : Value → Value → Sem Value) (r : R2) : Prop :=
  ∀ (pins : List (Addr × Obj)) (s : Shared) (σ : St) (H : Hp) (x y : V) (v u : Value) (Q : VK), Inv X pins σ H s → RelV x v → RelV y u → r x y H Q →
    wpAny (model X.prog X.w) X.A (f v u) (EP X pins σ Q) X.xe s
def UnR (X : Cx) (f : Value → Sem Value) (r : V → Hp → VK → Prop) : Prop :=
  ∀ (pins : List (Addr × Obj)) (s : Shared) (σ : St) (H : Hp) (x : V) (v : Value) (Q : VK), Inv X pins σ H s → RelV x v → r x H Q →
    wpAny (model X.prog X.w) X.A (f v) (EP X pins σ Q) X.xe s
def CallR (X : Cx) (f : Value) (r : List V → Hp → VK → Prop) : Prop :=
  ∀ (pins : List (Addr × Obj)) (s : Shared) (σ : St) (H : Hp) (xs : List V) (us : List Value) (Q : VK), Inv X pins σ H s → Vals xs us → r xs H Q →
    wpAny (model X.prog X.w) X.A (call f us) (EP X pins σ Q) X.xe s
def TruR (X : Cx) (r : V → Hp → (Bool → Hp → Prop) → Prop) : Prop :=
  ∀ (pins : List (Addr × Obj)) (s : Shared) (σ : St) (H : Hp) (x : V) (v : Value) (Q : Bool → Hp → Prop), Inv X pins σ H s → RelV x v → r x H Q →
    wpAny (model X.prog X.w) X.A (truthy v) (TP X pins σ Q) X.xe s
def tOp (r : R2) (ta tb : TE) : TE := fun σ H Q => ta σ H fun x H1 => tb σ H1 fun y H2 => r x y H2 Q
def tUn (r : V → Hp → VK → Prop) (ta : TE) : TE := fun σ H Q => ta σ H fun x H1 => r x H1 Q
def rI (C : Int → Int → Prop) (g : Int → Int → V) : R2 := fun x y H Q => ∃ i j, x = .int i ∧ y = .int j ∧ C i j ∧ Q (g i j) H
def rI0 (g : Int → Int → V) : R2 := fun x y H Q => ∃ i j, x = .int i ∧ y = .int j ∧ Q (g i j) H
def rU (g : Int → V) : V → Hp → VK → Prop := fun x H Q => ∃ i, x = .int i ∧ Q (g i) H
section
variable {X : Cx} {a b c : Expr} {ta tb tc : TE} {pos : Pos}
theorem binT (ha : PE X a ta) (hb : PE X b tb) {pins : List (Addr × Obj)} {s : Shared} {σ : St} {H : Hp} {R : V → V → Hp → Prop} (I : Inv X pins σ H s)
    (h : ta σ H fun x H1 => tb σ H1 fun y H2 => R x y H2) {Q : Value → Shared → Prop} {f : Value → Value → Sem Value}
    (hf : ∀ v u s2 x y H2, Inv X pins σ H2 s2 → RelV x v → RelV y u → R x y H2 → wpAny (model X.prog X.w) X.A (f v u) Q X.xe s2) :
    wpAny (model X.prog X.w) X.A (eval a X.env) (fun v s₁ => wpAny (model X.prog X.w) X.A (eval b X.env) (fun u s₂ => wpAny (model X.prog X.w) X.A (f v u) Q X.xe s₂) X.xe s₁) X.xe s := by
  refine thn (ha pins s σ H _ I h) fun v s1 ⟨x, H1, I1, r1, q1⟩ => ?_
  refine thn (hb pins s1 σ H1 _ I1 q1) fun u s2 ⟨y, H2, I2, r2, q2⟩ => ?_
  exact hf v u s2 x y H2 I2 r1 r2 q2
theorem pe_op {op : Operator} {r : R2} (ho : OpR X (binaryOp op) r) (ha : PE X a ta) (hb : PE X b tb) : PE X (.BinOp a op b pos) (tOp r ta tb) := by
  intro pins s σ H Q I h
  exact wpAny_BinOp (binT ha hb I h fun v u s2 x y H2 I2 rx ry q => ho pins s2 σ H2 x y v u Q I2 rx ry q)
theorem pe_un {op : UnaryOp} {r : V → Hp → VK → Prop} (ho : UnR X (unaryOp op) r) (ha : PE X a ta) : PE X (.UnaryOp op a pos) (tUn r ta) := by
  intro pins s σ H Q I h
  exact UnaryOp_ (thn (ha pins s σ H _ I h) fun v s1 ⟨x, H1, I1, r1, q1⟩ => ho pins s1 σ H1 x v Q I1 r1 q1)
theorem opI {f : Value → Value → Sem Value} {C : Int → Int → Prop} {g : Int → Int → Int}
    (rule : ∀ (i j : Int) (t u : Tok) (s : Shared) (Q : Value → Shared → Prop) (E : Value → Shared → Prop), C i j → Q (.int (g i j) s.toks) { s with toks := s.toks + 1 } → wpAny (model X.prog X.w) X.A (f (.int i t) (.int j u)) Q E s) :
    OpR X f (rI C fun i j => .int (g i j)) := by
  intro pins s σ H x y v u Q I rx ry h
  obtain ⟨i, j, rfl, rfl, hc, q⟩ := h
  obtain ⟨t, rfl⟩ := rx
  obtain ⟨t', rfl⟩ := ry
  exact rule i j t t' s _ _ hc ⟨.int (g i j), H, I.tok _, ⟨_, rfl⟩, q⟩
theorem opI0 {f : Value → Value → Sem Value} {g : Int → Int → Int}
    (rule : ∀ (i j : Int) (t u : Tok) (s : Shared) (Q : Value → Shared → Prop) (E : Value → Shared → Prop), Q (.int (g i j) s.toks) { s with toks := s.toks + 1 } → wpAny (model X.prog X.w) X.A (f (.int i t) (.int j u)) Q E s) :
    OpR X f (rI0 fun i j => .int (g i j)) := by
  intro pins s σ H x y v u Q I rx ry h
  obtain ⟨i, j, rfl, rfl, q⟩ := h
  obtain ⟨t, rfl⟩ := rx
  obtain ⟨t', rfl⟩ := ry
  exact rule i j t t' s _ _ ⟨.int (g i j), H, I.tok _, ⟨_, rfl⟩, q⟩
theorem opB0 {f : Value → Value → Sem Value} {g : Int → Int → Bool}
    (rule : ∀ (i j : Int) (t u : Tok) (s : Shared) (Q : Value → Shared → Prop) (E : Value → Shared → Prop), Q (.bool (g i j)) s → wpAny (model X.prog X.w) X.A (f (.int i t) (.int j u)) Q E s) :
    OpR X f (rI0 fun i j => .bl (g i j)) := by
  intro pins s σ H x y v u Q I rx ry h
  obtain ⟨i, j, rfl, rfl, q⟩ := h
  obtain ⟨t, rfl⟩ := rx
  obtain ⟨t', rfl⟩ := ry
  exact rule i j t t' s _ _ ⟨.bl (g i j), H, I, rfl, q⟩
def CDiv (i j : Int) : Prop := 0 < j ∧ j < 1073741824
def CPow (i j : Int) : Prop := 0 ≤ j ∧ j ≤ 1000000 ∧ i.natAbs < 2 ^ 64
def CMul (i j : Int) : Prop := (-(2 ^ 64) < i ∧ i < 2 ^ 64) ∨ (-(2 ^ 64) < j ∧ j < 2 ^ 64)
theorem CMul.ok {i j : Int} (h : CMul i j) : IntMulOk i j := by
  rcases h with ⟨h1, h2⟩ | ⟨h1, h2⟩
  · exact .of_left (intBits_le_64 h1 h2)
  · exact .of_right (intBits_le_64 h1 h2)
theorem op_add : OpR X (binaryOp .Add) (rI0 fun i j => .int (i + j)) := opI0 fun _ _ _ _ _ _ _ q => add_int q
theorem op_sub : OpR X (binaryOp .Sub) (rI0 fun i j => .int (i - j)) := opI0 fun _ _ _ _ _ _ _ q => sub_int q
theorem op_mul : OpR X (binaryOp .Mult) (rI CMul fun i j => .int (i * j)) := opI fun _ _ _ _ _ _ _ hc q => mul_int q hc.ok
theorem op_fdiv : OpR X (binaryOp .FloorDiv) (rI CDiv fun i j => .int (i / j)) := opI fun i j _ _ _ _ _ hc q => by
  have h1 : (0 : Int) < j := hc.1
  have h2 : j < 1073741824 := hc.2
  exact floordiv_int (by omega) (by rw [Int.fdiv_eq_ediv_of_nonneg i (by omega)]; exact q) (.inl (PyProof.noPylong_small (by omega)))
theorem op_mod : OpR X (binaryOp .Mod) (rI (fun _ j => 0 < j) fun i j => .int (i % j)) := opI fun i j _ _ _ _ _ hc q => by
  have h1 : (0 : Int) < j := hc
  exact mod_int' (by omega) (by rw [Int.fmod_eq_emod_of_nonneg i (by omega)]; exact q)
theorem op_pow : OpR X (binaryOp .Pow) (rI CPow fun i j => .int (i ^ j.toNat)) := opI fun _ _ _ _ _ _ _ hc q => pow_int_small hc.1 hc.2.1 hc.2.2 q
theorem unI {f : Value → Sem Value} {g : Int → Int}
    (rule : ∀ (i : Int) (t : Tok) (s : Shared) (Q : Value → Shared → Prop) (E : Value → Shared → Prop), Q (.int (g i) s.toks) { s with toks := s.toks + 1 } → wpAny (model X.prog X.w) X.A (f (.int i t)) Q E s) :
    UnR X f (rU fun i => .int (g i)) := by
  intro pins s σ H x v Q I rx h
  obtain ⟨i, rfl, q⟩ := h
  obtain ⟨t, rfl⟩ := rx
  exact rule i t s _ _ ⟨.int (g i), H, I.tok _, ⟨_, rfl⟩, q⟩
theorem un_neg : UnR X (unaryOp .USub) (rU fun i => .int (-i)) := unI fun _ _ _ _ _ q => neg_int q
end
def scal : V → V → Bool
  | .non, .non => true | .non, .int _ => true | .int _, .non => true | .non, .bl _ => true | .bl _, .non => true | .non, .str _ => true | .str _, .non => true
  | .int _, .int _ => true | .bl _, .bl _ => true | .str _, .str _ => true | .byt _, .byt _ => true
  | .int _, .str _ => true | .str _, .int _ => true | .bl _, .str _ => true | .str _, .bl _ => true
  | _, _ => false
def rEq : R2 := fun x y H Q => scal x y = true ∧ Q (.bl (decide (x = y))) H
def rNe : R2 := fun x y H Q => scal x y = true ∧ Q (.bl (!decide (x = y))) H
theorem dec_int {i j : Int} : decide (V.int i = V.int j) = (i == j) := by
  rw [Bool.eq_iff_iff]
  simp
theorem dec_bl {i j : Bool} : decide (V.bl i = V.bl j) = (i == j) := by
  rw [Bool.eq_iff_iff]
  simp
theorem dec_str {i j : Str} : decide (V.str i = V.str j) = (i == j) := by
  rw [Bool.eq_iff_iff]
  simp
theorem dec_byt {i j : Array UInt8} : decide (V.byt i = V.byt j) = (i.toList == j.toList) := by
  rw [Bool.eq_iff_iff]
  cases i
  cases j
  simp
section
variable {X : Cx} {a b c : Expr} {ta tb tc : TE} {pos : Pos}
theorem fin_bl {pins : List (Addr × Obj)} {σ : St} {H : Hp} {s : Shared} {Q : VK} {k k' : Bool} (I : Inv X pins σ H s) (q : Q (.bl k) H) (e : k = k') : EP X pins σ Q (.bool k') s := by
  subst e
  exact ⟨.bl k, H, I, rfl, q⟩
theorem op_eq : OpR X (compareOp .Eq) rEq := by
  intro pins s σ H x y v u Q I rx ry h
  obtain ⟨hs, q⟩ := h
  cases x with
  | non =>
    cases rx
    cases y with
    | non => cases ry; exact PySem.EqNone.eq_none_none (fin_bl I q (by simp))
    | bl j => cases ry; exact PySem.EqNone.eq_none_bool (fin_bl I q (by simp))
    | int j => obtain ⟨t', rfl⟩ := ry; exact PySem.EqNone.eq_none_int (fin_bl I q (by simp))
    | str j => obtain ⟨t', rfl⟩ := ry; exact PySem.EqNone.eq_none_str (fin_bl I q (by simp))
    | _ => exact absurd (show false = true from hs) Bool.false_ne_true
  | bl i =>
    cases rx
    cases y with
    | non => cases ry; exact PySem.EqNone.eq_bool_none (fin_bl I q (by simp))
    | bl j => cases ry; exact eq_bool (fin_bl I q dec_bl)
    | str j => obtain ⟨t', rfl⟩ := ry; exact PySem.EqMixed.eq_bool_str (fin_bl I q (by simp))
    | _ => exact absurd (show false = true from hs) Bool.false_ne_true
  | int i =>
    obtain ⟨t, rfl⟩ := rx
    cases y with
    | non => cases ry; exact PySem.EqNone.eq_int_none (fin_bl I q (by simp))
    | int j => obtain ⟨t', rfl⟩ := ry; exact eq_int (fin_bl I q dec_int)
    | str j => obtain ⟨t', rfl⟩ := ry; exact PySem.EqMixed.eq_int_str (fin_bl I q (by simp))
    | _ => exact absurd (show false = true from hs) Bool.false_ne_true
  | str i =>
    obtain ⟨t, rfl⟩ := rx
    cases y with
    | non => cases ry; exact PySem.EqNone.eq_str_none (fin_bl I q (by simp))
    | bl j => cases ry; exact PySem.EqMixed.eq_str_bool (fin_bl I q (by simp))
    | int j => obtain ⟨t', rfl⟩ := ry; exact PySem.EqMixed.eq_str_int (fin_bl I q (by simp))
    | str j => obtain ⟨t', rfl⟩ := ry; exact eq_str (fin_bl I q dec_str)
    | _ => exact absurd (show false = true from hs) Bool.false_ne_true
  | byt i =>
    obtain ⟨t, rfl⟩ := rx
    cases y with
    | byt j => obtain ⟨t', rfl⟩ := ry; exact PySem.W.eq_bytes (fin_bl I q dec_byt)
    | _ => exact absurd (show false = true from hs) Bool.false_ne_true
  | _ => cases y <;> exact absurd (show false = true from hs) Bool.false_ne_true
theorem op_ne : OpR X (compareOp .NotEq) rNe := by
  intro pins s σ H x y v u Q I rx ry h
  obtain ⟨hs, q⟩ := h
  cases x with
  | non =>
    cases rx
    cases y with
    | non => cases ry; exact PySem.EqNone.ne_none_none (fin_bl I q (by simp))
    | bl j => cases ry; exact PySem.EqNone.ne_none_bool (fin_bl I q (by simp))
    | int j => obtain ⟨t', rfl⟩ := ry; exact PySem.EqNone.ne_none_int (fin_bl I q (by simp))
    | str j => obtain ⟨t', rfl⟩ := ry; exact PySem.EqNone.ne_none_str (fin_bl I q (by simp))
    | _ => exact absurd (show false = true from hs) Bool.false_ne_true
  | bl i =>
    cases rx
    cases y with
    | non => cases ry; exact PySem.EqNone.ne_bool_none (fin_bl I q (by simp))
    | bl j => cases ry; exact ne_bool (fin_bl I q (congrArg not dec_bl))
    | str j => obtain ⟨t', rfl⟩ := ry; exact PySem.EqMixed.ne_bool_str (fin_bl I q (by simp))
    | _ => exact absurd (show false = true from hs) Bool.false_ne_true
  | int i =>
    obtain ⟨t, rfl⟩ := rx
    cases y with
    | non => cases ry; exact PySem.EqNone.ne_int_none (fin_bl I q (by simp))
    | int j => obtain ⟨t', rfl⟩ := ry; exact ne_int (fin_bl I q (congrArg not dec_int))
    | str j => obtain ⟨t', rfl⟩ := ry; exact PySem.EqMixed.ne_int_str (fin_bl I q (by simp))
    | _ => exact absurd (show false = true from hs) Bool.false_ne_true
  | str i =>
    obtain ⟨t, rfl⟩ := rx
    cases y with
    | non => cases ry; exact PySem.EqNone.ne_str_none (fin_bl I q (by simp))
    | bl j => cases ry; exact PySem.EqMixed.ne_str_bool (fin_bl I q (by simp))
    | int j => obtain ⟨t', rfl⟩ := ry; exact PySem.EqMixed.ne_str_int (fin_bl I q (by simp))
    | str j => obtain ⟨t', rfl⟩ := ry; exact ne_str (fin_bl I q (congrArg not dec_str))
    | _ => exact absurd (show false = true from hs) Bool.false_ne_true
  | byt i =>
    obtain ⟨t, rfl⟩ := rx
    cases y with
    | byt j => obtain ⟨t', rfl⟩ := ry; exact PySem.W.ne_bytes (fin_bl I q (congrArg not dec_byt))
    | _ => exact absurd (show false = true from hs) Bool.false_ne_true
  | _ => cases y <;> exact absurd (show false = true from hs) Bool.false_ne_true
theorem op_lt : OpR X (compareOp .Lt) (rI0 fun i j => .bl (decide (i < j))) := opB0 fun _ _ _ _ _ _ _ q => lt_int q
theorem op_le : OpR X (compareOp .LtE) (rI0 fun i j => .bl (decide (i ≤ j))) := opB0 fun _ _ _ _ _ _ _ q => le_int q
theorem op_gt : OpR X (compareOp .Gt) (rI0 fun i j => .bl (decide (j < i))) := opB0 fun _ _ _ _ _ _ _ q => gt_int q
theorem op_in_str : OpR X (compareOp .In) (fun x y H Q => ∃ i j, x = .str i ∧ y = .str j ∧ Q (.bl (!(Builtin.Str.occurrences j i 0 j.length 1).isEmpty)) H) := by
  intro pins s σ H x y v u Q I rx ry h
  obtain ⟨i, j, rfl, rfl, q⟩ := h
  obtain ⟨t, rfl⟩ := rx
  obtain ⟨t', rfl⟩ := ry
  exact in_str (fin_bl I q rfl)
theorem nomark (b : Expr) {op : CmpOp} (h : op ≠ .In := by decide) (h2 : op ≠ .NotIn := by decide) : behindInMarks op b = false := by
  have e1 : (op == CmpOp.In) = false := by cases op <;> first | rfl | exact absurd rfl h
  have e2 : (op == CmpOp.NotIn) = false := by cases op <;> first | rfl | exact absurd rfl h2
  cases b <;> simp [behindInMarks, e1, e2]
theorem pe_cmpR {op : CmpOp} {r : R2} (ho : OpR X (compareOp op) r) (ha : PE X a ta) (hb : PE X b tb) (hm : behindInMarks op b = false) : PE X (.Compare a [op] [b] pos) (tOp r ta tb) := by
  intro pins s σ H Q I h
  exact wpAny_Compare1 (binT ha hb I h fun v u s2 x y H2 I2 rx ry q => ho pins s2 σ H2 x y v u Q I2 rx ry q) hm
def tTest (t : TE) : TT := fun σ H Q => t σ H fun x H' => ∃ k, x = .bl k ∧ Q k H'
theorem pt_cmpR {op : CmpOp} {r : R2} (ho : OpR X (compareOp op) r) (ha : PE X a ta) (hb : PE X b tb) (hm : behindInMarks op b = false) : PT X (.Compare a [op] [b] pos) (tTest (tOp r ta tb)) := by
  intro pins s σ H Q I h
  refine wpAny_isTrue_Compare1 (thn (ha pins s σ H _ I h) fun v s1 ⟨x, H1, I1, r1, q1⟩ => thn (hb pins s1 σ H1 _ I1 q1) fun u s2 ⟨y, H2, I2, r2, q2⟩ =>
    thn (ho pins s2 σ H2 x y v u _ I2 r1 r2 q2) fun c s3 ⟨z, H3, I3, r3, k, e, q3⟩ => ?_) hm
  subst e
  cases r3
  exact wpAny_truthy_bool ⟨H3, I3, q3⟩
def tChain (r r' : R2) (ta tb tc : TE) : TE := fun σ H Q => ta σ H fun x H1 => tb σ H1 fun y H2 => r x y H2 fun z H3 => ∃ k, z = .bl k ∧
  (if k = true then tc σ H3 fun w' H4 => r' y w' H4 Q else Q (.bl false) H3)
def TruV (K : PySem.W.Frag) (x : V) (H : Hp) (k : Bool) : Prop :=
  match x with
  | .non => k = false
  | .bl b => k = b
  | .int i => k = (i != 0)
  | .str y => y.length ≤ sizeLine ∧ k = ((y.length : Int) != 0)
  | .byt y => y.size ≤ sizeLine ∧ k = ((y.size : Int) != 0)
  | .ref p => (∃ xs, SqL K H p xs ∧ k = !xs.isEmpty) ∨ (∃ xs, SqT K H p xs ∧ k = !xs.isEmpty) ∨ ∃ kvs, H p = some (.dK kvs) ∧ k = !kvs.isEmpty
  | _ => False
theorem isEmpty_kv {κ : Type} {kvs : List (κ × V)} {vs : List (κ × Value)} (r : KV kvs vs) : (!vs.isEmpty) = !kvs.isEmpty := by
  cases r <;> rfl
theorem isEmpty_of {xs : List V} {its : List Value} (r : Vals xs its) : (!its.toArray.isEmpty) = !xs.isEmpty := by
  cases r <;> simp
theorem line63 : (sizeLine : Nat) < 2 ^ 63 := by rw [sizeLine_eq]; decide
theorem tru_ok : TruR X (fun x H Q => ∃ k, TruV X.K x H k ∧ Q k H) := by
  intro pins s σ H x v Q I rx h
  obtain ⟨k, e, q⟩ := h
  have hl := line63
  have hs : sizeLine = 16777216 := sizeLine_eq
  cases x with
  | non =>
    cases rx
    have e' : k = false := e
    subst e'
    exact truthy_none ⟨H, I, q⟩
  | bl b =>
    cases rx
    have e' : k = b := e
    subst e'
    exact wpAny_truthy_bool ⟨H, I, q⟩
  | int i =>
    obtain ⟨t, rfl⟩ := rx
    have e' : k = (i != 0) := e
    subst e'
    exact PySem.P.truthy_int ⟨H, I, q⟩
  | str y =>
    obtain ⟨t, rfl⟩ := rx
    obtain ⟨hy, e'⟩ : y.length ≤ sizeLine ∧ k = ((y.length : Int) != 0) := e
    subst e'
    exact PySem.P.truthy_str (by omega) ⟨H, I.tok _, q⟩
  | byt y =>
    obtain ⟨t, rfl⟩ := rx
    obtain ⟨hy, e'⟩ : y.size ≤ sizeLine ∧ k = ((y.size : Int) != 0) := e
    subst e'
    exact PySem.W.truthy_bytes (by omega) ⟨H, I.tok _, q⟩
  | ref p =>
    cases rx
    have e' : (∃ xs, SqL X.K H p xs ∧ k = !xs.isEmpty) ∨ (∃ xs, SqT X.K H p xs ∧ k = !xs.isEmpty) ∨ ∃ kvs, H p = some (.dK kvs) ∧ k = !kvs.isEmpty := e
    rcases e' with ⟨xs, hx, e'⟩ | ⟨xs, hx, e'⟩ | ⟨kvs, hx, e'⟩
    · subst e'
      obtain ⟨its, r, pl, hz⟩ := I.list hx
      have hlen := r.length
      exact wpAny_truthy_list pl.isList (by simp only [List.size_toArray]; omega) ⟨H, I.tok _, by rw [isEmpty_of r]; exact q⟩
    · subst e'
      obtain ⟨its, r, pl, hz⟩ := I.tuple hx
      have hlen := r.length
      exact truthy_tuple pl (by simp only [List.size_toArray]; omega) ⟨H, I.tok _, by rw [isEmpty_of r]; exact q⟩
    · subst e'
      obtain ⟨hz, hS, vs, r, m⟩ : kvs.length ≤ sizeLine ∧ (p == sysModules) = false ∧ ∃ vs, KV kvs vs ∧ s.heap.DictOf (mixKind X.prog X.w) p vs := I.hok p _ hx
      have hlen : kvs.length = vs.length := Paired.length r
      exact wpAny_truthy_dict hS m (by omega) ⟨H, I.tok _, by rw [isEmpty_kv r]; exact q⟩
  | _ => exact (show False from e).elim
theorem pt_truth (ha : PE X a ta) (he : ∀ whole, isTrue a X.env whole = (do let v ← whole; standAt a.pos; holding [v] (truthy v))) :
    PT X a (fun σ H Q => ta σ H fun x H' => ∃ k, TruV X.K x H' k ∧ Q k H') := by
  intro pins s σ H Q I h
  exact isTrue_plain (thn (ha pins s σ H _ I h) fun v s1 ⟨x, H1, I1, r1, q1⟩ => tru_ok pins s1 σ H1 x v Q I1 r1 q1) (he _)
theorem op_add_str : OpR X (binaryOp .Add) (fun x y H Q => ∃ i j, x = .str i ∧ y = .str j ∧ i.length + j.length ≤ sizeLine ∧ Q (.str (i ++ j)) H) := by
  intro pins s σ H x y v u Q I rx ry h
  obtain ⟨i, j, rfl, rfl, hz, q⟩ := h
  obtain ⟨t, rfl⟩ := rx
  obtain ⟨t', rfl⟩ := ry
  exact add_str (fun t' tk => ⟨.str (i ++ j), H, I.tok _, ⟨_, rfl⟩, q⟩) hz
theorem vals1 {x : V} {us : List Value} (r : Vals [x] us) : ∃ u, us = [u] ∧ RelV x u := by
  cases r with
  | cons r1 r2 => cases r2; exact ⟨_, rfl, r1⟩
theorem vals2 {x y : V} {us : List Value} (r : Vals [x, y] us) : ∃ u w', us = [u, w'] ∧ RelV x u ∧ RelV y w' := by
  cases r with
  | cons r1 r2 =>
    cases r2 with
    | cons r3 r4 => cases r4; exact ⟨_, _, rfl, r1, r3⟩
theorem call_int1 : CallR X (.type "int") (fun xs H Q => (∃ i, xs = [.int i] ∧ Q (.int i) H) ∨ ∃ k, xs = [.bl k] ∧ Q (.int (if k then 1 else 0)) H) := by
  intro pins s σ H xs us Q I r h
  rcases h with ⟨i, rfl, q⟩ | ⟨k, rfl, q⟩
  · obtain ⟨u, rfl, t, rfl⟩ := vals1 r
    exact call_int_int ⟨.int i, H, I, ⟨_, rfl⟩, q⟩
  · obtain ⟨u, rfl, r1⟩ := vals1 r
    cases r1
    exact call_int_bool ⟨.int (if k then 1 else 0), H, I.tok _, ⟨_, rfl⟩, q⟩
theorem call_str_int : CallR X (.type "str") (fun xs H Q => ∃ i, xs = [.int i] ∧ i.natAbs.log2 < 1920 ∧ Q (.str (toString i)) H) := by
  intro pins s σ H xs us Q I r h
  obtain ⟨i, rfl, hz, q⟩ := h
  obtain ⟨u, rfl, t, rfl⟩ := vals1 r
  exact PySem.P.str_of_int hz ⟨.str _, H, I.tok _, ⟨_, rfl⟩, q⟩
end
end L2
namespace L2
open PySem PySem.Spec PyProof.Rows
structure ObjM (h : Heap) (x dx C : Addr) (mA : Str → Option Value) : Prop where
  obj : h.get? x = some (PySem.W.instObj C dx)
  ns : h.Ns1 dx mA
  ne : dx ≠ x
theorem lookIn_ns {h : Heap} {dx : Addr} {mA : Str → Option Value} (n : h.Ns1 dx mA) : ∃ od, h.get? dx = some od ∧ ∀ name, PySem.W.lookIn name od = some (mA name) := by
  obtain ⟨o, es, ep, ho, hd, hk, _, hm⟩ := n
  refine ⟨o, ho, fun name => ?_⟩
  have e := hm name
  unfold nsFind findBy at e
  rw [← Array.find?_toList] at e
  unfold PySem.W.lookIn
  rw [hd]
  dsimp only
  split
  · rename_i y q
    rw [q] at e
    exact congrArg some e
  · rename_i q
    rw [q] at e
    have a : es.toList.any (·.refKey) = false := by
      rw [List.any_eq_false]
      intro y hy
      obtain ⟨z, t, hkey⟩ := hk y (Array.mem_toList_iff.mp hy)
      simp [DictEntry.refKey, hkey]
    have a' : ¬ es.toList.any (·.refKey) = true := by rw [a]; exact Bool.false_ne_true
    rw [if_neg a']
    exact congrArg some e
theorem ObjM.look {h : Heap} {x dx C : Addr} {mA : Str → Option Value} (I : ObjM h x dx C mA) : ∃ od, PySem.W.InstAt h x (PySem.W.instObj C dx) C (some od) ∧ ∀ name, PySem.W.lookIn name od = some (mA name) :=
  let ⟨od, ho, hl⟩ := lookIn_ns I.ns
  ⟨od, ⟨I.obj, rfl, rfl, ho⟩, hl⟩
theorem RelO.some_of {v : V} {o : Option Value} (r : RelO (some v) o) : ∃ u, o = some u ∧ RelV v u := by
  cases o with
  | none => exact (show False from r).elim
  | some u => exact ⟨u, rfl, r⟩
section
variable {P : Program} {w : World} {H H' : Hp} {h h' : Heap} {a C dx : Addr} {fs fs' : List (Str × V)}
theorem ins_get (hok : HOk P w H h) (e : H a = some (.ins C dx fs)) : ∃ mA, ObjM h a dx C mA ∧ (∀ f, RelO (fs.lookup f) (mA f)) ∧ PySem.Within mA (fs.map (·.1)) ∧ fs.length ≤ 1000 ∧ H dx = some (.own a) := by
  obtain ⟨d, z, ne, ob, mA, n, r, q⟩ := (show ObjOk P w H h a (.ins C dx fs) from hok a _ e)
  exact ⟨mA, ⟨ob, n, ne⟩, r, q, z, d⟩
end
structure Cls (K : PySem.W.Frag) (C : Addr) : Prop where
  pg : PySem.W.plainGet K C Str.empty = true
  hd : PySem.W.hasDictIn K C = true
  po : PySem.W.plainOver K C = true
  sa : PySem.W.findIn K (.ref C) "__setattr__" = some (some (.builtin "object.__setattr__"))
theorem Cls.get {K : PySem.W.Frag} {C : Addr} (c : Cls K C) (f : Str) : PySem.W.plainGet K C f = true := c.pg
section
variable {X : Cx} {pins : List (Addr × Obj)} {σ : St} {H : Hp} {s : Shared} {A : Around} {E : Value → Shared → Prop} {Q : Value → Shared → Prop} {c : Value} {b : Bool}
inductive TyOf (K : PySem.W.Frag) (H : Hp) : V → Value → Prop where
  | non : TyOf K H .non (.type "NoneType")
  | bl (x : Bool) : TyOf K H (.bl x) (.type "bool")
  | int (i : Int) : TyOf K H (.int i) (.type "int")
  | str (x : Str) : TyOf K H (.str x) (.type "str")
  | flt (x : UInt64) : TyOf K H (.flt x) (.type "float")
  | lst {a : Addr} {xs : List V} (e : H a = some (.lst xs)) : TyOf K H (.ref a) (.type "list")
  | frz {a : Addr} {o : Obj} {xs : List V} (e : H a = some (.frz o (.lst xs))) : TyOf K H (.ref a) (.type "list")
  | tup {a : Addr} {xs : List V} (e : H a = some (.tup xs)) : TyOf K H (.ref a) (.type "tuple")
  | dK {a : Addr} {kvs : List (Key × V)} (e : H a = some (.dK kvs)) : TyOf K H (.ref a) (.type "dict")
  | dT {a : Addr} {kvs : List (List Key × V)} (e : H a = some (.dT kvs)) : TyOf K H (.ref a) (.type "dict")
  | ins {a C dx : Addr} {fs : List (Str × V)} (e : H a = some (.ins C dx fs)) (cl : Cls K C) (ha : PySem.W.findIn K (.ref C) "__class__" = some (some (.builtin "object.__class__")))
      (hn : PySem.W.specialIn K (.builtin "object.__class__") "__get__" = some (some (.builtin "getset_descriptor.__get__"))) (htk : PySem.W.takesIn K (.builtin "object.__class__") = some true)
      (hm : PySem.W.mroIn K C (.type "object") = some true) : TyOf K H (.ref a) (.ref C)
theorem isinst_ok {x : V} {u t : Value} (I : Inv X pins σ H s) (rx : RelV x u) (ty : TyOf X.K H x t) (e : PySem.W.kitOne X.K t c = some b) (h : ∀ tk, Q (.bool b) { s with toks := tk }) :
    wpAny (model X.prog X.w) A (call (.builtin "isinstance") [u, c]) Q E s := by
  cases ty with
  | non => cases (show u = Value.none from rx); exact PySem.W.kia_one PySem.W.kitx_none I.kIn True.intro e (fun z => nomatch z) h
  | bl y => cases (show u = Value.bool y from rx); exact PySem.W.kia_one PySem.W.kitx_bool I.kIn True.intro e (fun z => nomatch z) h
  | int i => obtain ⟨t, q⟩ := (show ∃ t, u = Value.int i t from rx); cases q; exact PySem.W.kia_one PySem.W.kitx_int I.kIn True.intro e (fun z => nomatch z) h
  | str y => obtain ⟨t, q⟩ := (show ∃ t, u = Value.str y t from rx); cases q; exact PySem.W.kia_one PySem.W.kitx_str I.kIn True.intro e (fun z => nomatch z) h
  | flt y => obtain ⟨t, q⟩ := (show ∃ t, u = Value.float y t from rx); cases q; exact PySem.W.kia_one PySem.W.kitx_float I.kIn True.intro e (fun z => nomatch z) h
  | @lst a xs ea =>
    cases (show u = Value.ref a from rx)
    obtain ⟨_, _, n, _, h1⟩ := (show ObjOk X.prog X.w H s.heap a (.lst xs) from I.hok a _ ea)
    exact PySem.W.kia_one PySem.W.kitx_list I.kIn ⟨_, h1, rfl⟩ e (fun z => nomatch z) h
  | @frz a ob xs ea =>
    cases (show u = Value.ref a from rx)
    obtain ⟨_, _, _, n, _, h1⟩ := (show ObjOk X.prog X.w H s.heap a (.frz ob (.lst xs)) from I.hok a _ ea)
    exact PySem.W.kia_one PySem.W.kitx_list I.kIn ⟨_, h1, rfl⟩ e (fun z => nomatch z) h
  | @tup a xs ea =>
    cases (show u = Value.ref a from rx)
    obtain ⟨_, _, _, p⟩ := (show ObjOk X.prog X.w H s.heap a (.tup xs) from I.hok a _ ea)
    obtain ⟨o, h1, h2, _⟩ := p
    exact PySem.W.kia_one PySem.W.kitx_tuple I.kIn ⟨o, h1, h2⟩ e (fun z => nomatch z) h
  | @dK a kvs ea =>
    cases (show u = Value.ref a from rx)
    obtain ⟨_, _, vs, _, p⟩ := (show ObjOk X.prog X.w H s.heap a (.dK kvs) from I.hok a _ ea)
    obtain ⟨o, es, ep, h1, h2, _⟩ := p
    exact PySem.W.kia_one PySem.W.kitx_dict I.kIn ⟨o, h1, h2.1⟩ e (fun z => nomatch z) h
  | @dT a kvs ea =>
    cases (show u = Value.ref a from rx)
    obtain ⟨_, _, xs, _, o, es, ep, h1, h2, _⟩ := (show ObjOk X.prog X.w H s.heap a (.dT kvs) from I.hok a _ ea)
    exact PySem.W.kia_one PySem.W.kitx_dict I.kIn ⟨o, h1, h2.1⟩ e (fun z => nomatch z) h
  | @ins a C dx fs ea cl ha hn htk hm =>
    cases (show u = Value.ref a from rx)
    obtain ⟨mA, O, _⟩ := ins_get I.hok ea
    obtain ⟨od, J, _⟩ := O.look
    exact PySem.W.kia_one (PySem.W.kitx_own (cl.get _) cl.hd ha hn htk hm) I.kIn J e (fun z => nomatch z) h
end
end L2
namespace L2
open PySem PySem.Spec PyProof.Rows
structure Room (k : Nat) (A : Around) : Prop where
  hd : A.handled = none
  dp : A.depth + 3 * k + 5 < recursionLimit
  un : A.units + 16 * k + 200 < cLine
theorem Room.mono {j k : Nat} {A : Around} (r : Room k A) (h : j ≤ k) : Room j A := ⟨r.hd, by have := r.dp; omega, by have := r.un; omega⟩
theorem Room.deeper {k : Nat} {A : Around} (r : Room (k + 1) A) (env : Env) : Room k (A.deeper env) :=
  ⟨r.hd, by have := r.dp; show A.depth + 1 + 3 * k + 5 < _; omega, by have := r.un; show A.units + 3 + 16 * k + 200 < _; omega⟩
theorem Room.depth {k : Nat} {A : Around} (r : Room k A) : A.depth < recursionLimit := by have := r.dp; omega
theorem Room.units {k : Nat} {A : Around} (r : Room k A) : A.units + 64 < cLine := by have := r.un; omega
def tNil : TA := fun _ H Q => Q [] H
def tCons (ta : TE) (tr : TA) : TA := fun σ H Q => ta σ H fun x H1 => tr σ H1 fun xs H2 => Q (x :: xs) H2
section
variable {X : Cx} {e : Expr} {es : List Expr} {te : TE} {t : TA} {pos : Pos}
theorem pa_nil : PA X [] tNil := fun _ _ _ _ H Q I h => Calls.spliced_nil ⟨[], H, I, .nil, h⟩
theorem pa_cons (ha : PE X e te) (hr : PA X es t) (hs : starEach (e :: es) X.env = (false, eval e X.env) :: starEach es X.env := by rfl) : PA X (e :: es) (tCons te t) := by
  intro pos pins s σ H Q I h
  rw [hs]
  show wpAny _ _ (spliced ((false, eval e X.env) :: backTo pos (starEach es X.env))) _ _ s
  refine Calls.spliced_cons (thn (ha pins s σ H _ I h) fun u s1 ⟨x, H1, I1, r1, q1⟩ => ?_)
  exact thn (hr pos pins s1 σ H1 _ I1 q1) fun us s2 ⟨xs, H2, I2, r2, q2⟩ => ⟨x :: xs, H2, I2, .cons r1 r2, q2⟩
def tTup (t : TA) : TE := fun σ H Q => t σ H fun xs H1 => xs.length ≤ sizeLine ∧ ∀ p, H1 p = none → Q (.ref p) (upd H1 p (.tup xs))
def tLst (t : TA) : TE := fun σ H Q => t σ H fun xs H1 => xs.length ≤ sizeLine ∧ ∀ p, H1 p = none → Q (.ref p) (upd H1 p (.lst xs))
end
abbrev Sp := List V → Hp → VK → XK → Prop
abbrev CXT := List Env → Hp → Shared → XK → Value → Shared → Prop
structure Env0 (P : Program) (w : World) (K : PySem.W.Frag) (mg : Str → Option Value) (base : Heap) (A : Around) (outer : List Env) (s : Shared) (H : Hp) : Prop where
  frames : A.frames = some outer
  mod : Mod K mg base
  bs : ∀ b o, base.get? b = some o → s.heap.get? b = some o ∧ H b = none
  bsz : base.objs.size ≤ s.heap.objs.size
  funs : s.heap.FunFrames base outer
  frf : ∀ b ∈ frs outer, H b = none
  hok : HOk P w H s.heap
  bare : AllBare s.gens
def CE (outer : List Env) (P : Program) (w : World) (H : Hp) (s : Shared) (Q : VK) (u : Value) (s' : Shared) : Prop :=
  ∃ v H', s'.os = s.os ∧ AllBare s'.gens ∧ Un (frs outer) [] H H' s.heap s'.heap ∧ HOk P w H' s'.heap ∧ RelV v u ∧ Q v H'
def CR (CX : CXT) (outer : List Env) (P : Program) (w : World) (H : Hp) (s : Shared) (Q : VK) (E : XK) (r : Result) (s' : Shared) : Prop :=
  match r with
  | .ok (.ret u) => CE outer P w H s Q u s'
  | .ok _ => False
  | .error e => CX outer H s E e s'
structure FnOk (P : Program) (w : World) (K : PySem.W.Frag) (mg : Str → Option Value) (base : Heap) (CX : CXT) (k : Nat) (f : Addr) (fd : FuncData) (ps : List Str) (sp : Sp) : Prop where
  len : ∀ vs H Q E, sp vs H Q E → vs.length = ps.length
  run : ∀ (A : Around) (outer : List Env) (s : Shared) (H : Hp) (args : Args) (us : List Value) (vs : List V) (Q : VK) (E : XK), Room k A → Env0 P w K mg base A outer s H → BindsTo s fd args (ps.zip us) → Vals vs us → sp vs H Q E →
    codeAny (model P w) A (.call (.ref f) args) (CR CX outer P w H s Q E) s
theorem FnOk.mono {P : Program} {w : World} {K : PySem.W.Frag} {mg : Str → Option Value} {base : Heap} {CX : CXT} {j k : Nat} {f : Addr} {fd : FuncData} {ps : List Str} {sp : Sp} (F : FnOk P w K mg base CX j f fd ps sp) (h : j ≤ k) :
    FnOk P w K mg base CX k f fd ps sp := ⟨F.len, fun A outer s H args us vs Q E hr => F.run A outer s H args us vs Q E (hr.mono h)⟩
section
variable {X : Cx} {pins : List (Addr × Obj)} {σ : St} {H : Hp} {s s' : Shared}
theorem Inv.env0 (I : Inv X pins σ H s) : Env0 X.prog X.w X.K X.mg X.base X.A X.stack s H :=
  ⟨I.ok.frames, I.ok.mod, I.bs, Nat.le_trans I.ok.bsz I.sz, I.stack, I.stkFree, I.hok, I.bare⟩
theorem Inv.after {Q : VK} {u : Value} (I : Inv X pins σ H s) (h : CE X.stack X.prog X.w H s Q u s') : EP X pins σ Q u s' := by
  obtain ⟨v, H', os, bare, un, hok, r, q⟩ := h
  obtain ⟨hh, g, d, t, os'⟩ := s'
  obtain rfl : os' = s.os := os
  exact ⟨v, H', I.call (h' := hh) (g' := g) (d' := d) (t' := t) (ch := []) un hok bare (fun b z => absurd z (by simp)), r, q⟩
end
def tCall (sp : Sp) (dvs : List V) (E : XK) (t : TA) : TE := fun σ H Q => t σ H fun vs H1 => sp (vs ++ dvs) H1 Q E
def Binds (K : PySem.W.Frag) (fd : FuncData) (ps : List Str) (ds : List Value) : Prop :=
  ∀ (s : Shared) (us : List Value), K.In s.heap → (us ++ ds).length = ps.length → BindsTo s fd ⟨us, []⟩ (ps.zip (us ++ ds))
theorem Binds.all {K : PySem.W.Frag} {fd : FuncData} {ps : List Str} (h : ∀ us : List Value, us.length = ps.length → bindArgs fd ⟨us, []⟩ = pure (ps.zip us)) : Binds K fd ps [] := fun s us _ hl => by
  rw [List.append_nil] at hl ⊢
  exact .of_eq (h us hl)
def Passes (CX : CXT) (X : Cx) (E : XK) : Prop := ∀ (pins : List (Addr × Obj)) (σ : St) (H : Hp) (s : Shared) (e : Value) (s' : Shared), Inv X pins σ H s → CX X.stack H s E e s' → X.xe e s'
section
variable {X : Cx} {CX : CXT} {k : Nat} {f C : Addr} {fd : FuncData} {ps : List Str} {sp : Sp} {dvs : List V} {ds : List Value} {E : XK} {x m : Str} {p pos apos : Pos} {e o : Expr} {es : List Expr} {ta : TE} {t : TA}
theorem run_fn {pins : List (Addr × Obj)} {σ : St} {H : Hp} {s : Shared} {Q : VK} {us : List Value} {vs : List V} (F : FnOk X.prog X.w X.K X.mg X.base CX k f fd ps sp) (hr : Room k X.A) (hb : Binds X.K fd ps ds) (hd : Vals dvs ds) (hx : Passes CX X E)
    (I : Inv X pins σ H s) (r : Vals vs us) (h : sp (vs ++ dvs) H Q E) : wpAny (model X.prog X.w) X.A (call (.ref f) us) (EP X pins σ Q) X.xe s := by
  have r2 : Vals (vs ++ dvs) (us ++ ds) := r.append hd
  have hl : (us ++ ds).length = ps.length := by rw [← r2.length]; exact F.len _ _ _ _ h
  refine wpAny_call (codeAny_mono (F.run X.A X.stack s H ⟨us, []⟩ (us ++ ds) (vs ++ dvs) Q E hr I.env0 (hb s us I.kIn hl) r2 h) fun r s' hq => ?_)
  cases r with
  | error e => exact hx pins σ H s e s' I hq
  | ok fl =>
    cases fl with
    | ret u => exact I.after hq
    | next => exact False.elim hq
    | brk => exact False.elim hq
    | cont => exact False.elim hq
theorem pe_call (F : FnOk X.prog X.w X.K X.mg X.base CX k f fd ps sp) (hr : Room k X.A) (hg : Gl X x) (hm : X.mg x = some (.ref f)) (hk : PySem.W.keepIn X.K (.ref f) = true) (hb : Binds X.K fd ps ds) (hd : Vals dvs ds) (hx : Passes CX X E)
    (ha : PA X (e :: es) t) (hdb : (x == ("__debug__" : Str)) = false := by decide) (he : starEach (e :: es) X.env = (false, eval e X.env) :: starEach es X.env := by rfl) (hpl : (backTo pos (starEach es X.env)).any (·.1) = false := by rfl) :
    PE X (.Call (.Name x p) (e :: es) [] pos) (tCall sp dvs E t) := by
  intro pins s σ H Q I h
  refine wpAny_Call_Name_kw (ld_glob I hg hm ?_ hdb)
  refine PySem.W.callWith_K (h₀ := X.base) I.ok.mod.kin hk (thn (ha pos pins s σ H _ I h) fun us s1 ⟨vs, H1, I1, r, q⟩ => ⟨I1.kIn, ?_⟩) he hpl
  exact run_fn F hr hb hd hx I1 r q
end
structure FnScope (N P : List Str) (sc : Scope) : Prop where
  kind : sc.kind = .function
  co : sc.isCoroutine = false
  gen : sc.isGenerator = false
  nd : N.Nodup
  pre : N.take P.length = P
  par : ∀ x ∈ P, sc.names.lookup x = some .local ∨ sc.names.lookup x = some .cell
  nofree : ∀ y ∈ sc.names, y.2 ≠ .free
theorem bindL_out {kindOf : Str → Option NameKind} {x : Str} : ∀ {binds : List (Str × Value)} {m : Str → Option Value}, (∀ v, (x, v) ∉ binds) → bindL kindOf binds m x = m x
  | [], _, _ => rfl
  | (n, v) :: r, m, h => by
    unfold bindL
    rw [bindL_out fun w hw => h w (List.mem_cons_of_mem _ hw)]
    split
    · have : x ≠ n := by rintro rfl; exact h v List.mem_cons_self
      simp [this]
    · rfl
theorem bindC_out {kindOf : Str → Option NameKind} {x : Str} : ∀ {binds : List (Str × Value)} {m : Str → Option Value}, (∀ v, (x, v) ∉ binds) → bindC kindOf binds m x = m x
  | [], _, _ => rfl
  | (n, v) :: r, m, h => by
    unfold bindC
    rw [bindC_out fun w hw => h w (List.mem_cons_of_mem _ hw)]
    split
    · rfl
    · have : x ≠ n := by rintro rfl; exact h v List.mem_cons_self
      simp [this]
theorem bindL_get {kindOf : Str → Option NameKind} {x : Str} {v : Value} : ∀ {P : List Str} {vs : List Value} {i : Nat} {m : Str → Option Value}, P.Nodup → P[i]? = some x → vs[i]? = some v → kindOf x = some .local →
    bindL kindOf (P.zip vs) m x = some v
  | [], _, _, _, _, h, _, _ => by simp at h
  | _ :: _, [], _, _, _, _, h, _ => by simp at h
  | p :: P, w :: vs, 0, m, nd, h1, h2, hk => by
    simp at h1 h2; subst h1; subst h2
    show bindL kindOf ((p, w) :: P.zip vs) m p = _
    unfold bindL
    rw [bindL_out fun v hv => (List.nodup_cons.mp nd).1 (List.of_mem_zip hv).1, if_pos hk]
    simp
  | p :: P, w :: vs, i + 1, m, nd, h1, h2, hk => by
    show bindL kindOf ((p, w) :: P.zip vs) m x = _
    unfold bindL
    exact bindL_get (i := i) (List.nodup_cons.mp nd).2 (by simpa using h1) (by simpa using h2) hk
theorem bindC_get {kindOf : Str → Option NameKind} {x : Str} {v : Value} : ∀ {P : List Str} {vs : List Value} {i : Nat} {m : Str → Option Value}, P.Nodup → P[i]? = some x → vs[i]? = some v → kindOf x ≠ some .local →
    bindC kindOf (P.zip vs) m x = some v
  | [], _, _, _, _, h, _, _ => by simp at h
  | _ :: _, [], _, _, _, _, h, _ => by simp at h
  | p :: P, w :: vs, 0, m, nd, h1, h2, hk => by
    simp at h1 h2; subst h1; subst h2
    show bindC kindOf ((p, w) :: P.zip vs) m p = _
    unfold bindC
    rw [bindC_out fun v hv => (List.nodup_cons.mp nd).1 (List.of_mem_zip hv).1, if_neg hk]
    simp
  | p :: P, w :: vs, i + 1, m, nd, h1, h2, hk => by
    show bindC kindOf ((p, w) :: P.zip vs) m x = _
    unfold bindC
    exact bindC_get (i := i) (List.nodup_cons.mp nd).2 (by simpa using h1) (by simpa using h2) hk
def start (N : List Str) (vs : List V) : St := vs.map some ++ List.replicate (N.length - vs.length) none
def cxOf (CX : CXT) (P : Program) (w : World) (K : PySem.W.Frag) (mg : Str → Option Value) (base : Heap) (N : List Str) (qual : Str) (scope : Scope) (f : Addr) (cd : Value) (A : Around) (outer : List Env) (s : Shared) (H : Hp) (E : XK) : Cx where
  prog := P
  w := w
  K := K
  mg := mg
  base := base
  A := A.deeper (envOfC qual scope s.heap.objs.size f cd)
  N := N
  s₀ := s
  H₀ := H
  env := envOfC qual scope s.heap.objs.size f cd
  outer := outer
  stack := envOfC qual scope s.heap.objs.size f cd :: outer
  ex := []
  calm := true
  fn := fun _ => true
  pn := []
  xe := fun e s' => wpAny (model P w) (A.deeper (envOfC qual scope s.heap.objs.size f cd)) (leaving (envOfC qual scope s.heap.objs.size f cd) e) (fun _ s'' => CX outer H s E e s'') (fun e' s'' => CX outer H s E e' s'') s'
theorem cell_has {sc : Scope} {n : Nat} {x : Str} (h : sc.names.lookup x = some .cell) : ∃ c, (cellsFrom n sc.names []).lookup x = some c := by
  have q := PySem.W.cellsFrom_some sc.names n [] (.inl h)
  exact Option.isSome_iff_exists.mp q
theorem inv_start {CX : CXT} {P : Program} {w : World} {K : PySem.W.Frag} {mg : Str → Option Value} {base : Heap} {N ps : List Str} {qual : Str} {scope : Scope} {f : Addr} {cd : Value} {A : Around} {outer : List Env} {s s1 : Shared} {H : Hp} {E : XK} {us : List Value} {vs : List V}
    (S : FnScope N ps scope) (hd : A.handled = none) (e0 : Env0 P w K mg base A outer s H) (hl : vs.length = ps.length) (r : Vals vs us)
    (x : InCallC s s.heap.objs.size (bindL (envOfC qual scope s.heap.objs.size f cd).kindOf (ps.zip us) fun _ => none) (cellsFrom (s.heap.objs.size + 1) scope.names []) (bindC (envOfC qual scope s.heap.objs.size f cd).kindOf (ps.zip us) fun _ => none) s1) :
    Inv (cxOf CX P w K mg base N qual scope f cd A outer s H E) [] (start N vs) H s1 := by
  have hpl : ps.length ≤ N.length := by have := congrArg List.length S.pre; rw [List.length_take] at this; omega
  obtain ⟨h1, tk, rfl, hk⟩ := x.done
  have noA : ∀ b : Addr, b ∉ (cxOf CX P w K mg base N qual scope f cd A outer s H E).ex := fun b z => absurd (show b ∈ ([] : List Addr) from z) (by simp)
  refine ⟨⟨e0.mod, S.kind, rfl, rfl, Nat.le_refl _, fun y z c h1 h2 => ?_, fun y hy => ?_, fun y c _ h => ?_, fun _ => hd, Around.frames_deeper e0.frames, .inr ⟨rfl, rfl⟩, fun b z => absurd z (noA b), e0.bs, e0.bsz, fun b _ _ => noA b, fun b z => absurd z (noA b), e0.funs, e0.frf⟩,
    rfl, e0.bare, Un.kept hk, ⟨_, x.toInCall.ns, fun i y v h1 h2 h3 => ?_⟩, fun y c h => ⟨_, x.cell y c h⟩, e0.hok.fresh (Nat.le_refl _), fun y c h => ?_, fun p hp => absurd (show p ∈ ([] : List (Addr × Obj)) from hp) (by simp), e0.hok.kept hk, ?_⟩
  · exact name_of_addr x.apart (PySem.mem_of_lookup h1) (PySem.mem_of_lookup h2)
  · have hy : scope.names.lookup y = some .cell ∨ scope.names.lookup y = some .free := hy
    rcases hy with hy | hy
    · exact cell_has hy
    · exact absurd rfl (S.nofree _ (PySem.mem_of_lookup hy))
  · exact Nat.le_of_lt (x.above y c (PySem.mem_of_lookup h))
  · have hi : i < vs.length := by
      unfold start at h2
      by_cases hi : i < vs.length
      · exact hi
      · rw [List.getElem?_append_right (by simpa using hi)] at h2
        rw [List.getElem?_replicate] at h2
        split at h2 <;> cases h2
    have ha : vs[i]? = some v := by
      unfold start at h2
      rw [List.getElem?_append_left (by simpa using hi), List.getElem?_map] at h2
      cases e : vs[i]? with
      | none => rw [e] at h2; cases h2
      | some a => rw [e] at h2; cases h2; rfl
    obtain ⟨u, hu, rv⟩ := r.get ha
    have hp : ps[i]? = some y := by
      rw [← S.pre, List.getElem?_take_of_lt (by omega)]; exact h1
    have ndP : ps.Nodup := by rw [← S.pre]; exact S.nd.sublist (List.take_sublist _ _)
    refine ⟨u, rv, ?_⟩
    rcases S.par y (List.mem_of_getElem? hp) with k | k
    · exact .inl ⟨k, bindL_get ndP hp hu k⟩
    · obtain ⟨c, e⟩ := cell_has (n := s.heap.objs.size + 1) k
      refine .inr ⟨.inl k, c, e, ?_⟩
      have q := x.cell y c e
      rw [bindC_get ndP hp hu (by show scope.names.lookup y ≠ _; rw [k]; decide)] at q
      exact q
  · exact e0.hok.fresh (Nat.le_of_lt (x.above y c (PySem.mem_of_lookup h)))
  · unfold start
    show _ = N.length
    rw [List.length_append, List.length_map, List.length_replicate]
    omega
theorem fn_of {CX : CXT} {P : Program} {w : World} {K : PySem.W.Frag} {mg : Str → Option Value} {base : Heap} {k : Nat} {f : Addr} {name qual : Str} {params : Arguments} {body : List Stmt} {scope : Scope} {dV kV doc pm cdv ct oc : Value} {an od : Option Addr}
    {osl : Array (Option Value)} {N ps : List Str} {sp : Sp} (lk : K.lookup f = some ⟨oc, od, .func (PySem.W.fnOf name qual params body scope dV kV doc pm an cdv ct), osl⟩) (hcd : PySem.W.codeIn K cdv qual = true) (S : FnScope N ps scope)
    (len : ∀ vs H Q E, sp vs H Q E → vs.length = ps.length)
    (hbody : ∀ (A : Around) (outer : List Env) (s : Shared) (H : Hp) (vs : List V) (Q : VK) (E : XK), Room k (A.deeper (envOfC qual scope s.heap.objs.size f cdv)) → sp vs H Q E →
      ∃ t, PSs (cxOf CX P w K mg base N qual scope f cdv A outer s H E) body t ∧ t { nx := fun _ H' => Q .non H', rt := Q } (start N vs) H) :
    FnOk P w K mg base CX (k + 1) f (PySem.W.fnOf name qual params body scope dV kV doc pm an cdv ct) ps sp := by
  refine ⟨len, fun A outer s H args us vs Q E hr e0 hb r hsp => ?_⟩
  have hl := len _ _ _ _ hsp
  have KX : K.In s.heap := e0.mod.kin.keeps fun b o e => (e0.bs b o e).1
  have lim : s.heap.NoLimit := e0.mod.nolimit.keeps fun b o e => (e0.bs b o e).1
  have hkind : ∀ y ∈ ps.zip us, scope.names.lookup y.1 = some .local ∨ (scope.names.lookup y.1 = some .cell ∧ ((cellsFrom (s.heap.objs.size + 1) scope.names []).lookup y.1).isSome = true) := fun ⟨n, v⟩ hy => by
    rcases S.par n (List.of_mem_zip hy).1 with q | q
    · exact .inl q
    · exact .inr ⟨q, PySem.W.cellsFrom_some _ _ _ (.inl q)⟩
  refine codeAny_call_function hr.depth (KX _ _ lk) rfl S.co S.gen rfl (PySem.W.codeRec_of KX hcd) (hb _ _ _ _ ?_)
  refine wpAny_newFunctionEnv_cells S.kind hkind fun env he s1 x => ?_
  subst he
  refine ⟨lim.keeps x.toInCall.keep, codeAny_func ?_⟩
  obtain ⟨t, ht, hq⟩ := hbody A outer s H vs Q E (hr.deeper _) hsp
  have I : Inv (cxOf CX P w K mg base N qual scope f cdv A outer s H E) [] (start N vs) H s1 := inv_start S hr.hd e0 hl r x
  refine wpAny_mono (ht [] s1 (start N vs) H _ I hq) (fun fl s' hs => ?_) fun e s' hs => hs
  have fin : ∀ {σ' : St} {H' : Hp} {v : V} {u : Value}, Inv (cxOf CX P w K mg base N qual scope f cdv A outer s H E) [] σ' H' s' → RelV v u → Q v H' → CE outer P w H s Q u s' :=
    fun {σ' H' v u} J rv q => ⟨v, H', J.os, J.bare, J.base, J.hok, rv, q⟩
  cases fl with
  | ret u =>
    obtain ⟨v, σ', H', J, rv, q⟩ := hs
    exact fin J rv q
  | next =>
    obtain ⟨σ', H', J, q⟩ := hs
    exact fin (v := V.non) (u := Value.none) J rfl q
  | brk =>
    obtain ⟨_, _, _, q⟩ := hs
    exact False.elim q
  | cont =>
    obtain ⟨_, _, _, q⟩ := hs
    exact False.elim q
end L2
namespace L2
open PySem PySem.Spec PyProof.Rows
section
variable {X : Cx} {x : Str} {p pos : Pos} {e : Expr} {es : List Expr} {t : TA} {id T : String} {r : List V → Hp → VK → Prop}
def tCB (r : List V → Hp → VK → Prop) (t : TA) : TE := fun σ H Q => t σ H fun vs H1 => r vs H1 Q
theorem pe_callB (hc : CallR X (.builtin id) r) (hg : Gl X x) (hm : X.mg x = none) (hv : bootBuiltins x = some (.builtin id)) (ha : PA X (e :: es) t) (hn : x ≠ "__name__" := by decide) (hdb : (x == ("__debug__" : Str)) = false := by decide)
    (he : starEach (e :: es) X.env = (false, eval e X.env) :: starEach es X.env := by rfl) (hpl : (backTo pos (starEach es X.env)).any (·.1) = false := by rfl) : PE X (.Call (.Name x p) (e :: es) [] pos) (tCB r t) := by
  intro pins s σ H Q I h
  refine wpAny_Call_Name_kw (ld_blt I hg hm hv ?_ hn hdb)
  exact PyProof.Rows.callWith_builtin1 (thn (ha pos pins s σ H _ I h) fun us s1 ⟨vs, H1, I1, r1, q1⟩ => hc pins s1 σ H1 vs us Q I1 r1 q1) he hpl
theorem pe_callTy (hc : CallR X (.type T) r) (hg : Gl X x) (hm : X.mg x = none) (hv : bootBuiltins x = some (.type T)) (ha : PA X (e :: es) t) (hn : x ≠ "__name__" := by decide) (hdb : (x == ("__debug__" : Str)) = false := by decide)
    (he : starEach (e :: es) X.env = (false, eval e X.env) :: starEach es X.env := by rfl) (hpl : (backTo pos (starEach es X.env)).any (·.1) = false := by rfl) : PE X (.Call (.Name x p) (e :: es) [] pos) (tCB r t) := by
  intro pins s σ H Q I h
  refine wpAny_Call_Name_kw (ld_blt I hg hm hv ?_ hn hdb)
  exact PyProof.Rows.callWith_type1 (thn (ha pos pins s σ H _ I h) fun us s1 ⟨vs, H1, I1, r1, q1⟩ => hc pins s1 σ H1 vs us Q I1 r1 q1) he hpl
end
end L2
namespace HT
open PySem PyProof.Rows
section
open PySem.SeqAt
open PySem.AutoSeq1 (wpAny_loadPart')
open PySem.MeetsSeq PySem.MeetsSeq2 PySem.MeetsSeq3
end
section
variable {prog : Program} {w : World} {A : Around} {E : Value → Shared → Prop} {s : Shared}
def sIx (n d : Nat) : Option Int → Nat
  | none => d
  | some v => if v < 0 then (v + (n : Int)).toNat else min v.toNat n
theorem sIx_none (n d : Nat) : sIx n d none = d := rfl
theorem sIx_nat (n d k : Nat) : sIx n d (some (k : Int)) = min k n := by
  show (if (k : Int) < 0 then ((k : Int) + (n : Int)).toNat else min (k : Int).toNat n) = min k n
  rw [if_neg (by omega), Int.toNat_natCast]
theorem sIx_le (n d : Nat) (hd : d ≤ n) (o : Option Int) : sIx n d o ≤ n := by
  cases o with
  | none => exact hd
  | some v =>
    show (if v < 0 then (v + (n : Int)).toNat else min v.toNat n) ≤ n
    by_cases hv : v < 0
    · rw [if_pos hv]; omega
    · rw [if_neg hv]; exact Nat.min_le_right _ _
theorem clip_eq (v : Int) (n d : Nat) : (if v < 0 then max (v + (n : Int)) 0 else min v (n : Int)) = ((sIx n d (some v) : Nat) : Int) := by
  show (if v < 0 then max (v + (n : Int)) 0 else min v (n : Int)) = (((if v < 0 then (v + (n : Int)).toNat else min v.toNat n) : Nat) : Int)
  by_cases hv : v < 0
  · simp only [if_pos hv]; omega
  · simp only [if_neg hv]; omega
theorem adjust_gen (lo hi : Option Int) (n : Nat) : Builtin.Slice.sliceAdjust lo hi 1 (n : Int) = (((sIx n 0 lo : Nat) : Int), ((sIx n n hi : Nat) : Int)) := by
  have h1 : ¬ ((1 : Int) < 0) := by omega
  unfold Builtin.Slice.sliceAdjust
  simp only [h1, if_false]
  refine Prod.ext ?_ ?_
  · cases lo with
    | none => rfl
    | some v => exact clip_eq v n 0
  · cases hi with
    | none => rfl
    | some v => exact clip_eq v n n
theorem places_gen (i j : Nat) : Builtin.Slice.slicePlaces (i : Int) (j : Int) 1 = j - i := by
  unfold Builtin.Slice.slicePlaces
  have h1 : (1 : Int) > 0 := by omega
  simp only [h1, if_true, Int.ediv_one]
  split <;> omega
theorem slicePart_ {v : Value} {o : Option Int} {Q : Option Int → Shared → Prop} (p : IsPart v o) (h : Q o s) : wpAny (model prog w) A (Builtin.Slice.slicePartIndex v) Q E s := by
  cases p with
  | none => exact slicePart_none h
  | int i t => exact slicePart_int h
theorem sliceApplied_gen {sl : Addr} {vl vu : Value} {lo hi : Option Int} {n : Nat} {Q : Int × Int × Nat → Shared → Prop} (hs : s.heap.IsSliceOf sl vl vu .none) (pl : IsPart vl lo) (pu : IsPart vu hi)
    (h : Q (((sIx n 0 lo : Nat) : Int), 1, sIx n n hi - sIx n 0 lo) s) : wpAny (model prog w) A (Builtin.Slice.sliceApplied (.ref sl) (pure (n : Int))) Q E s := by
  obtain ⟨os, hos, hcs, hds⟩ := id hs
  unfold Builtin.Slice.sliceApplied Builtin.Slice.sliceFields
  refine wpAny_bind (wpAny_bind (wpAny_field hos hds (x := vl) rfl (wpAny_bind (wpAny_field hos hds (x := vu) rfl (wpAny_bind (wpAny_field hos hds (x := .none) rfl (wpAny_pure ?_)))))))
  refine wpAny_bind (slicePart_none ?_)
  show wpAny _ _ (if ((1 : Int) == 0) = true then _ else _) _ _ s
  rw [if_neg (by decide)]
  refine wpAny_bind (slicePart_ pl (wpAny_bind (slicePart_ pu (wpAny_bind (wpAny_pure ?_)))))
  show wpAny _ _ (match Builtin.Slice.sliceAdjust lo hi 1 (n : Int) with | (lo, hi) => pure (lo, (1 : Int), Builtin.Slice.slicePlaces lo hi 1)) _ _ s
  rw [adjust_gen lo hi n]
  show wpAny _ _ (pure (((sIx n 0 lo : Nat) : Int), (1 : Int), Builtin.Slice.slicePlaces ((sIx n 0 lo : Nat) : Int) ((sIx n n hi : Nat) : Int) 1)) _ _ s
  rw [places_gen]
  exact wpAny_pure h
theorem pick_gen (xs : Array Value) (i k : Nat) : ((List.range k).filterMap fun (m : Nat) => xs[((i : Int) + (m : Int) * 1).toNat]?).toArray = ((xs.toList.drop i).take k).toArray := by
  have e : (fun (m : Nat) => xs[((i : Int) + (m : Int) * 1).toNat]?) = fun m => xs[i + m]? := by
    funext m
    have : ((i : Int) + (m : Int) * 1).toNat = i + m := by omega
    rw [this]
  rw [e]
  have := pick_run xs i k
  rw [List.filterMap_map] at this
  have e2 : ((fun x => xs[x]?) ∘ fun x => i + x) = fun m => xs[i + m]? := rfl
  rw [e2] at this
  rw [this]
theorem getItem_tuple_cut {t sl : Addr} {items : Array Value} {vl vu : Value} {lo hi : Option Int} {Q : Value → Shared → Prop} (ht : IsTup s.heap t items) (hs : s.heap.IsSliceOf sl vl vu .none) (pl : IsPart vl lo) (pu : IsPart vu hi)
    (hw : ¬ (sIx items.size 0 lo = 0 ∧ sIx items.size items.size hi = items.size))
    (h : Q (.ref s.heap.objs.size) { s with heap := s.heap.push { cls := .type "tuple", data := .seq ((items.toList.drop (sIx items.size 0 lo)).take (sIx items.size items.size hi - sIx items.size 0 lo)).toArray } })
    (hsz : items.size ≤ sizeLine) : wpAny (model prog w) A (getItem (.ref t) (.ref sl)) Q E s := by
  have htake : sizeOk (.seq ((items.toList.drop (sIx items.size 0 lo)).take (sIx items.size items.size hi - sIx items.size 0 lo)).toArray) := by
    show ((items.toList.drop (sIx items.size 0 lo)).take (sIx items.size items.size hi - sIx items.size 0 lo)).toArray.size ≤ sizeLine
    rw [List.size_toArray, List.length_take, List.length_drop, Array.length_toList]
    omega
  have hj : sIx items.size items.size hi ≤ items.size := sIx_le _ _ (Nat.le_refl _) hi
  obtain ⟨os, hos, hcs, hds⟩ := id hs
  have hTs : s.TypeIs (.ref sl) "slice" := ⟨os, hos, hcs⟩
  unfold getItem
  try with_reducible refine wpAny_holding ?_
  first | refine wpAny_bind (wpAny_pure ?_) | skip
  refine wpAny_bind (wpAny_sequenceKey ht.typeIs (by decide) ?_)
  refine wpAny_bind (wpAny_callSpecial?_slot (name := Str.ofString "__getitem__") ht.typeIs PyProof.Rows.slot_tuple_getitem
    (wpAny_call_entry PyProof.Rows.slot_tuple_getitem ht.typeIs entry_tuple_getitem ?_ (args_tuple_getitem _ _)))
  show wpAny _ _ (Builtin.Tuple.tupleItemsOf (.ref t) >>= _) _ _ s
  refine wpAny_bind (tupleItemsOf_ ht ?_)
  refine wpAny_bind (wpAny_typeOf hTs ?_)
  rw [if_pos (by decide)]
  refine wpAny_bind (sliceApplied_gen hs pl pu ?_)
  have hno : ¬ ((((sIx items.size 0 lo : Nat) : Int) == 0 && (1 : Int) == 1 && (sIx items.size items.size hi - sIx items.size 0 lo) == items.size) = true) := by
    intro q
    rw [Bool.and_eq_true, Bool.and_eq_true] at q
    have q1 : ((sIx items.size 0 lo : Nat) : Int) = 0 := eq_of_beq q.1.1
    have q2 : sIx items.size items.size hi - sIx items.size 0 lo = items.size := eq_of_beq q.2
    exact hw ⟨by omega, by omega⟩
  show wpAny _ _ (if (((sIx items.size 0 lo : Nat) : Int) == 0 && (1 : Int) == 1 && (sIx items.size items.size hi - sIx items.size 0 lo) == items.size) = true then _ else _) _ _ s
  rw [if_neg hno, pick_gen]
  first
    | exact wpAny_bind (m := Builtin.Tuple.tupleExact _) (wpAny_newObj_type (wpAny_pure ⟨_, rfl, wpAny_pure h⟩) htake)
    | exact wpAny_bind (m := Builtin.Tuple.tupleExact _) (wpAny_newObj_type (wpAny_bind (wpAny_pure (wpAny_pure ⟨_, rfl, wpAny_pure h⟩))) htake)
    | exact wpAny_bind (wpAny_bind (m := Builtin.Tuple.tupleExact _) (wpAny_newObj_type (wpAny_pure (wpAny_pure ⟨_, rfl, wpAny_pure h⟩)) htake))
    | exact wpAny_bind (wpAny_bind (m := Builtin.Tuple.tupleExact _) (wpAny_newObj_type (wpAny_pure ⟨_, rfl, wpAny_pure h⟩) htake))
end
end HT
namespace L2
open PySem PySem.Spec PyProof.Rows
abbrev TO := St → Hp → (Option Int → Hp → Prop) → Prop
def PO (X : Cx) (e : Option Expr) (t : TO) : Prop :=
  ∀ (pins : List (Addr × Obj)) (s : Shared) (σ : St) (H : Hp) (Q : Option Int → Hp → Prop), Inv X pins σ H s → t σ H Q →
    wpAny (model X.prog X.w) X.A (evalPart e X.env) (fun u s' => ∃ o H', Inv X pins σ H' s' ∧ IsPart u o ∧ Q o H') X.xe s
def tNoPart : TO := fun _ H Q => Q none H
def tPart (t : TE) : TO := fun σ H Q => t σ H fun x H1 => ∃ i, x = .int i ∧ Q (some i) H1
theorem intsAre_of {ns : List Int} : ∀ {us : List Value}, Vals (ns.map V.int) us → IntsAre us ns := by
  induction ns with
  | nil => intro us r; rw [List.map_nil] at r; cases r; exact .nil
  | cons n ns ih =>
    intro us r
    rw [List.map_cons] at r
    cases r with
    | cons r1 r2 =>
      obtain ⟨t, e⟩ := r1
      subst e
      exact .cons n t (ih r2)
section
variable {X : Cx} {e : Expr} {te : TE} {lo hi : Option Expr} {tl th : TO} {pos p2 : Pos}
theorem po_none : PO X none tNoPart := by
  intro pins s σ H Q I h
  rw [evalPart_none]
  exact wpAny_pure ⟨none, H, I, .none, h⟩
theorem po_some (h : PE X e te) : PO X (some e) (tPart te) := by
  intro pins s σ H Q I hw
  rw [evalPart_some]
  refine thn (h pins s σ H _ I hw) fun u s1 ⟨x, H1, I1, r1, q1⟩ => ?_
  obtain ⟨i, rfl, q⟩ := q1
  obtain ⟨t, rfl⟩ := r1
  exact ⟨some i, H1, I1, .int i t, q⟩
def SlR (X : Cx) (r : V → Option Int → Option Int → Hp → VK → Prop) : Prop :=
  ∀ (pins : List (Addr × Obj)) (s : Shared) (σ : St) (H : Hp) (x : V) (v vl vu : Value) (lo hi : Option Int) (sl : Addr) (Q : VK), Inv X pins σ H s → RelV x v → s.heap.IsSliceOf sl vl vu .none → IsPart vl lo → IsPart vu hi → r x lo hi H Q →
    ∃ T id, typeLookup (.type T) "__getitem__" = pure (some (.builtin id)) ∧ s.TypeIs v T ∧ wpAny (model X.prog X.w) X.A (getItem v (.ref sl)) (EP X pins σ Q) X.xe s
def tSl (r : V → Option Int → Option Int → Hp → VK → Prop) (te : TE) (tl th : TO) : TE := fun σ H Q => te σ H fun x H1 => tl σ H1 fun l H2 => th σ H2 fun u H3 => r x l u H3 Q
theorem pe_slice {r : V → Option Int → Option Int → Hp → VK → Prop} (hr : SlR X r) (he : PE X e te) (hl : PO X lo tl) (hu : PO X hi th) : PE X (.Subscript e (.Slice lo hi none p2) pos) (tSl r te tl th) := by
  intro pins s σ H Q I h
  refine Subscript_ (thn (he pins s σ H _ I h) fun v s1 ⟨x, H1, I1, r1, q1⟩ => ?_)
  refine wpAny_Slice (thn (hl pins s1 σ H1 _ I1 q1) fun vl s2 ⟨l, H2, I2, pl, q2⟩ => thn (hu pins s2 σ H2 _ I2 q2) fun vu s3 ⟨u, H3, I3, pu, q3⟩ => ?_)
  rw [evalPart_none]
  refine wpAny_pure ?_
  have I4 : Inv X pins σ H3 { s3 with heap := s3.heap.push { cls := .type "slice", data := .fields #[vl, vu, .none] } } := I3.kept (t' := s3.toks) fun b ob q => Heap.get?_push_of_some _ q
  obtain ⟨T, id, hT, ht, hg⟩ := hr pins { s3 with heap := s3.heap.push { cls := .type "slice", data := .fields #[vl, vu, .none] } } σ H3 x v vl vu l u s3.heap.objs.size Q I4 r1 (Heap.IsSliceOf.new ..) pl pu q3
  show wpAny (model X.prog X.w) X.A (subscriptTail e (.Slice lo hi none p2) v (.ref s3.heap.objs.size)) (EP X pins σ Q) X.xe { s3 with heap := s3.heap.push { cls := .type "slice", data := .fields #[vl, vu, .none] } }
  exact tail_any (ops := [.ref s3.heap.objs.size, v]) ht hT hg (by with_unfolding_all rfl)
def cutV (xs : List V) (lo hi : Option Int) : List V := (xs.drop (HT.sIx xs.length 0 lo)).take (HT.sIx xs.length xs.length hi - HT.sIx xs.length 0 lo)
theorem cutV_length (xs : List V) (lo hi : Option Int) : (cutV xs lo hi).length ≤ xs.length := by
  unfold cutV
  rw [List.length_take, List.length_drop]
  omega
def rSlT (K : PySem.W.Frag) : V → Option Int → Option Int → Hp → VK → Prop := fun x lo hi H Q => ∃ a xs, x = .ref a ∧ SqT K H a xs ∧
  ¬ (HT.sIx xs.length 0 lo = 0 ∧ HT.sIx xs.length xs.length hi = xs.length) ∧ ∀ p, H p = none → Q (.ref p) (upd H p (.tup (cutV xs lo hi)))
theorem sl_tup : SlR X (rSlT X.K) := by
  intro pins s σ H x v vl vu lo hi sl Q I rx hs pl pu h
  obtain ⟨a, xs, rfl, hx, hw, q⟩ := h
  cases rx
  obtain ⟨its, r, ht, hz⟩ := I.tuple hx
  have hlen : its.toArray.size = xs.length := by rw [List.size_toArray]; exact r.length.symm
  refine ⟨"tuple", _, PyProof.Rows.slot_tuple_getitem.lookup, ht.typeIs, ?_⟩
  refine HT.getItem_tuple_cut ht hs pl pu (by rw [hlen]; exact hw) ?_ (by rw [hlen]; exact hz)
  rw [hlen]
  refine ⟨.ref s.heap.objs.size, _, I.laid (t' := s.toks) (o := .tup (cutV xs lo hi)) (fun b ob q => Heap.get?_push_of_some _ q) (Nat.le_refl _) ?_, rfl, q _ (I.hok.fresh (Nat.le_refl _))⟩
  exact ⟨Nat.le_trans (cutV_length xs lo hi) hz, _, (r.drop (HT.sIx xs.length 0 lo)).take (HT.sIx xs.length xs.length hi - HT.sIx xs.length 0 lo), IsTup.new _ _⟩
end
end L2
namespace L2
open PySem PySem.Spec PyProof.Rows
def ixN (n : Nat) (i : Int) : Option Nat := if 0 ≤ i then (if i < n then some i.toNat else none) else if -(n : Int) ≤ i then some (i + n).toNat else none
def atI {α : Type} (xs : List α) (i : Int) : Option α := (ixN xs.length i).bind fun j => xs[j]?
theorem ixN_seq {n : Nat} {i : Int} {j : Nat} (h : ixN n i = some j) : seqIndex? i n = some j ∧ j < n ∧ -(n : Int) ≤ i ∧ i < n := by
  unfold ixN at h
  by_cases h0 : 0 ≤ i
  · rw [if_pos h0] at h
    by_cases h1 : i < n
    · rw [if_pos h1] at h
      have e : i.toNat = j := Option.some.inj h
      exact ⟨by rw [seqIndex_of h0 h1, e], by omega, by omega, h1⟩
    · rw [if_neg h1] at h; cases h
  · rw [if_neg h0] at h
    by_cases h1 : -(n : Int) ≤ i
    · rw [if_pos h1] at h
      have e : (i + n).toNat = j := Option.some.inj h
      exact ⟨by rw [seqIndex_neg (by omega) h1, e], by omega, h1, by omega⟩
    · rw [if_neg h1] at h; cases h
theorem atI_get {α : Type} {xs : List α} {i : Int} {v : α} (h : atI xs i = some v) : ∃ j, seqIndex? i xs.length = some j ∧ xs[j]? = some v ∧ j < xs.length ∧ -(xs.length : Int) ≤ i ∧ i < xs.length := by
  unfold atI at h
  cases e : ixN xs.length i with
  | none => rw [e] at h; cases h
  | some j =>
    rw [e] at h
    obtain ⟨h1, h2, h3, h4⟩ := ixN_seq e
    exact ⟨j, h1, h, h2, h3, h4⟩
theorem atI_nat {α : Type} {xs : List α} {j : Nat} {v : α} (h : xs[j]? = some v) : atI xs (j : Int) = some v := by
  have hj : j < xs.length := (List.getElem?_eq_some_iff.mp h).1
  have e : ixN xs.length (j : Int) = some j := by
    unfold ixN
    rw [if_pos (by omega), if_pos (by omega)]; simp
  unfold atI; rw [e]; exact h
def PlainIx (b : Expr) : Prop := ∀ o i, subscripted b false o i = operate [o, i] (getItem o i)
def IxR (X : Cx) (r : R2) : Prop :=
  ∀ (value slice : Expr) (pins : List (Addr × Obj)) (s : Shared) (σ : St) (H : Hp) (x y : V) (v u : Value) (Q : VK), Inv X pins σ H s → RelV x v → RelV y u → r x y H Q →
    subscripted slice false v u = operate [v, u] (getItem v u) → wpAny (model X.prog X.w) X.A (subscriptTail value slice v u) (EP X pins σ Q) X.xe s
def MtR (X : Cx) (id : String) (r : V → List V → Hp → VK → Prop) : Prop :=
  ∀ (pins : List (Addr × Obj)) (s : Shared) (σ : St) (H : Hp) (x : V) (xs : List V) (v : Value) (us : List Value) (Q : VK), Inv X pins σ H s → RelV x v → Vals xs us → r x xs H Q →
    wpAny (model X.prog X.w) X.A (call (.builtin id) (v :: us)) (EP X pins σ Q) X.xe s
section
variable {X : Cx} {a b : Expr} {ta tb : TE} {pos : Pos}
theorem pe_ix {r : R2} (hr : IxR X r) (ha : PE X a ta) (hb : PE X b tb) (hs : PlainIx b) : PE X (.Subscript a b pos) (tOp r ta tb) := by
  intro pins s σ H Q I h
  exact Subscript_ (binT ha hb I h fun v u s2 x y H2 I2 rx ry q => hr a b pins s2 σ H2 x y v u Q I2 rx ry q (hs _ _))
def rIxL (K : PySem.W.Frag) : R2 := fun x y H Q => ∃ p xs i v, x = .ref p ∧ y = .int i ∧ SqL K H p xs ∧ atI xs i = some v ∧ Q v H
def rIxT (K : PySem.W.Frag) : R2 := fun x y H Q => ∃ p xs i v, x = .ref p ∧ y = .int i ∧ SqT K H p xs ∧ atI xs i = some v ∧ Q v H
def rIxS : R2 := fun x y H Q => ∃ z i c, x = .str z ∧ y = .int i ∧ z.length ≤ sizeLine ∧ atI z.cps.toList i = some c ∧ Q (.str ⟨#[c]⟩) H
theorem ix_list : IxR X (rIxL X.K) := by
  intro value slice pins s σ H x y v u Q I rx ry h hs
  obtain ⟨p, xs, i, z, rfl, rfl, hq, he, q⟩ := h
  cases rx
  obtain ⟨t, rfl⟩ := ry
  obtain ⟨its, r, pl, hz⟩ := I.list hq
  obtain ⟨j, h1, h2, h3, h4, h5⟩ := atI_get he
  obtain ⟨w, ew, rw'⟩ := r.get h2
  have hl := r.length
  have hn := line63
  have fin : EP X pins σ Q w s := ⟨z, H, I, rw', q⟩
  by_cases h0 : 0 ≤ i
  · have hj : i.toNat = j := by
      rw [seqIndex_of h0 h5] at h1
      exact Option.some.inj h1
    exact item_listR pl.isList h0 (by omega) (by rw [hj]; simpa using ew) fin hs
  · have hj : (i + (its.toArray.size : Int)).toNat = j := by
      rw [seqIndex_neg (by omega) h4] at h1
      rw [List.size_toArray, ← hl]
      exact Option.some.inj h1
    exact subscriptTail_builtinR (x := w) pl.isList.typeIs slot_list_getitem.lookup
      (wpAny_getItem_list_neg (Q := fun r s' => r = w ∧ EP X pins σ Q r s') pl.isList (by omega) (by rw [List.size_toArray] <;> omega) (by omega) (by rw [hj]; simpa using ew) ⟨rfl, fin⟩) hs
theorem ix_tup : IxR X (rIxT X.K) := by
  intro value slice pins s σ H x y v u Q I rx ry h hs
  obtain ⟨p, xs, i, z, rfl, rfl, hq, he, q⟩ := h
  cases rx
  obtain ⟨t, rfl⟩ := ry
  obtain ⟨its, r, pl, hz⟩ := I.tuple hq
  obtain ⟨j, h1, h2, h3, h4, h5⟩ := atI_get he
  obtain ⟨w, ew, rw'⟩ := r.get h2
  have hl := r.length
  have hn := line63
  have fin : EP X pins σ Q w s := ⟨z, H, I, rw', q⟩
  exact subscriptTail_builtinR (x := w) pl.typeIs slot_tuple_getitem.lookup
    (getItem_tuple (j := j) (Q := fun r s' => r = w ∧ EP X pins σ Q r s') pl (by omega) (by omega) (by rw [List.size_toArray, ← hl]; exact h1) (by simpa using ew) ⟨rfl, fin⟩) hs
theorem ix_str : IxR X rIxS := by
  intro value slice pins s σ H x y v u Q I rx ry h hs
  obtain ⟨z, i, c, rfl, rfl, hz, he, q⟩ := h
  obtain ⟨t, rfl⟩ := rx
  obtain ⟨t', rfl⟩ := ry
  obtain ⟨j, h1, h2, h3, h4, h5⟩ := atI_get he
  have hl : z.cps.toList.length = z.length := by simp [Str.length]
  rw [hl] at h1 h4 h5
  have hn := line63
  exact tail_any (typeIs_str s z t) slot_str_getitem.lookup (getItem_str (c := c) (by
    have e1 : decide (i < -(2 ^ 63 : Int)) = false := decide_eq_false (by omega)
    have e2 : decide (i ≥ 2 ^ 63) = false := decide_eq_false (by omega)
    rw [e1, e2, Bool.or_false]) (by rw [h1]; simpa using h2) ⟨.str ⟨#[c]⟩, H, I.tok _, ⟨_, rfl⟩, q⟩) hs
theorem mapSeq_set (its : List Value) (n j : Nat) (u : Value) : Obj.mapSeq (·.setIfInBounds j u) { cls := .type "list", data := .seq its.toArray n } = { cls := .type "list", data := .seq (its.set j u).toArray n } := by
  simp [Obj.mapSeq]
theorem Inv.lst {pins : List (Addr × Obj)} {σ : St} {H : Hp} {s : Shared} {p : Addr} {xs : List V} (I : Inv X pins σ H s) (h : H p = some (.lst xs)) :
    ∃ (its : List Value) (n : Nat), Vals xs its ∧ s.heap.get? p = some { cls := .type "list", data := .seq its.toArray n } ∧ xs.length ≤ sizeLine := by
  obtain ⟨z, its, n, r, e⟩ := I.hok p _ h
  exact ⟨its, n, r, e, z⟩
theorem Inv.lstUpd {pins : List (Addr × Obj)} {σ : St} {H : Hp} {s : Shared} {p : Addr} {xs ys : List V} {its its' : List Value} {n n' : Nat} {f : Obj → Obj} (I : Inv X pins σ H s) (h : H p = some (.lst xs))
    (ho : s.heap.get? p = some { cls := .type "list", data := .seq its.toArray n }) (hf : f { cls := .type "list", data := .seq its.toArray n } = { cls := .type "list", data := .seq its'.toArray n' }) (r : Vals ys its') (hz : ys.length ≤ sizeLine) (t : Nat) :
    Inv X pins σ (upd H p (.lst ys)) { s with heap := s.heap.update p f, toks := t } := by
  have e : (s.heap.update p f).get? p = some { cls := .type "list", data := .seq its'.toArray n' } := by
    rw [Heap.get?_update_self f ho (by rw [hf] <;> rfl), hf]
  refine I.write (x := p) (e := p) (by rw [h]; trivial) (.inl rfl) (fun b u hb q => (Heap.get?_update_other _ _ (Ne.symm hb)).trans q) ⟨_, e⟩ ?_
  exact ⟨hz, its', n', r, e⟩
def rSetL : V → V → V → Hp → (Hp → Prop) → Prop := fun o i v H Q => ∃ p xs k j, o = .ref p ∧ i = .int k ∧ H p = some (.lst xs) ∧ ixN xs.length k = some j ∧ Q (upd H p (.lst (xs.set j v)))
theorem set_list : PSet X rSetL := by
  intro pins s σ H o i v ov iv u Q I ro ri rv h
  obtain ⟨p, xs, k, j, rfl, rfl, hp, hj, q⟩ := h
  cases ro
  obtain ⟨t, rfl⟩ := ri
  obtain ⟨its, n, r, ho, hz⟩ := I.lst hp
  obtain ⟨h1, h2, h3, h4⟩ := ixN_seq hj
  have hl := r.length
  have hn := line63
  have I' : Inv X pins σ (upd H p (.lst (xs.set j v))) { s with heap := s.heap.update p (Obj.mapSeq (·.setIfInBounds j u)) } :=
    I.lstUpd hp ho (mapSeq_set its n j u) (r.set rv j) (by rw [List.length_set]; exact hz) s.toks
  by_cases h0 : 0 ≤ k
  · have hk : k.toNat = j := by
      rw [seqIndex_of h0 h4] at h1
      exact Option.some.inj h1
    exact PySem.W.ki_setAt ho h0 (by omega) (by rw [List.size_toArray, ← hl]; exact h4) (by rw [hk]; exact ⟨_, I', q⟩)
  · have hk : (k + (its.toArray.size : Int)).toNat = j := by
      rw [seqIndex_neg (by omega) h3] at h1
      rw [List.size_toArray, ← hl]
      exact Option.some.inj h1
    exact PySem.W.ki_setBack ho (by omega) (by rw [List.size_toArray, ← hl]; exact h3) (by omega) (by rw [hk]; exact ⟨_, I', q⟩)
theorem slice_bounds (lo hi : Option Int) (n : Nat) : (sliceBounds lo hi none n).1 = ((HT.sIx n 0 lo : Nat) : Int) ∧ (sliceBounds lo hi none n).2.1 = ((HT.sIx n n hi : Nat) : Int) ∧ (sliceBounds lo hi none n).2.2 = 1 := by
  refine ⟨?_, ?_, rfl⟩
  · cases lo with
    | none => simp [sliceBounds, HT.sIx]
    | some i =>
      simp only [sliceBounds, HT.sIx, Option.getD_none, show (1 : Int) > 0 by decide, if_true]
      by_cases h : i < 0
      · simp only [h, if_true] <;> omega
      · simp only [h, if_false] <;> omega
  · cases hi with
    | none => simp [sliceBounds, HT.sIx]
    | some i =>
      simp only [sliceBounds, HT.sIx, Option.getD_none, show (1 : Int) > 0 by decide, if_true]
      by_cases h : i < 0
      · simp only [h, if_true] <;> omega
      · simp only [h, if_false] <;> omega
theorem slicePick_cut (its : List Value) (lo hi : Option Int) : slicePick its.toArray lo hi none = ((its.drop (HT.sIx its.length 0 lo)).take (HT.sIx its.length its.length hi - HT.sIx its.length 0 lo)).toArray := by
  obtain ⟨h1, h2, h3⟩ := slice_bounds lo hi its.toArray.size
  unfold slicePick
  rw [h1, h2, h3]
  simp only [sliceRange_one, pick_run, List.size_toArray] <;> rfl
def rSlL (K : PySem.W.Frag) : V → Option Int → Option Int → Hp → VK → Prop := fun x lo hi H Q => ∃ a xs, x = .ref a ∧ SqL K H a xs ∧ ∀ p, H p = none → Q (.ref p) (upd H p (.lst (cutV xs lo hi)))
theorem sl_list : SlR X (rSlL X.K) := by
  intro pins s σ H x v vl vu lo hi sl Q I rx hs pl pu h
  obtain ⟨a, xs, rfl, hx, q⟩ := h
  cases rx
  obtain ⟨its, r, ht, hz⟩ := I.list hx
  have hlen := r.length
  refine ⟨"list", _, slot_list_getitem.lookup, ht.isList.typeIs, ?_⟩
  refine wpAny_getItem_list_slice ht.isList hs pl pu .none (by simp) ?_ (by rw [List.size_toArray] <;> omega)
  rw [slicePick_cut, ← hlen]
  refine ⟨.ref s.heap.objs.size, _, I.laid (t' := s.toks) (o := .lst (cutV xs lo hi)) (fun b ob q => Heap.get?_push_of_some _ q) (Nat.le_refl _) ?_, rfl, q _ (I.hok.fresh (Nat.le_refl _))⟩
  exact ⟨Nat.le_trans (cutV_length xs lo hi) hz, _, 0, (r.drop (HT.sIx xs.length 0 lo)).take (HT.sIx xs.length xs.length hi - HT.sIx xs.length 0 lo), Heap.get?_push_size _ rfl⟩
def flatV : V → Bool
  | .non => true
  | .bl _ => true
  | .int _ => true
  | .str _ => true
  | _ => false
def eqV : V → V → Bool
  | .non, .non => true
  | .bl a, .bl b => a == b
  | .bl a, .int b => (if a then 1 else 0) == b
  | .int a, .bl b => a == (if b then 1 else 0)
  | .int a, .int b => a == b
  | .str a, .str b => a == b
  | _, _ => false
theorem eqAt_V {A : Around} {s : Shared} {y x : V} {u v : Value} (ry : RelV y u) (rx : RelV x v) (fy : flatV y = true) (fx : flatV x = true) : SeqAt.EqAt A s u v (eqV y x) := by
  cases y with
  | non =>
    cases ry
    cases x with
    | non => cases rx; exact SeqAt.EqAt.same _
    | bl b => cases rx; exact SeqAt.EqAt.none_bool b
    | int b => obtain ⟨t, rfl⟩ := rx; exact SeqAt.EqAt.none_int b t
    | str b => obtain ⟨t, rfl⟩ := rx; exact SeqAt.EqAt.none_str b t
    | _ => exact absurd (show false = true from fx) Bool.false_ne_true
  | bl a =>
    cases ry
    cases x with
    | non => cases rx; exact SeqAt.EqAt.bool_none a
    | bl b => cases rx; exact SeqAt.EqAt.bool_bool a b
    | int b => obtain ⟨t, rfl⟩ := rx; exact SeqAt.EqAt.bool_int a b t
    | str b => obtain ⟨t, rfl⟩ := rx; exact SeqAt.EqAt.bool_str a b t
    | _ => exact absurd (show false = true from fx) Bool.false_ne_true
  | int a =>
    obtain ⟨t', rfl⟩ := ry
    cases x with
    | non => cases rx; exact SeqAt.EqAt.int_none a t'
    | bl b => cases rx; exact SeqAt.EqAt.int_bool a t' b
    | int b => obtain ⟨t, rfl⟩ := rx; exact SeqAt.EqAt.int_int a t' b t
    | str b => obtain ⟨t, rfl⟩ := rx; exact SeqAt.EqAt.int_str a t' b t
    | _ => exact absurd (show false = true from fx) Bool.false_ne_true
  | str a =>
    obtain ⟨t', rfl⟩ := ry
    cases x with
    | non => cases rx; exact SeqAt.EqAt.str_none a t'
    | bl b => cases rx; exact SeqAt.EqAt.str_bool a t' b
    | int b => obtain ⟨t, rfl⟩ := rx; exact SeqAt.EqAt.str_int a t' b t
    | str b => obtain ⟨t, rfl⟩ := rx; exact SeqAt.EqAt.str_str a t' b t
    | _ => exact absurd (show false = true from fx) Bool.false_ne_true
  | _ => exact absurd (show false = true from fy) Bool.false_ne_true
def eqU (x : V) (u : Value) : Bool := match u with
  | .none => eqV .non x
  | .bool b => eqV (.bl b) x
  | .int i _ => eqV (.int i) x
  | .str z _ => eqV (.str z) x
  | _ => false
theorem eqU_of {x y : V} {u : Value} (r : RelV y u) (f : flatV y = true) : eqU x u = eqV y x := by
  cases y with
  | non => cases r; rfl
  | bl b => cases r; rfl
  | int i => obtain ⟨t, rfl⟩ := r; rfl
  | str z => obtain ⟨t, rfl⟩ := r; rfl
  | _ => exact absurd (show false = true from f) Bool.false_ne_true
theorem any_eqU {x : V} : ∀ {xs : List V} {us : List Value}, Vals xs us → xs.all flatV = true → us.any (eqU x) = xs.any fun y => eqV y x
  | _, _, .nil, _ => rfl
  | y :: xs, u :: us, .cons r t, f => by
    rw [List.all_cons, Bool.and_eq_true] at f
    rw [List.any_cons, List.any_cons, eqU_of r f.1, any_eqU t f.2]
theorem mem_eqAt {A : Around} {s : Shared} {x : V} {v : Value} (rx : RelV x v) (fx : flatV x = true) : ∀ {xs : List V} {us : List Value}, Vals xs us → xs.all flatV = true → ∀ u ∈ us, SeqAt.EqAt A s u v (eqU x u)
  | _, _, .nil, _ => fun u hu => by cases hu
  | y :: xs, u :: us, .cons r t, f => fun u' hu => by
    rw [List.all_cons, Bool.and_eq_true] at f
    rcases List.mem_cons.mp hu with rfl | hu
    · rw [eqU_of r f.1]; exact eqAt_V r rx f.1 fx
    · exact mem_eqAt rx fx t f.2 u' hu
def inV (x : V) (xs : List V) : Bool := xs.any fun y => eqV y x
def rIn (K : PySem.W.Frag) (neg : Bool) : R2 := fun x y H Q => ∃ p xs, y = .ref p ∧ (SqL K H p xs ∨ SqT K H p xs) ∧ flatV x = true ∧ xs.all flatV = true ∧ Q (.bl (if neg then !inV x xs else inV x xs)) H
theorem op_in_seq : OpR X (compareOp .In) (rIn X.K false) := by
  intro pins s σ H x y v u Q I rx ry h
  obtain ⟨p, xs, rfl, hq, fx, fs, q⟩ := h
  cases ry
  rcases hq with hq | hq
  · obtain ⟨its, r, pl, hz⟩ := I.list hq
    refine SeqAt.in_listAt (eqU x) pl.isList (fun w hw => mem_eqAt rx fx r fs w (by simpa using hw)) ⟨.bl _, H, I, rfl, ?_⟩
    rw [show its.toArray.any (eqU x) = its.any (eqU x) by simp, any_eqU r fs]
    exact q
  · obtain ⟨its, r, pl, hz⟩ := I.tuple hq
    refine SeqAt.in_tupleAt (eqU x) pl (fun w hw => mem_eqAt rx fx r fs w (by simpa using hw)) ⟨.bl _, H, I, rfl, ?_⟩
    rw [show its.toArray.any (eqU x) = its.any (eqU x) by simp, any_eqU r fs]
    exact q
theorem op_notIn_seq : OpR X (compareOp .NotIn) (rIn X.K true) := by
  intro pins s σ H x y v u Q I rx ry h
  obtain ⟨p, xs, rfl, hq, fx, fs, q⟩ := h
  cases ry
  rcases hq with hq | hq
  · obtain ⟨its, r, pl, hz⟩ := I.list hq
    refine SeqAt.notIn_listAt (eqU x) pl.isList (fun w hw => mem_eqAt rx fx r fs w (by simpa using hw)) ⟨.bl _, H, I, rfl, ?_⟩
    rw [show its.toArray.any (eqU x) = its.any (eqU x) by simp, any_eqU r fs]
    exact q
  · obtain ⟨its, r, pl, hz⟩ := I.tuple hq
    refine SeqAt.notIn_tupleAt (eqU x) pl (fun w hw => mem_eqAt rx fx r fs w (by simpa using hw)) ⟨.bl _, H, I, rfl, ?_⟩
    rw [show its.toArray.any (eqU x) = its.any (eqU x) by simp, any_eqU r fs]
    exact q
theorem call_len_seq : CallR X (.builtin "len") (fun xs H Q => ∃ p ys, xs = [.ref p] ∧ (SqL X.K H p ys ∨ SqT X.K H p ys) ∧ Q (.int ys.length) H) := by
  intro pins s σ H xs us Q I r h
  obtain ⟨p, ys, rfl, hq, q⟩ := h
  obtain ⟨u, rfl, rx⟩ := vals1 r
  cases rx
  have hn := line63
  rcases hq with hq | hq
  · obtain ⟨its, r', pl, hz⟩ := I.list hq
    have hlen := r'.length
    exact Calls.call_len_list pl.isList (by simp only [List.size_toArray] <;> omega) ⟨.int ys.length, H, I.tok _, ⟨s.toks + 1, by rw [List.size_toArray, hlen]⟩, q⟩
  · obtain ⟨its, r', pl, hz⟩ := I.tuple hq
    have hlen := r'.length
    exact len_tuple pl (by simp only [List.size_toArray] <;> omega) ⟨.int ys.length, H, I.tok _, ⟨s.toks + 1, by rw [List.size_toArray, hlen]⟩, q⟩
theorem call_len_str : CallR X (.builtin "len") (fun xs H Q => ∃ z, xs = [.str z] ∧ z.length ≤ sizeLine ∧ Q (.int z.length) H) := by
  intro pins s σ H xs us Q I r h
  obtain ⟨z, rfl, hz, q⟩ := h
  obtain ⟨u, rfl, t, rfl⟩ := vals1 r
  have hn := line63
  exact len_str (by omega) ⟨.int z.length, H, I.tok _, ⟨_, rfl⟩, q⟩
theorem call_list_of : CallR X (.type "list") (fun xs H Q => ∃ p ys, xs = [.ref p] ∧ (SqL X.K H p ys ∨ SqT X.K H p ys) ∧ ∀ l, H l = none → Q (.ref l) (upd H l (.lst ys))) := by
  intro pins s σ H xs us Q I r h
  obtain ⟨p, ys, rfl, hq, q⟩ := h
  obtain ⟨u, rfl, rx⟩ := vals1 r
  cases rx
  have fin : ∀ (its : List Value), Vals ys its → ys.length ≤ sizeLine → ∀ (h' : Heap) (c' : Nat), (∀ b o', s.heap.get? b = some o' → h'.get? b = some o') →
      h'.get? s.heap.objs.size = some { cls := .type "list", dict := none, data := .seq its.toArray c', slots := #[] } → EP X pins σ Q (.ref s.heap.objs.size) { s with heap := h' } := fun its r' hz h' c' kp e =>
    ⟨.ref s.heap.objs.size, _, I.laid (t' := s.toks) kp (Nat.le_refl _) (show ObjOk X.prog X.w _ h' _ (.lst ys) from ⟨hz, its, c', r', e⟩), rfl, q _ (I.hok.fresh (Nat.le_refl _))⟩
  rcases hq with hq | hq
  · obtain ⟨its, r', pl, hz⟩ := I.list hq
    have hlen := r'.length
    obtain ⟨o, ho, hc, n, hd⟩ := pl.isList
    exact call_list_seq p (.inl rfl) ho hc hd (fun h' c' kp e => fin its r' hz h' c' kp e) (by simp only [List.size_toArray] <;> omega)
  · obtain ⟨its, r', pl, hz⟩ := I.tuple hq
    have hlen := r'.length
    obtain ⟨o, ho, hc, n, hd⟩ := pl
    exact call_list_seq p (.inr rfl) ho hc hd (fun h' c' kp e => fin its r' hz h' c' kp e) (by simp only [List.size_toArray] <;> omega)
def tyV (K : PySem.W.Frag) (T : String) (x : V) (H : Hp) : Prop := match x with
  | .str _ => T = "str"
  | .int _ => T = "int"
  | .ref p => (T = "list" ∧ ∃ xs, SqL K H p xs) ∨ (T = "tuple" ∧ ∃ o, K.lookup p = some o ∧ o.cls = .type "tuple" ∧ o.dict = none) ∨
      (T = "dict" ∧ ((∃ kvs, H p = some (.dK kvs)) ∨ ∃ kvs, H p = some (.dT kvs))) ∨ (T = "set" ∧ ∃ S n, H p = some (.set S n))
  | _ => False
theorem tyV_is {pins : List (Addr × Obj)} {σ : St} {H : Hp} {s : Shared} {T : String} {x : V} {v : Value} (I : Inv X pins σ H s) (r : RelV x v) (ty : tyV X.K T x H) :
    s.TypeIs v T ∧ ∀ a, v = .ref a → ∃ ob, s.heap.get? a = some ob ∧ ob.dict = none := by
  cases x with
  | str z =>
    obtain ⟨t, rfl⟩ := r
    cases (show T = "str" from ty)
    exact ⟨typeIs_str s z t, fun _ e => nomatch e⟩
  | int i =>
    obtain ⟨t, rfl⟩ := r
    cases (show T = "int" from ty)
    exact ⟨typeIs_int s i t, fun _ e => nomatch e⟩
  | ref p =>
    cases r
    rcases ty with ⟨rfl, xs, hq⟩ | ⟨rfl, o, hk, hc, hd⟩ | ⟨rfl, hk⟩ | ⟨rfl, S, n, hk⟩
    · obtain ⟨its, _, pl, _⟩ := I.list hq
      refine ⟨pl.isList.typeIs, fun a e => ?_⟩
      cases e
      obtain ⟨o, n, e, c, hd, _⟩ := pl
      exact ⟨o, e, hd⟩
    · refine ⟨⟨o, I.kIn p o hk, hc⟩, fun a e => ?_⟩
      cases e
      exact ⟨o, I.kIn _ o hk, hd⟩
    · have z : ∃ o, s.heap.get? p = some o ∧ o.ExactDict := by
        rcases hk with ⟨kvs, hk⟩ | ⟨kvs, hk⟩
        · obtain ⟨_, _, _, _, o, _, _, e, ex, _⟩ := I.hok p _ hk
          exact ⟨o, e, ex⟩
        · obtain ⟨_, _, _, _, o, _, _, e, ex, _⟩ := I.hok p _ hk
          exact ⟨o, e, ex⟩
      obtain ⟨o, e, ex⟩ := z
      refine ⟨⟨o, e, ex.1⟩, fun a e2 => ?_⟩
      cases e2
      exact ⟨o, e, ex.2.1⟩
    · obtain ⟨o, _, _, _, e, ex, _⟩ := I.hok p _ hk
      refine ⟨⟨o, e, ex.1⟩, fun a e2 => ?_⟩
      cases e2
      exact ⟨o, e, ex.2.1⟩
  | _ => exact False.elim ty
def tBM0 (K : PySem.W.Frag) (T : String) (r : V → List V → Hp → VK → Prop) (to : TE) : TE := fun σ H Q => to σ H fun x H1 => tyV K T x H1 ∧ r x [] H1 Q
def tBM (K : PySem.W.Frag) (T : String) (r : V → List V → Hp → VK → Prop) (to : TE) (t : TA) : TE := fun σ H Q => to σ H fun x H1 => tyV K T x H1 ∧ t σ H1 fun xs H2 => r x xs H2 Q
variable {o e : Expr} {es : List Expr} {to : TE} {t : TA} {name : Str} {apos cpos : Pos} {T id : String} {r : V → List V → Hp → VK → Prop}
theorem pe_bm0 (pa : PlainAttrs T) (slot : Slot T name id) (hty : typeOf (.builtin id) = pure (.type "method_descriptor")) (hm : MtR X id r) (ho : PE X o to)
    (hbase : attributeBase o name X.env (eval o X.env) = eval o X.env := by rfl) (hline : (apos.endLine == cpos.line) = true := by rfl) : PE X (.Call (.Attribute o name apos) [] [] cpos) (tBM0 X.K T r to) := by
  intro pins s σ H Q I h
  refine wpAny_Call_method0_late hbase hline (thn (ho pins s σ H _ I h) fun v s1 ⟨x, H1, I1, r1, ty, q1⟩ => ?_)
  obtain ⟨h1, h2⟩ := tyV_is I1 r1 ty
  exact ⟨T, id, pa, slot, hty, h1, h2, Calls.callWith_builtin rfl (PySem.evalArgs_none (hm pins s1 σ H1 x [] v [] Q I1 r1 .nil q1))⟩
theorem pe_bm (pa : PlainAttrs T) (slot : Slot T name id) (hty : typeOf (.builtin id) = pure (.type "method_descriptor")) (hm : MtR X id r) (ho : PE X o to) (ha : PA X (e :: es) t)
    (hbase : attributeBase o name X.env (eval o X.env) = eval o X.env := by rfl)
    (hfew : ((backTo cpos (starEach (e :: es) X.env)).all (fun x => !x.1) && (backToKw cpos (keywordEach [] X.env)).all (fun x => x.1.isSome)
      && decide ((e :: es).length + ([] : List Keyword).length + (if ([] : List Keyword).isEmpty then 0 else 1) < 30)) = true := by rfl)
    (hline : (apos.endLine == cpos.line) = true := by rfl) (hs : starEach (e :: es) X.env = (false, eval e X.env) :: starEach es X.env := by rfl) (hplain : (backTo cpos (starEach es X.env)).any (·.1) = false := by rfl) :
    PE X (.Call (.Attribute o name apos) (e :: es) [] cpos) (tBM X.K T r to t) := by
  intro pins s σ H Q I h
  refine wpAny_Call_method_late hbase hfew hline rfl (thn (ho pins s σ H _ I h) fun v s1 ⟨x, H1, I1, r1, ty, q1⟩ => ?_)
  obtain ⟨h1, h2⟩ := tyV_is I1 r1 ty
  refine ⟨T, id, pa, slot, hty, h1, h2, ?_⟩
  have hA := ha cpos pins s1 σ H1 _ I1 q1
  rw [hs] at hA ⊢
  refine Calls.callWith_builtin (by show (false || (backTo cpos (starEach es X.env)).any (·.1)) = false; rw [hplain] <;> rfl) (Calls.evalArgs_plain ?_)
  exact thn hA fun us s2 ⟨vs, H2, I2, r2, q2⟩ => hm pins s2 σ H2 x vs v us Q I2 r1 r2 q2
end
end L2
namespace L2
open PySem PySem.Spec PyProof.Rows
def MtM (X : Cx) (id : String) (r : V → List V → Hp → VK → Prop) : Prop :=
  ∀ (pins : List (Addr × Obj)) (s : Shared) (σ : St) (H : Hp) (x : V) (xs : List V) (v : Value) (us : List Value) (Q : VK), Inv X pins σ H s → RelV x v → Vals xs us → r x xs H Q →
    wpAny (model X.prog X.w) X.A (call (.builtin id) (v :: us)) (EP X pins σ Q) X.xe s
theorem Vals.one : ∀ {x : V} {us : List Value}, Vals [x] us → ∃ u, us = [u] ∧ RelV x u
  | _, _, .cons r .nil => ⟨_, rfl, r⟩
theorem Vals.zero : ∀ {us : List Value}, Vals [] us → us = []
  | _, .nil => rfl
theorem Vals.dropLast {xs : List V} {us : List Value} (h : Vals xs us) : Vals xs.dropLast us.dropLast := by
  induction h with
  | nil => exact .nil
  | cons r t ih =>
    cases t with
    | nil => exact .nil
    | cons q t' => exact .cons r ih
theorem Vals.reverse {xs : List V} {us : List Value} (h : Vals xs us) : Vals xs.reverse us.reverse := by
  induction h with
  | nil => exact .nil
  | cons r t ih => rw [List.reverse_cons, List.reverse_cons]; exact Vals.append ih (.cons r .nil)
theorem Vals.rep {xs : List V} {us : List Value} (h : Vals xs us) : ∀ k : Nat, Vals (List.replicate k xs).flatten (List.replicate k us).flatten
  | 0 => .nil
  | k + 1 => by
    rw [List.replicate_succ, List.replicate_succ, List.flatten_cons, List.flatten_cons]
    exact Vals.append h (Vals.rep h k)
theorem erase_last {α : Type} (l : List α) : l.eraseIdx (l.length - 1) = l.dropLast := by
  induction l with
  | nil => rfl
  | cons a r ih =>
    cases r with
    | nil => rfl
    | cons b r =>
      have e : (a :: b :: r).length - 1 = ((b :: r).length - 1) + 1 := by
        have h1 : (a :: b :: r).length = r.length + 2 := rfl
        have h2 : (b :: r).length = r.length + 1 := rfl
        omega
      rw [e, List.eraseIdx_cons_succ, ih]
      all_goals rfl
theorem foldl_rep (its : List Value) : ∀ (k : Nat) (acc : List Value),
    List.foldl (fun x1 x2 => x1 ++ x2) acc.toArray (List.replicate k its.toArray) = (acc ++ (List.replicate k its).flatten).toArray
  | 0, acc => by simp
  | k + 1, acc => by
    have e : acc.toArray ++ its.toArray = (acc ++ its).toArray := by simp
    have e2 : (acc ++ its) ++ (List.replicate k its).flatten = acc ++ (List.replicate (k + 1) its).flatten := by
      rw [List.replicate_succ, List.flatten_cons, List.append_assoc]
    rw [← e2, ← foldl_rep its k (acc ++ its), ← e, List.replicate_succ, List.foldl_cons]
section
variable {X : Cx} {pins : List (Addr × Obj)} {σ : St} {H : Hp} {s : Shared} {l b : Addr} {xs ys zs : List V}
theorem Inv.lset {its its' : List Value} {n : Nat} {f : Array Value → Array Value} {t' : Nat} (I : Inv X pins σ H s) (hH : H l = some (.lst xs))
    (e : s.heap.get? l = some { cls := .type "list", data := .seq its.toArray n }) (hf : f its.toArray = its'.toArray) (hv : Vals ys its') (hz : ys.length ≤ sizeLine) :
    Inv X pins σ (upd H l (.lst ys)) { s with heap := s.heap.update l (Obj.mapSeq f), toks := t' } := by
  have q := PySem.IsL.update e f
  rw [hf] at q
  refine I.write (x := l) (e := l) (by rw [hH]; exact trivial) (.inl rfl) (fun b' u hb hu => (Heap.get?_update_other s.heap (Obj.mapSeq f) (Ne.symm hb)).trans hu) ⟨_, q⟩ ?_
  exact ⟨hz, its', _, hv, q⟩
theorem Inv.lnew {its : List Value} {t' : Nat} (I : Inv X pins σ H s) (hv : Vals ys its) (hz : ys.length ≤ sizeLine) :
    Inv X pins σ (upd H s.heap.objs.size (.lst ys)) { s with heap := s.heap.push { cls := .type "list", data := .seq its.toArray }, toks := t' } :=
  I.laid (fun _ _ q => Heap.get?_push_of_some _ q) (Nat.le_refl _) ⟨hz, its, 0, hv, Heap.get?_push_size _ rfl⟩
theorem Inv.fresh (I : Inv X pins σ H s) : H s.heap.objs.size = none := I.hok.fresh (Nat.le_refl _)
theorem Inv.lstM (I : Inv X pins σ H s) (hH : H l = some (.lst xs)) : xs.length ≤ sizeLine ∧ ∃ (its : List Value) (n : Nat), Vals xs its ∧ xs.length = its.length ∧ s.heap.get? l = some { cls := .type "list", data := .seq its.toArray n } := by
  obtain ⟨z, its, n, r, e⟩ := I.hok l _ hH
  exact ⟨z, its, n, r, r.length, e⟩
theorem notLongL {n : Nat} (h : n ≤ sizeLine) : Builtin.List.listTooLong n = false := by
  unfold Builtin.List.listTooLong
  exact decide_eq_false (by omega)
end
section
variable {X : Cx}
def rAppend : V → List V → Hp → VK → Prop := fun x vs H Q => ∃ l xs y, x = .ref l ∧ vs = [y] ∧ H l = some (.lst xs) ∧ xs.length < sizeLine ∧ Q .non (upd H l (.lst (xs ++ [y])))
theorem mt_append : MtM X "list.append" rAppend := by
  intro pins s σ H x vs v us Q I rx rv h
  obtain ⟨l, xs, y, rfl, rfl, hH, hz, q⟩ := h
  cases rx
  obtain ⟨u, rfl, ru⟩ := rv.one
  obtain ⟨z, its, n, r, hl, e⟩ := I.lstM hH
  refine call_meets F.slot_list_append ⟨_, e, rfl⟩ F.entry_list_append (F.args_list_append_2 _ _) (PySem.list_append l its.toArray n u (by rw [List.size_toArray]; omega)) ⟨e, ?_⟩
  refine ⟨.non, _, I.lset (its' := its ++ [u]) hH e (by simp) (r.append (.cons ru .nil)) ?_, rfl, q⟩
  rw [List.length_append, List.length_singleton]
  omega
def rExtend : V → List V → Hp → VK → Prop := fun x vs H Q => ∃ l b xs zs, x = .ref l ∧ vs = [.ref b] ∧ H l = some (.lst xs) ∧ H b = some (.lst zs) ∧ xs.length + zs.length ≤ sizeLine ∧ Q .non (upd H l (.lst (xs ++ zs)))
theorem mt_extend : MtM X "list.extend" rExtend := by
  intro pins s σ H x vs v us Q I rx rv h
  obtain ⟨l, b, xs, zs, rfl, rfl, hH, hB, hz, q⟩ := h
  cases rx
  obtain ⟨u, rfl, ru⟩ := rv.one
  cases ru
  obtain ⟨z, its, n, r, hl, e⟩ := I.lstM hH
  obtain ⟨z2, its2, n2, r2, hl2, e2⟩ := I.lstM hB
  have hsz : its.toArray.size + its2.toArray.size ≤ sizeLine := by rw [List.size_toArray, List.size_toArray]; omega
  have hlong : ¬ (!its.toArray.isEmpty && Builtin.List.listTooLong (its.toArray.size + its2.toArray.size)) = true := by
    rw [notLongL hsz, Bool.and_false]
    exact Bool.false_ne_true
  refine call_meets F.slot_list_extend ⟨_, e, rfl⟩ F.entry_list_extend (F.args_list_extend_2 _ _)
    (AutoSeq1.list_extend_list_list_0 l its.toArray n b its2.toArray n2 hlong (by rw [List.size_toArray]; omega) (by omega)) ⟨e, e2, ?_⟩
  refine ⟨.non, _, I.lset (its' := its ++ its2) hH e (by simp) (r.append r2) ?_, rfl, q⟩
  rw [List.length_append]
  omega
def rPop : V → List V → Hp → VK → Prop := fun x vs H Q => ∃ l xs y, x = .ref l ∧ vs = [] ∧ H l = some (.lst xs) ∧ xs[xs.length - 1]? = some y ∧ Q y (upd H l (.lst xs.dropLast))
theorem mt_pop : MtM X "list.pop" rPop := by
  intro pins s σ H x vs v us Q I rx rv h
  obtain ⟨l, xs, y, rfl, rfl, hH, hy, q⟩ := h
  cases rx
  have hus := rv.zero
  subst hus
  obtain ⟨z, its, n, r, hl, e⟩ := I.lstM hH
  obtain ⟨u, hu, ru⟩ := r.get hy
  have hy' : its.toArray[its.toArray.size - 1]? = some u := by
    show its.toArray[its.length - 1]? = some u
    rw [← Array.getElem?_toList, ← hl]
    exact hu
  refine call_meets F.slot_list_pop ⟨_, e, rfl⟩ F.entry_list_pop (F.args_list_pop_1 _) (MeetsSeq.list_pop_last l its.toArray n u hy' (by rw [List.size_toArray]; omega)) ⟨e, ?_⟩
  refine ⟨y, _, I.lset (its' := its.dropLast) hH e ?_ r.dropLast ?_, ru, q⟩
  · show its.toArray.eraseIdxIfInBounds (its.toArray.size - 1) = its.dropLast.toArray
    rw [List.size_toArray, List.eraseIdxIfInBounds_toArray, erase_last]
  · rw [List.length_dropLast]
    omega
def rCat : R2 := fun x y H Q => ∃ l b xs zs, x = .ref l ∧ y = .ref b ∧ H l = some (.lst xs) ∧ H b = some (.lst zs) ∧ xs.length + zs.length ≤ sizeLine ∧ ∀ p, H p = none → Q (.ref p) (upd H p (.lst (xs ++ zs)))
theorem op_cat : OpR X (binaryOp .Add) rCat := by
  intro pins s σ H x y v u Q I rx ry h
  obtain ⟨l, b, xs, zs, rfl, rfl, hH, hB, hz, q⟩ := h
  cases rx
  cases ry
  obtain ⟨z, its, n, r, hl, e⟩ := I.lstM hH
  obtain ⟨z2, its2, n2, r2, hl2, e2⟩ := I.lstM hB
  refine PySem.P.add_list e e2 ?_ (by rw [List.size_toArray, List.size_toArray]; omega)
  have ea : its.toArray ++ its2.toArray = (its ++ its2).toArray := by simp
  rw [ea]
  exact ⟨.ref _, _, I.lnew (t' := s.toks) (r.append r2) (by rw [List.length_append]; omega), rfl, q _ I.fresh⟩
def rRep : R2 := fun x y H Q => ∃ l k xs, x = .ref l ∧ y = .int k ∧ H l = some (.lst xs) ∧ -(2 ^ 63) ≤ k ∧ k < 2 ^ 63 ∧ xs.length * k.toNat ≤ sizeLine ∧
  ∀ p, H p = none → Q (.ref p) (upd H p (.lst (List.replicate k.toNat xs).flatten))
theorem len_rep {α : Type} (xs : List α) (k : Nat) : (List.replicate k xs).flatten.length = k * xs.length := by
  induction k with
  | zero => simp
  | succ k ih => rw [List.replicate_succ, List.flatten_cons, List.length_append, ih, Nat.succ_mul, Nat.add_comm]
theorem op_rep : OpR X (binaryOp .Mult) rRep := by
  intro pins s σ H x y v u Q I rx ry h
  obtain ⟨l, k, xs, rfl, rfl, hH, h1, h2, hz, q⟩ := h
  cases rx
  obtain ⟨t, rfl⟩ := ry
  obtain ⟨z, its, n, r, hl, e⟩ := I.lstM hH
  have hlen : its.toArray.size * k.toNat ≤ sizeLine := by rw [List.size_toArray, ← hl]; exact hz
  have hcap : ¬ its.toArray.size * k.toNat > (2 ^ 63 - 1) / 8 := by
    have : (sizeLine : Nat) ≤ (2 ^ 63 - 1) / 8 := by decide
    omega
  have hfit : ¬ (!Builtin.List.listFitsIndex k) = true := by
    rw [fitsIndex_both h1 h2]
    exact Bool.false_ne_true
  have hlong : ¬ Builtin.List.listTooLong (its.toArray.size * k.toNat) = true := by
    rw [notLongL hlen]
    exact Bool.false_ne_true
  have hnew : List.foldl (fun x1 x2 => x1 ++ x2) #[] (List.replicate (if its.toArray.isEmpty = true then 0 else k.toNat) its.toArray) = (List.replicate k.toNat its).flatten.toArray := by
    have f0 : ∀ m : Nat, List.foldl (fun x1 x2 => x1 ++ x2) #[] (List.replicate m its.toArray) = (List.replicate m its).flatten.toArray := fun m => by
      have := foldl_rep its m []
      rw [List.nil_append] at this
      exact this
    rw [f0]
    cases its with
    | nil => simp
    | cons a r' => rw [if_neg (by simp)]
  refine wpAny_binaryOp_repeat_ref (T := "list") (U := "int") (by decide) ⟨_, e, rfl⟩ (fun s' => typeIs_int s' k t) noFill_list_mul F.fills_int_mul F.slot_int_rmul repeat_list F.slot_int_index.lookup
    (call_meets F.slot_int_rmul (typeIs_int s k t) F.entry_int_rmul (F.args_int_rmul_2 _ _) (int___rmul___int_list k t l its.toArray n)
      ⟨e, rfl, ⟨_, e, rfl⟩, call_meets F.slot_list_mul ⟨_, e, rfl⟩ F.entry_list_mul (F.args_list_mul_2 _ _) (AutoListH.list___mul___list_int_3 l its.toArray n k t hfit hcap hlong) ⟨e, ?_⟩⟩)
  rw [hnew]
  exact ⟨.ref _, _, I.lnew (t' := s.toks) (r.rep k.toNat) (by rw [len_rep, Nat.mul_comm]; exact hz), rfl, q _ I.fresh⟩
end
section
variable {prog : Program} {w : World} {A : Around} {E : Value → Shared → Prop} {s : Shared}
theorem bounds_run {a c n : Nat} (hac : a ≤ c) (hc : c ≤ n) : sliceBounds (some (a : Int)) (some (c : Int)) none n = ((a : Int), (c : Int), 1) := by
  simp only [sliceBounds, Option.getD_none]
  have h1 : ¬ ((a : Int) < 0) := by omega
  have h2 : ¬ ((c : Int) < 0) := by omega
  simp only [h1, h2, if_false, show (1 : Int) > 0 by decide, if_true]
  congr 1
  · omega
  · congr 1; omega
set_option maxRecDepth 100000 in
theorem setItem_slice {l b sl : Addr} {items new : Array Value} {n n2 : Nat} {vl vu : Value} {a c : Nat} {Q : Unit → Shared → Prop}
    (e : s.heap.get? l = some { cls := .type "list", data := .seq items n }) (e2 : s.heap.get? b = some { cls := .type "list", data := .seq new n2 }) (hne : l ≠ b)
    (hs : s.heap.IsSliceOf sl vl vu .none) (pl : IsPart vl (some (a : Int))) (pu : IsPart vu (some (c : Int))) (hac : a ≤ c) (hc : c ≤ items.size)
    (hsz : items.size + new.size ≤ sizeLine) (h : Q () { s with heap := s.heap.update l (Obj.mapSeq fun xs => xs.extract 0 a ++ new ++ xs.extract c xs.size) }) :
    wpAny (model prog w) A (setItem (.ref l) (.ref sl) (.ref b)) Q E s := by
  have hl : s.heap.IsList l items := PySem.IsL.isList e
  have hb : s.heap.IsList b new := PySem.IsL.isList e2
  obtain ⟨os, hos, hcs, hds⟩ := id hs
  have hTs : s.TypeIs (.ref sl) "slice" := ⟨os, hos, hcs⟩
  have hstep : ¬ ((rawPart none == rawInt 0) = true) := Bool.false_ne_true
  have hsame : Builtin.List.listSameRef (.ref l) (.ref b) = false := by
    unfold Builtin.List.listSameRef
    exact beq_eq_false_iff_ne.mpr hne
  have hmax : (max (a : Int) (c : Int)).toNat = c := by omega
  have hz' : ((fun xs : Array Value => xs.extract 0 a ++ new ++ xs.extract c xs.size) items).size ≤ sizeLine + 1 := by
    simp only [Array.size_append, Array.size_extract]
    omega
  unfold setItem
  try with_reducible refine wpAny_holding ?_
  first | refine wpAny_bind (wpAny_pure ?_) | skip
  refine wpAny_bind (wpAny_sequenceKey hl.typeIs (by decide) ?_)
  refine wpAny_bind (wpAny_callSpecial?_slot (name := Str.ofString "__setitem__") hl.typeIs slot_list_setitem
    (wpAny_call_entry slot_list_setitem hl.typeIs entry_list_setitem ?_ (args_list_setitem _ _ _)))
  show wpAny _ _ (Builtin.List.listSubscript? (.ref sl) >>= _) _ _ s
  refine wpAny_bind ?_
  unfold Builtin.List.listSubscript?
  refine wpAny_bind (wpAny_specialOf hTs slice_no_index ?_)
  simp only [Option.isNone_none, if_true]
  refine wpAny_pure ?_
  show wpAny _ _ (typeOf (.ref sl) >>= _) _ _ s
  refine wpAny_bind (wpAny_typeOf hTs ?_)
  first
    | rw [if_neg (by decide)]
    | refine PySem.W.KFB.if_not (by decide) ?_
  rw [listSliceParts_eq]
  refine wpAny_bind (wpAny_bind (wpAny_field hos hds (x := .none) rfl (wpAny_bind (wpAny_listPart .none ?_))))
  rw [if_neg hstep]
  refine wpAny_bind (wpAny_field hos hds (x := vl) rfl (wpAny_bind (wpAny_listPart pl ?_)))
  refine wpAny_bind (wpAny_field hos hds (x := vu) rfl (wpAny_bind (wpAny_listPart pu (wpAny_pure ?_))))
  first
    | simp only [hsame, Bool.false_eq_true, if_false]
    | refine PySem.W.KFB.if_not hsame ?_
    | (dsimp only
       rw [if_neg (by rw [hsame]; exact Bool.false_ne_true)])
  refine wpAny_bind (m := Builtin.List.listAllItems (.ref b) "must assign iterable to extended slice") ?_
  unfold Builtin.List.listAllItems
  refine wpAny_bind (wpAny_typeOf hb.typeIs ?_)
  first
    | refine PySem.W.KFB.if_so (by decide) ?_
    | rw [if_pos (by decide)]
    | simp only [beq_self_eq_true, Bool.true_or, if_true]
  unfold Builtin.List.listItems
  refine wpAny_bind (wpAny_seqItems e2 rfl (wpAny_pure ?_))
  refine wpAny_bind (wpAny_bind (wpAny_seqItems e rfl (wpAny_pure ?_)))
  refine wpAny_bind (wpAny_of_eq ((sliceIndices_raw (some (a : Int)) (some (c : Int)) none items.size (by simp)).trans (congrArg (pure : Int × Int × Int → Sem (Int × Int × Int)) (bounds_run hac hc))) ?_)
  show wpAny _ _ (if ((1 : Int) == 1) = true then _ else _) _ _ s
  rw [if_pos (by decide)]
  refine wpAny_bind (wpAny_rule ?_)
  first
    | simp only [notLongL hsz, Bool.false_eq_true, if_false]
    | refine PySem.W.KFB.if_not (notLongL hsz) ?_
  first | refine wpAny_bind (wpAny_pure ?_) | skip
  show wpAny _ _ (updateSeq l (fun xs => xs.extract 0 ((a : Int)).toNat ++ new ++ xs.extract (max (a : Int) (c : Int)).toNat xs.size) >>= _) _ _ s
  rw [hmax, Int.toNat_natCast]
  refine wpAny_bind (wpAny_updateSeq (hz := Nat.le_trans (Nat.le_add_right _ _) hsz) (_hz' := hz') e rfl ?_)
  refine wpAny_bind (wpAny_letGo ?_)
  first
    | exact wpAny_bind (wpAny_pure (wpAny_pure ⟨.none, rfl, wpAny_pure h⟩))
    | exact wpAny_pure ⟨.none, rfl, wpAny_pure h⟩
end
end L2
namespace Att
open PySem PySem.W PySem.Calls PyProof.Rows
theorem ints_of_wellAll {P : Params} {h : Heap} : ∀ (ns : List Int) (vs : List Value), WellAll P h vs (ns.map WData.int) → IntsAre vs ns := by
  intro ns
  induction ns with
  | nil =>
    intro vs w
    rw [List.map_nil] at w
    cases w
    exact .nil
  | cons n ns ih =>
    intro vs w
    rw [List.map_cons] at w
    cases w with
    | cons a b =>
      cases a
      exact .cons _ _ (ih _ b)
theorem script_of {l : OpenLaw} {n : Nat} (hn : l.most = some n) {P : Params} {h : Heap} {args : List WData} {vals : List Value}
    (hpre : l.row.toRowW.claim.pre args = true) (hwl : WellAll P h vals args) :
    ∃ a vs ns, vals = [Value.ref a] ∧ args = [WData.list (ns.map WData.int)] ∧ h.get? a = some { cls := .type "list", data := .seq vs.toArray } ∧ IntsAre vs ns ∧ ns.length ≤ n := by
  have hsh : WShape.hasAll [] args [.list .int] = true := (pre_splitW hpre).1
  have hc : l.pre.holds [] { args := args } = true := (pre_splitW hpre).2
  obtain ⟨d, r, rfl, h1, h2⟩ := hasAllW_cons hsh
  obtain rfl := hasAllW_nil h2
  obtain ⟨xs, rfl, h3⟩ := hasW_list h1
  obtain ⟨ns, rfl⟩ := items_int h3
  have hlen : ns.length ≤ n := by
    unfold OpenLaw.pre at hc
    have h4 : (WTm.not (.lt (.lit (.int (n : Int))) (.len (.arg 0)))).holds [] { args := [.list (ns.map .int)] } = true := by
      have h4 := (holds_andW hc).1
      rw [hn] at h4
      exact h4
    have h5 := condW_of h4 (w_not (w_lt w_lit (w_len_list (w_arg rfl))))
    rw [List.length_map] at h5
    refine Nat.le_of_not_lt fun q => ?_
    have q' : (n : Int) < ((ns.length : Nat) : Int) := by omega
    first
      | (rw [decide_eq_true q'] at h5; exact absurd h5 (by decide))
      | (simp at h5; omega)
  cases hwl with
  | cons w1 w2 =>
    cases w2
    cases w1 with
    | list ho hall => exact ⟨_, _, ns, rfl, rfl, ho, ints_of_wellAll ns _ hall, hlen⟩
theorem post_true (l : OpenLaw) (args : List WData) : l.row.toRowW.claim.post args (.bool true) args = true :=
  postW_of (r := l.row.toRowW) (X := (true == true))
    (show WShape.has [] (.bool true) .bool = true by first | rfl | decide | simp [WShape.has, WShape.arms, WShape.armsAll])
    (show (WTm.eq .res (.lit (.bool true))).value [] { args := args, res := some (.bool true), after := args } = some (.bool (true == true)) from w_eq_bool (w_res rfl) w_lit) rfl
theorem attach_call {l : OpenLaw} {n : Nat} {q : Program} {loose : List Str} {XP : (Str → Option Value) → Heap → Prop} {YP : World → Heap → Prop} {d : DefRec}
    (hn : l.most = some n) (hdf : d.params.defaults = [])
    (call : ∀ (w : World) (s₀ s₁ : Shared) (mg mb : Str → Option Value) (fa : Addr) (o : Obj) (pm cd doc : Value) (a : Addr) (vs : List Value) (ns : List Int),
      Ground q loose [] XP w s₀ mg mb s₁.heap → YP w s₁.heap →
      s₁.heap.get? fa = some o → o.data = .func (docDef d.name d.params d.body d.scope pm cd doc) → s₁.heap.CodeRec cd d.name → mg d.name = some (.ref fa) →
      s₁.heap.get? a = some { cls := .type "list", data := .seq vs.toArray } → IntsAre vs ns → ns.length ≤ n → s₁.gens = #[] →
      codeAny (model l.prog w) callerA (.call (.ref fa) ⟨[.ref a], []⟩) (fun r s' => r = .ok (.ret (.bool true)) ∧ OldK s₁.heap s'.heap ∧ s'.os = s₁.os ∧ AllBare s'.gens) s₁) :
    WalkO q loose XP YP l.row.toRowW d [] (fun f vs => PySem.call f vs) := by
  intro w s₀ s₁ mg mb G Y fa o pm cd doc dV kV ho hd hcd hD hmg hg args vals as hpre hlay hrd hwl hlo
  obtain rfl : dV = .none := Dflts.none hD hdf
  obtain rfl : kV = .none := Dflts.noKw hD
  obtain ⟨a, vs, ns, rfl, rfl, hobj, hints, hlen⟩ := script_of hn hpre hwl
  refine enter_call (codeAny_mono (call w s₀ s₁ mg mb fa o pm cd doc a vs ns G Y ho (fd_plain hd) hcd hmg hobj hints hlen hg) fun r s' hq => ?_)
  obtain ⟨rfl, h2, h3, h4⟩ := hq
  exact ⟨.inl ⟨.bool true, .bool true, [], rfl, fun _ => rfl, .bool true, post_true l _, fun _ => ⟨List.Pairwise.nil, fun _ hm => (nomatch hm)⟩⟩, h2, h3, h4⟩
end Att
namespace L2
open PySem PySem.Spec PyProof.Rows
theorem vals_ints : ∀ {vs : List Value} {ns : List Int}, IntsAre vs ns → Vals (ns.map V.int) vs
  | _, _, .nil => .nil
  | _, _, .cons n t h => .cons ⟨t, rfl⟩ (vals_ints h)
def Only (H : Hp) : Prop := ∀ b, H b = none ∨ ∃ o xs, H b = some (.frz o (.lst xs))
theorem law_call {P : Program} {w : World} {K : PySem.W.Frag} {mg mb : Str → Option Value} {CX : CXT} {k : Nat} {fa a : Addr} {fd : FuncData} {x : Str} {sp : Sp} {s₁ : Shared} {vs : List Value} {ns : List Int}
    (KX : K.In s₁.heap) (hns : s₁.heap.Ns mainGlobals mg) (hb : s₁.heap.Ns builtinsNs mb) (hbb : ∀ x : Str, x ≠ "__name__" → mb x = bootBuiltins x) (hlim : s₁.heap.NoLimit) (hg : s₁.gens = #[])
    (ha : s₁.heap.get? a = some { cls := .type "list", data := .seq vs.toArray }) (hi : IntsAre vs ns) (hl : ns.length ≤ sizeLine) (hr : Room k callerA)
    (F : ∀ base : Heap, K.In base → base.Ns mainGlobals mg → FnOk P w K mg base CX k fa fd [x] sp) (hbind : ∀ (s : Shared) (u : Value), BindsTo s fd ⟨[u], []⟩ [(x, u)])
    (hsp : ∀ H : Hp, Only H → SqL K H a (ns.map V.int) → sp [.ref a] H (fun v _ => v = .bl true) fun _ _ _ => False)
    (hCX : ∀ H e s', CX [] H s₁ (fun _ _ _ => False) e s' → False) :
    codeAny (model P w) callerA (.call (.ref fa) ⟨[.ref a], []⟩) (fun r s' => r = .ok (.ret (.bool true)) ∧ OldK s₁.heap s'.heap ∧ s'.os = s₁.os ∧ AllBare s'.gens) s₁ := by
  have rv := vals_ints hi
  have lenV := hi.length
  have core : ∀ H : Hp, Only H → SqL K H a (ns.map V.int) → HOk P w H s₁.heap → (∀ b, H b ≠ none → b = a) → (H a ≠ none → K.lookup a = none) →
      codeAny (model P w) callerA (.call (.ref fa) ⟨[.ref a], []⟩) (fun r s' => r = .ok (.ret (.bool true)) ∧ OldK s₁.heap s'.heap ∧ s'.os = s₁.os ∧ AllBare s'.gens) s₁ := by
    intro H hO hS hok hA hK
    have base_of : ∀ {b : Addr} {o : Obj}, s₁.heap.get? b = some o → H b = none → (hidT s₁.heap H).get? b = some o := fun e n => hidT_get e n
    have noA : ∀ {b : Addr} {o : Obj} {es : Array DictEntry} {ep : Nat}, s₁.heap.get? b = some o → o.data = .dict es ep → H b = none := fun {b o es ep} e d => by
      cases q : H b with
      | none => rfl
      | some u =>
        have e' : b = a := hA b (by rw [q]; simp)
        subst e'
        rw [ha] at e; cases e
        have d' : Data.seq vs.toArray _ = Data.dict es ep := d
        cases d'
    have nsK : ∀ {b : Addr} {m : Str → Option Value}, s₁.heap.Ns b m → (hidT s₁.heap H).Ns b m := fun {b m} ⟨o, es, ep, e, d, r⟩ => ⟨o, es, ep, base_of e (noA e d), d, r⟩
    have hKb : K.In (hidT s₁.heap H) := fun b o e => base_of (KX b o e) (by
      cases q : H b with
      | none => rfl
      | some u =>
        have e' : b = a := hA b (by rw [q]; simp)
        subst e'
        rw [hK (by rw [q]; simp)] at e; cases e)
    have hM : Mod K mg (hidT s₁.heap H) := ⟨hKb, nsK hns, ⟨mb, nsK hb, hbb⟩, let ⟨mc, h1, h2⟩ := hlim; ⟨mc, nsK h1, h2⟩⟩
    have e0 : Env0 P w K mg (hidT s₁.heap H) callerA [] s₁ H := ⟨rfl, hM, fun b o e => of_hidT e, Nat.le_of_eq (hidT_size _ _), trivial, fun b hb => absurd (show b ∈ ([] : List Addr) from hb) (by simp), hok, .of_eq hg⟩
    refine codeAny_mono ((F _ hKb (nsK hns)).run callerA [] s₁ H ⟨[.ref a], []⟩ [.ref a] [.ref a] _ _ hr e0 (hbind s₁ (.ref a)) (.cons rfl .nil) (hsp H hO hS)) fun r s' h => ?_
    cases r with
    | error e => exact (hCX H e s' h).elim
    | ok fl =>
      cases fl with
      | next => exact False.elim h
      | brk => exact False.elim h
      | cont => exact False.elim h
      | ret u =>
        obtain ⟨v, H', os, bare, un, hok', r', q⟩ := h
        have q' : v = .bl true := q
        subst q'
        obtain rfl : u = Value.bool true := r'
        refine ⟨rfl, OldK.of_keep fun b o e => ?_, os, bare⟩
        cases q : H b with
        | none => exact un.keep b o e q (by intro z; exact absurd (show b ∈ ([] : List Addr) from z) (by simp)) (by simp)
        | some u =>
          rcases hO b with z | ⟨ob, xs, z⟩
          · rw [q] at z; cases z
          · have z2 := un.frzs b ob _ z
            obtain ⟨e1, _⟩ := hok b _ z
            obtain ⟨e2, _⟩ := hok' b _ z2
            rw [e] at e1; cases e1
            exact e2
  cases hk : K.lookup a with
  | some o =>
    have e := KX a o hk
    rw [ha] at e
    cases e
    refine core (fun _ => none) (fun _ => .inl rfl) (.inr ⟨_, vs.toArray, _, hk, rfl, rfl, rfl, by rw [List.size_toArray, lenV]; exact hl, by simpa using rv⟩) (fun b u z => by have z' : (none : Option HO) = some u := z; cases z') (fun b z => absurd rfl z) fun z => absurd rfl z
  | none =>
    refine core (fun b => if b = a then some (.frz { cls := .type "list", data := .seq vs.toArray } (.lst (ns.map V.int))) else none) (fun b => ?_) (.inl (.inr ⟨{ cls := .type "list", data := .seq vs.toArray }, if_pos rfl⟩)) (fun b u z => ?_) (fun b z => ?_) fun _ => hk
    · by_cases hb : b = a
      · exact .inr ⟨_, _, if_pos hb⟩
      · exact .inl (if_neg hb)
    · by_cases hb : b = a
      · have z' := (if_pos hb).symm.trans z
        cases z'
        subst hb
        exact ⟨ha, by rw [List.length_map]; exact hl, vs, _, rv, ha⟩
      · have z' := (if_neg hb).symm.trans z
        cases z'
    · by_cases hb : b = a
      · exact hb
      · exact absurd (if_neg hb) z
end L2
namespace L2
open PySem PySem.Spec PyProof.Rows
abbrev KOf {K : PySem.W.Frag} {h : Heap} (_ : K.In h) : PySem.W.Frag := K
theorem walk_of {l : PySem.W.OpenLaw} {n k : Nat} {q : Program} {loose : List Str} {XP : (Str → Option Value) → Heap → Prop} {YP : World → Heap → Prop} {d : DefRec} {K : Params → PySem.W.Frag} {CX : World → CXT} {sp : World → Sp} {x : Str}
    (hn : l.most = some n) (hn2 : n ≤ sizeLine) (hdf : d.params.defaults = []) (hr : Room k callerA)
    (hY : ∀ (w : World) (h : Heap), YP w h → (K w.params).In h)
    (F : ∀ (w : World) (mg : Str → Option Value) (fa : Addr) (h : Heap), (K w.params).In h → h.Ns mainGlobals mg → mg d.name = some (.ref fa) →
      ∃ fd : FuncData, (∀ (s : Shared) (u : Value), BindsTo s fd ⟨[u], []⟩ [(x, u)]) ∧
        ∀ base : Heap, (K w.params).In base → base.Ns mainGlobals mg → FnOk l.prog w (K w.params) mg base (CX w) k fa fd [x] (sp w))
    (hsp : ∀ (w : World) (H : Hp) (a : Addr) (ns : List Int), ns.length ≤ n → Only H → SqL (K w.params) H a (ns.map V.int) → sp w [.ref a] H (fun v _ => v = .bl true) fun _ _ _ => False)
    (hCX : ∀ (w : World) (H : Hp) (s : Shared) (e : Value) (s' : Shared), CX w [] H s (fun _ _ _ => False) e s' → False) :
    PySem.W.WalkO q loose XP YP l.row.toRowW d [] (fun f vs => PySem.call f vs) := by
  refine Att.attach_call hn hdf fun w s₀ s₁ mg mb fa o pm cd doc a vs ns G Y ho hd hcd hmg hobj hints hlen hg => ?_
  have KX := hY w _ Y
  obtain ⟨fd, hb, hF⟩ := F w mg fa _ KX G.T.g hmg
  exact law_call KX G.T.g G.T.b G.T.builtins G.T.nolimit hg hobj hints (Nat.le_trans hlen hn2) hr hF hb (fun H hO hS => hsp w H a ns hlen hO hS) fun H e s' => hCX w H s₁ e s'
theorem walk_ofK {l : PySem.W.OpenLaw} {n k : Nat} {q : Program} {loose : List Str} {XP : (Str → Option Value) → Heap → Prop} {YP : World → Heap → Prop} {d : DefRec} {K : Params → PySem.W.Frag} {CX : CXT} {sp : PySem.W.Frag → Sp} {x : Str}
    (hn : l.most = some n) (hn2 : n ≤ sizeLine) (hdf : d.params.defaults = []) (hr : Room k callerA)
    (hY : ∀ (w : World) (h : Heap), YP w h → (K w.params).In h)
    (F : ∀ (w : World) (mg : Str → Option Value) (fa : Addr) (h : Heap), (K w.params).In h → h.Ns mainGlobals mg → mg d.name = some (.ref fa) →
      ∃ fd : FuncData, (∀ (s : Shared) (u : Value), BindsTo s fd ⟨[u], []⟩ [(x, u)]) ∧
        ∀ base : Heap, (K w.params).In base → base.Ns mainGlobals mg → FnOk l.prog w (K w.params) mg base CX k fa fd [x] (sp (K w.params)))
    (hsp : ∀ (K : PySem.W.Frag) (H : Hp) (a : Addr) (ns : List Int), ns.length ≤ n → Only H → SqL K H a (ns.map V.int) → sp K [.ref a] H (fun v _ => v = .bl true) fun _ _ _ => False)
    (hCX : ∀ (H : Hp) (s : Shared) (e : Value) (s' : Shared), CX [] H s (fun _ _ _ => False) e s' → False) :
    PySem.W.WalkO q loose XP YP l.row.toRowW d [] (fun f vs => PySem.call f vs) :=
  walk_of (K := K) (CX := fun _ => CX) (sp := fun w => sp (K w.params)) hn hn2 hdf hr hY F (fun w H a ns h1 h2 h3 => hsp (K w.params) H a ns h1 h2 h3) fun _ H s e s' => hCX H s e s'
end L2
namespace L2
open PySem PySem.Spec PyProof.Rows
def defArgs (s : Stmt) : Arguments := match s with
  | .FunctionDef _ a _ _ _ _ _ _ _ _ => a
  | _ => { posonlyargs := [], args := [], vararg := none, kwonlyargs := [], kw_defaults := [], kwarg := none, defaults := [] }
def defBody (s : Stmt) : List Stmt := match s with
  | .FunctionDef _ _ b _ _ _ _ _ _ _ => b
  | _ => []
def defScope (s : Stmt) : Scope := match s with
  | .FunctionDef _ _ _ _ _ _ sc _ _ _ => sc
  | _ => { kind := .function, names := [], isGenerator := false, isCoroutine := false }
abbrev CX0 : CXT := fun _ _ _ _ _ _ => False
abbrev E0 : XK := fun _ _ _ => False
theorem pass0 {X : Cx} : Passes CX0 X E0 := fun _ _ _ _ _ _ _ h => h.elim
structure Fun (K : PySem.W.Frag) (x qual : Str) (st : Stmt) (f : Addr) (fd : FuncData) : Prop where
  ex : ∃ (oc : Value) (od : Option Addr) (kV doc pm : Value) (an : Option Addr) (cdv ct : Value) (osl : Array (Option Value)),
    fd = PySem.W.fnOf x qual (defArgs st) (defBody st) (defScope st) .none kV doc pm an cdv ct ∧ K.lookup f = some ⟨oc, od, .func fd, osl⟩ ∧ PySem.W.codeIn K cdv qual = true
  kp : PySem.W.keepIn K (.ref f) = true
section
variable {P : Program} {w : World} {K : PySem.W.Frag} {mg : Str → Option Value} {base : Heap}
theorem Fun.ok {x qual : Str} {st : Stmt} {f : Addr} {fd : FuncData} {N ps : List Str} {k : Nat} {sp : Sp} (F : Fun K x qual st f fd) (S : FnScope N ps (defScope st)) (len : ∀ vs H Q E, sp vs H Q E → vs.length = ps.length)
    (hbody : ∀ (cdv : Value) (A : Around) (outer : List Env) (s : Shared) (H : Hp) (vs : List V) (Q : VK) (E : XK), Room k (A.deeper (envOfC qual (defScope st) s.heap.objs.size f cdv)) → sp vs H Q E →
      ∃ t, PSs (cxOf CX0 P w K mg base N qual (defScope st) f cdv A outer s H E).nox (defBody st) t ∧ t { nx := fun _ H' => Q .non H', rt := Q } (start N vs) H) : FnOk P w K mg base CX0 (k + 1) f fd ps sp := by
  obtain ⟨oc, od, kV, doc, pm, an, cdv, ct, osl, rfl, lk, hcd⟩ := F.ex
  refine fn_of lk hcd S len fun A outer s H vs Q E hr hsp => ?_
  obtain ⟨t, h, q⟩ := hbody cdv A outer s H vs Q E hr hsp
  exact ⟨t, h.nox, q⟩
theorem Fun.binds {x qual : Str} {st : Stmt} {f : Addr} {fd : FuncData} {ps : List Str} (F : Fun K x qual st f fd)
    (h : ∀ (kV doc pm : Value) (an : Option Addr) (cdv ct : Value) (us : List Value), us.length = ps.length → bindArgs (PySem.W.fnOf x qual (defArgs st) (defBody st) (defScope st) .none kV doc pm an cdv ct) ⟨us, []⟩ = pure (ps.zip us)) : Binds K fd ps [] := by
  obtain ⟨oc, od, kV, doc, pm, an, cdv, ct, osl, rfl, lk, hcd⟩ := F.ex
  exact .all (h kV doc pm an cdv ct)
theorem fun_mk {x qual : Str} {st : Stmt} {f : Addr} {oc : Value} {od an : Option Addr} {osl : Array (Option Value)} {kV doc pm cdv ct : Value} (l : K.lookup f = some ⟨oc, od, .func (PySem.W.fnOf x qual (defArgs st) (defBody st) (defScope st) .none kV doc pm an cdv ct), osl⟩)
    (c : PySem.W.codeIn K cdv qual = true) (k : PySem.W.keepIn K (.ref f) = true) : Fun K x qual st f (PySem.W.fnOf x qual (defArgs st) (defBody st) (defScope st) .none kV doc pm an cdv ct) := ⟨⟨oc, od, kV, doc, pm, an, cdv, ct, osl, rfl, l, c⟩, k⟩
end
theorem small1000 {n : Nat} (h : n ≤ 1000) : n < sizeLine := Nat.lt_of_le_of_lt h (by decide)
section
variable {X : Cx}
theorem pv (i : Nat) {x : Str} {pos : Pos} (hN : X.N[i]? = some x := by rfl) (hv : Vis X.env.scope x := by first | exact Or.inl rfl | exact Or.inr (Or.inl rfl) | exact Or.inr (Or.inr rfl)) (hd : (x == ("__debug__" : Str)) = false := by decide)
    (hcd : (x == ("__classdict__" : Str)) = false := by decide) : PE X (.Name x pos) (tVar i) := pe_var hN hv hd hcd
end
theorem iteF {A B : Prop} (h : B) : if false = true then A else B := by
  rw [if_neg Bool.false_ne_true]
  exact h
theorem iteT {A B : Prop} (h : A) : if true = true then A else B := by
  rw [if_pos rfl]
  exact h
theorem ite2 {c A B : Prop} [Decidable c] (h1 : c → A) (h2 : ¬ c → B) : if c then A else B := by
  by_cases h : c
  · rw [if_pos h]
    exact h1 h
  · rw [if_neg h]
    exact h2 h
def Same (H H' : Hp) : Prop := ∀ b o, H b = some o → H' b = some o
theorem Same.refl (H : Hp) : Same H H := fun _ _ h => h
theorem Same.trans {H H1 H2 : Hp} (a : Same H H1) (b : Same H1 H2) : Same H H2 := fun c o h => b c o (a c o h)
theorem Same.free {H H' : Hp} (e : Same H H') {l : Addr} (h : H' l = Option.none) : H l = Option.none := by
  cases q : H l with
  | none => rfl
  | some o =>
    rw [e l o q] at h
    cases h
theorem Same.seq {K : PySem.W.Frag} {H H' : Hp} {a : Addr} {xs : List V} (e : Same H H') (h : SqL K H a xs) : SqL K H' a xs := by
  rcases h with (h | ⟨o, h⟩) | h
  · exact .inl (.inl (e _ _ h))
  · exact .inl (.inr ⟨o, e _ _ h⟩)
  · exact .inr h
end L2
set_option Elab.async false
set_option linter.all false
set_option maxRecDepth 100000
namespace L2
open PySem PySem.Spec PyProof.Rows
theorem closure_go (env : Env) : ∀ (names : List (Str × NameKind)) (cs : List (Str × Addr)),
    (∀ p ∈ names, p.2 = .free → ∃ c, env.cells.lookup p.1 = some c) → (∀ x c, cs.lookup x = some c → env.cells.lookup x = some c) →
    ∃ cl : List (Str × Addr), (forIn names cs fun (p : Str × NameKind) (r : List (Str × Addr)) => (if (p.2 == NameKind.free) = true then (do let c ← cellOf env p.1; pure (ForInStep.yield ((p.1, c) :: r))) else pure (ForInStep.yield r) : Sem (ForInStep (List (Str × Addr))))) = (pure cl : Sem (List (Str × Addr))) ∧
      (∀ x c, cl.lookup x = some c → env.cells.lookup x = some c) ∧ (∀ x, (cs.lookup x).isSome = true → (cl.lookup x).isSome = true) ∧ (∀ p ∈ names, p.2 = .free → (cl.lookup p.1).isSome = true)
  | [], cs, _, h2 => ⟨cs, rfl, h2, fun _ h => h, fun _ h => nomatch h⟩
  | (n, k) :: r, cs, h1, h2 => by
    have h1' : ∀ p ∈ r, p.2 = .free → ∃ c, env.cells.lookup p.1 = some c := fun p hp => h1 p (List.mem_cons_of_mem _ hp)
    by_cases hk : (k == NameKind.free) = true
    · have hk' : k = .free := by simpa using hk
      obtain ⟨c, hc⟩ := h1 (n, k) List.mem_cons_self hk'
      have h2' : ∀ x c', ((n, c) :: cs).lookup x = some c' → env.cells.lookup x = some c' := fun x c' e => by
        rw [List.lookup_cons] at e
        cases hx : x == n with
        | true =>
          rw [hx] at e
          have e1 : x = n := by simpa using hx
          rw [e1, hc]; exact e
        | false => rw [hx] at e; exact h2 x c' e
      obtain ⟨cl, e1, e2, e3, e4⟩ := closure_go env r ((n, c) :: cs) h1' h2'
      have hn : (((n, c) :: cs).lookup n).isSome = true := by rw [List.lookup_cons, beq_self_eq_true]; rfl
      refine ⟨cl, ?_, e2, fun x hx => e3 x ?_, fun p hp hf => ?_⟩
      · rw [List.forIn_cons]
        have q : cellOf env n = pure c := by unfold cellOf; rw [hc]
        simp only [hk, if_true, q]
        exact e1
      · rw [List.lookup_cons]
        cases x == n with
        | true => rfl
        | false => exact hx
      · rcases List.mem_cons.mp hp with e | hp
        · rw [e]; exact e3 n hn
        · exact e4 p hp hf
    · obtain ⟨cl, e1, e2, e3, e4⟩ := closure_go env r cs h1' h2
      refine ⟨cl, ?_, e2, e3, fun p hp hf => ?_⟩
      · rw [List.forIn_cons]
        have hkf : (k == NameKind.free) = false := by simpa using hk
        simp only [hkf, Bool.false_eq_true, if_false]
        exact e1
      · rcases List.mem_cons.mp hp with e | hp
        · rw [e] at hf; exact absurd (by simpa using hf) hk
        · exact e4 p hp hf
theorem closure_of {scope : Scope} {env : Env} (h : ∀ p ∈ scope.names, p.2 = .free → ∃ c, env.cells.lookup p.1 = some c) :
    ∃ cl, closureFor scope env = pure cl ∧ (∀ x c, cl.lookup x = some c → env.cells.lookup x = some c) ∧ (∀ p ∈ scope.names, p.2 = .free → ∃ c, cl.lookup p.1 = some c) := by
  obtain ⟨cl, e1, e2, _, e4⟩ := closure_go env scope.names [] h (fun x c e => by simp at e)
  refine ⟨cl, ?_, e2, fun p hp hf => Option.isSome_iff_exists.mp (e4 p hp hf)⟩
  have q : closureFor scope env = (forIn scope.names [] fun (p : Str × NameKind) (r : List (Str × Addr)) => (if (p.2 == NameKind.free) = true then (do let c ← cellOf env p.1; pure (ForInStep.yield ((p.1, c) :: r))) else pure (ForInStep.yield r) : Sem (ForInStep (List (Str × Addr))))) >>= pure := by
    unfold closureFor
    rfl
  rw [q, e1]
  rfl
theorem relabel_free {env : Env} : ∀ {names : List (Str × NameKind)} {x : Str}, (∀ y ∈ names, y.2 ≠ .cell) →
    ((names.map fun (n, k) => if (k == NameKind.free && env.scope.kind == .function && env.kindOf n == some .cell) then (n, NameKind.cell) else (n, k)).lookup x = some .cell ∨
     (names.map fun (n, k) => if (k == NameKind.free && env.scope.kind == .function && env.kindOf n == some .cell) then (n, NameKind.cell) else (n, k)).lookup x = some .free) → (x, NameKind.free) ∈ names
  | [], _, _, h => by simp at h
  | (n, k) :: r, x, hc, h => by
    have ih := @relabel_free env r x (fun y hy => hc y (List.mem_cons_of_mem _ hy))
    simp only [List.map_cons] at h
    cases hx : x == n with
    | true =>
      have e : x = n := by simpa using hx
      subst e
      by_cases hh : (k == NameKind.free && env.scope.kind == .function && env.kindOf x == some .cell) = true
      · have : k = .free := by
          simp only [Bool.and_eq_true] at hh
          simpa using hh.1.1
        subst this
        exact List.mem_cons_self
      · rw [if_neg hh] at h
        simp only [List.lookup_cons, hx] at h
        rcases h with h | h
        · have : k = .cell := Option.some.inj h
          exact absurd this (hc (x, k) List.mem_cons_self)
        · have : k = .free := Option.some.inj h
          subst this
          exact List.mem_cons_self
    | false =>
      refine List.mem_cons_of_mem _ (ih ?_)
      by_cases hh : (k == NameKind.free && env.scope.kind == .function && env.kindOf n == some .cell) = true
      · rw [if_pos hh] at h
        simpa only [List.lookup_cons, hx] using h
      · rw [if_neg hh] at h
        simpa only [List.lookup_cons, hx] using h
theorem relabel_kind {env : Env} : ∀ {names : List (Str × NameKind)} {x : Str}, names.lookup x = some .free →
    ((names.map fun (n, k) => if (k == NameKind.free && env.scope.kind == .function && env.kindOf n == some .cell) then (n, NameKind.cell) else (n, k)).lookup x = some .cell ∨
     (names.map fun (n, k) => if (k == NameKind.free && env.scope.kind == .function && env.kindOf n == some .cell) then (n, NameKind.cell) else (n, k)).lookup x = some .free)
  | [], _, h => by simp at h
  | (n, k) :: r, x, h => by
    have ih := @relabel_kind env r x
    simp only [List.map_cons]
    cases hx : x == n with
    | true =>
      simp only [List.lookup_cons, hx] at h
      have e : k = .free := Option.some.inj h
      subst e
      by_cases hh : (NameKind.free == NameKind.free && env.scope.kind == .function && env.kindOf n == some .cell) = true
      · rw [if_pos hh]; left; simp only [List.lookup_cons, hx]
      · rw [if_neg hh]; right; simp only [List.lookup_cons, hx]
    | false =>
      simp only [List.lookup_cons, hx] at h
      by_cases hh : (k == NameKind.free && env.scope.kind == .function && env.kindOf n == some .cell) = true
      · rw [if_pos hh]; simpa only [List.lookup_cons, hx] using ih h
      · rw [if_neg hh]; simpa only [List.lookup_cons, hx] using ih h
def cxB (X : Cx) (scope : Scope) (tn : List Str) (cp : List (Nat × Str)) (cl : List (Str × Addr)) (C : Addr) (s : Shared) (H : Hp) (fp : List Addr) : Cx :=
  { X with N := tn ++ cp.map (·.2), s₀ := s, H₀ := H, env := compEnvC scope cl C X.env, outer := X.stack, ex := fp, fn := fun _ => false, pn := [], xe := fun _ _ => False }
def stB (tn : List Str) (cp : List (Nat × Str)) (σ : St) : St := List.replicate tn.length none ++ cp.map fun p => (σ[p.1]?).getD none
structure CompOk (X : Cx) (scope : Scope) (cp : List (Nat × Str)) : Prop where
  kind : scope.kind = .function
  nocell : ∀ y ∈ scope.names, y.2 ≠ .cell
  names : ∀ y ∈ scope.names, y.2 = .local → scope.names.lookup y.1 = some .local
  free : ∀ y ∈ scope.names, y.2 = .free → X.env.kindOf y.1 = some .cell ∨ X.env.kindOf y.1 = some .free
  cap : ∀ p ∈ cp, X.N[p.1]? = some p.2 ∧ scope.names.lookup p.2 = some .free
section
variable {X : Cx} {pins : List (Addr × Obj)} {σ : St} {H : Hp} {s : Shared} {scope : Scope} {tn : List Str} {cp : List (Nat × Str)} {cl : List (Str × Addr)} {fp : List Addr}
theorem mem_of_lookup' {α : Type} : ∀ {l : List (Str × α)} {x : Str} {v : α}, l.lookup x = some v → (x, v) ∈ l
  | [], _, _, h => by simp at h
  | (n, k) :: r, x, v, h => by
    rw [List.lookup_cons] at h
    cases hx : x == n with
    | true =>
      rw [hx] at h
      have e : x = n := by simpa using hx
      have e2 : k = v := Option.some.inj h
      subst e e2
      exact List.mem_cons_self
    | false => rw [hx] at h; exact List.mem_cons_of_mem _ (mem_of_lookup' h)
theorem block_start {h₁ : Heap} {t' : Nat} {m0 : Str → Option Value} (I : Inv X pins σ H s) (O : CompOk X scope cp) (hcl1 : ∀ x c, cl.lookup x = some c → X.env.cells.lookup x = some c) (hcl2 : ∀ p ∈ scope.names, p.2 = .free → ∃ c, cl.lookup p.1 = some c)
    (hf : ∀ b ∈ fp, FpOk X pins H b ∧ b < s.heap.objs.size) (hns : h₁.Ns s.heap.objs.size m0) (hk : ∀ b o, s.heap.get? b = some o → h₁.get? b = some o) :
    Inv (cxB X scope tn cp cl s.heap.objs.size s H fp) [] (stB tn cp σ) H { s with heap := h₁, toks := t' } := by
  have ok : (cxB X scope tn cp cl s.heap.objs.size s H fp).Ok := by
    refine ⟨I.ok.mod, O.kind, I.ok.glob, I.ok.blt, Nat.le_refl _, fun x y c e1 e2 => I.ok.inj x y c (hcl1 x c e1) (hcl1 y c e2), fun x hx => ?_, fun x c hx => (by cases hx), I.ok.hd, I.ok.frames, .inl rfl, fun b hb => ⟨Nat.ne_of_lt (hf b hb).2, fun x c e => ?_⟩,
      fun b o e => I.bs b o e, Nat.le_trans I.ok.bsz I.sz, fun b o e hb => ?_, fun b hb hb' => ?_, I.stack, I.stkFree⟩
    · exact hcl2 (x, .free) (relabel_free O.nocell hx) rfl
    · exact (hf b hb).1.2.2.2.2.1 x c (hcl1 x c e)
    · rcases (hf b hb).1.2.2.2.1 with z | z
      · exact I.ok.noex b o e z
      · exact absurd (Nat.lt_of_lt_of_le (Heap.lt_size e) (Nat.le_trans I.ok.bsz z)) (Nat.lt_irrefl _)
    · rcases List.mem_cons.mp (I.stkSub b hb') with z | z
      · exact (hf b hb).1.2.1 z
      · exact (hf b hb).1.2.2.1 z
  refine ⟨ok, rfl, I.bare, Un.kept hk, ⟨m0, hns, fun i x v e1 e2 e3 => ?_⟩, fun x c e => ?_, I.hok.fresh (Nat.le_refl _), fun x c e => I.freeC x c (hcl1 x c e), fun p hp => by simp [cxB] at hp, I.hok.kept hk, ?_⟩
  · -- a captured name
    have e1' : (tn ++ cp.map (·.2))[i]? = some x := e1
    have e2' : (List.replicate tn.length none ++ cp.map fun p => (σ[p.1]?).getD none)[i]? = some (some v) := e2
    by_cases hi : i < tn.length
    · rw [List.getElem?_append_left (by simpa using hi)] at e2'
      rw [List.getElem?_replicate, if_pos hi] at e2'
      cases e2'
    · rw [List.getElem?_append_right (by simpa using Nat.le_of_not_lt hi), List.length_replicate, List.getElem?_map] at e2'
      rw [List.getElem?_append_right (Nat.le_of_not_lt hi), List.getElem?_map] at e1'
      cases hp : cp[i - tn.length]? with
      | none => rw [hp] at e1'; cases e1'
      | some p =>
        rw [hp] at e1' e2'
        have e1'' : p.2 = x := Option.some.inj e1'
        have e2'' : (σ[p.1]?).getD none = some v := Option.some.inj e2'
        obtain ⟨c1, c2⟩ := O.cap p (List.mem_of_getElem? hp)
        rw [e1''] at c1 c2
        have hs : σ[p.1]? = some (some v) := by
          cases q : σ[p.1]? with
          | none => rw [q] at e2''; cases e2''
          | some z => rw [q] at e2''; exact congrArg some e2''
        have hk' := O.free (x, .free) (mem_of_lookup' c2) rfl
        have hvis : Vis X.env.scope x := by
          rcases hk' with z | z
          · exact .inr (.inl z)
          · exact .inr (.inr z)
        obtain ⟨m, hn, hl⟩ := I.loc
        obtain ⟨u, r, l⟩ := hl p.1 x v c1 hs hvis
        refine ⟨u, r, .inr ?_⟩
        rcases l with ⟨z, _⟩ | ⟨_, c, hc, o, ho, hd⟩
        · rcases hk' with y | y <;> (rw [z] at y; cases y)
        · obtain ⟨c', hc'⟩ := hcl2 (x, .free) (mem_of_lookup' c2) rfl
          have : c' = c := Option.some.inj ((hcl1 x c' hc').symm.trans hc)
          subst this
          exact ⟨relabel_kind c2, c', hc', o, hk c' o ho, hd⟩
  · obtain ⟨v, o, ho, hd⟩ := I.cell x c (hcl1 x c e)
    exact ⟨v, o, hk c o ho, hd⟩
  · show (stB tn cp σ).length = (tn ++ cp.map (·.2)).length
    unfold stB
    simp
theorem block_end {σ' : St} {H' : Hp} {s' : Shared} {h' : Heap} {pinsB : List (Addr × Obj)} (I : Inv X pins σ H s) (hf : ∀ b ∈ fp, FpOk X pins H b)
    (J : Inv (cxB X scope tn cp cl s.heap.objs.size s H fp) pinsB σ' H' s') (hs : Heap.SameBut s.heap.objs.size s'.heap h') : Inv X pins σ H' { s' with heap := h' } := by
  have ne : ∀ b o, s.heap.get? b = some o → b ≠ s.heap.objs.size := fun b o e => Nat.ne_of_lt (Heap.lt_size e)
  have U : Un (frs X.stack) fp H H' s.heap h' := by
    have u : Un (frs X.stack) fp H H' s.heap s'.heap := J.base
    refine ⟨fun b o e n h1 h2 => (hs.2 b (ne b o e)).trans (u.keep b o e n h1 h2), fun b o e n h1 h2 => ?_, u.free, fun b o e h2 => ?_, u.tups, u.frzs, u.tbls⟩
    · obtain ⟨sl, q⟩ := u.slot b o e n h1 h2
      exact ⟨sl, (hs.2 b (ne b o e)).trans q⟩
    · obtain ⟨o', q⟩ := u.there b o e h2
      exact ⟨o', (hs.2 b (ne b o e)).trans q⟩
  have fr : H' s.heap.objs.size = none := J.free
  have hok : HOk X.prog X.w H' h' := fun b ob e => by
    refine (J.hok b ob e).stay (fun c v hc q => (hs.2 c ?_).trans q) (fun _ q => q) (fun _ _ _ _ _ q => q) fun _ _ q => q
    rintro rfl
    rcases hc with z | z
    · rw [← z, fr] at e; cases e
    · rw [fr] at z; cases z
  refine I.call' (s' := { s' with heap := h' }) (ch := fp) J.os U hok J.bare fun b hb => ?_
  obtain ⟨_, f1, _, f3, f4, f5⟩ := hf b hb
  exact ⟨f3, f1, f4, f5⟩
end
def PIfs (X : Cx) (ifs : List Expr) (t : TT) : Prop :=
  ∀ (pins : List (Addr × Obj)) (s : Shared) (σ : St) (H : Hp) (Q : Bool → Hp → Prop), Inv X pins σ H s → t σ H Q →
    wpAny (model X.prog X.w) X.A (forIn ifs true fun c r => if r = true then do let ok ← isTrue c X.env (eval c X.env); pure (ForInStep.yield ok) else pure (ForInStep.yield r)) (TP X pins σ Q) X.xe s
def tYes : TT := fun _ H Q => Q true H
theorem pf_nil {X : Cx} : PIfs X [] tYes := fun _ _ _ H _ I h => wpAny_tests_nil ⟨H, I, h⟩
theorem pf_one {X : Cx} {c : Expr} {t : TT} (h : PT X c t) : PIfs X [c] t := fun pins s σ H Q I hw => wpAny_tests_one (h pins s σ H Q I hw)
theorem compLoop_own {prog : Program} {w : World} {A : Around} {R : Result → Shared → Prop} {s : Shared} {elt target iter : Expr} {ifs : List Expr} {scope : Scope} {pos : Pos} {it acc : Value} {env : Env} (I : Nat → Shared → Prop)
    (turn : ∀ n s, I n s → wpAny (model prog w) A (pyNext it) (fun r s₁ => match r with
      | none => R (.ok .next) s₁
      | some v => wpAny (model prog w) A (letOwnedTupleGo target it v) (fun _ s₂ => wpAny (model prog w) A (assign target env v) (fun _ s₃ =>
          wpAny (model prog w) A (forIn ifs true fun c r => if r = true then do let ok ← isTrue c env (eval c env); pure (ForInStep.yield ok) else pure (ForInStep.yield r)) (fun ok s₄ =>
            if ok = true then wpAny (model prog w) A (eval elt env) (fun x s₅ =>
              wpAny (model prog w) A (call (.builtin "list.append") [acc, x]) (fun _ s₆ => ∃ m, m < n ∧ I m s₆) (fun _ _ => False) s₅) (fun _ _ => False) s₄
            else ∃ m, m < n ∧ I m s₄) (fun _ _ => False) s₃) (fun _ _ => False) s₂) (fun _ _ => False) s₁) (fun _ _ => False) s)
    (n : Nat) (h : I n s) :
    codeAny (model prog w) A (.compLoop (.ListComp elt [⟨target, iter, ifs, 0⟩] scope pos) 0 it acc env) R s := by
  refine codeAny_loop rfl I (fun n s hI => ?_) n h
  show wpAny _ A ((compTurn (.ListComp elt [⟨target, iter, ifs, 0⟩] scope pos) 0 it acc env).onRaise (fun x => do noteFrame x env; theTreesLotGoes x)) _ _ s
  refine wpAny_noted ?_
  rw [compTurn_list]
  refine wpAny_bind (wpAny_standAt (wpAny_bind (wpAny_mono (turn n s hI) (fun r s₁ h₁ => ?_) fun _ _ f => f.elim)))
  cases r with
  | none => exact wpAny_pure h₁
  | some v =>
    refine wpAny_bind (wpAny_mono h₁ (fun _ s₂ h₂ => ?_) fun _ _ f => f.elim)
    refine wpAny_bind (wpAny_mono h₂ (fun _ s₃ h₃ => wpAny_bind (wpAny_mono h₃ (fun ok s₄ h₄ => ?_) fun _ _ f => f.elim)) fun _ _ f => f.elim)
    cases ok with
    | false => exact wpAny_pure ⟨rfl, h₄⟩
    | true =>
      exact wpAny_bind (wpAny_bind (wpAny_mono h₄ (fun x s₅ h₅ => wpAny_bind (wpAny_mono h₅ (fun _ s₆ h₆ => wpAny_pure (wpAny_pure ⟨rfl, h₆⟩)) fun _ _ f => f.elim)) fun _ _ f => f.elim))
def tComp (tn : List Str) (cp : List (Nat × Str)) (wi : TI) (g : TG) (tif : TT) (te : TE) : TE := fun σ H Q => wi σ H fun J H1 => ∀ D, H1 D = none → ∃ W : Nat → Nat → St → Hp → Prop,
  (∃ m, W 0 m (stB tn cp σ) (upd H1 D (.lst []))) ∧ ∀ i m σb Hb, W i m σb Hb →
    (J.stop i Hb ∧ Q (.ref D) Hb) ∨ (J.go i Hb ∧ ∀ x H', J.yld i Hb x H' → g x σb H' fun σ2 H2 => tif σ2 H2 fun c H3 =>
      if c = true then te σ2 H3 fun y H4 => ∃ ys, H4 D = some (.lst ys) ∧ ys.length < sizeLine ∧ ∃ m', m' < m ∧ W (i + 1) m' σ2 (upd H4 D (.lst (ys ++ [y])))
      else ∃ m', m' < m ∧ W (i + 1) m' σ2 H3)
theorem lcomp_core {X : Cx} {elt tg iter : Expr} {ifs : List Expr} {scope : Scope} {pos cpos : Pos} {wi : TI} {g : TG} {tif : TT} {te : TE} (tn : List Str) (cp : List (Nat × Str)) (O : CompOk X scope cp) (hc : X.calm = true) (hi : PI X tg iter wi)
    (hg : ∀ cl C s H fp, PG (cxB X scope tn cp cl C s H fp) tg g) (hif : ∀ cl C s H fp, PIfs (cxB X scope tn cp cl C s H fp) ifs tif) (he : ∀ cl C s H fp, PE (cxB X scope tn cp cl C s H fp) elt te)
    (hs : ∀ x, foldedSetIterable iter X.env x = pure x) {pins : List (Addr × Obj)} {s : Shared} {σ : St} {H : Hp} {Q : VK} {R : Value → Shared → Prop} {use : Option (Value → Sem Unit)} (I : Inv X pins σ H s) (h : tComp tn cp wi g tif te σ H Q)
    (fin : ∀ (D C : Addr) (H5 : Hp) (s5 : Shared) (m : Str → Option Value), Inv X pins σ H5 s5 → FpOk X pins H5 C → s5.heap.Ns C m → Q (.ref D) H5 → compPost (model X.prog X.w) X.A X.xe use R (.ref D) C (.ok .next) s5) :
    wpAny (model X.prog X.w) X.A (comprehension (.ListComp elt [⟨tg, iter, ifs, 0⟩] scope pos) scope X.env cpos (newList []) false (eval iter X.env) use) R X.xe s := by
  obtain ⟨cl, hcl, hcl1, hcl2⟩ := closure_of (scope := scope) (env := X.env) fun p hp hf => I.ok.has p.1 (O.free p hp hf)
  refine wpAny_comprehension_free (use := use) rfl hs hcl O.kind O.names (thn (hi pins s σ H _ I h) fun v s1 h1 => thn h1 fun itv s2 h2 => ?_)
  obtain ⟨it, fp, tn', J, H2, rfl, I2, T, st2, f2, rest⟩ := h2
  refine wpAny_newObj_type ?_
  have I3 : Inv X pins σ (upd H2 s2.heap.objs.size (.lst [])) { s2 with heap := s2.heap.push { cls := .type "list", data := .seq ([] : List Value).toArray } } := I2.lnew (its := []) (t' := s2.toks) .nil (Nat.zero_le _)
  obtain ⟨W, ⟨m0, w0⟩, turn⟩ := rest s2.heap.objs.size I2.fresh
  have fpl : ∀ b ∈ fp, b < s2.heap.objs.size := fun b hb => by
    obtain ⟨o, e, _⟩ := T.obj _ _ st2 b hb
    exact Heap.lt_size e
  have f3 : ∀ b ∈ fp, FpOk X pins (upd H2 s2.heap.objs.size (.lst [])) b := fun b hb => ⟨by rw [upd_ne (Nat.ne_of_lt (fpl b hb))]; exact (f2 b hb).1, (f2 b hb).2⟩
  have sz3 : (s2.heap.push { cls := .type "list", data := .seq ([] : List Value).toArray }).objs.size = s2.heap.objs.size + 1 := Heap.size_push ..
  refine wpAny_newFunctionEnv O.nocell (by intro y hy; simp at hy) (fun h₁ hns hsb => ?_) O.kind
  have hk1 : ∀ b o, (s2.heap.push { cls := .type "list", data := .seq ([] : List Value).toArray }).get? b = some o → h₁.get? b = some o := fun b o e =>
    hsb.extBut b o (Nat.ne_of_lt (Heap.lt_size e)) (Heap.get?_push_of_some _ e)
  have J3 := block_start (tn := tn) (cp := cp) (t' := s2.toks + ([] : List (Str × Value)).length) I3 O hcl1 hcl2 (fun b hb => ⟨f3 b hb, by rw [sz3]; exact Nat.lt_succ_of_lt (fpl b hb)⟩) hns hk1
  have st3 : tn' 0 h₁ := T.keep _ _ _ st2 fun b hb o e => hk1 b o (Heap.get?_push_of_some _ e)
  show codeAny _ _ (.compStart _ 0 (.ref it) (.ref s2.heap.objs.size) (compEnvC scope cl (s2.heap.push { cls := .type "list", data := .seq ([] : List Value).toArray }).objs.size X.env)) _ _
  generalize hXB : cxB X scope tn cp cl (s2.heap.push { cls := .type "list", data := .seq ([] : List Value).toArray }).objs.size { s2 with heap := s2.heap.push { cls := .type "list", data := .seq ([] : List Value).toArray } } (upd H2 s2.heap.objs.size (.lst [])) fp = XB at J3
  have hprog : XB.prog = X.prog := by rw [← hXB]; rfl
  have hw : XB.w = X.w := by rw [← hXB]; rfl
  have hK : XB.K = X.K := by rw [← hXB]; rfl
  have hA : XB.A = X.A := by rw [← hXB]; rfl
  have henv : XB.env = compEnvC scope cl (s2.heap.push { cls := .type "list", data := .seq ([] : List Value).toArray }).objs.size X.env := by rw [← hXB]; rfl
  have hcalm : XB.calm = true := by rw [← hXB]; exact hc
  have hxe : XB.xe = fun _ _ => False := by rw [← hXB]; rfl
  have hgB : PG XB tg g := by rw [← hXB]; exact hg _ _ _ _ _
  have hifB : PIfs XB ifs tif := by rw [← hXB]; exact hif _ _ _ _ _
  have heB : PE XB elt te := by rw [← hXB]; exact he _ _ _ _ _
  have fB : ∀ (pb : List (Addr × Obj)) (Hb : Hp), (∀ b ∈ fp, Hb b = none) → (∀ b ∈ fp, ∀ p ∈ XB.pn ++ pb, p.1 ≠ b) → ∀ b ∈ fp, FpOk XB pb Hb b := fun pb Hb hn hp b hb => by
    refine ⟨hn b hb, ?_, ?_, .inl (by rw [← hXB]; exact hb), fun x c e => ?_, hp b hb⟩
    · rw [henv]; show b ≠ (s2.heap.push { cls := .type "list", data := .seq ([] : List Value).toArray }).objs.size
      rw [sz3]; exact Nat.ne_of_lt (Nat.lt_succ_of_lt (fpl b hb))
    · rw [← hXB]
      show b ∉ frs X.stack
      intro z
      rcases List.mem_cons.mp (I2.stkSub b z) with y | y
      · exact (f2 b hb).2.1 y
      · exact (f2 b hb).2.2.1 y
    · rw [henv] at e
      exact (f2 b hb).2.2.2.2.1 x c (hcl1 x c e)
  have pn0 : XB.pn = [] := by rw [← hXB]; rfl
  have loop : ∀ s₃ : Shared, s₃ = { s2 with heap := h₁, toks := s2.toks + ([] : List (Str × Value)).length } →
      codeAny (model X.prog X.w) X.A (.compLoop (.ListComp elt [⟨tg, iter, ifs, 0⟩] scope pos) 0 (.ref it) (.ref s2.heap.objs.size) XB.env)
        (compPost (model X.prog X.w) X.A X.xe use R (.ref s2.heap.objs.size) (s2.heap.push { cls := .type "list", data := .seq ([] : List Value).toArray }).objs.size) s₃ := by
    rintro s₃ rfl
    refine compLoop_own (fun n s' => ∃ i σb Hb, Inv XB [] σb Hb s' ∧ tn' i s'.heap ∧ (∀ b ∈ fp, Hb b = none) ∧ W i n σb Hb) ?_ m0 ⟨0, stB tn cp σ, _, J3, st3, fun b hb => (f3 b hb).1, w0⟩
    rintro n s4 ⟨i, σ4, H4, I4, st4, fr4, w4⟩
    rcases turn i n σ4 H4 w4 with ⟨stop, qn⟩ | ⟨go, step⟩
    · have d := T.done XB hprog hw hK hcalm i [] s4 σ4 H4 (fun _ _ => False) I4 (fB [] H4 fr4 (fun b hb p hp => by rw [pn0] at hp; simp at hp)) st4 stop
      rw [hA] at d
      refine thn d fun r s5 ⟨hr, I5⟩ => ?_
      subst hr
      obtain ⟨mm, hn5, _⟩ := id I5.loc
      have fr5 : H4 (s2.heap.push { cls := .type "list", data := .seq ([] : List Value).toArray }).objs.size = none := by
        have z := I5.free
        rw [henv] at z
        exact z
      have J5 : Inv X pins σ H4 s5 := by
        rw [← hXB] at I5
        exact block_end (h' := s5.heap) I3 f3 I5 ⟨rfl, fun _ _ => rfl⟩
      exact fin _ _ H4 s5 mm J5 (I3.fpOk (Nat.le_refl _) fr5) (by rw [henv] at hn5; exact hn5) qn
    · have d := T.item XB hprog hw hK hcalm i [] s4 σ4 H4 (fun _ _ => False) I4 (fB [] H4 fr4 (fun b hb p hp => by rw [pn0] at hp; simp at hp)) st4 go
      rw [hA] at d
      refine thn d fun r s5 ⟨u, hr, h5⟩ => ?_
      subst hr
      refine thn h5 fun _ s6 ⟨x, H6, I6, r6, y6, st6, fr6⟩ => ?_
      have I6' := I6.pinned (fB [] H6 fr6 (fun b hb p hp => by rw [pn0] at hp; simp at hp)) (T.obj _ _ st6)
      have q6 := step x H6 y6
      have a1 := hgB _ s6 σ4 H6 x u _ I6' r6 q6
      rw [hxe, hprog, hw, hA] at a1
      refine thn a1 fun _ s7 ⟨σ7, H7, I7, q7⟩ => ?_
      have a2 := hifB _ s7 σ7 H7 _ I7 q7
      rw [hxe, hprog, hw, hA] at a2
      refine thn a2 fun ok s8 ⟨H8, I8, q8⟩ => ?_
      have again : ∀ {σ9 : St} {H9 : Hp} {s9 : Shared}, Inv XB ([] ++ pinsAt fp s6.heap) σ9 H9 s9 → (∃ m', m' < n ∧ W (i + 1) m' σ9 H9) → ∃ m, m < n ∧ ∃ i σb Hb, Inv XB [] σb Hb s9 ∧ tn' i s9.heap ∧ (∀ b ∈ fp, Hb b = none) ∧ W i m σb Hb := fun {σ9 H9 s9} I9 n9 => by
        obtain ⟨m', hm, w9⟩ := n9
        refine ⟨m', hm, i + 1, σ9, H9, I9.unpinned, T.keep _ _ _ st6 fun b hb o e => (I9.pin (b, o) (List.mem_append_right _ (List.mem_append_right _ (mem_pinsAt hb e)))).1, fun b hb => ?_, w9⟩
        obtain ⟨o, e, d⟩ := T.obj _ _ st6 b hb
        exact (I9.pin (b, o) (List.mem_append_right _ (List.mem_append_right _ (mem_pinsAt hb e)))).2.1
      cases ok with
      | false => exact again I8 q8
      | true =>
        show wpAny _ _ _ _ _ _
        have a3 := heB _ s8 σ7 H8 _ I8 q8
        rw [hxe, hprog, hw, hA] at a3
        refine thn a3 fun yv s9 ⟨y, H9, I9, r9, ys, hD, hlen, n9⟩ => ?_
        have a4 := mt_append (X := XB) _ s9 σ7 H9 (.ref s2.heap.objs.size) [y] (.ref s2.heap.objs.size) [yv] (fun _ H' => ∃ m', m' < n ∧ W (i + 1) m' σ7 H') I9 rfl (.cons r9 .nil) ⟨_, ys, y, rfl, rfl, hD, hlen, n9⟩
        rw [hxe, hprog, hw, hA] at a4
        exact thn a4 fun _ s10 ⟨_, H10, I10, _, q10⟩ => again I10 q10
  rw [henv] at loop
  refine codeAny_compStart_list (loop _ rfl) (T.self _ 0 _ _ _ st3 (loop _ rfl))
theorem pe_lcomp {X : Cx} {elt tg iter : Expr} {ifs : List Expr} {scope : Scope} {pos : Pos} {wi : TI} {g : TG} {tif : TT} {te : TE} (tn : List Str) (cp : List (Nat × Str)) (O : CompOk X scope cp) (hc : X.calm = true) (hi : PI X tg iter wi)
    (hg : ∀ cl C s H fp, PG (cxB X scope tn cp cl C s H fp) tg g) (hif : ∀ cl C s H fp, PIfs (cxB X scope tn cp cl C s H fp) ifs tif) (he : ∀ cl C s H fp, PE (cxB X scope tn cp cl C s H fp) elt te)
    (hs : ∀ x, foldedSetIterable iter X.env x = pure x := by intro _; rfl) :
    PE X (.ListComp elt [⟨tg, iter, ifs, 0⟩] scope pos) (tComp tn cp wi g tif te) := by
  intro pins s σ H Q I h
  rw [eval_ListComp]
  refine lcomp_core tn cp O hc hi hg hif he hs I h fun D C H5 s5 m I5 f5 n5 q5 => ⟨m, n5, fun h' hs' => ⟨.ref D, H5, ?_, rfl, q5⟩⟩
  obtain ⟨f0, f1, f2, f3, f4, f5⟩ := f5
  exact I5.turned (t' := s5.toks) (fun b o hb e => (hs'.2 b hb).trans e) f0 f1 f3 f4 f5
theorem ps_setC {X : Cx} {i : Nat} {x : Str} {elt tg iter : Expr} {ifs : List Expr} {scope : Scope} {pos pos' spos : Pos} {wi : TI} {g : TG} {tif : TT} {te : TE} (hN : X.N.Nodup) (hx : X.N[i]? = some x) (hl : Loc X.env.scope x) (tn : List Str) (cp : List (Nat × Str)) (O : CompOk X scope cp) (hc : X.calm = true) (hi : PI X tg iter wi)
    (hg : ∀ cl C s H fp, PG (cxB X scope tn cp cl C s H fp) tg g) (hif : ∀ cl C s H fp, PIfs (cxB X scope tn cp cl C s H fp) ifs tif) (he : ∀ cl C s H fp, PE (cxB X scope tn cp cl C s H fp) elt te)
    (hsw : swapsWith (.ListComp elt [⟨tg, iter, ifs, 0⟩] scope pos) (some (.Name x pos')) spos.line X.env = pure true := by rfl) (hs : ∀ x, foldedSetIterable iter X.env x = pure x := by intro _; rfl)
    (hf : X.fn x = true ∨ X.env.scope.names.lookup x = some .local := by first | exact .inl rfl | exact .inr rfl | assumption) :
    PS X (.Assign [.Name x pos'] (.ListComp elt [⟨tg, iter, ifs, 0⟩] scope pos) spos) (tAsg (tComp tn cp wi g tif te) (gName i)) := by
  intro pins s σ H D I h
  rw [exec_Assign_Name_used _ _ _ _ hsw]
  refine wpAny_bind (wpAny_standAt (wpAny_bind ?_))
  show wpAny _ X.A (do let _ ← comprehension (.ListComp elt [⟨tg, iter, ifs, 0⟩] scope pos) scope X.env _ (newList []) false (eval iter X.env) (some (assign (.Name x pos') X.env))) _ _ s
  refine wpAny_bind (wpAny_mono (lcomp_core tn cp O hc hi hg hif he hs (R := fun _ s' => SP X pins D .next s') I h fun E C H5 s5 m I5 f5 n5 q5 => ?_) (fun _ _ q => wpAny_pure (wpAny_pure q)) fun _ _ e => e)
  obtain ⟨f0, f1, f2, f3, f4, f5⟩ := f5
  show wpAny _ X.A (assign (.Name x pos') X.env (.ref E)) _ _ _
  refine wpAny_assign_Name (store_ok2 I5 hN hx hl (v := .ref E) rfl (fun s6 I6 ⟨a, sb, ha⟩ => ?_) hf)
  have ne : C ≠ a := by
    rcases ha with e | e
    · rw [e]; exact f1
    · exact fun z => f4 x a e z.symm
  refine ⟨m, n5.sameBut sb ne, fun h' hs' => ⟨_, H5, I6.turned (t' := s6.toks) (fun b o hb e => (hs'.2 b hb).trans e) f0 f1 f3 f4 f5, q5⟩⟩
end L2
set_option Elab.async false
set_option linter.all false
set_option maxRecDepth 100000
namespace L2
open PySem PySem.Spec PyProof.Rows
def Its (z : Str) : It := ⟨fun i _ => i < z.cps.size, fun i H x H' => H' = H ∧ ∃ c, z.cps[i]? = some c ∧ x = .str ⟨#[c]⟩, fun i _ => z.cps.size ≤ i⟩
theorem turn_str {P : Program} {w : World} {K : PySem.W.Frag} {tg : Expr} (z : Str) (t : Tok) (it : Addr) (ty : String) (hty : ty = "str_ascii_iterator" ∨ ty = "str_iterator") :
    Turn P w K tg (Its z) [it] it (fun i h => h.IsStrIter it ty z t i) where
  mem := by simp
  obj := fun i h st b hb => by
    have e : b = it := by simpa using hb
    subst e
    obtain ⟨o, e, c, d⟩ := st
    exact ⟨o, e, fun v z => by rw [d] at z; cases z⟩
  keep := fun i h h' st k => by
    obtain ⟨o, e, r⟩ := st
    exact ⟨o, k it (by simp) o e, r⟩
  item := by
    intro X hP hw hK hc i pins s σ H E I hf st hg
    subst hP hw hK
    obtain ⟨f0, f1, f2, f3, f4, f5⟩ := hf it (by simp)
    have hi : i < z.cps.size := hg
    have hx : z.cps[i]? = some z.cps[i] := by simp [hi]
    have nn : (["enumerate", "zip", "dict_itemiterator", "dict_reverseitemiterator", "odict_iterator", "itertools.zip_longest", "itertools.pairwise"].contains ty) = false := by
      rcases hty with e | e <;> (rw [e]; decide)
    have fin : ∀ h', h'.IsStrIter it ty z t (i + 1) → Heap.SameBut it s.heap h' → ∃ u, some (Value.str ⟨#[z.cps[i]]⟩ s.toks) = some u ∧
        wpAny (model X.prog X.w) X.A (letOwnedTupleGo tg (.ref it) u) (fun _ s2 => ∃ x H', Inv X pins σ H' s2 ∧ RelV x u ∧ (Its z).yld i H x H' ∧ s2.heap.IsStrIter it ty z t (i + 1) ∧ ∀ b ∈ [it], H' b = none) E { s with heap := h', toks := s.toks + 1 } := fun h' st' sb => by
      have I1 : Inv X pins σ H { s with heap := h', toks := s.toks + 1 } := I.turned (t' := s.toks + 1) (fun b o hb e => (sb.2 b hb).trans e) f0 f1 f3 f4 f5
      obtain ⟨o, e, c, d⟩ := id st'
      exact ⟨_, rfl, go_of (s := { s with heap := h', toks := s.toks + 1 }) e c d nn ⟨.str ⟨#[z.cps[i]]⟩, H, I1, ⟨_, rfl⟩, ⟨rfl, _, hx, rfl⟩, st', fun b hb => (hf b hb).1⟩⟩
    rcases hty with e | e
    · subst e; exact wpAny_pyNext_ascii_item st hx fin
    · subst e; exact wpAny_pyNext_wide_item st hx fin
  done := by
    intro X hP hw hK hc i pins s σ H E I hf st hg
    subst hP hw hK
    obtain ⟨f0, f1, f2, f3, f4, f5⟩ := hf it (by simp)
    have hi : z.cps.size ≤ i := hg
    have hx : z.cps[i]? = none := by simp [hi]
    rcases hty with e | e
    · subst e; exact wpAny_pyNext_ascii_end (I.ok.hd hc) st hx fun h' eb => ⟨rfl, I.turned (t' := s.toks) (fun b o hb e => eb b o hb e) f0 f1 f3 f4 f5⟩
    · subst e; exact wpAny_pyNext_wide_end (I.ok.hd hc) st hx fun h' eb => ⟨rfl, I.turned (t' := s.toks) (fun b o hb e => eb b o hb e) f0 f1 f3 f4 f5⟩
  self := by
    intro A i s Q E st h
    rcases hty with e | e
    · subst e; exact wpAny_pyIter_striter_ascii st h
    · subst e; exact wpAny_pyIter_striter_wide st h
def iStr (tl : TE) : TI := fun σ H R => tl σ H fun x H1 => ∃ z, x = .str z ∧ R (Its z) H1
theorem pi_str {X : Cx} {tg l : Expr} {tl : TE} (hl : PE X l tl) : PI X tg l (iStr tl) := by
  intro pins s σ H R I h
  refine thn (hl pins s σ H _ I h) fun v s1 ⟨x, H1, I1, r1, q1⟩ => ?_
  obtain ⟨z, e, q⟩ := q1
  subst e
  obtain ⟨t, rfl⟩ := r1
  have fo : ∀ b ∈ [s1.heap.objs.size], FpOk X pins H1 b := fun b hb => by
    have e : b = s1.heap.objs.size := by simpa using hb
    subst e
    exact I1.fpOk (Nat.le_refl _) (I1.hok.fresh (Nat.le_refl _))
  cases ha : z.cps.all (· < 128)
  · exact wpAny_pyIter_wide ha ⟨s1.heap.objs.size, [s1.heap.objs.size], _, _, H1, rfl, I1.kept (t' := s1.toks) fun b o e => Heap.get?_push_of_some _ e, turn_str z t _ "str_iterator" (.inr rfl), ⟨_, Heap.get?_push_size _ rfl, rfl, rfl⟩, fo, q⟩
  · exact wpAny_pyIter_ascii ha ⟨s1.heap.objs.size, [s1.heap.objs.size], _, _, H1, rfl, I1.kept (t' := s1.toks) fun b o e => Heap.get?_push_of_some _ e, turn_str z t _ "str_ascii_iterator" (.inl rfl), ⟨_, Heap.get?_push_size _ rfl, rfl, rfl⟩, fo, q⟩
def rSlS : V → Option Int → Option Int → Hp → VK → Prop := fun x lo hi H Q => ∃ z, x = .str z ∧ z.length ≤ sizeLine ∧ Q (.str (Txt.slice z lo hi)) H
theorem sl_str {X : Cx} : SlR X rSlS := by
  intro pins s σ H x v vl vu lo hi sl Q I rx hs pl pu h
  obtain ⟨z, rfl, hz, q⟩ := h
  obtain ⟨t, rfl⟩ := rx
  refine ⟨"str", _, F.slot_str_getitem.lookup, typeIs_str _ _ _, ?_⟩
  have go : ∀ (l u : Option (Int × Tok)), vl = partValue l → vu = partValue u → lo = l.map (·.1) → hi = u.map (·.1) → wpAny (model X.prog X.w) X.A (getItem (.str z t) (.ref sl)) (EP X pins σ Q) X.xe s := by
    rintro l u rfl rfl rfl rfl
    refine wpAny_getItem_str_slice (l := l) (u := u) (st := none) ?_ rfl ?_
    · obtain ⟨o, e, c, d⟩ := hs
      exact ⟨o, e, c, d⟩
    · exact post_val_or_str ⟨Nat.le_trans (Txt.slice_le z _ _) hz, fun t' k => ⟨.str _, H, I.tok _, ⟨_, rfl⟩, q⟩⟩
  cases pl with
  | none =>
    cases pu with
    | none => exact go none none rfl rfl rfl rfl
    | int j u => exact go none (some (j, u)) rfl rfl rfl rfl
  | int i t' =>
    cases pu with
    | none => exact go (some (i, t')) none rfl rfl rfl rfl
    | int j u => exact go (some (i, t')) (some (j, u)) rfl rfl rfl rfl
theorem call_isinst {X : Cx} : CallR X (.builtin "isinstance") (fun xs H Q => ∃ x T t b, xs = [x, .ty T] ∧ TyOf X.K H x t ∧ PySem.W.kitOne X.K t (.type T) = some b ∧ Q (.bl b) H) := by
  intro pins s σ H xs us Q I r h
  obtain ⟨x, T, t, b, rfl, ty, e, q⟩ := h
  obtain ⟨u, w', rfl, rx, ry⟩ := vals2 r
  cases (show w' = Value.type T from ry)
  exact isinst_ok I rx ty e fun tk => ⟨.bl b, H, I.tok _, rfl, q⟩
section
open PyProof.Rows.LSm
theorem bools_of {bs : List Bool} : ∀ {us : List Value}, Vals (bs.map V.bl) us → BoolsAre us bs := by
  induction bs with
  | nil => intro us r; rw [List.map_nil] at r; cases r; exact .nil
  | cons b bs ih =>
    intro us r
    rw [List.map_cons] at r
    cases r with
    | cons r1 r2 =>
      cases (show _ = Value.bool b from r1)
      exact .cons b (ih r2)
theorem call_all_bl {X : Cx} (hc : X.calm = true) : CallR X (.builtin "all") (fun xs H Q => ∃ (p : Addr) (bs : List Bool), xs = [.ref p] ∧ SqL X.K H p (bs.map V.bl) ∧ Q (.bl (bs.all id)) H) := by
  intro pins s σ H xs us Q I r h
  obtain ⟨p, bs, rfl, hx, q⟩ := h
  obtain ⟨u, rfl, rx⟩ := vals1 r
  cases (show u = Value.ref p from rx)
  obtain ⟨vs, rv, pl, hz⟩ := I.list hx
  have hl := pl.isList
  have hb := bools_of rv
  have hlt : p < s.heap.objs.size := by obtain ⟨_, e, _⟩ := hl; exact Heap.lt_size e
  refine call_all_walk (wpAny_pyIter_list hl ?_)
  refine ⟨s.heap.objs.size, [s.heap.objs.size, p], [s.heap.objs.size], vs.toArray.size, _, _, fun i => (bs[i]?).getD true, rfl, Walks.list (A := X.A.in1) (I.ok.hd hc) _ p (Nat.ne_of_lt hlt) vs.toArray,
    ⟨⟨_, Heap.get?_push_size _ rfl, rfl, rfl⟩, hl.push _⟩, fun i v s' Q' E' hP hQ => ?_, fun h' tk hk => ?_⟩
  · obtain ⟨b, e, rfl⟩ := hb.get i v (by simpa using hP)
    simp only [e, Option.getD_some] at hQ
    exact wpAny_truthy_bool hQ
  · have e : ((List.range vs.toArray.size).all fun i => (bs[i]?).getD true) = bs.all id := by
      rw [List.size_toArray, hb.length]; exact range_all bs
    rw [e]
    exact ⟨.bl _, H, I.kept (kept_iter hk), rfl, q⟩
theorem call_sum_int {X : Cx} (hc : X.calm = true) : CallR X (.builtin "sum") (fun xs H Q => ∃ (p : Addr) (ns : List Int), xs = [.ref p] ∧ SqL X.K H p (ns.map V.int) ∧ Q (.int ns.sum) H) := by
  intro pins s σ H xs us Q I r h
  obtain ⟨p, ns, rfl, hx, q⟩ := h
  obtain ⟨u, rfl, rx⟩ := vals1 r
  cases (show u = Value.ref p from rx)
  obtain ⟨vs, rv, pl, hz⟩ := I.list hx
  have hi := intsAre_of rv
  obtain ⟨ys, hy⟩ := hi.allInts.items
  have hl' : s.heap.IsList p (intItems ys) := hy ▸ pl.isList
  refine sum_intListG (I.ok.hd hc) hl' fun h' tk t' hk => ?_
  have e1 : ns = ys.toList.map (·.1) := by
    rw [← nums_intItems, ← hy]
    exact (show numsOf vs.toArray.toList = ns from hi.numsOf).symm
  have e2 : preSum (numAt ys) ys.size = ns.sum := by
    rw [preSum_eq, List.take_of_length_le (by simp), e1]
  rw [e2]
  exact ⟨.int _, H, I.kept hk, ⟨_, rfl⟩, q⟩
end
def rZfill : V → List V → Hp → VK → Prop := fun x vs H Q => ∃ z i, x = .str z ∧ vs = [.int i] ∧ PadOk i = true ∧ Q (.str (Txt.zfill z i)) H
theorem mt_zfill {X : Cx} : MtR X "str.zfill" rZfill := by
  intro pins s σ H x xs v us Q I rx rs h
  obtain ⟨z, i, rfl, rfl, hp, q⟩ := h
  obtain ⟨t, rfl⟩ := rx
  obtain ⟨u, rfl, t', rfl⟩ := vals1 rs
  exact SC.zfill hp fun t' k => ⟨.str _, H, I.tok _, ⟨_, rfl⟩, q⟩
def EqOk (X : Cx) (k : Nat) (H : Hp) (x y : V) (b : Bool) : Prop := ∀ (pins : List (Addr × Obj)) (σ : St) (s : Shared) (A : Around) (u v : Value), A.units + k < cLine → Inv X pins σ H s → RelV x u → RelV y v → SeqAt.EqAt A s u v b
def RcOk (X : Cx) (k : Nat) (H : Hp) (x y : V) (b : Bool) : Prop := ∀ (pins : List (Addr × Obj)) (σ : St) (s : Shared) (A : Around) (u v : Value), A.units + k < cLine → Inv X pins σ H s → RelV x u → RelV y v → SeqAt.RcAt A s u v b
section
variable {X : Cx} {k : Nat} {H : Hp} {x y : V} {a b : Addr} {xs ys : List V}
theorem eqok_flat (fx : flatV x = true) (fy : flatV y = true) : EqOk X k H x y (eqV x y) := fun _ _ _ _ _ _ _ _ rx ry => eqAt_V rx ry fx fy
theorem eqok_same : EqOk X k H (.ref a) (.ref a) true := fun _ _ _ _ u v _ _ rx ry => by
  cases (show u = Value.ref a from rx)
  cases (show v = Value.ref a from ry)
  exact SeqAt.EqAt.same _
theorem EqOk.of_rc (hne : a ≠ b) {c : Bool} (h : RcOk X k H (.ref a) (.ref b) c) : EqOk X k H (.ref a) (.ref b) c := fun pins σ s A u v hu I rx ry => by
  cases (show u = Value.ref a from rx)
  cases (show v = Value.ref b from ry)
  exact SeqAt.EqAt.of_refs hne (h pins σ s A _ _ hu I rfl rfl)
theorem Vals.at {xs : List V} {us : List Value} (r : Vals xs us) {j : Nat} (h : j < us.length) : ∃ (h' : j < xs.length), RelV xs[j] us[j] := by
  have hl := r.length
  have h' : j < xs.length := by omega
  obtain ⟨u, e, q⟩ := r.get (i := j) (x := xs[j]) (by simp [h'])
  rw [List.getElem?_eq_getElem h] at e
  cases e
  exact ⟨h', q⟩
theorem rcok_lists (hx : SqL X.K H a xs) (hy : SqL X.K H b ys) (hl : xs.length = ys.length) (e : Nat → Bool) (he : ∀ j (h1 : j < xs.length) (h2 : j < ys.length), EqOk X k H xs[j] ys[j] (e j)) :
    RcOk X (k + 1) H (.ref a) (.ref b) ((List.range xs.length).all e) := fun pins σ s A u v hu I rx ry => by
  cases (show u = Value.ref a from rx)
  cases (show v = Value.ref b from ry)
  obtain ⟨us, r1, p1, _⟩ := I.list hx
  obtain ⟨vs, r2, p2, _⟩ := I.list hy
  have l1 := r1.length
  have l2 := r2.length
  have q := SeqAt.RcAt.lists (A := A) (e := e) p1.isList p2.isList (by rw [List.size_toArray, List.size_toArray]; omega) (by omega) fun j h1 h2 => by
    rw [List.size_toArray] at h1 h2
    obtain ⟨g1, q1⟩ := r1.at h1
    obtain ⟨g2, q2⟩ := r2.at h2
    exact he j g1 g2 pins σ s A.in1 _ _ (by show A.units + 1 + k < cLine; omega) I (by simpa using q1) (by simpa using q2)
  rw [List.size_toArray, ← l1] at q
  exact q
theorem rcok_lens (hx : SqL X.K H a xs) (hy : SqL X.K H b ys) (hl : xs.length ≠ ys.length) : RcOk X k H (.ref a) (.ref b) false := fun pins σ s A u v hu I rx ry => by
  cases (show u = Value.ref a from rx)
  cases (show v = Value.ref b from ry)
  obtain ⟨us, r1, p1, _⟩ := I.list hx
  obtain ⟨vs, r2, p2, _⟩ := I.list hy
  have l1 := r1.length
  have l2 := r2.length
  exact SeqAt.RcAt.lists_lengths p1.isList p2.isList (by rw [List.size_toArray, List.size_toArray]; simp; omega) (by omega)
theorem rcok_tups (hx : SqT X.K H a xs) (hy : SqT X.K H b ys) (e : Nat → Bool) (he : ∀ j (h1 : j < xs.length) (h2 : j < ys.length), EqOk X k H xs[j] ys[j] (e j)) :
    RcOk X (k + 1) H (.ref a) (.ref b) ((List.range (min xs.length ys.length)).all e && xs.length == ys.length) := fun pins σ s A u v hu I rx ry => by
  cases (show u = Value.ref a from rx)
  cases (show v = Value.ref b from ry)
  obtain ⟨us, r1, p1, _⟩ := I.tuple hx
  obtain ⟨vs, r2, p2, _⟩ := I.tuple hy
  have l1 := r1.length
  have l2 := r2.length
  have q := SeqAt.RcAt.tuples (A := A) (e := e) p1 p2 (by omega) fun j h1 h2 => by
    rw [List.size_toArray] at h1 h2
    obtain ⟨g1, q1⟩ := r1.at h1
    obtain ⟨g2, q2⟩ := r2.at h2
    exact he j g1 g2 pins σ s A.in1 _ _ (by show A.units + 1 + k < cLine; omega) I (by simpa using q1) (by simpa using q2)
  rw [List.size_toArray, List.size_toArray, ← l1, ← l2] at q
  exact q
theorem rcok_flats (hx : SqL X.K H a xs) (hy : SqL X.K H b ys) (fx : xs.all flatV = true) (fy : ys.all flatV = true) :
    RcOk X 1 H (.ref a) (.ref b) (xs.length == ys.length && (List.range xs.length).all fun j => eqV (xs.getD j .non) (ys.getD j .non)) := by
  by_cases hl : xs.length = ys.length
  · have q := rcok_lists (k := 0) hx hy hl (fun j => eqV (xs.getD j .non) (ys.getD j .non)) fun j h1 h2 => by
      have e1 : xs.getD j .non = xs[j] := by simp [List.getD, h1]
      have e2 : ys.getD j .non = ys[j] := by simp [List.getD, h2]
      rw [e1, e2]
      exact eqok_flat (List.all_eq_true.mp fx _ (List.getElem_mem h1)) (List.all_eq_true.mp fy _ (List.getElem_mem h2))
    rw [show (xs.length == ys.length) = true by simp [hl], Bool.true_and]
    exact q
  · rw [show (xs.length == ys.length) = false by simp [hl], Bool.false_and]
    exact rcok_lens hx hy hl
end
def rEqD (X : Cx) (k : Nat) : R2 := fun x y H Q => ∃ c, RcOk X k H x y c ∧ Q (.bl c) H
theorem op_eqD {X : Cx} {k : Nat} (hu : X.A.units + k < cLine) : OpR X (compareOp .Eq) (rEqD X k) := by
  intro pins s σ H x y v u Q I rx ry h
  obtain ⟨c, r, q⟩ := h
  exact r pins σ s X.A v u hu I rx ry _ _ _ _ ⟨.bl c, H, I, rfl, q⟩
def CW (D : Addr) (n : Nat) (Pv : Nat → List V → St → Hp → Prop) (i m : Nat) (σ : St) (H : Hp) : Prop := m = n - i ∧ i ≤ n ∧ ∃ ys, H D = some (.lst ys) ∧ ys.length ≤ i ∧ Pv i ys σ H
def CStep (D : Addr) (n i : Nat) (Pv : Nat → List V → St → Hp → Prop) (σ2 : St) (y : V) (H4 : Hp) : Prop :=
  ∃ ys, H4 D = some (.lst ys) ∧ ys.length < sizeLine ∧ ∃ m', m' < n - i ∧ CW D n Pv (i + 1) m' σ2 (upd H4 D (.lst (ys ++ [y])))
def CSkip (D : Addr) (n i : Nat) (Pv : Nat → List V → St → Hp → Prop) (σ2 : St) (H3 : Hp) : Prop := ∃ m', m' < n - i ∧ CW D n Pv (i + 1) m' σ2 H3
section
variable {D : Addr} {Q : VK} {g : TG} {tif : TT} {te : TE} {σ0 : St} {H1 : Hp} {n i : Nat} {Pv : Nat → List V → St → Hp → Prop}
theorem cstep {ys : List V} {y : V} {σ2 : St} {H4 : Hp} (hn : n ≤ sizeLine) (hi : i < n) (hD : H4 D = some (.lst ys)) (hl : ys.length ≤ i) (h : Pv (i + 1) (ys ++ [y]) σ2 (upd H4 D (.lst (ys ++ [y])))) : CStep D n i Pv σ2 y H4 :=
  ⟨ys, hD, by omega, n - (i + 1), by omega, rfl, hi, ys ++ [y], upd_same, by rw [List.length_append, List.length_singleton]; omega, h⟩
theorem cskip {ys : List V} {σ2 : St} {H3 : Hp} (hi : i < n) (hD : H3 D = some (.lst ys)) (hl : ys.length ≤ i) (h : Pv (i + 1) ys σ2 H3) : CSkip D n i Pv σ2 H3 :=
  ⟨n - (i + 1), by omega, rfl, hi, ys, hD, by omega, h⟩
theorem comp_by {J : It} (Pv : Nat → List V → St → Hp → Prop) (hn : n ≤ sizeLine) (h0 : Pv 0 [] σ0 (upd H1 D (.lst [])))
    (hgo : ∀ i ys σ H, i < n → H D = some (.lst ys) → Pv i ys σ H → J.go i H) (hstop : ∀ ys σ H, H D = some (.lst ys) → Pv n ys σ H → J.stop n H)
    (hs : ∀ i ys σ H, i < n → H D = some (.lst ys) → ys.length ≤ i → Pv i ys σ H → ∀ x H', J.yld i H x H' → g x σ H' fun σ2 H2 => tif σ2 H2 fun c H3 =>
      if c = true then te σ2 H3 fun y H4 => CStep D n i Pv σ2 y H4 else CSkip D n i Pv σ2 H3)
    (hd : ∀ ys σ H, H D = some (.lst ys) → ys.length ≤ n → Pv n ys σ H → Q (.ref D) H) :
    ∃ W : Nat → Nat → St → Hp → Prop, (∃ m, W 0 m σ0 (upd H1 D (.lst []))) ∧ ∀ i m σb Hb, W i m σb Hb →
      (J.stop i Hb ∧ Q (.ref D) Hb) ∨ (J.go i Hb ∧ ∀ x H', J.yld i Hb x H' → g x σb H' fun σ2 H2 => tif σ2 H2 fun c H3 =>
        if c = true then te σ2 H3 fun y H4 => ∃ ys, H4 D = some (.lst ys) ∧ ys.length < sizeLine ∧ ∃ m', m' < m ∧ W (i + 1) m' σ2 (upd H4 D (.lst (ys ++ [y])))
        else ∃ m', m' < m ∧ W (i + 1) m' σ2 H3) := by
  refine ⟨CW D n Pv, ⟨n, by omega, Nat.zero_le _, [], upd_same, Nat.le_refl _, h0⟩, ?_⟩
  rintro i m σ H ⟨rfl, hi, ys, hD, hl, p⟩
  by_cases hlt : i < n
  · exact .inr ⟨hgo i ys σ H hlt hD p, hs i ys σ H hlt hD hl p⟩
  · have e : i = n := by omega
    subst e
    exact .inl ⟨hstop ys σ H hD p, hd ys σ H hD hl p⟩
theorem comp_str {z : Str} (Pv : Nat → List V → St → Hp → Prop) (hn : z.cps.size ≤ sizeLine) (h0 : Pv 0 [] σ0 (upd H1 D (.lst [])))
    (hs : ∀ i ys σ H c, i < z.cps.size → z.cps[i]? = some c → H D = some (.lst ys) → ys.length ≤ i → Pv i ys σ H → g (.str ⟨#[c]⟩) σ H fun σ2 H2 => tif σ2 H2 fun c H3 =>
      if c = true then te σ2 H3 fun y H4 => CStep D z.cps.size i Pv σ2 y H4 else CSkip D z.cps.size i Pv σ2 H3)
    (hd : ∀ ys σ H, H D = some (.lst ys) → ys.length ≤ z.cps.size → Pv z.cps.size ys σ H → Q (.ref D) H) :
    ∃ W : Nat → Nat → St → Hp → Prop, (∃ m, W 0 m σ0 (upd H1 D (.lst []))) ∧ ∀ i m σb Hb, W i m σb Hb →
      ((Its z).stop i Hb ∧ Q (.ref D) Hb) ∨ ((Its z).go i Hb ∧ ∀ x H', (Its z).yld i Hb x H' → g x σb H' fun σ2 H2 => tif σ2 H2 fun c H3 =>
        if c = true then te σ2 H3 fun y H4 => ∃ ys, H4 D = some (.lst ys) ∧ ys.length < sizeLine ∧ ∃ m', m' < m ∧ W (i + 1) m' σ2 (upd H4 D (.lst (ys ++ [y])))
        else ∃ m', m' < m ∧ W (i + 1) m' σ2 H3) :=
  comp_by Pv hn h0 (fun i _ _ _ hi _ _ => hi) (fun _ _ _ _ _ => Nat.le_refl _) (fun i ys σ H hi hD hl p x H' y => by
    obtain ⟨e, c, hc, ex⟩ := y
    subst e ex
    exact hs i ys σ _ c hi hc hD hl p) hd
theorem comp_list {K : PySem.W.Frag} {a : Addr} {xs : List V} (Pv : Nat → List V → St → Hp → Prop) (hn : xs.length ≤ sizeLine) (h0 : Pv 0 [] σ0 (upd H1 D (.lst [])))
    (hl : ∀ i ys σ H, i ≤ xs.length → H D = some (.lst ys) → Pv i ys σ H → SqL K H a xs)
    (hs : ∀ i ys σ H x, i < xs.length → xs[i]? = some x → H D = some (.lst ys) → ys.length ≤ i → Pv i ys σ H → g x σ H fun σ2 H2 => tif σ2 H2 fun c H3 =>
      if c = true then te σ2 H3 fun y H4 => CStep D xs.length i Pv σ2 y H4 else CSkip D xs.length i Pv σ2 H3)
    (hd : ∀ ys σ H, H D = some (.lst ys) → ys.length ≤ xs.length → Pv xs.length ys σ H → Q (.ref D) H) :
    ∃ W : Nat → Nat → St → Hp → Prop, (∃ m, W 0 m σ0 (upd H1 D (.lst []))) ∧ ∀ i m σb Hb, W i m σb Hb →
      ((Itl K a).stop i Hb ∧ Q (.ref D) Hb) ∨ ((Itl K a).go i Hb ∧ ∀ x H', (Itl K a).yld i Hb x H' → g x σb H' fun σ2 H2 => tif σ2 H2 fun c H3 =>
        if c = true then te σ2 H3 fun y H4 => ∃ ys, H4 D = some (.lst ys) ∧ ys.length < sizeLine ∧ ∃ m', m' < m ∧ W (i + 1) m' σ2 (upd H4 D (.lst (ys ++ [y])))
        else ∃ m', m' < m ∧ W (i + 1) m' σ2 H3) :=
  comp_by Pv hn h0 (fun i ys σ H hi hD p => ⟨xs, xs[i], hl i ys σ H (Nat.le_of_lt hi) hD p, by simp [hi]⟩) (fun ys σ H hD p => ⟨xs, hl _ ys σ H (Nat.le_refl _) hD p, Nat.le_refl _⟩) (fun i ys σ H hi hD hl' p x H' y => by
    obtain ⟨e, y⟩ := y
    subst e
    exact hs i ys σ _ x hi (y xs (hl i ys σ _ (Nat.le_of_lt hi) hD p)) hD hl' p) hd
end
end L2
set_option Elab.async false
set_option linter.all false
set_option maxRecDepth 100000
namespace L2
open PySem PySem.Spec PyProof.Rows
section
variable {κ : Type} [DecidableEq κ]
def putK (kvs : List (κ × V)) (k : κ) (v : V) : List (κ × V) :=
  if (kvs.any fun kv => decide (kv.1 = k)) = true then kvs.map (fun kv => if kv.1 = k then (kv.1, v) else kv) else kvs ++ [(k, v)]
theorem length_putK (kvs : List (κ × V)) (k : κ) (v : V) : (putK kvs k v).length ≤ kvs.length + 1 := by
  unfold putK
  split
  · rw [List.length_map]; omega
  · rw [List.length_append, List.length_cons, List.length_nil]; omega
theorem RelO.isSome_eq {o : Option V} {u : Option Value} (r : RelO o u) : o.isSome = u.isSome := by
  cases o with
  | none => cases u with
    | none => rfl
    | some _ => exact (show False from r).elim
  | some _ => cases u with
    | none => exact (show False from r).elim
    | some _ => rfl
theorem KV.any {kvs : List (κ × V)} {vs : List (κ × Value)} (r : KV kvs vs) (k : κ) : (kvs.any fun kv => decide (kv.1 = k)) = vs.any fun kv => decide (kv.1 = k) := by
  unfold KV at r
  induction r with
  | nil => rfl
  | cons h t ih => rw [List.any_cons, List.any_cons, ih, h.1]
theorem KV.repl {kvs : List (κ × V)} {vs : List (κ × Value)} (r : KV kvs vs) (k : κ) {y : V} {u : Value} (ry : RelV y u) :
    KV (kvs.map fun kv => if kv.1 = k then (kv.1, y) else kv) (vs.map fun kv => if kv.1 = k then (kv.1, u) else kv) := by
  unfold KV at r ⊢
  induction r with
  | nil => exact .nil
  | @cons p q ps qs h t ih =>
    rw [List.map_cons, List.map_cons]
    refine .cons ?_ ih
    obtain ⟨h1, h2⟩ := h
    by_cases e : p.1 = k
    · rw [if_pos e, if_pos (h1.symm.trans e)]; exact ⟨h1, ry⟩
    · rw [if_neg e, if_neg (fun z => e (h1.trans z))]; exact ⟨h1, h2⟩
theorem KV.put {kvs : List (κ × V)} {vs : List (κ × Value)} (r : KV kvs vs) (k : κ) {y : V} {u : Value} (ry : RelV y u) : KV (putK kvs k y) (stored vs k u) := by
  unfold putK stored
  rw [r.any k]
  by_cases e : (vs.any fun kv => decide (kv.1 = k)) = true
  · rw [if_pos e, if_pos e]; exact r.repl k ry
  · rw [if_neg e, if_neg e]; exact Paired.snoc r ⟨rfl, ry⟩
end
theorem kV_is {P : Program} {w : World} {k : Key} {u : Value} (r : RelV (kV k) u) : (mixKind P w).is k u = true := by
  cases k with
  | inl i => obtain ⟨t, e⟩ := (show ∃ t, u = Value.int i t from r); subst e; exact mixKind_int P w i t
  | inr x => obtain ⟨t, e⟩ := (show ∃ t, u = Value.str x t from r); subst e; exact mixKind_str P w x t
section
variable {P : Program} {w : World} {H : Hp} {h : Heap} {a : Addr}
theorem rd_of {u : HO} (ok : HOk P w H h) (e : Rd H a u) : ObjOk P w H h a u := e.ok ok
theorem dk_rd {kvs : List (Key × V)} (ok : HOk P w H h) (e : Rd H a (.dK kvs)) : kvs.length ≤ sizeLine ∧ (a == sysModules) = false ∧ ∃ vs, KV kvs vs ∧ h.DictOf (mixKind P w) a vs :=
  show ObjOk P w H h a (.dK kvs) from rd_of ok e
theorem dk_of {kvs : List (Key × V)} (ok : HOk P w H h) (e : H a = some (.dK kvs)) : kvs.length ≤ sizeLine ∧ (a == sysModules) = false ∧ ∃ vs, KV kvs vs ∧ h.DictOf (mixKind P w) a vs := dk_rd ok (.inl e)
end
section
variable {X : Cx} {pins : List (Addr × Obj)} {σ : St} {H : Hp} {s : Shared} {a : Addr} {y v : V} {u r : Value} {o : Option V} {A : Around} {E : Value → Shared → Prop}
theorem Inv.big (I : Inv X pins σ H s) : sysModules < s.heap.objs.size := by
  have h : mainGlobals < s.heap.objs.size := (I.mod.glob.keeps I.bk).lt
  exact Nat.lt_trans (by decide) h
theorem d_write {h' : Heap} {t' : Nat} {ob : HO} (I : Inv X pins σ H s) (mu : Mut (H a)) (hs : Heap.SameBut a s.heap h') (he : ∃ q, h'.get? a = some q) (new : ObjOk X.prog X.w (upd H a ob) h' a ob) :
    Inv X pins σ (upd H a ob) { s with heap := h', toks := t' } :=
  I.write (x := a) (e := a) mu (.inl rfl) (fun b q hb z => (hs.2 b hb).trans z) he new
theorem dk_new {P : Program} {w : World} {H' : Hp} {h' : Heap} {kvs : List (Key × V)} {vs : List (Key × Value)} (z : kvs.length ≤ sizeLine) (hd : (a == sysModules) = false) (rel : KV kvs vs) (dd : h'.DictOf (mixKind P w) a vs) :
    ObjOk P w H' h' a (.dK kvs) := ⟨z, hd, vs, rel, dd⟩
end
theorem dk_empty {P : Program} {w : World} {H : Hp} (h : Heap) (hb : sysModules < h.objs.size) : ObjOk P w H (h.push { cls := .type "dict", data := .dict #[] }) h.objs.size (.dK []) :=
  ⟨Nat.zero_le _, beq_eq_false_iff_ne.mpr (Ne.symm (Nat.ne_of_lt hb)), [], .nil, Heap.DictOf.new h⟩
def tPairs : List (TE × TE) → St → Hp → (List (V × V) → Hp → Prop) → Prop
  | [], _, H, Q => Q [] H
  | (tk, tv) :: r, σ, H, Q => tk σ H fun x H1 => tv σ H1 fun y H2 => tPairs r σ H2 fun ps H3 => Q ((x, y) :: ps) H3
abbrev VV : List (V × V) → List (Value × Value) → Prop := Paired fun p q => RelV p.1 q.1 ∧ RelV p.2 q.2
def PPs (X : Cx) (pos : Pos) (keys : List (Option Expr)) (values : List Expr) (trs : List (TE × TE)) : Prop :=
  ∀ (pins : List (Addr × Obj)) (s : Shared) (σ : St) (H : Hp) (Q : List (V × V) → Hp → Prop), Inv X pins σ H s → tPairs trs σ H Q →
    wpAny (model X.prog X.w) X.A (evalPairs (pairTrees keys values X.env pos)) (fun vs s' => ∃ ps H', Inv X pins σ H' s' ∧ VV ps vs ∧ Q ps H') X.xe s
theorem pps_nil {X : Cx} {pos : Pos} : PPs X pos [] [] [] := fun pins s σ H Q I h => pairTrees_nil_walk ⟨[], H, I, .nil, h⟩
theorem pps_cons {X : Cx} {pos : Pos} {k v : Expr} {ks : List (Option Expr)} {vs : List Expr} {tk tv : TE} {trs : List (TE × TE)} (hk : PE X k tk) (hv : PE X v tv) (hr : PPs X pos ks vs trs) :
    PPs X pos (some k :: ks) (v :: vs) ((tk, tv) :: trs) := fun pins s σ H Q I h =>
  pairTrees_cons_walk (thn (hk pins s σ H _ I h) fun u s1 ⟨x, H1, I1, rx, q1⟩ => thn (hv pins s1 σ H1 _ I1 q1) fun w2 s2 ⟨y, H2, I2, ry, q2⟩ =>
    thn (hr pins s2 σ H2 _ I2 q2) fun ws s3 ⟨ps, H3, I3, rel, q3⟩ => ⟨(x, y) :: ps, H3, I3, .cons ⟨rx, ry⟩ rel, q3⟩)
def mergeK (kvs more : List (Key × V)) : List (Key × V) := more.foldl (fun acc kv => putK acc kv.1 kv.2) kvs
theorem KV.merge : ∀ {more : List (Key × V)} {rs : List (Key × Value)} {kvs : List (Key × V)} {vs : List (Key × Value)}, KV more rs → KV kvs vs → KV (mergeK kvs more) (merged vs rs) := by
  intro more rs kvs vs r
  unfold KV at r
  induction r generalizing kvs vs with
  | nil => intro q; exact q
  | @cons p q ps qs h t ih =>
    intro r0
    have e : KV (putK kvs p.1 p.2) (stored vs q.1 q.2) := by
      have := r0.put p.1 h.2
      rw [← h.1]; exact this
    exact ih e
theorem length_mergeK : ∀ (more kvs : List (Key × V)), (mergeK kvs more).length ≤ kvs.length + more.length
  | [], kvs => by show kvs.length ≤ kvs.length + 0; omega
  | p :: r, kvs => by
    have h1 := length_mergeK r (putK kvs p.1 p.2)
    have h2 := length_putK kvs p.1 p.2
    show (mergeK (putK kvs p.1 p.2) r).length ≤ _
    rw [List.length_cons]; omega
theorem carries_of {P : Program} {w : World} : ∀ {kvs : List (Key × V)} {ws : List (Value × Value)}, VV (kvs.map fun kv => (kV kv.1, kv.2)) ws → ∃ rs, Carries (mixKind P w) ws rs ∧ KV kvs rs
  | [], _, r => by rw [List.map_nil] at r; cases r; exact ⟨[], True.intro, .nil⟩
  | p :: kvs, _, r => by
    rw [List.map_cons] at r
    cases r with
    | @cons a b as bs h t =>
      obtain ⟨rs, c, q⟩ := carries_of (P := P) (w := w) t
      obtain ⟨b1, b2⟩ := b
      exact ⟨(p.1, b2) :: rs, ⟨kV_is h.1, rfl, c⟩, .cons ⟨rfl, h.2⟩ q⟩
def tDisp (trs : List (TE × TE)) : TE := fun σ H Q => ∀ p, H p = none → tPairs trs σ (upd H p (.dK [])) fun ps H2 => H2 p = some (.dK []) ∧ ∃ kvs : List (Key × V), ps = kvs.map (fun kv => (kV kv.1, kv.2)) ∧ kvs.length ≤ 15 ∧ Q (.ref p) (upd H2 p (.dK (mergeK [] kvs)))
theorem pe_disp {X : Cx} {pos : Pos} {keys : List (Option Expr)} {values : List Expr} {trs : List (TE × TE)} (h : PPs X pos keys values trs) (hall : keys.all (·.isSome) = true) (hl : keys.length = values.length) (h0 : keys ≠ [])
    (h15 : keys.length ≤ 15) : PE X (.Dict keys values pos) (tDisp trs) := by
  intro pins s σ H Q I q
  have hn := I.hok.fresh (Nat.le_refl s.heap.objs.size)
  have I1 := I.laid (a := s.heap.objs.size) (o := .dK []) (h' := s.heap.push { cls := .type "dict", data := .dict #[] }) (t' := s.toks) (fun _ _ q => Heap.get?_push_of_some _ q) (Nat.le_refl _) (dk_empty s.heap I.big)
  refine wpAny_Dict_walk (knd := mixKind X.prog X.w) hall hl h0 h15 (thn (h pins _ σ _ _ I1 (q _ hn)) fun ws s2 ⟨ps, H2, I2, rel, e, kvs, ep, lk, q2⟩ => ?_)
  subst ep
  obtain ⟨rs, c, rk⟩ := carries_of (P := X.prog) (w := X.w) rel
  obtain ⟨z, hd, vs0, r0, dd⟩ := dk_of I2.hok e
  cases r0
  refine ⟨rs, c, dd, fun h' dd' hs => ⟨.ref s.heap.objs.size, _, ?_, rfl, q2⟩⟩
  have hz : (mergeK [] kvs).length ≤ sizeLine := by
    have h1 := length_mergeK kvs []
    rw [List.length_nil] at h1
    rw [sizeLine_eq]; omega
  have he : ∃ q, h'.get? s.heap.objs.size = some q := let ⟨q, _, _, hq, _⟩ := dd'; ⟨q, hq⟩
  exact d_write I2 (by rw [e]; exact True.intro) hs he (dk_new hz hd (rk.merge .nil) dd')
end L2
namespace L2
open PySem PySem.Spec PyProof.Rows
section
variable {κ : Type} [DecidableEq κ]
theorem nd_snoc : ∀ {l : List κ} {k : κ}, l.Nodup → ¬ k ∈ l → (l ++ [k]).Nodup
  | [], k, _, _ => by simp
  | a :: r, k, h, hk => by
    obtain ⟨h1, h2⟩ := List.nodup_cons.mp h
    show (a :: (r ++ [k])).Nodup
    refine List.nodup_cons.mpr ⟨fun m => ?_, nd_snoc h2 fun m => hk (List.mem_cons.mpr (Or.inr m))⟩
    rcases List.mem_append.mp m with q | q
    · exact h1 q
    · exact hk (List.mem_cons.mpr (Or.inl (List.mem_singleton.mp q).symm))
end
end L2
set_option Elab.async false
set_option linter.all false
set_option maxRecDepth 100000
namespace L2
open PySem PySem.Spec PyProof.Rows
def notStar : Expr → Bool
  | .Starred _ _ => false
  | _ => true
theorem star_cons {e : Expr} {es : List Expr} {env : Env} (h : notStar e = true) : starEach (e :: es) env = (false, eval e env) :: starEach es env := by
  cases e with
  | Starred v q => exact absurd (show false = true from h) Bool.false_ne_true
  | _ => rw [starEach.eq_def]
theorem star_any : ∀ {es : List Expr} {env : Env} {pos : Pos}, es.all notStar = true → (backTo pos (starEach es env)).any (·.1) = false
  | [], env, pos, _ => by rw [starEach.eq_def]; rfl
  | e :: r, env, pos, h => by
    rw [List.all_cons, Bool.and_eq_true] at h
    rw [star_cons h.1]
    exact star_any h.2
section
variable {X : Cx} {x : Str} {p pos : Pos} {e : Expr} {es : List Expr} {te : TE} {t : TA} {T id : String} {r : List V → Hp → VK → Prop}
theorem pa_c (ha : PE X e te) (hr : PA X es t) (h : notStar e = true := by rfl) : PA X (e :: es) (tCons te t) := pa_cons ha hr (star_cons h)
theorem pe_cB (hc : CallR X (.builtin id) r) (hg : Gl X x) (hm : X.mg x = none) (hv : bootBuiltins x = some (.builtin id)) (ha : PA X (e :: es) t) (hn : x ≠ "__name__" := by decide) (hdb : (x == ("__debug__" : Str)) = false := by decide)
    (h1 : notStar e = true := by rfl) (h2 : es.all notStar = true := by rfl) : PE X (.Call (.Name x p) (e :: es) [] pos) (tCB r t) := pe_callB hc hg hm hv ha hn hdb (star_cons h1) (star_any h2)
theorem pe_cTy (hc : CallR X (.type T) r) (hg : Gl X x) (hm : X.mg x = none) (hv : bootBuiltins x = some (.type T)) (ha : PA X (e :: es) t) (hn : x ≠ "__name__" := by decide) (hdb : (x == ("__debug__" : Str)) = false := by decide)
    (h1 : notStar e = true := by rfl) (h2 : es.all notStar = true := by rfl) : PE X (.Call (.Name x p) (e :: es) [] pos) (tCB r t) := pe_callTy hc hg hm hv ha hn hdb (star_cons h1) (star_any h2)
end
structure Dfn (K : PySem.W.Frag) (mg : Str → Option Value) (x : Str) (st : Stmt) (ps : List Str) : Prop where
  ex : ∃ f fd, Fun K x x st f fd ∧ Binds K fd ps [] ∧ mg x = some (.ref f)
structure Cal (P : Program) (w : World) (K : PySem.W.Frag) (mg : Str → Option Value) (base : Heap) (n : Nat) (x : Str) (ps : List Str) (sp : Sp) : Prop where
  ex : ∃ f fd, FnOk P w K mg base CX0 n f fd ps sp ∧ Binds K fd ps [] ∧ PySem.W.keepIn K (.ref f) = true ∧ mg x = some (.ref f)
section
variable {P : Program} {w : World} {K : PySem.W.Frag} {mg : Str → Option Value} {base : Heap}
theorem Dfn.cal {x : Str} {st : Stmt} {N ps : List Str} {k : Nat} {sp : Sp} (d : Dfn K mg x st ps) (S : FnScope N ps (defScope st)) (len : ∀ vs H Q E, sp vs H Q E → vs.length = ps.length)
    (hbody : ∀ (f : Addr) (cdv : Value) (A : Around) (outer : List Env) (s : Shared) (H : Hp) (vs : List V) (Q : VK) (E : XK), Room k (A.deeper (envOfC x (defScope st) s.heap.objs.size f cdv)) → sp vs H Q E →
      ∃ t, PSs (cxOf CX0 P w K mg base N x (defScope st) f cdv A outer s H E).nox (defBody st) t ∧ t { nx := fun _ H' => Q .non H', rt := Q } (start N vs) H) : Cal P w K mg base (k + 1) x ps sp := by
  obtain ⟨f, fd, F, b, m⟩ := d.ex
  exact ⟨f, fd, F.ok S len (hbody f), b, F.kp, m⟩
theorem Cal.mono {j k : Nat} {x : Str} {ps : List Str} {sp : Sp} (c : Cal P w K mg base j x ps sp) (h : j ≤ k) : Cal P w K mg base k x ps sp := by
  obtain ⟨f, fd, F, r⟩ := c.ex
  exact ⟨f, fd, F.mono h, r⟩
theorem Dfn.never {x : Str} {st : Stmt} {ps : List Str} {sp : Sp} (d : Dfn K mg x st ps) (no : ∀ vs H Q E, ¬ sp vs H Q E) : Cal P w K mg base 0 x ps sp := by
  obtain ⟨f, fd, F, b, m⟩ := d.ex
  exact ⟨f, fd, ⟨fun vs H Q E h => absurd h (no vs H Q E), fun A outer s H args us vs Q E _ _ _ _ h => absurd h (no vs H Q E)⟩, b, F.kp, m⟩
end
section
variable {X : Cx} {n k : Nat} {x : Str} {ps : List Str} {sp : Sp} {p pos : Pos} {e : Expr} {es : List Expr} {t : TA}
theorem pe_callC (C : Cal X.prog X.w X.K X.mg X.base n x ps sp) (hr : Room k X.A) (hle : n ≤ k) (hg : Gl X x) (ha : PA X (e :: es) t) (hdb : (x == ("__debug__" : Str)) = false := by decide)
    (h1 : notStar e = true := by rfl) (h2 : es.all notStar = true := by rfl) : PE X (.Call (.Name x p) (e :: es) [] pos) (tCall sp [] E0 t) := by
  obtain ⟨f, fd, F, b, kp, m⟩ := C.ex
  exact pe_call F (hr.mono hle) hg m kp b .nil pass0 ha hdb (star_cons h1) (star_any h2)
def GlV (mg : Str → Option Value) (x : Str) (v : V) : Prop := ∃ u, mg x = some u ∧ RelV v u
theorem pe_gl {v : V} (hg : Gl X x) (h : GlV X.mg x v) (hd : (x == ("__debug__" : Str)) = false := by decide) : PE X (.Name x pos) (tC v) := by
  obtain ⟨u, m, r⟩ := h
  exact pe_glob hg m r hd
end
theorem CompOk.of {X : Cx} {scope : Scope} {cp : List (Nat × Str)} (kind : scope.kind = .function)
    (h1 : (scope.names.all fun y => y.2 != .cell && (y.2 != .local || scope.names.lookup y.1 == some .local) && (y.2 != .free || (X.env.scope.names.lookup y.1 == some .cell || X.env.scope.names.lookup y.1 == some .free))) = true)
    (h2 : (cp.all fun p => X.N[p.1]? == some p.2 && scope.names.lookup p.2 == some .free) = true) : CompOk X scope cp := by
  have g := List.all_eq_true.mp h1
  refine ⟨kind, fun y hy e => ?_, fun y hy e => ?_, fun y hy e => ?_, fun p hp => ?_⟩
  · have q := g y hy
    rw [Bool.and_eq_true, Bool.and_eq_true] at q
    rw [e] at q
    exact absurd q.1.1 (by decide)
  · have q := g y hy
    rw [Bool.and_eq_true, Bool.and_eq_true] at q
    have q := q.1.2
    rw [e] at q
    simpa using q
  · have q := g y hy
    rw [Bool.and_eq_true, Bool.and_eq_true] at q
    have q := q.2
    rw [e] at q
    have q : X.env.scope.names.lookup y.1 = some .cell ∨ X.env.scope.names.lookup y.1 = some .free := by simpa using q
    exact q
  · have q := List.all_eq_true.mp h2 p hp
    rw [Bool.and_eq_true] at q
    exact ⟨by simpa using q.1, by simpa using q.2⟩
inductive Kd (H : Hp) : V → String → Prop where
  | non : Kd H .non "NoneType"
  | bl (b : Bool) : Kd H (.bl b) "bool"
  | int (i : Int) : Kd H (.int i) "int"
  | str (z : Str) : Kd H (.str z) "str"
  | lst {a : Addr} {xs : List V} (e : H a = some (.lst xs)) : Kd H (.ref a) "list"
  | tup {a : Addr} {xs : List V} (e : H a = some (.tup xs)) : Kd H (.ref a) "tuple"
  | dK {a : Addr} {kvs : List (Key × V)} (e : H a = some (.dK kvs)) : Kd H (.ref a) "dict"
def kinds : List String := ["NoneType", "bool", "int", "str", "list", "tuple", "dict"]
def subT (k T : String) : Bool := k == T || (k == "bool" && T == "int")
theorem kit_ok (K : PySem.W.Frag) : ∀ k ∈ kinds, ∀ T ∈ ["str", "list", "tuple", "bool", "int", "dict"], PySem.W.kitOne K (.type k) (.type T) = some (subT k T) := by
  intro k hk T hT
  simp only [kinds, List.mem_cons, List.not_mem_nil, or_false] at hk hT
  rcases hk with rfl | rfl | rfl | rfl | rfl | rfl | rfl <;> rcases hT with rfl | rfl | rfl | rfl | rfl | rfl <;> first | rfl | kernel_rfl
theorem Kd.ty {K : PySem.W.Frag} {H : Hp} {x : V} {k : String} (h : Kd H x k) : TyOf K H x (.type k) ∧ k ∈ kinds := by
  cases h with
  | non => exact ⟨.non, by decide⟩
  | bl b => exact ⟨.bl b, by decide⟩
  | int i => exact ⟨.int i, by decide⟩
  | str z => exact ⟨.str z, by decide⟩
  | lst e => exact ⟨.lst e, by decide⟩
  | tup e => exact ⟨.tup e, by decide⟩
  | dK e => exact ⟨.dK e, by decide⟩
theorem Kd.same {H H' : Hp} {x : V} {k : String} (h : Kd H x k) (g : Same H H') : Kd H' x k := by
  cases h with
  | non => exact .non
  | bl b => exact .bl b
  | int i => exact .int i
  | str z => exact .str z
  | lst e => exact .lst (g _ _ e)
  | tup e => exact .tup (g _ _ e)
  | dK e => exact .dK (g _ _ e)
theorem Kd.inj {H : Hp} {x : V} {k k' : String} (h : Kd H x k) (h' : Kd H x k') : k = k' := by
  cases h with
  | lst e => cases h' with | lst _ => rfl | tup e' => rw [e] at e'; cases e' | dK e' => rw [e] at e'; cases e'
  | tup e => cases h' with | lst e' => rw [e] at e'; cases e' | tup _ => rfl | dK e' => rw [e] at e'; cases e'
  | dK e => cases h' with | lst e' => rw [e] at e'; cases e' | tup e' => rw [e] at e'; cases e' | dK _ => rfl
  | non => cases h'; rfl
  | bl _ => cases h'; rfl
  | int _ => cases h'; rfl
  | str _ => cases h'; rfl
theorem call_isk {X : Cx} : CallR X (.builtin "isinstance") (fun xs H Q => ∃ x T k, xs = [x, .ty T] ∧ Kd H x k ∧ T ∈ ["str", "list", "tuple", "bool", "int", "dict"] ∧ Q (.bl (subT k T)) H) := by
  intro pins s σ H xs us Q I r h
  obtain ⟨x, T, k, e, hk, hT, q⟩ := h
  obtain ⟨h1, h2⟩ := hk.ty (K := X.K)
  exact call_isinst pins s σ H xs us Q I r ⟨x, T, .type k, _, e, h1, kit_ok X.K k h2 T hT, q⟩
theorem same_upd {H : Hp} {p : Addr} (h : H p = none) (o : HO) : Same H (upd H p o) := fun b u q => by rw [upd_ne (ne_of_none q h)]; exact q
theorem Same.seqT {K : PySem.W.Frag} {H H' : Hp} {a : Addr} {xs : List V} (e : Same H H') (h : SqT K H a xs) : SqT K H' a xs := by
  rcases h with (h | ⟨o, h⟩) | h
  · exact .inl (.inl (e _ _ h))
  · exact .inl (.inr ⟨o, e _ _ h⟩)
  · exact .inr h
section
variable {H : Hp} {Q : VK} {v : V} {a : Option V} {r : St} {i : Nat}
theorem rd_st {t : TS} {D : Ends} {σ : St} (σ' : St) (e : σ = σ') (h : t D σ' H) : t D σ H := by rw [e]; exact h
theorem rd_v0 : tVar 0 (some v :: r) H Q = Q v H := by simp [tVar]
theorem rd_vS : tVar (i + 1) (a :: r) H Q = tVar i r H Q := rfl
theorem rd_ite_t {A B : Prop} : (if true = true then A else B) = A := if_pos rfl
theorem rd_ite_f {A B : Prop} : (if false = true then A else B) = B := if_neg Bool.false_ne_true
theorem rd_ss {a b : Str} : (scal (.str a) (.str b) = true) = True := by simp [scal]
theorem rd_si {a : Str} {b : Int} : (scal (.str a) (.int b) = true) = True := by simp [scal]
theorem rd_is {b : Str} {a : Int} : (scal (.int a) (.str b) = true) = True := by simp [scal]
theorem rd_ii {a b : Int} : (scal (.int a) (.int b) = true) = True := by simp [scal]
theorem rd_bb {a b : Bool} : (scal (.bl a) (.bl b) = true) = True := by simp [scal]
def cBody (tn : List Str) (cp : List (Nat × Str)) (g : TG) (tif : TT) (te : TE) (σ : St) (Q : VK) (J : It) (H1 : Hp) : Prop := ∀ D, H1 D = none → ∃ W : Nat → Nat → St → Hp → Prop,
  (∃ m, W 0 m (stB tn cp σ) (upd H1 D (.lst []))) ∧ ∀ i m σb Hb, W i m σb Hb →
    (J.stop i Hb ∧ Q (.ref D) Hb) ∨ (J.go i Hb ∧ ∀ x H', J.yld i Hb x H' → g x σb H' fun σ2 H2 => tif σ2 H2 fun c H3 =>
      if c = true then te σ2 H3 fun y H4 => ∃ ys, H4 D = some (.lst ys) ∧ ys.length < sizeLine ∧ ∃ m', m' < m ∧ W (i + 1) m' σ2 (upd H4 D (.lst (ys ++ [y])))
      else ∃ m', m' < m ∧ W (i + 1) m' σ2 H3)
theorem rd_comp {tn : List Str} {cp : List (Nat × Str)} {wi : TI} {g : TG} {tif : TT} {te : TE} {σ : St} : tComp tn cp wi g tif te σ H Q = wi σ H fun J H1 => cBody tn cp g tif te σ Q J H1 := rfl
def fBody (g : TG) (tb : TS) (D : Ends) (σ : St) (J : It) (H1 : Hp) : Prop := ∃ W : Nat → Nat → St → Hp → Prop, (∃ m, W 0 m σ H1) ∧ ∀ i m σ H, W i m σ H →
  (J.stop i H ∧ D.nx σ H) ∨ (J.go i H ∧ ∃ N : St → Hp → Prop, (∀ σ' H', N σ' H' → ∃ m', m' < m ∧ W (i + 1) m' σ' H') ∧ ∀ x H', J.yld i H x H' → g x σ H' fun σ2 H2 => tb { D with nx := N, ct := N, bk := D.nx } σ2 H2)
theorem rd_for {wi : TI} {g : TG} {tb : TS} {D : Ends} {σ : St} : tFor wi g tb D σ H = wi σ H fun J H1 => fBody g tb D σ J H1 := rfl
end
section
variable {tn : List Str} {cp : List (Nat × Str)} {g : TG} {tif : TT} {te : TE} {σ0 : St} {Q : VK} {H1 : Hp}
theorem cb_by {J : It} (n : Nat) (Pv : Addr → Nat → List V → St → Hp → Prop) (hn : n ≤ sizeLine) (h0 : ∀ D, H1 D = none → Pv D 0 [] (stB tn cp σ0) (upd H1 D (.lst [])))
    (hgo : ∀ D i ys σ H, H1 D = none → i < n → H D = some (.lst ys) → Pv D i ys σ H → J.go i H) (hstop : ∀ D ys σ H, H1 D = none → H D = some (.lst ys) → Pv D n ys σ H → J.stop n H)
    (hs : ∀ D i ys σ H x H', H1 D = none → i < n → H D = some (.lst ys) → ys.length ≤ i → Pv D i ys σ H → J.yld i H x H' → g x σ H' fun σ2 H2 => tif σ2 H2 fun c H3 =>
      if c = true then te σ2 H3 fun y H4 => CStep D n i (Pv D) σ2 y H4 else CSkip D n i (Pv D) σ2 H3)
    (hd : ∀ D ys σ H, H1 D = none → H D = some (.lst ys) → ys.length ≤ n → Pv D n ys σ H → Q (.ref D) H) : cBody tn cp g tif te σ0 Q J H1 := fun D hD =>
  comp_by (Pv D) hn (h0 D hD) (fun i ys σ H => hgo D i ys σ H hD) (fun ys σ H => hstop D ys σ H hD) (fun i ys σ H hi hH hl p x H' y => hs D i ys σ H x H' hD hi hH hl p y) (fun ys σ H => hd D ys σ H hD)
theorem cb_str {z : Str} (Pv : Addr → Nat → List V → St → Hp → Prop) (hn : z.cps.size ≤ sizeLine) (h0 : ∀ D, H1 D = none → Pv D 0 [] (stB tn cp σ0) (upd H1 D (.lst [])))
    (hs : ∀ D i ys σ H c, H1 D = none → i < z.cps.size → z.cps[i]? = some c → H D = some (.lst ys) → ys.length ≤ i → Pv D i ys σ H → g (.str ⟨#[c]⟩) σ H fun σ2 H2 => tif σ2 H2 fun c H3 =>
      if c = true then te σ2 H3 fun y H4 => CStep D z.cps.size i (Pv D) σ2 y H4 else CSkip D z.cps.size i (Pv D) σ2 H3)
    (hd : ∀ D ys σ H, H1 D = none → H D = some (.lst ys) → ys.length ≤ z.cps.size → Pv D z.cps.size ys σ H → Q (.ref D) H) : cBody tn cp g tif te σ0 Q (Its z) H1 := fun D hD =>
  comp_str (Pv D) hn (h0 D hD) (fun i ys σ H c => hs D i ys σ H c hD) (fun ys σ H => hd D ys σ H hD)
theorem cb_list {K : PySem.W.Frag} {a : Addr} {xs : List V} (Pv : Addr → Nat → List V → St → Hp → Prop) (hn : xs.length ≤ sizeLine) (h0 : ∀ D, H1 D = none → Pv D 0 [] (stB tn cp σ0) (upd H1 D (.lst [])))
    (hl : ∀ D i ys σ H, H1 D = none → i ≤ xs.length → H D = some (.lst ys) → Pv D i ys σ H → SqL K H a xs)
    (hs : ∀ D i ys σ H x, H1 D = none → i < xs.length → xs[i]? = some x → H D = some (.lst ys) → ys.length ≤ i → Pv D i ys σ H → g x σ H fun σ2 H2 => tif σ2 H2 fun c H3 =>
      if c = true then te σ2 H3 fun y H4 => CStep D xs.length i (Pv D) σ2 y H4 else CSkip D xs.length i (Pv D) σ2 H3)
    (hd : ∀ D ys σ H, H1 D = none → H D = some (.lst ys) → ys.length ≤ xs.length → Pv D xs.length ys σ H → Q (.ref D) H) : cBody tn cp g tif te σ0 Q (Itl K a) H1 := fun D hD =>
  comp_list (Pv D) hn (h0 D hD) (fun i ys σ H => hl D i ys σ H hD) (fun i ys σ H x => hs D i ys σ H x hD) (fun ys σ H => hd D ys σ H hD)
theorem cb_tup {K : PySem.W.Frag} {a : Addr} {xs : List V} (Pv : Addr → Nat → List V → St → Hp → Prop) (hn : xs.length ≤ sizeLine) (h0 : ∀ D, H1 D = none → Pv D 0 [] (stB tn cp σ0) (upd H1 D (.lst [])))
    (hl : ∀ D i ys σ H, H1 D = none → i ≤ xs.length → H D = some (.lst ys) → Pv D i ys σ H → SqT K H a xs)
    (hs : ∀ D i ys σ H x, H1 D = none → i < xs.length → xs[i]? = some x → H D = some (.lst ys) → ys.length ≤ i → Pv D i ys σ H → g x σ H fun σ2 H2 => tif σ2 H2 fun c H3 =>
      if c = true then te σ2 H3 fun y H4 => CStep D xs.length i (Pv D) σ2 y H4 else CSkip D xs.length i (Pv D) σ2 H3)
    (hd : ∀ D ys σ H, H1 D = none → H D = some (.lst ys) → ys.length ≤ xs.length → Pv D xs.length ys σ H → Q (.ref D) H) : cBody tn cp g tif te σ0 Q (Itt K a) H1 :=
  cb_by xs.length Pv hn h0 (fun D i ys σ H hD hi hH p => ⟨xs, xs[i], hl D i ys σ H hD (Nat.le_of_lt hi) hH p, by simp [hi]⟩) (fun D ys σ H hD hH p => ⟨xs, hl D _ ys σ H hD (Nat.le_refl _) hH p, Nat.le_refl _⟩) (fun D i ys σ H x H' hD hi hH hl' p y => by
    obtain ⟨e, y⟩ := y
    subst e
    exact hs D i ys σ _ x hD hi (y xs (hl D i ys σ _ hD (Nat.le_of_lt hi) hH p)) hH hl' p) hd
variable {tb : TS} {D : Ends}
theorem fb_range {lo : Int} {n : Nat} (Pv : Nat → St → Hp → Prop) (h0 : Pv 0 σ0 H1)
    (hs : ∀ i σ H, i < n → Pv i σ H → g (.int (lo + i)) σ H fun σ2 H2 => tb { D with nx := Pv (i + 1), ct := Pv (i + 1), bk := D.nx } σ2 H2) (hd : ∀ σ H, Pv n σ H → D.nx σ H) : fBody g tb D σ0 (Itr lo n) H1 := for_range Pv h0 hs hd
end
theorem pick_any {α : Type} (xs : List α) : ∀ (i k : Nat), ((List.range k).map fun m => i + m).filterMap (fun j => xs[j]?) = (xs.drop i).take k
  | i, 0 => by simp
  | i, k + 1 => by
    have ih := pick_any xs (i + 1) k
    rw [List.range_succ_eq_map, List.map_cons, List.map_map, List.filterMap_cons]
    have e : ((fun m => i + m) ∘ Nat.succ) = fun m => i + 1 + m := by funext m; simp [Function.comp]; omega
    rw [e]
    by_cases h : i < xs.length
    · rw [show i + 0 = i from rfl, List.getElem?_eq_getElem h, ih, List.drop_eq_getElem_cons h, List.take_succ_cons]
    · rw [show i + 0 = i from rfl, List.getElem?_eq_none (by omega), ih, List.drop_eq_nil_of_le (by omega), List.drop_eq_nil_of_le (by omega)]
      simp
def cutL {α : Type} (xs : List α) (lo hi : Option Int) : List α := (xs.drop (HT.sIx xs.length 0 lo)).take (HT.sIx xs.length xs.length hi - HT.sIx xs.length 0 lo)
theorem idx_go {a b : Nat} {A B : Int} (hA : A = a) (hB : B = b) : PySem.sliceRange A B 1 = (List.range (b - a)).map fun m => a + m := by
  subst hA hB
  unfold PySem.sliceRange
  simp only [show (1 : Int) > 0 by decide, if_true]
  have e3 : (if (a : Int) < (b : Int) then ((b : Int) - (a : Int) + 1 - 1) / 1 else 0).toNat = b - a := by
    split <;> omega
  rw [e3]
  refine List.map_congr_left fun m _ => ?_
  omega
theorem slice_idx (lo hi : Option Int) (n : Nat) : Builtin.Str.strSliceIndices lo hi 1 n = (List.range (HT.sIx n n hi - HT.sIx n 0 lo)).map fun m => HT.sIx n 0 lo + m := by
  unfold Builtin.Str.strSliceIndices
  refine idx_go ?_ ?_
  · cases lo with
    | none => rfl
    | some v =>
      rw [← HT.clip_eq v n 0]
      simp only [show (1 : Int) > 0 by decide, if_true]
      split <;> omega
  · cases hi with
    | none => rfl
    | some v =>
      rw [← HT.clip_eq v n n]
      simp only [show (1 : Int) > 0 by decide, if_true]
      split <;> omega
theorem slice_cps (z : Str) (lo hi : Option Int) : (Txt.slice z lo hi).cps.toList = cutL z.cps.toList lo hi := by
  have hl : z.cps.toList.length = z.length := by simp [Str.length]
  unfold Txt.slice cutL
  rw [hl, slice_idx]
  have p := pick_any z.cps.toList (HT.sIx z.length 0 lo) (HT.sIx z.length z.length hi - HT.sIx z.length 0 lo)
  have e : (fun (j : Nat) => z.cps.toList[j]?) = fun (j : Nat) => z.cps[j]? := by funext j; simp
  rw [e] at p
  split
  · rename_i h
    simp only [List.length_map, List.length_range, beq_self_eq_true, Bool.true_and, beq_iff_eq] at h
    have h1 := HT.sIx_le z.length z.length (Nat.le_refl _) hi
    have h3 := HT.sIx_le z.length 0 (Nat.zero_le _) lo
    have h0 : HT.sIx z.length 0 lo = 0 := by omega
    have h2 : HT.sIx z.length z.length hi - HT.sIx z.length 0 lo = z.length := h
    rw [h2, h0, List.drop_zero, List.take_of_length_le (by rw [hl]; exact Nat.le_refl _)]
  · rw [← p]
theorem cutL_from {α : Type} (xs : List α) (k : Nat) : cutL xs (some (k : Int)) none = xs.drop k := by
  unfold cutL
  rw [HT.sIx_nat, HT.sIx_none, List.take_of_length_le (by rw [List.length_drop]; exact Nat.le_refl _)]
  by_cases h : k ≤ xs.length
  · rw [Nat.min_eq_left h]
  · rw [Nat.min_eq_right (by omega), List.drop_eq_nil_of_le (Nat.le_refl _), List.drop_eq_nil_of_le (by omega)]
theorem cutL_to {α : Type} (xs : List α) (k : Nat) : cutL xs none (some (k : Int)) = xs.take k := by
  unfold cutL
  rw [HT.sIx_nat, HT.sIx_none, List.drop_zero, Nat.sub_zero]
  by_cases h : k ≤ xs.length
  · rw [Nat.min_eq_left h]
  · rw [Nat.min_eq_right (by omega), List.take_of_length_le (Nat.le_refl _), List.take_of_length_le (by omega)]
theorem str_len (z : Str) : z.length = z.cps.toList.length := by simp [Str.length]
theorem atI_0 {α : Type} {c : α} {r : List α} : atI (c :: r) 0 = some c := atI_nat (j := 0) rfl
theorem RcOk.up {X : Cx} {j k : Nat} {H : Hp} {x y : V} {b : Bool} (h : RcOk X j H x y b) (hjk : j ≤ k) : RcOk X k H x y b := fun pins σ s A u v hu => h pins σ s A u v (by omega)
theorem str_app (a b : Str) : (a ++ b).cps.toList = a.cps.toList ++ b.cps.toList := by
  show (a.cps ++ b.cps).toList = _
  simp
theorem str_one_len (c : Nat) : (Str.mk #[c]).length = 1 := rfl
theorem slice_len (z : Str) (lo hi : Option Int) : (Txt.slice z lo hi).length ≤ z.length := Txt.slice_le z lo hi
theorem small_line {n : Nat} (h : n ≤ 1000) : n ≤ sizeLine := Nat.le_of_lt (small1000 h)
theorem atI_mod {α : Type} {xs : List α} {i : Int} {n : Nat} (hn : xs.length = n) (h0 : 0 < n) : ∃ v, atI xs (i % (n : Int)) = some v ∧ v ∈ xs := by
  have h1 : 0 ≤ i % (n : Int) := Int.emod_nonneg _ (by omega)
  have h2 : i % (n : Int) < n := Int.emod_lt_of_pos _ (by omega)
  have h3 : (i % (n : Int)).toNat < xs.length := by omega
  refine ⟨xs[(i % (n : Int)).toNat], ?_, List.getElem_mem h3⟩
  have e : i % (n : Int) = (((i % (n : Int)).toNat : Nat) : Int) := by omega
  have q : atI xs (((i % (n : Int)).toNat : Nat) : Int) = some xs[(i % (n : Int)).toNat] := atI_nat (by simp)
  rw [← e] at q
  exact q
theorem digits_num {n : Int} (h0 : 0 ≤ n) : ∀ c ∈ (Str.ofString (toString n)).cps.toList, 48 ≤ c ∧ c ≤ 57 := by
  obtain ⟨m, rfl⟩ := Int.eq_ofNat_of_zero_le h0
  intro c hc
  rw [PySem.W.KIN.signs_num] at hc
  obtain ⟨ch, hch, e⟩ := List.mem_map.mp hc
  have r : ch.isDigit = true := Nat.isDigit_of_mem_toDigits (by decide) (by decide) hch
  rw [← e]
  unfold Char.isDigit at r
  rw [Bool.and_eq_true, decide_eq_true_eq, decide_eq_true_eq] at r
  exact ⟨by have := UInt32.le_iff_toNat_le.mp r.1; exact this, by have := UInt32.le_iff_toNat_le.mp r.2; exact this⟩
theorem digits_zfill {z : Str} (i : Int) (h : ∀ c ∈ z.cps.toList, 48 ≤ c ∧ c ≤ 57) : ∀ c ∈ (Txt.zfill z i).cps.toList, 48 ≤ c ∧ c ≤ 57 := by
  unfold Txt.zfill
  split
  · exact h
  · intro c hc
    have e : zfilled z (i.toNat - z.length) = Builtin.Str.padded z (i.toNat - z.length) 0 48 := by
      unfold zfilled
      split
      · rename_i q
        have := h 43 (by have := Array.mem_of_getElem? q; simpa using this)
        omega
      · rename_i q
        have := h 45 (by have := Array.mem_of_getElem? q; simpa using this)
        omega
      · rfl
    rw [e] at hc
    have hc' : c ∈ (Array.replicate (i.toNat - z.length) 48 ++ z.cps ++ Array.replicate 0 48).toList := hc
    simp at hc'
    rcases hc' with ⟨_, e⟩ | hc'
    · omega
    · exact h c (by simpa using hc')
theorem hu_at {A : Around} {k : Nat} (hr : Room k A) (j : Nat) (h : j ≤ 64) : A.units + j < cLine := by have := hr.units; omega
end L2
set_option Elab.async false
set_option linter.all false
set_option maxRecDepth 100000
namespace L2
open PySem PySem.Spec PyProof.Rows
section
variable {K : PySem.W.Frag} {h : Heap} {mg : Str → Option Value}
theorem dfn_mk {x : Str} {st : Stmt} {ps : List Str} {f : Addr} {oc : Value} {od an : Option Addr} {osl : Array (Option Value)} {kV doc pm cdv ct : Value} (X : K.In h) (G : h.Ns mainGlobals mg)
    (a : PySem.W.nsIn K mainGlobals x = some (some (.ref f))) (l : K.lookup f = some ⟨oc, od, .func (PySem.W.fnOf x x (defArgs st) (defBody st) (defScope st) .none kV doc pm an cdv ct), osl⟩)
    (c : PySem.W.codeIn K cdv x = true) (k : PySem.W.keepIn K (.ref f) = true)
    (hb : ∀ (kV doc pm : Value) (an : Option Addr) (cdv ct : Value) (us : List Value), us.length = ps.length → bindArgs (PySem.W.fnOf x x (defArgs st) (defBody st) (defScope st) .none kV doc pm an cdv ct) ⟨us, []⟩ = pure (ps.zip us)) : Dfn K mg x st ps :=
  ⟨f, _, fun_mk l c k, (fun_mk l c k).binds hb, PySem.W.mg_of X G a⟩
theorem law_mk {x y : Str} {st : Stmt} {f fa : Addr} {oc : Value} {od an : Option Addr} {osl : Array (Option Value)} {kV doc pm cdv ct : Value} (X : K.In h) (G : h.Ns mainGlobals mg) (hfa : mg x = some (.ref fa))
    (a : PySem.W.nsIn K mainGlobals x = some (some (.ref f))) (l : K.lookup f = some ⟨oc, od, .func (PySem.W.fnOf x x (defArgs st) (defBody st) (defScope st) .none kV doc pm an cdv ct), osl⟩)
    (c : PySem.W.codeIn K cdv x = true) (k : PySem.W.keepIn K (.ref f) = true) (hb : ∀ (s : Shared) (v : Value), BindsTo s (PySem.W.fnOf x x (defArgs st) (defBody st) (defScope st) .none kV doc pm an cdv ct) ⟨[v], []⟩ [(y, v)]) :
    ∃ fd : FuncData, (∀ (s : Shared) (v : Value), BindsTo s fd ⟨[v], []⟩ [(y, v)]) ∧ Fun K x x st fa fd := by
  have e := hfa.symm.trans (PySem.W.mg_of X G a)
  cases e
  exact ⟨_, hb, fun_mk l c k⟩
theorem glv_mk {x : Str} {u : Value} {v : V} (X : K.In h) (G : h.Ns mainGlobals mg) (a : PySem.W.nsIn K mainGlobals x = some (some u)) (r : RelV v u) : GlV mg x v := ⟨u, PySem.W.mg_of X G a, r⟩
end
end L2
set_option Elab.async false
set_option linter.all false
set_option maxRecDepth 100000
namespace L2
open PySem PySem.Spec PyProof.Rows
section
variable {CX : CXT} {P : Program} {w : World} {K : PySem.W.Frag} {mg : Str → Option Value} {base : Heap} {N : List Str} {x : Str} {sc : Scope} {f : Addr} {cdv : Value} {A : Around} {outer : List Env} {s : Shared} {H : Hp} {E : XK}
theorem cxK : (cxOf CX P w K mg base N x sc f cdv A outer s H E).K = K := rfl
theorem cxP : (cxOf CX P w K mg base N x sc f cdv A outer s H E).prog = P := rfl
theorem cxW : (cxOf CX P w K mg base N x sc f cdv A outer s H E).w = w := rfl
end
end L2
namespace L2
open PySem PySem.Spec PyProof.Rows
section
variable {X : Cx} {st : Stmt} {rest : List Stmt} {t u : TS} {e : Expr} {te : TE}
def tCut (t u : TS) : TS := fun D σ H => ∃ Pv : St → Hp → Prop, t { D with nx := Pv } σ H ∧ ∀ σ' H', Pv σ' H' → u D σ' H'
theorem pss_cut (h1 : PS X st t) (h2 : PSs X rest u) : PSs X (st :: rest) (tCut t u) := by
  intro pins s σ H D I h
  obtain ⟨Pv, q1, q2⟩ := h
  refine wpAny_execs_cons (thn (h1 pins s σ H { D with nx := Pv } I q1) fun f s1 q => ?_)
  cases f with
  | next =>
    obtain ⟨σ', H', I', q⟩ := q
    exact h2 pins s1 σ' H' D I' (q2 σ' H' q)
  | ret v => exact q
  | brk => exact q
  | cont => exact q
theorem cut_by {D : Ends} {σ : St} {H : Hp} (Pv : St → Hp → Prop) (h1 : t { D with nx := Pv } σ H) (h2 : ∀ σ' H', Pv σ' H' → u D σ' H') : tCut t u D σ H := ⟨Pv, h1, h2⟩
end
end L2
namespace L2
open PySem PySem.Spec PyProof.Rows
local instance (priority := 10000) : BEq Key := instBEqOfDecidableEq
local instance (priority := 10000) : LawfulBEq Key := inferInstanceAs (LawfulBEq (Sum Int Str))
def onceK : List Key → List Key → List Key
  | acc, [] => acc
  | acc, k :: r => onceK (if k ∈ acc then acc else acc ++ [k]) r
theorem onceK_snoc : ∀ (ks acc : List Key) (k : Key), onceK acc (ks ++ [k]) = if k ∈ onceK acc ks then onceK acc ks else onceK acc ks ++ [k]
  | [], acc, k => rfl
  | j :: r, acc, k => onceK_snoc r _ k
theorem onceK_len : ∀ (ks acc : List Key), (onceK acc ks).length ≤ acc.length + ks.length
  | [], acc => Nat.le_refl _
  | k :: r, acc => by
    have h := onceK_len r (if k ∈ acc then acc else acc ++ [k])
    show (onceK (if k ∈ acc then acc else acc ++ [k]) r).length ≤ acc.length + (r.length + 1)
    split at h <;> rename_i c
    · rw [if_pos c]; omega
    · rw [if_neg c]
      rw [List.length_append, List.length_singleton] at h
      omega
section
variable {P : Program} {w : World} {A : Around} {R : Result → Shared → Prop} {it : Addr} {fp wr : List Addr} {G : Array GenState → Array GenState → Prop} {n : Nat} {Pv : Nat → Value → Prop} {St : Nat → Shared → Prop}
def SetIs (P : Program) (w : World) (h : Heap) (a : Addr) (ks : List Key) : Prop := h.SetOf (mixKind P w) a (fun k => decide (k ∈ onceK [] ks)) (onceK [] ks).length
theorem SetIs.kept {h h' : Heap} {a : Addr} {ks : List Key} (x : SetIs P w h a ks) (k : ∀ o, h.get? a = some o → h'.get? a = some o) : SetIs P w h' a ks := by
  obtain ⟨o, es, ep, t, ho, rest⟩ := x
  exact ⟨o, es, ep, t, k o ho, rest⟩
theorem scan_kV {k : Key} {v : Value} (h : (mixKind P w).is k v = true) : v.scannable = true := by
  rcases keyIs_shape h with ⟨i, t, rfl, rfl⟩ | ⟨x, t, rfl, rfl⟩ | ⟨c, rfl, rfl⟩ <;> rfl
theorem set_turns (W : WalksS P w A.in1 it fp wr G n Pv St) (a : Addr) (ha : a ∉ fp) (ks : List Key) (hn : ks.length = n) (hv : ∀ i v, Pv i v → ∀ k, ks[i]? = some k → (mixKind P w).is k v = true) (hb : n + 1 < scanBound) :
    ∀ (m i : Nat) (s : Shared), n - i = m → i ≤ n → St i s → SetIs P w s.heap a (ks.take i) → (∀ s', Moved (a :: wr) G s s' → SetIs P w s'.heap a ks → R (.ok (.ret .none)) s') →
      codeAny (model P w) A (.builtin "set.update.loop" ⟨[.ref a, .ref it], []⟩) R s := by
  have haw : a ∉ wr := fun h => ha (W.sub _ h)
  have up : ∀ b ∈ wr, b ∈ a :: wr := fun b h => List.mem_cons_of_mem _ h
  intro m
  induction m with
  | zero =>
    intro i s hm hi st x q
    obtain rfl : i = n := by omega
    rw [List.take_of_length_le (Nat.le_of_eq hn)] at x
    refine codeAny_builtin F.entry_set_update_loop ?_
    rw [Around.under_plainId F.plain_set_update_loop _]
    refine wpAny_bind (W.done s _ _ st fun s' mv => wpAny_pure (q s' (mv.mono up) (x.kept fun o e => mv.heap a _ haw e)))
  | succ m ih =>
    intro i s hm hi st x q
    have lt : i < n := by omega
    have hk : ks[i]? = some ks[i] := by simp [hn, lt]
    refine codeAny_builtin F.entry_set_update_loop ?_
    rw [Around.under_plainId F.plain_set_update_loop _]
    refine wpAny_bind (W.item i s _ _ lt st fun v s' pv st' mv => ?_)
    have is := hv i v pv _ hk
    have x' := x.kept (h' := s'.heap) fun o e => mv.heap a _ haw e
    refine wpAny_bind (m := holding [v] (setAdd a v)) (wpAny_holding ?_)
    unfold setAdd
    refine wpAny_holding (wpAny_bind ((mixKind P w).pyHash (k := ks[i]) is ?_))
    have room := onceK_len (ks.take i) []
    rw [List.length_take, List.length_nil] at room
    refine wpAny_setAddHashed_of (knd := mixKind P w) (s := { s' with toks := s'.toks + 1 }) is (scan_kV is) x' (by omega) fun h' sb x2 => ?_
    have x3 : SetIs P w h' a (ks.take (i + 1)) := by
      unfold SetIs
      rw [List.take_add_one, hk, Option.toList_some, onceK_snoc]
      refine SetOf_congr x2 (fun k' => ?_) ?_
      · by_cases c : ks[i] ∈ onceK [] (ks.take i)
        · rw [if_pos c]
          by_cases e : k' = ks[i]
          · subst e; simp [c]
          · simp [e]
        · rw [if_neg c]
          simp [List.mem_append]
      · by_cases c : ks[i] ∈ onceK [] (ks.take i)
        · rw [if_pos c]; simp [c]
        · rw [if_neg c]; simp [c]
    refine wpAny_pure ⟨plainId_quiet F.plain_set_update_loop _, ih (i + 1) _ (by omega) lt (W.frame _ s' _ _ st' (Nat.le_succ _) fun b hb o e => ?_) x3 fun s2 mv2 x4 => ?_⟩
    · rw [sb.2 b (fun h => ha (h ▸ hb))]; exact e
    · refine q s2 (Moved.trans W.gtrans ((mv.mono up).then_heap (Nat.le_succ _) fun b o hb e => ?_) mv2) x4
      rw [sb.2 b (fun h => hb (h ▸ List.mem_cons_self))]; exact e
end
section
variable {P : Program} {w : World} {A : Around} {E : Value → Shared → Prop} {s : Shared}
set_option maxHeartbeats 3200000 in
theorem set_of_list {l : Addr} {its : Array Value} {ks : List Key} {Q : Value → Shared → Prop} (hh : A.handled = none) (hl : s.heap.IsList l its) (hk : ks.length = its.size) (hi : ∀ (i : Nat) v k, its[i]? = some v → ks[i]? = some k → (mixKind P w).is k v = true)
    (hb : its.size + 1 < scanBound)
    (h : ∀ (h' : Heap) (tk : Nat), SetIs P w h' s.heap.objs.size ks → (∀ b o, b < s.heap.objs.size → s.heap.get? b = some o → h'.get? b = some o) → Q (.ref s.heap.objs.size) { s with heap := h', toks := tk }) :
    wpAny (model P w) A (call (.type "set") [.ref l]) Q E s := by
  obtain ⟨c, tl, hmro⟩ := F.called_set.mro
  have made := F.called_set.made
  have sub := F.called_set.sub
  refine wpAny_call (codeAny_of_tree (wpAny_pure ⟨Code.quiet_builtin _ (by decide +kernel), codeAny_builtin F.entry_type_call ?_⟩))
  rw [Around.under_plain (weight_type_call_type "set" [.ref l] []) rfl]
  have a1 := F.called_set.notType
  have a2 := F.called_set.canCreate
  have a3 := F.typeCall_set_1 (.ref l)
  repeat (any_goals (first | assumption | wp_step))
  refine codeAny_mono (code_set_new_1 (.ref l) (E := E) (Q₁ := fun obj s1 => ∃ led : Bool, obj = .ref s.heap.objs.size ∧ s1 = { s with heap := s.heap.push { cls := .type "set", dict := none, data := .set #[] 0 (.fresh 0 0 led) } }) fun led => ⟨led, rfl, rfl⟩) fun r s1 hr => ?_
  cases r with
  | error e => exact hr
  | ok fl =>
    cases fl with
    | ret obj =>
      obtain ⟨led, rfl, rfl⟩ := hr
      have at0 : (s.heap.push { cls := .type "set", dict := none, data := .set #[] 0 (.fresh 0 0 led) }).get? s.heap.objs.size = some { cls := .type "set", dict := none, data := .set #[] 0 (.fresh 0 0 led) } := Heap.get?_push_size _ rfl
      have ty : Shared.TypeIs { s with heap := s.heap.push { cls := .type "set", dict := none, data := .set #[] 0 (.fresh 0 0 led) } } (.ref s.heap.objs.size) "set" := ⟨_, at0, rfl⟩
      have i1 := F.called_set.init.lookup
      have i2 := F.called_set.init.bind (.ref s.heap.objs.size)
      repeat (any_goals (first | assumption | wp_step))
      refine codeAny_mono (codeAny_call_builtin (R := wants (fun r s2 => r = .none ∧ ∃ h' tk, s2 = { s with heap := h', toks := tk } ∧ SetIs P w h' s.heap.objs.size ks ∧
          (∀ b o, b < s.heap.objs.size → s.heap.get? b = some o → h'.get? b = some o)) E) F.called_set.init.plain F.entry_set_init (check_set_init_1 ty ?_)) fun r2 s2 hr2 => ?_
      · obtain ⟨ol, ho, hc, nl, hd⟩ := hl
        obtain ⟨oc, od, oda, osl⟩ := ol
        simp only at hc hd
        subst hc; subst hd
        have ho' : (s.heap.push { cls := .type "set", dict := none, data := .set #[] 0 (.fresh 0 0 led) }).get? l = some { cls := .type "list", dict := od, data := .seq its nl, slots := osl } := Heap.get?_push_of_some _ ho
        have b1 := F.sub_list_set
        have b2 := F.sub_list_frozenset
        have b3 : (Value.type "list" == Value.type "dict") = false := by decide
        have hl1 : (s.heap.push { cls := .type "set", dict := none, data := .set #[] 0 (.fresh 0 0 led) }).IsList l its := ⟨_, ho', rfl, nl, rfl⟩
        unfold Builtin.«set.__init__» noKeywords Builtin.Frozenset.updateFrom
        generalize hPI : pyIter = PI
        wp_walk
        subst hPI
        refine wpAny_pyIter_list hl1 ?_
        refine wpAny_bind (wpAny_runValue ?_)
        have ll : l < s.heap.objs.size := Heap.lt_size ho
        have h3 : A.in1.in1.in1.handled = none := by simp [hh]
        have ne : l ≠ (s.heap.push { cls := .type "set", dict := none, data := .set #[] 0 (.fresh 0 0 led) }).objs.size := by rw [Heap.size_push]; exact Nat.ne_of_lt (Nat.lt_succ_of_lt ll)
        have nf : s.heap.objs.size ∉ [(s.heap.push { cls := .type "set", dict := none, data := .set #[] 0 (.fresh 0 0 led) }).objs.size, l] := by
          rw [Heap.size_push]
          intro z
          rcases List.mem_cons.mp z with z | z
          · exact absurd z (Nat.ne_of_lt (Nat.lt_succ_self _))
          · exact absurd (List.mem_singleton.mp z) (Nat.ne_of_gt ll)
        refine set_turns ((Walks.list h3 _ l ne its).toS) s.heap.objs.size nf ks hk (fun i v pv k e => hi i v k pv e) hb (its.size - 0) 0 _ (by omega) (Nat.zero_le _) ⟨⟨_, Heap.get?_push_size _ rfl, rfl, rfl⟩, (hl1.push _)⟩ ?x0 ?q0
        case x0 =>
          refine SetIs.kept (h := s.heap.push { cls := .type "set", dict := none, data := .set #[] 0 (.fresh 0 0 led) }) ?_ fun o e => Heap.get?_push_of_some _ e
          rw [List.take_zero]
          exact SetOf_congr ((setObjOf_fresh (knd := mixKind P w) led).setOf at0 (by unfold scanBound; omega)) (fun _ => rfl) rfl
        case q0 =>
          intro s' mv x'
          obtain ⟨h', g', d', tk', os'⟩ := s'
          have eg : g' = s.gens := mv.gens
          have ed : d' = s.drawn := mv.drawn
          have eo : os' = s.os := mv.os
          subst eg; subst ed; subst eo
          refine wpAny_pure (wpAny_pure ⟨rfl, h', tk', rfl, x', fun b o hb e => mv.heap b o ?_ (Heap.get?_push_of_some _ (Heap.get?_push_of_some _ e))⟩)
          rw [Heap.size_push]
          intro z
          rcases List.mem_cons.mp z with z | z
          · exact absurd z (Nat.ne_of_lt hb)
          · exact absurd (List.mem_singleton.mp z) (Nat.ne_of_lt (Nat.lt_succ_of_lt hb))
      · cases r2 with
        | error e => exact hr2
        | ok f2 =>
          cases f2 with
          | ret r =>
            obtain ⟨rfl, h', tk, rfl, x', k'⟩ := hr2
            repeat (any_goals (first | assumption | wp_step))
            exact h _ _ x' k'
          | _ => exact hr2.elim
    | _ => exact hr.elim
end
end L2
set_option Elab.async false
set_option linter.all false
set_option maxRecDepth 100000
namespace L2
open PySem PySem.Spec PyProof.Rows
structure New (H : Hp) (p : Addr) (o : HO) (H' : Hp) : Prop where
  nil : H p = none
  g : Same H H'
  at' : H' p = some o
  eq : H' = upd H p o
theorem New.mk' {H : Hp} {p : Addr} (h : H p = none) (o : HO) : New H p o (upd H p o) := ⟨h, same_upd h o, upd_same, rfl⟩
theorem New.lst {K : PySem.W.Frag} {H H' : Hp} {p : Addr} {xs : List V} (n : New H p (.lst xs) H') : SqL K H' p xs := .of n.at'
theorem Same.wr {H H' : Hp} {p : Addr} (g : Same H H') (h : H p = none) (o : HO) : Same H (upd H' p o) := fun b u e => by rw [upd_ne (ne_of_none e h)]; exact g b u e
section
variable {X : Cx} {e : Expr} {es : List Expr} {t : TA} {pos : Pos}
def tTupN (t : TA) : TE := fun σ H Q => t σ H fun xs H1 => xs.length ≤ sizeLine ∧ ∀ p H', New H1 p (.tup xs) H' → Q (.ref p) H'
def tLstN (t : TA) : TE := fun σ H Q => t σ H fun xs H1 => xs.length ≤ sizeLine ∧ ∀ p H', New H1 p (.lst xs) H' → Q (.ref p) H'
theorem pe_tupN {x1} (h : PA X es t) : PE X (.Tuple es x1 pos) (tTupN t) := by
  intro pins s σ H Q I hq
  refine wpAny_Tuple_spliced (thn (h pos pins s σ H _ I hq) fun us s1 ⟨xs, H1, I1, r, z, q⟩ => ⟨by rw [← r.length]; exact z, ?_⟩)
  refine ⟨.ref s1.heap.objs.size, upd H1 s1.heap.objs.size (.tup xs), I1.laid (t' := s1.toks) (fun b u e => Heap.get?_push_of_some _ e) (Nat.le_refl _) ?_, rfl, q _ _ (.mk' I1.fresh _)⟩
  exact ⟨z, us, r, ⟨_, Heap.get?_push_size _ rfl, rfl, _, rfl⟩⟩
theorem pe_lstN (h : PA X es t) : PE X (.List es pos) (tLstN t) := by
  intro pins s σ H Q I hq
  refine wpAny_List_spliced (thn (h pos pins s σ H _ I hq) fun us s1 ⟨xs, H1, I1, r, z, q⟩ => ⟨by rw [← r.length]; exact z, ?_⟩)
  refine ⟨.ref s1.heap.objs.size, upd H1 s1.heap.objs.size (.lst xs), I1.laid (t' := s1.toks) (fun b u e => Heap.get?_push_of_some _ e) (Nat.le_refl _) ?_, rfl, q _ _ (.mk' I1.fresh _)⟩
  exact ⟨z, us, 0, r, Heap.get?_push_size _ rfl⟩
def rSlLN (K : PySem.W.Frag) : V → Option Int → Option Int → Hp → VK → Prop := fun x lo hi H Q => ∃ a xs, x = .ref a ∧ SqL K H a xs ∧ ∀ p H', New H p (.lst (cutL xs lo hi)) H' → Q (.ref p) H'
theorem sl_listN : SlR X (rSlLN X.K) := fun pins s σ H x v vl vu lo hi sl Q I rx hs pl pu h => by
  obtain ⟨a, xs, e, hx, q⟩ := h
  exact sl_list pins s σ H x v vl vu lo hi sl Q I rx hs pl pu ⟨a, xs, e, hx, fun p np => q p _ (.mk' np _)⟩
def rCatN : R2 := fun x y H Q => ∃ l b xs zs, x = .ref l ∧ y = .ref b ∧ H l = some (.lst xs) ∧ H b = some (.lst zs) ∧ xs.length + zs.length ≤ sizeLine ∧ ∀ p H', New H p (.lst (xs ++ zs)) H' → Q (.ref p) H'
theorem op_catN : OpR X (binaryOp .Add) rCatN := fun pins s σ H x y v u Q I rx ry h => by
  obtain ⟨l, b, xs, zs, e1, e2, h1, h2, hz, q⟩ := h
  exact op_cat pins s σ H x y v u Q I rx ry ⟨l, b, xs, zs, e1, e2, h1, h2, hz, fun p np => q p _ (.mk' np _)⟩
theorem call_list_ofN : CallR X (.type "list") (fun xs H Q => ∃ p ys, xs = [.ref p] ∧ (SqL X.K H p ys ∨ SqT X.K H p ys) ∧ ∀ l H', New H l (.lst ys) H' → Q (.ref l) H') := fun pins s σ H xs us Q I r h => by
  obtain ⟨p, ys, e, hq, q⟩ := h
  exact call_list_of pins s σ H xs us Q I r ⟨p, ys, e, hq, fun l nl => q l _ (.mk' nl _)⟩
end
section
variable {tn : List Str} {cp : List (Nat × Str)} {g : TG} {tif : TT} {te : TE} {σ0 : St} {Q : VK} {H1 : Hp} {K : PySem.W.Frag} {a : Addr} {xs : List V}
def PMap (S : St → Prop) (f : V → V) (xs : List V) (H1 : Hp) (i : Nat) (ys : List V) (σ : St) (H : Hp) : Prop := Same H1 H ∧ S σ ∧ ys = (xs.take i).map f
theorem cm_list (S : St → Prop) (f : V → V) (hn : xs.length ≤ 1000) (hS : SqL K H1 a xs) (h0 : S (stB tn cp σ0))
    (hs : ∀ D i σ H x, i < xs.length → x ∈ xs → xs[i]? = some x → Same H1 H → H1 D = none → H D = some (.lst ((xs.take i).map f)) → S σ → g x σ H fun σ2 H2 => tif σ2 H2 fun c H3 =>
      if c = true then te σ2 H3 fun y H4 => CStep D xs.length i (PMap S f xs H1) σ2 y H4 else CSkip D xs.length i (PMap S f xs H1) σ2 H3)
    (hd : ∀ D H, H1 D = none → Same H1 H → H D = some (.lst (xs.map f)) → Q (.ref D) H) : cBody tn cp g tif te σ0 Q (Itl K a) H1 := by
  refine cb_list (K := K) (a := a) (xs := xs) (fun D i ys σ H => PMap S f xs H1 i ys σ H) (small_line hn) (fun D hD => ⟨same_upd hD _, h0, rfl⟩) (fun D i ys σ H _ _ _ p => p.1.seq hS) ?_ ?_
  · rintro D i ys σ H x hD hi hx hH hl ⟨p1, p2, rfl⟩
    exact hs D i σ H x hi (List.mem_of_getElem? hx) hx p1 hD hH p2
  · rintro D ys σ H hD hH hl ⟨p1, p2, rfl⟩
    rw [List.take_of_length_le (Nat.le_refl _)] at hH
    exact hd D H hD p1 hH
theorem cm_step {S : St → Prop} {f : V → V} {D : Addr} {i : Nat} {x y : V} {σ2 : St} {H4 : Hp} (hn : xs.length ≤ 1000) (hx : xs[i]? = some x) (hD : H1 D = none) (h4 : H4 D = some (.lst ((xs.take i).map f))) (g4 : Same H1 H4) (s2 : S σ2) (e : y = f x) :
    CStep D xs.length i (PMap S f xs H1) σ2 y H4 := by
  have hi : i < xs.length := (List.getElem?_eq_some_iff.mp hx).1
  refine cstep (small_line hn) hi h4 (by rw [List.length_map, List.length_take]; omega) ⟨g4.wr hD _, s2, ?_⟩
  rw [List.take_add_one, hx, List.map_append, e]
  rfl
def PFil (S : St → Prop) (p : V → Bool) (f : V → V) (xs : List V) (H1 : Hp) (i : Nat) (ys : List V) (σ : St) (H : Hp) : Prop := Same H1 H ∧ S σ ∧ ys = ((xs.take i).filter p).map f
theorem cf_list (S : St → Prop) (p : V → Bool) (f : V → V) (hn : xs.length ≤ 1000) (hS : SqL K H1 a xs) (h0 : S (stB tn cp σ0))
    (hs : ∀ D i σ H x, i < xs.length → x ∈ xs → xs[i]? = some x → Same H1 H → H1 D = none → H D = some (.lst (((xs.take i).filter p).map f)) → S σ → g x σ H fun σ2 H2 => tif σ2 H2 fun c H3 =>
      if c = true then te σ2 H3 fun y H4 => CStep D xs.length i (PFil S p f xs H1) σ2 y H4 else CSkip D xs.length i (PFil S p f xs H1) σ2 H3)
    (hd : ∀ D H, H1 D = none → Same H1 H → H D = some (.lst ((xs.filter p).map f)) → Q (.ref D) H) : cBody tn cp g tif te σ0 Q (Itl K a) H1 := by
  refine cb_list (K := K) (a := a) (xs := xs) (fun D i ys σ H => PFil S p f xs H1 i ys σ H) (small_line hn) (fun D hD => ⟨same_upd hD _, h0, rfl⟩) (fun D i ys σ H _ _ _ p => p.1.seq hS) ?_ ?_
  · rintro D i ys σ H x hD hi hx hH hl ⟨p1, p2, rfl⟩
    exact hs D i σ H x hi (List.mem_of_getElem? hx) hx p1 hD hH p2
  · rintro D ys σ H hD hH hl ⟨p1, p2, rfl⟩
    rw [List.take_of_length_le (Nat.le_refl _)] at hH
    exact hd D H hD p1 hH
theorem cf_tup (S : St → Prop) (p : V → Bool) (f : V → V) (hn : xs.length ≤ 1000) (hS : SqT K H1 a xs) (h0 : S (stB tn cp σ0))
    (hs : ∀ D i σ H x, i < xs.length → x ∈ xs → xs[i]? = some x → Same H1 H → H1 D = none → H D = some (.lst (((xs.take i).filter p).map f)) → S σ → g x σ H fun σ2 H2 => tif σ2 H2 fun c H3 =>
      if c = true then te σ2 H3 fun y H4 => CStep D xs.length i (PFil S p f xs H1) σ2 y H4 else CSkip D xs.length i (PFil S p f xs H1) σ2 H3)
    (hd : ∀ D H, H1 D = none → Same H1 H → H D = some (.lst ((xs.filter p).map f)) → Q (.ref D) H) : cBody tn cp g tif te σ0 Q (Itt K a) H1 := by
  refine cb_tup (K := K) (a := a) (xs := xs) (fun D i ys σ H => PFil S p f xs H1 i ys σ H) (small_line hn) (fun D hD => ⟨same_upd hD _, h0, rfl⟩) (fun D i ys σ H _ _ _ p => p.1.seqT hS) ?_ ?_
  · rintro D i ys σ H x hD hi hx hH hl ⟨p1, p2, rfl⟩
    exact hs D i σ H x hi (List.mem_of_getElem? hx) hx p1 hD hH p2
  · rintro D ys σ H hD hH hl ⟨p1, p2, rfl⟩
    rw [List.take_of_length_le (Nat.le_refl _)] at hH
    exact hd D H hD p1 hH
theorem cf_step {S : St → Prop} {p : V → Bool} {f : V → V} {D : Addr} {i : Nat} {x y : V} {σ2 : St} {H4 : Hp} (hn : xs.length ≤ 1000) (hx : xs[i]? = some x) (hp : p x = true) (hD : H1 D = none) (h4 : H4 D = some (.lst (((xs.take i).filter p).map f))) (g4 : Same H1 H4) (s2 : S σ2) (e : y = f x) :
    CStep D xs.length i (PFil S p f xs H1) σ2 y H4 := by
  have hi : i < xs.length := (List.getElem?_eq_some_iff.mp hx).1
  refine cstep (small_line hn) hi h4 ?_ ⟨g4.wr hD _, s2, ?_⟩
  · rw [List.length_map]
    have := List.length_filter_le p (xs.take i)
    rw [List.length_take] at this
    omega
  · rw [List.take_add_one, hx, List.filter_append, List.map_append, e]
    simp [hp]
theorem cf_skip {S : St → Prop} {p : V → Bool} {f : V → V} {D : Addr} {i : Nat} {x : V} {σ2 : St} {H3 : Hp} (hx : xs[i]? = some x) (hp : p x = false) (h3 : H3 D = some (.lst (((xs.take i).filter p).map f))) (g3 : Same H1 H3) (s2 : S σ2) :
    CSkip D xs.length i (PFil S p f xs H1) σ2 H3 := by
  have hi : i < xs.length := (List.getElem?_eq_some_iff.mp hx).1
  refine cskip hi h3 ?_ ⟨g3, s2, ?_⟩
  · rw [List.length_map]
    have := List.length_filter_le p (xs.take i)
    rw [List.length_take] at this
    omega
  · rw [List.take_add_one, hx, List.filter_append]
    simp [hp]
end
end L2
set_option Elab.async false
set_option linter.all false
set_option maxRecDepth 100000
namespace SS
open PySem PySem.Spec PyProof.Rows L2
def SMALL : Str := "abcdefghijklmnopqrstuvwxyz"
def GREAT : Str := "ABCDEFGHIJKLMNOPQRSTUVWXYZ"
def FIGS : Str := "0123456789"
def signIn (c : Nat) (z : Str) : Bool := !(Builtin.Str.occurrences z ⟨#[c]⟩ 0 z.length 1).isEmpty
def nameB (z letters : Str) : Bool := match z.cps.toList with
  | [] => false
  | c :: r => decide (r.length ≤ 3) && signIn c letters && r.all fun d => signIn d FIGS
def isNm (x : V) (letters : Str) : Bool := match x with
  | .str z => nameB z letters
  | _ => false
def sp_lf : Sp := fun vs H Q _ => ∃ x letters k, vs = [x, .str letters] ∧ Kd H x k ∧ (∀ z, x = .str z → z.length ≤ 1000) ∧ ∀ H', Same H H' → Q (.bl (isNm x letters)) H'
def sp_pl (letters : Str) : Sp := fun vs H Q _ => ∃ x k, vs = [x] ∧ Kd H x k ∧ (∀ z, x = .str z → z.length ≤ 1000) ∧ ∀ H', Same H H' → Q (.bl (isNm x letters)) H'
structure Nam (z letters : Str) : Prop where
  ex : ∃ d ds, z.cps.toList = d :: ds ∧ d ∈ letters.cps.toList ∧ ds.length ≤ 3 ∧ ∀ x ∈ ds, x ∈ FIGS.cps.toList
def sp_name : Sp := fun vs H Q _ => ∃ (c : Int) (letters : Str), vs = [.int c, .str letters] ∧ 0 ≤ c ∧ letters.length = 26 ∧ ∀ z, Nam z letters → Q (.str z) H
def sp_drawn (letters : Str) : Sp := fun vs H Q _ => ∃ (c : Int), vs = [.int c] ∧ 0 ≤ c ∧ ∀ z, Nam z letters → Q (.str z) H
theorem in_small : ∀ c ∈ SMALL.cps.toList, signIn c SMALL = true := by decide +kernel
theorem in_great : ∀ c ∈ GREAT.cps.toList, signIn c GREAT = true := by decide +kernel
theorem in_figs : ∀ c ∈ FIGS.cps.toList, signIn c FIGS = true := by decide +kernel
theorem nam_is {z l : Str} (hl : ∀ c ∈ l.cps.toList, signIn c l = true) (h : Nam z l) : isNm (.str z) l = true := by
  obtain ⟨d, ds, e, h1, h2, h3⟩ := h.ex
  simp only [isNm, nameB, e]
  rw [hl d h1, decide_eq_true h2, Bool.true_and, Bool.true_and]
  exact List.all_eq_true.mpr fun x hx => in_figs x (h3 x hx)
theorem nam_len {z l : Str} (h : Nam z l) : 1 ≤ z.length ∧ z.length ≤ 4 := by
  obtain ⟨d, ds, e, h1, h2, h3⟩ := h.ex
  rw [str_len, e, List.length_cons]
  omega
theorem sign_in (c : Nat) (z : Str) : signIn c z = decide (c ∈ z.cps.toList) := PySem.StrLaws.found_one z c
def Thing (H : Hp) (y : V) : Prop := (∃ k, Kd H y k) ∧ ∀ z, y = .str z → z.length ≤ 1000
theorem Thing.same {H H' : Hp} {y : V} (h : Thing H y) (g : Same H H') : Thing H' y := ⟨let ⟨k, q⟩ := h.1; ⟨k, q.same g⟩, h.2⟩
theorem Thing.str {H : Hp} {z : Str} (h : z.length ≤ 1000) : Thing H (.str z) := ⟨⟨_, .str z⟩, fun z' e => by cases e; exact h⟩
theorem Thing.tup {H : Hp} {a : Addr} {xs : List V} (e : H a = some (.tup xs)) : Thing H (.ref a) := ⟨⟨_, .tup e⟩, fun z' e => by cases e⟩
def isName (x : V) : Bool := isNm x SMALL || isNm x GREAT
def sp_nm : Sp := fun vs H Q _ => ∃ x, vs = [x] ∧ Thing H x ∧ ∀ H', Same H H' → Q (.bl (isName x)) H'
theorem isName_str {x : V} (h : isName x = true) : ∃ z, x = .str z := by
  cases x with
  | str z => exact ⟨z, rfl⟩
  | _ => exact absurd h (by simp [isName, isNm])
end SS
set_option Elab.async false
set_option linter.all false
set_option maxRecDepth 100000
namespace SS
open PySem PySem.Spec PyProof.Rows L2
def sp_cell (K : PySem.W.Frag) : Sp := fun vs H Q _ => ∃ (a : Addr) (ns : List Int) (k : Int), vs = [.ref a, .int k] ∧ SqL K H a (ns.map V.int) ∧ 0 ≤ k ∧ ∀ c, Q (.int c) H
def sp_lawF (K : PySem.W.Frag) : Sp := fun vs H Q _ => ∃ (a : Addr) (ns : List Int), vs = [.ref a] ∧ SqL K H a (ns.map V.int) ∧ ns.length ≤ 63 ∧ ∀ H', Q (.bl true) H'
end SS
namespace SS
open PySem PySem.Spec PyProof.Rows L2
theorem cutL_map {α β : Type} (f : α → β) (xs : List α) (lo hi : Option Int) : cutL (xs.map f) lo hi = (cutL xs lo hi).map f := by
  unfold cutL
  rw [List.length_map, List.map_take, List.map_drop]
end SS
set_option Elab.async false
set_option linter.all false
set_option maxRecDepth 100000
namespace L2
open PySem PySem.Spec PyProof.Rows
section
variable {X : Cx} {k : Nat} {H : Hp} {a b : Addr} {xs ys : List V}
theorem eqV_str (a b : Str) : eqV (.str a) (.str b) = decide (a = b) := by
  by_cases h : a = b
  · subst h; simp [eqV]
  · simp [eqV, h]
theorem all_eqs : ∀ (xs ys : List Str), (xs.length == ys.length && (List.range xs.length).all fun j => eqV ((xs.map V.str).getD j .non) ((ys.map V.str).getD j .non)) = decide (xs = ys)
  | [], [] => rfl
  | [], y :: ys => by simp
  | x :: xs, [] => by simp
  | x :: xs, y :: ys => by
    have ih := all_eqs xs ys
    have e : (List.range (x :: xs).length).all (fun j => eqV (((x :: xs).map V.str).getD j .non) (((y :: ys).map V.str).getD j .non)) =
        (decide (x = y) && (List.range xs.length).all fun j => eqV ((xs.map V.str).getD j .non) ((ys.map V.str).getD j .non)) := by
      rw [List.length_cons, List.range_succ_eq_map, List.all_cons, List.all_map]
      exact congrArg (· && _) (eqV_str x y)
    rw [e]
    have e2 : ((x :: xs).length == (y :: ys).length) = (xs.length == ys.length) := by simp
    rw [e2]
    by_cases hx : x = y
    · subst hx
      rw [decide_eq_true rfl, Bool.true_and, ih]
      simp
    · rw [decide_eq_false hx, Bool.false_and, Bool.and_false]
      simp [hx]
theorem flats_str (xs : List Str) : (xs.map V.str).all flatV = true := by
  rw [List.all_eq_true]
  intro x hx
  obtain ⟨z, _, rfl⟩ := List.mem_map.mp hx
  rfl
def rEqS (K : PySem.W.Frag) : R2 := fun x y H Q => ∃ (a b : Addr) (xs ys : List Str), x = .ref a ∧ y = .ref b ∧ SqL K H a (xs.map V.str) ∧ SqL K H b (ys.map V.str) ∧ Q (.bl (decide (xs = ys))) H
theorem op_eqS (hu : X.A.units + 8 < cLine) : OpR X (compareOp .Eq) (rEqS X.K) := by
  intro pins s σ H x y v u Q I rx ry h
  obtain ⟨a, b, xs, ys, rfl, rfl, h1, h2, q⟩ := h
  have r := rcok_flats (X := X) h1 h2 (flats_str xs) (flats_str ys)
  rw [List.length_map, List.length_map, all_eqs] at r
  exact op_eqD (k := 1) (Nat.lt_of_le_of_lt (Nat.add_le_add_left (by decide) _) hu) pins s σ H _ _ v u Q I rx ry ⟨_, r, q⟩
def rNeS (K : PySem.W.Frag) : R2 := fun x y H Q => ∃ (a b : Addr) (xs ys : List Str), x = .ref a ∧ y = .ref b ∧ SqL K H a (xs.map V.str) ∧ SqL K H b (ys.map V.str) ∧ Q (.bl (!decide (xs = ys))) H
theorem op_neS (hu : X.A.units + 8 < cLine) : OpR X (compareOp .NotEq) (rNeS X.K) := by
  intro pins s σ H x y v u Q I rx ry h
  obtain ⟨a, b, xs, ys, rfl, rfl, h1, h2, q⟩ := h
  cases (show v = Value.ref a from rx)
  cases (show u = Value.ref b from ry)
  obtain ⟨us, r1, p1, _⟩ := I.list h1
  obtain ⟨vs, r2, p2, _⟩ := I.list h2
  have l1 := r1.length
  have l2 := r2.length
  have hu' : X.A.units < cLine := by omega
  by_cases hl : us.length = vs.length
  · have z := SeqAt.RcNeAt.lists (A := X.A) (s := s) (e := fun j => eqV ((xs.map V.str).getD j .non) ((ys.map V.str).getD j .non)) p1.isList p2.isList (by rw [List.size_toArray, List.size_toArray]; exact hl) hu' fun j h1 h2 => by
      rw [List.size_toArray] at h1 h2
      obtain ⟨g1, q1⟩ := r1.at h1
      obtain ⟨g2, q2⟩ := r2.at h2
      have e1 : (xs.map V.str).getD j .non = (xs.map V.str)[j] := by rw [List.getD_eq_getElem?_getD, List.getElem?_eq_getElem g1]; rfl
      have e2 : (ys.map V.str).getD j .non = (ys.map V.str)[j] := by rw [List.getD_eq_getElem?_getD, List.getElem?_eq_getElem g2]; rfl
      rw [e1, e2]
      refine eqAt_V (by simpa using q1) (by simpa using q2) ?_ ?_
      · exact List.all_eq_true.mp (flats_str xs) _ (List.getElem_mem g1)
      · exact List.all_eq_true.mp (flats_str ys) _ (List.getElem_mem g2)
    have e := all_eqs xs ys
    rw [List.length_map] at l1 l2
    rw [show (xs.length == ys.length) = true by simp; omega, Bool.true_and] at e
    rw [List.size_toArray, ← l1, e] at z
    exact z _ _ _ _ ⟨.bl (!decide (xs = ys)), H, I, rfl, q⟩
  · have z := SeqAt.RcNeAt.lists_lengths (A := X.A) (s := s) p1.isList p2.isList (by rw [List.size_toArray, List.size_toArray]; simpa using hl) hu'
    have e : decide (xs = ys) = false := decide_eq_false fun h => by rw [h, List.length_map] at l1; rw [List.length_map] at l2; omega
    rw [e] at q
    exact z _ _ _ _ ⟨.bl true, H, I, rfl, q⟩
def rSlTN (K : PySem.W.Frag) : V → Option Int → Option Int → Hp → VK → Prop := fun x lo hi H Q => ∃ a xs, x = .ref a ∧ SqT K H a xs ∧
  ¬ (HT.sIx xs.length 0 lo = 0 ∧ HT.sIx xs.length xs.length hi = xs.length) ∧ ∀ p H', New H p (.tup (cutL xs lo hi)) H' → Q (.ref p) H'
theorem sl_tupN : SlR X (rSlTN X.K) := fun pins s σ H x v vl vu lo hi sl Q I rx hs pl pu h => by
  obtain ⟨a, xs, e, hx, hw, q⟩ := h
  exact sl_tup pins s σ H x v vl vu lo hi sl Q I rx hs pl pu ⟨a, xs, e, hx, hw, fun p np => q p _ (.mk' np _)⟩
def rStrB (f : Str → Bool) : V → List V → Hp → VK → Prop := fun x vs H Q => ∃ z, x = .str z ∧ vs = [] ∧ Q (.bl (f z)) H
theorem mt_islower : MtR X "str.islower" (rStrB Txt.islower) := by
  intro pins s σ H x xs v us Q I rx rs h
  obtain ⟨z, rfl, rfl, q⟩ := h
  obtain ⟨t, rfl⟩ := rx
  cases rs
  exact SC.islower ⟨.bl _, H, I, rfl, q⟩
theorem mt_isupper : MtR X "str.isupper" (rStrB Txt.isupper) := by
  intro pins s σ H x xs v us Q I rx rs h
  obtain ⟨z, rfl, rfl, q⟩ := h
  obtain ⟨t, rfl⟩ := rx
  cases rs
  exact SC.isupper ⟨.bl _, H, I, rfl, q⟩
end
section
variable {K : PySem.W.Frag} {h : Heap} {mg : Str → Option Value}
theorem glt_mk {x : Str} {p : Addr} {od : Option Addr} {its : Array Value} {n : Nat} {sl : Array (Option Value)} {xs : List V} (X : K.In h) (G : h.Ns mainGlobals mg) (a : PySem.W.nsIn K mainGlobals x = some (some (.ref p)))
    (l : K.lookup p = some ⟨.type "tuple", od, .seq its n, sl⟩) (z : its.size ≤ sizeLine) (r : Vals xs its.toList) : ∃ q, GlV mg x (.ref q) ∧ ∀ H, SqT K H q xs :=
  ⟨p, ⟨_, PySem.W.mg_of X G a, rfl⟩, fun H => .inr ⟨_, its, n, l, rfl, rfl, z, r⟩⟩
end
section
variable {X : Cx} (K : PySem.W.Frag)
theorem op_in_seqK (h : X.K = K := by rfl) : OpR X (compareOp .In) (rIn K false) := h ▸ op_in_seq
theorem op_notIn_seqK (h : X.K = K := by rfl) : OpR X (compareOp .NotIn) (rIn K true) := h ▸ op_notIn_seq
theorem ix_listK (h : X.K = K := by rfl) : IxR X (rIxL K) := h ▸ ix_list
theorem ix_tupK (h : X.K = K := by rfl) : IxR X (rIxT K) := h ▸ ix_tup
theorem sl_listNK (h : X.K = K := by rfl) : SlR X (rSlLN K) := h ▸ sl_listN
theorem sl_tupNK (h : X.K = K := by rfl) : SlR X (rSlTN K) := h ▸ sl_tupN
def rLen : List V → Hp → VK → Prop := fun xs H Q => ∃ p ys, xs = [.ref p] ∧ (SqL K H p ys ∨ SqT K H p ys) ∧ Q (.int (List.length ys)) H
theorem call_len_seqK (h : X.K = K := by rfl) : CallR X (.builtin "len") (rLen K) := h ▸ call_len_seq
def rAll : List V → Hp → VK → Prop := fun xs H Q => ∃ (p : Addr) (bs : List Bool), xs = [.ref p] ∧ SqL K H p (bs.map V.bl) ∧ Q (.bl (bs.all id)) H
theorem call_all_blK (hc : X.calm = true) (h : X.K = K := by rfl) : CallR X (.builtin "all") (rAll K) := h ▸ call_all_bl hc
def rAny : List V → Hp → VK → Prop := fun xs H Q => ∃ (p : Addr) (bs : List Bool), xs = [.ref p] ∧ SqL K H p (bs.map V.bl) ∧ Q (.bl (bs.any id)) H
def rSum : List V → Hp → VK → Prop := fun xs H Q => ∃ (p : Addr) (ns : List Int), xs = [.ref p] ∧ SqL K H p (ns.map V.int) ∧ Q (.int ns.sum) H
theorem call_sum_intK (hc : X.calm = true) (h : X.K = K := by rfl) : CallR X (.builtin "sum") (rSum K) := h ▸ call_sum_int hc
def rListOf : List V → Hp → VK → Prop := fun xs H Q => ∃ p ys, xs = [.ref p] ∧ (SqL K H p ys ∨ SqT K H p ys) ∧ ∀ l H', New H l (.lst ys) H' → Q (.ref l) H'
theorem call_list_ofNK (h : X.K = K := by rfl) : CallR X (.type "list") (rListOf K) := h ▸ call_list_ofN
theorem op_eqSK (hu : X.A.units + 8 < cLine) (h : X.K = K := by rfl) : OpR X (compareOp .Eq) (rEqS K) := h ▸ op_eqS hu
theorem op_neSK (hu : X.A.units + 8 < cLine) (h : X.K = K := by rfl) : OpR X (compareOp .NotEq) (rNeS K) := h ▸ op_neS hu
theorem pi_listK {tg l : Expr} {tl : TE} (hl : PE X l tl) (h : X.K = K := by rfl) : PI X tg l (iList K tl) := h ▸ pi_list hl
theorem pi_tupK {tg l : Expr} {tl : TE} (hl : PE X l tl) (h : X.K = K := by rfl) : PI X tg l (iTup K tl) := h ▸ pi_tup hl
variable {o e : Expr} {es : List Expr} {to : TE} {t : TA} {name : Str} {apos cpos : Pos} {T id : String} {r : V → List V → Hp → VK → Prop}
theorem pe_bm0K (pa : PlainAttrs T) (slot : Slot T name id) (hty : typeOf (.builtin id) = pure (.type "method_descriptor")) (hm : MtR X id r) (ho : PE X o to) (h : X.K = K := by rfl)
    (hbase : attributeBase o name X.env (eval o X.env) = eval o X.env := by rfl) (hline : (apos.endLine == cpos.line) = true := by rfl) : PE X (.Call (.Attribute o name apos) [] [] cpos) (tBM0 K T r to) := h ▸ pe_bm0 pa slot hty hm ho hbase hline
theorem pe_bmK (pa : PlainAttrs T) (slot : Slot T name id) (hty : typeOf (.builtin id) = pure (.type "method_descriptor")) (hm : MtR X id r) (ho : PE X o to) (ha : PA X (e :: es) t) (h : X.K = K := by rfl)
    (hbase : attributeBase o name X.env (eval o X.env) = eval o X.env := by rfl)
    (hfew : ((backTo cpos (starEach (e :: es) X.env)).all (fun x => !x.1) && (backToKw cpos (keywordEach [] X.env)).all (fun x => x.1.isSome)
      && decide ((e :: es).length + ([] : List Keyword).length + (if ([] : List Keyword).isEmpty then 0 else 1) < 30)) = true := by rfl)
    (hline : (apos.endLine == cpos.line) = true := by rfl) (h1 : notStar e = true := by rfl) (h2 : es.all notStar = true := by rfl) :
    PE X (.Call (.Attribute o name apos) (e :: es) [] cpos) (tBM K T r to t) := h ▸ pe_bm pa slot hty hm ho ha hbase hfew hline (star_cons h1) (star_any h2)
end
section
variable {X : Cx} {e : Expr} {t : TT}
def tCutT (t : TT) : TT := fun σ H Q => ∃ Pv : Bool → Hp → Prop, t σ H Pv ∧ ∀ b H', Pv b H' → Q b H'
theorem pt_cut (h : PT X e t) : PT X e (tCutT t) := by
  intro pins s σ H Q I q
  obtain ⟨Pv, q1, q2⟩ := q
  exact thn (h pins s σ H Pv I q1) fun b s1 ⟨H1, I1, p1⟩ => ⟨H1, I1, q2 b H1 p1⟩
theorem cutT_by {Q : Bool → Hp → Prop} {σ : St} {H : Hp} (Pv : Bool → Hp → Prop) (h1 : t σ H Pv) (h2 : ∀ b H', Pv b H' → Q b H') : tCutT t σ H Q := ⟨Pv, h1, h2⟩
end
end L2
set_option Elab.async false
set_option linter.all false
set_option maxRecDepth 100000
namespace SS
open PySem PySem.Spec PyProof.Rows L2
inductive Sy where
  | bare (w n m : Str)
  | neg (s : Sy)
  | two (w : Str) (s t : Sy)
  | qu (w n : Str) (s : Sy)
def rowWords : List Str := ["ahead", "next"]
def treeWords : List Str := ["left", "right", "above"]
def bareWords : List Str := ["in", "same", "within", "ahead", "next", "left", "right", "above"]
def Sy.depth : Sy → Nat
  | .bare _ _ _ => 1
  | .neg s => s.depth + 1
  | .two _ s t => max s.depth t.depth + 1
  | .qu _ _ s => s.depth + 1
def Sy.parts : Sy → Nat
  | .bare _ _ _ => 1
  | .neg s => s.parts + 1
  | .two _ s t => s.parts + t.parts + 1
  | .qu _ _ s => s.parts + 1
theorem Sy.depth_pos : ∀ s : Sy, 1 ≤ s.depth
  | .bare _ _ _ => Nat.le_refl _
  | .neg s => by unfold Sy.depth; omega
  | .two _ s t => by unfold Sy.depth; omega
  | .qu _ _ s => by unfold Sy.depth; omega
inductive Rep (H : Hp) : V → Sy → Prop where
  | bare {a : Addr} {w n m : Str} (hw : w ∈ bareWords) (e : H a = some (.tup [.str w, .str n, .str m])) : Rep H (.ref a) (.bare w n m)
  | neg {a : Addr} {x : V} {s : Sy} (e : H a = some (.tup [.str "not", x])) (h : Rep H x s) : Rep H (.ref a) (.neg s)
  | two {a : Addr} {w : Str} {x y : V} {s t : Sy} (hw : w ∈ (["and", "or"] : List Str)) (e : H a = some (.tup [.str w, x, y])) (h1 : Rep H x s) (h2 : Rep H y t) : Rep H (.ref a) (.two w s t)
  | qu {a : Addr} {w n : Str} {x : V} {s : Sy} (hw : w ∈ (["some", "all"] : List Str)) (e : H a = some (.tup [.str w, .str n, x])) (h : Rep H x s) : Rep H (.ref a) (.qu w n s)
theorem Rep.same {H H' : Hp} {v : V} {s : Sy} (r : Rep H v s) (g : Same H H') : Rep H' v s := by
  induction r with
  | bare hw e => exact .bare hw (g _ _ e)
  | neg e _ ih => exact .neg (g _ _ e) ih
  | two hw e _ _ ih1 ih2 => exact .two hw (g _ _ e) ih1 ih2
  | qu hw e _ ih => exact .qu hw (g _ _ e) ih
theorem Rep.tup {H : Hp} {v : V} {s : Sy} (r : Rep H v s) : ∃ a xs, v = .ref a ∧ H a = some (.tup xs) := by
  cases r with
  | bare hw e => exact ⟨_, _, rfl, e⟩
  | neg e _ => exact ⟨_, _, rfl, e⟩
  | two hw e _ _ => exact ⟨_, _, rfl, e⟩
  | qu hw e _ => exact ⟨_, _, rfl, e⟩
theorem bare_not : ∀ w ∈ bareWords, ¬ w = ("not" : Str) := by decide +kernel
theorem bare_tell : ∀ w ∈ bareWords, inV (.str w) [.str "some", .str "all"] = false := by decide +kernel
theorem bare_join : ∀ w ∈ bareWords, inV (.str w) [.str "and", .str "or"] = false := by decide +kernel
theorem join_not : ∀ w ∈ (["and", "or"] : List Str), ¬ w = ("not" : Str) := by decide +kernel
theorem join_join : ∀ w ∈ (["and", "or"] : List Str), inV (.str w) [.str "and", .str "or"] = true := by decide +kernel
theorem tell_not : ∀ w ∈ (["some", "all"] : List Str), ¬ w = ("not" : Str) := by decide +kernel
theorem tell_tell : ∀ w ∈ (["some", "all"] : List Str), inV (.str w) [.str "some", .str "all"] = true := by decide +kernel
theorem tell_join : ∀ w ∈ (["some", "all"] : List Str), inV (.str w) [.str "and", .str "or"] = false := by decide +kernel
theorem inV_strs (z : Str) (l : List Str) : inV (.str z) (l.map V.str) = decide (z ∈ l) := by
  induction l with
  | nil => rfl
  | cons y r ih =>
    have e : inV (.str z) ((y :: r).map V.str) = (eqV (.str y) (.str z) || inV (.str z) (r.map V.str)) := rfl
    rw [e, ih, eqV_str]
    by_cases h : z = y
    · subst h; simp
    · have h' : ¬ y = z := fun q => h q.symm
      simp [h, h']
end SS
set_option Elab.async false
set_option linter.all false
set_option maxRecDepth 100000
namespace SS
open PySem PySem.Spec PyProof.Rows L2
def isT (H : Hp) (x : V) : Bool := match x with
  | .ref a => match H a with
    | some (.tup _) => true
    | _ => false
  | _ => false
theorem Kd.isT {H : Hp} {x : V} {k : String} (h : Kd H x k) : subT k "tuple" = isT H x := by
  cases h with
  | lst e => simp only [SS.isT, e]; decide
  | tup e => simp only [SS.isT, e]; decide
  | dK e => simp only [SS.isT, e]; decide
  | _ => rfl
def sp_inner : Sp := fun vs H Q _ => ∃ a xs, vs = [.ref a] ∧ H a = some (.tup xs) ∧ xs.length ≤ 1000 ∧ (∀ y ∈ xs, ∃ k, Kd H y k) ∧ ∀ D H', H D = none → Same H H' → H' D = some (.lst (xs.filter (isT H))) → Q (.ref D) H'
def Sy.inner : Sy → List Sy
  | .bare _ _ _ => []
  | .neg s => [s]
  | .two _ s t => [s, t]
  | .qu _ _ s => [s]
theorem Rep.kd {H : Hp} {v : V} {s : Sy} (r : Rep H v s) : Kd H v "tuple" := by
  obtain ⟨a, xs, rfl, e⟩ := r.tup
  exact .tup e
theorem Rep.isT {H : Hp} {v : V} {s : Sy} (r : Rep H v s) : isT H v = true := by
  obtain ⟨a, xs, rfl, e⟩ := r.tup
  simp only [SS.isT, e]
theorem Rep.items {H : Hp} {v : V} {s : Sy} (r : Rep H v s) : ∃ a xs, v = .ref a ∧ H a = some (.tup xs) ∧ xs.length ≤ 3 ∧ (∀ y ∈ xs, ∃ k, Kd H y k) ∧ Paired (Rep H) (xs.filter (SS.isT H)) s.inner := by
  cases r with
  | bare hw e =>
    refine ⟨_, _, rfl, e, Nat.le_refl _, fun y hy => ?_, .nil⟩
    simp only [List.mem_cons, List.not_mem_nil, or_false] at hy
    rcases hy with rfl | rfl | rfl <;> exact ⟨_, .str _⟩
  | neg e h =>
    refine ⟨_, _, rfl, e, by simp, fun y hy => ?_, ?_⟩
    · simp only [List.mem_cons, List.not_mem_nil, or_false] at hy
      rcases hy with rfl | rfl
      · exact ⟨_, .str _⟩
      · exact ⟨_, h.kd⟩
    · rw [List.filter_cons_of_neg (by simp [SS.isT]), List.filter_cons_of_pos h.isT]
      exact .cons h .nil
  | two hw e h1 h2 =>
    refine ⟨_, _, rfl, e, by simp, fun y hy => ?_, ?_⟩
    · simp only [List.mem_cons, List.not_mem_nil, or_false] at hy
      rcases hy with rfl | rfl | rfl
      · exact ⟨_, .str _⟩
      · exact ⟨_, h1.kd⟩
      · exact ⟨_, h2.kd⟩
    · rw [List.filter_cons_of_neg (by simp [SS.isT]), List.filter_cons_of_pos h1.isT, List.filter_cons_of_pos h2.isT]
      exact .cons h1 (.cons h2 .nil)
  | qu hw e h =>
    refine ⟨_, _, rfl, e, by simp, fun y hy => ?_, ?_⟩
    · simp only [List.mem_cons, List.not_mem_nil, or_false] at hy
      rcases hy with rfl | rfl | rfl
      · exact ⟨_, .str _⟩
      · exact ⟨_, .str _⟩
      · exact ⟨_, h.kd⟩
    · rw [List.filter_cons_of_neg (by simp [SS.isT]), List.filter_cons_of_neg (by simp [SS.isT]), List.filter_cons_of_pos h.isT]
      exact .cons h .nil
end SS
namespace SS
open PySem PySem.Spec PyProof.Rows L2
theorem Paired.at {α β : Type} {R : α → β → Prop} : ∀ {xs : List α} {ys : List β} {i : Nat} {x : α}, Paired R xs ys → xs[i]? = some x → ∃ y, ys[i]? = some y ∧ R x y
  | _, _, _, _, .nil, h => by simp at h
  | _, _, 0, _, .cons h _, e => by simp at e; subst e; exact ⟨_, rfl, h⟩
  | _, _, i + 1, _, .cons _ h, e => by simp only [List.getElem?_cons_succ] at e ⊢; exact Paired.at h e
theorem Paired.len {α β : Type} {R : α → β → Prop} : ∀ {xs : List α} {ys : List β}, Paired R xs ys → xs.length = ys.length
  | _, _, .nil => rfl
  | _, _, .cons _ h => by rw [List.length_cons, List.length_cons, Paired.len h]
theorem inner_depth {s t : Sy} (h : t ∈ s.inner) : t.depth < s.depth ∧ t.parts < s.parts := by
  cases s with
  | bare w n m => exact nomatch h
  | neg s => rw [List.mem_singleton.mp h]; exact ⟨Nat.lt_succ_self _, Nat.lt_succ_self _⟩
  | two w s1 s2 =>
    have h : t = s1 ∨ t = s2 := by simpa [Sy.inner] using h
    have e1 : (Sy.two w s1 s2).depth = max s1.depth s2.depth + 1 := rfl
    have e2 : (Sy.two w s1 s2).parts = s1.parts + s2.parts + 1 := rfl
    rcases h with rfl | rfl <;> (rw [e1, e2]; omega)
  | qu w n s => rw [List.mem_singleton.mp h]; exact ⟨Nat.lt_succ_self _, Nat.lt_succ_self _⟩
end SS
namespace SS
open PySem PySem.Spec PyProof.Rows L2
theorem slice_not {α : Type} {xs : List α} (h : 1 ≤ xs.length) : ¬ (HT.sIx xs.length 0 (some 1) = 0 ∧ HT.sIx xs.length xs.length none = xs.length) := fun z => by
  have e : HT.sIx xs.length 0 (some ((1 : Nat) : Int)) = min 1 xs.length := HT.sIx_nat ..
  have e' : HT.sIx xs.length 0 (some 1) = min 1 xs.length := e
  rw [e'] at z
  omega
end SS
set_option Elab.async false
set_option linter.all false
set_option maxRecDepth 100000
namespace SS
open PySem PySem.Spec PyProof.Rows L2
theorem low_small : ∀ c ∈ SMALL.cps.toList, (Unicode.isLower c && !Unicode.isUpper c && !Unicode.isTitle c) = true := by decide +kernel
theorem low_great : ∀ c ∈ GREAT.cps.toList, (!Unicode.isLower c && Unicode.isUpper c && !Unicode.isTitle c) = true := by decide +kernel
theorem low_figs : ∀ c ∈ FIGS.cps.toList, (!Unicode.isLower c && !Unicode.isUpper c && !Unicode.isTitle c) = true := by decide +kernel
def isPl (z : Str) : Bool := isNm (.str z) SMALL
def isSt (z : Str) : Bool := isNm (.str z) GREAT
theorem nm_ex {z l : Str} (h : isNm (.str z) l = true) : ∃ c r, z.cps.toList = c :: r ∧ r.length ≤ 3 ∧ c ∈ l.cps.toList ∧ ∀ d ∈ r, d ∈ FIGS.cps.toList := by
  simp only [isNm, nameB] at h
  split at h
  · cases h
  · rename_i c r e
    rw [Bool.and_eq_true, Bool.and_eq_true, sign_in, decide_eq_true_eq, decide_eq_true_eq, List.all_eq_true] at h
    exact ⟨c, r, e, h.1.1, h.1.2, fun d hd => by have := h.2 d hd; rw [sign_in, decide_eq_true_eq] at this; exact this⟩
theorem any_list {z : Str} {p : Nat → Bool} : z.cps.any p = z.cps.toList.any p := by simp
theorem figs_none {p : Nat → Bool} {r : List Nat} (h : ∀ d ∈ r, d ∈ FIGS.cps.toList) (hp : ∀ d ∈ FIGS.cps.toList, p d = false) : r.any p = false := by
  rw [List.any_eq_false]
  intro d hd
  rw [hp d (h d hd)]
  decide
theorem lower_pl {z : Str} (h : isPl z = true) : Txt.islower z = true ∧ Txt.isupper z = false := by
  obtain ⟨c, r, e, _, hc, hr⟩ := nm_ex h
  have k := low_small c hc
  rw [Bool.and_eq_true, Bool.and_eq_true] at k
  have f1 : r.any Unicode.isUpper = false := figs_none hr fun d hd => by have := low_figs d hd; revert this; cases Unicode.isUpper d <;> simp
  have f2 : (r.any fun c => Unicode.isUpper c || Unicode.isTitle c) = false := figs_none hr fun d hd => by have := low_figs d hd; revert this; cases Unicode.isUpper d <;> cases Unicode.isTitle d <;> simp
  have u : Unicode.isUpper c = false := by simpa using k.1.2
  have t : Unicode.isTitle c = false := by simpa using k.2
  unfold Txt.islower Txt.isupper
  rw [any_list, any_list, any_list, any_list, e, List.any_cons, List.any_cons, List.any_cons, List.any_cons, f1, f2, u, t, k.1.1]
  exact ⟨rfl, rfl⟩
theorem lower_st {z : Str} (h : isSt z = true) : Txt.islower z = false ∧ Txt.isupper z = true := by
  obtain ⟨c, r, e, _, hc, hr⟩ := nm_ex h
  have k := low_great c hc
  rw [Bool.and_eq_true, Bool.and_eq_true] at k
  have f1 : r.any Unicode.isLower = false := figs_none hr fun d hd => by have := low_figs d hd; revert this; cases Unicode.isLower d <;> simp
  have f2 : (r.any fun c => Unicode.isLower c || Unicode.isTitle c) = false := figs_none hr fun d hd => by have := low_figs d hd; revert this; cases Unicode.isLower d <;> cases Unicode.isTitle d <;> simp
  have u : Unicode.isLower c = false := by simpa using k.1.1
  have t : Unicode.isTitle c = false := by simpa using k.2
  unfold Txt.islower Txt.isupper
  rw [any_list, any_list, any_list, any_list, e, List.any_cons, List.any_cons, List.any_cons, List.any_cons, f1, f2, u, t, k.1.2]
  exact ⟨rfl, rfl⟩
theorem name_cases {z : Str} (h : isName (.str z) = true) : isPl z = true ∨ isSt z = true := by
  unfold isName at h
  rw [Bool.or_eq_true] at h
  exact h
theorem pl_st {z : Str} (h : isPl z = true) : isSt z = false := by
  cases e : isSt z with
  | false => rfl
  | true => have := (lower_pl h).1; rw [(lower_st e).1] at this; cases this
theorem islower_eq {z : Str} (h : isName (.str z) = true) : Txt.islower z = isPl z ∧ Txt.isupper z = isSt z := by
  rcases name_cases h with p | s
  · rw [p, pl_st p]; exact lower_pl p
  · have : isPl z = false := by
      cases e : isPl z with
      | false => rfl
      | true => rw [pl_st e] at s; cases s
    rw [s, this]; exact lower_st s
theorem name_of_pl {z : Str} (h : isPl z = true) : isName (.str z) = true := by unfold isName; rw [show isNm (.str z) SMALL = true from h, Bool.true_or]
theorem name_of_st {z : Str} (h : isSt z = true) : isName (.str z) = true := by unfold isName; rw [show isNm (.str z) GREAT = true from h, Bool.or_true]
structure Names (tl : List Str) : Prop where
  nd : tl.Nodup
  nm : ∀ z ∈ tl, isName (.str z) = true
  len : ∀ z ∈ tl, z.length ≤ 4
theorem Names.snoc {tl : List Str} {z : Str} (h : Names tl) (h1 : isName (.str z) = true) (h2 : z.length ≤ 4) (h3 : z ∉ tl) : Names (tl ++ [z]) := by
  refine ⟨nd_snoc h.nd h3, fun y hy => ?_, fun y hy => ?_⟩
  · rcases List.mem_append.mp hy with hy | hy
    · exact h.nm y hy
    · rw [List.mem_singleton.mp hy]; exact h1
  · rcases List.mem_append.mp hy with hy | hy
    · exact h.len y hy
    · rw [List.mem_singleton.mp hy]; exact h2
def sp_new : Sp := fun vs H Q _ => ∃ (c : Int) (b : Addr) (tl : List Str), vs = [.int c, .ref b] ∧ 0 ≤ c ∧ H b = some (.lst (tl.map V.str)) ∧ tl.length ≤ 4 ∧ ∀ z H', Same H H' → isName (.str z) = true → z.length ≤ 4 → z ∉ tl → Q (.str z) H'
def placeWords (tb : Bool) : List Str := if tb then ["same", "left", "right", "above"] else ["same", "ahead", "next", "ahead"]
def okBare (tb : Bool) (known : List Str) (w n m : Str) : Prop := n ∈ known ∧ m ∈ known ∧ ((w = "in" ∧ isPl n = true ∧ isSt m = true) ∨ (w = "within" ∧ isSt n = true ∧ isSt m = true) ∨ (w ∈ placeWords tb ∧ isPl n = true ∧ isPl m = true))
def Good (tb : Bool) (mx : Nat) : List Str → Sy → Prop
  | known, .bare w n m => okBare tb known w n m
  | known, .neg s => Good tb mx known s
  | known, .two w s t => w ∈ (["and", "or"] : List Str) ∧ Good tb mx known s ∧ Good tb mx known t
  | known, .qu w n s => w ∈ (["some", "all"] : List Str) ∧ isName (.str n) = true ∧ n.length ≤ 4 ∧ n ∉ known ∧ known.length < mx ∧ Good tb mx (known ++ [n]) s
def mxOf (tb : Bool) : Nat := if tb then 3 else 4
def sp_lbare : Sp := fun vs H Q _ => ∃ (c : Int) (b : Addr) (tl : List Str) (tb : Bool), vs = [.int c, .ref b, .bl tb] ∧ 0 ≤ c ∧ H b = some (.lst (tl.map V.str)) ∧ tl.length ≤ 4 ∧ Names tl ∧
  ∀ v s H', Same H H' → Rep H' v s → Good tb (mxOf tb) tl s → s.parts ≤ 2 → s.depth ≤ 2 → (tl ≠ [] → s.depth ≤ 1) → Q v H'
def sp_lsaying (n : Nat) : Sp := fun vs H Q _ => ∃ (a b : Addr) (cs : List Int) (tl : List Str) (dp : Nat) (tb : Bool), vs = [.ref a, .ref b, .int dp, .bl tb] ∧ dp < n ∧ H a = some (.lst (cs.map V.int)) ∧ cs.length ≤ 100 ∧ (∀ c ∈ cs, 0 ≤ c) ∧
  H b = some (.lst (tl.map V.str)) ∧ Names tl ∧ tl.length ≤ mxOf tb ∧ 1 ≤ dp ∧ (2 ≤ dp ∨ tl ≠ []) ∧ ∀ v s H', Same H H' → Rep H' v s → Good tb (mxOf tb) tl s → s.depth ≤ dp → s.parts ≤ 3 * cs.length + 2 → Q v H'
theorem words_bare (tb : Bool) : ∀ w ∈ placeWords tb, w ∈ bareWords := by cases tb <;> decide +kernel
theorem one_left {tl cs : List Str} (hn : tl.length ≤ 4) (hc : cs.Nodup) (h5 : 5 ≤ cs.length) : ∃ z ∈ cs, z ∉ tl := by
  refine Classical.byContradiction fun h => ?_
  have sub : cs ⊆ tl := fun z hz => Classical.byContradiction fun q => h ⟨z, hz, q⟩
  have := hc.length_le_of_subset sub
  omega
end SS
namespace SS
open PySem PySem.Spec PyProof.Rows L2
theorem atI_names {l : List Str} (h : l ≠ []) (i : Int) : ∃ z, atI (l.map V.str) (i % ((l.map V.str).length : Int)) = some (.str z) ∧ z ∈ l := by
  obtain ⟨v, hv, mv⟩ := atI_mod (i := i) (xs := l.map V.str) (n := (l.map V.str).length) rfl (by rw [List.length_map]; exact List.length_pos_iff.mpr h)
  obtain ⟨z, mz, rfl⟩ := List.mem_map.mp mv
  exact ⟨z, hv, mz⟩
theorem len_pos {l : List Str} (h : l ≠ []) : (0 : Int) < ((l.map V.str).length : Int) := by
  have := List.length_pos_iff.mpr h
  rw [List.length_map]
  omega
end SS
namespace SS
open PySem PySem.Spec PyProof.Rows L2
theorem cut_ints_from (ns : List Int) (k : Nat) : cutL (ns.map V.int) (some (k : Int)) none = (ns.drop k).map V.int := by rw [cutL_from, List.map_drop]
theorem cut_ints_to (ns : List Int) (k : Nat) : cutL (ns.map V.int) none (some (k : Int)) = (ns.take k).map V.int := by rw [cutL_to, List.map_take]
theorem depth_neg (s : Sy) : (Sy.neg s).depth = s.depth + 1 ∧ (Sy.neg s).parts = s.parts + 1 := ⟨rfl, rfl⟩
theorem depth_two (w : Str) (s t : Sy) : (Sy.two w s t).depth = max s.depth t.depth + 1 ∧ (Sy.two w s t).parts = s.parts + t.parts + 1 := ⟨rfl, rfl⟩
theorem depth_qu (w n : Str) (s : Sy) : (Sy.qu w n s).depth = s.depth + 1 ∧ (Sy.qu w n s).parts = s.parts + 1 := ⟨rfl, rfl⟩
end SS
set_option Elab.async false
set_option linter.all false
set_option maxRecDepth 100000
namespace L2
open PySem PySem.Spec PyProof.Rows
section
variable {P : Program} {w : World} {A : Around} {E : Value → Shared → Prop} {s : Shared}
theorem nx_tup_item {j t : Addr} {k : Nat} {its : Array Value} {y : Value} {Q : Value → Shared → Prop} (st : s.heap.IsTupleIter j t k) (tp : s.heap.IsTuple t its) (hy : its[k]? = some y)
    (q : ∀ h', h'.IsTupleIter j t (k + 1) → Heap.SameBut j s.heap h' → Q y { s with heap := h' }) : wpAny (model P w) A (Builtin.SmallTypes.nextOf (.ref j)) Q E s := by
  obtain ⟨oj, gj, cj, dj⟩ := id st
  obtain ⟨ot, gt, _, nt, dt⟩ := tp
  unfold Builtin.SmallTypes.nextOf
  refine wpAny_bind (wpAny_callSpecial?_slot (name := Str.ofString "__next__") st.typeIs F.slot_tuple_iterator_next (wpAny_call_entry F.slot_tuple_iterator_next st.typeIs F.entry_tuple_iterator_next ?_ (F.args_tuple_iterator_next_1 _)))
  show wpAny _ _ (field (.ref j) 0 >>= _) _ _ s
  refine wpAny_bind (wpAny_field gj dj (x := .ref t) rfl ?_)
  show wpAny _ _ (if (Value.ref t == Value.none) = true then _ else _) _ _ s
  rw [if_neg (show ¬ (Value.ref t == Value.none) = true from Bool.false_ne_true)]
  show wpAny _ _ (field (.ref j) 1 >>= _) _ _ s
  refine wpAny_bind (wpAny_field gj dj (x := .int k 0) rfl ?_)
  show wpAny _ _ (seqItems? (.ref t) >>= _) _ _ s
  refine wpAny_bind (wpAny_seqItems gt dt ?_)
  simp only [Int.toNat_natCast, hy]
  refine wpAny_bind (wpAny_setField gj dj (by simp) (wpAny_pure ⟨y, rfl, wpAny_pure (q _ ?_ (Heap.SameBut.update ..))⟩))
  exact ⟨_, Heap.get?_update_self _ gj (Obj.isFreed_of_fields (Obj.data_mapFields dj _)), (Obj.cls_mapFields ..).trans cj, by rw [Obj.data_mapFields dj]; simp [rawInt]⟩
theorem nx_tup_end {j t : Addr} {k : Nat} {its : Array Value} {Q : Value → Shared → Prop} (hh : A.handled = none) (st : s.heap.IsTupleIter j t k) (tp : s.heap.IsTuple t its) (hy : its[k]? = none)
    (q : ∀ h' e, Heap.ExtBut j s.heap h' → (∃ o, h'.get? e = some o ∧ o.cls = .type "StopIteration") → E (.ref e) { s with heap := h' }) : wpAny (model P w) A (Builtin.SmallTypes.nextOf (.ref j)) Q E s := by
  obtain ⟨oj, gj, cj, dj⟩ := id st
  obtain ⟨ot, gt, _, nt, dt⟩ := tp
  unfold Builtin.SmallTypes.nextOf
  refine wpAny_bind (wpAny_callSpecial?_slot (name := Str.ofString "__next__") st.typeIs F.slot_tuple_iterator_next (wpAny_call_entry F.slot_tuple_iterator_next st.typeIs F.entry_tuple_iterator_next ?_ (F.args_tuple_iterator_next_1 _)))
  show wpAny _ _ (field (.ref j) 0 >>= _) _ _ s
  refine wpAny_bind (wpAny_field gj dj (x := .ref t) rfl ?_)
  show wpAny _ _ (if (Value.ref t == Value.none) = true then _ else _) _ _ s
  rw [if_neg (show ¬ (Value.ref t == Value.none) = true from Bool.false_ne_true)]
  show wpAny _ _ (field (.ref j) 1 >>= _) _ _ s
  refine wpAny_bind (wpAny_field gj dj (x := .int k 0) rfl ?_)
  show wpAny _ _ (seqItems? (.ref t) >>= _) _ _ s
  refine wpAny_bind (wpAny_seqItems gt dt ?_)
  simp only [Int.toNat_natCast, hy]
  refine wpAny_bind (wpAny_rule (wpAny_bind (wpAny_setField gj dj (by simp) ?_)))
  show wpAny _ _ (newExc (.type "StopIteration") [] >>= _) _ _ _
  refine wpAny_bind ?_
  simp only [newExc, newTuple]
  refine wpAny_bind (wpAny_newObj_type ?_ (by size_fits))
  refine wpAny_bind (m := firstArgMember _ _) (wpAny_of_eq (a := Value.none) (by simp only [firstArgMember]; rfl) ?_)
  refine wpAny_newObj_type ?_ (by size_fits)
  simp only [raiseNew]
  refine wpAny_bind (wpAny_handled ?_)
  rw [show A.in1.handled = none from hh]
  refine wpAny_bind (wpAny_pure (wpAny_throw (q _ _ (((Heap.SameBut.update ..).extBut.push _).push _) ⟨_, Heap.get?_push_size _ rfl, rfl⟩)))
end
structure ZipT (h : Heap) (z ti ro j1 j2 t1 t2 : Addr) (f0 : Value) (i : Nat) : Prop where
  z : IsZip h z ti ro f0
  ti : IsPair h ti (.ref j1) (.ref j2)
  ro : ∃ a b, IsPair h ro a b
  j1 : h.IsTupleIter j1 t1 i
  j2 : h.IsTupleIter j2 t2 i
section
variable {P : Program} {w : World} {A : Around} {E : Value → Shared → Prop} {s : Shared} {z ti ro j1 j2 t1 t2 : Addr} {i : Nat} {its1 its2 : Array Value}
theorem zt_item {x y : Value} {Q : Option Value → Shared → Prop} (D : ZipApart z ti ro j1 j2 t1 t2) (Z : ZipT s.heap z ti ro j1 j2 t1 t2 .none i) (p1 : s.heap.IsTuple t1 its1) (p2 : s.heap.IsTuple t2 its2) (hx : its1[i]? = some x) (hy : its2[i]? = some y)
    (q : ∀ h', ZipT h' z ti ro j1 j2 t1 t2 (rawInt s.heap.objs.size) (i + 1) → IsPair h' s.heap.objs.size x y → h'.objs.size = s.heap.objs.size + 1 → (∀ c o, c ≠ z → c ≠ ro → c ≠ j1 → c ≠ j2 → s.heap.get? c = some o → h'.get? c = some o) →
      Q (some (.ref s.heap.objs.size)) { s with heap := h' }) : wpAny (model P w) A (pyNext (.ref z)) Q E s := by
  have hT : s.TypeIs (.ref z) "zip" := ⟨_, Z.z, rfl⟩
  obtain ⟨a, b, hro⟩ := Z.ro
  unfold pyNext
  refine wpAny_bind (wpAny_attempt (wpAny_callSpecial?_slot (name := Str.ofString "__next__") hT F.slot_zip_next (wpAny_call_entry F.slot_zip_next hT F.entry_zip_next ?_ (F.args_zip_next_1 _))))
  show wpAny _ _ (field (.ref z) 2 >>= _) _ _ _
  refine wpAny_bind (wpAny_field Z.z rfl (x := .bool false) rfl ?_)
  show wpAny _ _ (field (.ref z) 3 >>= _) _ _ _
  refine wpAny_bind (wpAny_field Z.z rfl (x := .ref ti) rfl ?_)
  refine wpAny_bind (wpAny_seqItems Z.ti rfl ?_)
  show wpAny _ _ (Builtin.SmallTypes.ownedTupleIsFree (.ref z) >>= _) _ _ _
  refine wpAny_bind ?_
  unfold Builtin.SmallTypes.ownedTupleIsFree
  refine wpAny_bind (wpAny_field Z.z rfl (x := .none) rfl (wpAny_pure ?_))
  simp only [if_true]
  refine wpAny_bind (wpAny_rule ?_)
  refine wpAny_bind (wpAny_field Z.z rfl (x := .ref ro) rfl ?_)
  refine wpAny_bind (wpAny_setField_rec Z.z (by simp) fun ha hza hsa => ?_)
  replace hza : IsZip ha z ti ro .ellipsis := hza
  refine wpAny_bind ?_
  simp only [List.zipIdx_cons, List.zipIdx_nil, List.forIn_cons, List.forIn_nil]
  refine wpAny_bind (wpAny_bind (wpAny_onRaise ?_))
  show wpAny _ _ (Builtin.SmallTypes.nextOf (.ref j1) >>= _) _ _ _
  refine wpAny_bind (nx_tup_item (Z.j1.extBut hsa.extBut D.i1z) (p1.extBut hsa.extBut D.l1z) hx fun hb b1 hsb => wpAny_pure ?_)
  have rob : IsPair hb ro a b := hsb.extBut _ _ D.TOi1 (hsa.extBut _ _ D.TOz hro)
  refine wpAny_bind (wpAny_seqItems rob rfl ?_)
  refine wpAny_bind (wpAny_updateSeq_pair rob fun hc roc hsc => ?_)
  replace roc : IsPair hc ro x b := roc
  refine wpAny_bind (wpAny_letGo (wpAny_pure ?_))
  refine wpAny_bind (wpAny_bind (wpAny_onRaise ?_))
  show wpAny _ _ (Builtin.SmallTypes.nextOf (.ref j2) >>= _) _ _ _
  refine wpAny_bind (nx_tup_item (((Z.j2.extBut hsa.extBut D.i2z).extBut hsb.extBut D.i12.symm).extBut hsc.extBut D.TOi2.symm) (((p2.extBut hsa.extBut D.l2z).extBut hsb.extBut D.l2i1).extBut hsc.extBut D.l2TO) hy fun hd d2 hsd => wpAny_pure ?_)
  have rod : IsPair hd ro x b := hsd.extBut _ _ D.TOi2 roc
  refine wpAny_bind (wpAny_seqItems rod rfl ?_)
  refine wpAny_bind (wpAny_updateSeq_pair rod fun he roe hse => ?_)
  replace roe : IsPair he ro x y := roe
  refine wpAny_bind (wpAny_letGo (wpAny_pure (wpAny_pure ?_)))
  refine wpAny_bind (wpAny_seqItems roe rfl ?_)
  refine wpAny_bind (wpAny_newTuple ?_)
  have sz : he.objs.size = s.heap.objs.size := by rw [hse.1, hsd.1, hsc.1, hsb.1, hsa.1]
  have ze : IsZip he z ti ro .ellipsis := hse.extBut _ _ D.TOz.symm (hsd.extBut _ _ D.i2z.symm (hsc.extBut _ _ D.TOz.symm (hsb.extBut _ _ D.i1z.symm hza)))
  have ke : ∀ c o, c ≠ z → c ≠ ro → c ≠ j1 → c ≠ j2 → s.heap.get? c = some o → he.get? c = some o := fun c o c1 c2 c3 c4 e =>
    hse.extBut _ _ c2 (hsd.extBut _ _ c4 (hsc.extBut _ _ c2 (hsb.extBut _ _ c3 (hsa.extBut _ _ c1 e))))
  have e1 : he.IsTupleIter j1 t1 (i + 1) := ((b1.extBut hsc.extBut D.TOi1.symm).extBut hsd.extBut D.i12).extBut hse.extBut D.TOi1.symm
  have e2 : he.IsTupleIter j2 t2 (i + 1) := d2.extBut hse.extBut D.TOi2.symm
  have zlt : z < he.objs.size := Heap.lt_size ze
  show wpAny _ _ (Builtin.SmallTypes.ownedTupleHandOut (.ref z) (.ref he.objs.size) >>= _) _ _ _
  refine wpAny_bind ?_
  unfold Builtin.SmallTypes.ownedTupleHandOut
  have zf : IsZip (he.push { cls := .type "tuple", data := .seq #[x, y] }) z ti ro .ellipsis := Heap.get?_push_of_some _ ze
  refine wpAny_bind (wpAny_setField_rec zf (by simp) fun hg zg hsg => ?_)
  replace zg : IsZip hg z ti ro (rawInt he.objs.size) := zg
  refine wpAny_setField_rec zg (by simp) fun hk zk hsk => ?_
  replace zk : IsZip hk z ti ro (rawInt he.objs.size) := zk
  have up : ∀ c o, c ≠ z → he.get? c = some o → hk.get? c = some o := fun c o c1 e => hsk.extBut _ _ c1 (hsg.extBut _ _ c1 (Heap.get?_push_of_some _ e))
  have tk : IsPair hk he.objs.size x y := hsk.extBut _ _ (Nat.ne_of_gt zlt) (hsg.extBut _ _ (Nat.ne_of_gt zlt) (Heap.get?_push_size _ rfl))
  have zk8 : hk.objs.size = he.objs.size + 1 := by rw [hsk.1, hsg.1, Heap.size_push]
  rw [sz] at zk tk zk8
  refine wpAny_pure ⟨_, rfl, wpAny_pure ?_⟩
  show Q (some (.ref he.objs.size)) _
  rw [sz]
  exact q hk ⟨zk, up _ _ D.TIz (ke _ _ D.TIz D.TITO D.TIi1 D.TIi2 Z.ti), ⟨_, _, up _ _ D.TOz roe⟩, e1.at fun o e => up _ o D.i1z e, e2.at fun o e => up _ o D.i2z e⟩ tk zk8 fun c o c1 c2 c3 c4 e => up c o c1 (ke c o c1 c2 c3 c4 e)
theorem zt_end {Q : Option Value → Shared → Prop} (hh : A.handled = none) (D : ZipApart z ti ro j1 j2 t1 t2) (Z : ZipT s.heap z ti ro j1 j2 t1 t2 .none i) (p1 : s.heap.IsTuple t1 its1) (p2 : s.heap.IsTuple t2 its2) (hx : its1[i]? = none)
    (q : ∀ h', (∀ c o, c ≠ z → c ≠ ro → c ≠ j1 → c ≠ j2 → s.heap.get? c = some o → h'.get? c = some o) → Q none { s with heap := h' }) : wpAny (model P w) A (pyNext (.ref z)) Q E s := by
  have hT : s.TypeIs (.ref z) "zip" := ⟨_, Z.z, rfl⟩
  unfold pyNext
  refine wpAny_bind (wpAny_attempt (wpAny_callSpecial?_slot (name := Str.ofString "__next__") hT F.slot_zip_next (wpAny_call_entry F.slot_zip_next hT F.entry_zip_next ?_ (F.args_zip_next_1 _))))
  show wpAny _ _ (field (.ref z) 2 >>= _) _ _ _
  refine wpAny_bind (wpAny_field Z.z rfl (x := .bool false) rfl ?_)
  show wpAny _ _ (field (.ref z) 3 >>= _) _ _ _
  refine wpAny_bind (wpAny_field Z.z rfl (x := .ref ti) rfl ?_)
  refine wpAny_bind (wpAny_seqItems Z.ti rfl ?_)
  show wpAny _ _ (Builtin.SmallTypes.ownedTupleIsFree (.ref z) >>= _) _ _ _
  refine wpAny_bind ?_
  unfold Builtin.SmallTypes.ownedTupleIsFree
  refine wpAny_bind (wpAny_field Z.z rfl (x := .none) rfl (wpAny_pure ?_))
  simp only [if_true]
  refine wpAny_bind (wpAny_rule ?_)
  refine wpAny_bind (wpAny_field Z.z rfl (x := .ref ro) rfl ?_)
  refine wpAny_bind (wpAny_setField_rec Z.z (by simp) fun ha hza hsa => ?_)
  replace hza : IsZip ha z ti ro .ellipsis := hza
  refine wpAny_bind ?_
  simp only [List.zipIdx_cons, List.zipIdx_nil, List.forIn_cons, List.forIn_nil]
  refine wpAny_bind (wpAny_bind (wpAny_onRaise ?_))
  show wpAny _ _ (Builtin.SmallTypes.nextOf (.ref j1) >>= _) _ _ _
  refine wpAny_bind (nx_tup_end hh (Z.j1.extBut hsa.extBut D.i1z) (p1.extBut hsa.extBut D.l1z) hx fun hb e hsb ⟨oe, ge, ce⟩ => ?_)
  have zb : IsZip hb z ti ro .ellipsis := hsb _ _ D.i1z.symm hza
  have nez : e ≠ z := fun z' => by
    subst z'
    rw [zb] at ge
    cases ge
    simp at ce
  refine wpAny_setField_rec zb (by simp) fun hc _ hsc => ?_
  refine wpAny_bind (wpAny_isInstance (T := "StopIteration") (b := true) ⟨oe, hsc.extBut _ _ nez ge, ce⟩ isSubtype_stop ?_)
  exact wpAny_pure (q _ fun c o c1 _ c3 _ x => hsc.extBut _ _ c1 (hsb _ _ c3 (hsa.extBut _ _ c1 x)))
end
abbrev zt1 (h : Heap) (a : Addr) : Heap := h.push { cls := .type "tuple_iterator", data := .fields #[.ref a, .int 0 0] }
abbrev zt2 (h : Heap) (a b : Addr) : Heap := (zt1 h a).push { cls := .type "tuple_iterator", data := .fields #[.ref b, .int 0 0] }
abbrev zt3 (h : Heap) (a b : Addr) : Heap := (zt2 h a b).push { cls := .type "tuple", data := .seq #[.ref h.objs.size, .ref (zt1 h a).objs.size] }
abbrev zt4 (h : Heap) (a b : Addr) : Heap := (zt3 h a b).push { cls := .type "tuple", data := .seq #[.none, .none] }
abbrev zt5 (h : Heap) (a b : Addr) : Heap := (zt4 h a b).push { cls := .type "zip", data := .fields #[.none, .bool false, .bool false, .ref (zt2 h a b).objs.size, .ref (zt3 h a b).objs.size] }
theorem zt_new (a b : Addr) (xs ys : Array Value) : Meets (Builtin.«zip.__new__» ⟨[.type "zip", .ref a, .ref b], []⟩) (fun _ R s => s.heap.IsTuple a xs ∧ s.heap.IsTuple b ys ∧ R (.ok (.ret (.ref (zt4 s.heap a b).objs.size))) { s with heap := zt5 s.heap a b }) :=
  .of_wp fun prog w A R s h => by
    obtain ⟨hp, g, d, tk, os⟩ := s
    obtain ⟨ha, hb, h⟩ := h
    have hsub := sub_zip
    have hA : Heap.IsTuple (Shared.heap ⟨hp, g, d, tk, os⟩) a xs := ha
    have hB : Heap.IsTuple (Shared.heap ⟨hp.push { cls := .type "tuple_iterator", data := .fields #[.ref a, .int 0 0] }, g, d, tk, os⟩) b ys := by
      obtain ⟨o, e, r⟩ := hb
      exact ⟨o, Heap.get?_push_of_some _ e, r⟩
    wp_walk using wpAny_pyIter_tuple hA, wpAny_pyIter_tuple hB
    exact ⟨_, rfl, h⟩
section
variable {P : Program} {w : World} {A : Around} {E : Value → Shared → Prop} {s : Shared}
theorem zt_call {a b : Addr} {xs ys : Array Value} {Q : Value → Shared → Prop} (ha : s.heap.IsTuple a xs) (hb : s.heap.IsTuple b ys)
    (q : ∀ h', ZipT h' (s.heap.objs.size + 4) (s.heap.objs.size + 2) (s.heap.objs.size + 3) s.heap.objs.size (s.heap.objs.size + 1) a b .none 0 → h'.objs.size = s.heap.objs.size + 5 → (∀ c o, s.heap.get? c = some o → h'.get? c = some o) → Q (.ref (s.heap.objs.size + 4)) { s with heap := h' }) :
    wpAny (model P w) A (call (.type "zip") [.ref a, .ref b]) Q E s := by
  refine callType_new F.called_zip (by decide) (F.typeCall_zip_2 _ _) (F.newCall_zip_2 _ _) (fun obj => F.args_object_init_3 obj _ _) F.entry_zip_new (zt_new a b xs ys) ⟨ha, hb, ?_⟩
  have s1 : (zt1 s.heap a).objs.size = s.heap.objs.size + 1 := Heap.size_push ..
  have s2 : (zt2 s.heap a b).objs.size = s.heap.objs.size + 2 := by rw [Heap.size_push, s1]
  have s3 : (zt3 s.heap a b).objs.size = s.heap.objs.size + 3 := by rw [Heap.size_push, s2]
  have s4 : (zt4 s.heap a b).objs.size = s.heap.objs.size + 4 := by rw [Heap.size_push, s3]
  have s5 : (zt5 s.heap a b).objs.size = s.heap.objs.size + 5 := by rw [Heap.size_push, s4]
  have k5 : (zt5 s.heap a b).get? (zt4 s.heap a b).objs.size = some _ := Heap.get?_push_size _ rfl
  have k4 : (zt5 s.heap a b).get? (zt3 s.heap a b).objs.size = some _ := Heap.get?_push_of_some _ (Heap.get?_push_size _ rfl)
  have k3 : (zt5 s.heap a b).get? (zt2 s.heap a b).objs.size = some _ := Heap.get?_push_of_some _ (Heap.get?_push_of_some _ (Heap.get?_push_size _ rfl))
  have k2 : (zt5 s.heap a b).get? (zt1 s.heap a).objs.size = some _ := Heap.get?_push_of_some _ (Heap.get?_push_of_some _ (Heap.get?_push_of_some _ (Heap.get?_push_size _ rfl)))
  have k1 : (zt5 s.heap a b).get? s.heap.objs.size = some _ := Heap.get?_push_of_some _ (Heap.get?_push_of_some _ (Heap.get?_push_of_some _ (Heap.get?_push_of_some _ (Heap.get?_push_size _ rfl))))
  rw [s2, s3, s4] at k5
  rw [s1, s2] at k3
  rw [s3] at k4
  rw [s1] at k2
  show _ ∧ _
  rw [s4]
  exact ⟨⟨_, k5, rfl⟩, q _ ⟨k5, k3, ⟨_, _, k4⟩, ⟨_, k1, rfl, rfl⟩, ⟨_, k2, rfl, rfl⟩⟩ s5 fun c o x => Heap.get?_push_of_some _ (Heap.get?_push_of_some _ (Heap.get?_push_of_some _ (Heap.get?_push_of_some _ (Heap.get?_push_of_some _ x))))⟩
end
section
variable {X : Cx} {pins : List (Addr × Obj)} {σ : St} {H : Hp} {s : Shared} {h' : Heap}
theorem Inv.turnedL {t' : Nat} {L : List Addr} (I : Inv X pins σ H s) (k : ∀ b o, b ∉ L → s.heap.get? b = some o → h'.get? b = some o) (hL : ∀ b ∈ L, FpOk X pins H b) : Inv X pins σ H { s with heap := h', toks := t' } := by
  have no : ∀ b u, H b = some u → b ∉ L := fun b u e z => by rw [(hL b z).1] at e; cases e
  refine I.step (g' := s.gens) (d' := s.drawn) (ch := L) (fun b hb => ?_) (fun b o _ _ hc e _ => k b o hc e) (fun b o _ _ hc e _ => ⟨o.slots, k b o hc e⟩) (fun _ _ _ _ n => n)
    (fun b o hc e => ⟨o, k b o hc e⟩) (fun _ _ e => e) (fun _ _ _ e => e) (fun _ _ _ e => e) (fun m hm => ?_) (fun b u e => ?_) I.bare
  · obtain ⟨_, f1, _, f3, f4, f5⟩ := hL b hb
    exact ⟨f3, f1, f4, f5⟩
  · obtain ⟨o, es, ep, ho, r⟩ := hm
    exact ⟨o, es, ep, k _ o (fun z => (hL _ z).2.1 rfl) ho, r⟩
  · refine (I.hok b u e).stay (fun c v hc q => k c v ?_ q) (fun _ q => q) (fun _ _ _ _ _ q => q) fun _ _ q => q
    rcases hc with z | z
    · rw [z]; exact no b u e
    · exact no c _ z
theorem Inv.turnedNew {t' : Nat} {L : List Addr} {p : Addr} {o : HO} (I : Inv X pins σ H s) (k : ∀ b u, b ∉ L → s.heap.get? b = some u → h'.get? b = some u) (hL : ∀ b ∈ L, FpOk X pins H b) (hp : s.heap.objs.size ≤ p) (new : ObjOk X.prog X.w (upd H p o) h' p o)
    (hl : ∀ b ∈ L, ∃ u, h'.get? b = some u) : Inv X pins σ (upd H p o) { s with heap := h', toks := t' } := by
  have hn : H p = none := I.hok.fresh hp
  have no : ∀ b u, H b = some u → b ∉ L := fun b u e z => by rw [(hL b z).1] at e; cases e
  have ne : ∀ b u, H b = some u → upd H p o b = some u := fun b u e => by rw [upd_ne (ne_of_none e hn)]; exact e
  refine I.step (g' := s.gens) (d' := s.drawn) (ch := L) (fun b hb => ?_) (fun b u _ _ hc e _ => k b u hc e) (fun b u _ _ hc e _ => ⟨u.slots, k b u hc e⟩) (fun b u _ e z => ?_)
    (fun b u hc e => ⟨u, k b u hc e⟩) (fun b xs e => ne b _ e) (fun b ob u e => ne b _ e) (fun b _ _ e => ne b _ e) (fun m hm => ?_) (fun b u e => ?_) I.bare
  · obtain ⟨_, f1, _, f3, f4, f5⟩ := hL b hb
    exact ⟨f3, f1, f4, f5⟩
  · rw [upd_ne (Nat.ne_of_lt (Nat.lt_of_lt_of_le (Heap.lt_size e) hp))]; exact z
  · obtain ⟨ob, es, ep, ho, r⟩ := hm
    exact ⟨ob, es, ep, k _ ob (fun z => (hL _ z).2.1 rfl) ho, r⟩
  · by_cases hb : b = p
    · subst hb; rw [upd_same] at e; cases e; exact new
    · rw [upd_ne hb] at e
      refine (I.hok b u e).stay (fun c v hc q => k c v ?_ q) (fun c q => ne c _ q) (fun c _ _ _ _ q => ne c _ q) fun c xs q => ne c _ q
      rcases hc with z | z
      · rw [z]; exact no b u e
      · exact no c _ z
end
def Itz (K : PySem.W.Frag) (a b : Addr) : It :=
  ⟨fun i H => ∃ xs ys x y, SqT K H a xs ∧ SqT K H b ys ∧ xs[i]? = some x ∧ ys[i]? = some y,
   fun i H v H' => ∃ p x y, v = .ref p ∧ New H p (.tup [x, y]) H' ∧ (∀ xs, SqT K H a xs → xs[i]? = some x) ∧ ∀ ys, SqT K H b ys → ys[i]? = some y,
   fun i H => ∃ xs ys, SqT K H a xs ∧ SqT K H b ys ∧ xs.length ≤ i⟩
theorem turn_zip {P : Program} {w : World} {K : PySem.W.Frag} {elts : List Expr} {x1} {tpos : Pos} (z ti ro j1 j2 a b : Addr) (D : ZipApart z ti ro j1 j2 a b) :
    Turn P w K (.Tuple elts x1 tpos) (Itz K a b) [z, ti, ro, j1, j2] z (fun i h => ZipT h z ti ro j1 j2 a b .none i) where
  mem := by simp
  obj := fun i h st c hc => by
    obtain ⟨u, v, hro⟩ := st.ro
    obtain ⟨o1, e1, c1, d1⟩ := st.j1
    obtain ⟨o2, e2, c2, d2⟩ := st.j2
    simp only [List.mem_cons, List.not_mem_nil, or_false] at hc
    rcases hc with rfl | rfl | rfl | rfl | rfl
    · exact ⟨_, st.z, fun v q => nomatch q⟩
    · exact ⟨_, st.ti, fun v q => nomatch q⟩
    · exact ⟨_, hro, fun v q => nomatch q⟩
    · exact ⟨_, e1, fun v q => by rw [d1] at q; cases q⟩
    · exact ⟨_, e2, fun v q => by rw [d2] at q; cases q⟩
  keep := fun i h h' st k => by
    obtain ⟨u, v, hro⟩ := st.ro
    exact ⟨k z (by simp) _ st.z, k ti (by simp) _ st.ti, ⟨u, v, k ro (by simp) _ hro⟩, st.j1.at fun o e => k j1 (by simp) o e, st.j2.at fun o e => k j2 (by simp) o e⟩
  item := by
    intro X hP hw hK hc i pins s σ H E I hf st hg
    subst hP hw hK
    obtain ⟨xs, ys, x, y, hx, hy, ex, ey⟩ := hg
    obtain ⟨its1, r1, p1, _⟩ := I.tuple hx
    obtain ⟨its2, r2, p2, _⟩ := I.tuple hy
    obtain ⟨u, hu, ru⟩ := r1.get ex
    obtain ⟨v, hv, rv⟩ := r2.get ey
    have fz := hf z (by simp)
    refine zt_item D st (show s.heap.IsTuple a its1.toArray from p1) (show s.heap.IsTuple b its2.toArray from p2) (x := u) (y := v) (by simpa using hu) (by simpa using hv) fun h1 Z1 q1 sz1 k1 => ⟨_, rfl, ?_⟩
    refine wpAny_letOwnedTupleGo_zip Z1.z fun h2 z2 sb2 => ?_
    have hlt : ∀ c ∈ [z, ti, ro, j1, j2], c ≠ s.heap.objs.size := fun c hc => by
      obtain ⟨o, e, _⟩ : ∃ o, s.heap.get? c = some o ∧ True := by
        obtain ⟨u', v', hro⟩ := st.ro
        obtain ⟨o1, e1, _⟩ := st.j1
        obtain ⟨o2, e2, _⟩ := st.j2
        simp only [List.mem_cons, List.not_mem_nil, or_false] at hc
        rcases hc with rfl | rfl | rfl | rfl | rfl
        · exact ⟨_, st.z, trivial⟩
        · exact ⟨_, st.ti, trivial⟩
        · exact ⟨_, hro, trivial⟩
        · exact ⟨_, e1, trivial⟩
        · exact ⟨_, e2, trivial⟩
      exact Nat.ne_of_lt (Heap.lt_size e)
    have k2 : ∀ c o, c ∉ [z, ti, ro, j1, j2] → s.heap.get? c = some o → h2.get? c = some o := fun c o hc e => by
      have hz : c ≠ z := fun q => hc (by simp [q])
      exact sb2.extBut _ _ hz (k1 c o hz (fun q => hc (by simp [q])) (fun q => hc (by simp [q])) (fun q => hc (by simp [q])) e)
    have tup2 : h2.get? s.heap.objs.size = some { cls := .type "tuple", data := .seq #[u, v] } := sb2.extBut _ _ (Ne.symm (hlt z (by simp))) q1
    have st2 : ZipT h2 z ti ro j1 j2 a b .none (i + 1) := by
      obtain ⟨u', v', hro⟩ := Z1.ro
      exact ⟨z2, sb2.extBut _ _ D.TIz Z1.ti, ⟨u', v', sb2.extBut _ _ D.TOz hro⟩, Z1.j1.extBut sb2.extBut D.i1z, Z1.j2.extBut sb2.extBut D.i2z⟩
    have there : ∀ c ∈ [z, ti, ro, j1, j2], ∃ o, h2.get? c = some o := fun c hc => by
      obtain ⟨u', v', hro⟩ := st2.ro
      obtain ⟨o1, e1, _⟩ := st2.j1
      obtain ⟨o2, e2, _⟩ := st2.j2
      simp only [List.mem_cons, List.not_mem_nil, or_false] at hc
      rcases hc with rfl | rfl | rfl | rfl | rfl
      · exact ⟨_, st2.z⟩
      · exact ⟨_, st2.ti⟩
      · exact ⟨_, hro⟩
      · exact ⟨_, e1⟩
      · exact ⟨_, e2⟩
    have I2 : Inv X pins σ (upd H s.heap.objs.size (.tup [x, y])) { s with heap := h2, toks := s.toks } := I.turnedNew k2 hf (Nat.le_refl _) ⟨small_line (by simp), [u, v], .cons ru (.cons rv .nil), ⟨_, tup2, rfl, _, rfl⟩⟩ there
    refine ⟨.ref s.heap.objs.size, _, I2, rfl, ⟨_, x, y, rfl, .mk' I.fresh _, fun ws hw => by rw [I.tuple_inj hw hx]; exact ex, fun ws hw => by rw [I.tuple_inj hw hy]; exact ey⟩, st2, fun c hc => ?_⟩
    rw [upd_ne (hlt c hc)]
    exact (hf c hc).1
  done := by
    intro X hP hw hK hc i pins s σ H E I hf st hg
    subst hP hw hK
    obtain ⟨xs, ys, hx, hy, hl⟩ := hg
    obtain ⟨its1, r1, p1, _⟩ := I.tuple hx
    obtain ⟨its2, r2, p2, _⟩ := I.tuple hy
    have l1 := r1.length
    exact zt_end (I.ok.hd hc) D st (show s.heap.IsTuple a its1.toArray from p1) (show s.heap.IsTuple b its2.toArray from p2) (by simp; omega) fun h' k => ⟨rfl, I.turnedL (t' := s.toks) (fun c o hc e => k c o (fun q => hc (by simp [q])) (fun q => hc (by simp [q])) (fun q => hc (by simp [q])) (fun q => hc (by simp [q])) e) hf⟩
  self := fun _ _ _ _ _ st h => wpAny_pyIter_zip st.z h
def iZip (K : PySem.W.Frag) (ta : TA) : TI := fun σ H R => ta σ H fun vs H1 => ∃ a b, vs = [.ref a, .ref b] ∧ (∃ xs, SqT K H1 a xs) ∧ (∃ ys, SqT K H1 b ys) ∧ R (Itz K a b) H1
theorem pi_zip {X : Cx} {elts : List Expr} {x1} {tpos : Pos} {a b : Expr} {ta : TA} {p pos : Pos} (hg : Gl X "zip") (hm : X.mg "zip" = none) (ha : PA X [a, b] ta) (h1 : notStar a = true := by rfl) (h2 : notStar b = true := by rfl) : PI X (.Tuple elts x1 tpos) (.Call (.Name "zip" p) [a, b] [] pos) (iZip X.K ta) := by
  intro pins s σ H R I h
  have hs2 : starEach [b] X.env = [(false, eval b X.env)] := by rw [star_cons h2, starEach.eq_def]
  have hs : starEach [a, b] X.env = [(false, eval a X.env), (false, eval b X.env)] := by rw [star_cons h1, hs2]
  refine Call_ (ld_blt I hg hm boot_zip (PyProof.Rows.callWith_type1 (thn (ha pos pins s σ H _ I h) fun us s1 ⟨vs, H1, I1, r1, q1⟩ => ?_) (by rw [hs, hs2]) (by rw [hs2]; rfl)))
  obtain ⟨p1, p2, e, ⟨xs, hx⟩, ⟨ys, hy⟩, q⟩ := q1
  subst e
  obtain ⟨u, v, rfl, ru, rv⟩ := vals2 r1
  cases (show u = Value.ref p1 from ru)
  cases (show v = Value.ref p2 from rv)
  obtain ⟨its1, _, t1, _⟩ := I1.tuple hx
  obtain ⟨its2, _, t2, _⟩ := I1.tuple hy
  have l1 : p1 < s1.heap.objs.size := by obtain ⟨_, e, _⟩ := t1; exact Heap.lt_size e
  have l2 : p2 < s1.heap.objs.size := by obtain ⟨_, e, _⟩ := t2; exact Heap.lt_size e
  refine zt_call (show s1.heap.IsTuple p1 its1.toArray from t1) (show s1.heap.IsTuple p2 its2.toArray from t2) fun h' Z sz k => wpAny_pyIter_zip Z.z ?_
  refine ⟨_, [s1.heap.objs.size + 4, s1.heap.objs.size + 2, s1.heap.objs.size + 3, s1.heap.objs.size, s1.heap.objs.size + 1], _, _, H1, rfl, I1.kept (t' := s1.toks) k, turn_zip _ _ _ _ _ p1 p2 (zipApart_new l1 l2), Z, fun c hc => ?_, q⟩
  have hle : s1.heap.objs.size ≤ c := by
    simp only [List.mem_cons, List.not_mem_nil, or_false] at hc
    rcases hc with rfl | rfl | rfl | rfl | rfl
    · exact Nat.le_add_right _ _
    · exact Nat.le_add_right _ _
    · exact Nat.le_add_right _ _
    · exact Nat.le_refl _
    · exact Nat.le_add_right _ _
  exact I1.fpOk hle (I1.hok.fresh hle)
theorem pi_zipK {X : Cx} (K : PySem.W.Frag) {elts : List Expr} {x1} {tpos : Pos} {a b : Expr} {ta : TA} {p pos : Pos} (hg : Gl X "zip") (hm : X.mg "zip" = none) (ha : PA X [a, b] ta) (h : X.K = K := by rfl) (h1 : notStar a = true := by rfl) (h2 : notStar b = true := by rfl) :
    PI X (.Tuple elts x1 tpos) (.Call (.Name "zip" p) [a, b] [] pos) (iZip K ta) := h ▸ pi_zip hg hm ha h1 h2
theorem pg_tupK {X : Cx} (K : PySem.W.Frag) {es : List Expr} {k : Nat} {t : TGs} {n : Nat} {pos : Pos} (hc : X.calm = true) (h : PGs X es t) (hK : X.K = K := by rfl)
    (hn : (assignEach es X.env).length = n := by rfl) (hst : (assignEach es X.env).findIdx? (·.1) = none := by rfl) : PG X (.Tuple es k pos) (gTup K n t) := hK ▸ pg_tup hc h hn hst
section
variable {tn : List Str} {cp : List (Nat × Str)} {g : TG} {tif : TT} {te : TE} {σ0 : St} {Q : VK} {H1 : Hp} {K : PySem.W.Frag} {a b : Addr} {xs ys : List V}
theorem cz_map (S : St → Prop) (f : Nat → V) (hn : xs.length ≤ 1000) (hl : xs.length = ys.length) (ha : SqT K H1 a xs) (hb : SqT K H1 b ys) (h0 : S (stB tn cp σ0))
    (hs : ∀ D i σ H H' p x y, xs[i]? = some x → ys[i]? = some y → Same H1 H → H1 D = none → H D = some (.lst ((List.range i).map f)) → S σ → New H p (.tup [x, y]) H' → g (.ref p) σ H' fun σ2 H2 => tif σ2 H2 fun c H3 =>
      if c = true then te σ2 H3 fun v H4 => CStep D xs.length i (fun i ws σ H => Same H1 H ∧ S σ ∧ ws = (List.range i).map f) σ2 v H4 else CSkip D xs.length i (fun i ws σ H => Same H1 H ∧ S σ ∧ ws = (List.range i).map f) σ2 H3)
    (hd : ∀ D H, H1 D = none → Same H1 H → H D = some (.lst ((List.range xs.length).map f)) → Q (.ref D) H) : cBody tn cp g tif te σ0 Q (Itz K a b) H1 := by
  refine cb_by xs.length (fun D i ws σ H => Same H1 H ∧ S σ ∧ ws = (List.range i).map f) (small_line hn) (fun D hD => ⟨same_upd hD _, h0, rfl⟩) (fun D i ws σ H hD hi hH p => ⟨xs, ys, xs[i], ys[i], p.1.seqT ha, p.1.seqT hb, by simp [hi], by simp [hl ▸ hi]⟩)
    (fun D ws σ H hD hH p => ⟨xs, ys, p.1.seqT ha, p.1.seqT hb, Nat.le_refl _⟩) ?_ ?_
  · rintro D i ws σ H v H' hD hi hH hlw ⟨p1, p2, rfl⟩ ⟨p, x, y, rfl, nw, ex, ey⟩
    exact hs D i σ H H' p x y (ex _ (p1.seqT ha)) (ey _ (p1.seqT hb)) p1 hD hH p2 nw
  · rintro D ws σ H hD hH hlw ⟨p1, p2, rfl⟩
    exact hd D H hD p1 hH
theorem cz_step {S : St → Prop} {f : Nat → V} {D : Addr} {i : Nat} {v : V} {σ2 : St} {H4 : Hp} (hn : xs.length ≤ 1000) (hi : i < xs.length) (hD : H1 D = none) (h4 : H4 D = some (.lst ((List.range i).map f))) (g4 : Same H1 H4) (s2 : S σ2) (e : v = f i) :
    CStep D xs.length i (fun i ws σ H => Same H1 H ∧ S σ ∧ ws = (List.range i).map f) σ2 v H4 := by
  refine cstep (small_line hn) hi h4 (by rw [List.length_map, List.length_range]; exact Nat.le_refl _) ⟨g4.wr hD _, s2, ?_⟩
  rw [List.range_succ, List.map_append, e]
  rfl
end
end L2
set_option Elab.async false
set_option linter.all false
set_option maxRecDepth 100000
namespace L2
open PySem PySem.Spec PyProof.Rows
def DctK (K : PySem.W.Frag) (w : World) (a : Addr) (f : Str → Option V) : Prop := (a == sysModules) = false ∧ ∃ (es : Array DictEntry) (n : Nat), K.lookup a = some ⟨.type "dict", none, .dict es n, #[]⟩ ∧ PySem.W.KeysLit w.params es.toList ∧ ∀ x, RelO (f x) (findBy Value.isStrOf es x)
section
variable {X : Cx} (K : PySem.W.Frag) (w : World)
def rInD (neg : Bool) : R2 := fun x y H Q => ∃ z a f, x = .str z ∧ y = .ref a ∧ DctK K w a f ∧ Q (.bl (if neg then !(f z).isSome else (f z).isSome)) H
theorem op_notin_dct (hK : X.K = K := by rfl) (hw : X.w = w := by rfl) : OpR X (compareOp .NotIn) (rInD K w true) := by
  subst hK hw
  intro pins s σ H x y v u Q I rx ry h
  obtain ⟨z, a, f, rfl, rfl, ⟨lo, es, n, hl, hk, hr⟩, q⟩ := h
  obtain ⟨t, rfl⟩ := rx
  cases (show u = Value.ref a from ry)
  refine wpAny_notIn_of (strKind_is X.prog X.w z t) lo (PySem.W.mapOf_K (prog := X.prog) I.kIn hl hk) ?_
  rw [← (hr z).isSome_eq]
  exact ⟨.bl _, H, I.tok _, rfl, q⟩
def rIxD : R2 := fun x y H Q => ∃ a z f v, x = .ref a ∧ y = .str z ∧ DctK K w a f ∧ f z = some v ∧ Q v H
theorem ix_dct (hK : X.K = K := by rfl) (hw : X.w = w := by rfl) : IxR X (rIxD K w) := by
  subst hK hw
  intro value slice pins s σ H x y v u Q I rx ry h hs
  obtain ⟨a, z, f, r, rfl, rfl, ⟨lo, es, n, hl, hk, hr⟩, e, q⟩ := h
  cases (show v = Value.ref a from rx)
  obtain ⟨t, rfl⟩ := ry
  have hm := PySem.W.mapOf_K (prog := X.prog) I.kIn hl hk
  obtain ⟨w', hw', rw'⟩ := RelO.some_of (v := r) (o := findBy Value.isStrOf es z) (by rw [← e]; exact hr z)
  exact tail_any hm.typeIs slot_dict_getitem.lookup (wpAny_getItem_of (strKind_is X.prog X.w z t) hm hw' ⟨r, H, I.tok _, rw', q⟩) hs
end
section
variable {tn : List Str} {cp : List (Nat × Str)} {g : TG} {tif : TT} {te : TE} {σ0 : St} {Q : VK} {H1 : Hp} {K : PySem.W.Frag} {a : Addr} {xs : List V}
theorem ci_list (S : St → Prop) (f : Nat → V) (hn : xs.length ≤ 1000) (hS : SqL K H1 a xs) (h0 : S (stB tn cp σ0))
    (hs : ∀ D i σ H x, i < xs.length → xs[i]? = some x → Same H1 H → H1 D = none → H D = some (.lst ((List.range i).map f)) → S σ → g x σ H fun σ2 H2 => tif σ2 H2 fun c H3 =>
      if c = true then te σ2 H3 fun v H4 => CStep D xs.length i (fun i ws σ H => Same H1 H ∧ S σ ∧ ws = (List.range i).map f) σ2 v H4 else CSkip D xs.length i (fun i ws σ H => Same H1 H ∧ S σ ∧ ws = (List.range i).map f) σ2 H3)
    (hd : ∀ D H, H1 D = none → Same H1 H → H D = some (.lst ((List.range xs.length).map f)) → Q (.ref D) H) : cBody tn cp g tif te σ0 Q (Itl K a) H1 := by
  refine cb_list (K := K) (a := a) (xs := xs) (fun D i ws σ H => Same H1 H ∧ S σ ∧ ws = (List.range i).map f) (small_line hn) (fun D hD => ⟨same_upd hD _, h0, rfl⟩) (fun D i ys σ H _ _ _ p => p.1.seq hS) ?_ ?_
  · rintro D i ys σ H x hD hi hx hH hl ⟨p1, p2, rfl⟩
    exact hs D i σ H x hi hx p1 hD hH p2
  · rintro D ys σ H hD hH hl ⟨p1, p2, rfl⟩
    exact hd D H hD p1 hH
end
end L2
set_option Elab.async false
set_option linter.all false
set_option maxRecDepth 100000
namespace SS
open PySem PySem.Spec PyProof.Rows L2
def forms : List (Str × List Str) := [("in", ["place", "set"]), ("same", ["place", "place"]), ("within", ["set", "set"]), ("ahead", ["place", "place"]), ("next", ["place", "place"]), ("left", ["place", "place"]), ("right", ["place", "place"]), ("above", ["place", "place"]),
  ("not", ["saying"]), ("and", ["saying", "saying"]), ("or", ["saying", "saying"]), ("some", ["name", "saying"]), ("all", ["name", "saying"])]
def sortB (form : V → Bool) (x : V) (s : Str) : Bool := if s = "place" then isNm x SMALL else if s = "set" then isNm x GREAT else if s = "name" then isName x else form x
def zipB (form : V → Bool) : List V → List Str → Bool
  | [], [] => true
  | x :: xs, s :: ss => sortB form x s && zipB form xs ss
  | _, _ => false
def formH (H : Hp) : Nat → V → Bool
  | 0, _ => false
  | n + 1, .ref a => match H a with
    | some (.tup (.str w :: r)) => match forms.lookup w with
      | some ss => zipB (formH H n) r ss
      | none => false
    | _ => false
  | _ + 1, _ => false
def Exp (H : Hp) : Nat → V → Prop
  | 0, v => Thing H v
  | n + 1, v => Thing H v ∧ ∀ a xs, v = .ref a → H a = some (.tup xs) → xs.length ≤ 1000 ∧ ∀ x ∈ xs, Exp H n x
theorem Exp.thing {H : Hp} : ∀ {n : Nat} {v : V}, Exp H n v → Thing H v
  | 0, _, h => h
  | _ + 1, _, h => h.1
theorem Thing.same_tup {H H' : Hp} {a : Addr} {xs : List V} (h : Thing H (.ref a)) (g : Same H H') (e : H' a = some (.tup xs)) : H a = some (.tup xs) := by
  obtain ⟨⟨k, hk⟩, _⟩ := h
  cases hk with
  | lst z => rw [g _ _ z] at e; cases e
  | tup z => rw [g _ _ z] at e; cases e; exact z
  | dK z => rw [g _ _ z] at e; cases e
theorem Exp.same {H H' : Hp} (g : Same H H') : ∀ {n : Nat} {v : V}, Exp H n v → Exp H' n v
  | 0, _, h => Thing.same h g
  | n + 1, v, h => ⟨h.1.same g, fun a xs ev e => by
    subst ev
    obtain ⟨h1, h2⟩ := h.2 a xs rfl (h.1.same_tup g e)
    exact ⟨h1, fun x hx => (h2 x hx).same g⟩⟩
theorem zipB_congr {f g : V → Bool} : ∀ {xs : List V} {ss : List Str}, (∀ x ∈ xs, f x = g x) → zipB f xs ss = zipB g xs ss
  | [], [], _ => rfl
  | [], _ :: _, _ => rfl
  | _ :: _, [], _ => rfl
  | x :: xs, s :: ss, h => by
    show (sortB f x s && zipB f xs ss) = (sortB g x s && zipB g xs ss)
    rw [zipB_congr fun y hy => h y (List.mem_cons_of_mem _ hy)]
    unfold sortB
    rw [h x List.mem_cons_self]
theorem formH_same {H H' : Hp} (g : Same H H') : ∀ {n : Nat} {v : V}, Exp H n v → formH H' n v = formH H n v
  | 0, _, _ => rfl
  | n + 1, v, h => by
    cases v with
    | ref a =>
      obtain ⟨⟨k, hk⟩, _⟩ := h.1
      cases hk with
      | lst z => simp only [formH, z, g _ _ z]
      | dK z => simp only [formH, z, g _ _ z]
      | tup z =>
        rename_i xs
        have hx := (h.2 a xs rfl z).2
        simp only [formH, z, g _ _ z]
        cases xs with
        | nil => rfl
        | cons x r =>
          cases x with
          | str wd =>
            simp only []
            cases forms.lookup wd with
            | none => rfl
            | some ss => exact zipB_congr fun y hy => formH_same g (hx y (List.mem_cons_of_mem _ hy))
          | _ => rfl
    | _ => rfl
theorem zipB_len {f : V → Bool} : ∀ {xs : List V} {ss : List Str}, xs.length ≠ ss.length → zipB f xs ss = false
  | [], [], h => absurd rfl h
  | [], _ :: _, _ => rfl
  | _ :: _, [], _ => rfl
  | x :: xs, s :: ss, h => by
    show (sortB f x s && zipB f xs ss) = false
    rw [zipB_len fun z => h (congrArg (· + 1) z), Bool.and_false]
theorem zipB_range {f : V → Bool} : ∀ {xs : List V} {ss : List Str}, xs.length = ss.length → zipB f xs ss = (List.range xs.length).all fun i => sortB f (xs.getD i .non) (ss.getD i "")
  | [], [], _ => rfl
  | [], _ :: _, h => nomatch h
  | _ :: _, [], h => nomatch h
  | x :: xs, s :: ss, h => by
    show (sortB f x s && zipB f xs ss) = _
    rw [zipB_range (Nat.succ.inj h), List.length_cons, List.range_succ_eq_map, List.all_cons, List.all_map]
    rfl
def sp_form (n : Nat) : Sp := fun vs H Q _ => ∃ v, vs = [v, .int n] ∧ Exp H n v ∧ ∀ H', Same H H' → Q (.bl (formH H n v)) H'
def sp_sort (n : Nat) : Sp := fun vs H Q _ => ∃ v s, vs = [v, .str s, .int n] ∧ Exp H n v ∧ ∀ H', Same H H' → Q (.bl (sortB (formH H n) v s)) H'
def sp_sort' : Nat → Sp
  | 0 => fun _ _ _ _ => False
  | n + 1 => sp_sort n
def wfB : Sy → Bool
  | .bare w n m => if w = "in" then isPl n && isSt m else if w = "within" then isSt n && isSt m else isPl n && isPl m
  | .neg s => wfB s
  | .two _ s t => wfB s && wfB t
  | .qu _ n s => isName (.str n) && wfB s
def letB (barred : List Str) (most : Nat) : List Str → Sy → Bool
  | known, .bare w n m => decide (known.length ≤ most) && decide (w ∉ barred) && (decide (n ∈ known) && decide (m ∈ known))
  | known, .neg s => decide (known.length ≤ most) && decide (("not" : Str) ∉ barred) && letB barred most known s
  | known, .two w s t => decide (known.length ≤ most) && decide (w ∉ barred) && (letB barred most known s && letB barred most known t)
  | known, .qu w n s => decide (known.length ≤ most) && decide (w ∉ barred) && (decide (n ∉ known) && letB barred most (known ++ [n]) s)
theorem Rep.det {H : Hp} {v : V} {s t : Sy} (r : Rep H v s) (q : Rep H v t) : s = t := by
  induction r generalizing t with
  | bare hw e =>
    cases q with
    | bare hw' e' => rw [e] at e'; cases e'; rfl
    | neg e' _ => rw [e] at e'; cases e'
    | two hw' e' h1 _ => rw [e] at e'; cases e'; cases h1
    | qu hw' e' h1 => rw [e] at e'; cases e'; cases h1
  | neg e _ ih =>
    cases q with
    | bare hw' e' => rw [e] at e'; cases e'
    | neg e' h' => rw [e] at e'; cases e'; rw [ih h']
    | two hw' e' _ _ => rw [e] at e'; cases e'
    | qu hw' e' _ => rw [e] at e'; cases e'
  | two hw e h1 h2 ih1 ih2 =>
    cases q with
    | bare hw' e' => rw [e] at e'; cases e'; cases h1
    | neg e' _ => rw [e] at e'; cases e'
    | two hw' e' a b => rw [e] at e'; cases e'; rw [ih1 a, ih2 b]
    | qu hw' e' b => rw [e] at e'; cases e'; cases h1
  | qu hw e h ih =>
    cases q with
    | bare hw' e' => rw [e] at e'; cases e'; cases h
    | neg e' _ => rw [e] at e'; cases e'
    | two hw' e' a b => rw [e] at e'; cases e'; cases a
    | qu hw' e' b => rw [e] at e'; cases e'; rw [ih b]
end SS
set_option Elab.async false
set_option linter.all false
set_option maxRecDepth 100000
set_option maxHeartbeats 1000000
namespace SS
open PySem PySem.Spec PyProof.Rows L2
section
variable {f : V → Bool} {x y : V} {r : List V} {s1 s2 : Str}
theorem sort_pl : sortB f x "place" = isNm x SMALL := if_pos rfl
theorem sort_st : sortB f x "set" = isNm x GREAT := by unfold sortB; rw [if_neg (by decide +kernel), if_pos rfl]
theorem sort_nm : sortB f x "name" = isName x := by unfold sortB; rw [if_neg (by decide +kernel), if_neg (by decide +kernel), if_pos rfl]
theorem sort_sy : sortB f x "saying" = f x := by unfold sortB; rw [if_neg (by decide +kernel), if_neg (by decide +kernel), if_neg (by decide +kernel)]
theorem zip_one : zipB f r [s1] = true ↔ ∃ x, r = [x] ∧ sortB f x s1 = true := by
  cases r with
  | nil => simp [zipB]
  | cons x r =>
    cases r with
    | nil => simp [zipB]
    | cons y r => simp [zipB]
theorem zip_two : zipB f r [s1, s2] = true ↔ ∃ x y, r = [x, y] ∧ sortB f x s1 = true ∧ sortB f y s2 = true := by
  cases r with
  | nil => simp [zipB]
  | cons x r =>
    cases r with
    | nil => simp [zipB]
    | cons y r =>
      cases r with
      | nil =>
        rw [show zipB f [x, y] [s1, s2] = (sortB f x s1 && (sortB f y s2 && true)) from rfl, Bool.and_true, Bool.and_eq_true]
        exact ⟨fun h => ⟨x, y, rfl, h⟩, fun ⟨x', y', e, h⟩ => by cases e; exact h⟩
      | cons z r => simp [zipB]
theorem nm_str {l : Str} (h : isNm x l = true) : ∃ z, x = .str z := by
  cases x with
  | str z => exact ⟨z, rfl⟩
  | _ => cases h
end
theorem forms_in {wd : Str} {ss : List Str} (h : forms.lookup wd = some ss) : (wd = "in" ∧ ss = (["place", "set"] : List Str)) ∨ (wd = "within" ∧ ss = (["set", "set"] : List Str)) ∨ (wd ∈ bareWords ∧ ¬ wd = ("in" : Str) ∧ ¬ wd = ("within" : Str) ∧ ss = (["place", "place"] : List Str)) ∨
    (wd = "not" ∧ ss = (["saying"] : List Str)) ∨ (wd ∈ (["and", "or"] : List Str) ∧ ss = (["saying", "saying"] : List Str)) ∨ (wd ∈ (["some", "all"] : List Str) ∧ ss = (["name", "saying"] : List Str)) := by
  have m := mem_of_lookup' h
  simp only [forms, List.mem_cons, List.not_mem_nil, or_false, Prod.mk.injEq] at m
  rcases m with ⟨rfl, rfl⟩ | ⟨rfl, rfl⟩ | ⟨rfl, rfl⟩ | ⟨rfl, rfl⟩ | ⟨rfl, rfl⟩ | ⟨rfl, rfl⟩ | ⟨rfl, rfl⟩ | ⟨rfl, rfl⟩ | ⟨rfl, rfl⟩ | ⟨rfl, rfl⟩ | ⟨rfl, rfl⟩ | ⟨rfl, rfl⟩ | ⟨rfl, rfl⟩
  · exact .inl ⟨rfl, rfl⟩
  · exact .inr (.inr (.inl ⟨by decide +kernel, by decide +kernel, by decide +kernel, rfl⟩))
  · exact .inr (.inl ⟨rfl, rfl⟩)
  · exact .inr (.inr (.inl ⟨by decide +kernel, by decide +kernel, by decide +kernel, rfl⟩))
  · exact .inr (.inr (.inl ⟨by decide +kernel, by decide +kernel, by decide +kernel, rfl⟩))
  · exact .inr (.inr (.inl ⟨by decide +kernel, by decide +kernel, by decide +kernel, rfl⟩))
  · exact .inr (.inr (.inl ⟨by decide +kernel, by decide +kernel, by decide +kernel, rfl⟩))
  · exact .inr (.inr (.inl ⟨by decide +kernel, by decide +kernel, by decide +kernel, rfl⟩))
  · exact .inr (.inr (.inr (.inl ⟨rfl, rfl⟩)))
  · exact .inr (.inr (.inr (.inr (.inl ⟨by decide +kernel, rfl⟩))))
  · exact .inr (.inr (.inr (.inr (.inl ⟨by decide +kernel, rfl⟩))))
  · exact .inr (.inr (.inr (.inr (.inr ⟨by decide +kernel, rfl⟩))))
  · exact .inr (.inr (.inr (.inr (.inr ⟨by decide +kernel, rfl⟩))))
theorem forms_bare : ∀ wd ∈ bareWords, forms.lookup wd = some (if wd = ("in" : Str) then (["place", "set"] : List Str) else if wd = ("within" : Str) then (["set", "set"] : List Str) else (["place", "place"] : List Str)) := by decide +kernel
theorem forms_join : ∀ wd ∈ (["and", "or"] : List Str), forms.lookup wd = some (["saying", "saying"] : List Str) := by decide +kernel
theorem forms_tell : ∀ wd ∈ (["some", "all"] : List Str), forms.lookup wd = some (["name", "saying"] : List Str) := by decide +kernel
theorem forms_not : forms.lookup ("not" : Str) = some (["saying"] : List Str) := by decide +kernel
theorem form_say {H : Hp} : ∀ {n : Nat} {v : V}, formH H n v = true → ∃ s, Rep H v s ∧ wfB s = true ∧ s.depth ≤ n
  | 0, _, h => by cases h
  | n + 1, v, h => by
    cases v with
    | ref a =>
      simp only [formH] at h
      split at h
      · rename_i wd r e
        split at h
        · rename_i ss hs
          rcases forms_in hs with ⟨rfl, rfl⟩ | ⟨rfl, rfl⟩ | ⟨hw, n1, n2, rfl⟩ | ⟨rfl, rfl⟩ | ⟨hw, rfl⟩ | ⟨hw, rfl⟩
          · obtain ⟨x, y, rfl, h1, h2⟩ := zip_two.mp h
            rw [sort_pl] at h1
            rw [sort_st] at h2
            obtain ⟨z1, rfl⟩ := nm_str h1
            obtain ⟨z2, rfl⟩ := nm_str h2
            refine ⟨.bare "in" z1 z2, .bare (by decide +kernel) e, ?_, Nat.succ_le_succ (Nat.zero_le _)⟩
            show (if _ then _ else _) = true
            rw [if_pos rfl, Bool.and_eq_true]
            exact ⟨h1, h2⟩
          · obtain ⟨x, y, rfl, h1, h2⟩ := zip_two.mp h
            rw [sort_st] at h1 h2
            obtain ⟨z1, rfl⟩ := nm_str h1
            obtain ⟨z2, rfl⟩ := nm_str h2
            refine ⟨.bare "within" z1 z2, .bare (by decide +kernel) e, ?_, Nat.succ_le_succ (Nat.zero_le _)⟩
            show (if _ then _ else if _ then _ else _) = true
            rw [if_neg (by decide +kernel), if_pos rfl, Bool.and_eq_true]
            exact ⟨h1, h2⟩
          · obtain ⟨x, y, rfl, h1, h2⟩ := zip_two.mp h
            rw [sort_pl] at h1 h2
            obtain ⟨z1, rfl⟩ := nm_str h1
            obtain ⟨z2, rfl⟩ := nm_str h2
            refine ⟨.bare wd z1 z2, .bare hw e, ?_, Nat.succ_le_succ (Nat.zero_le _)⟩
            show (if _ then _ else if _ then _ else _) = true
            rw [if_neg n1, if_neg n2, Bool.and_eq_true]
            exact ⟨h1, h2⟩
          · obtain ⟨x, rfl, h1⟩ := zip_one.mp h
            rw [sort_sy] at h1
            obtain ⟨s, r, w1, d1⟩ := form_say h1
            exact ⟨.neg s, .neg e r, w1, Nat.succ_le_succ d1⟩
          · obtain ⟨x, y, rfl, h1, h2⟩ := zip_two.mp h
            rw [sort_sy] at h1 h2
            obtain ⟨s, r, w1, d1⟩ := form_say h1
            obtain ⟨t, q, w2, d2⟩ := form_say h2
            refine ⟨.two wd s t, .two hw e r q, ?_, Nat.succ_le_succ (Nat.max_le.mpr ⟨d1, d2⟩)⟩
            show (wfB s && wfB t) = true
            rw [w1, w2]
            rfl
          · obtain ⟨x, y, rfl, h1, h2⟩ := zip_two.mp h
            rw [sort_nm] at h1
            rw [sort_sy] at h2
            obtain ⟨z1, rfl⟩ := isName_str h1
            obtain ⟨t, q, w2, d2⟩ := form_say h2
            refine ⟨.qu wd z1 t, .qu hw e q, ?_, Nat.succ_le_succ d2⟩
            show (isName _ && wfB t) = true
            rw [h1, w2]
            rfl
        · cases h
      · cases h
    | _ => cases h
theorem say_form {H : Hp} {v : V} {s : Sy} (r : Rep H v s) : ∀ {n : Nat}, wfB s = true → s.depth ≤ n → formH H n v = true := by
  induction r with
  | bare hw e =>
    rename_i a wd n1 m1
    intro n h d
    cases n with
    | zero => exact absurd d (by show ¬ 1 ≤ 0; decide)
    | succ n =>
      simp only [formH, e, forms_bare wd hw]
      by_cases c1 : wd = ("in" : Str)
      · rw [if_pos c1]
        have h' : (isPl n1 && isSt m1) = true := by have z : (if _ then _ else _) = true := h; rw [if_pos c1] at z; exact z
        rw [Bool.and_eq_true] at h'
        exact zip_two.mpr ⟨_, _, rfl, by rw [sort_pl]; exact h'.1, by rw [sort_st]; exact h'.2⟩
      · rw [if_neg c1]
        by_cases c2 : wd = ("within" : Str)
        · rw [if_pos c2]
          have h' : (isSt n1 && isSt m1) = true := by have z : (if _ then _ else if _ then _ else _) = true := h; rw [if_neg c1, if_pos c2] at z; exact z
          rw [Bool.and_eq_true] at h'
          exact zip_two.mpr ⟨_, _, rfl, by rw [sort_st]; exact h'.1, by rw [sort_st]; exact h'.2⟩
        · rw [if_neg c2]
          have h' : (isPl n1 && isPl m1) = true := by have z : (if _ then _ else if _ then _ else _) = true := h; rw [if_neg c1, if_neg c2] at z; exact z
          rw [Bool.and_eq_true] at h'
          exact zip_two.mpr ⟨_, _, rfl, by rw [sort_pl]; exact h'.1, by rw [sort_pl]; exact h'.2⟩
  | neg e _ ih =>
    intro n h d
    cases n with
    | zero => exact absurd d (Nat.not_succ_le_zero _)
    | succ n =>
      simp only [formH, e, forms_not]
      exact zip_one.mpr ⟨_, rfl, by rw [sort_sy]; exact ih h (Nat.le_of_succ_le_succ d)⟩
  | two hw e _ _ ih1 ih2 =>
    rename_i s t _ _
    intro n h d
    cases n with
    | zero => exact absurd d (Nat.not_succ_le_zero _)
    | succ n =>
      have d' := Nat.max_le.mp (Nat.le_of_succ_le_succ d)
      have h' : (wfB s && wfB t) = true := h
      rw [Bool.and_eq_true] at h'
      simp only [formH, e, forms_join _ hw]
      exact zip_two.mpr ⟨_, _, rfl, by rw [sort_sy]; exact ih1 h'.1 d'.1, by rw [sort_sy]; exact ih2 h'.2 d'.2⟩
  | qu hw e _ ih =>
    rename_i nm _ s _
    intro n h d
    cases n with
    | zero => exact absurd d (Nat.not_succ_le_zero _)
    | succ n =>
      have h' : (isName (.str nm) && wfB s) = true := h
      rw [Bool.and_eq_true] at h'
      simp only [formH, e, forms_tell _ hw]
      exact zip_two.mpr ⟨_, _, rfl, by rw [sort_nm]; exact h'.1, by rw [sort_sy]; exact ih h'.2 (Nat.le_of_succ_le_succ d)⟩
def sp_count (n : Nat) : Sp := fun vs H Q _ => ∃ v s, vs = [v] ∧ Rep H v s ∧ s.depth < n ∧ ∀ H', Same H H' → Q (.int s.parts) H'
def AnySay (H : Hp) (v : V) (s : Sy) : Prop := Rep H v s ∧ wfB s = true ∧ s.depth ≤ 12 ∧ s.parts ≤ 60
def sp_anysay : Sp := fun vs H Q _ => ∃ v, vs = [v] ∧ Exp H 12 v ∧ ∀ b H', Same H H' → (b = true ↔ ∃ s, AnySay H v s) → Q (.bl b) H'
end SS
namespace SS
open PySem PySem.Spec PyProof.Rows L2
structure Forms (K : PySem.W.Frag) (w : World) (fa : Addr) : Prop where
  ex : ∃ f, DctK K w fa f ∧ ∀ x, (∃ ss b, forms.lookup x = some ss ∧ f x = some (.ref b) ∧ ∀ H, SqT K H b (List.map V.str ss)) ∨ (forms.lookup x = none ∧ f x = none)
end SS
set_option Elab.async false
set_option linter.all false
set_option maxRecDepth 100000
set_option maxHeartbeats 1000000
namespace SS
open PySem PySem.Spec PyProof.Rows L2
inductive Lit where
  | str (z : Str)
  | oth
  | tnil
  | tcons (x r : Lit)
  deriving DecidableEq
def Oth (H : Hp) (v : V) : Prop := ∃ k, Kd H v k ∧ k ≠ "str" ∧ k ≠ "tuple"
def LitAt (H : Hp) : Lit → V → Prop
  | .str z, v => v = .str z ∧ z.length ≤ 1000
  | .oth, v => Oth H v
  | .tnil, v => ∃ a, v = .ref a ∧ H a = some (.tup [])
  | .tcons x r, v => ∃ a y ys, v = .ref a ∧ H a = some (.tup (y :: ys)) ∧ ys.length ≤ 100 ∧ LitAt H x y ∧ Items H r ys
where Items (H : Hp) : Lit → List V → Prop
  | .tcons x r, ys => ∃ z zs, ys = z :: zs ∧ LitAt H x z ∧ Items H r zs
  | .tnil, ys => ys = []
  | _, _ => False
abbrev Items := LitAt.Items
end SS
namespace SS
open PySem PySem.Spec PyProof.Rows L2
theorem Oth.same {H H' : Hp} {v : V} (g : Same H H') (h : Oth H v) : Oth H' v := let ⟨k, z, r⟩ := h; ⟨k, z.same g, r⟩
mutual
theorem LitAt.same {H H' : Hp} (g : Same H H') : ∀ {l : Lit} {v : V}, LitAt H l v → LitAt H' l v
  | .str z, _, h => h
  | .oth, _, h => Oth.same g h
  | .tnil, _, ⟨a, e, h⟩ => ⟨a, e, g _ _ h⟩
  | .tcons x r, _, ⟨a, y, ys, e, h, hl, h1, h2⟩ => ⟨a, y, ys, e, g _ _ h, hl, LitAt.same g h1, Items.same g h2⟩
theorem Items.same {H H' : Hp} (g : Same H H') : ∀ {l : Lit} {ys : List V}, Items H l ys → Items H' l ys
  | .tcons x r, _, ⟨z, zs, e, h1, h2⟩ => ⟨z, zs, e, LitAt.same g h1, Items.same g h2⟩
  | .tnil, _, h => h
  | .str _, _, h => h
  | .oth, _, h => h
end
theorem LitAt.thing {H : Hp} : ∀ {l : Lit} {v : V}, LitAt H l v → Thing H v
  | .str z, _, ⟨e, h⟩ => by subst e; exact .str h
  | .oth, v, ⟨k, h, h1, _⟩ => ⟨⟨k, h⟩, fun z e => by subst e; cases h; exact absurd rfl h1⟩
  | .tnil, _, ⟨a, e, h⟩ => by subst e; exact .tup h
  | .tcons x r, _, ⟨a, y, ys, e, h, _, _, _⟩ => by subst e; exact .tup h
mutual
theorem LitAt.exp {H : Hp} : ∀ (n : Nat) {l : Lit} {v : V}, LitAt H l v → Exp H n v
  | 0, _, _, h => h.thing
  | n + 1, .str z, _, h => ⟨h.thing, fun a xs e _ => by rw [h.1] at e; cases e⟩
  | n + 1, .oth, v, h => ⟨h.thing, fun a xs e e' => by
    subst e
    obtain ⟨k, hk, _, h2⟩ := h
    exact absurd (hk.inj (.tup e')) h2⟩
  | n + 1, .tnil, _, h => ⟨h.thing, fun a xs e e' => by
    obtain ⟨a', e1, e2⟩ := h
    rw [e] at e1
    cases e1
    rw [e2] at e'
    cases e'
    exact ⟨Nat.zero_le _, fun x hx => nomatch hx⟩⟩
  | n + 1, .tcons x r, _, h => ⟨h.thing, fun a xs e e' => by
    obtain ⟨a', y, ys, e1, e2, hl, h1, h2⟩ := h
    rw [e] at e1
    cases e1
    rw [e2] at e'
    cases e'
    refine ⟨by rw [List.length_cons]; omega, fun x' hx => ?_⟩
    rcases List.mem_cons.mp hx with rfl | hx
    · exact LitAt.exp n h1
    · exact Items.exp n h2 x' hx⟩
theorem Items.exp {H : Hp} : ∀ (n : Nat) {l : Lit} {ys : List V}, Items H l ys → ∀ y ∈ ys, Exp H n y
  | n, .tcons x r, _, ⟨z, zs, e, h1, h2⟩, y, hy => by
    subst e
    rcases List.mem_cons.mp hy with rfl | hy
    · exact LitAt.exp n h1
    · exact Items.exp n h2 y hy
  | n, .tnil, _, h, y, hy => by rw [show _ = [] from h] at hy; exact nomatch hy
  | n, .str _, _, h, y, hy => False.elim h
  | n, .oth, _, h, y, hy => False.elim h
end
end SS
set_option Elab.async false
set_option linter.all false
set_option maxRecDepth 100000
set_option maxHeartbeats 1000000
namespace SS
open PySem PySem.Spec PyProof.Rows L2
theorem nm_len {z l : Str} (h : isNm (.str z) l = true) : z.length ≤ 4 := by
  obtain ⟨c, r, e, hl, _⟩ := nm_ex h
  rw [str_len, e, List.length_cons]
  omega
theorem Exp.str {H : Hp} {z : Str} (h : z.length ≤ 1000) : ∀ n, Exp H n (.str z)
  | 0 => Thing.str h
  | n + 1 => ⟨Thing.str h, fun a xs e => by cases e⟩
theorem Exp.tup {H : Hp} {a : Addr} {xs : List V} {n : Nat} (e : H a = some (.tup xs)) (hl : xs.length ≤ 1000) (h : ∀ x ∈ xs, Exp H n x) : Exp H (n + 1) (.ref a) :=
  ⟨Thing.tup e, fun a' xs' ev e' => by cases ev; rw [e] at e'; cases e'; exact ⟨hl, h⟩⟩
theorem place_words_row : ∀ w ∈ placeWords false, w ≠ "in" ∧ w ≠ "within" ∧ w ∉ treeWords := by decide +kernel
theorem place_words_tree : ∀ w ∈ placeWords true, w ≠ "in" ∧ w ≠ "within" ∧ w ∉ rowWords := by decide +kernel
def barredOf (tb : Bool) : List Str := if tb then rowWords else treeWords
theorem place_words (tb : Bool) : ∀ w ∈ placeWords tb, w ≠ "in" ∧ w ≠ "within" ∧ w ∉ barredOf tb := by
  cases tb
  · exact place_words_row
  · exact place_words_tree
theorem barred_in (tb : Bool) : ("in" : Str) ∉ barredOf tb ∧ ("within" : Str) ∉ barredOf tb ∧ ("not" : Str) ∉ barredOf tb ∧ (∀ w ∈ (["and", "or"] : List Str), w ∉ barredOf tb) ∧ ∀ w ∈ (["some", "all"] : List Str), w ∉ barredOf tb := by
  cases tb <;> decide +kernel
theorem good_let (tb : Bool) : ∀ (s : Sy) (tl : List Str), tl.length ≤ mxOf tb → Good tb (mxOf tb) tl s → wfB s = true ∧ letB (barredOf tb) (mxOf tb) tl s = true
  | .bare w n m, tl, hl, ⟨h1, h2, h3⟩ => by
    have hb := barred_in tb
    refine ⟨?_, ?_⟩
    · show (if w = ("in" : Str) then isPl n && isSt m else if w = ("within" : Str) then isSt n && isSt m else isPl n && isPl m) = true
      rcases h3 with ⟨rfl, a, b⟩ | ⟨rfl, a, b⟩ | ⟨hw, a, b⟩
      · rw [if_pos rfl, a, b]; rfl
      · rw [if_neg (by decide +kernel), if_pos rfl, a, b]; rfl
      · obtain ⟨n1, n2, _⟩ := place_words tb w hw
        rw [if_neg n1, if_neg n2, a, b]; rfl
    · have hw : w ∉ barredOf tb := by
        rcases h3 with ⟨rfl, _⟩ | ⟨rfl, _⟩ | ⟨hw, _⟩
        · exact hb.1
        · exact hb.2.1
        · exact (place_words tb w hw).2.2
      show (decide _ && decide _ && (decide _ && decide _)) = true
      rw [decide_eq_true hl, decide_eq_true hw, decide_eq_true h1, decide_eq_true h2]
      rfl
  | .neg s, tl, hl, h => by
    obtain ⟨a, b⟩ := good_let tb s tl hl h
    refine ⟨a, ?_⟩
    show (decide _ && decide _ && letB _ _ tl s) = true
    rw [decide_eq_true hl, decide_eq_true (barred_in tb).2.2.1, b]
    rfl
  | .two w s t, tl, hl, ⟨hw, h1, h2⟩ => by
    obtain ⟨a, b⟩ := good_let tb s tl hl h1
    obtain ⟨a', b'⟩ := good_let tb t tl hl h2
    refine ⟨by show (wfB s && wfB t) = true; rw [a, a']; rfl, ?_⟩
    show (decide _ && decide _ && (letB _ _ tl s && letB _ _ tl t)) = true
    rw [decide_eq_true hl, decide_eq_true ((barred_in tb).2.2.2.1 w hw), b, b']
    rfl
  | .qu w n s, tl, hl, ⟨hw, hn, _, hx, hm, h⟩ => by
    obtain ⟨a, b⟩ := good_let tb s (tl ++ [n]) (by rw [List.length_append, List.length_singleton]; omega) h
    refine ⟨by show (isName _ && wfB s) = true; rw [hn, a]; rfl, ?_⟩
    show (decide _ && decide _ && (decide _ && letB _ _ (tl ++ [n]) s)) = true
    rw [decide_eq_true hl, decide_eq_true ((barred_in tb).2.2.2.2 w hw), decide_eq_true hx, b]
    rfl
end SS
set_option Elab.async false
set_option linter.all false
set_option maxRecDepth 100000
set_option Elab.async false
set_option linter.all false
set_option maxRecDepth 100000
set_option maxHeartbeats 1000000
set_option Elab.async false
set_option linter.all false
set_option maxRecDepth 100000
namespace SS
open PySem PySem.Spec PyProof.Rows L2
section
variable {K : PySem.W.Frag} {w : World} {h : Heap} {mg : Str → Option Value}
theorem sqt_mk {p : Addr} {od : Option Addr} {its : Array Value} {n : Nat} {sl : Array (Option Value)} {xs : List V} (l : K.lookup p = some ⟨.type "tuple", od, .seq its n, sl⟩) (z : its.size ≤ sizeLine) (r : Vals xs its.toList) : ∀ H, SqT K H p xs :=
  fun H => .inr ⟨_, its, n, l, rfl, rfl, z, r⟩
def Entry (K : PySem.W.Frag) (e : DictEntry) (p : Str × List Str) : Prop := (∃ t, e.key = .str p.1 t) ∧ ∃ b, e.val = .ref b ∧ ∀ H, SqT K H b (List.map V.str p.2)
theorem entries_find : ∀ {es : List DictEntry} {ps : List (Str × List Str)}, Paired (Entry K) es ps → ∀ x, (∃ ss b, ps.lookup x = some ss ∧ findBy Value.isStrOf es.toArray x = some (.ref b) ∧ ∀ H, SqT K H b (List.map V.str ss)) ∨ (ps.lookup x = none ∧ findBy Value.isStrOf es.toArray x = none)
  | _, _, .nil, x => .inr ⟨rfl, by simp [findBy]⟩
  | e :: es, p :: ps, .cons ⟨⟨t, ek⟩, b, ev, hb⟩ r, x => by
    have ih := entries_find r x
    unfold findBy at ih ⊢
    rw [List.find?_toArray] at ih ⊢
    rw [List.lookup_cons, List.find?_cons]
    by_cases h : x = p.1
    · subst h
      have e1 : Value.isStrOf p.1 e.key = true := by rw [ek]; simp [Value.isStrOf]
      rw [e1, beq_self_eq_true]
      exact .inl ⟨_, b, rfl, congrArg some ev, hb⟩
    · have h' : ¬ p.1 = x := fun q => h q.symm
      have e1 : Value.isStrOf x e.key = false := by rw [ek]; simp [Value.isStrOf, h']
      have e2 : (x == p.1) = false := by simp [h]
      rw [e1, e2]
      exact ih
theorem forms_mk {p : Addr} {es : Array DictEntry} {n : Nat} (X : K.In h) (G : h.Ns mainGlobals mg) (a : PySem.W.nsIn K mainGlobals "FORMS" = some (some (.ref p))) (lo : (p == sysModules) = false) (l : K.lookup p = some ⟨.type "dict", none, .dict es n, #[]⟩)
    (hk : PySem.W.KeysLit w.params es.toList) (he : Paired (Entry K) es.toList forms) : ∃ q, GlV mg "FORMS" (.ref q) ∧ Forms K w q := by
  refine ⟨p, ⟨_, PySem.W.mg_of X G a, rfl⟩, ⟨fun x => match findBy Value.isStrOf es x with | some (.ref b) => some (.ref b) | _ => none, ⟨lo, es, n, l, hk, fun x => ?_⟩, fun x => ?_⟩⟩
  · rcases entries_find he x with ⟨ss, b, e1, e2, _⟩ | ⟨e1, e2⟩
    · simp only [e2]; exact rfl
    · simp only [e2]; exact trivial
  · rcases entries_find he x with ⟨ss, b, e1, e2, hb⟩ | ⟨e1, e2⟩
    · exact .inl ⟨ss, b, e1, by simp only [e2], hb⟩
    · exact .inr ⟨e1, by simp only [e2]⟩
end
end SS
set_option Elab.async false
set_option linter.all false
set_option maxRecDepth 100000
set_option maxHeartbeats 1000000
set_option Elab.async false
set_option linter.all false
set_option maxRecDepth 100000
set_option maxHeartbeats 1000000
set_option Elab.async false
set_option linter.all false
set_option maxRecDepth 100000
set_option maxHeartbeats 1000000
namespace SS
open PySem PySem.Spec PyProof.Rows L2
abbrev ch (s : Str) : List Nat := s.cps.toList
theorem ch_app (a b : Str) : ch (a ++ b) = ch a ++ ch b := by
  show (a ++ b).cps.toList = _
  rw [Str.cps_append, Array.toList_append]
theorem ch_inj {a b : Str} (h : ch a = ch b) : a = b := Str.ext' (Array.toList_inj.mp h)
def cutAt (c : Nat) : List Nat → List (List Nat)
  | [] => [[]]
  | x :: l => if x = c then [] :: cutAt c l else match cutAt c l with
    | p :: r => (x :: p) :: r
    | [] => [[x]]
theorem cutAt_ne (c : Nat) : ∀ l, cutAt c l ≠ []
  | [] => by simp [cutAt]
  | x :: l => by
    unfold cutAt
    split
    · simp
    · split <;> simp
theorem cutAt_cons {c x : Nat} {l : List Nat} (h : ¬ x = c) : ∃ p r, cutAt c l = p :: r ∧ cutAt c (x :: l) = (x :: p) :: r := by
  cases e : cutAt c l with
  | nil => exact absurd e (cutAt_ne c l)
  | cons p r => exact ⟨p, r, rfl, by rw [cutAt, if_neg h, e]⟩
def joinAt (z : List Nat) : List (List Nat) → List Nat
  | [] => []
  | [p] => p
  | p :: q :: r => p ++ z ++ joinAt z (q :: r)
theorem ch_join (z : Str) : ∀ l : List Str, ch (Str.join z l) = joinAt (ch z) (l.map ch)
  | [] => rfl
  | [p] => rfl
  | p :: q :: r => by
    have ih := ch_join z (q :: r)
    show ch (p ++ z ++ Str.join z (q :: r)) = ch p ++ ch z ++ joinAt (ch z) (ch q :: r.map ch)
    rw [ch_app, ch_app, ih]
    rfl
theorem cut_app (c : Nat) : ∀ a b : List Nat, cutAt c (a ++ c :: b) = cutAt c a ++ cutAt c b
  | [], b => by simp [cutAt]
  | x :: a, b => by
    have ih := cut_app c a b
    by_cases h : x = c
    · rw [List.cons_append, cutAt, if_pos h, ih, cutAt, if_pos h, List.cons_append]
    · obtain ⟨p, r, e1, e2⟩ := cutAt_cons (l := a) h
      obtain ⟨p', r', e1', e2'⟩ := cutAt_cons (l := a ++ c :: b) h
      rw [ih, e1, List.cons_append] at e1'
      injection e1' with q1 q2
      rw [List.cons_append, e2', e2, ← q1, ← q2, List.cons_append]
theorem cut_free {c : Nat} : ∀ {a : List Nat}, c ∉ a → cutAt c a = [a]
  | [], _ => rfl
  | x :: a, h => by
    have h1 : ¬ x = c := fun e => h (e ▸ List.mem_cons_self)
    obtain ⟨p, r, e1, e2⟩ := cutAt_cons (l := a) h1
    rw [cut_free fun m => h (List.mem_cons_of_mem _ m)] at e1
    injection e1 with q1 q2
    rw [e2, ← q1, ← q2]
theorem cut_join (c : Nat) : ∀ parts : List (List Nat), parts ≠ [] → (∀ p ∈ parts, c ∉ p) → cutAt c (joinAt [c] parts) = parts
  | [], h, _ => absurd rfl h
  | [p], _, h => cut_free (h p (List.mem_singleton.mpr rfl))
  | p :: q :: r, _, h => by
    have ih := cut_join c (q :: r) (by simp) fun a ha => h a (List.mem_cons_of_mem _ ha)
    show cutAt c (p ++ [c] ++ joinAt [c] (q :: r)) = _
    rw [List.append_assoc, List.singleton_append, cut_app, ih, cut_free (h p List.mem_cons_self)]
    rfl
theorem split_ne (x y : Str) : Txt.split x y ≠ [] := by
  unfold Txt.split
  split
  · simp
  · split
    · simp
    · rw [StrLaws.partsBetween_eq]
      obtain ⟨p, r, e⟩ := StrLaws.partsFrom_ne x y.length 0 (Builtin.Str.occurrences x y 0 x.length (x.length + 1))
      rw [e]
      simp
theorem split_cut (x : Str) (c : Nat) : (Txt.split x ⟨#[c]⟩).map ch = cutAt c (ch x) := by
  have h := ch_join ⟨#[c]⟩ (Txt.split x ⟨#[c]⟩)
  rw [StrLaws.join_split] at h
  rw [h]
  refine (cut_join c _ (fun e => split_ne x ⟨#[c]⟩ (List.map_eq_nil_iff.mp e)) fun p hp => ?_).symm
  obtain ⟨q, mq, rfl⟩ := List.mem_map.mp hp
  exact StrLaws.split_free x c q mq
theorem split_len (x : Str) (c : Nat) : (Txt.split x ⟨#[c]⟩).length = (cutAt c (ch x)).length := by rw [← split_cut, List.length_map]
theorem cut_len (c : Nat) : ∀ l : List Nat, (cutAt c l).length ≤ l.length + 1
  | [] => by simp [cutAt]
  | x :: l => by
    have ih := cut_len c l
    by_cases h : x = c
    · rw [cutAt, if_pos h, List.length_cons, List.length_cons]; omega
    · obtain ⟨p, r, e1, e2⟩ := cutAt_cons (l := l) h
      rw [e1, List.length_cons] at ih
      rw [e2, List.length_cons, List.length_cons]
      omega
def each (c : Nat) (z : List Nat) (l : List Nat) : List Nat := l.flatMap fun k => if k = c then z else [k]
theorem join_cut (c : Nat) (z : List Nat) : ∀ l, joinAt z (cutAt c l) = each c z l
  | [] => rfl
  | x :: l => by
    have ih := join_cut c z l
    by_cases h : x = c
    · rw [cutAt, if_pos h]
      cases e : cutAt c l with
      | nil => exact absurd e (cutAt_ne c l)
      | cons p r =>
        show [] ++ z ++ joinAt z (p :: r) = _
        rw [← e, ih, List.nil_append]
        unfold each
        rw [List.flatMap_cons, if_pos h]
    · obtain ⟨p, r, e1, e2⟩ := cutAt_cons (l := l) h
      rw [e2]
      have e3 : joinAt z ((x :: p) :: r) = x :: joinAt z (p :: r) := by cases r <;> rfl
      rw [e3, ← e1, ih]
      unfold each
      rw [List.flatMap_cons, if_neg h]
      rfl
theorem replace_each (x z : Str) (c : Nat) : ch (Txt.replace x ⟨#[c]⟩ z) = each c (ch z) (ch x) := by
  rw [StrLaws.replace_one, ch_join, split_cut, join_cut]
def padOf (k : Nat) : List Nat := if k = 40 then [32, 40, 32] else if k = 41 then [32, 41, 32] else [k]
def padL (l : List Nat) : List Nat := l.flatMap padOf
theorem pad_each (l : List Nat) : each 41 [32, 41, 32] (each 40 [32, 40, 32] l) = padL l := by
  unfold each padL
  rw [List.flatMap_assoc]
  refine congrArg (fun f => List.flatMap f l) (funext fun k => ?_)
  unfold padOf
  by_cases h1 : k = 40
  · rw [if_pos h1, if_pos h1]; rfl
  · rw [if_neg h1, if_neg h1]
    by_cases h2 : k = 41
    · rw [if_pos h2]; subst h2; rfl
    · rw [if_neg h2]; simp [h2]
theorem padL_app (a b : List Nat) : padL (a ++ b) = padL a ++ padL b := by unfold padL; rw [List.flatMap_append]
theorem padL_free : ∀ {a : List Nat}, 40 ∉ a → 41 ∉ a → padL a = a
  | [], _, _ => rfl
  | x :: a, h1, h2 => by
    have ih := padL_free (a := a) (fun m => h1 (List.mem_cons_of_mem _ m)) fun m => h2 (List.mem_cons_of_mem _ m)
    unfold padL at ih ⊢
    rw [List.flatMap_cons, ih]
    have e1 : ¬ x = 40 := fun e => h1 (e ▸ List.mem_cons_self)
    have e2 : ¬ x = 41 := fun e => h2 (e ▸ List.mem_cons_self)
    unfold padOf
    rw [if_neg e1, if_neg e2]
    rfl
theorem padL_len (l : List Nat) : (padL l).length ≤ 3 * l.length := by
  induction l with
  | nil => simp [padL]
  | cons x l ih =>
    have : padL (x :: l) = padOf x ++ padL l := by unfold padL; rw [List.flatMap_cons]
    rw [this, List.length_append, List.length_cons]
    have : (padOf x).length ≤ 3 := by unfold padOf; split <;> (try split) <;> simp
    omega
theorem each_len {c : Nat} {z : List Nat} (hz : z.length ≤ 3) (l : List Nat) : (each c z l).length ≤ 3 * l.length := by
  induction l with
  | nil => simp [each]
  | cons x l ih =>
    have : each c z (x :: l) = (if x = c then z else [x]) ++ each c z l := by unfold each; rw [List.flatMap_cons]
    rw [this, List.length_append, List.length_cons]
    have : (if x = c then z else [x]).length ≤ 3 := by split <;> simp [*]
    omega
def wordsL (l : List Nat) : List (List Nat) := (cutAt 32 l).filter fun p => !p.isEmpty
theorem words_app (a b : List Nat) : wordsL (a ++ 32 :: b) = wordsL a ++ wordsL b := by
  unfold wordsL
  rw [cut_app, List.filter_append]
theorem words_one {a : List Nat} (h : 32 ∉ a) (hn : a ≠ []) : wordsL a = [a] := by
  unfold wordsL
  rw [cut_free h]
  cases a with
  | nil => exact absurd rfl hn
  | cons x r => rfl
theorem words_nil : wordsL [] = [] := rfl
def wordsT (x : Str) : List Str := (Txt.split (Txt.replace (Txt.replace x "(" " ( ") ")" " ) ") " ").filter fun p => decide (p ≠ "")
theorem ch_lit1 : ch ("(" : Str) = [40] ∧ ch (" ( " : Str) = [32, 40, 32] ∧ ch (")" : Str) = [41] ∧ ch (" ) " : Str) = [32, 41, 32] ∧ ch (" " : Str) = [32] := by decide +kernel
theorem lit1 : ("(" : Str) = ⟨#[40]⟩ ∧ (")" : Str) = ⟨#[41]⟩ ∧ (" " : Str) = ⟨#[32]⟩ := by decide +kernel
theorem pad_str (x : Str) : ch (Txt.replace (Txt.replace x "(" " ( ") ")" " ) ") = padL (ch x) := by
  obtain ⟨_, h1, _, h2, _⟩ := ch_lit1
  rw [lit1.1, lit1.2.1, replace_each, replace_each, h1, h2, pad_each]
theorem wordsT_ch (x : Str) : (wordsT x).map ch = wordsL (padL (ch x)) := by
  unfold wordsT wordsL
  rw [lit1.2.2, ← pad_str, ← split_cut, List.filter_map]
  refine congrArg (List.map ch) (List.filter_congr fun p _ => ?_)
  show decide (p ≠ "") = !(ch p).isEmpty
  by_cases h : p = ""
  · subst h; decide +kernel
  · rw [decide_eq_true h]
    cases e : ch p with
    | nil => exact absurd (ch_inj (a := p) (b := "") (by rw [e]; decide +kernel)) h
    | cons _ _ => rfl
end SS
set_option Elab.async false
set_option linter.all false
set_option maxRecDepth 100000
set_option maxHeartbeats 1000000
namespace SS
open PySem PySem.Spec PyProof.Rows L2
def textS : Sy → Str
  | .bare w n m => Str.join " " [n, w, m]
  | .neg s => "not " ++ textS s
  | .two w s t => "(" ++ Str.join " " [textS s, w, textS t] ++ ")"
  | .qu w n s => Str.join " " [w, n, textS s]
def toksS : Sy → List Str
  | .bare w n m => [n, w, m]
  | .neg s => "not" :: toksS s
  | .two w s t => "(" :: (toksS s ++ w :: (toksS t ++ [(")" : Str)]))
  | .qu w n s => w :: n :: toksS s
def wdB : Sy → Bool
  | .bare w _ _ => decide (w ∈ bareWords)
  | .neg s => wdB s
  | .two w s t => decide (w ∈ (["and", "or"] : List Str)) && (wdB s && wdB t)
  | .qu w _ s => decide (w ∈ (["some", "all"] : List Str)) && wdB s
theorem Rep.wd {H : Hp} {v : V} {s : Sy} (r : Rep H v s) : wdB s = true := by
  induction r with
  | bare hw _ => exact decide_eq_true hw
  | neg _ _ ih => exact ih
  | two hw _ _ _ ih1 ih2 => simp only [wdB, Bool.and_eq_true]; exact ⟨decide_eq_true hw, ih1, ih2⟩
  | qu hw _ _ ih => simp only [wdB, Bool.and_eq_true]; exact ⟨decide_eq_true hw, ih⟩
structure Plain (z : Str) : Prop where
  ne : ch z ≠ []
  b : 32 ∉ ch z
  o : 40 ∉ ch z
  c : 41 ∉ ch z
  l : z.length ≤ 6
theorem Plain.words {z : Str} (h : Plain z) : wordsL (padL (ch z)) = [ch z] := by rw [padL_free h.o h.c, words_one h.b h.ne]
theorem plain_of {z : Str} (h : (!(ch z).isEmpty && !(ch z).contains 32 && !(ch z).contains 40 && !(ch z).contains 41 && decide (z.length ≤ 6)) = true) : Plain z := by
  simp only [Bool.and_eq_true, Bool.not_eq_true', decide_eq_true_eq] at h
  obtain ⟨⟨⟨⟨h1, h2⟩, h3⟩, h4⟩, h5⟩ := h
  refine ⟨(fun e => by rw [e] at h1; cases h1), fun m => ?_, fun m => ?_, fun m => ?_, h5⟩
  · rw [List.contains_iff_mem.mpr m] at h2; cases h2
  · rw [List.contains_iff_mem.mpr m] at h3; cases h3
  · rw [List.contains_iff_mem.mpr m] at h4; cases h4
theorem plain_words : ∀ w ∈ bareWords, Plain w := fun w hw => plain_of ((by decide +kernel : ∀ w ∈ bareWords, (!(ch w).isEmpty && !(ch w).contains 32 && !(ch w).contains 40 && !(ch w).contains 41 && decide (w.length ≤ 6)) = true) w hw)
theorem plain_join : ∀ w ∈ (["and", "or"] : List Str), Plain w := fun w hw => plain_of ((by decide +kernel : ∀ w ∈ (["and", "or"] : List Str), (!(ch w).isEmpty && !(ch w).contains 32 && !(ch w).contains 40 && !(ch w).contains 41 && decide (w.length ≤ 6)) = true) w hw)
theorem plain_tell : ∀ w ∈ (["some", "all"] : List Str), Plain w := fun w hw => plain_of ((by decide +kernel : ∀ w ∈ (["some", "all"] : List Str), (!(ch w).isEmpty && !(ch w).contains 32 && !(ch w).contains 40 && !(ch w).contains 41 && decide (w.length ≤ 6)) = true) w hw)
theorem plain_not : Plain "not" := plain_of (by decide +kernel)
theorem nm_signs {z l : Str} (hl : ∀ c ∈ ch l, c ≠ 32 ∧ c ≠ 40 ∧ c ≠ 41) (h : isNm (.str z) l = true) : Plain z := by
  have hf : ∀ c ∈ FIGS.cps.toList, c ≠ 32 ∧ c ≠ 40 ∧ c ≠ 41 := by decide +kernel
  obtain ⟨c, r, e, h3, hc, hr⟩ := nm_ex h
  have all : ∀ d ∈ ch z, d ≠ 32 ∧ d ≠ 40 ∧ d ≠ 41 := fun d hd => by
    rw [show ch z = c :: r from e] at hd
    rcases List.mem_cons.mp hd with rfl | hd
    · exact hl _ hc
    · exact hf d (hr d hd)
  exact ⟨by rw [show ch z = c :: r from e]; simp, fun m => (all _ m).1 rfl, fun m => (all _ m).2.1 rfl, fun m => (all _ m).2.2 rfl, by have := nm_len h; omega⟩
theorem plain_pl {z : Str} (h : isPl z = true) : Plain z := nm_signs (by decide +kernel) h
theorem plain_st {z : Str} (h : isSt z = true) : Plain z := nm_signs (by decide +kernel) h
theorem plain_name {z : Str} (h : isName (.str z) = true) : Plain z := (name_cases h).elim plain_pl plain_st
theorem nm_no {z l : Str} (h : isNm (.str z) l = true) : z ≠ "not" ∧ z ≠ "some" ∧ z ≠ "all" := by
  obtain ⟨c, r, e, h3, hc, hr⟩ := nm_ex h
  have key : ∀ y : Str, (match ch y with | _ :: d :: _ => !(FIGS.cps.toList.contains d) | _ => false) = true → z ≠ y := fun y hy ez => by
    subst ez
    rw [show ch z = c :: r from e] at hy
    cases r with
    | nil => cases hy
    | cons d r' =>
      have := hr d List.mem_cons_self
      simp only [List.contains_iff_mem.mpr this] at hy
      cases hy
  exact ⟨key _ (by decide +kernel), key _ (by decide +kernel), key _ (by decide +kernel)⟩
theorem wf_bare {w n m : Str} (h : wfB (.bare w n m) = true) : (Plain n ∧ n ≠ "not" ∧ n ≠ "some" ∧ n ≠ "all") ∧ Plain m := by
  have h' : (if w = ("in" : Str) then isPl n && isSt m else if w = ("within" : Str) then isSt n && isSt m else isPl n && isPl m) = true := h
  split at h'
  · rw [Bool.and_eq_true] at h'; exact ⟨⟨plain_pl h'.1, nm_no h'.1⟩, plain_st h'.2⟩
  · split at h'
    · rw [Bool.and_eq_true] at h'; exact ⟨⟨plain_st h'.1, nm_no h'.1⟩, plain_st h'.2⟩
    · rw [Bool.and_eq_true] at h'; exact ⟨⟨plain_pl h'.1, nm_no h'.1⟩, plain_pl h'.2⟩
theorem ch_join3 (a b c : Str) : ch (Str.join " " [a, b, c]) = ch a ++ 32 :: (ch b ++ 32 :: ch c) := by
  rw [ch_join]
  show ch a ++ ch " " ++ (ch b ++ ch " " ++ ch c) = _
  rw [ch_lit1.2.2.2.2]
  simp
theorem padL_blank (a b : List Nat) : padL (a ++ 32 :: b) = padL a ++ 32 :: padL b := by
  rw [padL_app]
  rfl
theorem words_text : ∀ s : Sy, wdB s = true → wfB s = true → wordsL (padL (ch (textS s))) = (toksS s).map ch
  | .bare w n m, hd, hw => by
    obtain ⟨⟨pn, _⟩, pm⟩ := wf_bare hw
    have pw := plain_words w (of_decide_eq_true hd)
    show wordsL (padL (ch (Str.join " " [n, w, m]))) = [ch n, ch w, ch m]
    rw [ch_join3, padL_blank, padL_blank, words_app, words_app, pn.words, pw.words, pm.words]
    rfl
  | .neg s, hd, hw => by
    have ih := words_text s hd hw
    show wordsL (padL (ch ("not " ++ textS s))) = ch "not" :: (toksS s).map ch
    have e : ch ("not " : Str) = ch ("not" : Str) ++ [32] := by decide +kernel
    rw [ch_app, e, List.append_assoc, List.singleton_append, padL_blank, words_app, plain_not.words, ih]
    rfl
  | .qu w n s, hd, hw => by
    simp only [wdB, Bool.and_eq_true, decide_eq_true_eq] at hd
    have hw' : (isName (.str n) && wfB s) = true := hw
    rw [Bool.and_eq_true] at hw'
    have ih := words_text s hd.2 hw'.2
    show wordsL (padL (ch (Str.join " " [w, n, textS s]))) = ch w :: ch n :: (toksS s).map ch
    rw [ch_join3, padL_blank, padL_blank, words_app, words_app, (plain_tell w hd.1).words, (plain_name hw'.1).words, ih]
    rfl
  | .two w s t, hd, hw => by
    simp only [wdB, Bool.and_eq_true, decide_eq_true_eq] at hd
    have hw' : (wfB s && wfB t) = true := hw
    rw [Bool.and_eq_true] at hw'
    have ih1 := words_text s hd.2.1 hw'.1
    have ih2 := words_text t hd.2.2 hw'.2
    show wordsL (padL (ch ("(" ++ Str.join " " [textS s, w, textS t] ++ ")"))) = ch "(" :: (toksS s ++ w :: (toksS t ++ [(")" : Str)])).map ch
    rw [ch_app, ch_app, ch_join3, ch_lit1.1, ch_lit1.2.2.1]
    have e1 : padL ([40] ++ (ch (textS s) ++ 32 :: (ch w ++ 32 :: ch (textS t))) ++ [41]) = [] ++ 32 :: ([40] ++ 32 :: (padL (ch (textS s)) ++ 32 :: (padL (ch w) ++ 32 :: (padL (ch (textS t)) ++ 32 :: ([41] ++ 32 :: []))))) := by
      rw [padL_app, padL_app, padL_blank, padL_blank]
      show [32, 40, 32] ++ _ ++ [32, 41, 32] = _
      simp
    rw [e1, words_app, words_app, words_app, words_app, words_app, words_app, ih1, ih2, (plain_join w hd.1).words, words_nil, words_one (a := [40]) (by decide) (by decide), words_one (a := [41]) (by decide) (by decide)]
    simp [ch_lit1.2.2.1]
theorem map_ch_inj : ∀ {a b : List Str}, a.map ch = b.map ch → a = b
  | [], [], _ => rfl
  | [], _ :: _, h => by cases h
  | _ :: _, [], h => by cases h
  | x :: a, y :: b, h => by
    rw [List.map_cons, List.map_cons] at h
    injection h with h1 h2
    rw [ch_inj h1, map_ch_inj h2]
theorem wordsT_text {s : Sy} (hd : wdB s = true) (hw : wfB s = true) : wordsT (textS s) = toksS s := map_ch_inj (by rw [wordsT_ch, words_text s hd hw])
theorem str_size (z : Str) : z.length = (ch z).length := str_len z
theorem parts_pos : ∀ s : Sy, 1 ≤ s.parts
  | .bare _ _ _ => Nat.le_refl _
  | .neg s => by have := depth_neg s; omega
  | .two w s t => by have := depth_two w s t; omega
  | .qu w n s => by have := depth_qu w n s; omega
theorem app_len (a b : Str) : (a ++ b).length = a.length + b.length := by rw [str_size, ch_app, List.length_append, ← str_size, ← str_size]
theorem toks_len : ∀ s : Sy, (toksS s).length ≤ 4 * s.parts
  | .bare w n m => by show 3 ≤ 4; omega
  | .neg s => by have := toks_len s; have := depth_neg s; show (_ :: toksS s).length ≤ _; rw [List.length_cons]; omega
  | .two w s t => by
    have := toks_len s
    have := toks_len t
    have := depth_two w s t
    show (_ :: (toksS s ++ w :: (toksS t ++ [(")" : Str)]))).length ≤ _
    simp only [List.length_cons, List.length_append, List.length_nil]
    omega
  | .qu w n s => by have := toks_len s; have := depth_qu w n s; show (_ :: _ :: toksS s).length ≤ _; rw [List.length_cons, List.length_cons]; omega
end SS
set_option Elab.async false
set_option linter.all false
namespace L2
open PySem PySem.Spec PyProof.Rows
variable {X : Cx}
end L2
set_option Elab.async false
set_option linter.all false
set_option maxRecDepth 100000
set_option Elab.async false
set_option linter.all false
set_option maxRecDepth 100000
set_option Elab.async false
set_option linter.all false
set_option maxRecDepth 100000
set_option Elab.async false
set_option linter.all false
set_option maxRecDepth 100000
set_option Elab.async false
set_option linter.all false
set_option maxRecDepth 100000
namespace L2
open PySem PySem.Spec PyProof.Rows
def NeOk (X : Cx) (k : Nat) (H : Hp) (x y : V) (b : Bool) : Prop := ∀ (pins : List (Addr × Obj)) (σ : St) (s : Shared) (A : Around) (u v : Value), A.units + k < cLine → Inv X pins σ H s → RelV x u → RelV y v → SeqAt.RcNeAt A s u v b
theorem neok_tups {X : Cx} {k : Nat} {H : Hp} {a b : Addr} {xs ys : List V} (hx : SqT X.K H a xs) (hy : SqT X.K H b ys) (e : Nat → Bool) (he : ∀ j (h1 : j < xs.length) (h2 : j < ys.length), EqOk X k H xs[j] ys[j] (e j)) :
    NeOk X (k + 1) H (.ref a) (.ref b) (!((List.range (min xs.length ys.length)).all e && xs.length == ys.length)) := fun pins σ s A u v hu I rx ry => by
  cases (show u = Value.ref a from rx)
  cases (show v = Value.ref b from ry)
  obtain ⟨us, r1, p1, _⟩ := I.tuple hx
  obtain ⟨vs, r2, p2, _⟩ := I.tuple hy
  have l1 := r1.length
  have l2 := r2.length
  have q := SeqAt.RcNeAt.tuples (A := A) (e := e) p1 p2 (by omega) fun j h1 h2 => by
    rw [List.size_toArray] at h1 h2
    obtain ⟨g1, q1⟩ := r1.at h1
    obtain ⟨g2, q2⟩ := r2.at h2
    exact he j g1 g2 pins σ s A.in1 _ _ (by show A.units + 1 + k < cLine; omega) I (by simpa using q1) (by simpa using q2)
  rw [List.size_toArray, List.size_toArray, ← l1, ← l2] at q
  exact q
def rRepN : R2 := fun x y H Q => ∃ l k xs, x = .ref l ∧ y = .int k ∧ H l = some (.lst xs) ∧ -(2 ^ 63) ≤ k ∧ k < 2 ^ 63 ∧ xs.length * k.toNat ≤ sizeLine ∧ ∀ p H', New H p (.lst (List.replicate k.toNat xs).flatten) H' → Q (.ref p) H'
theorem op_repN {X : Cx} : OpR X (binaryOp .Mult) rRepN := fun pins s σ H x y v u Q I rx ry h => by
  obtain ⟨l, k, xs, e1, e2, h1, h2, h3, h4, q⟩ := h
  exact op_rep pins s σ H x y v u Q I rx ry ⟨l, k, xs, e1, e2, h1, h2, h3, h4, fun p np => q p _ (.mk' np _)⟩
end L2
set_option Elab.async false
set_option linter.all false
set_option maxRecDepth 100000
namespace L2
open PySem PySem.Spec PyProof.Rows
set_option maxHeartbeats 1000000 in
theorem enum_newZ (z ti ro : Addr) :
    Meets (Builtin.«enumerate.__new__» ⟨[.type "enumerate", .ref z], []⟩) (fun _ R s => IsZip s.heap z ti ro .none ∧
      R (.ok (.ret (.ref s.heap.objs.size))) { s with heap := s.heap.push { cls := .type "enumerate", data := .fields #[.none, .bool false, .ref z, rawInt 0, .none, .none] } }) :=
  .of_wp fun prog w A R s h => by
    obtain ⟨hp, g, d, tk, os⟩ := s; obtain ⟨hl, h⟩ := h
    have hsub := sub_enumerate
    have hL : IsZip (Shared.heap ⟨hp, g, d, tk, os⟩) z ti ro .none := hl
    wp_walk using AutoSeq1.wpAny_loadPart' hl
    refine wpAny_stack_any fun st => wpAny_pure ?_
    split
    · rename_i c _ _ _ _ _
      cases (c == Value.type "enumerate")
      · wp_walk using AutoSeq1.wpAny_loadPart' hl, wpAny_pyIter_zip hL
        exact ⟨_, rfl, h⟩
      · wp_walk using AutoSeq1.wpAny_loadPart' hl, wpAny_pyIter_zip hL
        exact ⟨_, rfl, h⟩
    · wp_walk using AutoSeq1.wpAny_loadPart' hl, wpAny_pyIter_zip hL
      exact ⟨_, rfl, h⟩
end L2
set_option Elab.async false
set_option linter.all false
set_option maxRecDepth 100000
namespace L2
open PySem PySem.Spec PyProof.Rows
section
variable {tn : List Str} {cp : List (Nat × Str)} {g : TG} {tif : TT} {te : TE} {σ0 : St} {Q : VK} {H1 : Hp} {lo : Int} {n : Nat}
def PRnF (S : St → Prop) (p : Nat → Bool) (f : Nat → V) (H1 : Hp) (i : Nat) (ys : List V) (σ : St) (H : Hp) : Prop := Same H1 H ∧ S σ ∧ ys = ((List.range i).filter p).map f
theorem crf_map (S : St → Prop) (p : Nat → Bool) (f : Nat → V) (hn : n ≤ 1000) (h0 : S (stB tn cp σ0))
    (hs : ∀ D i σ H, i < n → Same H1 H → H1 D = none → H D = some (.lst (((List.range i).filter p).map f)) → S σ → g (.int (lo + i)) σ H fun σ2 H2 => tif σ2 H2 fun c H3 =>
      if c = true then te σ2 H3 fun v H4 => CStep D n i (PRnF S p f H1) σ2 v H4 else CSkip D n i (PRnF S p f H1) σ2 H3)
    (hd : ∀ D H, H1 D = none → Same H1 H → H D = some (.lst (((List.range n).filter p).map f)) → Q (.ref D) H) : cBody tn cp g tif te σ0 Q (Itr lo n) H1 := by
  refine cb_by n (fun D => PRnF S p f H1) (small_line hn) (fun D hD => ⟨same_upd hD _, h0, rfl⟩) (fun D i ys σ H _ hi _ _ => hi) (fun D ys σ H _ _ _ => Nat.le_refl _) ?_ ?_
  · rintro D i ys σ H x H' hD hi hH hl ⟨p1, p2, rfl⟩ ⟨rfl, rfl⟩
    exact hs D i σ _ hi p1 hD hH p2
  · rintro D ys σ H hD hH hl ⟨p1, p2, rfl⟩
    exact hd D H hD p1 hH
theorem crf_len (p : Nat → Bool) (f : Nat → V) (i : Nat) : (((List.range i).filter p).map f).length ≤ i := by
  rw [List.length_map]
  have := List.length_filter_le p (List.range i)
  rw [List.length_range] at this
  exact this
theorem crf_step {S : St → Prop} {p : Nat → Bool} {f : Nat → V} {D : Addr} {i : Nat} {v : V} {σ2 : St} {H4 : Hp} (hn : n ≤ 1000) (hi : i < n) (hp : p i = true) (hD : H1 D = none) (h4 : H4 D = some (.lst (((List.range i).filter p).map f))) (g4 : Same H1 H4) (s2 : S σ2) (e : v = f i) : CStep D n i (PRnF S p f H1) σ2 v H4 := by
  subst e
  refine cstep (small_line hn) hi h4 (crf_len p f i) ⟨g4.wr hD _, s2, ?_⟩
  rw [List.range_succ, List.filter_append, List.map_append]
  simp [hp]
theorem crf_skip {S : St → Prop} {p : Nat → Bool} {f : Nat → V} {D : Addr} {i : Nat} {σ2 : St} {H3 : Hp} (hi : i < n) (hp : p i = false) (h3 : H3 D = some (.lst (((List.range i).filter p).map f))) (g3 : Same H1 H3) (s2 : S σ2) : CSkip D n i (PRnF S p f H1) σ2 H3 := by
  refine cskip hi h3 (crf_len p f i) ⟨g3, s2, ?_⟩
  rw [List.range_succ, List.filter_append]
  simp [hp]
end
end L2
set_option Elab.async false
set_option linter.all false
set_option maxRecDepth 100000
namespace L2
open PySem PySem.Spec PyProof.Rows
def without (h : Heap) : List Addr → Heap
  | [] => h
  | b :: L => without (h.update b fun _ => { cls := .none, data := .freed }) L
theorem freed_none (h : Heap) (a : Addr) : (h.update a fun _ => { cls := .none, data := .freed }).get? a = none := by
  obtain ⟨objs, l⟩ := h
  show (match (objs.modify a fun _ => ({ cls := .none, data := .freed } : Obj))[a]? with
    | some ⟨_, _, .freed, _⟩ => none
    | o => o) = none
  by_cases h : a < objs.size
  · rw [Array.getElem?_eq_getElem (by simpa using h), Array.getElem_modify]
    simp
  · rw [Array.getElem?_eq_none (by simpa using h)]
theorem without_get (b : Addr) : ∀ (L : List Addr) (h : Heap), (without h L).get? b = if b ∈ L then none else h.get? b
  | [], h => by simp [without]
  | c :: L, h => by
    rw [without, without_get b L]
    by_cases hb : b ∈ L
    · rw [if_pos hb, if_pos (List.mem_cons_of_mem _ hb)]
    · rw [if_neg hb]
      by_cases hc : b = c
      · subst hc; rw [if_pos List.mem_cons_self, freed_none]
      · rw [if_neg (by simp [hc, hb]), Heap.get?_update_other _ _ (Ne.symm hc)]
theorem without_in {b : Addr} {L : List Addr} {h : Heap} (hb : b ∈ L) : (without h L).get? b = none := by rw [without_get, if_pos hb]
theorem without_out {b : Addr} {L : List Addr} {h : Heap} (hb : b ∉ L) : (without h L).get? b = h.get? b := by rw [without_get, if_neg hb]
theorem without_stays (h : Heap) (L : List Addr) : (without h L).StaysIn h := fun b o e => by
  by_cases hb : b ∈ L
  · rw [without_in hb] at e; cases e
  · rw [without_out hb] at e; exact e
theorem funs_rebase {h base base' : Heap} : ∀ {l : List Env}, h.FunFrames base l → (∀ b ∈ frs l, base'.get? b = none) → h.FunFrames base' l
  | [], _, _ => trivial
  | env :: rest, ⟨hk, ⟨L, o, hf, hn, ho, hd⟩, hr⟩, k => by
    have e : frs (env :: rest) = L :: frs rest := by show List.filterMap _ (env :: rest) = _; rw [List.filterMap_cons, hf]; rfl
    rw [e] at k
    exact ⟨hk, ⟨L, o, hf, k L List.mem_cons_self, ho, hd⟩, funs_rebase hr fun b hb => k b (List.mem_cons_of_mem _ hb)⟩
def Flown (h0 : Heap) (H : Hp) (h : Heap) (a : Addr) (cls : Value) : Prop :=
  ∃ (oe : Obj) (vs : Array Value) (T : Addr) (oT : Obj) (ts : Array Value), h.get? a = some oe ∧ oe.cls = cls ∧ oe.data = .fields vs ∧ vs[1]? = some (.ref T) ∧ T ≠ a ∧ h.get? T = some oT ∧ oT.data = .fields ts ∧ ts[3]? = some .none ∧
    h0.get? a = none ∧ h0.get? T = none ∧ H a = none ∧ H T = none
def CXE (P : Program) (w : World) : CXT := fun outer H s E e s' => ∃ (a : Addr) (cls : Value) (H' : Hp), e = .ref a ∧ s'.os = s.os ∧ AllBare s'.gens ∧ Un (frs outer) [] H H' s.heap s'.heap ∧ HOk P w H' s'.heap ∧ Flown s.heap H' s'.heap a cls ∧ E cls (some a) H'
theorem objok_there {P : Program} {w : World} {H : Hp} {h : Heap} {a : Addr} {o : HO} (x : ObjOk P w H h a o) : ∃ ob, h.get? a = some ob := by
  induction o with
  | lst xs => obtain ⟨_, _, _, _, e⟩ := x; exact ⟨_, e⟩
  | tup xs => obtain ⟨_, _, _, ob, e, _⟩ := x; exact ⟨_, e⟩
  | dK kvs => obtain ⟨_, _, _, _, ob, _, _, e, _⟩ := x; exact ⟨_, e⟩
  | dT kvs => obtain ⟨_, _, _, _, ob, _, _, e, _⟩ := x; exact ⟨_, e⟩
  | set S n => obtain ⟨ob, _, _, _, e, _⟩ := x; exact ⟨_, e⟩
  | ins C dx fs => obtain ⟨_, _, _, e, _⟩ := x; exact ⟨_, e⟩
  | own _ => exact x
  | xd fs => obtain ⟨_, ⟨ob, es, ep, e, _⟩, _⟩ := x; exact ⟨_, e⟩
  | rng lo hi => obtain ⟨_, _, _, e⟩ := x; exact ⟨_, e⟩
  | frz ob u => exact ⟨_, x.1⟩
  | tbl qs ps => obtain ⟨_, e, _⟩ := x; exact ⟨_, e⟩
  | met f y => exact ⟨_, x⟩
  | ext φ => exact x.2.1
section
variable {X : Cx} {pins : List (Addr × Obj)} {σ : St} {H : Hp} {s : Shared} {Ex : Value → Shared → Prop}
theorem left_cxe {a : Addr} {cls : Value} {E : XK} {h'' : Heap} {L : List Addr} (I : Inv X pins σ H s) (hx : X.ex = []) (hL : ∀ b ∈ L, X.s₀.heap.get? b = none ∧ H b = none)
    (l1 : (without s.heap (frs X.stack ++ L)).StaysIn h'') (l2 : h''.FunFrames (without s.heap (frs X.stack ++ L)) X.stack) (l3 : h''.Traced (without s.heap (frs X.stack ++ L)) a cls)
    (l4 : ∀ b o, s.heap.get? b = some o → (∀ vs, o.data ≠ .fields vs) → ∃ sl, h''.get? b = some { o with slots := sl }) (ha : a ∈ L) (q : E cls (some a) H) :
    CXE X.prog X.w X.outer X.H₀ X.s₀ E (.ref a) { s with heap := h'' } := by
  obtain ⟨oe, vs', T, oT, ts, t1, t2, t3, t4, t5, t6, t7, t8, t9⟩ := l3
  have hTf : T ∉ frs X.stack := fun z => by
    obtain ⟨_, o, e1, e2⟩ := l2.mem z
    rw [t7] at e1; cases e1
    exact e2 _ t8
  have nx : ∀ b, b ∉ X.ex := fun b z => by rw [hx] at z; cases z
  have st : ∀ b o, b ∉ frs X.stack → b ∉ L → s.heap.get? b = some o → h''.get? b = some o := fun b o h1 h2 e => l1 b o (by rw [without_out (fun z => (List.mem_append.mp z).elim h1 h2)]; exact e)
  have out : ∀ b o, X.s₀.heap.get? b = some o → b ∉ frs X.outer → b ∉ frs X.stack := fun b o e h z => by
    rcases List.mem_cons.mp (I.stkSub b z) with w | w
    · exact Nat.ne_of_lt (Nat.lt_of_lt_of_le (Heap.lt_size e) I.ok.above) w
    · exact h w
  have nL : ∀ b o, X.s₀.heap.get? b = some o → b ∉ L := fun b o e z => by rw [(hL b z).1] at e; cases e
  have T0 : X.s₀.heap.get? T = none := by
    cases e : X.s₀.heap.get? T with
    | none => rfl
    | some o =>
      obtain ⟨o', e'⟩ := I.base.there T o e (nx T)
      rw [without_out (fun z => (List.mem_append.mp z).elim hTf (nL T o e))] at t5
      rw [t5] at e'; cases e'
  have HT : H T = none := by
    cases e : H T with
    | none => rfl
    | some o =>
      obtain ⟨o', e'⟩ := objok_there (I.hok T o e)
      by_cases hTL : T ∈ L
      · rw [(hL T hTL).2] at e; cases e
      · rw [without_out (fun z => (List.mem_append.mp z).elim hTf hTL)] at t5
        rw [t5] at e'; cases e'
  refine ⟨a, cls, H, rfl, I.os, I.bare, ⟨fun b o e n hb _ => ?_, fun b o e n hb _ => ?_, fun b o e n _ => I.base.free b o e n (nx b), fun b o e _ => ?_, I.base.tups, I.base.frzs, I.base.tbls⟩, fun b o e => ?_, ⟨oe, vs', T, oT, ts, t1, t2, t3, t4, t6, t7, t8, t9, (hL a ha).1, T0, (hL a ha).2, HT⟩, q⟩
  · exact st b o (out b o e hb) (nL b o e) (I.base.keep b o e n hb (nx b))
  · obtain ⟨sl, e1⟩ := I.base.slot b o e n hb (nx b)
    obtain ⟨_, o', e2, nf⟩ := I.ok.funs.mem hb
    rw [e] at e2; cases e2
    obtain ⟨sl', e3⟩ := l4 b _ e1 nf
    exact ⟨sl', e3⟩
  · obtain ⟨o', e1⟩ := I.base.there b o e (nx b)
    by_cases hb : b ∈ frs X.stack
    · obtain ⟨_, o2, e2, _⟩ := l2.mem hb
      exact ⟨o2, e2⟩
    · exact ⟨o', st b o' hb (nL b o e) e1⟩
  · refine (I.hok b o e).stay (fun c u hc ec => st c u (fun z => ?_) (fun z => ?_) ec) (fun _ z => z) (fun _ _ _ _ _ z => z) fun _ _ z => z
    · have := I.stkFree c z
      rcases hc with rfl | hc
      · rw [this] at e; cases e
      · rw [this] at hc; cases hc
    · have := (hL c z).2
      rcases hc with rfl | hc
      · rw [this] at e; cases e
      · rw [this] at hc; cases hc
theorem leave_first {h' : Heap} {a : Addr} {cls : Value} {vs : List Value} {E : XK} (I : Inv X pins σ H s) (hx : X.ex = []) (hs : X.stack = X.env :: X.outer) (hf : X.env.frame = some X.env.locals) (M : Heap.MadeExcOf s.heap h' a cls vs) (q : E cls (some a) H) :
    wpAny (model X.prog X.w) X.A (leaving X.env (.ref a)) (fun _ s'' => CXE X.prog X.w X.outer X.H₀ X.s₀ E (.ref a) s'') Ex { s with heap := h' } := by
  obtain ⟨t, he, _, _⟩ := M.there
  have I' : Inv X pins σ H { s with heap := h', toks := s.toks } := I.kept M.keeps
  have Ha : H a = none := by
    cases e : H a with
    | none => rfl
    | some o =>
      obtain ⟨o', e'⟩ := objok_there (I.hok a o e)
      rw [M.new] at e'; cases e'
  have s0 : X.s₀.heap.get? a = none := by
    cases e : X.s₀.heap.get? a with
    | none => rfl
    | some o =>
      obtain ⟨o', e'⟩ := I.base.there a o e (fun z => by rw [hx] at z; cases z)
      rw [M.new] at e'; cases e'
  refine wpAny_leaving_first (base := without h' (frs X.stack ++ [a])) (outer := X.outer) (L := X.env.locals) (by rw [← hs]; exact I.ok.frames) (by rw [← hs]; exact funs_rebase I'.stack fun b hb => without_in (List.mem_append_left _ hb)) hf he (without_stays _ _)
    (without_in (List.mem_append_right _ (List.mem_singleton.mpr rfl))) rfl rfl fun h'' ⟨l1, l2, l3, l4⟩ => ?_
  rw [← hs] at l2
  exact left_cxe (L := [a]) I' hx (fun b hb => by rw [List.mem_singleton.mp hb]; exact ⟨s0, Ha⟩) l1 l2 l3 l4 (List.mem_singleton.mpr rfl) q
theorem leave_next {s' : Shared} {e : Value} {E E' : XK} (I : Inv X pins σ H s) (hx : X.ex = []) (hs : X.stack = X.env :: X.outer) (hf : X.env.frame = some X.env.locals) (c : CXE X.prog X.w X.stack H s E' e s') (q : ∀ a cls H', E' cls (some a) H' → E cls (some a) H') :
    wpAny (model X.prog X.w) X.A (leaving X.env e) (fun _ s'' => CXE X.prog X.w X.outer X.H₀ X.s₀ E e s'') Ex s' := by
  obtain ⟨a, cls, H', rfl, os, bare, un, hok, ⟨oe, vs, T, oT, ts, t1, t2, t3, t4, t6, t7, t8, t9, n1, n2, h1, h2⟩, ee⟩ := c
  have I' : Inv X pins σ H' s' := I.call' os un hok bare fun b z => nomatch z
  have s0 : ∀ b, s.heap.get? b = none → X.s₀.heap.get? b = none := fun b z => by
    cases e : X.s₀.heap.get? b with
    | none => rfl
    | some o =>
      obtain ⟨o', e'⟩ := I.base.there b o e (fun z => by rw [hx] at z; cases z)
      rw [z] at e'; cases e'
  refine wpAny_leaving_next (base := without s'.heap (frs X.stack ++ [a, T])) (outer := X.outer) (L := X.env.locals) (cls := cls) (by rw [← hs]; exact I.ok.frames) (by rw [← hs]; exact funs_rebase I'.stack fun b hb => without_in (List.mem_append_left _ hb)) hf
    ⟨oe, vs, T, oT, ts, t1, t2, t3, t4, without_in (List.mem_append_right _ (by simp)), t6, t7, t8, t9⟩ (without_stays _ _) (without_in (List.mem_append_right _ (by simp))) fun h'' ⟨l1, l2, l3, l4⟩ => ?_
  rw [← hs] at l2
  exact left_cxe (L := [a, T]) I' hx (fun b hb => by
    simp only [List.mem_cons, List.not_mem_nil, or_false] at hb
    rcases hb with rfl | rfl
    · exact ⟨s0 _ n1, h1⟩
    · exact ⟨s0 _ n2, h2⟩) l1 l2 l3 l4 (by simp) (q _ _ _ ee)
theorem made_free {h' : Heap} {a : Addr} {cls : Value} {vs : List Value} (I : Inv X pins σ H s) (M : Heap.MadeExcOf s.heap h' a cls vs) : H a = none := by
  cases e : H a with
  | none => rfl
  | some o =>
    obtain ⟨o', e'⟩ := objok_there (I.hok a o e)
    rw [M.new] at e'; cases e'
end
structure Rs (X : Cx) (E : XK) : Prop where
  ex : X.ex = []
  st : X.stack = X.env :: X.outer
  fr : X.env.frame = some X.env.locals
  xe : ∀ e s', wpAny (model X.prog X.w) X.A (leaving X.env e) (fun _ s'' => CXE X.prog X.w X.outer X.H₀ X.s₀ E e s'') (fun e' s'' => CXE X.prog X.w X.outer X.H₀ X.s₀ E e' s'') s' → X.xe e s'
theorem Rs.passes {X : Cx} {E E' : XK} (R : Rs X E) (q : ∀ a cls H', E' cls (some a) H' → E cls (some a) H') : Passes (CXE X.prog X.w) X E' := fun pins σ H s e s' I c => R.xe e s' (leave_next I R.ex R.st R.fr c q)
def tRaise (E : XK) (cls : Value) (t : TA) : TS := fun D σ H => t σ H fun vs H1 => vs.length ≤ sizeLine ∧ ∀ a, H1 a = none → E cls (some a) H1
theorem ps_raise {X : Cx} {E : XK} {x : Str} {C : Addr} {B newId initId : String} {bm : List Value} {np cpos pos : Pos} {e₀ : Expr} {rest : List Expr} {t : TA} (R : Rs X E) (hc : X.calm = true) (hg : Gl X x) (O : OwnCls x C bm newId X.mg X.base) (FB : ExcBaseFacts B newId initId bm) (ha : PA X (e₀ :: rest) t)
    (he : starEach (e₀ :: rest) X.env = (false, eval e₀ X.env) :: starEach rest X.env := by rfl) (hp : (backTo cpos (starEach rest X.env)).any (·.1) = false := by rfl) (hd : (x == ("__debug__" : Str)) = false := by decide) :
    PS X (.Raise (some (.Call (.Name x np) (e₀ :: rest) [] cpos)) none pos) (tRaise E (.ref C) t) := by
  intro pins s σ H D I h
  obtain ⟨tl, N, nm, q, bs, hdct, sn, sub, ab, col, dd, k0, k1, k2, k3, k5, mN, hC, hN, hni, T⟩ := O.obj
  refine wpAny_Raise_call_subT (C := C) (nm := nm) (q := q) (N := N) (bs := bs) (bm := tl) (hdct := hdct) (sn := sn) (sub := sub) (ab := ab) (col := col) (dd := dd) (k0 := k0) (k1 := k1) (k2 := k2) (k3 := k3) (k5 := k5)
    FB (mN := mN) (T.hasType FB.hasBase) (I.ok.hd hc) (by rw [he]; show (false || (backTo cpos (starEach rest X.env)).any (·.1)) = false; rw [hp]; rfl) hni ?_
  refine thn (pe_glob (v := .ref C) (pos := np) hg O.bound rfl hd pins s σ H (fun v H' => v = .ref C ∧ H' = H) I ⟨rfl, rfl⟩) fun u s1 ⟨v, H1, I1, r1, e1, e2⟩ => ?_
  subst e1 e2
  refine ⟨r1, ?_⟩
  have hh := ha cpos pins s1 σ H1 _ I1 h
  rw [he] at hh ⊢
  refine Calls.evalArgs_plain (thn hh fun us s2 ⟨vs, H2, I2, r2, z, q⟩ => ⟨rfl, by rw [← r2.length]; exact z, I2.bk _ _ hC, hN.keeps I2.bk, T.keeps I2.bk, fun h' a M => R.xe _ _ (leave_first I2 R.ex R.st R.fr M (q a (made_free I2 M)))⟩)
theorem Fun.okE {P : Program} {w : World} {K : PySem.W.Frag} {mg : Str → Option Value} {base : Heap} {x qual : Str} {st : Stmt} {f : Addr} {fd : FuncData} {N ps : List Str} {k : Nat} {sp : Sp} (F : Fun K x qual st f fd) (S : FnScope N ps (defScope st)) (len : ∀ vs H Q E, sp vs H Q E → vs.length = ps.length)
    (hbody : ∀ (cdv : Value) (A : Around) (outer : List Env) (s : Shared) (H : Hp) (vs : List V) (Q : VK) (E : XK), Room k (A.deeper (envOfC qual (defScope st) s.heap.objs.size f cdv)) → sp vs H Q E → Rs (cxOf (CXE P w) P w K mg base N qual (defScope st) f cdv A outer s H E) E →
      ∃ t, PSs (cxOf (CXE P w) P w K mg base N qual (defScope st) f cdv A outer s H E) (defBody st) t ∧ t { nx := fun _ H' => Q .non H', rt := Q } (start N vs) H) : FnOk P w K mg base (CXE P w) (k + 1) f fd ps sp := by
  obtain ⟨oc, od, kV, doc, pm, an, cdv, ct, osl, rfl, lk, hcd⟩ := F.ex
  exact fn_of lk hcd S len fun A outer s H vs Q E hr hsp => hbody cdv A outer s H vs Q E hr hsp ⟨rfl, rfl, rfl, fun _ _ h => h⟩
end L2
set_option Elab.async false
set_option linter.all false
set_option maxRecDepth 100000
namespace L2
open PySem PySem.Spec PyProof.Rows PySem.Calls
section
variable {X : Cx} {pins : List (Addr × Obj)} {σ : St} {H : Hp} {s : Shared}
theorem Inv.names {h' : Heap} {j : Nat} {n : Str} {m m' : Str → Option Value} (I : Inv X pins σ H s) (hN : X.N.Nodup) (hj : X.N[j]? = some n) (hn : s.heap.Ns X.env.locals m)
    (hl : ∀ (i : Nat) (x : Str) (v : V), X.N[i]? = some x → σ[i]? = some (some v) → Vis X.env.scope x → ∃ u, RelV v u ∧ Look X.env s.heap m x u) (hn' : h'.Ns X.env.locals m') (hm : ∀ x, x ≠ n → m' x = m x) (hs : Heap.SameBut X.env.locals s.heap h') :
    Inv X pins (σ.set j none) H { s with heap := h' } := by
  have low : ∀ b o, X.s₀.heap.get? b = some o → b ≠ X.env.locals := fun b o e => Nat.ne_of_lt (Nat.lt_of_lt_of_le (Heap.lt_size e) I.ok.above)
  refine ⟨I.ok, I.os, I.bare, ⟨fun b o e k hb hx => (hs.2 b (low b o e)).trans (I.base.keep b o e k hb hx), fun b o e k hb hx => ?_, I.base.free, fun b o e hx => ?_, I.base.tups, I.base.frzs, I.base.tbls⟩, ⟨m', hn', fun i y v e1 e2 e3 => ?_⟩, fun y c e => ?_, I.free, I.freeC, fun p hp => ?_, fun b ob e => ?_, by simpa using I.len⟩
  · obtain ⟨sl, e1⟩ := I.base.slot b o e k hb hx
    exact ⟨sl, (hs.2 b (low b o e)).trans e1⟩
  · obtain ⟨o', e1⟩ := I.base.there b o e hx
    exact ⟨o', (hs.2 b (low b o e)).trans e1⟩
  · by_cases hij : i = j
    · subst hij
      rw [List.getElem?_set_self (by rw [I.len]; exact (List.getElem?_eq_some_iff.mp hj).1)] at e2
      cases e2
    · rw [List.getElem?_set_ne (Ne.symm hij)] at e2
      obtain ⟨u', r', q⟩ := hl i y v e1 e2 e3
      refine ⟨u', r', ?_⟩
      rcases q with ⟨k, e⟩ | ⟨k, c, e, z⟩
      · exact .inl ⟨k, by rw [hm y fun z => hij (nodup_ix hN e1 (z ▸ hj))]; exact e⟩
      · exact .inr ⟨k, c, e, z.sameBut hs (I.cne y c e)⟩
  · obtain ⟨w', z⟩ := I.cell y c e
    exact ⟨w', z.sameBut hs (I.cne y c e)⟩
  · obtain ⟨e, k, ne, nf, d⟩ := I.pin p hp
    exact ⟨(hs.2 p.1 ne).trans e, k, ne, nf, d⟩
  · refine (I.hok b ob e).stay (fun c w' hc q => (hs.2 c ?_).trans q) (fun _ q => q) (fun _ _ _ _ _ q => q) fun _ _ q => q
    rintro rfl
    rcases hc with rfl | hc
    · rw [I.free] at e; cases e
    · rw [I.free] at hc; cases hc
theorem unbind_ok {M : Model} {A : Around} {E : Value → Shared → Prop} {j : Nat} {n : Str} {v : V} {Q : Unit → Shared → Prop} (I : Inv X pins σ H s) (hN : X.N.Nodup) (hj : X.N[j]? = some n) (hk : X.env.scope.names.lookup n = some .local) (hv : σ[j]? = some (some v))
    (h : ∀ s', Inv X pins (σ.set j none) H s' → Q () s') : wpAny M A (unbindName X.env n) Q E s := by
  obtain ⟨m, hn, hl⟩ := id I.loc
  obtain ⟨u, r, lk⟩ := hl j n v hj hv (.inl hk)
  have hmn : m n = some u := by
    rcases lk with ⟨_, e⟩ | ⟨k, _⟩
    · exact e
    · rcases k with k | k <;> (have : X.env.kindOf n = some .local := hk; rw [this] at k; cases k)
  exact wpAny_unbindName_local hk hn hmn (by rw [I.ok.kind]; rfl) fun h' u' hn' hs => h _ (I.names hN hj hn hl hn' (fun x hx => if_neg hx) hs)
def Cx.held (X : Cx) (a : Addr) : Cx := { X with A := X.A.mark (some (.ref a)), calm := false, xe := fun _ _ => False }
theorem Cx.Ok.held {a : Addr} (ok : X.Ok) : (X.held a).Ok := ⟨ok.mod, ok.kind, ok.glob, ok.blt, ok.above, ok.inj, ok.has, ok.cab, (fun h => nomatch h), ok.frames, ok.stk, ok.exf, ok.bs, ok.bsz, ok.noex, ok.exfs, ok.funs, ok.frf⟩
theorem Inv.held {a : Addr} (I : Inv X pins σ H s) : Inv (X.held a) pins σ H s := ⟨I.ok.held, I.os, I.bare, I.base, I.loc, I.cell, I.free, I.freeC, I.pin, I.hok, I.len⟩
theorem Inv.unheld {a : Addr} (ok : X.Ok) (I : Inv (X.held a) pins σ H s) : Inv X pins σ H s := ⟨ok, I.os, I.bare, I.base, I.loc, I.cell, I.free, I.freeC, I.pin, I.hok, I.len⟩
theorem Inv.adopt {a : Addr} {o : HO} {vs : Array Value} {oe : Obj} (I : Inv X pins σ H s) (ha : H a = none) (h0 : X.s₀.heap.get? a = none) (he : s.heap.get? a = some oe) (hd : oe.data = .fields vs) (hp : ∀ p ∈ X.pn ++ pins, p.1 ≠ a) (new : ObjOk X.prog X.w (upd H a o) s.heap a o) :
    Inv X pins σ (upd H a o) s := by
  have nL : X.env.locals ≠ a := fun z => by
    obtain ⟨m, ⟨ob, es, ep, e, dd, _⟩, _⟩ := I.loc
    rw [z, he] at e; cases e
    rw [hd] at dd; cases dd
  have nC : ∀ x c, X.env.cells.lookup x = some c → c ≠ a := fun x c e z => by
    obtain ⟨v, ob, e1, dd⟩ := I.cell x c e
    rw [z, he] at e1; cases e1
    rw [hd] at dd; cases dd
  have up : ∀ b u, H b = some u → upd H a o b = some u := fun b u e => by rw [upd_ne (fun z => by rw [z, ha] at e; cases e)]; exact e
  refine ⟨I.ok, I.os, I.bare, ⟨I.base.keep, I.base.slot, fun b ob e k hx => ?_, I.base.there, fun b xs e => up _ _ (I.base.tups b xs e), fun b ob u e => up _ _ (I.base.frzs b ob u e), fun b qs ps e => up _ _ (I.base.tbls b qs ps e)⟩, I.loc, I.cell, by rw [upd_ne nL]; exact I.free, fun x c e => by rw [upd_ne (nC x c e)]; exact I.freeC x c e, fun p hpp => ?_, fun b u e => ?_, I.len⟩
  · rw [upd_ne (fun z => by rw [z, h0] at e; cases e)]
    exact I.base.free b ob e k hx
  · obtain ⟨e, k, r⟩ := I.pin p hpp
    exact ⟨e, by rw [upd_ne (hp p hpp)]; exact k, r⟩
  · by_cases hb : b = a
    · subst hb; rw [upd_same] at e; cases e; exact new
    · rw [upd_ne hb] at e
      exact (I.hok b u e).stay (fun _ _ _ q => q) (fun c q => up c _ q) (fun c _ _ _ _ q => up c _ q) fun c xs q => up c _ q
theorem Inv.touch {h' : Heap} {L : List Addr} {t' : Nat} (I : Inv X pins σ H s) (k : ∀ b o, b ∉ frs X.stack → b ∉ L → s.heap.get? b = some o → h'.get? b = some o) (sl : ∀ b o, b ∈ frs X.stack → s.heap.get? b = some o → ∃ sl, h'.get? b = some { o with slots := sl })
    (hL : ∀ b ∈ L, ∃ φ, H b = some (.ext φ) ∧ φ h' ∧ ∃ o, h'.get? b = some o) : Inv X pins σ H { s with heap := h', toks := t' } := by
  have fr : ∀ b ∈ frs X.stack, H b = none := I.stkFree
  refine I.call' (ch := []) rfl ⟨fun b o e n hb _ => k b o hb (fun z => ?_) e, fun b o e n hb _ => sl b o hb e, fun _ _ _ n _ => n, fun b o e _ => ?_, fun _ _ e => e, fun _ _ _ e => e, fun _ _ _ e => e⟩ (fun b u e => ?_) I.bare fun b z => nomatch z
  · obtain ⟨φ, e', _⟩ := hL b z
    rw [n] at e'; cases e'
  · by_cases hb : b ∈ frs X.stack
    · obtain ⟨q, e'⟩ := sl b o hb e
      exact ⟨_, e'⟩
    · by_cases hl : b ∈ L
      · obtain ⟨_, _, _, o', e'⟩ := hL b hl
        exact ⟨o', e'⟩
      · exact ⟨o, k b o hb hl e⟩
  · by_cases hl : b ∈ L
    · obtain ⟨φ, e', p, o', e''⟩ := hL b hl
      rw [e] at e'; cases e'
      exact ⟨p, ⟨o', e''⟩, (I.hok b _ e).2.2⟩
    · refine (I.hok b u e).stay (fun c w hc ec => k c w (fun z => ?_) (fun z => ?_) ec) (fun _ z => z) (fun _ _ _ _ _ z => z) fun _ _ z => z
      · have := fr c z
        rcases hc with rfl | hc
        · rw [this] at e; cases e
        · rw [this] at hc; cases hc
      · rcases hc with rfl | hc
        · exact hl z
        · obtain ⟨φ, e', _⟩ := hL c z
          rw [hc] at e'; cases e'
def ExcIs (a : Addr) (cls : Value) (h : Heap) : Prop := ∃ (o : Obj) (vs : Array Value), h.get? a = some o ∧ o.cls = cls ∧ o.data = .fields vs
def TbIs (T : Addr) (h : Heap) : Prop := ∃ (o : Obj) (vs : Array Value), h.get? T = some o ∧ o.data = .fields vs
def excO (a : Addr) (cls : Value) : HO := .ext (ExcIs a cls)
def tbO (T : Addr) : HO := .ext (TbIs T)
theorem exc_ok {P : Program} {w : World} {h : Heap} {H : Hp} {a : Addr} {cls : Value} (x : ExcIs a cls h) : ObjOk P w H h a (excO a cls) :=
  ⟨x, let ⟨o, _, e, _⟩ := x; ⟨o, e⟩, fun h1 h2 ⟨o, vs, e, r⟩ k => ⟨o, vs, k o e, r⟩⟩
theorem tb_ok {P : Program} {w : World} {h : Heap} {H : Hp} {T : Addr} (x : TbIs T h) : ObjOk P w H h T (tbO T) :=
  ⟨x, let ⟨o, _, e, _⟩ := x; ⟨o, e⟩, fun h1 h2 ⟨o, vs, e, r⟩ k => ⟨o, vs, k o e, r⟩⟩
end
section
variable {prog : Program} {w : World} {A : Around} {E : Value → Shared → Prop} {s : Shared} {env : Env}
theorem note_all {base : Heap} {outer : List Env} {L e T : Addr} {oe oT : Obj} {vs ts : Array Value} {Q : Unit → Shared → Prop} (hfr : A.frames = some (env :: outer)) (hl : s.heap.FunFrames base (env :: outer)) (hf : env.frame = some L) (he : s.heap.get? e = some oe) (hd : oe.data = .fields vs) (h1 : vs[1]? = some (.ref T))
    (hTe : T ≠ e) (hT : s.heap.get? T = some oT) (hdT : oT.data = .fields ts) (h3 : ts[3]? = some .none)
    (h : ∀ h', (∀ b o, b ∉ frs (env :: outer) → b ≠ e → b ≠ T → s.heap.get? b = some o → h'.get? b = some o) → (∀ b o, b ∈ frs (env :: outer) → s.heap.get? b = some o → ∃ sl, h'.get? b = some { o with slots := sl }) → TbIs T h' →
      (∃ (oe' : Obj) (vs' : Array Value) (T2 : Addr) (oT2 : Obj) (ts2 : Array Value), h'.get? e = some oe' ∧ oe'.cls = oe.cls ∧ oe'.data = .fields vs' ∧ vs'[1]? = some (.ref T2) ∧ T2 ≠ e ∧ h'.get? T2 = some oT2 ∧ oT2.data = .fields ts2 ∧ ts2[3]? = some .none ∧ s.heap.get? T2 = none) → Q () { s with heap := h' }) :
    wpAny (model prog w) A (noteFrame (.ref e) env) (fun _ s' => wpAny (model prog w) A (setFlight (.ref e) none) Q E s') E s := by
  unfold noteFrame
  simp only [hf]
  refine wpAny_bind (wpAny_field he hd h1 ?_)
  rw [if_pos (show (Value.ref T != Value.none) = true from by simp)]
  refine wpAny_bind (wpAny_field hT hdT h3 ?_)
  rw [if_neg (show ¬ ((Value.none == rawInt L) = true) from by simp [rawInt])]
  refine wpAny_bind (wpAny_setField hT hdT (Array.getElem?_eq_some_iff.mp h3).1 ?_)
  have other : ∀ b, b ≠ T → (s.heap.update T (Obj.mapFields (·.setIfInBounds 3 Value.none))).get? b = s.heap.get? b := fun b hb => Heap.get?_update_other _ _ (Ne.symm hb)
  have hdT' := Obj.data_mapFields hdT (·.setIfInBounds 3 Value.none)
  have hT' := Heap.get?_update_self (Obj.mapFields (·.setIfInBounds 3 Value.none)) hT (Obj.isFreed_of_fields hdT')
  generalize s.heap.update T (Obj.mapFields (·.setIfInBounds 3 Value.none)) = h2 at other hT'
  have nr : ∀ b o, s.heap.get? b = some o → (∀ vs, o.data ≠ .fields vs) → b ≠ T := fun b o hb hnf q => by
    rw [q, hT] at hb; injection hb with hb; subst hb; exact hnf ts hdT
  have hl2 : h2.FunFrames base (env :: outer) := hl.of_keeps fun b o hb hnf => ⟨o, (other b (nr b o hb hnf)).trans hb, rfl⟩
  have fT : T ∉ frs (env :: outer) := fun z => by
    obtain ⟨_, o, e1, e2⟩ := hl.mem z
    rw [hT] at e1; cases e1; exact e2 _ hdT
  have fe : e ∉ frs (env :: outer) := fun z => by
    obtain ⟨_, o, e1, e2⟩ := hl.mem z
    rw [he] at e1; cases e1; exact e2 _ hd
  refine wpAny_newEntry (base := without h2 (frs (env :: outer) ++ [e])) hfr (funs_rebase hl2 fun b hb => without_in (List.mem_append_left _ hb)) hf ((other e (Ne.symm hTe)).trans he) (without_stays _ _) (without_in (List.mem_append_right _ (List.mem_singleton.mpr rfl))) hd (Array.getElem?_eq_some_iff.mp h1).1
    fun h' ⟨x1, x2, x3, x4⟩ => ?_
  have st : ∀ b o, b ∉ frs (env :: outer) → b ≠ e → h2.get? b = some o → h'.get? b = some o := fun b o n1 n2 q => x1 b o (by rw [without_out (fun z => (List.mem_append.mp z).elim n1 fun z => n2 (List.mem_singleton.mp z))]; exact q)
  obtain ⟨oe', vs', T2, oT2, ts2, t1, t2, t3, t4, t5, t6, t7, t8, t9⟩ := x3
  have f2 : T2 ∉ frs (env :: outer) := fun z => by
    obtain ⟨_, o, e1, e2⟩ := x2.mem z
    rw [t7] at e1; cases e1; exact e2 _ t8
  have n2 : h2.get? T2 = none := by rw [without_out (fun z => (List.mem_append.mp z).elim f2 fun z => t6 (List.mem_singleton.mp z))] at t5; exact t5
  have n2T : T2 ≠ T := fun z => by rw [z, hT'] at n2; cases n2
  refine h h' (fun b o b1 b2 b3 q => st b o b1 b2 ((other b b3).trans q)) (fun b o hb q => ?_) ⟨_, _, st T _ fT hTe hT', hdT'⟩ ⟨oe', vs', T2, oT2, ts2, t1, t2, t3, t4, t6, t7, t8, t9, by rw [← other T2 n2T]; exact n2⟩
  obtain ⟨_, o', e1, e2⟩ := hl.mem hb
  rw [q] at e1; cases e1
  exact x4 b o ((other b (nr b o q e2)).trans q) e2
end
section
variable {X : Cx} {pins : List (Addr × Obj)} {σ : St} {H : Hp} {s : Shared} {k : Nat} {fa : Addr} {fd : FuncData} {ps : List Str} {sp : Sp}
theorem flight_ok {M : Model} {A : Around} {E : Value → Shared → Prop} {a T : Addr} {oe oT : Obj} {vs ts : Array Value} {Q : Unit → Shared → Prop} (I : Inv X pins σ H s) (he : s.heap.get? a = some oe) (hd : oe.data = .fields vs) (h1 : vs[1]? = some (.ref T)) (hT : s.heap.get? T = some oT) (hdT : oT.data = .fields ts) (h3 : 3 < ts.size)
    (tr : H T = some (tbO T)) (h : ∀ h', Inv X pins σ H { s with heap := h' } → Q () { s with heap := h' }) : wpAny M A (setFlight (.ref a) none) Q E s := by
  unfold setFlight
  refine wpAny_bind (wpAny_field he hd h1 ?_)
  rw [if_pos (show (Value.ref T != Value.none) = true from by simp)]
  refine wpAny_setField hT hdT h3 ?_
  have other : ∀ b, b ≠ T → (s.heap.update T (Obj.mapFields (·.setIfInBounds 3 ((none : Option Addr).elim Value.none fun f => rawInt f)))).get? b = s.heap.get? b := fun b hb => Heap.get?_update_other _ _ (Ne.symm hb)
  have hdT' := Obj.data_mapFields hdT (·.setIfInBounds 3 ((none : Option Addr).elim Value.none fun f => rawInt f))
  have hT' := Heap.get?_update_self (Obj.mapFields (·.setIfInBounds 3 ((none : Option Addr).elim Value.none fun f => rawInt f))) hT (Obj.isFreed_of_fields hdT')
  refine h _ (I.touch (L := [T]) (t' := s.toks) (fun b o _ n q => (other b (fun z => n (List.mem_singleton.mpr z))).trans q) (fun b o hb q => ⟨o.slots, (other b (fun z => ?_)).trans q⟩) fun b hb => ?_)
  · have := I.stkFree b hb
    rw [z, tr] at this; cases this
  · rw [List.mem_singleton.mp hb]
    exact ⟨_, tr, ⟨_, _, hT', hdT'⟩, _, hT'⟩
end
end L2
set_option Elab.async false
set_option linter.all false
set_option maxRecDepth 100000
namespace L2
open PySem PySem.Spec PyProof.Rows PySem.W
structure KExc (K : PySem.W.Frag) (C : Addr) : Prop where
  ga : findIn K (.ref C) "__getattribute__" = some (some (.builtin "BaseException.__getattribute__"))
  gn : findIn K (.ref C) "__getattr__" = some none
  cl : findIn K (.ref C) "__class__" = some (some (.builtin "object.__class__"))
  mb : mroIn K C (.type "BaseException") = some true
  mo : mroIn K C (.type "object") = some true
  ic : hasDictIn K C = true
section
variable {prog : Program} {w : World} {A : Around} {E : Value → Shared → Prop} {K : PySem.W.Frag} {h : Heap} {g : Array GenState} {d : Drawn} {t : Nat} {os : OsState} {a C : Addr} {o : Obj}
theorem sub_at {M : Model} {base : Value} {r : Bool} {Q : Bool → Shared → Prop} (X : K.In h) (e : mroIn K C base = some r) (hq : Q r ⟨h, g, d, t, os⟩) : wpAny M A (isSubtype (.ref C) base) Q E ⟨h, g, d, t, os⟩ := looks_mroIn X e A Q E _ (fun _ _ e => e) hq
theorem find_at {M : Model} {v : Value} {n : Str} {r : Option Value} {Q : Option Value → Shared → Prop} (X : K.In h) (e : findIn K v n = some r) (hq : Q r ⟨h, g, d, t, os⟩) : wpAny M A (typeLookup v n) Q E ⟨h, g, d, t, os⟩ := looks_findIn X e A Q E _ (fun _ _ e => e) hq
theorem class_get_exc {R : Result → Shared → Prop} (X : K.In h) (k : KExc K C) (hx : h.get? a = some o) (hc : o.cls = .ref C) (hq : R (.ok (.ret (.ref C))) ⟨h, g, d, t, os⟩) :
    codeAny (model prog w) A (.call (.builtin "getset_descriptor.__get__") ⟨[.builtin "object.__class__", .ref a, .ref C], []⟩) R ⟨h, g, d, t, os⟩ := by
  have hT5 : (⟨h, g, d, t, os⟩ : Shared).TypeIs (.builtin "object.__class__") "getset_descriptor" := F.typeOf_object_class
  have mo : mroIn K C (.type (".".intercalate ("object.__class__".cutAt '.').dropLast)) = some true := by rw [F.owner_object_class]; exact k.mo
  refine codeAny_call_builtin F.slot_gs_get.plain F.entry_gs_get (F.slot_gs_get.check _ _ _ _ _ _ _ _ hT5 (F.args_gs_get _ _ _) ?_)
  repeat (any_goals (first | assumption | (with_reducible refine wpAny_loadPart_at hx ?_; rw [hc]) | (with_reducible refine sub_at X mo ?_) | wp_step))
  refine ⟨Code.quiet_builtin _ (by decide +kernel), codeAny_builtin F.entry_object_class ?_⟩
  repeat (any_goals (first | assumption | (with_reducible refine wpAny_loadPart_at hx ?_; rw [hc]) | wp_step))
theorem check_ga_exc {M : Model} {nameV : Value} {Q : Unit → Shared → Prop} (X : K.In h) (k : KExc K C) (hx : h.get? a = some o) (hc : o.cls = .ref C) (hq : Q () ⟨h, g, d, t, os⟩) : wpAny M A (checkBuiltinCall "BaseException.__getattribute__" ⟨[.ref a, nameV], []⟩) Q E ⟨h, g, d, t, os⟩ := by
  have hk : builtinKind "BaseException.__getattribute__" = some .slot := by decide +kernel
  have hsplit : splitId "BaseException.__getattribute__" = some ("BaseException", "__getattribute__") := by decide +kernel
  have mb := k.mb
  have ha := F.args_bexc_ga (.ref a) nameV
  simp only [checkBuiltinCall, hk, hsplit]
  refine wpAny_bind ?_
  unfold isInstance
  repeat (first | (with_reducible refine wpAny_loadPart_at hx ?_; rw [hc]) | (with_reducible refine sub_at X mb ?_) | wp_step)
  exact hq
theorem class_entry_exc {tk : Tok} {Q : Fin → Shared → Prop} (X : K.In h) (k : KExc K C) (hx : h.get? a = some o) (hc : o.cls = .ref C) (hq : Q (.done (.ret (.ref C))) ⟨h, g, d, t, os⟩) :
    wpAny (model prog w) A (Builtin.«object.__getattribute__» ⟨[.ref a, .str "__class__" tk], []⟩) Q E ⟨h, g, d, t, os⟩ := by
  have hT5 : (⟨h, g, d, t, os⟩ : Shared).TypeIs (.builtin "object.__class__") "getset_descriptor" := F.typeOf_object_class
  have cl := k.cl
  have f5 := F.typeOf_object_class
  have f6 := F.slot_gs_get.lookup
  have f7 := F.slot_gs_set.lookup
  repeat (any_goals (first | assumption | (with_reducible refine wpAny_loadPart_at hx ?_; rw [hc]) | (with_reducible refine find_at X cl ?_) | wp_step))
  refine class_get_exc X k hx hc ?_
  repeat (any_goals (first | assumption | wp_step))
theorem class_by_exc {tk : Tok} {Q : Value → Shared → Prop} (FB : ExcAttrFacts "ValueError") (X : K.In h) (k : KExc K C) (hx : h.get? a = some o) (hc : o.cls = .ref C) (hq : Q (.ref C) ⟨h, g, d, t, os⟩) : wpAny (model prog w) A (getAttrBy (.ref a) (.str "__class__" tk) false) Q E ⟨h, g, d, t, os⟩ := by
  have f3 := FB.ga.bind (.ref a)
  have hx2 : (Value.builtin "BaseException.__getattribute__" == Value.builtin "object.__getattribute__") = false := by decide +kernel
  have ga := k.ga
  have gn := k.gn
  repeat (any_goals (first | assumption | (with_reducible refine wpAny_loadPart_at hx ?_; rw [hc]) | (with_reducible refine find_at X ga ?_) | (with_reducible refine find_at X gn ?_) | wp_step))
  refine codeAny_call_builtin FB.ga.plain F.entry_bexc_ga (check_ga_exc X k hx hc (class_entry_exc X k hx hc ?_))
  repeat (any_goals (first | assumption | wp_step))
theorem class_attr_exc {Q : Option Value → Shared → Prop} (FB : ExcAttrFacts "ValueError") (X : K.In h) (k : KExc K C) (hx : h.get? a = some o) (hc : o.cls = .ref C) (hq : Q (some (.ref C)) ⟨h, g, d, t + 1, os⟩) : wpAny (model prog w) A (getAttr? (.ref a) "__class__") Q E ⟨h, g, d, t, os⟩ := by
  unfold getAttr? getAttrBy?
  repeat (any_goals (first | assumption | with_reducible apply class_by_exc FB X k hx hc | wp_step))
end
theorem kitx_exc {K : PySem.W.Frag} {a C : Addr} (k : KExc K C) : KitX K (.ref a) (.ref C) (fun h => ∃ o, h.get? a = some o ∧ o.cls = .ref C) where
  ty := fun M h _ ⟨o, e, c⟩ => by
    intro A Q E s kk q
    obtain ⟨hp, g, d, t, os⟩ := s
    have e' := kk _ _ e
    repeat (first | (with_reducible refine wpAny_loadPart_at e' ?_; rw [c]) | wp_step)
    exact q
  it := fun _ _ X _ => by
    obtain ⟨cd, hcD, _⟩ := any_some k.ic
    unfold clsIn at hcD
    split at hcD
    · rename_i c' d' cd' sl' ho
      intro A' Q' E' s' kk q
      unfold isType loadHead
      exact wpAny_bind (wpAny_loadPart (kk _ _ (X _ _ ho)) (wpAny_pure q))
    · cases hcD
  ne := fun h tp dd its n sl X htp => by
    obtain ⟨cd, hcD, _⟩ := any_some k.ic
    refine Bool.eq_false_iff.mpr fun q => ?_
    have e : C = tp := Value.ref.inj (beq_iff_eq.mp q)
    subst e
    unfold clsIn at hcD
    split at hcD
    · rename_i c' d' cd' sl' ho
      have z := (X _ _ ho).symm.trans htp
      cases z
    · cases hcD
  ca := fun {_ _ _ _ _ s} X p q => by
    obtain ⟨hp, g, d, t, os⟩ := s
    obtain ⟨o, e, c⟩ := p
    exact class_attr_exc F.excAttr_ValueError X k e c q
def rIsX (K : PySem.W.Frag) : List V → Hp → VK → Prop := fun xs H Q => ∃ a C S b, xs = [.ref a, .ref S] ∧ H a = some (excO a (.ref C)) ∧ KExc K C ∧ kitOne K (.ref C) (.ref S) = some b ∧ Q (.bl b) H
def rIsXT (K : PySem.W.Frag) : List V → Hp → VK → Prop := fun xs H Q => ∃ a C T b, xs = [.ref a, .ty T] ∧ H a = some (excO a (.ref C)) ∧ KExc K C ∧ kitOne K (.ref C) (.type T) = some b ∧ Q (.bl b) H
theorem exc_at {X : Cx} {pins : List (Addr × Obj)} {σ : St} {H : Hp} {s : Shared} {a : Addr} {cls : Value} (I : Inv X pins σ H s) (e : H a = some (excO a cls)) : ∃ o, s.heap.get? a = some o ∧ o.cls = cls :=
  let ⟨⟨o, _, h1, h2, _⟩, _, _⟩ := (show ObjOk X.prog X.w H s.heap a (excO a cls) from I.hok a _ e)
  ⟨o, h1, h2⟩
theorem call_isx {X : Cx} : CallR X (.builtin "isinstance") (rIsX X.K) := by
  intro pins s σ H xs us Q I r h
  obtain ⟨a, C, S, b, rfl, ea, k, e, q⟩ := h
  obtain ⟨u, w', rfl, rx, ry⟩ := vals2 r
  cases (show w' = Value.ref S from ry)
  cases (show u = Value.ref a from rx)
  exact kia_one (kitx_exc k) I.kIn (exc_at I ea) e (fun z => nomatch z) fun tk => ⟨.bl b, H, I.tok _, rfl, q⟩
theorem call_isxT {X : Cx} : CallR X (.builtin "isinstance") (rIsXT X.K) := by
  intro pins s σ H xs us Q I r h
  obtain ⟨a, C, T, b, rfl, ea, k, e, q⟩ := h
  obtain ⟨u, w', rfl, rx, ry⟩ := vals2 r
  cases (show w' = Value.type T from ry)
  cases (show u = Value.ref a from rx)
  exact kia_one (kitx_exc k) I.kIn (exc_at I ea) e (fun z => nomatch z) fun tk => ⟨.bl b, H, I.tok _, rfl, q⟩
end L2
set_option Elab.async false
set_option linter.all false
set_option maxRecDepth 100000
namespace L2
open PySem PySem.Spec PyProof.Rows PySem.W PySem.Calls
section
variable {M : Model} {A : Around} {E : Value → Shared → Prop} {K : PySem.W.Frag} {h : Heap} {g : Array GenState} {d : Drawn} {t : Nat} {os : OsState}
theorem type_at {v c : Value} {Q : Value → Shared → Prop} (X : K.In h) (e : typeIn K v = some c) (hq : Q c ⟨h, g, d, t, os⟩) : wpAny M A (typeOf v) Q E ⟨h, g, d, t, os⟩ := looks_typeIn X e A Q E _ (fun _ _ e => e) hq
structure KSup (K : PySem.W.Frag) (S : Addr) : Prop where
  ty : typeIn K (.ref S) = some (.type "type")
  mb : mroIn K S (.type "BaseException") = some true
  ic : hasDictIn K S = true
theorem excMatches_K {e C S : Addr} {oe : Obj} {Q : Bool → Shared → Prop} (X : K.In h) (k : KSup K S) (he : h.get? e = some oe) (hcls : oe.cls = .ref C) (ms : mroIn K C (.ref S) = some true) (hq : Q true ⟨h, g, d, t, os⟩) : wpAny M A (excMatches (.ref e) (.ref S)) Q E ⟨h, g, d, t, os⟩ := by
  have ty := k.ty
  have mb := k.mb
  have f := tc_notTuple
  obtain ⟨cd, hcd, _⟩ := any_some k.ic
  unfold clsIn at hcd
  split at hcd
  · rename_i c' d' cd' sl' ho
    have hS := X _ _ ho
    unfold excMatches
    repeat (first | (with_reducible refine wpAny_loadPart_at he ?_; rw [hcls]) | (with_reducible refine type_at X ty ?_) | with_reducible refine wpAny_loadPart_at hS ?_ | (with_reducible refine sub_at X mb ?_) | (with_reducible refine sub_at X ms ?_) | wp_step)
    exact hq
  · cases hcd
end
section
variable {prog : Program} {w : World} {A : Around} {E : Value → Shared → Prop} {s : Shared} {env : Env}
theorem handle_as {K : PySem.W.Frag} {a C S : Addr} {t : Expr} {n : Str} {b₀ : Stmt} {suite : List Stmt} {pos : Pos} {rest : List ExceptHandler} {Q : Flow → Shared → Prop} (k : KSup K S) (ms : mroIn K C (.ref S) = some true)
    (h : wpAny (model prog w) (A.mark (some (.ref a))) (eval t env) (fun c s₁ => c = .ref S ∧ K.In s₁.heap ∧ (∃ oe, s₁.heap.get? a = some oe ∧ oe.cls = .ref C) ∧
      wpAny (model prog w) (A.mark (some (.ref a))) (setFlight (.ref a) none) (fun _ s₂ => wpAny (model prog w) (A.mark (some (.ref a))) (storeName env n (.ref a)) (fun _ s₃ => wpAny (model prog w) (A.mark (some (.ref a))) (execs (b₀ :: suite) env)
        (fun f s₄ => wpAny (model prog w) A (do bindName env n .none; unbindBehindTheSuite env n pos) (fun _ s₅ => Q f s₅) E s₄) (fun _ _ => False) s₃) (fun _ _ => False) s₂) (fun _ _ => False) s₁) (fun _ _ => False) s) :
    wpAny (model prog w) A (handleBy (.ref a) env (.ExceptHandler (some t) (some n) (b₀ :: suite) pos :: rest)) Q E s := by
  refine wpAny_handleBy_cons (codeAny_handlers_test (wpAny_mono h (fun c s₁ h₁ => ?_) fun _ _ y => False.elim y)) (by intro q; cases q)
  obtain ⟨rfl, KI, ⟨oe, he, hcls⟩, hk⟩ := h₁
  obtain ⟨hh, g, d, tk, os⟩ := s₁
  refine excMatches_K KI k he hcls ms (codeAny_handlers_suite_as ?_)
  exact wpAny_mono hk (fun _ s₂ h₂ => wpAny_mono h₂ (fun _ s₃ h₃ => wpAny_mono h₃ (fun _ _ y => y) fun _ _ y => False.elim y) fun _ _ y => False.elim y) fun _ _ y => False.elim y
end
theorem own_K {K : PySem.W.Frag} {h : Heap} {mg : Str → Option Value} {x : Str} {C : Addr} {bmB : List Value} {newId : String} (X : K.In h) (hm : mg x = some (.ref C)) (q : excIn K C bmB newId = true) : OwnCls x C bmB newId mg h := by
  refine ⟨hm, ?_⟩
  unfold excIn at q
  split at q
  · rename_i dd cd sl ho
    split at q
    · rename_i C' bm k0 k1 k2 k3 n k5 e1 e2
      simp only [Bool.and_eq_true, beq_iff_eq, Bool.not_eq_true'] at q
      obtain ⟨⟨⟨⟨⟨z1, z2⟩, z3⟩, z4⟩, z5⟩, z6⟩ := q
      have hC := X _ _ ho
      obtain ⟨nm, bs, mro, ns, qn, hd, sn, sub, ab, col, del⟩ := cd
      simp only at e1 z3 z5 z6
      subst e1 z1 z2 z3
      obtain ⟨l⟩ := sl
      simp only at e2
      subst e2
      exact ⟨bm, ns, nm, qn, bs, hd, sn, sub, ab, col, dd, k0, k1, k2, k3, k5, _, hC, .of_isNs (isNs_of_in X z5), nsMap_none_of_in X z5 z6, tail_of_in X z4⟩
    · cases q
  · cases q
theorem ps_raiseK {X : Cx} {E : XK} {x : Str} {C : Addr} {B newId initId : String} {bm : List Value} {np cpos pos : Pos} {e₀ : Expr} {rest : List Expr} {t : TA} (R : Rs X E) (hc : X.calm = true) (hg : Gl X x) (hm : X.mg x = some (.ref C)) (hq : excIn X.K C bm newId = true) (FB : ExcBaseFacts B newId initId bm) (ha : PA X (e₀ :: rest) t)
    (he : starEach (e₀ :: rest) X.env = (false, eval e₀ X.env) :: starEach rest X.env := by rfl) (hp : (backTo cpos (starEach rest X.env)).any (·.1) = false := by rfl) (hd : (x == ("__debug__" : Str)) = false := by decide) :
    PS X (.Raise (some (.Call (.Name x np) (e₀ :: rest) [] cpos)) none pos) (tRaise E (.ref C) t) := fun pins s σ H D I h =>
  ps_raise R hc hg (own_K I.ok.mod.kin hm hq) FB ha he hp hd pins s σ H D I h
structure CalE (P : Program) (w : World) (K : PySem.W.Frag) (mg : Str → Option Value) (base : Heap) (n : Nat) (x : Str) (ps : List Str) (sp : Sp) : Prop where
  ex : ∃ f fd, FnOk P w K mg base (CXE P w) n f fd ps sp ∧ Binds K fd ps [] ∧ PySem.W.keepIn K (.ref f) = true ∧ mg x = some (.ref f)
theorem Dfn.calE {P : Program} {w : World} {K : PySem.W.Frag} {mg : Str → Option Value} {base : Heap} {x : Str} {st : Stmt} {N ps : List Str} {k : Nat} {sp : Sp} (d : Dfn K mg x st ps) (S : FnScope N ps (defScope st)) (len : ∀ vs H Q E, sp vs H Q E → vs.length = ps.length)
    (hbody : ∀ (f : Addr) (cdv : Value) (A : Around) (outer : List Env) (s : Shared) (H : Hp) (vs : List V) (Q : VK) (E : XK), Room k (A.deeper (envOfC x (defScope st) s.heap.objs.size f cdv)) → sp vs H Q E → Rs (cxOf (CXE P w) P w K mg base N x (defScope st) f cdv A outer s H E) E →
      ∃ t, PSs (cxOf (CXE P w) P w K mg base N x (defScope st) f cdv A outer s H E) (defBody st) t ∧ t { nx := fun _ H' => Q .non H', rt := Q } (start N vs) H) : CalE P w K mg base (k + 1) x ps sp := by
  obtain ⟨f, fd, F, b, m⟩ := d.ex
  exact ⟨f, fd, F.okE S len (hbody f), b, F.kp, m⟩
theorem call_isxK {X : Cx} (K : PySem.W.Frag) (h : X.K = K := by rfl) : CallR X (.builtin "isinstance") (rIsX K) := h ▸ call_isx
theorem call_isxTK {X : Cx} (K : PySem.W.Frag) (h : X.K = K := by rfl) : CallR X (.builtin "isinstance") (rIsXT K) := h ▸ call_isxT
end L2
set_option Elab.async false
set_option linter.all false
set_option maxRecDepth 100000
namespace L2
open PySem PySem.Spec PyProof.Rows PySem.W PySem.Calls
theorem pe_callE {X : Cx} {E : XK} {n k : Nat} {x : Str} {ps : List Str} {sp : Sp} {p pos : Pos} {e : Expr} {es : List Expr} {t : TA} (R : Rs X E) (C : CalE X.prog X.w X.K X.mg X.base n x ps sp) (hr : Room k X.A) (hle : n ≤ k) (hg : Gl X x) (ha : PA X (e :: es) t) (hdb : (x == ("__debug__" : Str)) = false := by decide)
    (h1 : notStar e = true := by rfl) (h2 : es.all notStar = true := by rfl) : PE X (.Call (.Name x p) (e :: es) [] pos) (tCall sp [] E t) := by
  obtain ⟨f, fd, F, b, kp, m⟩ := C.ex
  exact pe_call F (hr.mono hle) hg m kp b .nil (R.passes fun _ _ _ h => h) ha hdb (star_cons h1) (star_any h2)
theorem passE0 {X : Cx} : Passes (CXE X.prog X.w) X E0 := fun pins σ H s e s' I c => by
  obtain ⟨a, cls, H2, rfl, os, bare, un, hok, _, ee⟩ := c
  exact False.elim ee
end L2
set_option Elab.async false
set_option linter.all false
set_option maxRecDepth 100000
namespace L2
open PySem PySem.Spec PyProof.Rows PySem.W PySem.Calls
section
variable {X : Cx} {pins : List (Addr × Obj)} {σ : St} {H : Hp} {s : Shared} {k : Nat} {fa : Addr} {fd : FuncData} {ps : List Str} {sp : Sp}
def tTryA (K : PySem.W.Frag) (S : Addr) (sp : Sp) (j : Nat) (t : TA) (ts : TS) : TS := fun D σ H => t σ H fun vs H1 => sp vs H1 (fun v H2 => D.nx σ H2) fun cls oa H2 => ∀ a, oa = some a → ∃ C, cls = .ref C ∧ mroIn K C (.ref S) = some true ∧
  ∀ H3, Same H2 H3 → H3 a = some (excO a cls) → ts { nx := fun σ' H' => (∃ v, σ'[j]? = some (some v)) ∧ D.nx (σ'.set j none) H', rt := fun _ _ => False } (σ.set j (some (.ref a))) H3
end
end L2
set_option Elab.async false
set_option linter.all false
set_option maxRecDepth 100000
namespace L2
open PySem PySem.Spec PyProof.Rows PySem.W PySem.Calls
def rUpper : V → List V → Hp → VK → Prop := fun x vs H Q => ∃ z, x = .str z ∧ vs = [] ∧ Builtin.Str.tooLong (Txt.upper z).length = false ∧ Q (.str (Txt.upper z)) H
theorem mt_upper {X : Cx} : MtR X "str.upper" rUpper := by
  intro pins s σ H x xs v us Q I rx rs h
  obtain ⟨z, rfl, rfl, hf, q⟩ := h
  obtain ⟨t, rfl⟩ := rx
  cases rs
  exact SC.upper hf ⟨.str _, H, I.tok _, ⟨_, rfl⟩, q⟩
end L2
set_option Elab.async false
set_option linter.all false
set_option maxRecDepth 100000
namespace L2
open PySem PySem.Spec PyProof.Rows
theorem upT {α : Type} {M : Model} {A : Around} {t : Sem α} {Q : α → Shared → Prop} {E : Value → Shared → Prop} {s : Shared} (ht : 1 ≤ s.toks) (h : wpAny M A t Q E s) : wpAny M A t (fun a s' => 1 ≤ s'.toks ∧ Q a s') E s :=
  wpAny_mono (wpAny_toks_of ht h) (fun _ _ z => z) fun _ _ z => z.2
def PET (X : Cx) (e : Expr) (t : TE) : Prop := ∀ (pins : List (Addr × Obj)) (s : Shared) (σ : St) (H : Hp) (Q : VK), 1 ≤ s.toks → Inv X pins σ H s → t σ H Q → wpAny (model X.prog X.w) X.A (eval e X.env) (EP X pins σ Q) X.xe s
def PTT (X : Cx) (e : Expr) (t : TT) : Prop := ∀ (pins : List (Addr × Obj)) (s : Shared) (σ : St) (H : Hp) (Q : Bool → Hp → Prop), 1 ≤ s.toks → Inv X pins σ H s → t σ H Q → wpAny (model X.prog X.w) X.A (isTrue e X.env (eval e X.env)) (TP X pins σ Q) X.xe s
def PWT (X : Cx) (e : Expr) (t : TT) : Prop := ∀ (whole : Sem Value) (pins : List (Addr × Obj)) (s : Shared) (σ : St) (H : Hp) (Q : Bool → Hp → Prop), 1 ≤ s.toks → Inv X pins σ H s → t σ H Q → wpAny (model X.prog X.w) X.A (isTrue e X.env whole) (TP X pins σ Q) X.xe s
def PAT (X : Cx) (es : List Expr) (t : TA) : Prop := ∀ (pos : Pos) (pins : List (Addr × Obj)) (s : Shared) (σ : St) (H : Hp) (Q : List V → Hp → Prop), 1 ≤ s.toks → Inv X pins σ H s → t σ H Q → wpAny (model X.prog X.w) X.A (spliced (backTo pos (starEach es X.env))) (AP X pins σ Q) X.xe s
def PST (X : Cx) (st : Stmt) (t : TS) : Prop := ∀ (pins : List (Addr × Obj)) (s : Shared) (σ : St) (H : Hp) (D : Ends), 1 ≤ s.toks → Inv X pins σ H s → t D σ H → wpAny (model X.prog X.w) X.A (exec st X.env) (SP X pins D) X.xe s
def PSsT (X : Cx) (st : List Stmt) (t : TS) : Prop := ∀ (pins : List (Addr × Obj)) (s : Shared) (σ : St) (H : Hp) (D : Ends), 1 ≤ s.toks → Inv X pins σ H s → t D σ H → wpAny (model X.prog X.w) X.A (execs st X.env) (SP X pins D) X.xe s
section
variable {X : Cx} {a b e : Expr} {es rest : List Expr} {ta tb te : TE} {tA tB' : TT} {tu : TA} {pos : Pos}
theorem PE.t (h : PE X e te) : PET X e te := fun pins s σ H Q _ I hw => h pins s σ H Q I hw
theorem PA.t (h : PA X es tu) : PAT X es tu := fun q pins s σ H Q _ I hw => h q pins s σ H Q I hw
theorem PS.t {st : Stmt} {t : TS} (h : PS X st t) : PST X st t := fun pins s σ H D _ I hw => h pins s σ H D I hw
theorem PSs.t {st : List Stmt} {t : TS} (h : PSs X st t) : PSsT X st t := fun pins s σ H D _ I hw => h pins s σ H D I hw
theorem PWT.pt (h : PWT X e tA) : PTT X e tA := h _
variable {st : Stmt} {sts : List Stmt} {t u : TS}
theorem psT_cons (h1 : PST X st t) (h2 : PSsT X sts u) : PSsT X (st :: sts) (tSeq t u) := fun pins s σ H D ht I hw => by
  refine wpAny_execs_cons (thn (upT ht (h1 pins s σ H { D with nx := u D } ht I hw)) fun fl s' z => ?_)
  obtain ⟨ht', z⟩ := z
  cases fl with
  | next => obtain ⟨σ', H', I', z'⟩ := z; exact h2 pins s' σ' H' D ht' I' z'
  | ret _ => exact z
  | brk => exact z
  | cont => exact z
theorem psT_one (h1 : PST X st t) : PSsT X [st] t := fun pins s σ H D ht I hw => by
  refine wpAny_execs_cons (thn (h1 pins s σ H D ht I hw) fun fl s' z => ?_)
  cases fl with
  | next => exact wpAny_execs_nil z
  | ret _ => exact z
  | brk => exact z
  | cont => exact z
theorem psT_ret (he : PET X e te) : PST X (.Return (some e) pos) (tRet te) := fun pins s σ H D ht I hw =>
  wpAny_Return_some (thn (he pins s σ H _ ht I hw) fun v s1 ⟨x, H1, I1, r1, q1⟩ => ⟨x, σ, H1, I1, r1, q1⟩)
theorem psT_if {c : Expr} {as bs : List Stmt} {tc : TT} (hc : PTT X c tc) (ha : PSsT X as t) (hb : PSsT X bs u) : PST X (.If c as bs pos) (tIfS tc t u) := fun pins s σ H D ht I hw => by
  refine wpAny_If (thn (upT ht (hc pins s σ H _ ht I hw)) fun d s1 ⟨ht1, H1, I1, q1⟩ => ?_)
  cases d with
  | true => exact ha pins s1 σ H1 D ht1 I1 q1
  | false => exact hb pins s1 σ H1 D ht1 I1 q1
theorem psT_set {i : Nat} {x : Str} {pos' : Pos} (hN : X.N.Nodup) (hi : X.N[i]? = some x) (hx : Loc X.env.scope x) (he : PET X e te) (hs : swapsWith e (some (.Name x pos')) pos.line X.env = pure false := by rfl)
    (hf : X.fn x = true ∨ X.env.scope.names.lookup x = some .local := by first | exact .inl rfl | exact .inr rfl | assumption) : PST X (.Assign [.Name x pos'] e pos) (tAsg te (gName i)) := fun pins s σ H D ht I hw =>
  wpAny_Assign_Name (thn (he pins s σ H _ ht I hw) fun v s1 ⟨y, H1, I1, r1, q1⟩ => store_ok I1 hN hi hx r1 (fun s2 I2 => ⟨_, H1, I2, q1⟩) hf) hs
theorem ptT_val (h : PET X e te) (he : ∀ whole, isTrue e X.env whole = (do let v ← whole; standAt e.pos; holding [v] (truthy v)) := by intro _; rfl) : PTT X e (tB te) := fun pins s σ H Q ht I hw => by
  refine isTrue_plain (thn (h pins s σ H _ ht I hw) fun v s1 ⟨x, H1, I1, r1, q1⟩ => ?_) (he _)
  obtain ⟨d, rfl, q⟩ := q1
  cases r1
  exact wpAny_truthy_bool ⟨H1, I1, q⟩
theorem ptT_not (ha : PTT X a tA) : PTT X (.UnaryOp .Not a pos) (tNot tA) := fun pins s σ H Q ht I hw => isTrue_not (ha pins s σ H (fun c H1 => Q (!c) H1) ht I hw)
theorem pwT_or1 (ha : PTT X a tA) : PWT X (.BoolOp .Or [a] pos) tA := fun wh pins s σ H Q ht I hw => by
  refine isTrue_or (thn (ha pins s σ H Q ht I hw) fun c s1 z => ?_)
  cases c with
  | false => exact isTrue_or_nil z
  | true => exact z
theorem pwT_or (ha : PTT X a tA) (hb : PWT X (.BoolOp .Or (b :: rest) pos) tB') : PWT X (.BoolOp .Or (a :: b :: rest) pos) (tOr tA tB') := fun wh pins s σ H Q ht I hw => by
  refine isTrue_or (thn (upT ht (ha pins s σ H _ ht I hw)) fun c s1 ⟨ht1, H1, I1, q1⟩ => ?_)
  cases c with
  | true => exact ⟨H1, I1, q1⟩
  | false => exact hb wh pins s1 σ H1 Q ht1 I1 q1
theorem paT_c (ha : PET X e te) (hr : PAT X es tu) (h : notStar e = true := by rfl) : PAT X (e :: es) (tCons te tu) := fun q pins s σ H Q ht I hw => by
  rw [star_cons h]
  show wpAny _ _ (spliced ((false, eval e X.env) :: backTo q (starEach es X.env))) _ _ s
  refine Calls.spliced_cons (thn (upT ht (ha pins s σ H _ ht I hw)) fun v s1 ⟨ht1, x, H1, I1, r1, q1⟩ => ?_)
  exact thn (hr q pins s1 σ H1 _ ht1 I1 q1) fun us s2 ⟨xs, H2, I2, r2, q2⟩ => ⟨x :: xs, H2, I2, .cons r1 r2, q2⟩
theorem peT_op {op : Operator} {r : R2} (ho : OpR X (binaryOp op) r) (ha : PET X a ta) (hb : PET X b tb) : PET X (.BinOp a op b pos) (tOp r ta tb) := fun pins s σ H Q ht I hw =>
  wpAny_BinOp (thn (upT ht (ha pins s σ H _ ht I hw)) fun v s1 ⟨ht1, x, H1, I1, r1, q1⟩ => thn (hb pins s1 σ H1 _ ht1 I1 q1) fun u s2 ⟨y, H2, I2, r2, q2⟩ => ho pins s2 σ H2 x y v u Q I2 r1 r2 q2)
theorem peT_cmpR {op : CmpOp} {r : R2} (ho : OpR X (compareOp op) r) (ha : PET X a ta) (hb : PET X b tb) (hm : behindInMarks op b = false) : PET X (.Compare a [op] [b] pos) (tOp r ta tb) := fun pins s σ H Q ht I hw =>
  wpAny_Compare1 (thn (upT ht (ha pins s σ H _ ht I hw)) fun v s1 ⟨ht1, x, H1, I1, r1, q1⟩ => thn (hb pins s1 σ H1 _ ht1 I1 q1) fun u s2 ⟨y, H2, I2, r2, q2⟩ => ho pins s2 σ H2 x y v u Q I2 r1 r2 q2) hm
end
def PEU (X : Cx) (e : Expr) (t : TE) : Prop := ∀ (pins : List (Addr × Obj)) (s : Shared) (σ : St) (H : Hp) (Q : VK), Inv X pins σ H s → t σ H Q → wpAny (model X.prog X.w) X.A (eval e X.env) (fun v s' => 1 ≤ s'.toks ∧ EP X pins σ Q v s') X.xe s
def PAU (X : Cx) (es : List Expr) (t : TA) : Prop := ∀ (pos : Pos) (pins : List (Addr × Obj)) (s : Shared) (σ : St) (H : Hp) (Q : List V → Hp → Prop), Inv X pins σ H s → t σ H Q → wpAny (model X.prog X.w) X.A (spliced (backTo pos (starEach es X.env))) (fun v s' => 1 ≤ s'.toks ∧ AP X pins σ Q v s') X.xe s
def PSU (X : Cx) (st : Stmt) (t : TS) : Prop := ∀ (pins : List (Addr × Obj)) (s : Shared) (σ : St) (H : Hp) (D : Ends), Inv X pins σ H s → t D σ H → wpAny (model X.prog X.w) X.A (exec st X.env) (fun fl s' => 1 ≤ s'.toks ∧ SP X pins D fl s') X.xe s
section
variable {X : Cx} {a b e : Expr} {es : List Expr} {ta tb te : TE} {tu : TA} {pos : Pos} {st : Stmt} {sts : List Stmt} {t u : TS}
theorem peU_int {i : Int} {k : Nat} : PEU X (.Constant (.int i) k pos) (tC (.int i)) := fun pins s σ H Q I hw => wpAny_Constant_int ⟨Nat.le_add_left _ _, .int i, H, I.tok _, ⟨_, rfl⟩, hw⟩
theorem paU_hd (ha : PEU X e te) (hr : PA X es tu) (h : notStar e = true := by rfl) : PAU X (e :: es) (tCons te tu) := fun q pins s σ H Q I hw => by
  rw [star_cons h]
  show wpAny _ _ (spliced ((false, eval e X.env) :: backTo q (starEach es X.env))) _ _ s
  refine Calls.spliced_cons (thn (ha pins s σ H _ I hw) fun v s1 ⟨ht1, x, H1, I1, r1, q1⟩ => ?_)
  exact thn (upT ht1 (hr q pins s1 σ H1 _ I1 q1)) fun us s2 ⟨ht2, xs, H2, I2, r2, q2⟩ => ⟨ht2, x :: xs, H2, I2, .cons r1 r2, q2⟩
theorem paU_tl (ha : PE X e te) (hr : PAU X es tu) (h : notStar e = true := by rfl) : PAU X (e :: es) (tCons te tu) := fun q pins s σ H Q I hw => by
  rw [star_cons h]
  show wpAny _ _ (spliced ((false, eval e X.env) :: backTo q (starEach es X.env))) _ _ s
  refine Calls.spliced_cons (thn (ha pins s σ H _ I hw) fun v s1 ⟨x, H1, I1, r1, q1⟩ => ?_)
  exact thn (hr q pins s1 σ H1 _ I1 q1) fun us s2 ⟨ht2, xs, H2, I2, r2, q2⟩ => ⟨ht2, x :: xs, H2, I2, .cons r1 r2, q2⟩
theorem peU_op {op : Operator} {r : R2} (ho : OpR X (binaryOp op) r) (ha : PEU X a ta) (hb : PE X b tb) : PEU X (.BinOp a op b pos) (tOp r ta tb) := fun pins s σ H Q I hw =>
  wpAny_BinOp (thn (ha pins s σ H _ I hw) fun v s1 ⟨ht1, x, H1, I1, r1, q1⟩ => thn (upT ht1 (hb pins s1 σ H1 _ I1 q1)) fun u s2 ⟨ht2, y, H2, I2, r2, q2⟩ => upT ht2 (ho pins s2 σ H2 x y v u Q I2 r1 r2 q2))
theorem psU_set {i : Nat} {x : Str} {pos' : Pos} (hN : X.N.Nodup) (hi : X.N[i]? = some x) (hx : Loc X.env.scope x) (he : PEU X e te) (hs : swapsWith e (some (.Name x pos')) pos.line X.env = pure false := by rfl)
    (hf : X.fn x = true ∨ X.env.scope.names.lookup x = some .local := by first | exact .inl rfl | exact .inr rfl | assumption) : PSU X (.Assign [.Name x pos'] e pos) (tAsg te (gName i)) := fun pins s σ H D I hw =>
  wpAny_Assign_Name (thn (he pins s σ H _ I hw) fun v s1 ⟨ht1, y, H1, I1, r1, q1⟩ => upT ht1 (store_ok I1 hN hi hx r1 (fun s2 I2 => ⟨_, H1, I2, q1⟩) hf)) hs
theorem psU_cons (h1 : PSU X st t) (h2 : PSsT X sts u) : PSs X (st :: sts) (tSeq t u) := fun pins s σ H D I hw => by
  refine wpAny_execs_cons (thn (h1 pins s σ H { D with nx := u D } I hw) fun fl s' z => ?_)
  obtain ⟨ht', z⟩ := z
  cases fl with
  | next => obtain ⟨σ', H', I', z'⟩ := z; exact h2 pins s' σ' H' D ht' I' z'
  | ret _ => exact z
  | brk => exact z
  | cont => exact z
end
end L2
set_option Elab.async false
set_option linter.all false
set_option maxRecDepth 100000
namespace L2
open PySem PySem.Spec PyProof.Rows
theorem PSsT.noxT {X : Cx} {st : List Stmt} {t : TS} (h : PSsT X.nox st t) : PSsT X st t := fun pins s σ H D ht I hw => wpAny_mono (h pins s σ H D ht (I.wish _) hw) (fun _ _ q => q.unwish) fun _ _ z => False.elim z
structure FnOkT (P : Program) (w : World) (K : PySem.W.Frag) (mg : Str → Option Value) (base : Heap) (CX : CXT) (k : Nat) (f : Addr) (fd : FuncData) (ps : List Str) (sp : Sp) : Prop where
  len : ∀ vs H Q E, sp vs H Q E → vs.length = ps.length
  run : ∀ (A : Around) (outer : List Env) (s : Shared) (H : Hp) (args : Args) (us : List Value) (vs : List V) (Q : VK) (E : XK), 1 ≤ s.toks → Room k A → Env0 P w K mg base A outer s H → BindsTo s fd args (ps.zip us) → Vals vs us → sp vs H Q E →
    codeAny (model P w) A (.call (.ref f) args) (CR CX outer P w H s Q E) s
theorem fn_ofT {CX : CXT} {P : Program} {w : World} {K : PySem.W.Frag} {mg : Str → Option Value} {base : Heap} {k : Nat} {f : Addr} {name qual : Str} {params : Arguments} {body : List Stmt} {scope : Scope} {dV kV doc pm cdv ct oc : Value} {an od : Option Addr}
    {osl : Array (Option Value)} {N ps : List Str} {sp : Sp} (lk : K.lookup f = some ⟨oc, od, .func (PySem.W.fnOf name qual params body scope dV kV doc pm an cdv ct), osl⟩) (hcd : PySem.W.codeIn K cdv qual = true) (S : FnScope N ps scope)
    (len : ∀ vs H Q E, sp vs H Q E → vs.length = ps.length)
    (hbody : ∀ (A : Around) (outer : List Env) (s : Shared) (H : Hp) (vs : List V) (Q : VK) (E : XK), Room k (A.deeper (envOfC qual scope s.heap.objs.size f cdv)) → sp vs H Q E →
      ∃ t, PSsT (cxOf CX P w K mg base N qual scope f cdv A outer s H E) body t ∧ t { nx := fun _ H' => Q .non H', rt := Q } (start N vs) H) :
    FnOkT P w K mg base CX (k + 1) f (PySem.W.fnOf name qual params body scope dV kV doc pm an cdv ct) ps sp := by
  refine ⟨len, fun A outer s H args us vs Q E ht hr e0 hb r hsp => ?_⟩
  have hl := len _ _ _ _ hsp
  have KX : K.In s.heap := e0.mod.kin.keeps fun b o e => (e0.bs b o e).1
  have lim : s.heap.NoLimit := e0.mod.nolimit.keeps fun b o e => (e0.bs b o e).1
  have hkind : ∀ y ∈ ps.zip us, scope.names.lookup y.1 = some .local ∨ (scope.names.lookup y.1 = some .cell ∧ ((cellsFrom (s.heap.objs.size + 1) scope.names []).lookup y.1).isSome = true) := fun ⟨n, v⟩ hy => by
    rcases S.par n (List.of_mem_zip hy).1 with q | q
    · exact .inl q
    · exact .inr ⟨q, PySem.W.cellsFrom_some _ _ _ (.inl q)⟩
  refine codeAny_call_function hr.depth (KX _ _ lk) rfl S.co S.gen rfl (PySem.W.codeRec_of KX hcd) (hb _ _ _ _ ?_)
  refine thn (upT ht (wpAny_newFunctionEnv_cells (Q := fun env s1 => env = envOfC qual scope s.heap.objs.size f cdv ∧ InCallC s s.heap.objs.size (bindL (envOfC qual scope s.heap.objs.size f cdv).kindOf (ps.zip us) fun _ => none) (cellsFrom (s.heap.objs.size + 1) scope.names []) (bindC (envOfC qual scope s.heap.objs.size f cdv).kindOf (ps.zip us) fun _ => none) s1) S.kind hkind fun env he s1 x => ⟨he, by subst he; exact x⟩)) fun env s1 ⟨ht1, he, x⟩ => ?_
  subst he
  refine ⟨lim.keeps x.toInCall.keep, codeAny_func ?_⟩
  obtain ⟨t, HT, hq⟩ := hbody A outer s H vs Q E (hr.deeper _) hsp
  have I : Inv (cxOf CX P w K mg base N qual scope f cdv A outer s H E) [] (start N vs) H s1 := inv_start S hr.hd e0 hl r x
  refine wpAny_mono (HT [] s1 (start N vs) H _ ht1 I hq) (fun fl s' hs => ?_) fun e s' hs => hs
  have fin : ∀ {σ' : St} {H' : Hp} {v : V} {u : Value}, Inv (cxOf CX P w K mg base N qual scope f cdv A outer s H E) [] σ' H' s' → RelV v u → Q v H' → CE outer P w H s Q u s' :=
    fun {σ' H' v u} J rv q => ⟨v, H', J.os, J.bare, J.base, J.hok, rv, q⟩
  cases fl with
  | ret u =>
    obtain ⟨v, σ', H', J, rv, q⟩ := hs
    exact fin J rv q
  | next =>
    obtain ⟨σ', H', J, q⟩ := hs
    exact fin (v := V.non) (u := Value.none) J rfl q
  | brk =>
    obtain ⟨_, _, _, q⟩ := hs
    exact False.elim q
  | cont =>
    obtain ⟨_, _, _, q⟩ := hs
    exact False.elim q
section
variable {P : Program} {w : World} {K : PySem.W.Frag} {mg : Str → Option Value} {base : Heap}
theorem Fun.okT {x qual : Str} {st : Stmt} {f : Addr} {fd : FuncData} {N ps : List Str} {k : Nat} {sp : Sp} (F : Fun K x qual st f fd) (S : FnScope N ps (defScope st)) (len : ∀ vs H Q E, sp vs H Q E → vs.length = ps.length)
    (hbody : ∀ (cdv : Value) (A : Around) (outer : List Env) (s : Shared) (H : Hp) (vs : List V) (Q : VK) (E : XK), Room k (A.deeper (envOfC qual (defScope st) s.heap.objs.size f cdv)) → sp vs H Q E →
      ∃ t, PSsT (cxOf CX0 P w K mg base N qual (defScope st) f cdv A outer s H E).nox (defBody st) t ∧ t { nx := fun _ H' => Q .non H', rt := Q } (start N vs) H) : FnOkT P w K mg base CX0 (k + 1) f fd ps sp := by
  obtain ⟨oc, od, kV, doc, pm, an, cdv, ct, osl, rfl, lk, hcd⟩ := F.ex
  refine fn_ofT lk hcd S len fun A outer s H vs Q E hr hsp => ?_
  obtain ⟨t, h, q⟩ := hbody cdv A outer s H vs Q E hr hsp
  exact ⟨t, h.noxT, q⟩
structure CalT (P : Program) (w : World) (K : PySem.W.Frag) (mg : Str → Option Value) (base : Heap) (n : Nat) (x : Str) (ps : List Str) (sp : Sp) : Prop where
  ex : ∃ f fd, FnOkT P w K mg base CX0 n f fd ps sp ∧ Binds K fd ps [] ∧ PySem.W.keepIn K (.ref f) = true ∧ mg x = some (.ref f)
theorem Dfn.calT {x : Str} {st : Stmt} {N ps : List Str} {k : Nat} {sp : Sp} (d : Dfn K mg x st ps) (S : FnScope N ps (defScope st)) (len : ∀ vs H Q E, sp vs H Q E → vs.length = ps.length)
    (hbody : ∀ (f : Addr) (cdv : Value) (A : Around) (outer : List Env) (s : Shared) (H : Hp) (vs : List V) (Q : VK) (E : XK), Room k (A.deeper (envOfC x (defScope st) s.heap.objs.size f cdv)) → sp vs H Q E →
      ∃ t, PSsT (cxOf CX0 P w K mg base N x (defScope st) f cdv A outer s H E).nox (defBody st) t ∧ t { nx := fun _ H' => Q .non H', rt := Q } (start N vs) H) : CalT P w K mg base (k + 1) x ps sp := by
  obtain ⟨f, fd, F, b, m⟩ := d.ex
  exact ⟨f, fd, F.okT S len (hbody f), b, F.kp, m⟩
end
end L2
set_option Elab.async false
set_option linter.all false
set_option maxRecDepth 100000
namespace L2
open PySem PySem.Spec PyProof.Rows
section
variable {X : Cx} {n k : Nat} {x : Str} {ps : List Str} {sp : Sp} {p pos : Pos} {e : Expr} {es : List Expr} {t : TA}
theorem peT_callC (C : Cal X.prog X.w X.K X.mg X.base n x ps sp) (hr : Room k X.A) (hle : n ≤ k) (hg : Gl X x) (ha : PAT X (e :: es) t) (hdb : (x == ("__debug__" : Str)) = false := by decide)
    (h1 : notStar e = true := by rfl) (h2 : es.all notStar = true := by rfl) : PET X (.Call (.Name x p) (e :: es) [] pos) (tCall sp [] E0 t) := fun pins s σ H Q ht I hw => by
  obtain ⟨f, fd, F, b, kp, m⟩ := C.ex
  refine wpAny_Call_Name_kw (ld_glob I hg m ?_ hdb)
  refine PySem.W.callWith_K (h₀ := X.base) I.ok.mod.kin kp (thn (ha pos pins s σ H _ ht I hw) fun us s1 ⟨vs, H1, I1, r, q⟩ => ⟨I1.kIn, ?_⟩) (star_cons h1) (star_any h2)
  exact run_fn F (hr.mono hle) b .nil pass0 I1 r q
theorem peU_callC (C : Cal X.prog X.w X.K X.mg X.base n x ps sp) (hr : Room k X.A) (hle : n ≤ k) (hg : Gl X x) (ha : PAU X (e :: es) t) (hdb : (x == ("__debug__" : Str)) = false := by decide)
    (h1 : notStar e = true := by rfl) (h2 : es.all notStar = true := by rfl) : PEU X (.Call (.Name x p) (e :: es) [] pos) (tCall sp [] E0 t) := fun pins s σ H Q I hw => by
  obtain ⟨f, fd, F, b, kp, m⟩ := C.ex
  refine wpAny_Call_Name_kw (ld_glob I hg m ?_ hdb)
  refine PySem.W.callWith_K (h₀ := X.base) I.ok.mod.kin kp (thn (ha pos pins s σ H _ I hw) fun us s1 ⟨ht1, vs, H1, I1, r, q⟩ => ⟨I1.kIn, ?_⟩) (star_cons h1) (star_any h2)
  exact upT ht1 (run_fn F (hr.mono hle) b .nil pass0 I1 r q)
theorem peT_callT (C : CalT X.prog X.w X.K X.mg X.base n x ps sp) (hr : Room k X.A) (hle : n ≤ k) (hg : Gl X x) (ha : PAT X (e :: es) t) (hdb : (x == ("__debug__" : Str)) = false := by decide)
    (h1 : notStar e = true := by rfl) (h2 : es.all notStar = true := by rfl) : PET X (.Call (.Name x p) (e :: es) [] pos) (tCall sp [] E0 t) := fun pins s σ H Q ht I hw => by
  obtain ⟨f, fd, F, b, kp, m⟩ := C.ex
  refine wpAny_Call_Name_kw (ld_glob I hg m ?_ hdb)
  refine PySem.W.callWith_K (h₀ := X.base) I.ok.mod.kin kp (thn (upT ht (ha pos pins s σ H _ ht I hw)) fun us s1 ⟨ht1, vs, H1, I1, r, q⟩ => ⟨I1.kIn, ?_⟩) (star_cons h1) (star_any h2)
  have r2 : Vals (vs ++ []) (us ++ []) := r.append .nil
  have hl : (us ++ []).length = ps.length := by rw [← r2.length]; exact F.len _ _ _ _ q
  refine wpAny_call (codeAny_mono (F.run X.A X.stack s1 H1 ⟨us, []⟩ (us ++ []) (vs ++ []) Q E0 ht1 (hr.mono hle) I1.env0 (b s1 us I1.kIn hl) r2 q) fun res s' z => ?_)
  cases res with
  | error _ => exact z.elim
  | ok fl =>
    cases fl with
    | ret _ => exact I1.after z
    | next => exact z.elim
    | brk => exact z.elim
    | cont => exact z.elim
end
section
variable {X : Cx} {o : Expr} {to : TE}
def tReplace (to : TE) (y z : Str) : TE := fun σ H Q => to σ H fun x H1 => ∃ v, x = .str v ∧ (y == z) = false ∧ v.length + (v.length + 1) * z.length ≤ 16777216 ∧ Q (.str (Txt.replace v y z)) H1
theorem peT_replace {y z : Str} {k1 k2 : Nat} {p1 p2 apos cpos : Pos} (ho : PET X o to)
    (hbase : attributeBase o "replace" X.env (eval o X.env) = eval o X.env := by rfl) (hline : (apos.endLine == cpos.line) = true := by rfl)
    (hfew : ((backTo cpos (starEach [.Constant (.str y) k1 p1, .Constant (.str z) k2 p2] X.env)).all (fun x => !x.1) && (backToKw cpos (keywordEach [] X.env)).all (fun x => x.1.isSome)
      && decide (([.Constant (.str y) k1 p1, .Constant (.str z) k2 p2] : List Expr).length + ([] : List Keyword).length + (if ([] : List Keyword).isEmpty then 0 else 1) < 30)) = true := by rfl) :
    PET X (.Call (.Attribute o "replace" apos) [.Constant (.str y) k1 p1, .Constant (.str z) k2 p2] [] cpos) (tReplace to y z) := fun pins s σ H Q ht I hw => by
  refine wpAny_Call_method_late hbase hfew hline rfl (thn (upT ht (ho pins s σ H _ ht I hw)) fun v s1 ⟨ht1, x, H1, I1, r1, q1⟩ => ?_)
  obtain ⟨v0, rfl, hyz, hb, q⟩ := q1
  obtain ⟨t0, rfl⟩ := r1
  refine ⟨"str", "str.replace", PySem.F.plainAttrs_str, PySem.F.slot_str_replace, PySem.F.type_str_replace, typeIs_str _ _ _, ?_, ?_⟩
  · exact fun a ea => nomatch ea
  · have hs : starEach [Expr.Constant (.str y) k1 p1, Expr.Constant (.str z) k2 p2] X.env = [(false, eval (Expr.Constant (.str y) k1 p1) X.env), (false, eval (Expr.Constant (.str z) k2 p2) X.env)] := by rw [star_cons rfl, star_cons rfl, starEach.eq_def]
    rw [hs]
    refine Calls.callWith_builtin rfl (Calls.evalArgs_plain (Calls.spliced_cons (wpAny_Constant_str (x := y) (k := k1) (pos := p1) (Calls.spliced_cons (wpAny_Constant_str (x := z) (k := k2) (pos := p2) (Calls.spliced_nil ?_))))))
    have u0 : s1.toks ≠ 0 := by omega
    have u1 : s1.toks + 1 ≠ 0 := by omega
    have u2 : s1.toks ≠ s1.toks + 1 := by omega
    exact SC.replace u0 u1 u2 hyz hb fun t' kk => ⟨.str _, H1, (I1.tok _ : Inv X pins σ H1 { s1 with toks := kk }), ⟨_, rfl⟩, q⟩
def rSplit : V → List V → Hp → VK → Prop := fun x vs H Q => ∃ (z y : Str), x = .str z ∧ vs = [.str y] ∧ (y.length == 0) = false ∧ z.length ≤ sizeLine ∧ (Txt.split z y).length ≤ 100000 ∧ ∀ p H', New H p (.lst ((Txt.split z y).map V.str)) H' → Q (.ref p) H'
theorem vals_strs : ∀ (l : List (Str × Tok)), Vals ((l.map (·.1)).map V.str) (strValues l)
  | [] => .nil
  | p :: l => .cons ⟨p.2, rfl⟩ (vals_strs l)
theorem mt_split : MtR X "str.split" rSplit := by
  intro pins s σ H x xs v us Q I rx rs h
  obtain ⟨z, y, rfl, rfl, hy, hz, hl, q⟩ := h
  obtain ⟨t, rfl⟩ := rx
  obtain ⟨u, rfl, t', rfl⟩ := vals1 rs
  have fin : ∀ (l : List (Str × Tok)) (kk : Nat), l.map (·.1) = Txt.split z y → EP X pins σ Q (.ref s.heap.objs.size) { s with heap := s.heap.push { cls := .type "list", data := .seq (strValues l).toArray }, toks := kk } := fun l kk el => by
    have ll : l.length = (Txt.split z y).length := by rw [← el, List.length_map]
    refine ⟨.ref s.heap.objs.size, _, I.laid (o := .lst ((Txt.split z y).map V.str)) (fun b o eb => Heap.get?_push_of_some _ eb) (Nat.le_refl _) ?_, rfl, q _ _ (.mk' I.fresh _)⟩
    exact ⟨by rw [List.length_map]; exact Nat.le_trans hl (by decide), strValues l, 0, by rw [← el]; exact vals_strs l, Heap.get?_push_size _ rfl⟩
  cases c1 : (decide (z.length < y.length) || decide (Builtin.Str.strKind z < Builtin.Str.strKind y))
  · cases c2 : (Builtin.Str.occurrences z y 0 z.length (z.length + 1)).isEmpty
    · have e3 : Txt.split z y = Builtin.Str.partsBetween z (Builtin.Str.occurrences z y 0 z.length (z.length + 1)) y.length := (if_neg (ne_true_of_eq_false c1)).trans (if_neg (ne_true_of_eq_false c2))
      refine call_meets PySem.F.slot_str_split (typeIs_str _ _ _) PySem.F.entry_str_split (PySem.F.args_str_split_2 _ _) (meets_str_split_sep z y t t' c1 hy c2 hz (by rw [← e3]; exact Nat.le_trans hl (by decide))) ?_
      show EP X pins σ Q _ { s with toks := _, heap := s.heap.push { cls := .type "list", data := .seq (strsFrom s.toks (Builtin.Str.partsBetween z (Builtin.Str.occurrences z y 0 z.length (z.length + 1)) y.length)).toArray } }
      rw [strsFrom_eq]
      exact fin (numbered s.toks _) _ ((numbered_texts _ _).trans e3.symm)
    · exact call_meets PySem.F.slot_str_split (typeIs_str _ _ _) PySem.F.entry_str_split (PySem.F.args_str_split_2 _ _) (meets_str_split_not_found z y t t' c1 hy c2)
        (fin [(z, t)] s.toks ((if_neg (ne_true_of_eq_false c1)).trans (if_pos c2)).symm)
  · exact call_meets PySem.F.slot_str_split (typeIs_str _ _ _) PySem.F.entry_str_split (PySem.F.args_str_split_2 _ _) (meets_str_split_cannot_occur z y t t' c1) (fin [(z, t)] s.toks (if_pos c1).symm)
theorem strs_vals : ∀ {l : List Str} {us : List Value}, Vals (l.map V.str) us → ∃ l' : List (Str × Tok), us = strValues l' ∧ l'.map (·.1) = l
  | [], _, .nil => ⟨[], rfl, rfl⟩
  | x :: _, _, .cons ⟨t, e⟩ r => let ⟨l', e1, e2⟩ := strs_vals r; ⟨(x, t) :: l', by rw [e, e1]; rfl, by rw [List.map_cons, e2]⟩
def rJoin (K : PySem.W.Frag) : V → List V → Hp → VK → Prop := fun x vs H Q => ∃ (z : Str) (p : Addr) (l : List Str), x = .str z ∧ vs = [.ref p] ∧ SqL K H p (l.map V.str) ∧ JoinOk z l = true ∧ Q (.str (Txt.join z l)) H
theorem mt_join : MtR X "str.join" (rJoin X.K) := by
  intro pins s σ H x xs v us Q I rx rs h
  obtain ⟨z, p, l, rfl, rfl, hx, hok, q⟩ := h
  obtain ⟨t, rfl⟩ := rx
  obtain ⟨u, rfl, ru⟩ := vals1 rs
  cases (show u = Value.ref p from ru)
  obtain ⟨its, rv, pl, _⟩ := I.list hx
  obtain ⟨l', rfl, el⟩ := strs_vals rv
  exact SC.join pl.isList el hok fun t' kk => ⟨.str _, H, I.tok _, ⟨_, rfl⟩, q⟩
end
end L2
set_option Elab.async false
set_option linter.all false
set_option maxRecDepth 100000
namespace PySem.F
theorem slot_revit_next : Slot "list_reverseiterator" "__next__" "list_reverseiterator.__next__" :=
  .of (owner := "list_reverseiterator") (n := "__next__") (by rw [typeLookup_type, builtinLookup_eq_fast]; kernel_rfl) (by decide +kernel) (by decide +kernel) (by decide +kernel)
    (by first | exact .inl (by decide +kernel) | exact .inr (by decide +kernel)) (by rw [isSubtype_type]; kernel_rfl)
theorem slot_revit_iter : Slot "list_reverseiterator" "__iter__" "list_reverseiterator.__iter__" :=
  .of (owner := "list_reverseiterator") (n := "__iter__") (by rw [typeLookup_type, builtinLookup_eq_fast]; kernel_rfl) (by decide +kernel) (by decide +kernel) (by decide +kernel)
    (by first | exact .inl (by decide +kernel) | exact .inr (by decide +kernel)) (by rw [isSubtype_type]; kernel_rfl)
theorem entry_revit_iter : entryFor table "list_reverseiterator.__iter__" = some Builtin.«dict_keyiterator.__iter__» :=
  entryFor_alias (id' := "dict_keyiterator.__iter__") (by kernel_rfl) (by first | rfl | decide +kernel | (unfold String.splitOn; simp +decide [String.splitOnAux])) (by decide +kernel) (by kernel_rfl)
theorem args_revit_iter (a : Value) : argsOk "list_reverseiterator.__iter__" ⟨[a], []⟩ := by unfold argsOk; kernel_rfl
theorem mro_reversedZ : mroOf (.type "reversed") = pure [.type "reversed", .type "object"] := by rw [mroOf_type]; kernel_rfl
theorem lookup_reversed_newZ : typeLookup (.type "reversed") "__new__" = pure (some (.builtin "reversed.__new__")) := by rw [typeLookup_type, builtinLookup_eq_fast]; kernel_rfl
theorem slot_reversed_initZ : Slot "reversed" "__init__" "object.__init__" :=
  .of (owner := "object") (n := "__init__") (by rw [typeLookup_type, builtinLookup_eq_fast]; kernel_rfl) (by decide +kernel) (by decide +kernel) (by decide +kernel)
    (by first | exact .inl (by decide +kernel) | exact .inr (by decide +kernel)) (by rw [isSubtype_type]; kernel_rfl)
theorem called_reversedZ : TypeCalled "reversed" "reversed.__new__" "object.__init__" :=
  ⟨by decide +kernel, by decide +kernel, ⟨_, _, mro_reversedZ⟩, madeBy_type mro_reversedZ lookup_reversed_newZ (by decide +kernel), by decide +kernel, by rw [isSubtype_type]; kernel_rfl, slot_reversed_initZ⟩
theorem typeCall_reversed_1Z (a : Value) : checkTypeCall "reversed" ⟨[a], []⟩ = pure () := by kernel_rfl
theorem newCall_reversed_1Z (a : Value) : checkBuiltinCall "reversed.__new__" ⟨[.type "reversed", a], []⟩ = pure () := by kernel_rfl
theorem entry_reversed_newZ : entryFor table "reversed.__new__" = some Builtin.«reversed.__new__» := entryFor_of_tree (by kernel_rfl)
theorem sub_reversedZ : isSubtype (.type "reversed") (.type "reversed") = pure true := by rw [isSubtype_type]; kernel_rfl
theorem sub_revit_reversedZ : isSubtype (.type "list_reverseiterator") (.type "reversed") = pure false := by rw [isSubtype_type]; kernel_rfl
end PySem.F
namespace L2
open PySem PySem.Spec PyProof.Rows
section
variable {prog : Program} {w : World} {A : Around} {E : Value → Shared → Prop} {s : Shared}
def IsRev (h : Heap) (it a : Addr) (i : Int) : Prop := h.get? it = some { cls := .type "list_reverseiterator", data := .fields #[.ref a, rawInt i] }
theorem IsRev.typeIs {it a : Addr} {i : Int} (x : IsRev s.heap it a i) : s.TypeIs (.ref it) "list_reverseiterator" := ⟨_, x, rfl⟩
theorem iter_rev {it a : Addr} {i : Int} {Q : Value → Shared → Prop} (x : IsRev s.heap it a i) (h : Q (.ref it) s) : wpAny (model prog w) A (pyIter (.ref it)) Q E s := by
  refine wpAny_pyIter_slot x.typeIs F.slot_revit_iter (wpAny_call_entry F.slot_revit_iter x.typeIs F.entry_revit_iter ?_ (F.args_revit_iter _))
  show wpAny _ _ (ret (.ref it)) _ _ s
  exact wpAny_pure ⟨_, rfl, "list_reverseiterator", _, x.typeIs, F.slot_revit_next.lookup, h⟩
theorem meets_reversed_new (l : Addr) (items : Array Value) (n : Nat) (dct : Option Addr) (sl : Array (Option Value)) :
    Meets (Builtin.«reversed.__new__» ⟨[.type "reversed", .ref l], []⟩) (fun _ R s => s.heap.get? l = some { cls := .type "list", dict := dct, data := .seq items n, slots := sl } ∧
      R (.ok (.ret (.ref s.heap.objs.size))) { s with heap := s.heap.push { cls := .type "list_reverseiterator", data := .fields #[.ref l, rawInt ((items.size : Int) - 1)] } }) :=
  .of_wp fun prog w A R s h => by
    obtain ⟨hp, g, d, tk, os⟩ := s; obtain ⟨hl, h⟩ := h
    have hsub := F.sub_reversedZ
    have hL : Heap.IsList (Shared.heap ⟨hp, g, d, tk, os⟩) l items := ⟨_, hl, rfl, n, rfl⟩
    have hT : Shared.TypeIs ⟨hp, g, d, tk, os⟩ (.ref l) "list" := ⟨_, hl, rfl⟩
    have hlk := F.slot_list_reversed.lookup
    have hbd := F.slot_list_reversed.bind (.ref l)
    wp_walk using AutoSeq1.wpAny_loadPart' hl
    refine codeAny_call_builtin F.slot_list_reversed.plain F.entry_list_reversed (F.slot_list_reversed.check _ _ _ _ _ _ _ _ hT (F.args_list_reversed_1 _) ?_)
    wp_walk using AutoSeq1.wpAny_loadPart' hl
    exact ⟨_, rfl, h⟩
theorem callType_other {T T' newId initId : String} {Bn : Builtin} {args : List Value} {S : PySem.Spec} {Q Q₁ : Value → Shared → Prop} (ft : TypeCalled T newId initId)
    (hct : checkTypeCall T ⟨args, []⟩ = pure ()) (hcn : checkBuiltinCall newId ⟨.type T :: args, []⟩ = pure ())
    (entryN : entryFor table newId = some Bn) (g : Meets (Bn ⟨.type T :: args, []⟩) S) (hno : isSubtype (.type T') (.type T) = pure false)
    (h : S A.in1 (wants Q₁ E) s) (hnext : ∀ obj s₁, Q₁ obj s₁ → s₁.TypeIs obj T' ∧ Q obj s₁) :
    wpAny (model prog w) A (call (.type T) args) Q E s := by
  obtain ⟨c, tl, hmro⟩ := ft.mro
  have hmade := ft.made
  have hsub := ft.sub
  refine wpAny_call (codeAny_of_tree ?_)
  show wpAny _ _ (callAny (.type T) _) _ _ _
  refine wpAny_pure ⟨Code.quiet_builtin _ (by decide +kernel), codeAny_builtin F.entry_type_call ?_⟩
  rw [Around.under_plain (weight_type_call_type T args []) (units_type_call_type T args [])]
  have h1 := ft.notType
  have h2 := ft.canCreate
  repeat (any_goals (first | assumption | wp_step))
  refine codeAny_mono (codeAny_call_builtin ft.plain entryN (wpAny_of_eq hcn (g prog w A.in1 _ s h))) fun r s₁ hr => ?_
  cases r with
  | error e => exact hr
  | ok fl =>
    cases fl with
    | ret obj =>
      obtain ⟨hT, hq⟩ := hnext _ _ hr
      repeat (any_goals (first | assumption | wp_step))
    | _ => exact hr.elim
theorem call_reversed {l : Addr} {items : Array Value} {Q : Value → Shared → Prop} (hL : s.heap.IsList l items)
    (h : ∀ h', IsRev h' s.heap.objs.size l ((items.size : Int) - 1) → (∀ b o, s.heap.get? b = some o → h'.get? b = some o) → Q (.ref s.heap.objs.size) { s with heap := h' }) :
    wpAny (model prog w) A (call (.type "reversed") [.ref l]) Q E s := by
  obtain ⟨⟨c, dct, dt, sl⟩, hl, hc, n, hd⟩ := hL
  replace hc : c = .type "list" := hc
  replace hd : dt = .seq items n := hd
  subst hc hd
  refine callType_other (Q₁ := fun v s₁ => v = .ref s.heap.objs.size ∧ s₁ = { s with heap := s.heap.push { cls := .type "list_reverseiterator", data := .fields #[.ref l, rawInt ((items.size : Int) - 1)] } }) F.called_reversedZ (F.typeCall_reversed_1Z _) (F.newCall_reversed_1Z _) F.entry_reversed_newZ (meets_reversed_new l items n dct sl) F.sub_revit_reversedZ ⟨hl, rfl, rfl⟩ ?_
  rintro obj s₁ ⟨rfl, rfl⟩
  exact ⟨⟨_, Heap.get?_push_size _ rfl, rfl⟩, h _ (Heap.get?_push_size _ rfl) fun b o e => Heap.get?_push_of_some _ e⟩
end
theorem boot_reversed : bootBuiltins "reversed" = some (.type "reversed") := by rfl
end L2
set_option Elab.async false
set_option linter.all false
set_option maxRecDepth 100000
namespace L2
open PySem PySem.Spec PyProof.Rows
section
variable {X : Cx} {pins : List (Addr × Obj)} {σ : St}
theorem Inv.take {H : Hp} {s : Shared} {a : Addr} {o : HO} (I : Inv X pins σ H s) (f : FpOk X pins H a) (h0 : X.s₀.heap.get? a = none) (new : ObjOk X.prog X.w (upd H a o) s.heap a o) : Inv X pins σ (upd H a o) s := by
  obtain ⟨ha, nL, _, _, nC, hp⟩ := f
  have up : ∀ b u, H b = some u → upd H a o b = some u := fun b u e => by rw [upd_ne (fun z => by rw [z, ha] at e; cases e)]; exact e
  refine ⟨I.ok, I.os, I.bare, ⟨I.base.keep, I.base.slot, fun b ob e k hx => ?_, I.base.there, fun b xs e => up _ _ (I.base.tups b xs e), fun b ob u e => up _ _ (I.base.frzs b ob u e), fun b qs ps e => up _ _ (I.base.tbls b qs ps e)⟩, I.loc, I.cell, by rw [upd_ne (Ne.symm nL)]; exact I.free, fun x c e => by rw [upd_ne (nC x c e)]; exact I.freeC x c e, fun p hpp => ?_, fun b u e => ?_, I.len⟩
  · rw [upd_ne (fun z => by rw [z, h0] at e; cases e)]
    exact I.base.free b ob e k hx
  · obtain ⟨e, k, r⟩ := I.pin p hpp
    exact ⟨e, by rw [upd_ne (hp p hpp)]; exact k, r⟩
  · by_cases hb : b = a
    · subst hb; rw [upd_same] at e; cases e; exact new
    · rw [upd_ne hb] at e
      exact (I.hok b u e).stay (fun _ _ _ q => q) (fun c q => up c _ q) (fun c _ _ _ _ q => up c _ q) fun c xs q => up c _ q
end
end L2
set_option Elab.async false
set_option linter.all false
set_option maxRecDepth 100000
namespace L2
open PySem PySem.Spec PyProof.Rows
theorem rev_no_len : typeLookup (.type "list_reverseiterator") "__len__" = pure none := by rw [typeLookup_type, builtinLookup_eq_fast]; kernel_rfl
theorem slot_rev_hint : Slot "list_reverseiterator" "__length_hint__" "list_reverseiterator.__length_hint__" :=
  .of (owner := "list_reverseiterator") (n := "__length_hint__") (by rw [typeLookup_type, builtinLookup_eq_fast]; kernel_rfl) (by decide +kernel) (by decide +kernel) (by decide +kernel)
    (by first | exact .inl (by decide +kernel) | exact .inr (by decide +kernel)) (by rw [isSubtype_type]; kernel_rfl)
theorem big_line {n : Nat} (h : n ≤ 100000) : n ≤ sizeLine := Nat.le_trans h (by decide)
section
variable {K : PySem.W.Frag} {a : Addr} {xs : List V} {tn : List Str} {cp : List (Nat × Str)} {g : TG} {tif : TT} {te : TE} {σ0 : St} {H1 : Hp} {Q : VK}
theorem cf_listB (S : St → Prop) (p : V → Bool) (f : V → V) (hn : xs.length ≤ 100000) (hS : SqL K H1 a xs) (h0 : S (stB tn cp σ0))
    (hs : ∀ D i σ H x, i < xs.length → x ∈ xs → xs[i]? = some x → Same H1 H → H1 D = none → H D = some (.lst (((xs.take i).filter p).map f)) → S σ → g x σ H fun σ2 H2 => tif σ2 H2 fun c H3 =>
      if c = true then te σ2 H3 fun y H4 => CStep D xs.length i (PFil S p f xs H1) σ2 y H4 else CSkip D xs.length i (PFil S p f xs H1) σ2 H3)
    (hd : ∀ D H, H1 D = none → Same H1 H → H D = some (.lst ((xs.filter p).map f)) → Q (.ref D) H) : cBody tn cp g tif te σ0 Q (Itl K a) H1 := by
  refine cb_list (K := K) (a := a) (xs := xs) (fun D i ys σ H => PFil S p f xs H1 i ys σ H) (big_line hn) (fun D hD => ⟨same_upd hD _, h0, rfl⟩) (fun D i ys σ H _ _ _ p => p.1.seq hS) ?_ ?_
  · rintro D i ys σ H x hD hi hx hH hl ⟨p1, p2, rfl⟩
    exact hs D i σ H x hi (List.mem_of_getElem? hx) hx p1 hD hH p2
  · rintro D ys σ H hD hH hl ⟨p1, p2, rfl⟩
    rw [List.take_of_length_le (Nat.le_refl _)] at hH
    exact hd D H hD p1 hH
theorem cf_stepB {S : St → Prop} {p : V → Bool} {f : V → V} {D : Addr} {i : Nat} {x y : V} {σ2 : St} {H4 : Hp} (hn : xs.length ≤ 100000) (hx : xs[i]? = some x) (hp : p x = true) (hD : H1 D = none) (h4 : H4 D = some (.lst (((xs.take i).filter p).map f))) (g4 : Same H1 H4) (s2 : S σ2) (e : y = f x) :
    CStep D xs.length i (PFil S p f xs H1) σ2 y H4 := by
  have hi : i < xs.length := (List.getElem?_eq_some_iff.mp hx).1
  refine cstep (big_line hn) hi h4 ?_ ⟨g4.wr hD _, s2, ?_⟩
  · rw [List.length_map]
    have := List.length_filter_le p (xs.take i)
    rw [List.length_take] at this
    omega
  · rw [List.take_add_one, hx, List.filter_append, List.map_append, e]
    simp [hp]
end
section
variable {X : Cx} {pins : List (Addr × Obj)} {σ : St} {H : Hp} {s : Shared}
theorem hint_rev {it a : Addr} {i : Int} {A : Around} {E : Value → Shared → Prop} {prog : Program} {w : World} {Q : Bool → Shared → Prop} (x : IsRev s.heap it a i) (h : Q false s) : wpAny (model prog w) A (Builtin.List.listLengthHint (.ref it)) Q E s := by
  unfold Builtin.List.listLengthHint
  refine wpAny_bind (wpAny_specialOf x.typeIs rev_no_len ?_)
  show wpAny _ A (specialOf (Value.ref it) (Str.ofString "__length_hint__") >>= _) _ _ _
  refine wpAny_bind (wpAny_specialOf x.typeIs slot_rev_hint.lookup ?_)
  generalize hid : ("list_reverseiterator.__length_hint__" : String) = id0
  wp_delta
  rw [show splitId id0 = some ("list_reverseiterator", "__length_hint__") from by subst hid; decide +kernel]
  subst hid
  refine wpAny_bind (wpAny_isInstance (T := "list_reverseiterator") (b := true) x.typeIs (by rw [isSubtype_type]; kernel_rfl) ?_)
  refine wpAny_ite_split (fun no => absurd no (by decide)) (fun _ => ?_)
  refine wpAny_ite_split (fun _ => ?_) (fun no => absurd (by decide +kernel) no)
  exact wpAny_ite_split (fun no => absurd no (by decide +kernel)) (fun _ => wpAny_pure h)
theorem rev_vals {xs : List V} {its acc : List Value} (rv : Vals xs its) (hl : acc.length = its.length) (h : ∀ j v, acc[j]? = some v → its[its.length - 1 - j]? = some v) : Vals xs.reverse acc := by
  have e : acc = its.reverse := by
    refine List.ext_getElem? fun j => ?_
    by_cases hj : j < its.length
    · rw [List.getElem?_reverse hj, List.getElem?_eq_getElem (show j < acc.length by omega), h j _ (List.getElem?_eq_getElem _)]
    · rw [List.getElem?_eq_none (by omega), List.getElem?_eq_none (by rw [List.length_reverse]; omega)]
  rw [e]
  exact rv.reverse
theorem call_list_rev {it a : Addr} {xs : List V} {Q : VK} (hc : X.calm = true) (hn : xs.length ≤ 100000) (I : Inv X pins σ H s) (hf : FpOk X pins H it) (ha : SqL X.K H a xs) (hit : IsRev s.heap it a ((xs.length : Int) - 1))
    (q : ∀ L H', New H L (.lst xs.reverse) H' → Q (.ref L) H') : wpAny (model X.prog X.w) X.A (call (.type "list") [.ref it]) (EP X pins σ Q) X.xe s := by
  obtain ⟨its, rv, pl, _⟩ := I.list ha
  have hlen := rv.length
  have hL := pl.isList
  have ita : a ≠ it := fun e => by
    obtain ⟨o, ho, hcl, _⟩ := id hL
    rw [e, show s.heap.get? it = _ from hit] at ho
    cases ho
    exact absurd hcl (by simp)
  have hSf : s.heap.objs.size ∉ [it, a] := fun hm => by
    have key : ∀ c o, s.heap.get? c = some o → c ≠ s.heap.objs.size := fun c o e => Nat.ne_of_lt (Heap.lt_size e)
    obtain ⟨o, ho, _⟩ := id hL
    simp only [List.mem_cons, List.not_mem_nil, or_false] at hm
    rcases hm with e | e
    · exact key _ _ hit e.symm
    · exact key _ _ ho e.symm
  refine callType_codes (Q₁ := fun obj s₁ => obj = .ref s.heap.objs.size ∧ s₁ = { s with heap := s.heap.push { cls := .type "list", data := .seq #[] } }) F.called_list (F.typeCall_list_1 _) F.entry_list_init
    (code_list_new _ ⟨rfl, rfl⟩) fun obj s₁ h₁ => ?_
  obtain ⟨rfl, rfl⟩ := h₁
  have hS : (s.heap.push { cls := .type "list", data := .seq #[] }).get? s.heap.objs.size = some { cls := .type "list", data := .seq #[] } := Heap.get?_push_size _ rfl
  have kp : ∀ c o, s.heap.get? c = some o → (s.heap.push { cls := .type "list", data := .seq #[] }).get? c = some o := fun c o e => Heap.get?_push_of_some _ e
  have h0 : X.s₀.heap.get? s.heap.objs.size = none := by
    cases e : X.s₀.heap.get? s.heap.objs.size with
    | none => rfl
    | some o => exact absurd (Heap.lt_size e) (Nat.not_lt.mpr I.sz)
  have fS : FpOk X pins H s.heap.objs.size := I.fpOk (Nat.le_refl _) (I.hok.fresh (Nat.le_refl _))
  generalize s.heap.objs.size = S at *
  generalize s.heap.push { cls := .type "list", data := .seq #[] } = hp at hS kp
  refine ⟨⟨_, hS, rfl⟩, F.args_list_init_2 _ _, ?_⟩
  show wpAny _ X.A.in1.in1 (do let old ← Builtin.List.listItems (.ref S); Builtin.List.listUpdate (.ref S) (fun _ => #[]); letGo old.toList.reverse; Builtin.List.listExtendWith (.ref S) (.ref it) .none) _ _ _
  have zS : it ≠ S := fun e => hSf (by simp [e])
  have aS : a ≠ S := fun e => hSf (by simp [e])
  refine wpAny_bind ?_
  unfold Builtin.List.listItems
  refine wpAny_bind (wpAny_seqItems hS rfl (wpAny_pure ?_))
  show wpAny _ X.A.in1.in1 (updateSeq S (fun _ => #[]) >>= fun _ => letGo (#[] : Array Value).toList.reverse >>= fun _ => Builtin.List.listExtendWith (.ref S) (.ref it) .none) _ _ _
  refine wpAny_bind (wpAny_updateSeq hS rfl ?_)
  have hS₂ := Heap.get?_update_self (Obj.mapSeq (fun _ => (#[] : Array Value))) hS rfl
  have oth : ∀ b o, b ≠ S → hp.get? b = some o → (hp.update S (Obj.mapSeq (fun _ => (#[] : Array Value)))).get? b = some o := fun b o hb e => (Heap.get?_update_other _ _ (Ne.symm hb)).trans e
  refine wpAny_bind (wpAny_letGo ?_)
  generalize hp.update S (Obj.mapSeq (fun _ => (#[] : Array Value))) = h2 at hS₂ oth
  have keep : ∀ b o, b ≠ S → s.heap.get? b = some o → h2.get? b = some o := fun b o hb e => oth b o hb (kp b o e)
  have z2 : IsRev h2 it a ((xs.length : Int) - 1) := keep _ _ zS hit
  have hT : Shared.TypeIs { s with heap := h2 } (.ref it) "list_reverseiterator" := ⟨_, z2, rfl⟩
  unfold Builtin.List.listExtendWith
  refine wpAny_bind (wpAny_typeOf hT ?_)
  have e1 : Builtin.List.listSameRef (.ref S) (.ref it) = false := by simp [Builtin.List.listSameRef, Ne.symm zS]
  have e2 : (Value.type "list_reverseiterator" == Value.type "list") = false := by decide
  have e3 : (Value.type "list_reverseiterator" == Value.type "tuple") = false := by decide
  simp only [e1, e2, e3, Bool.or_false, Bool.false_eq_true, if_false]
  refine wpAny_bind (iter_rev (s := { s with heap := h2 }) z2 ?_)
  refine wpAny_bind (wpAny_holding (hint_rev (s := { s with heap := h2 }) z2 ?_))
  refine wpAny_ite_split (fun no => absurd no (by decide +kernel)) fun _ => ?_
  have W := (Walks.listRev (prog := X.prog) (w := X.w) (A := X.A.in1.in1) (I.ok.hd hc) it a ita its.toArray).toS
  have sz : its.toArray.size = xs.length := by rw [List.size_toArray, ← hlen]
  refine wpAny_pure ⟨plainId_quiet F.plain_extend_loop _, codeAny_extend_loopS W (by rw [sz]; exact big_line hn) S hSf .none its.toArray.size 0 { s with heap := h2 } #[] _ rfl (Nat.zero_le _) ⟨Nat.zero_le _, ⟨_, z2, rfl, ?_⟩, ?_⟩ hS₂ (ItemsOf.nil _) fun s' acc' c' hm hS' hacc => ?_⟩
  · rw [sz]; simp
  · obtain ⟨o, ho, r⟩ := id hL
    exact ⟨o, keep _ _ aS ho, r⟩
  · have fin : ∀ b o, b ∉ [S, it] → s.heap.get? b = some o → s'.heap.get? b = some o := fun b o hb e => hm.heap b o hb (keep b o (fun q => hb (by simp [q])) e)
    have I3 : Inv X pins σ H { s with heap := s'.heap, toks := s'.toks } := I.turnedL (L := [S, it]) fin fun b hb => by
      simp only [List.mem_cons, List.not_mem_nil, or_false] at hb
      rcases hb with rfl | rfl
      · exact fS
      · exact hf
    have es : s' = { s with heap := s'.heap, toks := s'.toks } := Moved.eq_with (s := { s with heap := h2 }) hm
    have rv2 : Vals xs.reverse acc'.toList := rev_vals rv (by rw [Array.length_toList, hacc.1, sz, hlen]) fun j v e => by
      have := hacc.2 j v (by simpa using e)
      simpa using this
    rw [es]
    refine ⟨rfl, .ref S, upd H S (.lst xs.reverse), I3.take fS h0 ⟨by rw [List.length_reverse]; exact big_line (by omega), _, c', rv2, ?_⟩, rfl, q S _ (.mk' fS.1 _)⟩
    simpa using hS'
end
def tListRev (K : PySem.W.Frag) (ta : TA) : TE := fun σ H Q => ta σ H fun vs H1 => ∃ a xs, vs = [.ref a] ∧ SqL K H1 a xs ∧ xs.length ≤ 100000 ∧ ∀ L H', New H1 L (.lst xs.reverse) H' → Q (.ref L) H'
theorem peT_list_rev {X : Cx} {a : Expr} {ta : TA} {p p2 pos pos2 : Pos} (hc : X.calm = true) (hgl : Gl X "list") (hml : X.mg "list" = none) (hgr : Gl X "reversed") (hmr : X.mg "reversed" = none) (ha : PAT X [a] ta) (h1 : notStar a = true := by rfl) :
    PET X (.Call (.Name "list" p) [.Call (.Name "reversed" p2) [a] [] pos2] [] pos) (tListRev X.K ta) := by
  intro pins s σ H Q ht I h
  have hs : starEach [a] X.env = [(false, eval a X.env)] := by rw [star_cons h1, starEach.eq_def]
  have hz : starEach [.Call (.Name "reversed" p2) [a] [] pos2] X.env = [(false, eval (.Call (.Name "reversed" p2) [a] [] pos2) X.env)] := by rw [star_cons rfl, starEach.eq_def]
  refine Call_ (ld_blt I hgl hml boot_list (PyProof.Rows.callWith_type1 ?_ hz rfl))
  rw [hz]
  refine Calls.spliced_cons (wpAny_mono (Call_ (ld_blt I hgr hmr boot_reversed (PyProof.Rows.callWith_type1 (thn (ha pos2 pins s σ H _ ht I h) fun us s1 ⟨vs, H1, I1, r1, q1⟩ => ?_) hs rfl))) (fun v s2 hq => Calls.spliced_nil hq) fun _ _ e => e)
  obtain ⟨p1, xs, e, hx, hn, q⟩ := q1
  subst e
  obtain ⟨u, rfl, ru⟩ := vals1 r1
  cases (show u = Value.ref p1 from ru)
  obtain ⟨its, rv, t1, _⟩ := I1.list hx
  have hl := rv.length
  refine call_reversed t1.isList fun h' se k => ?_
  refine call_list_rev hc hn (I1.kept (t' := s1.toks) k) (I1.fpOk (Nat.le_refl _) (I1.hok.fresh (Nat.le_refl _))) hx ?_ q
  have e1 : (its.toArray.size : Int) - 1 = (xs.length : Int) - 1 := by rw [List.size_toArray, ← hl]
  rw [e1] at se
  exact se
theorem peT_list_revK {X : Cx} (K : PySem.W.Frag) {a : Expr} {ta : TA} {p p2 pos pos2 : Pos} (hc : X.calm = true) (hgl : Gl X "list") (hml : X.mg "list" = none) (hgr : Gl X "reversed") (hmr : X.mg "reversed" = none) (ha : PAT X [a] ta) (h : X.K = K := by rfl) (h1 : notStar a = true := by rfl) :
    PET X (.Call (.Name "list" p) [.Call (.Name "reversed" p2) [a] [] pos2] [] pos) (tListRev K ta) := h ▸ peT_list_rev hc hgl hml hgr hmr ha h1
theorem mt_joinK {X : Cx} (K : PySem.W.Frag) (h : X.K = K := by rfl) : MtR X "str.join" (rJoin K) := h ▸ mt_join
end L2
set_option Elab.async false
set_option linter.all false
set_option maxRecDepth 100000
set_option maxHeartbeats 1000000
namespace SS
open PySem PySem.Spec PyProof.Rows L2
def SameX (l : Addr) (H H' : Hp) : Prop := ∀ b o, b ≠ l → H b = some o → H' b = some o
theorem SameX.refl (l : Addr) (H : Hp) : SameX l H H := fun _ _ _ h => h
theorem SameX.trans {l : Addr} {H H1 H2 : Hp} (a : SameX l H H1) (b : SameX l H1 H2) : SameX l H H2 := fun c o n h => b c o n (a c o n h)
theorem SameX.of {l : Addr} {H H' : Hp} (g : Same H H') : SameX l H H' := fun b o _ h => g b o h
theorem SameX.upd (l : Addr) (H : Hp) (o : HO) : SameX l H (upd H l o) := fun b u n h => by rw [upd_ne n]; exact h
theorem SameX.same {l : Addr} {H0 H H' : Hp} (g : Same H0 H) (h0 : H0 l = none) (x : SameX l H H') : Same H0 H' := fun b o e => x b o (fun z => by rw [z, h0] at e; cases e) (g b o e)
theorem Rep.pairs {H : Hp} {v u : V} {s : Sy} (r : Rep H v s) (r' : Rep H u s) : ∃ a b xs ys, v = .ref a ∧ u = .ref b ∧ H a = some (.tup xs) ∧ H b = some (.tup ys) ∧ xs.length = ys.length ∧ xs.length ≤ 3 ∧
    ∀ (i : Nat) (x y : V), xs[i]? = some x → ys[i]? = some y → (∃ z : Str, x = .str z ∧ y = .str z) ∨ ∃ t, Rep H x t ∧ Rep H y t ∧ t.depth < s.depth := by
  cases r with
  | bare hw e =>
    cases r' with
    | bare hw' e' =>
      refine ⟨_, _, _, _, rfl, rfl, e, e', rfl, Nat.le_refl _, fun i x y hx hy => .inl ?_⟩
      rw [hx] at hy
      cases hy
      rcases i with _ | _ | _ | i
      · cases hx; exact ⟨_, rfl, rfl⟩
      · cases hx; exact ⟨_, rfl, rfl⟩
      · cases hx; exact ⟨_, rfl, rfl⟩
      · simp at hx
  | neg e h =>
    rename_i a x0 t
    cases r' with
    | neg e' h' =>
      have dn := depth_neg t
      refine ⟨_, _, _, _, rfl, rfl, e, e', rfl, by simp, fun i x y hx hy => ?_⟩
      rcases i with _ | _ | i
      · cases hx; cases hy; exact .inl ⟨_, rfl, rfl⟩
      · cases hx; cases hy; exact .inr ⟨t, h, h', by omega⟩
      · simp at hx
  | two hw e h1 h2 =>
    rename_i a wd x0 y0 t1 t2
    cases r' with
    | two hw' e' h1' h2' =>
      have dn := depth_two wd t1 t2
      refine ⟨_, _, _, _, rfl, rfl, e, e', rfl, by simp, fun i x y hx hy => ?_⟩
      rcases i with _ | _ | _ | i
      · cases hx; cases hy; exact .inl ⟨_, rfl, rfl⟩
      · cases hx; cases hy; exact .inr ⟨t1, h1, h1', by omega⟩
      · cases hx; cases hy; exact .inr ⟨t2, h2, h2', by omega⟩
      · simp at hx
  | qu hw e h =>
    rename_i a wd nm x0 t
    cases r' with
    | qu hw' e' h' =>
      have dn := depth_qu wd nm t
      refine ⟨_, _, _, _, rfl, rfl, e, e', rfl, by simp, fun i x y hx hy => ?_⟩
      rcases i with _ | _ | _ | i
      · cases hx; cases hy; exact .inl ⟨_, rfl, rfl⟩
      · cases hx; cases hy; exact .inl ⟨_, rfl, rfl⟩
      · cases hx; cases hy; exact .inr ⟨t, h, h', by omega⟩
      · simp at hx
def revW (ws : List Str) : List V := ws.reverse.map V.str
theorem revW_cons (w : Str) (ws : List Str) : revW (w :: ws) = revW ws ++ [.str w] := by unfold revW; rw [List.reverse_cons, List.map_append]; rfl
theorem join_eq (z : Str) (l : List Str) : Txt.join z l = Str.join z l := StrLaws.glued_eq_join z l
def sp_between : Sp := fun vs H Q _ => ∃ z : Str, vs = [.str z] ∧ z.length ≤ 50000 ∧ ∀ D H', H D = none → Same H H' → H' D = some (.lst (((Txt.split z " ").filter fun p : Str => decide (p ≠ "")).map V.str)) → Q (.ref D) H'
def sp_words : Sp := fun vs H Q _ => ∃ z : Str, vs = [.str z] ∧ z.length ≤ 5000 ∧ ∀ D H', H D = none → Same H H' → H' D = some (.lst ((wordsT z).map V.str)) → Q (.ref D) H'
def sp_takeword : Sp := fun vs H Q _ => ∃ l : Addr, vs = [.ref l] ∧ ((H l = some (.lst []) ∧ Q (.str "") H) ∨ ∃ (w : Str) (ws : List Str), H l = some (.lst (revW (w :: ws))) ∧ ∀ H', SameX l H H' → H' l = some (.lst (revW ws)) → Q (.str w) H')
end SS
set_option Elab.async false
set_option linter.all false
set_option maxRecDepth 100000
namespace L2
open PySem PySem.Spec PyProof.Rows
def mulS (x : Str) (n : Nat) : Str := ⟨(List.replicate n x.cps).foldl (· ++ ·) #[]⟩
theorem mulS_one (x : Str) : mulS x 1 = x := Str.ext' (by simp [mulS])
theorem foldl_app : ∀ (l : List (Array Nat)) (a : Array Nat), (l.foldl (· ++ ·) a).toList = a.toList ++ (l.map Array.toList).flatten
  | [], a => by simp
  | x :: l, a => by rw [List.foldl_cons, foldl_app l]; simp
theorem mulS_list (x : Str) (n : Nat) : (mulS x n).cps.toList = (List.replicate n x.cps.toList).flatten := by
  show ((List.replicate n x.cps).foldl (· ++ ·) #[]).toList = _
  rw [foldl_app]
  simp
theorem mulS_len (x : Str) (n : Nat) : (mulS x n).length = n * x.length := by
  show (mulS x n).cps.size = n * x.cps.size
  rw [← Array.length_toList, mulS_list]
  simp
def rMulS : R2 := fun x y H Q => ∃ (i : Str) (n : Int), x = .str i ∧ y = .int n ∧ 0 < i.length ∧ 0 ≤ n ∧ n ≤ 100000 ∧ i.length ≤ 100 ∧ Q (.str (mulS i n.toNat)) H
theorem op_mulS {X : Cx} : OpR X (binaryOp .Mult) rMulS := by
  intro pins s σ H x y v u Q I rx ry h
  obtain ⟨i, n, rfl, rfl, h0, hn, hn2, hl, q⟩ := h
  obtain ⟨t, rfl⟩ := rx
  obtain ⟨t', rfl⟩ := ry
  have hm : i.length * n.toNat ≤ 100 * 100000 := Nat.mul_le_mul hl (by omega)
  have r1 : ¬ (n < -(2 ^ 63 : Int)) := by omega
  have r2 : ¬ (n ≥ 2 ^ 63) := by omega
  refine P.mul_str (by rw [decide_eq_false r1, decide_eq_false r2]; rfl) (fun h1 _ => ?_) (fun _ _ => ?_) ?_
  · have h3 : (100 : Int) ≤ (2 ^ 63 - 1) / n := by
      refine Int.le_ediv_of_mul_le (by omega) ?_
      have : (100 : Int) * n ≤ 100 * 100000 := by omega
      omega
    omega
  · unfold Builtin.Str.tooLong sizeLine
    exact decide_eq_false (by omega)
  · by_cases h1 : n < 1
    · rw [if_pos h1]
      have e0 : n.toNat = 0 := by omega
      rw [e0] at q
      exact ⟨by decide, .str Str.empty, H, I.tok _, ⟨_, rfl⟩, q⟩
    · rw [if_neg h1]
      by_cases h2 : n = 1
      · rw [if_pos (by rw [h2]; rfl)]
        rw [h2] at q
        exact ⟨.str i, H, I, ⟨_, rfl⟩, by rw [show ((1 : Int)).toNat = 1 from rfl, mulS_one] at q; exact q⟩
      · rw [if_neg (by
          have c1 : (n == 1) = false := by simp [h2]
          have c2 : (i.length == 0) = false := by simp; omega
          rw [c1, c2]
          simp)]
        refine ⟨?_, .str (mulS i n.toNat), H, I.tok _, ⟨_, rfl⟩, q⟩
        have := mulS_len i n.toNat
        show (mulS i n.toNat).length ≤ sizeLine
        rw [this, sizeLine_eq, Nat.mul_comm]
        omega
def rNeS2 (X : Cx) : R2 := fun x y H Q => ∃ c, NeOk X 16 H x y c ∧ Q (.bl c) H
theorem op_neS2 {X : Cx} (hu : X.A.units + 16 < cLine) : OpR X (compareOp .NotEq) (rNeS2 X) := by
  intro pins s σ H x y v u Q I rx ry h
  obtain ⟨c, r, q⟩ := h
  exact r pins σ s X.A v u hu I rx ry _ _ _ _ ⟨.bl c, H, I, rfl, q⟩
end L2
set_option Elab.async false
set_option linter.all false
set_option maxRecDepth 100000
set_option maxHeartbeats 1000000
namespace SS
open PySem PySem.Spec PyProof.Rows L2
def Wd (z : Str) : Prop := Plain z ∨ z = "(" ∨ z = ")"
theorem toks_wd : ∀ {s : Sy}, wdB s = true → wfB s = true → ∀ z ∈ toksS s, Wd z
  | .bare w n m, hd, hw, z, hz => by
    obtain ⟨⟨pn, _⟩, pm⟩ := wf_bare hw
    have pw := plain_words w (of_decide_eq_true hd)
    simp only [toksS, List.mem_cons, List.not_mem_nil, or_false] at hz
    rcases hz with rfl | rfl | rfl
    · exact .inl pn
    · exact .inl pw
    · exact .inl pm
  | .neg s, hd, hw, z, hz => by
    rcases List.mem_cons.mp hz with rfl | hz
    · exact .inl plain_not
    · exact toks_wd (s := s) hd hw z hz
  | .qu w n s, hd, hw, z, hz => by
    simp only [wdB, Bool.and_eq_true, decide_eq_true_eq] at hd
    have hw' : (isName (.str n) && wfB s) = true := hw
    rw [Bool.and_eq_true] at hw'
    rcases List.mem_cons.mp hz with rfl | hz
    · exact .inl (plain_tell _ hd.1)
    · rcases List.mem_cons.mp hz with rfl | hz
      · exact .inl (plain_name hw'.1)
      · exact toks_wd hd.2 hw'.2 z hz
  | .two w s t, hd, hw, z, hz => by
    simp only [wdB, Bool.and_eq_true, decide_eq_true_eq] at hd
    have hw' : (wfB s && wfB t) = true := hw
    rw [Bool.and_eq_true] at hw'
    rcases List.mem_cons.mp hz with rfl | hz
    · exact .inr (.inl rfl)
    · rcases List.mem_append.mp hz with hz | hz
      · exact toks_wd hd.2.1 hw'.1 z hz
      · rcases List.mem_cons.mp hz with rfl | hz
        · exact .inl (plain_join _ hd.1)
        · rcases List.mem_append.mp hz with hz | hz
          · exact toks_wd hd.2.2 hw'.2 z hz
          · exact .inr (.inr (List.mem_singleton.mp hz))
theorem Wd.words {z : Str} (h : Wd z) : wordsL (padL (ch z)) = [ch z] := by
  rcases h with h | rfl | rfl
  · exact h.words
  · rw [ch_lit1.1]; rfl
  · rw [ch_lit1.2.2.1]; rfl
theorem Wd.len {z : Str} (h : Wd z) : z.length ≤ 6 := by
  rcases h with h | rfl | rfl
  · exact h.l
  · decide +kernel
  · decide +kernel
theorem eqok_of' {X : Cx} {H : Hp} {a b : Addr} {k : Nat} (r : RcOk X k H (.ref a) (.ref b) true) : EqOk X k H (.ref a) (.ref b) true := by
  by_cases h : a = b
  · subst h; exact eqok_same
  · exact EqOk.of_rc h r
theorem range_true {n : Nat} : (List.range n).all (fun _ => true) = true := List.all_eq_true.mpr fun _ _ => rfl
theorem eq_say {X : Cx} {H : Hp} : ∀ (k : Nat) {v u : V} {s : Sy}, Rep H v s → Rep H u s → s.depth ≤ k → EqOk X k H v u true
  | 0, v, u, s, r, r', hd => by have := s.depth_pos; omega
  | k + 1, v, u, s, r, r', hd => by
    obtain ⟨a, b, xs, ys, rfl, rfl, ea, eb, hl, h3, hp⟩ := r.pairs r'
    refine eqok_of' ?_
    have h := rcok_tups (X := X) (k := k) (H := H) (a := a) (b := b) (xs := xs) (ys := ys) (.of ea) (.of eb) (fun _ => true) fun j h1 h2 => ?_
    · rw [range_true, hl, beq_self_eq_true] at h
      exact h
    · rcases hp j xs[j] ys[j] (List.getElem?_eq_getElem h1) (List.getElem?_eq_getElem h2) with ⟨z, e1, e2⟩ | ⟨t, rt, rt', dt⟩
      · rw [e1, e2]
        have := eqok_flat (X := X) (k := k) (H := H) (x := .str z) (y := .str z) rfl rfl
        rw [show eqV (.str z) (.str z) = true from decide_eq_true rfl] at this
        exact this
      · exact eq_say k rt rt' (by omega)
theorem ne_say {X : Cx} {H : Hp} {v u : V} {s : Sy} (r : Rep H v s) (r' : Rep H u s) (hd : s.depth ≤ 16) : NeOk X 16 H v u false := by
  obtain ⟨a, b, xs, ys, rfl, rfl, ea, eb, hl, h3, hp⟩ := r.pairs r'
  have h := neok_tups (X := X) (k := 15) (H := H) (a := a) (b := b) (xs := xs) (ys := ys) (.of ea) (.of eb) (fun _ => true) fun j h1 h2 => ?_
  · rw [range_true, hl, beq_self_eq_true] at h
    exact h
  · rcases hp j xs[j] ys[j] (List.getElem?_eq_getElem h1) (List.getElem?_eq_getElem h2) with ⟨z, e1, e2⟩ | ⟨t, rt, rt', dt⟩
    · rw [e1, e2]
      have := eqok_flat (X := X) (k := 15) (H := H) (x := .str z) (y := .str z) rfl rfl
      rw [show eqV (.str z) (.str z) = true from decide_eq_true rfl] at this
      exact this
    · exact eq_say 15 rt rt' (by omega)
def sp_lwords (n : Nat) : Sp := fun vs H Q _ => ∃ v s, vs = [v] ∧ Rep H v s ∧ s.depth < n ∧ s.parts ≤ 200 ∧ ∀ D H', Same H H' → H' D = some (.lst ((toksS s).map V.str)) → Q (.ref D) H'
end SS
set_option Elab.async false
set_option linter.all false
set_option maxRecDepth 100000
set_option maxHeartbeats 2000000
namespace SS
open PySem PySem.Spec PyProof.Rows L2
def parse : Nat → List Str → Option (Sy × List Str)
  | 0, _ => none
  | d + 1, ws =>
    if ws.headD "" = "not" then (parse d ws.tail).map fun p => (.neg p.1, p.2)
    else if ws.headD "" ∈ (["some", "all"] : List Str) then (parse d ws.tail.tail).map fun p => (.qu (ws.headD "") (ws.tail.headD "") p.1, p.2)
    else if ws.headD "" = "(" then
      (parse d ws.tail).bind fun p => (parse d p.2.tail).bind fun q => if q.2.headD "" = ")" then some (.two (p.2.headD "") p.1 q.1, q.2.tail) else none
    else some (.bare (ws.tail.headD "") (ws.headD "") (ws.tail.tail.headD ""), ws.tail.tail.tail)
def goodB (s : Sy) : Bool := wdB s && wfB s && decide (s.depth ≤ 12) && decide (s.parts ≤ 60)
theorem goodB_iff {s : Sy} : goodB s = true ↔ wdB s = true ∧ wfB s = true ∧ s.depth ≤ 12 ∧ s.parts ≤ 60 := by
  unfold goodB
  rw [Bool.and_eq_true, Bool.and_eq_true, Bool.and_eq_true, decide_eq_true_eq, decide_eq_true_eq, and_assoc, and_assoc]
def readW (ws : List Str) : Option Sy := match parse 12 ws with
  | some (s, []) => if goodB s = true then some s else none
  | _ => none
theorem parse_toks : ∀ (s : Sy) (d : Nat) (rest : List Str), wdB s = true → wfB s = true → s.depth ≤ d → parse d (toksS s ++ rest) = some (s, rest)
  | s, 0, rest, _, _, hd => by have := s.depth_pos; omega
  | .bare w n m, d + 1, rest, hwd, hwf, _ => by
    obtain ⟨⟨pn, n1, n2, n3⟩, pm⟩ := wf_bare hwf
    show parse (d + 1) (n :: w :: m :: rest) = _
    have c2 : ¬ n ∈ (["some", "all"] : List Str) := fun z => by
      simp only [List.mem_cons, List.not_mem_nil, or_false] at z
      exact z.elim n2 n3
    have c3 : ¬ n = "(" := fun z => pn.o (by rw [z, ch_lit1.1]; decide)
    unfold parse
    rw [if_neg (show ¬ (n :: w :: m :: rest).headD "" = "not" from n1), if_neg (show ¬ (n :: w :: m :: rest).headD "" ∈ (["some", "all"] : List Str) from c2), if_neg (show ¬ (n :: w :: m :: rest).headD "" = "(" from c3)]
    rfl
  | .neg s, d + 1, rest, hwd, hwf, hd => by
    have dn := depth_neg s
    have ih := parse_toks s d rest hwd hwf (by omega)
    show parse (d + 1) (("not" : Str) :: (toksS s ++ rest)) = _
    unfold parse
    rw [if_pos (show ((("not" : Str) :: (toksS s ++ rest)).headD "" = "not") from rfl)]
    show (parse d (toksS s ++ rest)).map _ = _
    rw [ih]
    rfl
  | .qu w n s, d + 1, rest, hwd, hwf, hd => by
    have dn := depth_qu w n s
    simp only [wdB, Bool.and_eq_true, decide_eq_true_eq] at hwd
    have hw' : (isName (.str n) && wfB s) = true := hwf
    rw [Bool.and_eq_true] at hw'
    have ih := parse_toks s d rest hwd.2 hw'.2 (by omega)
    show parse (d + 1) (w :: n :: (toksS s ++ rest)) = _
    unfold parse
    rw [if_neg (show ¬ (w :: n :: (toksS s ++ rest)).headD "" = "not" from tell_not w hwd.1), if_pos (show (w :: n :: (toksS s ++ rest)).headD "" ∈ (["some", "all"] : List Str) from hwd.1)]
    show (parse d (toksS s ++ rest)).map _ = _
    rw [ih]
    rfl
  | .two w s t, d + 1, rest, hwd, hwf, hd => by
    have dn := depth_two w s t
    simp only [wdB, Bool.and_eq_true, decide_eq_true_eq] at hwd
    have hw' : (wfB s && wfB t) = true := hwf
    rw [Bool.and_eq_true] at hw'
    have ih1 := parse_toks s d (w :: (toksS t ++ ((")" : Str) :: rest))) hwd.2.1 hw'.1 (by omega)
    have ih2 := parse_toks t d ((")" : Str) :: rest) hwd.2.2 hw'.2 (by omega)
    have et : toksS (.two w s t) ++ rest = ("(" : Str) :: (toksS s ++ w :: (toksS t ++ (")" : Str) :: rest)) := by show _ :: _ ++ _ = _; simp
    have c1 : ¬ (("(" : Str) = "not") := by decide +kernel
    have c2 : ¬ (("(" : Str) ∈ (["some", "all"] : List Str)) := by decide +kernel
    rw [et]
    generalize toksS t ++ (")" : Str) :: rest = r2 at ih1 ih2
    generalize toksS s ++ w :: r2 = r1 at ih1
    unfold parse
    rw [if_neg (show ¬ (("(" : Str) :: r1).headD "" = "not" from c1), if_neg (show ¬ (("(" : Str) :: r1).headD "" ∈ (["some", "all"] : List Str) from c2), if_pos (show (("(" : Str) :: r1).headD "" = "(" from rfl)]
    show (parse d r1).bind _ = _
    rw [ih1]
    show (parse d r2).bind _ = _
    rw [ih2]
    rfl
theorem head_cons {l : List Str} {x : Str} (h : l.headD "" = x) (hx : x ≠ "") : l = x :: l.tail := by
  cases l with
  | nil => exact absurd h.symm hx
  | cons y r => rw [← h]; rfl
theorem Plain.ne' {z : Str} (h : Plain z) : z ≠ "" := fun e => h.ne (by rw [e]; decide +kernel)
theorem toks_parse : ∀ (d : Nat) (ws : List Str) (s : Sy) (r : List Str), parse d ws = some (s, r) → wdB s = true → wfB s = true → ws = toksS s ++ r
  | 0, _, _, _, h, _, _ => by cases h
  | d + 1, ws, s, r, h, hwd, hwf => by
    unfold parse at h
    by_cases c1 : ws.headD "" = "not"
    · rw [if_pos c1] at h
      obtain ⟨p, hp, e⟩ := Option.map_eq_some_iff.mp h
      cases e
      have ih := toks_parse d ws.tail p.1 p.2 hp hwd hwf
      rw [head_cons c1 (by decide +kernel), ih]
      rfl
    · rw [if_neg c1] at h
      by_cases c2 : ws.headD "" ∈ (["some", "all"] : List Str)
      · rw [if_pos c2] at h
        obtain ⟨p, hp, e⟩ := Option.map_eq_some_iff.mp h
        cases e
        simp only [wdB, Bool.and_eq_true, decide_eq_true_eq] at hwd
        have hw' : (isName (.str (ws.tail.headD "")) && wfB p.1) = true := hwf
        rw [Bool.and_eq_true] at hw'
        have ih := toks_parse d ws.tail.tail p.1 p.2 hp hwd.2 hw'.2
        have e1 := head_cons (l := ws) rfl (plain_tell _ c2).ne'
        have e2 := head_cons (l := ws.tail) rfl (plain_name hw'.1).ne'
        conv => lhs; rw [e1, e2, ih]
        rfl
      · rw [if_neg c2] at h
        by_cases c3 : ws.headD "" = "("
        · rw [if_pos c3] at h
          obtain ⟨p, hp, h⟩ := Option.bind_eq_some_iff.mp h
          obtain ⟨q, hq, h⟩ := Option.bind_eq_some_iff.mp h
          by_cases c4 : q.2.headD "" = ")"
          · rw [if_pos c4] at h
            cases h
            simp only [wdB, Bool.and_eq_true, decide_eq_true_eq] at hwd
            have hw' : (wfB p.1 && wfB q.1) = true := hwf
            rw [Bool.and_eq_true] at hw'
            have ih1 := toks_parse d ws.tail p.1 p.2 hp hwd.2.1 hw'.1
            have ih2 := toks_parse d p.2.tail q.1 q.2 hq hwd.2.2 hw'.2
            have e1 := head_cons c3 (by decide +kernel)
            have e2 := head_cons (l := p.2) rfl (plain_join _ hwd.1).ne'
            have e3 := head_cons c4 (by decide +kernel)
            show ws = ("(" : Str) :: (toksS p.1 ++ p.2.headD "" :: (toksS q.1 ++ [(")" : Str)])) ++ q.2.tail
            rw [e1, ih1]
            conv => lhs; rw [e2, ih2, e3]
            simp
          · rw [if_neg c4] at h
            cases h
        · rw [if_neg c3] at h
          cases h
          obtain ⟨⟨pn, _⟩, pm⟩ := wf_bare hwf
          have pw := plain_words _ (of_decide_eq_true hwd)
          have e1 := head_cons (l := ws) rfl pn.ne'
          have e2 := head_cons (l := ws.tail) rfl pw.ne'
          have e3 := head_cons (l := ws.tail.tail) rfl pm.ne'
          conv => lhs; rw [e1, e2, e3]
          rfl
theorem readW_toks {s : Sy} (h : goodB s = true) : readW (toksS s) = some s := by
  obtain ⟨h1, h2, h3, _⟩ := goodB_iff.mp h
  have := parse_toks s 12 [] h1 h2 h3
  rw [List.append_nil] at this
  unfold readW
  rw [this]
  simp [h]
theorem readW_some {ws : List Str} {s : Sy} (h : readW ws = some s) : ws = toksS s ∧ goodB s = true := by
  unfold readW at h
  split at h
  · rename_i s' e
    split at h
    · rename_i g
      cases h
      obtain ⟨h1, h2, h3, _⟩ := goodB_iff.mp g
      exact ⟨by have := toks_parse 12 ws s [] e h1 h2; rw [List.append_nil] at this; exact this, g⟩
    · cases h
  · cases h
theorem readW_none {ws : List Str} (h : ∀ s, goodB s = true → ws ≠ toksS s) : readW ws = none := by
  cases e : readW ws with
  | none => rfl
  | some s => obtain ⟨h1, h2⟩ := readW_some e; exact absurd h1 (h s h2)
theorem toks_cnt (p : Str → Bool) : ∀ s : Sy, (toksS s).countP p = match s with
    | .bare w n m => [n, w, m].countP p
    | .neg s => (if p "not" = true then 1 else 0) + (toksS s).countP p
    | .two w s t => (if p "(" = true then 1 else 0) + (if p ")" = true then 1 else 0) + (if p w = true then 1 else 0) + (toksS s).countP p + (toksS t).countP p
    | .qu w n s => (if p w = true then 1 else 0) + (if p n = true then 1 else 0) + (toksS s).countP p
  | .bare w n m => rfl
  | .neg s => by show (("not" : Str) :: toksS s).countP p = _; rw [List.countP_cons]; simp only; omega
  | .two w s t => by
    show (("(" : Str) :: (toksS s ++ w :: (toksS t ++ [(")" : Str)]))).countP p = _
    rw [List.countP_cons, List.countP_append, List.countP_cons, List.countP_append, List.countP_singleton]
    simp only
    omega
  | .qu w n s => by
    show (w :: n :: toksS s).countP p = _
    rw [List.countP_cons, List.countP_cons]
    simp only
    omega
def isO (z : Str) : Bool := decide (z = "(")
def isC (z : Str) : Bool := decide (z = ")")
def isB (z : Str) : Bool := decide (z ∈ bareWords)
theorem plain_oc {z : Str} (h : Plain z) : isO z = false ∧ isC z = false :=
  ⟨decide_eq_false fun e => h.o (by rw [e, ch_lit1.1]; decide), decide_eq_false fun e => h.c (by rw [e, ch_lit1.2.2.1]; decide)⟩
theorem nm_nb {z l : Str} (h : isNm (.str z) l = true) : isB z = false := by
  obtain ⟨c, r, e, h3, hc, hr⟩ := nm_ex h
  refine decide_eq_false fun m => ?_
  have key : ∀ y ∈ bareWords, (match ch y with | _ :: d :: _ => !(FIGS.cps.toList.contains d) | _ => false) = true := by decide +kernel
  have := key z m
  rw [show ch z = c :: r from e] at this
  cases r with
  | nil => cases this
  | cons d r' =>
    have h2 := hr d List.mem_cons_self
    simp only [List.contains_iff_mem.mpr h2] at this
    cases this
theorem pl_nb {z : Str} (h : isPl z = true) : isB z = false := nm_nb h
theorem st_nb {z : Str} (h : isSt z = true) : isB z = false := nm_nb h
theorem name_nb {z : Str} (h : isName (.str z) = true) : isB z = false := (name_cases h).elim pl_nb st_nb
theorem wf_nb {w n m : Str} (h : wfB (.bare w n m) = true) : isB n = false ∧ isB m = false := by
  have h' : (if w = ("in" : Str) then isPl n && isSt m else if w = ("within" : Str) then isSt n && isSt m else isPl n && isPl m) = true := h
  split at h'
  · rw [Bool.and_eq_true] at h'; exact ⟨pl_nb h'.1, st_nb h'.2⟩
  · split at h'
    · rw [Bool.and_eq_true] at h'; exact ⟨st_nb h'.1, st_nb h'.2⟩
    · rw [Bool.and_eq_true] at h'; exact ⟨pl_nb h'.1, pl_nb h'.2⟩
theorem fixed_b : isB "not" = false ∧ isB "(" = false ∧ isB ")" = false ∧ isO "(" = true ∧ isO ")" = false ∧ isC "(" = false ∧ isC ")" = true ∧ (∀ w ∈ (["and", "or"] : List Str), isB w = false) ∧ ∀ w ∈ (["some", "all"] : List Str), isB w = false := by decide +kernel
theorem toks_even : ∀ s : Sy, wdB s = true → wfB s = true → (toksS s).countP isO = (toksS s).countP isC ∧ (toksS s).countP isB = (toksS s).countP isO + 1
  | .bare w n m, hd, hw => by
    obtain ⟨⟨pn, _⟩, pm⟩ := wf_bare hw
    have pw := plain_words w (of_decide_eq_true hd)
    obtain ⟨nb, mb⟩ := wf_nb hw
    rw [toks_cnt, toks_cnt, toks_cnt]
    simp only [List.countP_cons, List.countP_nil, plain_oc pn, plain_oc pm, plain_oc pw, nb, mb, show isB w = true from hd]
    decide
  | .neg s, hd, hw => by
    have ih := toks_even s hd hw
    rw [toks_cnt, toks_cnt, toks_cnt]
    simp only [plain_oc plain_not, fixed_b.1]
    simp
    exact ih
  | .qu w n s, hd, hw => by
    simp only [wdB, Bool.and_eq_true, decide_eq_true_eq] at hd
    have hw' : (isName (.str n) && wfB s) = true := hw
    rw [Bool.and_eq_true] at hw'
    have ih := toks_even s hd.2 hw'.2
    rw [toks_cnt, toks_cnt, toks_cnt]
    simp only [plain_oc (plain_tell w hd.1), plain_oc (plain_name hw'.1), name_nb hw'.1, fixed_b.2.2.2.2.2.2.2.2 w hd.1]
    simp
    exact ih
  | .two w s t, hd, hw => by
    simp only [wdB, Bool.and_eq_true, decide_eq_true_eq] at hd
    have hw' : (wfB s && wfB t) = true := hw
    rw [Bool.and_eq_true] at hw'
    have ih1 := toks_even s hd.2.1 hw'.1
    have ih2 := toks_even t hd.2.2 hw'.2
    obtain ⟨f1, f2, f3, f4, f5, f6, f7, f8, _⟩ := fixed_b
    rw [toks_cnt, toks_cnt, toks_cnt]
    simp only [plain_oc (plain_join w hd.1), f2, f3, f4, f5, f6, f7, f8 w hd.1]
    simp
    omega
theorem spoilt_last {s : Sy} (h : goodB s = true) : readW (toksS s).dropLast = none := readW_none fun t g e => by
  obtain ⟨h1, h2, h3, _⟩ := goodB_iff.mp h
  obtain ⟨g1, g2, g3, _⟩ := goodB_iff.mp g
  have ne : toksS s ≠ [] := by cases s <;> simp [toksS]
  have e1 := parse_toks s 12 [] h1 h2 h3
  have e2 := parse_toks t 12 [(toksS s).getLast ne] g1 g2 g3
  rw [← e, List.dropLast_concat_getLast ne] at e2
  rw [List.append_nil, e2] at e1
  cases e1
theorem spoilt_more {s : Sy} (h : goodB s = true) (w : Str) : readW (toksS s ++ [w]) = none := readW_none fun t g e => by
  obtain ⟨h1, h2, h3, _⟩ := goodB_iff.mp h
  obtain ⟨g1, g2, g3, _⟩ := goodB_iff.mp g
  have e1 := parse_toks s 12 [w] h1 h2 h3
  have e2 := parse_toks t 12 [] g1 g2 g3
  rw [List.append_nil, ← e, e1] at e2
  cases e2
theorem spoilt_bracket {s : Sy} (h : goodB s = true) {a b : List Str} (e : a ++ b = toksS s) {w : Str} (hw : w = "(" ∨ w = ")") : readW (a ++ [w] ++ b) = none := readW_none fun t g et => by
  obtain ⟨h1, h2, _⟩ := goodB_iff.mp h
  obtain ⟨g1, g2, _⟩ := goodB_iff.mp g
  have c1 := (toks_even s h1 h2).1
  have c2 := (toks_even t g1 g2).1
  rw [← e, List.countP_append, List.countP_append] at c1
  rw [← et, List.countP_append, List.countP_append, List.countP_append, List.countP_append, List.countP_singleton, List.countP_singleton] at c2
  obtain ⟨f1, f2, f3, f4, f5, f6, f7, _⟩ := fixed_b
  rcases hw with rfl | rfl
  · rw [f4, f6] at c2
    simp at c2
    omega
  · rw [f5, f7] at c2
    simp at c2
    omega
theorem spoilt_word {s : Sy} (h : goodB s = true) {a b : List Str} {w o : Str} (e : a ++ w :: b = toksS s) (hw : w ∈ bareWords) (ho : isB o = false ∧ isO o = false) : readW (a ++ [o] ++ b) = none := readW_none fun t g et => by
  obtain ⟨h1, h2, _⟩ := goodB_iff.mp h
  obtain ⟨g1, g2, _⟩ := goodB_iff.mp g
  have c1 := (toks_even s h1 h2).2
  have c2 := (toks_even t g1 g2).2
  have wo := (plain_oc (plain_words w hw)).1
  rw [← e, List.countP_append, List.countP_cons, List.countP_append, List.countP_cons, show isB w = true from decide_eq_true hw, wo] at c1
  rw [← et, List.countP_append, List.countP_append, List.countP_append, List.countP_append, List.countP_singleton, List.countP_singleton, ho.1, ho.2] at c2
  simp at c1 c2
  omega
end SS
set_option Elab.async false
set_option linter.all false
set_option maxRecDepth 100000
set_option maxHeartbeats 2000000
namespace SS
open PySem PySem.Spec PyProof.Rows L2
def fixedWords : List Str := ["(", ")", "not", "and", "or", "some", "all", "in", "same", "within", "ahead", "next", "left", "right", "above"]
theorem wf_nm {w n m : Str} (h : wfB (.bare w n m) = true) : isName (.str n) = true ∧ isName (.str m) = true := by
  have p : ∀ {z : Str}, isPl z = true → isName (.str z) = true := fun {z} h => by unfold isName; rw [show isNm (.str z) SMALL = true from h]; rfl
  have q : ∀ {z : Str}, isSt z = true → isName (.str z) = true := fun {z} h => by unfold isName; rw [show isNm (.str z) GREAT = true from h]; simp
  have h' : (if w = ("in" : Str) then isPl n && isSt m else if w = ("within" : Str) then isSt n && isSt m else isPl n && isPl m) = true := h
  split at h'
  · rw [Bool.and_eq_true] at h'; exact ⟨p h'.1, q h'.2⟩
  · split at h'
    · rw [Bool.and_eq_true] at h'; exact ⟨q h'.1, q h'.2⟩
    · rw [Bool.and_eq_true] at h'; exact ⟨p h'.1, p h'.2⟩
theorem fixed_in : (∀ w ∈ bareWords, w ∈ fixedWords) ∧ (∀ w ∈ (["and", "or"] : List Str), w ∈ fixedWords) ∧ (∀ w ∈ (["some", "all"] : List Str), w ∈ fixedWords) ∧ ("(" : Str) ∈ fixedWords ∧ (")" : Str) ∈ fixedWords ∧ ("not" : Str) ∈ fixedWords := by decide +kernel
theorem toks_kind : ∀ {s : Sy}, wdB s = true → wfB s = true → ∀ z ∈ toksS s, isName (.str z) = true ∨ z ∈ fixedWords
  | .bare w n m, hd, hw, z, hz => by
    obtain ⟨h1, h2⟩ := wf_nm hw
    simp only [toksS, List.mem_cons, List.not_mem_nil, or_false] at hz
    rcases hz with rfl | rfl | rfl
    · exact .inl h1
    · exact .inr (fixed_in.1 _ (of_decide_eq_true hd))
    · exact .inl h2
  | .neg s, hd, hw, z, hz => by
    rcases List.mem_cons.mp hz with rfl | hz
    · exact .inr fixed_in.2.2.2.2.2
    · exact toks_kind (s := s) hd hw z hz
  | .qu w n s, hd, hw, z, hz => by
    simp only [wdB, Bool.and_eq_true, decide_eq_true_eq] at hd
    have hw' : (isName (.str n) && wfB s) = true := hw
    rw [Bool.and_eq_true] at hw'
    rcases List.mem_cons.mp hz with rfl | hz
    · exact .inr (fixed_in.2.2.1 _ hd.1)
    · rcases List.mem_cons.mp hz with rfl | hz
      · exact .inl hw'.1
      · exact toks_kind hd.2 hw'.2 z hz
  | .two w s t, hd, hw, z, hz => by
    simp only [wdB, Bool.and_eq_true, decide_eq_true_eq] at hd
    have hw' : (wfB s && wfB t) = true := hw
    rw [Bool.and_eq_true] at hw'
    rcases List.mem_cons.mp hz with rfl | hz
    · exact .inr fixed_in.2.2.2.1
    · rcases List.mem_append.mp hz with hz | hz
      · exact toks_kind hd.2.1 hw'.1 z hz
      · rcases List.mem_cons.mp hz with rfl | hz
        · exact .inr (fixed_in.2.1 _ hd.1)
        · rcases List.mem_append.mp hz with hz | hz
          · exact toks_kind hd.2.2 hw'.2 z hz
          · exact .inr (by rw [List.mem_singleton.mp hz]; exact fixed_in.2.2.2.2.1)
theorem spoilt_name {ws : List Str} {z : Str} {c : Nat} (hz : z ∈ ws) (e : ch z = [c, 49, 50, 51, 52]) : readW ws = none := readW_none fun t g et => by
  obtain ⟨g1, g2, _⟩ := goodB_iff.mp g
  rw [et] at hz
  rcases toks_kind g1 g2 z hz with h | h
  · have key : ∀ l, isNm (.str z) l = true → False := fun l q => by
      obtain ⟨d, r, e', h3, _⟩ := nm_ex q
      rw [show z.cps.toList = [c, 49, 50, 51, 52] from e] at e'
      injection e' with _ e'
      rw [← e'] at h3
      simp at h3
    exact (name_cases h).elim (key _) (key _)
  · have key : ∀ y ∈ fixedWords, (49 : Nat) ∉ ch y := by decide +kernel
    exact key z h (by rw [e]; simp)
def Nb (l : List Str) : Prop := ∀ (i : Nat) (w : Str), l[i]? = some w → isB w = true → ∃ n m, 1 ≤ i ∧ l[i - 1]? = some n ∧ l[i + 1]? = some m ∧ wfB (.bare w n m) = true
theorem Nb.one {x : Str} (h : isB x = false) : Nb [x] := fun i w e hb => by
  cases i with
  | zero => cases e; rw [h] at hb; cases hb
  | succ i => simp at e
theorem Nb.app {a b : List Str} (ha : Nb a) (hb : Nb b) : Nb (a ++ b) := fun i w e h => by
  by_cases hi : i < a.length
  · rw [List.getElem?_append_left hi] at e
    obtain ⟨n, m, h1, h2, h3, h4⟩ := ha i w e h
    have l3 := (List.getElem?_eq_some_iff.mp h3).1
    exact ⟨n, m, h1, by rw [List.getElem?_append_left (by omega)]; exact h2, by rw [List.getElem?_append_left l3]; exact h3, h4⟩
  · rw [List.getElem?_append_right (by omega)] at e
    obtain ⟨n, m, h1, h2, h3, h4⟩ := hb _ w e h
    exact ⟨n, m, by omega, by rw [List.getElem?_append_right (by omega), show i - 1 - a.length = i - a.length - 1 by omega]; exact h2, by rw [List.getElem?_append_right (by omega), show i + 1 - a.length = i - a.length + 1 by omega]; exact h3, h4⟩
theorem toks_nb : ∀ {s : Sy}, wdB s = true → wfB s = true → Nb (toksS s)
  | .bare w n m, hd, hw => fun i x e hb => by
    obtain ⟨nb, mb⟩ := wf_nb hw
    rcases i with _ | _ | _ | i
    · cases e; rw [nb] at hb; cases hb
    · cases e; exact ⟨n, m, Nat.le_refl _, rfl, rfl, hw⟩
    · cases e; rw [mb] at hb; cases hb
    · simp [toksS] at e
  | .neg s, hd, hw => (Nb.one fixed_b.1).app (toks_nb (s := s) hd hw)
  | .qu w n s, hd, hw => by
    simp only [wdB, Bool.and_eq_true, decide_eq_true_eq] at hd
    have hw' : (isName (.str n) && wfB s) = true := hw
    rw [Bool.and_eq_true] at hw'
    exact (Nb.one (fixed_b.2.2.2.2.2.2.2.2 w hd.1)).app ((Nb.one (name_nb hw'.1)).app (toks_nb hd.2 hw'.2))
  | .two w s t, hd, hw => by
    simp only [wdB, Bool.and_eq_true, decide_eq_true_eq] at hd
    have hw' : (wfB s && wfB t) = true := hw
    rw [Bool.and_eq_true] at hw'
    obtain ⟨f1, f2, f3, f4, f5, f6, f7, f8, _⟩ := fixed_b
    exact (Nb.one f2).app ((toks_nb hd.2.1 hw'.1).app ((Nb.one (f8 w hd.1)).app ((toks_nb hd.2.2 hw'.2).app (Nb.one f3))))
theorem wf_sort {w n m : Str} (h : wfB (.bare w n m) = true) : (w = "in" ∨ w = "within") ∧ isSt m = true ∨ ¬ (w = "in" ∨ w = "within") ∧ isPl m = true := by
  have h' : (if w = ("in" : Str) then isPl n && isSt m else if w = ("within" : Str) then isSt n && isSt m else isPl n && isPl m) = true := h
  split at h'
  · rename_i c; rw [Bool.and_eq_true] at h'; exact .inl ⟨.inl c, h'.2⟩
  · rename_i c
    split at h'
    · rename_i c'; rw [Bool.and_eq_true] at h'; exact .inl ⟨.inr c', h'.2⟩
    · rename_i c'; rw [Bool.and_eq_true] at h'; exact .inr ⟨fun z => z.elim c c', h'.2⟩
theorem spoilt_sort {s : Sy} (h : goodB s = true) {i : Nat} {w m m' : Str} (hi : (toksS s)[i]? = some w) (hw : w ∈ bareWords) (hm : (toksS s)[i + 1]? = some m) (ho : isPl m = true → isSt m' = true) (ho' : isSt m = true → isPl m' = true) : readW ((toksS s).set (i + 1) m') = none := readW_none fun t g et => by
  obtain ⟨h1, h2, _⟩ := goodB_iff.mp h
  obtain ⟨g1, g2, _⟩ := goodB_iff.mp g
  have hb : isB w = true := decide_eq_true hw
  obtain ⟨n, m1, _, _, e1, w1⟩ := toks_nb h1 h2 i w hi hb
  rw [hm] at e1
  cases e1
  have hl := (List.getElem?_eq_some_iff.mp hm).1
  obtain ⟨n', m2, _, _, e2, w2⟩ := toks_nb g1 g2 i w (by rw [← et, List.getElem?_set_ne (by omega)]; exact hi) hb
  rw [← et, List.getElem?_set_self hl] at e2
  cases e2
  rcases wf_sort w1 with ⟨c1, s1⟩ | ⟨c1, s1⟩
  · rcases wf_sort w2 with ⟨c2, s2⟩ | ⟨c2, s2⟩
    · have := pl_st (ho' s1); rw [this] at s2; cases s2
    · exact c2 c1
  · rcases wf_sort w2 with ⟨c2, s2⟩ | ⟨c2, s2⟩
    · exact c1 c2
    · have := pl_st s2; rw [ho s1] at this; cases this
theorem placed_map {x : Str} {f : Nat → Nat → List Nat} {g : Nat → Nat} (h : ∀ i c, x.cps[i]? = some c → f i c = [g c]) : (placed x f).toList = (ch x).map g := by
  unfold placed
  have e : (x.cps.mapIdx fun i c => (f i c).toArray) = (x.cps.map fun c => #[g c]) := by
    refine Array.ext (by simp) fun i h1 h2 => ?_
    simp only [Array.getElem_mapIdx, Array.getElem_map]
    rw [Array.size_mapIdx] at h1
    rw [h i _ (Array.getElem?_eq_getElem h1)]
  rw [e]
  have : ∀ l : List Nat, (l.map fun c => #[g c]).map Array.toList = l.map fun c => [g c] := fun l => by rw [List.map_map]; rfl
  rw [Array.toList_flatten, Array.toList_map, List.map_map]
  show (List.map (fun c => [g c]) (ch x)).flatten = _
  generalize ch x = l
  induction l with
  | nil => rfl
  | cons a l ih => rw [List.map_cons, List.flatten_cons, ih]; rfl
def upL (c : Nat) : Nat := (Unicode.upperOf c).headD 0
def loL (c : Nat) : Nat := (Unicode.lowerOf c).headD 0
theorem up_small : ∀ c ∈ SMALL.cps.toList, Unicode.upperOf c = [upL c] ∧ upL c ∈ GREAT.cps.toList := by decide +kernel
theorem lo_great : ∀ c ∈ GREAT.cps.toList, (c == 0x3A3) = false ∧ Unicode.lowerOf c = [loL c] ∧ loL c ∈ SMALL.cps.toList := by decide +kernel
theorem up_figs : ∀ c ∈ FIGS.cps.toList, Unicode.upperOf c = [upL c] ∧ upL c = c := by decide +kernel
theorem lo_figs : ∀ c ∈ FIGS.cps.toList, (c == 0x3A3) = false ∧ Unicode.lowerOf c = [loL c] ∧ loL c = c := by decide +kernel
theorem map_figs {g : Nat → Nat} {r : List Nat} (h : ∀ d ∈ r, g d = d) : r.map g = r := by
  induction r with
  | nil => rfl
  | cons a r ih => rw [List.map_cons, h a List.mem_cons_self, ih fun d hd => h d (List.mem_cons_of_mem _ hd)]
theorem upper_name {z : Str} (h : isPl z = true) : isSt (Txt.upper z) = true := by
  obtain ⟨c, r, e, h3, hc, hr⟩ := nm_ex h
  have all : ∀ d ∈ ch z, Unicode.upperOf d = [upL d] := fun d hd => by
    rw [show ch z = c :: r from e] at hd
    rcases List.mem_cons.mp hd with rfl | hd
    · exact (up_small _ hc).1
    · exact (up_figs d (hr d hd)).1
  have e1 : (Txt.upper z).cps.toList = (ch z).map upL := placed_map fun i c hc => all c (by
    have := Array.mem_of_getElem? hc
    simpa using this)
  refine nam_is in_great ⟨⟨upL c, r, ?_, (up_small c hc).2, h3, hr⟩⟩
  rw [e1, show ch z = c :: r from e, List.map_cons, map_figs fun d hd => (up_figs d (hr d hd)).2]
theorem lower_name {z : Str} (h : isSt z = true) : isPl (Txt.lower z) = true := by
  obtain ⟨c, r, e, h3, hc, hr⟩ := nm_ex h
  have all : ∀ d ∈ ch z, (d == 0x3A3) = false ∧ Unicode.lowerOf d = [loL d] := fun d hd => by
    rw [show ch z = c :: r from e] at hd
    rcases List.mem_cons.mp hd with rfl | hd
    · exact ⟨(lo_great _ hc).1, (lo_great _ hc).2.1⟩
    · exact ⟨(lo_figs d (hr d hd)).1, (lo_figs d (hr d hd)).2.1⟩
  have e1 : (Txt.lower z).cps.toList = (ch z).map loL := placed_map fun i c hc => by
    have a := all c (by have := Array.mem_of_getElem? hc; simpa using this)
    unfold Unicode.lowerAt
    rw [hc]
    simp only [a.1, Bool.false_and, Bool.false_eq_true, if_false]
    exact a.2
  refine nam_is in_small ⟨⟨loL c, r, ?_, (lo_great c hc).2.2, h3, hr⟩⟩
  rw [e1, show ch z = c :: r from e, List.map_cons, map_figs fun d hd => (lo_figs d (hr d hd)).2.2]
theorem words_join : ∀ ws : List Str, (∀ z ∈ ws, Wd z) → wordsL (padL (ch (Str.join " " ws))) = ws.map ch
  | [], _ => by rw [show ch (Str.join " " []) = [] from rfl]; rfl
  | [p], h => (h p (List.mem_singleton.mpr rfl)).words
  | p :: q :: r, h => by
    have ih := words_join (q :: r) fun z hz => h z (List.mem_cons_of_mem _ hz)
    show wordsL (padL (ch (p ++ " " ++ Str.join " " (q :: r)))) = ch p :: (q :: r).map ch
    rw [ch_app, ch_app, ch_lit1.2.2.2.2, List.append_assoc, List.singleton_append, padL_blank, words_app, ih, (h p List.mem_cons_self).words]
    rfl
theorem wordsT_join {ws : List Str} (h : ∀ z ∈ ws, Wd z) : wordsT (Str.join " " ws) = ws := map_ch_inj (by rw [wordsT_ch, words_join ws h])
theorem join_len : ∀ ws : List Str, (∀ z ∈ ws, Wd z) → (Str.join " " ws).length ≤ 7 * ws.length
  | [], _ => by rw [show (Str.join " " []).length = 0 from rfl]; omega
  | [p], h => by have := (h p (List.mem_singleton.mpr rfl)).len; show p.length ≤ 7; omega
  | p :: q :: r, h => by
    have ih := join_len (q :: r) fun z hz => h z (List.mem_cons_of_mem _ hz)
    have := (h p List.mem_cons_self).len
    show (p ++ " " ++ Str.join " " (q :: r)).length ≤ _
    rw [app_len, app_len, show (" " : Str).length = 1 by decide +kernel, List.length_cons]
    omega
theorem sum_len : ∀ ws : List Str, (∀ z ∈ ws, Wd z) → (ws.map (·.length)).sum ≤ 6 * ws.length
  | [], _ => by simp
  | p :: r, h => by
    have ih := sum_len r fun z hz => h z (List.mem_cons_of_mem _ hz)
    have := (h p List.mem_cons_self).len
    rw [List.map_cons, List.sum_cons, List.length_cons]
    omega
theorem joinW_ok {ws : List Str} (h : ∀ z ∈ ws, Wd z) (hl : ws.length ≤ 1000) : JoinOk " " ws = true := joinOk_of_weight (by have := sum_len ws h; omega) (by decide +kernel)
def mkS (l : List Nat) : Str := ⟨l.toArray⟩
theorem wordsT_mk (z : Str) : wordsT z = (wordsL (padL (ch z))).map mkS := map_ch_inj (by
  rw [wordsT_ch, List.map_map]
  have : ∀ l : List (List Nat), l.map (ch ∘ mkS) = l := fun l => by
    have e : (ch ∘ mkS) = id := funext fun x => rfl
    rw [e, List.map_id]
  rw [this])
theorem cut_short (c : Nat) : ∀ (l p : List Nat), p ∈ cutAt c l → p.length ≤ l.length
  | [], p, h => by rw [List.mem_singleton.mp h]; exact Nat.le_refl _
  | x :: l, p, h => by
    by_cases hx : x = c
    · rw [cutAt, if_pos hx] at h
      rcases List.mem_cons.mp h with rfl | h
      · exact Nat.zero_le _
      · have := cut_short c l p h; rw [List.length_cons]; omega
    · obtain ⟨q, r, e1, e2⟩ := cutAt_cons (l := l) hx
      rw [e2] at h
      rcases List.mem_cons.mp h with rfl | h
      · have := cut_short c l q (by rw [e1]; exact List.mem_cons_self)
        rw [List.length_cons, List.length_cons]; omega
      · have := cut_short c l p (by rw [e1]; exact List.mem_cons_of_mem _ h); rw [List.length_cons]; omega
theorem words_short' {z : Str} (h : z.length ≤ 333) : ∀ w ∈ wordsT z, w.length ≤ 1000 := fun w hw => by
  have m : ch w ∈ wordsL (padL (ch z)) := by rw [← wordsT_ch]; exact List.mem_map_of_mem hw
  have := cut_short 32 _ _ (List.mem_filter.mp m).1
  have := padL_len (ch z)
  rw [str_size] at h ⊢
  omega
def oddT : List Str := ["", " ", "x", "x in", "in x X", "x in x", "X in X", "x within X", "(x same x)", "not", "not not", "( )", "()", "x same x and x same x", "(x same x and x same x", "x same x)", "(x same x, x same x)", "some x", "some in x in X", "all X", "all x x", "(x same x or x same x or x same x)", "x-in-X", "x in X.", "x1234 in X", "xy in X", "x in 1", "some x1 some", "not (x same x)", "x IN X", "(and x same x x same x)", "x = x"]
theorem odd_len : oddT.length = 32 ∧ ∀ z ∈ oddT, z.length ≤ 333 := by decide +kernel
theorem odd_none : ∀ z ∈ oddT, readW (wordsT z) = none := by
  have key : ∀ z ∈ oddT, (readW ((wordsL (padL (ch z))).map mkS)).isNone = true := by decide +kernel
  intro z hz
  have := key z hz
  rw [← wordsT_mk] at this
  exact Option.isNone_iff_eq_none.mp this
end SS
set_option Elab.async false
set_option linter.all false
set_option maxRecDepth 100000
namespace L2
open PySem PySem.Spec PyProof.Rows PySem.W PySem.Calls
theorem Fun.okET {P : Program} {w : World} {K : PySem.W.Frag} {mg : Str → Option Value} {base : Heap} {x qual : Str} {st : Stmt} {f : Addr} {fd : FuncData} {N ps : List Str} {k : Nat} {sp : Sp} (F : Fun K x qual st f fd) (S : FnScope N ps (defScope st)) (len : ∀ vs H Q E, sp vs H Q E → vs.length = ps.length)
    (hbody : ∀ (cdv : Value) (A : Around) (outer : List Env) (s : Shared) (H : Hp) (vs : List V) (Q : VK) (E : XK), Room k (A.deeper (envOfC qual (defScope st) s.heap.objs.size f cdv)) → sp vs H Q E → Rs (cxOf (CXE P w) P w K mg base N qual (defScope st) f cdv A outer s H E) E →
      ∃ t, PSsT (cxOf (CXE P w) P w K mg base N qual (defScope st) f cdv A outer s H E) (defBody st) t ∧ t { nx := fun _ H' => Q .non H', rt := Q } (start N vs) H) : FnOkT P w K mg base (CXE P w) (k + 1) f fd ps sp := by
  obtain ⟨oc, od, kV, doc, pm, an, cdv, ct, osl, rfl, lk, hcd⟩ := F.ex
  exact fn_ofT lk hcd S len fun A outer s H vs Q E hr hsp => hbody cdv A outer s H vs Q E hr hsp ⟨rfl, rfl, rfl, fun _ _ h => h⟩
structure CalET (P : Program) (w : World) (K : PySem.W.Frag) (mg : Str → Option Value) (base : Heap) (n : Nat) (x : Str) (ps : List Str) (sp : Sp) : Prop where
  ex : ∃ f fd, FnOkT P w K mg base (CXE P w) n f fd ps sp ∧ Binds K fd ps [] ∧ PySem.W.keepIn K (.ref f) = true ∧ mg x = some (.ref f)
theorem Dfn.calET {P : Program} {w : World} {K : PySem.W.Frag} {mg : Str → Option Value} {base : Heap} {x : Str} {st : Stmt} {N ps : List Str} {k : Nat} {sp : Sp} (d : Dfn K mg x st ps) (S : FnScope N ps (defScope st)) (len : ∀ vs H Q E, sp vs H Q E → vs.length = ps.length)
    (hbody : ∀ (f : Addr) (cdv : Value) (A : Around) (outer : List Env) (s : Shared) (H : Hp) (vs : List V) (Q : VK) (E : XK), Room k (A.deeper (envOfC x (defScope st) s.heap.objs.size f cdv)) → sp vs H Q E → Rs (cxOf (CXE P w) P w K mg base N x (defScope st) f cdv A outer s H E) E →
      ∃ t, PSsT (cxOf (CXE P w) P w K mg base N x (defScope st) f cdv A outer s H E) (defBody st) t ∧ t { nx := fun _ H' => Q .non H', rt := Q } (start N vs) H) : CalET P w K mg base (k + 1) x ps sp := by
  obtain ⟨f, fd, F, b, m⟩ := d.ex
  exact ⟨f, fd, F.okET S len (hbody f), b, F.kp, m⟩
theorem peT_callET {X : Cx} {n k : Nat} {x : Str} {ps : List Str} {sp : Sp} {p pos : Pos} {e : Expr} {es : List Expr} {t : TA} (C : CalET X.prog X.w X.K X.mg X.base n x ps sp) (hr : Room k X.A) (hle : n ≤ k) (hg : Gl X x) (ha : PAT X (e :: es) t) (hdb : (x == ("__debug__" : Str)) = false := by decide)
    (h1 : notStar e = true := by rfl) (h2 : es.all notStar = true := by rfl) : PET X (.Call (.Name x p) (e :: es) [] pos) (tCall sp [] E0 t) := fun pins s σ H Q ht I hw => by
  obtain ⟨f, fd, F, b, kp, m⟩ := C.ex
  refine wpAny_Call_Name_kw (ld_glob I hg m ?_ hdb)
  refine PySem.W.callWith_K (h₀ := X.base) I.ok.mod.kin kp (thn (upT ht (ha pos pins s σ H _ ht I hw)) fun us s1 ⟨ht1, vs, H1, I1, r, q⟩ => ⟨I1.kIn, ?_⟩) (star_cons h1) (star_any h2)
  have r2 : Vals (vs ++ []) (us ++ []) := r.append .nil
  have hl : (us ++ []).length = ps.length := by rw [← r2.length]; exact F.len _ _ _ _ q
  refine wpAny_call (codeAny_mono (F.run X.A X.stack s1 H1 ⟨us, []⟩ (us ++ []) (vs ++ []) Q E0 ht1 (hr.mono hle) I1.env0 (b s1 us I1.kIn hl) r2 q) fun res s' z => ?_)
  cases res with
  | error e' => exact passE0 pins σ H1 s1 e' s' I1 z
  | ok fl =>
    cases fl with
    | ret _ => exact I1.after z
    | next => exact z.elim
    | brk => exact z.elim
    | cont => exact z.elim
section
variable {X : Cx} {pins : List (Addr × Obj)} {σ : St} {H : Hp} {s : Shared} {k : Nat} {fa : Addr} {fd : FuncData} {ps : List Str} {sp : Sp}
theorem ex_callT {Ec : XK} {Q : VK} {Xe : Value → Shared → Prop} {x : Str} {e : Expr} {es : List Expr} {t : TA} {p pos : Pos} (F : FnOkT X.prog X.w X.K X.mg X.base (CXE X.prog X.w) k fa fd ps sp) (hr : Room k X.A) (hg : Gl X x) (hm : X.mg x = some (.ref fa)) (hk : PySem.W.keepIn X.K (.ref fa) = true) (hb : Binds X.K fd ps [])
    (ha : PA X.nox (e :: es) t) (ht : 1 ≤ s.toks) (I : Inv X pins σ H s) (h : t σ H fun vs H1 => sp vs H1 Q Ec) (hx : ∀ H1 s1 e s', Inv X pins σ H1 s1 → CXE X.prog X.w X.stack H1 s1 Ec e s' → Xe e s')
    (hdb : (x == ("__debug__" : Str)) = false := by decide) (he : starEach (e :: es) X.env = (false, eval e X.env) :: starEach es X.env := by rfl) (hpl : (backTo pos (starEach es X.env)).any (·.1) = false := by rfl) :
    wpAny (model X.prog X.w) X.A (eval (.Call (.Name x p) (e :: es) [] pos) X.env) (EP X pins σ Q) Xe s := by
  refine wpAny_Call_Name_kw (ld_glob I hg hm ?_ hdb)
  refine PySem.W.callWith_K (h₀ := X.base) I.ok.mod.kin hk (wpAny_mono (upT ht (ha pos pins s σ H _ (I.wish _) h)) (fun us s1 ⟨ht1, vs, H1, I1, r, q⟩ => ⟨I1.unwish.kIn, ?_⟩) fun _ _ z => False.elim z) he hpl
  have I1' := I1.unwish
  have hl : us.length = ps.length := by rw [← r.length]; exact F.len _ _ _ _ q
  refine wpAny_call (codeAny_mono (F.run X.A X.stack s1 H1 ⟨us, []⟩ us vs Q Ec ht1 hr I1'.env0 (by have := hb s1 us I1'.kIn (by rw [List.append_nil]; exact hl); rw [List.append_nil] at this; exact this) r q) fun r s' hq => ?_)
  cases r with
  | error e => exact hx H1 s1 e s' I1' hq
  | ok fl =>
    cases fl with
    | ret u => exact I1'.after hq
    | next => exact False.elim hq
    | brk => exact False.elim hq
    | cont => exact False.elim hq
theorem psT_tryA {f c n : Str} {j : Nat} {S : Addr} {e : Expr} {es : List Expr} {t : TA} {ts : TS} {np cpos apos cp hpos pos : Pos} {b₀ : Stmt} {suite : List Stmt} (F : FnOkT X.prog X.w X.K X.mg X.base (CXE X.prog X.w) k fa fd ps sp) (hr : Room k X.A) (hg : Gl X f) (hm : X.mg f = some (.ref fa))
    (hkp : PySem.W.keepIn X.K (.ref fa) = true) (hb : Binds X.K fd ps []) (ha : PA X.nox (e :: es) t) (hgS : Gl X c) (hmS : X.mg c = some (.ref S)) (kS : KSup X.K S)
    (hx : X.ex = []) (hst : X.stack = X.env :: X.outer) (hfr : X.env.frame = some X.env.locals) (hN : X.N.Nodup) (hj : X.N[j]? = some n) (hnl : X.env.scope.names.lookup n = some .local) (hsu : ∀ a, PSs (X.held a) (b₀ :: suite) ts)
    (hs : swapsWith (.Call (.Name f np) (e :: es) [] cpos) none apos.line X.env = pure false := by rfl) (hdb : (f == ("__debug__" : Str)) = false := by decide)
    (hdc : (c == ("__debug__" : Str)) = false := by decide) (he : starEach (e :: es) X.env = (false, eval e X.env) :: starEach es X.env := by rfl) (hpl : (backTo cpos (starEach es X.env)).any (·.1) = false := by rfl) :
    PST X (.Try [.Expr (.Call (.Name f np) (e :: es) [] cpos) apos] [.ExceptHandler (some (.Name c cp)) (some n) (b₀ :: suite) hpos] [] [] pos) (tTryA X.K S sp j t ts) := by
  intro pins s σ H D htk I h
  refine wpAny_Try_except (wpAny_execs_cons (wpAny_Expr_any (wpAny_mono (ex_callT F hr hg hm hkp hb ha htk I h (Xe := _) (fun H1 s1 ev s' I1 cx => ?_) hdb he hpl) (fun v s1 ⟨y, H1, I1, r1, q1⟩ => ?_) fun _ _ z => z) I.quiet hs))
  · -- an exception
    obtain ⟨a, cls, H2, rfl, os, bare, un, hok, ⟨oe, vs, T, oT, tts, t1, t2, t3, t4, t6, t7, t8, t9, n1, n2, h1, h2⟩, ee⟩ := cx
    obtain ⟨C, rfl, ms, ht⟩ := ee a rfl
    have I2 : Inv X pins σ H2 s' := I1.call' (ch := []) os un hok bare fun b z => nomatch z
    have nex : ∀ b, b ∉ X.ex := fun b z => by rw [hx] at z; cases z
    have s0 : ∀ b, s1.heap.get? b = none → X.s₀.heap.get? b = none := fun b z => by
      cases q : X.s₀.heap.get? b with
      | none => rfl
      | some o =>
        obtain ⟨o', e'⟩ := I1.base.there b o q (nex b)
        rw [z] at e'; cases e'
    have pn : ∀ b, s1.heap.get? b = none → ∀ p ∈ X.pn ++ pins, p.1 ≠ b := fun b z p hp q => by
      have := (I1.pin p hp).1
      rw [q, z] at this; cases this
    have I3 := I2.adopt (o := excO a (.ref C)) h1 (s0 a n1) t1 t3 (pn a n1) (exc_ok ⟨oe, vs, t1, t2, t3⟩)
    have h2' : upd H2 a (excO a (.ref C)) T = none := by rw [upd_ne t6]; exact h2
    have I4 := I3.adopt (o := tbO T) h2' (s0 T n2) t7 t8 (pn T n2) (tb_ok ⟨oT, tts, t7, t8⟩)
    refine note_all (base := X.base) (outer := X.outer) (L := X.env.locals) (T := T) (by rw [← hst]; exact I.ok.frames) (by rw [← hst]; exact I2.stack) hfr t1 t3 t4 t6 t7 t8 t9 fun h'' kk sl tb ⟨oe', vs', T2, oT2, ts2, u1, u2, u3, u4, u5, u6, u7, u8, u9⟩ => ?_
    rw [← hst] at kk sl
    have ea4 : upd (upd H2 a (excO a (.ref C))) T (tbO T) a = some (excO a (.ref C)) := by rw [upd_ne (Ne.symm t6), upd_same]
    have I5 := I4.touch (L := [a, T]) (t' := s'.toks) (h' := h'') (fun b o b1 b2 q => kk b o b1 (fun z => b2 (by simp [z])) (fun z => b2 (by simp [z])) q) sl fun b hb => by
      simp only [List.mem_cons, List.not_mem_nil, or_false] at hb
      rcases hb with rfl | rfl
      · exact ⟨_, ea4, ⟨oe', vs', u1, u2.trans t2, u3⟩, _, u1⟩
      · obtain ⟨o, w, e1, e2⟩ := id tb
        exact ⟨_, upd_same, tb, o, e1⟩
    have T2n : s1.heap.get? T2 = none := by
      cases q : s1.heap.get? T2 with
      | none => rfl
      | some o =>
        obtain ⟨o', e'⟩ := un.there T2 o q (fun z => nomatch z)
        rw [u9] at e'; cases e'
    have T2T : T2 ≠ T := fun z => by rw [z, t7] at u9; cases u9
    have HT2 : upd (upd H2 a (excO a (.ref C))) T (tbO T) T2 = none := by
      rw [upd_ne T2T, upd_ne u5]
      cases q : H2 T2 with
      | none => rfl
      | some o =>
        obtain ⟨o', e'⟩ := objok_there (hok T2 o q)
        rw [u9] at e'; cases e'
    have I6 := I5.adopt (o := tbO T2) HT2 (s0 T2 T2n) u6 u7 (pn T2 T2n) (tb_ok ⟨oT2, ts2, u6, u7⟩)
    generalize eH : upd (upd (upd H2 a (excO a (.ref C))) T (tbO T)) T2 (tbO T2) = H3 at I6
    have g3 : Same H2 H3 := by rw [← eH]; exact (same_upd h1 _).trans ((same_upd h2' _).trans (same_upd HT2 _))
    have ea3 : H3 a = some (excO a (.ref C)) := by rw [← eH, upd_ne (Ne.symm u5)]; exact ea4
    have eT3 : H3 T2 = some (tbO T2) := by rw [← eH]; exact upd_same
    refine handle_as kS ms (ld_glob (X := X.held a) (I6.held (a := a)) hgS hmS ⟨rfl, I6.kIn, ⟨oe', u1, u2.trans t2⟩, ?_⟩ hdc)
    refine flight_ok I6 u1 u3 u4 u6 u7 (Array.getElem?_eq_some_iff.mp u8).1 eT3 fun h7 I7 => ?_
    refine store_ok (v := V.ref a) I7 hN hj (.inl hnl) rfl (fun s8 I8 => ?_) (.inr hnl)
    refine wpAny_mono (hsu a pins s8 _ H3 _ (I8.held (a := a)) (ht H3 g3 ea3)) (fun fl s9 hp => ?_) fun _ _ z => False.elim z
    cases fl with
    | next =>
      obtain ⟨σ9, H9, I9, ⟨v, hv⟩, q9⟩ := hp
      have I9' := I9.unheld I.ok
      refine wpAny_bind (wpAny_bindName (store_ok (v := V.non) I9' hN hj (.inl hnl) rfl (fun s10 I10 => ?_) (.inr hnl)))
      unfold unbindBehindTheSuite
      refine wpAny_onRaise (unbind_ok (v := V.non) I10 hN hj hnl (List.getElem?_set_self (by rw [I9'.len]; exact (List.getElem?_eq_some_iff.mp hj).1)) fun s11 I11 => ?_)
      rw [List.set_set] at I11
      exact ⟨_, H9, I11, q9⟩
    | brk => obtain ⟨_, _, _, z⟩ := hp; exact False.elim z
    | cont => obtain ⟨_, _, _, z⟩ := hp; exact False.elim z
    | ret u => obtain ⟨_, _, _, _, _, z⟩ := hp; exact False.elim z
  · exact wpAny_execs_nil (wpAny_execs_nil ⟨_, H1, I1, q1⟩)
end
theorem psT_tryAC {X : Cx} {k m : Nat} {f c n : Str} {j : Nat} {S : Addr} {ps : List Str} {sp : Sp} {e : Expr} {es : List Expr} {t : TA} {ts : TS} {np cpos apos cp hpos pos : Pos} {b₀ : Stmt} {suite : List Stmt} (C : CalET X.prog X.w X.K X.mg X.base m f ps sp) (hr : Room k X.A) (hle : m ≤ k) (hg : Gl X f)
    (ha : PA X.nox (e :: es) t) (hgS : Gl X c) (hmS : X.mg c = some (.ref S)) (kS : KSup X.K S) (hx : X.ex = []) (hst : X.stack = X.env :: X.outer) (hfr : X.env.frame = some X.env.locals) (hN : X.N.Nodup) (hj : X.N[j]? = some n)
    (hnl : X.env.scope.names.lookup n = some .local) (hsu : ∀ a, PSs (X.held a) (b₀ :: suite) ts)
    (hs : swapsWith (.Call (.Name f np) (e :: es) [] cpos) none apos.line X.env = pure false := by rfl) (hdb : (f == ("__debug__" : Str)) = false := by decide)
    (hdc : (c == ("__debug__" : Str)) = false := by decide) (h1 : notStar e = true := by rfl) (h2 : es.all notStar = true := by rfl) :
    PST X (.Try [.Expr (.Call (.Name f np) (e :: es) [] cpos) apos] [.ExceptHandler (some (.Name c cp)) (some n) (b₀ :: suite) hpos] [] [] pos) (tTryA X.K S sp j t ts) := by
  obtain ⟨fa, fd, F, b, kp, mm⟩ := C.ex
  exact psT_tryA F (hr.mono hle) hg mm kp b ha hgS hmS kS hx hst hfr hN hj hnl hsu hs hdb hdc (star_cons h1) (star_any h2)
end L2
set_option Elab.async false
set_option linter.all false
set_option maxRecDepth 100000
namespace L2
open PySem PySem.Spec PyProof.Rows PySem.W PySem.Calls
section
variable {X : Cx} {a b e : Expr} {es rest : List Expr} {ta tb te : TE} {tA tB' : TT} {tu : TA} {pos : Pos}
theorem peT_ix {r : R2} (hr : IxR X r) (ha : PET X a ta) (hb : PE X b tb) (hs : PlainIx b) : PET X (.Subscript a b pos) (tOp r ta tb) := fun pins s σ H Q ht I h =>
  Subscript_ (thn (ha pins s σ H _ ht I h) fun v s1 ⟨x, H1, I1, r1, q1⟩ => thn (hb pins s1 σ H1 _ I1 q1) fun u s2 ⟨y, H2, I2, r2, q2⟩ => hr a b pins s2 σ H2 x y v u Q I2 r1 r2 q2 (hs _ _))
theorem ptT_cmpR {op : CmpOp} {r : R2} (ho : OpR X (compareOp op) r) (ha : PET X a ta) (hb : PET X b tb) (hm : behindInMarks op b = false) : PTT X (.Compare a [op] [b] pos) (tTest (tOp r ta tb)) := fun pins s σ H Q ht I h => by
  refine wpAny_isTrue_Compare1 (thn (upT ht (ha pins s σ H _ ht I h)) fun v s1 ⟨ht1, x, H1, I1, r1, q1⟩ => thn (hb pins s1 σ H1 _ ht1 I1 q1) fun u s2 ⟨y, H2, I2, r2, q2⟩ =>
    thn (ho pins s2 σ H2 x y v u _ I2 r1 r2 q2) fun c s3 ⟨z, H3, I3, r3, k, e, q3⟩ => ?_) hm
  subst e
  cases r3
  exact wpAny_truthy_bool ⟨H3, I3, q3⟩
theorem peU_opR {op : Operator} {r : R2} (ho : OpR X (binaryOp op) r) (ha : PE X a ta) (hb : PEU X b tb) : PEU X (.BinOp a op b pos) (tOp r ta tb) := fun pins s σ H Q I hw =>
  wpAny_BinOp (thn (ha pins s σ H _ I hw) fun v s1 ⟨x, H1, I1, r1, q1⟩ => thn (hb pins s1 σ H1 _ I1 q1) fun u s2 ⟨ht2, y, H2, I2, r2, q2⟩ => upT ht2 (ho pins s2 σ H2 x y v u Q I2 r1 r2 q2))
theorem pe_callTU {n k : Nat} {x : Str} {ps : List Str} {sp : Sp} {p : Pos} (C : CalT X.prog X.w X.K X.mg X.base n x ps sp) (hr : Room k X.A) (hle : n ≤ k) (hg : Gl X x) (ha : PAU X (e :: es) tu) (hdb : (x == ("__debug__" : Str)) = false := by decide)
    (h1 : notStar e = true := by rfl) (h2 : es.all notStar = true := by rfl) : PE X (.Call (.Name x p) (e :: es) [] pos) (tCall sp [] E0 tu) := fun pins s σ H Q I hw => by
  obtain ⟨f, fd, F, b, kp, m⟩ := C.ex
  refine wpAny_Call_Name_kw (ld_glob I hg m ?_ hdb)
  refine PySem.W.callWith_K (h₀ := X.base) I.ok.mod.kin kp (thn (ha pos pins s σ H _ I hw) fun us s1 ⟨ht1, vs, H1, I1, r, q⟩ => ⟨I1.kIn, ?_⟩) (star_cons h1) (star_any h2)
  have r2 : Vals (vs ++ []) (us ++ []) := r.append .nil
  have hl : (us ++ []).length = ps.length := by rw [← r2.length]; exact F.len _ _ _ _ q
  refine wpAny_call (codeAny_mono (F.run X.A X.stack s1 H1 ⟨us, []⟩ (us ++ []) (vs ++ []) Q E0 ht1 (hr.mono hle) I1.env0 (b s1 us I1.kIn hl) r2 q) fun res s' z => ?_)
  cases res with
  | error _ => exact z.elim
  | ok fl =>
    cases fl with
    | ret _ => exact I1.after z
    | next => exact z.elim
    | brk => exact z.elim
    | cont => exact z.elim
end
def rLower : V → List V → Hp → VK → Prop := fun x vs H Q => ∃ z, x = .str z ∧ vs = [] ∧ Builtin.Str.tooLong (Txt.lower z).length = false ∧ Q (.str (Txt.lower z)) H
theorem mt_lower {X : Cx} : MtR X "str.lower" rLower := by
  intro pins s σ H x xs v us Q I rx rs h
  obtain ⟨z, rfl, rfl, hf, q⟩ := h
  obtain ⟨t, rfl⟩ := rx
  cases rs
  exact SC.lower hf ⟨.str _, H, I.tok _, ⟨_, rfl⟩, q⟩
end L2
set_option Elab.async false
set_option linter.all false
set_option maxRecDepth 100000
set_option maxHeartbeats 2000000
namespace L2
open PySem PySem.Spec PyProof.Rows
section
variable {P : Program} {w : World} {K : PySem.W.Frag} {mg : Str → Option Value} {base : Heap}
theorem CalE.mono {j k : Nat} {x : Str} {ps : List Str} {sp : Sp} (c : CalE P w K mg base j x ps sp) (h : j ≤ k) : CalE P w K mg base k x ps sp := by
  obtain ⟨f, fd, F, r⟩ := c.ex
  exact ⟨f, fd, F.mono h, r⟩
theorem Dfn.neverE {x : Str} {st : Stmt} {ps : List Str} {sp : Sp} (d : Dfn K mg x st ps) (no : ∀ vs H Q E, ¬ sp vs H Q E) : CalE P w K mg base 0 x ps sp := by
  obtain ⟨f, fd, F, b, m⟩ := d.ex
  exact ⟨f, fd, ⟨fun vs H Q E h => absurd h (no vs H Q E), fun A outer s H args us vs Q E _ _ _ _ h => absurd h (no vs H Q E)⟩, b, F.kp, m⟩
end
end L2
namespace SS
open PySem PySem.Spec PyProof.Rows L2
inductive RepU (H : Hp) : V → Sy → Prop where
  | bare {a : Addr} {w n m : Str} (hw : w.length ≤ 1000) (hn : n.length ≤ 1000) (hm : m.length ≤ 1000) (e : H a = some (.tup [.str w, .str n, .str m])) : RepU H (.ref a) (.bare w n m)
  | neg {a : Addr} {x : V} {s : Sy} (e : H a = some (.tup [.str "not", x])) (h : RepU H x s) : RepU H (.ref a) (.neg s)
  | two {a : Addr} {w : Str} {x y : V} {s t : Sy} (hw : w.length ≤ 1000) (e : H a = some (.tup [.str w, x, y])) (h1 : RepU H x s) (h2 : RepU H y t) : RepU H (.ref a) (.two w s t)
  | qu {a : Addr} {w n : Str} {x : V} {s : Sy} (hw : w.length ≤ 1000) (hn : n.length ≤ 1000) (e : H a = some (.tup [.str w, .str n, x])) (h : RepU H x s) : RepU H (.ref a) (.qu w n s)
theorem RepU.same {H H' : Hp} {v : V} {s : Sy} (r : RepU H v s) (g : Same H H') : RepU H' v s := by
  induction r with
  | bare h1 h2 h3 e => exact .bare h1 h2 h3 (g _ _ e)
  | neg e _ ih => exact .neg (g _ _ e) ih
  | two hw e _ _ ih1 ih2 => exact .two hw (g _ _ e) ih1 ih2
  | qu hw hn e _ ih => exact .qu hw hn (g _ _ e) ih
theorem RepU.sameX {l : Addr} {H H' : Hp} {v : V} {s : Sy} {ws : List V} (r : RepU H v s) (hl : H l = some (.lst ws)) (g : SameX l H H') : RepU H' v s := by
  have key : ∀ {a xs}, H a = some (.tup xs) → H' a = some (.tup xs) := fun {a xs} e => g a _ (fun z => by rw [z, hl] at e; cases e) e
  induction r with
  | bare h1 h2 h3 e => exact .bare h1 h2 h3 (key e)
  | neg e _ ih => exact .neg (key e) ih
  | two hw e _ _ ih1 ih2 => exact .two hw (key e) ih1 ih2
  | qu hw hn e _ ih => exact .qu hw hn (key e) ih
theorem RepU.exp {H : Hp} {v : V} {s : Sy} (r : RepU H v s) : ∀ n, Exp H n v := by
  induction r with
  | bare h1 h2 h3 e =>
    intro n
    cases n with
    | zero => exact Thing.tup e
    | succ n =>
      refine Exp.tup e (by simp) fun x hx => ?_
      simp only [List.mem_cons, List.not_mem_nil, or_false] at hx
      rcases hx with rfl | rfl | rfl
      · exact Exp.str h1 n
      · exact Exp.str h2 n
      · exact Exp.str h3 n
  | neg e _ ih =>
    intro n
    cases n with
    | zero => exact Thing.tup e
    | succ n =>
      refine Exp.tup e (by simp) fun x hx => ?_
      simp only [List.mem_cons, List.not_mem_nil, or_false] at hx
      rcases hx with rfl | rfl
      · exact Exp.str (by decide +kernel) n
      · exact ih n
  | two hw e _ _ ih1 ih2 =>
    intro n
    cases n with
    | zero => exact Thing.tup e
    | succ n =>
      refine Exp.tup e (by simp) fun x hx => ?_
      simp only [List.mem_cons, List.not_mem_nil, or_false] at hx
      rcases hx with rfl | rfl | rfl
      · exact Exp.str hw n
      · exact ih1 n
      · exact ih2 n
  | qu hw hn e _ ih =>
    intro n
    cases n with
    | zero => exact Thing.tup e
    | succ n =>
      refine Exp.tup e (by simp) fun x hx => ?_
      simp only [List.mem_cons, List.not_mem_nil, or_false] at hx
      rcases hx with rfl | rfl | rfl
      · exact Exp.str hw n
      · exact Exp.str hn n
      · exact ih n
theorem RepU.rep {H : Hp} {v : V} {s : Sy} (r : RepU H v s) : wdB s = true → Rep H v s := by
  induction r with
  | bare h1 h2 h3 e => intro h; exact .bare (of_decide_eq_true h) e
  | neg e _ ih => intro h; exact .neg e (ih h)
  | two hw e _ _ ih1 ih2 => intro h; simp only [wdB, Bool.and_eq_true, decide_eq_true_eq] at h; exact .two h.1 e (ih1 h.2.1) (ih2 h.2.2)
  | qu hw hn e _ ih => intro h; simp only [wdB, Bool.and_eq_true, decide_eq_true_eq] at h; exact .qu h.1 e (ih h.2)
theorem RepU.det {H : Hp} {v : V} {s s' : Sy} (r : RepU H v s) (r' : Rep H v s') : s = s' := by
  induction r generalizing s' with
  | bare h1 h2 h3 e =>
    cases r' with
    | bare _ e' => rw [e] at e'; cases e'; rfl
    | neg e' _ => rw [e] at e'; cases e'
    | two _ e' h1 _ => rw [e] at e'; cases e'; cases h1
    | qu _ e' h => rw [e] at e'; cases e'; cases h
  | neg e h ih =>
    cases r' with
    | bare _ e' => rw [e] at e'; cases e'
    | neg e' h' => rw [e] at e'; cases e'; rw [ih h']
    | two _ e' _ _ => rw [e] at e'; cases e'
    | qu _ e' _ => rw [e] at e'; cases e'
  | two hw e h1 h2 ih1 ih2 =>
    cases r' with
    | bare _ e' => rw [e] at e'; cases e'; cases h1
    | neg e' _ => rw [e] at e'; cases e'
    | two _ e' h1' h2' => rw [e] at e'; cases e'; rw [ih1 h1', ih2 h2']
    | qu _ e' _ => rw [e] at e'; cases e'; cases h1
  | qu hw hn e h ih =>
    cases r' with
    | bare _ e' => rw [e] at e'; cases e'; cases h
    | neg e' _ => rw [e] at e'; cases e'
    | two _ e' h1' _ => rw [e] at e'; cases e'; cases h1'
    | qu _ e' h' => rw [e] at e'; cases e'; rw [ih h']
theorem parse_not (d : Nat) (r : List Str) : parse (d + 1) (("not" : Str) :: r) = (parse d r).map fun p => (.neg p.1, p.2) := by
  rw [parse, if_pos (show ((("not" : Str) :: r).headD "" = "not") from rfl)]
  rfl
theorem parse_open (d : Nat) (r : List Str) : parse (d + 1) (("(" : Str) :: r) = (parse d r).bind fun p => (parse d p.2.tail).bind fun q => if q.2.headD "" = ")" then some (.two (p.2.headD "") p.1 q.1, q.2.tail) else none := by
  have c1 : ¬ (("(" : Str) = "not") := by decide +kernel
  have c2 : ¬ (("(" : Str) ∈ (["some", "all"] : List Str)) := by decide +kernel
  rw [parse, if_neg (show ¬ (("(" : Str) :: r).headD "" = "not" from c1), if_neg (show ¬ (("(" : Str) :: r).headD "" ∈ (["some", "all"] : List Str) from c2), if_pos (show (("(" : Str) :: r).headD "" = "(" from rfl)]
  rfl
theorem parse_nots : ∀ (d : Nat) (r : List Str), parse d (List.replicate d ("not" : Str) ++ r) = none
  | 0, _ => rfl
  | d + 1, r => by
    show parse (d + 1) (("not" : Str) :: (List.replicate d ("not" : Str) ++ r)) = none
    rw [parse_not, parse_nots d r]
    rfl
theorem parse_opens : ∀ (d : Nat) (r : List Str), parse d (List.replicate d ("(" : Str) ++ r) = none
  | 0, _ => rfl
  | d + 1, r => by
    show parse (d + 1) (("(" : Str) :: (List.replicate d ("(" : Str) ++ r)) = none
    rw [parse_open, parse_opens d r]
    rfl
theorem readW_deep {ws : List Str} (h : parse 12 ws = none) : readW ws = none := by
  unfold readW
  rw [h]
theorem readW_great {s : Sy} (h1 : wdB s = true) (h2 : wfB s = true) (h3 : s.depth ≤ 12) (h4 : ¬ s.parts ≤ 60) : readW (toksS s) = none := by
  have := parse_toks s 12 [] h1 h2 h3
  rw [List.append_nil] at this
  unfold readW
  rw [this]
  refine if_neg fun g => h4 (goodB_iff.mp g).2.2.2
theorem words_nots (t : List Nat) : ∀ n, wordsL (padL ((List.replicate n (ch "not ")).flatten ++ t)) = List.replicate n (ch "not") ++ wordsL (padL t)
  | 0 => rfl
  | n + 1 => by
    have e : ch ("not " : Str) = ch ("not" : Str) ++ [32] := by decide +kernel
    have ih := words_nots t n
    rw [List.replicate_succ, List.flatten_cons, List.append_assoc, e, List.append_assoc, List.singleton_append, padL_blank, words_app, plain_not.words, ← e, ih]
    rfl
theorem mulS_ch (x : Str) (n : Nat) : ch (mulS x n) = (List.replicate n (ch x)).flatten := mulS_list x n
theorem wordsT_nots (n : Nat) : wordsT (mulS "not " n ++ "x same x") = List.replicate n ("not" : Str) ++ (["x", "same", "x"] : List Str) := map_ch_inj (by
  have e : wordsL (padL (ch "x same x")) = (["x", "same", "x"] : List Str).map ch := by decide +kernel
  rw [wordsT_ch, ch_app, mulS_ch, words_nots, e, List.map_append, List.map_replicate])
theorem wordsT_not (z : Str) : wordsT ("not " ++ z) = ("not" : Str) :: wordsT z := map_ch_inj (by
  have h := words_nots (ch z) 1
  rw [wordsT_ch, List.map_cons, wordsT_ch, ch_app]
  rw [show (List.replicate 1 (ch "not ")).flatten = ch "not " by simp] at h
  rw [h]
  rfl)
theorem words_opens : ∀ n, wordsL (padL (List.replicate n [40]).flatten) = List.replicate n [40]
  | 0 => rfl
  | n + 1 => by
    have ih := words_opens n
    rw [List.replicate_succ, List.flatten_cons, padL_app]
    show wordsL ([] ++ 32 :: ([40] ++ 32 :: padL (List.replicate n [40]).flatten)) = _
    rw [words_app, words_app, words_nil, words_one (a := [40]) (by decide) (by decide), ih]
    rfl
theorem wordsT_opens (n : Nat) : wordsT (mulS "(" n) = List.replicate n ("(" : Str) := map_ch_inj (by
  rw [wordsT_ch, mulS_ch, ch_lit1.1, words_opens, List.map_replicate, ch_lit1.1])
theorem nots_none (n : Nat) (h : 12 ≤ n) (r : List Str) : readW (List.replicate n ("not" : Str) ++ r) = none := readW_deep (by
  have e : List.replicate n ("not" : Str) = List.replicate 12 ("not" : Str) ++ List.replicate (n - 12) ("not" : Str) := by rw [List.replicate_append_replicate]; congr 1; omega
  rw [e, List.append_assoc, parse_nots])
theorem opens_none (n : Nat) (h : 12 ≤ n) : readW (List.replicate n ("(" : Str)) = none := readW_deep (by
  have e : List.replicate n ("(" : Str) = List.replicate 12 ("(" : Str) ++ List.replicate (n - 12) ("(" : Str) := by rw [List.replicate_append_replicate]; congr 1; omega
  rw [e, parse_opens])
def nestS : Nat → Sy
  | 0 => .bare "same" "x" "x"
  | n + 1 => .neg (nestS n)
theorem nest_toks : ∀ n, toksS (nestS n) = List.replicate n ("not" : Str) ++ (["x", "same", "x"] : List Str)
  | 0 => rfl
  | n + 1 => by show ("not" : Str) :: toksS (nestS n) = _; rw [nest_toks n]; rfl
theorem nest_good : goodB (nestS 11) = true := by decide +kernel
def balF : Nat → Nat → Sy
  | 0, _ => .bare "same" "x" "y"
  | f + 1, m => if m < 2 then .bare "same" "x" "y" else .two "and" (balF f (m / 2)) (balF f (m - m / 2))
theorem bal_len : ∀ f m, (textS (balF f m)).length + 7 ≤ 15 * 2 ^ f
  | 0, m => by
    have : (textS (.bare "same" "x" "y")).length = 8 := by decide +kernel
    show (textS (.bare "same" "x" "y")).length + 7 ≤ _
    omega
  | f + 1, m => by
    have h1 := bal_len f (m / 2)
    have h2 := bal_len f (m - m / 2)
    unfold balF
    by_cases c : m < 2
    · rw [if_pos c]
      have : (textS (.bare "same" "x" "y")).length = 8 := by decide +kernel
      have : 1 ≤ 2 ^ f := Nat.one_le_two_pow
      rw [Nat.pow_succ]
      omega
    · rw [if_neg c]
      show ("(" ++ Str.join " " [textS (balF f (m / 2)), "and", textS (balF f (m - m / 2))] ++ ")" : Str).length + 7 ≤ _
      have e : (Str.join " " [textS (balF f (m / 2)), "and", textS (balF f (m - m / 2))]).length = (textS (balF f (m / 2))).length + 5 + (textS (balF f (m - m / 2))).length := by
        rw [str_size, ch_join3, str_size, str_size (textS (balF f (m - m / 2)))]
        have : (ch ("and" : Str)).length = 3 := by decide +kernel
        simp only [List.length_append, List.length_cons]
        omega
      rw [app_len, app_len, e, show ("(" : Str).length = 1 by decide +kernel, show (")" : Str).length = 1 by decide +kernel, Nat.pow_succ]
      omega
theorem bal_glue (a b : Str) : "(" ++ a ++ " and " ++ b ++ ")" = "(" ++ Str.join " " [a, "and", b] ++ (")" : Str) := by
  refine ch_inj ?_
  have e : ch (" and " : Str) = 32 :: (ch "and" ++ [32]) := by decide +kernel
  rw [ch_app, ch_app, ch_app, ch_app, ch_app, ch_app, ch_join3, e]
  simp
theorem bal_good : goodB (balF 5 30) = true ∧ goodB (.neg (balF 5 30)) = true := by decide +kernel
theorem bal_bad : wdB (balF 5 31) = true ∧ wfB (balF 5 31) = true ∧ (balF 5 31).depth ≤ 12 ∧ ¬ (balF 5 31).parts ≤ 60 := by decide +kernel
theorem cutL_last {α : Type} (xs : List α) : cutL xs none (some (-1)) = xs.dropLast := by
  unfold cutL
  rw [HT.sIx_none, List.drop_zero, Nat.sub_zero, List.dropLast_eq_take]
  congr 1
  have : HT.sIx xs.length xs.length (some (-1)) = ((-1 : Int) + (xs.length : Int)).toNat := rfl
  rw [this]
  omega
theorem ixN_nat {n j : Nat} (h : j < n) : ixN n (j : Int) = some j := by unfold ixN; rw [if_pos (by omega), if_pos (by omega), Int.toNat_natCast]
theorem ixN_pred {n i : Nat} (h1 : 1 ≤ i) (h : i - 1 < n) : ixN n ((i : Int) - 1) = some (i - 1) := by rw [show ((i : Int) - 1) = ((i - 1 : Nat) : Int) by omega]; exact ixN_nat h
theorem ixN_succ {n i : Nat} (h : i + 1 < n) : ixN n ((i : Int) + 1) = some (i + 1) := by rw [show ((i : Int) + 1) = ((i + 1 : Nat) : Int) by omega]; exact ixN_nat h
theorem nmS_len {na : Str} {c : Nat} {r : List Nat} (e : na.cps.toList = c :: r) (h : r.length ≤ 3) : na.length ≤ 4 := by
  rw [str_size, show ch na = c :: r from e, List.length_cons]; omega
theorem short_long {z : Str} (h : z.length ≤ 1000) : Builtin.Str.tooLong z.length = false := by
  unfold Builtin.Str.tooLong sizeLine
  exact decide_eq_false (by omega)
theorem up_long {z : Str} (h : isName (.str z) = true) : Builtin.Str.tooLong (Txt.upper z).length = false := short_long (by
  rcases name_cases h with h | h
  · have := nm_len (upper_name h); omega
  · obtain ⟨c, r, e, h3, hc, hr⟩ := nm_ex h
    have hg : ∀ c ∈ GREAT.cps.toList, Unicode.upperOf c = [upL c] := by decide +kernel
    have e1 : (Txt.upper z).cps.toList = (ch z).map upL := placed_map fun i c' hc' => by
      have m : c' ∈ ch z := by have := Array.mem_of_getElem? hc'; simpa using this
      rw [show ch z = c :: r from e] at m
      rcases List.mem_cons.mp m with rfl | m
      · exact hg _ hc
      · exact (up_figs c' (hr c' m)).1
    rw [str_size, show ch (Txt.upper z) = (ch z).map upL from e1, List.length_map, show ch z = c :: r from e, List.length_cons]
    omega)
theorem lo_long {z : Str} (h : isSt z = true) : Builtin.Str.tooLong (Txt.lower z).length = false := short_long (by have := nm_len (lower_name h); omega)
theorem more_wd : ∀ z ∈ (["x", "X", "not", ")", "in", "0"] : List Str), Wd z := by
  have k : ∀ z ∈ (["x", "X", "not", ")", "in", "0"] : List Str), z = ")" ∨ (!(ch z).isEmpty && !(ch z).contains 32 && !(ch z).contains 40 && !(ch z).contains 41 && decide (z.length ≤ 6)) = true := by decide +kernel
  exact fun z hz => (k z hz).elim (fun e => .inr (.inr e)) fun e => .inl (plain_of e)
theorem other_wd : ∀ z ∈ (["on", "In", "and", "is", "inn", "x"] : List Str), Wd z := by
  have k : ∀ z ∈ (["on", "In", "and", "is", "inn", "x"] : List Str), (!(ch z).isEmpty && !(ch z).contains 32 && !(ch z).contains 40 && !(ch z).contains 41 && decide (z.length ≤ 6)) = true := by decide +kernel
  exact fun z hz => .inl (plain_of (k z hz))
theorem other_nb : ∀ z ∈ (["on", "In", "and", "is", "inn", "x"] : List Str), isB z = false ∧ isO z = false := by decide +kernel
def sp_takeE (C : Addr) (n : Nat) : Sp := fun vs H Q E => ∃ (l : Addr) (ws : List Str) (d : Nat), vs = [.ref l, .int d] ∧ d < n ∧ H l = some (.lst (revW ws)) ∧ (∀ z ∈ ws, z.length ≤ 1000) ∧
  (∀ s rest, parse d ws = some (s, rest) → ∀ v H', SameX l H H' → H' l = some (.lst (revW rest)) → (∀ z ∈ rest, z.length ≤ 1000) → RepU H' v s → Q v H') ∧ (parse d ws = none → ∀ a H', SameX l H H' → H' a = none → E (.ref C) (some a) H')
def pairOf (d : Nat) (ws : List Str) : Option (Sy × List Str) := (parse d ws).bind fun p => (parse d p.2.tail).bind fun q => if q.2.headD "" = ")" then some (.two (p.2.headD "") p.1 q.1, q.2.tail) else none
def sp_takepairE (C : Addr) (n : Nat) : Sp := fun vs H Q E => ∃ (l : Addr) (ws : List Str) (d : Nat), vs = [.ref l, .int d] ∧ d < n ∧ H l = some (.lst (revW ws)) ∧ (∀ z ∈ ws, z.length ≤ 1000) ∧
  (∀ s rest, pairOf d ws = some (s, rest) → ∀ v H', SameX l H H' → H' l = some (.lst (revW rest)) → (∀ z ∈ rest, z.length ≤ 1000) → RepU H' v s → Q v H') ∧ (pairOf d ws = none → ∀ a H', SameX l H H' → H' a = none → E (.ref C) (some a) H')
theorem takeword_of {H : Hp} {Q : VK} {E : XK} {l : Addr} {ws : List Str} (hl : H l = some (.lst (revW ws))) (q : ∀ H', SameX l H H' → H' l = some (.lst (revW ws.tail)) → Q (.str (ws.headD "")) H') : sp_takeword [.ref l] H Q E := by
  cases ws with
  | nil => exact ⟨l, rfl, .inl ⟨hl, q H (SameX.refl _ _) hl⟩⟩
  | cons w r => exact ⟨l, rfl, .inr ⟨w, r, hl, fun H' x e => q H' x e⟩⟩
theorem short_tail {ws : List Str} (h : ∀ z ∈ ws, z.length ≤ 1000) : ∀ z ∈ ws.tail, z.length ≤ 1000 := fun z hz => h z (List.mem_of_mem_tail hz)
theorem short_head {ws : List Str} (h : ∀ z ∈ ws, z.length ≤ 1000) : (ws.headD "").length ≤ 1000 := by
  cases ws with
  | nil => decide +kernel
  | cons w r => exact h w List.mem_cons_self
def sp_readE (C : Addr) : Sp := fun vs H Q E => ∃ v : V, vs = [v] ∧
  ((∃ z : Str, v = .str z ∧ z.length ≤ 5000 ∧ (∀ x ∈ wordsT z, x.length ≤ 1000) ∧ (∀ s, readW (wordsT z) = some s → ∀ u H', Same H H' → Rep H' u s → Q u H') ∧ (readW (wordsT z) = none → ∀ a H', Same H H' → H' a = none → E (.ref C) (some a) H')) ∨
   ∃ k, Kd H v k ∧ subT k "str" = false ∧ ∀ a H', Same H H' → H' a = none → E (.ref C) (some a) H')
def sp_refusedR : Sp := fun vs H Q _ => ∃ v : V, vs = [v] ∧ ((∃ z : Str, v = .str z ∧ z.length ≤ 5000 ∧ (∀ x ∈ wordsT z, x.length ≤ 1000) ∧ readW (wordsT z) = none) ∨ ∃ k, Kd H v k ∧ subT k "str" = false) ∧ ∀ H', Same H H' → Q (.bl true) H'
def sp_bareat : Sp := fun vs H Q _ => ∃ (p : Addr) (s : Sy) (n : Int), vs = [.ref p, .int n] ∧ goodB s = true ∧ H p = some (.lst ((toksS s).map V.str)) ∧ ∀ (i : Nat) (w : Str) H', Same H H' → (toksS s)[i]? = some w → w ∈ bareWords → Q (.int i) H'
def sp_spoilt : Sp := fun vs H Q _ => ∃ (p : Addr) (s : Sy) (w n : Int), vs = [.ref p, .int w, .int n] ∧ goodB s = true ∧ H p = some (.lst ((toksS s).map V.str)) ∧ 0 ≤ w ∧ w < 6 ∧
  ∀ (D : Addr) (ws : List Str) H', Same H H' → H' D = some (.lst (ws.map V.str)) → (∀ z ∈ ws, Wd z) → ws.length ≤ 500 → readW ws = none → Q (.ref D) H'
def sp_oddT : Sp := fun vs H Q _ => ∃ n : Int, vs = [.int n] ∧ ∀ z H', Same H H' → z ∈ oddT → Q (.str z) H'
def sp_bal (f : Nat) : Sp := fun vs H Q _ => ∃ m : Nat, vs = [.int m] ∧ f ≤ 6 ∧ m ≤ 2 ^ f ∧ ∀ H', Same H H' → Q (.str (textS (balF f m))) H'
end SS
namespace SS
open PySem PySem.Spec PyProof.Rows L2
theorem names_aB (k : Nat) (h : k ≤ 2) : Names ((["a", "B"] : List Str).take k) := by
  have e : ∀ k, k ≤ 2 → ((["a", "B"] : List Str).take k).Nodup ∧ (∀ z ∈ (["a", "B"] : List Str).take k, isName (.str z) = true) ∧ ∀ z ∈ (["a", "B"] : List Str).take k, z.length ≤ 4 := by decide +kernel
  obtain ⟨h1, h2, h3⟩ := e k h
  exact ⟨h1, h2, h3⟩
end SS
set_option Elab.async false
set_option linter.all false
set_option maxRecDepth 100000
set_option maxHeartbeats 4000000
namespace K08
open PySem PySem.Spec PyProof.Rows L2 SS
def top (i : Nat) : Stmt := PySem.Challenge.pw_setsays_k08_texts_refused.main.body.getD i (.Pass ⟨0, 0, 0, 0⟩)
structure Txt (K : PySem.W.Frag) (mg : Str → Option Value) (w : World) (tw ffm cNoText cSayError : Addr) (cs : List Addr) : Prop where
  b_isinstance : mg "isinstance" = none
  b_tuple : mg "tuple" = none
  b_str : mg "str" = none
  b_list : mg "list" = none
  b_int : mg "int" = none
  b_len : mg "len" = none
  b_all : mg "all" = none
  b_sum : mg "sum" = none
  b_zip : mg "zip" = none
  b_range : mg "range" = none
  b_reversed : mg "reversed" = none
  b_ValueError : mg "ValueError" = none
  g_FIGURES : GlV mg "FIGURES" (.str FIGS)
  g_LONGEST_NAME : GlV mg "LONGEST_NAME" (.int 4)
  g_SMALL_LETTERS : GlV mg "SMALL_LETTERS" (.str SMALL)
  g_GREAT_LETTERS : GlV mg "GREAT_LETTERS" (.str GREAT)
  g_DEEPEST : GlV mg "DEEPEST" (.int 12)
  g_MOST_PARTS : GlV mg "MOST_PARTS" (.int 60)
  g_TELLING_WORDS : GlV mg "TELLING_WORDS" (.ref tw)
  t_TELLING_WORDS : ∀ H, SqT K H tw [.str "some", .str "all"]
  g_FORMS : GlV mg "FORMS" (.ref ffm)
  f_FORMS : Forms K w ffm
  m_NoText : mg "NoText" = some (.ref cNoText)
  m_SayError : mg "SayError" = some (.ref cSayError)
  m_NoFrame : mg "NoFrame" = some (.ref (cs.getD 0 0))
  m_NoSaying : mg "NoSaying" = some (.ref (cs.getD 1 0))
  m_NoRow : mg "NoRow" = some (.ref (cs.getD 2 0))
  m_NoTree : mg "NoTree" = some (.ref (cs.getD 3 0))
  m_NoWidth : mg "NoWidth" = some (.ref (cs.getD 4 0))
  m_NoNumber : mg "NoNumber" = some (.ref (cs.getD 5 0))
  m_TooGreat : mg "TooGreat" = some (.ref (cs.getD 6 0))
  m_NoLine : mg "NoLine" = some (.ref (cs.getD 7 0))
  k_SayError : KSup K cSayError
  kx : KExc K cNoText
  ms : PySem.W.mroIn K cNoText (.ref cSayError) = some true
  i1 : PySem.W.kitOne K (.ref cNoText) (.ref cNoText) = some true
  iV : PySem.W.kitOne K (.ref cNoText) (.type "ValueError") = some true
  iN : ∀ j, j < 8 → PySem.W.kitOne K (.ref cNoText) (.ref (cs.getD j 0)) = some false
  x_NoText : PySem.W.excIn K cNoText [.type "ValueError", .type "Exception", .type "BaseException", .type "object"] "ValueError.__new__" = true
seal PE PT PW PA PS PSs
section
variable {P : Program} {w : World} {K : PySem.W.Frag} {mg : Str → Option Value} {base : Heap} {tw ffm cNoText cSayError : Addr} {cs : List Addr}
abbrev s_is_letter_with_figures : Stmt := top 16
theorem sc_is_letter_with_figures : FnScope ["thing", "letters"] ["thing", "letters"] (defScope s_is_letter_with_figures) := ⟨rfl, rfl, rfl, by decide +kernel, rfl, by decide +kernel, by decide +kernel⟩
theorem ok_lf (T : Txt K mg w tw ffm cNoText cSayError cs) (d : Dfn K mg "is_letter_with_figures" s_is_letter_with_figures ["thing", "letters"]) : Cal P w K mg base 1 "is_letter_with_figures" ["thing", "letters"] sp_lf := by
  refine d.cal sc_is_letter_with_figures (fun vs H Q E h => ?_) (fun f cdv A outer s H vs Q E hr h => ?_)
  · obtain ⟨x, l, k, rfl, _⟩ := h
    rfl
  obtain ⟨x, l, k, rfl, hk, hz, q⟩ := h
  refine ⟨_, (pss_cons (ps_if (PW.pt (pw_or (pt_not (pt_val (pe_cB call_isk (by rfl) T.b_isinstance boot_isinstance (pa_c (pv 0) (pa_c (pe_bltn (v := .ty "str") (by rfl) T.b_str boot_str (by rfl)) pa_nil))))) (pw_or (pt_cmpR op_eq (pv 0) pe_str (nomark _)) (pw_or1 (pt_cmpR op_gt (pe_cB call_len_str (by rfl) T.b_len boot_len (pa_c (pv 0) pa_nil)) (pe_gl (by rfl) T.g_LONGEST_NAME) (nomark _)))))) (pss_one (ps_ret pe_bl)) pss_nil) (pss_one (ps_ret (pe_and (pe_cmpR op_in_str (pe_ix ix_str (pv 0) pe_int (fun _ _ => rfl)) (pv 1) (by with_unfolding_all rfl)) (pe_one (pe_cB (call_all_blK K rfl) (by rfl) T.b_all boot_all (pa_c (pe_lcomp ["sign"] [] (CompOk.of rfl (by rfl) (by rfl)) (by rfl) (pi_str (pe_slice sl_str (pv 0) (po_some pe_int) po_none)) (fun _ _ _ _ _ => (pg_name (i := 0) (show List.Nodup (["sign"] : List Str) by decide +kernel) (by rfl) (Or.inl (by rfl)))) (fun _ _ _ _ _ => pf_nil) (fun _ _ _ _ _ => (pe_cmpR op_in_str (pv 0) (pe_gl (by rfl) T.g_FIGURES) (by with_unfolding_all rfl)))) pa_nil))))))), ?_⟩
  refine rd_st [some x, some (.str l)] rfl ?_
  simp only [rAll, tSeq, tIfS, tTest, tB, tOp, tC, tOr, tNot, tAndV, tNext, tRet, rI0, rEq, tNil, tCons, tCB, tNoPart, tPart, tSl, rSlS, rIxS, iStr, rd_v0, rd_vS, rd_comp, V.int.injEq, V.str.injEq, V.bl.injEq, V.ty.injEq, List.cons.injEq, and_true, exists_eq_left', exists_and_left, if_true, and_assoc]
  refine ⟨k, hk, by decide, ?_⟩
  cases hk with
  | str z =>
    have hz' := hz z rfl
    have hl := str_len z
    rw [show (!subT "str" "str") = false by decide]
    simp only [V.str.injEq, true_and, exists_eq_left', if_false, rd_ss, reduceCtorEq]
    refine ite2 (fun c => ?_) (fun c => ?_)
    · have c' := of_decide_eq_true c
      subst c'
      exact q H (Same.refl H)
    have c' := of_decide_eq_false (Bool.eq_false_iff.mpr c)
    have ne : z.cps.toList ≠ [] := fun e => c' (ext_toList e)
    refine ⟨by have := small1000 hz'; omega, ?_⟩
    obtain ⟨c0, r0, e0⟩ := List.exists_cons_of_ne_nil ne
    have q' : ∀ H', Same H H' → Q (.bl (decide (r0.length ≤ 3) && signIn c0 l && r0.all fun d => signIn d FIGS)) H' := fun H' g => by
      have h := q H' g
      simp only [isNm, nameB, e0] at h
      exact h
    rw [e0, List.length_cons] at hl
    refine ite2 (fun c => ?_) (fun c => ?_)
    · have c2 := of_decide_eq_true c
      have h := q' H (Same.refl H)
      rw [show decide (r0.length ≤ 3) = false by simp; omega, Bool.false_and, Bool.false_and] at h
      exact h
    have c2 := of_decide_eq_false (Bool.eq_false_iff.mpr c)
    rw [show decide (r0.length ≤ 3) = true by simp; omega, Bool.true_and] at q'
    refine ⟨by have := small1000 hz'; omega, c0, by rw [e0]; exact atI_0, ?_⟩
    refine ite2 (fun c => ?_) (fun c => ?_)
    · rw [show signIn c0 l = true from c, Bool.true_and] at q'
      have es : (Txt.slice z (some 1) none).cps.toList = r0 := by
        rw [slice_cps, show ((1 : Int)) = ((1 : Nat) : Int) from rfl, cutL_from, e0]
        rfl
      have en : (Txt.slice z (some 1) none).cps.size = r0.length := by rw [← es]; simp
      refine ⟨by have := small1000 hz'; omega, ?_⟩
      refine cb_str (fun D i ys σ H' => Same H H' ∧ (∃ v, σ = [v]) ∧ ys = (r0.take i).map fun d => V.bl (signIn d FIGS)) (by rw [en]; exact Nat.le_of_lt (small1000 (by omega))) (fun D hD => ⟨same_upd hD _, ⟨none, rfl⟩, rfl⟩) ?_ ?_
      · rintro D i ys σ H' d hD hi hd hD' hys ⟨g, ⟨v, rfl⟩, rfl⟩
        simp only [tOp, tC, gName, tYes, rd_v0, List.set_cons_zero, V.str.injEq, exists_eq_left', if_true]
        refine cstep (by rw [en]; exact Nat.le_of_lt (small1000 (by omega))) hi hD' hys ⟨fun b o e => ?_, ⟨_, rfl⟩, ?_⟩
        · rw [upd_ne (ne_of_none e hD)]; exact g b o e
        · rw [en] at hi
          have e1 : r0[i]? = some d := by rw [← es]; simpa using hd
          rw [List.take_add_one, e1, List.map_append]
          rfl
      · rintro D ys σ H' hD hD' hys ⟨g, _, rfl⟩
        rw [en, List.take_of_length_le (Nat.le_refl _)] at hD'
        refine ⟨_, rfl, r0.map fun d => signIn d FIGS, .of (by rw [hD', List.map_map]; rfl), ?_⟩
        have h := q' H' g
        rw [List.all_map]
        exact h
    · have h := q' H (Same.refl H)
      rw [show signIn c0 l = false from Bool.eq_false_iff.mpr c, Bool.false_and] at h
      exact h
  | non => exact q H (Same.refl H)
  | bl b => exact q H (Same.refl H)
  | int i => exact q H (Same.refl H)
  | lst e => exact q H (Same.refl H)
  | tup e => exact q H (Same.refl H)
  | dK e => exact q H (Same.refl H)
abbrev s_is_place : Stmt := top 17
theorem sc_is_place : FnScope ["thing"] ["thing"] (defScope s_is_place) := ⟨rfl, rfl, rfl, by decide +kernel, rfl, by decide +kernel, by decide +kernel⟩
theorem ok_place (T : Txt K mg w tw ffm cNoText cSayError cs) (d : Dfn K mg "is_place" s_is_place ["thing"]) (C_is_letter_with_figures : Cal P w K mg base 1 "is_letter_with_figures" ["thing", "letters"] sp_lf) : Cal P w K mg base 2 "is_place" ["thing"] (sp_pl SMALL) := by
  refine d.cal sc_is_place (fun vs H Q E h => ?_) (fun f cdv A outer s H vs Q E hr h => ?_)
  · obtain ⟨x, k, rfl, _⟩ := h
    rfl
  obtain ⟨x, k, rfl, hk, hz, q⟩ := h
  refine ⟨_, (pss_one (ps_ret (pe_callC C_is_letter_with_figures hr (by omega) (by rfl) (pa_c (pv 0) (pa_c (pe_gl (by rfl) T.g_SMALL_LETTERS) pa_nil))))), ?_⟩
  refine rd_st [some x] rfl ?_
  simp only [tC, tRet, tNil, tCons, tCall, rd_v0, List.append_nil]
  exact ⟨x, SMALL, k, rfl, hk, hz, q⟩
abbrev s_is_set : Stmt := top 18
theorem sc_is_set : FnScope ["thing"] ["thing"] (defScope s_is_set) := ⟨rfl, rfl, rfl, by decide +kernel, rfl, by decide +kernel, by decide +kernel⟩
theorem ok_set (T : Txt K mg w tw ffm cNoText cSayError cs) (d : Dfn K mg "is_set" s_is_set ["thing"]) (C_is_letter_with_figures : Cal P w K mg base 1 "is_letter_with_figures" ["thing", "letters"] sp_lf) : Cal P w K mg base 2 "is_set" ["thing"] (sp_pl GREAT) := by
  refine d.cal sc_is_set (fun vs H Q E h => ?_) (fun f cdv A outer s H vs Q E hr h => ?_)
  · obtain ⟨x, k, rfl, _⟩ := h
    rfl
  obtain ⟨x, k, rfl, hk, hz, q⟩ := h
  refine ⟨_, (pss_one (ps_ret (pe_callC C_is_letter_with_figures hr (by omega) (by rfl) (pa_c (pv 0) (pa_c (pe_gl (by rfl) T.g_GREAT_LETTERS) pa_nil))))), ?_⟩
  refine rd_st [some x] rfl ?_
  simp only [tC, tRet, tNil, tCons, tCall, rd_v0, List.append_nil]
  exact ⟨x, GREAT, k, rfl, hk, hz, q⟩
abbrev s_is_name : Stmt := top 19
theorem sc_is_name : FnScope ["thing"] ["thing"] (defScope s_is_name) := ⟨rfl, rfl, rfl, by decide +kernel, rfl, by decide +kernel, by decide +kernel⟩
theorem ok_nm (T : Txt K mg w tw ffm cNoText cSayError cs) (d : Dfn K mg "is_name" s_is_name ["thing"]) (C_is_place : Cal P w K mg base 2 "is_place" ["thing"] (sp_pl SMALL)) (C_is_set : Cal P w K mg base 2 "is_set" ["thing"] (sp_pl GREAT)) : Cal P w K mg base 3 "is_name" ["thing"] sp_nm := by
  refine d.cal sc_is_name (fun vs H Q E h => ?_) (fun f cdv A outer s H vs Q E hr h => ?_)
  · obtain ⟨x, rfl, _⟩ := h
    rfl
  obtain ⟨x, rfl, ⟨⟨k, hk⟩, hz⟩, q⟩ := h
  refine ⟨_, (pss_one (ps_ret (pe_or (pe_callC C_is_place hr (by omega) (by rfl) (pa_c (pv 0) pa_nil)) (pe_one (pe_callC C_is_set hr (by omega) (by rfl) (pa_c (pv 0) pa_nil)))))), ?_⟩
  refine rd_st [some x] rfl ?_
  simp only [tOrV, tRet, tNil, tCons, tCall, rd_v0, List.append_nil]
  refine ⟨x, k, rfl, hk, hz, fun H1 g1 => ⟨_, rfl, ite2 (fun c => ?_) (fun c => ⟨x, k, rfl, hk.same g1, hz, fun H2 g2 => ?_⟩)⟩⟩
  · have h := q H1 g1
    rw [show isName x = true by unfold isName; rw [c, Bool.true_or]] at h
    exact h
  · have h := q H2 (g1.trans g2)
    rw [show isName x = isNm x GREAT by unfold isName; rw [Bool.eq_false_iff.mpr c, Bool.false_or]] at h
    exact h
abbrev s_is_of_sort : Stmt := top 25
theorem sc_is_of_sort : FnScope ["thing", "sort", "deepest"] ["thing", "sort", "deepest"] (defScope s_is_of_sort) := ⟨rfl, rfl, rfl, by decide +kernel, rfl, by decide +kernel, by decide +kernel⟩
theorem ok_sort {n k : Nat} (hk : 3 ≤ k) (T : Txt K mg w tw ffm cNoText cSayError cs) (d : Dfn K mg "is_of_sort" s_is_of_sort ["thing", "sort", "deepest"]) (C_is_place : Cal P w K mg base 2 "is_place" ["thing"] (sp_pl SMALL)) (C_is_set : Cal P w K mg base 2 "is_set" ["thing"] (sp_pl GREAT)) (C_is_name : Cal P w K mg base 3 "is_name" ["thing"] sp_nm)
    (C_has_form : Cal P w K mg base k "has_form" ["thing", "deepest"] (sp_form n)) : Cal P w K mg base (k + 1) "is_of_sort" ["thing", "sort", "deepest"] (sp_sort n) := by
  refine d.cal sc_is_of_sort (fun vs H Q E h => ?_) (fun f cdv A outer s H vs Q E hr h => ?_)
  · obtain ⟨v, s, rfl, _⟩ := h
    rfl
  obtain ⟨v, so, rfl, ex, q⟩ := h
  refine ⟨_, (pss_cons (ps_if (pt_cmpR op_eq (pv 1) pe_str (nomark _)) (pss_one (ps_ret (pe_callC C_is_place hr (by omega) (by rfl) (pa_c (pv 0) pa_nil)))) pss_nil) (pss_cons (ps_if (pt_cmpR op_eq (pv 1) pe_str (nomark _)) (pss_one (ps_ret (pe_callC C_is_set hr (by omega) (by rfl) (pa_c (pv 0) pa_nil)))) pss_nil) (pss_cons (ps_if (pt_cmpR op_eq (pv 1) pe_str (nomark _)) (pss_one (ps_ret (pe_callC C_is_name hr (by omega) (by rfl) (pa_c (pv 0) pa_nil)))) pss_nil) (pss_one (ps_ret (pe_callC C_has_form hr (by omega) (by rfl) (pa_c (pv 0) (pa_c (pv 2) pa_nil)))))))), ?_⟩
  refine rd_st [some v, some (.str so), some (.int n)] rfl ?_
  simp only [tSeq, tIfS, tTest, tOp, tC, tNext, tRet, rEq, tNil, tCons, tCall, rd_v0, rd_vS, List.append_nil, V.str.injEq, V.bl.injEq, true_and, exists_eq_left', rd_ss]
  obtain ⟨⟨kd, hkd⟩, hz⟩ := ex.thing
  have e1 : ∀ b : Str, decide (V.str so = V.str b) = decide (so = b) := fun b => by simp
  unfold sortB at q
  refine ite2 (fun c => ?_) fun c => ?_
  · rw [if_pos (of_decide_eq_true c)] at q
    exact ⟨v, kd, rfl, hkd, hz, q⟩
  rw [if_neg (of_decide_eq_false (Bool.eq_false_iff.mpr c))] at q
  refine ite2 (fun c => ?_) fun c => ?_
  · rw [if_pos (of_decide_eq_true c)] at q
    exact ⟨v, kd, rfl, hkd, hz, q⟩
  rw [if_neg (of_decide_eq_false (Bool.eq_false_iff.mpr c))] at q
  refine ite2 (fun c => ?_) fun c => ?_
  · rw [if_pos (of_decide_eq_true c)] at q
    exact ⟨v, rfl, ⟨⟨kd, hkd⟩, hz⟩, q⟩
  rw [if_neg (of_decide_eq_false (Bool.eq_false_iff.mpr c))] at q
  exact ⟨v, rfl, ex, q⟩
abbrev s_has_form : Stmt := top 26
theorem sc_has_form : FnScope ["thing", "deepest", "sorts"] ["thing", "deepest"] (defScope s_has_form) := ⟨rfl, rfl, rfl, by decide +kernel, rfl, by decide +kernel, by decide +kernel⟩
theorem ok_form {n k : Nat} (T : Txt K mg w tw ffm cNoText cSayError cs) (d : Dfn K mg "has_form" s_has_form ["thing", "deepest"]) (C_is_of_sort : Cal P w K mg base k "is_of_sort" ["thing", "sort", "deepest"] (sp_sort' n)) : Cal P w K mg base (k + 1) "has_form" ["thing", "deepest"] (sp_form n) := by
  refine d.cal sc_has_form (fun vs H Q E h => ?_) (fun f cdv A outer s H vs Q E hr h => ?_)
  · obtain ⟨v, rfl, _⟩ := h
    rfl
  obtain ⟨v, rfl, ex, q⟩ := h
  refine ⟨_, (pss_cons (ps_if (PW.pt (pw_or (pt_cmpR op_eq (pv 1) pe_int (nomark _)) (pw_or (pt_not (pt_val (pe_cB call_isk (by rfl) T.b_isinstance boot_isinstance (pa_c (pv 0) (pa_c (pe_bltn (v := .ty "tuple") (by rfl) T.b_tuple boot_tuple (by rfl)) pa_nil))))) (pw_or1 (pt_cmpR op_eq (pe_cB (call_len_seqK K) (by rfl) T.b_len boot_len (pa_c (pv 0) pa_nil)) pe_int (nomark _)))))) (pss_one (ps_ret pe_bl)) pss_nil) (pss_cons (ps_if (PW.pt (pw_or (pt_not (pt_val (pe_cB call_isk (by rfl) T.b_isinstance boot_isinstance (pa_c (pe_ix (ix_tupK K) (pv 0) pe_int (fun _ _ => rfl)) (pa_c (pe_bltn (v := .ty "str") (by rfl) T.b_str boot_str (by rfl)) pa_nil))))) (pw_or1 (pt_cmpR (op_notin_dct K w) (pe_ix (ix_tupK K) (pv 0) pe_int (fun _ _ => rfl)) (pe_gl (by rfl) T.g_FORMS) (by with_unfolding_all rfl))))) (pss_one (ps_ret pe_bl)) pss_nil) (pss_cons (ps_set (i := 2) sc_has_form.nd rfl (Or.inl rfl) (pe_ix (ix_dct K w) (pe_gl (by rfl) T.g_FORMS) (pe_ix (ix_tupK K) (pv 0) pe_int (fun _ _ => rfl)) (fun _ _ => rfl))) (pss_cons (ps_if (pt_cmpR op_ne (pe_cB (call_len_seqK K) (by rfl) T.b_len boot_len (pa_c (pv 0) pa_nil)) (pe_op op_add pe_int (pe_cB (call_len_seqK K) (by rfl) T.b_len boot_len (pa_c (pv 2) pa_nil))) (nomark _)) (pss_one (ps_ret pe_bl)) pss_nil) (pss_one (ps_ret (pe_cB (call_all_blK K rfl) (by rfl) T.b_all boot_all (pa_c (pe_lcomp ["part", "sort"] [(1, "deepest")] (CompOk.of rfl (by rfl) (by rfl)) (by rfl) (pi_zipK K (by rfl) T.b_zip (pa_c (pe_slice (sl_tupNK K) (pv 0) (po_some pe_int) po_none) (pa_c (pv 2) pa_nil))) (fun _ _ _ _ _ => (pg_tupK K (n := 2) rfl (pgs_cons (pg_name (i := 0) (show List.Nodup (["part", "sort", "deepest"] : List Str) by decide +kernel) (by rfl) (Or.inl (by rfl))) (pgs_cons (pg_name (i := 1) (show List.Nodup (["part", "sort", "deepest"] : List Str) by decide +kernel) (by rfl) (Or.inl (by rfl))) pgs_nil)))) (fun _ _ _ _ _ => pf_nil) (fun _ _ _ _ _ => (pe_callC C_is_of_sort hr (by omega) (by rfl) (pa_c (pv 0) (pa_c (pv 1) (pa_c (pe_op op_sub (pv 2) pe_int) pa_nil)))))) pa_nil)))))))), ?_⟩
  refine rd_st [some v, some (.int n), none] rfl ?_
  simp only [iZip, rInD, rIxD, rLen, rAll, rSlTN, tSeq, tIfS, tTest, tB, tOp, tC, tOr, tNot, tNext, tRet, gName, tAsg, rI0, rEq, rNe, tNil, tCons, tCB, tNoPart, tPart, tSl, rIxT, rd_v0, rd_vS, rd_comp, List.set_cons_zero, List.set_cons_succ, V.int.injEq, V.bl.injEq, V.ref.injEq, V.ty.injEq, List.cons.injEq, and_true, true_and, exists_eq_left', exists_and_left, if_true, rd_ii, and_assoc]
  cases n with
  | zero =>
    rw [decide_eq_true (show ((0 : Nat) : Int) = 0 from rfl)]
    exact iteT (q H (Same.refl H))
  | succ n =>
  rw [decide_eq_false (show ¬ ((n + 1 : Nat) : Int) = 0 by omega)]
  obtain ⟨⟨⟨kd, hkd⟩, hz⟩, hin⟩ := id ex
  refine iteF ⟨kd, hkd, by decide, ?_⟩
  cases hkd with
  | tup e =>
    rename_i a xs
    obtain ⟨hl, hx⟩ := hin a xs rfl e
    have hS : SqT K H a xs := .of e
    refine iteF ⟨a, rfl, xs, .inr hS, ?_⟩
    cases xs with
    | nil =>
      have h := q H (Same.refl H)
      simp only [formH, e] at h
      exact iteT h
    | cons x0 r =>
    rw [decide_eq_false (show ¬ (((x0 :: r).length : Nat) : Int) = 0 by rw [List.length_cons]; omega)]
    obtain ⟨⟨k0, hk0⟩, _⟩ := (hx x0 List.mem_cons_self).thing
    refine iteF ⟨a, rfl, _, hS, _, atI_0, k0, hk0, by decide, ?_⟩
    cases hk0 with
    | str wd =>
      have q' : ∀ H', Same H H' → Q (.bl (match forms.lookup wd with | some ss => zipB (formH H n) r ss | none => false)) H' := fun H' g => by
        have h := q H' g
        simp only [formH, e] at h
        exact h
      obtain ⟨fm, hd, hf⟩ := T.f_FORMS.ex
      refine iteF ⟨a, rfl, _, hS, _, atI_0, wd, rfl, fm, hd, ?_⟩
      rcases hf wd with ⟨ss, b, hls, hfw, hst⟩ | ⟨hls, hfw⟩
      · rw [hls] at q'
        replace q' : ∀ H', Same H H' → Q (.bl (zipB (formH H n) r ss)) H' := q'
        rw [hfw]
        refine iteF ⟨a, rfl, _, hS, _, atI_0, wd, rfl, fm, hd, .ref b, hfw, a, rfl, _, .inr hS, b, rfl, _, .inr (hst H), ?_⟩
        rw [List.length_cons, List.length_map]
        by_cases hlen : r.length = ss.length
        · rw [decide_eq_true (show (((r.length + 1 : Nat)) : Int) = 1 + (ss.length : Int) by omega)]
          refine iteF ⟨a, rfl, _, hS, slice_not (by simp), fun p H1 n1 => ?_⟩
          have ec : cutL (V.str wd :: r) (some 1) none = r := by
            rw [show ((1 : Int)) = ((1 : Nat) : Int) from rfl, cutL_from]
            rfl
          rw [ec] at n1
          have lr : r.length ≤ 1000 := by rw [List.length_cons] at hl; omega
          refine ⟨b, rfl, ⟨_, .of n1.at'⟩, ⟨_, hst H1⟩, cz_map (K := K) (a := p) (b := b) (xs := r) (ys := ss.map V.str) (fun σ => ∃ v1 v2, σ = [v1, v2, some (.int ((n + 1 : Nat) : Int))]) (fun i => .bl (sortB (formH H n) (r.getD i .non) (ss.getD i ""))) lr (by rw [List.length_map]; exact hlen) (.of n1.at') (hst H1) ⟨_, _, rfl⟩ ?_ ?_⟩
          · rintro D i σ G G' pp x y ex1 ey1 g hD hD' ⟨v1, v2, rfl⟩ nw
            rw [List.getElem?_map] at ey1
            obtain ⟨sx, es, rfl⟩ := Option.map_eq_some_iff.mp ey1
            have hi : i < r.length := (List.getElem?_eq_some_iff.mp ex1).1
            have mx : x ∈ r := List.mem_of_getElem? ex1
            have gx : Same H G' := n1.g.trans (g.trans nw.g)
            have exx := hx x (List.mem_cons_of_mem _ mx)
            simp only [tOp, tC, gName, gNil, gCons, gTup, rI0, tNil, tCons, tCall, tYes, rd_v0, rd_vS, List.set_cons_zero, List.set_cons_succ, List.append_nil, V.int.injEq, V.ref.injEq, exists_eq_left', exists_and_left, if_true]
            refine ⟨_, .of nw.at', rfl, _, _, rfl, _, _, rfl, rfl, ?_⟩
            have en : (((n + 1 : Nat) : Int) - 1) = (n : Int) := by omega
            rw [en]
            refine ⟨x, sx, rfl, exx.same gx, fun G2 g2 => cz_step lr hi hD (g2 _ _ (nw.g _ _ hD')) (g.trans (nw.g.trans g2)) ⟨_, _, rfl⟩ ?_⟩
            have e1 : r.getD i .non = x := by rw [List.getD_eq_getElem?_getD, ex1]; rfl
            have e2 : ss.getD i "" = sx := by rw [List.getD_eq_getElem?_getD, es]; rfl
            rw [e1, e2]
            unfold sortB
            rw [formH_same gx exx]
          · intro D G hD g eD
            refine ⟨D, rfl, (List.range r.length).map fun i => sortB (formH H n) (r.getD i .non) (ss.getD i ""), .of (by rw [eD, List.map_map]; rfl), ?_⟩
            have h := q' G (n1.g.trans g)
            rw [zipB_range hlen] at h
            rw [List.all_map]
            exact h
        · rw [decide_eq_false (show ¬ (((r.length + 1 : Nat)) : Int) = 1 + (ss.length : Int) by omega)]
          have h := q' H (Same.refl H)
          rw [zipB_len hlen] at h
          exact iteT h
      · rw [hls] at q'
        rw [hfw]
        exact iteT (q' H (Same.refl H))
    | _ =>
      have h := q H (Same.refl H)
      simp only [formH, e] at h
      exact iteT h
  | non => exact iteT (q H (Same.refl H))
  | bl b => exact iteT (q H (Same.refl H))
  | int i => exact iteT (q H (Same.refl H))
  | str z => exact iteT (q H (Same.refl H))
  | lst e =>
    have h := q H (Same.refl H)
    simp only [formH, e] at h
    exact iteT h
  | dK e =>
    have h := q H (Same.refl H)
    simp only [formH, e] at h
    exact iteT h
theorem all_form (T : Txt K mg w tw ffm cNoText cSayError cs) (d1 : Dfn K mg "is_of_sort" s_is_of_sort ["thing", "sort", "deepest"]) (d2 : Dfn K mg "has_form" s_has_form ["thing", "deepest"]) (C1 : Cal P w K mg base 2 "is_place" ["thing"] (sp_pl SMALL)) (C2 : Cal P w K mg base 2 "is_set" ["thing"] (sp_pl GREAT)) (C3 : Cal P w K mg base 3 "is_name" ["thing"] sp_nm) :
    ∀ n, Cal P w K mg base (2 * n + 4) "has_form" ["thing", "deepest"] (sp_form n) ∧ Cal P w K mg base (2 * n + 5) "is_of_sort" ["thing", "sort", "deepest"] (sp_sort n)
  | 0 => by
    have c := ok_form (n := 0) T d2 ((d1.never (sp := sp_sort' 0) fun vs H Q E h => h).mono (Nat.zero_le 3) : Cal P w K mg base 3 _ _ _)
    exact ⟨c, ok_sort (by decide) T d1 C1 C2 C3 c⟩
  | n + 1 => by
    have ih := all_form T d1 d2 C1 C2 C3 n
    have c := ok_form (n := n + 1) T d2 ih.2
    exact ⟨c, ok_sort (by omega) T d1 C1 C2 C3 c⟩
end
end K08
set_option Elab.async false
set_option linter.all false
set_option maxRecDepth 100000
set_option maxHeartbeats 4000000
set_option pp.deepTerms true
set_option pp.maxSteps 100000
namespace K08
open PySem PySem.Spec PyProof.Rows L2 SS
seal PE PT PW PA PS PSs
section
variable {P : Program} {w : World} {K : PySem.W.Frag} {mg : Str → Option Value} {base : Heap} {tw ffm cNoText cSayError : Addr} {cs : List Addr}
abbrev s_inner_sayings : Stmt := top 27
theorem sc_inner_sayings : FnScope ["saying"] ["saying"] (defScope s_inner_sayings) := ⟨rfl, rfl, rfl, by decide +kernel, rfl, by decide +kernel, by decide +kernel⟩
theorem ok_inner (T : Txt K mg w tw ffm cNoText cSayError cs) (d : Dfn K mg "inner_sayings" s_inner_sayings ["saying"]) : Cal P w K mg base 1 "inner_sayings" ["saying"] sp_inner := by
  refine d.cal sc_inner_sayings (fun vs H Q E h => ?_) (fun f cdv A outer s H vs Q E hr h => ?_)
  · obtain ⟨a, xs, rfl, _⟩ := h
    rfl
  obtain ⟨a, xs, rfl, e, hl, hk, q⟩ := h
  refine ⟨_, (pss_one (ps_ret (pe_lcomp ["thing"] [] (CompOk.of rfl (by rfl) (by rfl)) (by rfl) (pi_tupK K (pv 0)) (fun _ _ _ _ _ => (pg_name (i := 0) (show List.Nodup (["thing"] : List Str) by decide +kernel) (by rfl) (Or.inl (by rfl)))) (fun _ _ _ _ _ => (pf_one (pt_val (pe_cB call_isk (by rfl) T.b_isinstance boot_isinstance (pa_c (pv 0) (pa_c (pe_bltn (v := .ty "tuple") (by rfl) T.b_tuple boot_tuple (by rfl)) pa_nil)))))) (fun _ _ _ _ _ => (pv 0))))), ?_⟩
  refine rd_st [some (.ref a)] rfl ?_
  simp only [tRet, iTup, rd_v0, rd_comp, V.ref.injEq, exists_eq_left', exists_and_left]
  have hS : SqT K H a xs := .of e
  refine ⟨⟨xs, hS⟩, cf_tup (fun σ => ∃ v, σ = [v]) (isT H) id hl hS ⟨_, rfl⟩ ?_ ?_⟩
  · rintro D i σ H' x hi hm hx g hD hD' ⟨v, rfl⟩
    obtain ⟨k, hk'⟩ := hk x hm
    simp only [tB, tC, gName, tNil, tCons, tCB, rd_v0, List.set_cons_zero, V.bl.injEq, V.ty.injEq, List.cons.injEq, and_true, exists_eq_left', exists_and_left, and_assoc]
    refine ⟨k, hk'.same g, by decide, ?_⟩
    rw [Kd.isT hk']
    cases ht : isT H x with
    | true => exact iteT (cf_step hl hx ht hD hD' g ⟨_, rfl⟩ rfl)
    | false => exact iteF (cf_skip hx ht hD' g ⟨_, rfl⟩)
  · intro D H' hD g hD'
    rw [List.map_id] at hD'
    exact q D H' hD g hD'
abbrev s_count_parts : Stmt := top 28
theorem sc_count_parts : FnScope ["saying"] ["saying"] (defScope s_count_parts) := ⟨rfl, rfl, rfl, by decide +kernel, rfl, by decide +kernel, by decide +kernel⟩
theorem ok_count {n : Nat} (T : Txt K mg w tw ffm cNoText cSayError cs) (d : Dfn K mg "count_parts" s_count_parts ["saying"]) (C_inner_sayings : Cal P w K mg base 1 "inner_sayings" ["saying"] sp_inner) (C_count_parts : Cal P w K mg base (n + 1) "count_parts" ["saying"] (sp_count n)) : Cal P w K mg base (n + 1 + 1) "count_parts" ["saying"] (sp_count (n + 1)) := by
  refine d.cal sc_count_parts (fun vs H Q E h => ?_) (fun f cdv A outer s H vs Q E hr h => ?_)
  · obtain ⟨v, s, rfl, _⟩ := h
    rfl
  obtain ⟨v, sy, rfl, r, hd, q⟩ := h
  refine ⟨_, (pss_one (ps_ret (pe_op op_add pe_int (pe_cB (call_sum_intK K rfl) (by rfl) T.b_sum boot_sum (pa_c (pe_lcomp ["inner"] [] (CompOk.of rfl (by rfl) (by rfl)) (by rfl) (pi_listK K (pe_callC C_inner_sayings hr (by omega) (by rfl) (pa_c (pv 0) pa_nil))) (fun _ _ _ _ _ => (pg_name (i := 0) (show List.Nodup (["inner"] : List Str) by decide +kernel) (by rfl) (Or.inl (by rfl)))) (fun _ _ _ _ _ => pf_nil) (fun _ _ _ _ _ => (pe_callC C_count_parts hr (by omega) (by rfl) (pa_c (pv 0) pa_nil)))) pa_nil))))), ?_⟩
  refine rd_st [some v] rfl ?_
  simp only [rSum, tOp, tC, tRet, rI0, tNil, tCons, tCall, tCB, iList, rd_v0, rd_comp, List.append_nil, V.int.injEq, List.cons.injEq, and_true, exists_eq_left', exists_and_left]
  obtain ⟨a, xs, rfl, e, hl, hk, hp⟩ := r.items
  refine ⟨a, xs, rfl, e, by omega, hk, fun D1 H1 hD1 g1 e1 => ⟨D1, rfl, ⟨_, .of e1⟩, ?_⟩⟩
  have hpl := Paired.len hp
  have l3 : (xs.filter (isT H)).length ≤ 1000 := Nat.le_trans (List.length_filter_le _ _) (by omega)
  refine ci_list (K := K) (a := D1) (xs := xs.filter (isT H)) (fun σ => ∃ v, σ = [v]) (fun i => .int (((sy.inner[i]?).map Sy.parts).getD 0)) l3 (.of e1) ⟨_, rfl⟩ ?_ ?_
  · rintro D i σ H' x hi hx g hD hD' ⟨v, rfl⟩
    obtain ⟨t, et, rt⟩ := Paired.at hp hx
    have dt := (inner_depth (List.mem_of_getElem? et)).1
    simp only [gName, tNil, tCons, tCall, tYes, rd_v0, List.set_cons_zero, List.append_nil, if_true]
    refine ⟨x, t, rfl, rt.same (g1.trans g), by omega, fun H2 g2 => cz_step l3 hi hD (g2 _ _ hD') (g.trans g2) ⟨_, rfl⟩ (by rw [et]; rfl)⟩
  · intro D H' hD g eD
    refine ⟨D, rfl, (List.range (xs.filter (isT H)).length).map fun i => (((sy.inner[i]?).map Sy.parts).getD 0 : Nat), .of (by rw [eD, List.map_map]; rfl), ?_⟩
    have h := q H' (g1.trans g)
    have es : (1 : Int) + ((List.range (xs.filter (isT H)).length).map fun i => ((((sy.inner[i]?).map Sy.parts).getD 0 : Nat) : Int)).sum = (sy.parts : Int) := by
      rw [hpl]
      cases sy with
      | bare w n m => rfl
      | neg s => show (1 : Int) + ((s.parts : Int) + 0) = ((s.parts + 1 : Nat) : Int); omega
      | two w s t => show (1 : Int) + ((s.parts : Int) + ((t.parts : Int) + 0)) = ((s.parts + t.parts + 1 : Nat) : Int); omega
      | qu w n s => show (1 : Int) + ((s.parts : Int) + 0) = ((s.parts + 1 : Nat) : Int); omega
    rw [es]
    exact h
theorem all_count (T : Txt K mg w tw ffm cNoText cSayError cs) (d : Dfn K mg "count_parts" s_count_parts ["saying"]) (C1 : Cal P w K mg base 1 "inner_sayings" ["saying"] sp_inner) : ∀ n, Cal P w K mg base (n + 1) "count_parts" ["saying"] (sp_count n)
  | 0 => (d.never fun vs H Q E h => by obtain ⟨v, s, _, _, hd, _⟩ := h; exact absurd hd (Nat.not_lt_zero _)).mono (by decide)
  | n + 1 => ok_count T d C1 (all_count T d C1 n)
abbrev s_is_any_saying : Stmt := top 29
theorem sc_is_any_saying : FnScope ["thing"] ["thing"] (defScope s_is_any_saying) := ⟨rfl, rfl, rfl, by decide +kernel, rfl, by decide +kernel, by decide +kernel⟩
theorem ok_anysay (T : Txt K mg w tw ffm cNoText cSayError cs) (d : Dfn K mg "is_any_saying" s_is_any_saying ["thing"]) (C_has_form : Cal P w K mg base 28 "has_form" ["thing", "deepest"] (sp_form 12)) (C_count_parts : Cal P w K mg base 14 "count_parts" ["saying"] (sp_count 13)) : Cal P w K mg base 29 "is_any_saying" ["thing"] sp_anysay := by
  refine d.cal sc_is_any_saying (fun vs H Q E h => ?_) (fun f cdv A outer s H vs Q E hr h => ?_)
  · obtain ⟨v, rfl, _⟩ := h
    rfl
  obtain ⟨v, rfl, ex, q⟩ := h
  refine ⟨_, (pss_one (ps_ret (pe_and (pe_callC C_has_form hr (by omega) (by rfl) (pa_c (pv 0) (pa_c (pe_gl (by rfl) T.g_DEEPEST) pa_nil))) (pe_one (pe_cmpR op_le (pe_callC C_count_parts hr (by omega) (by rfl) (pa_c (pv 0) pa_nil)) (pe_gl (by rfl) T.g_MOST_PARTS) (nomark _)))))), ?_⟩
  refine rd_st [some v] rfl ?_
  simp only [tOp, tC, tAndV, tRet, rI0, tNil, tCons, tCall, rd_v0, List.append_nil, V.int.injEq, exists_eq_left', exists_and_left]
  refine ⟨v, rfl, ex, fun H1 g1 => ⟨_, rfl, ite2 (fun c => ?_) fun c => q false H1 g1 ⟨fun z => (by cases z), fun ⟨s, r, hw, hd, _⟩ => absurd (say_form r hw hd) c⟩⟩⟩
  obtain ⟨sy, r, hw, hd⟩ := form_say c
  refine ⟨v, sy, rfl, r.same g1, by omega, fun H2 g2 => ⟨_, rfl, q _ H2 (g1.trans g2) ⟨fun z => ⟨sy, r, hw, hd, ?_⟩, fun ⟨s, r', _, _, hp⟩ => ?_⟩⟩⟩
  · have := of_decide_eq_true z
    omega
  · rw [r.det r']
    exact decide_eq_true (by omega)
end
end K08
set_option Elab.async false
set_option linter.all false
set_option maxRecDepth 100000
set_option maxHeartbeats 4000000
set_option pp.deepTerms true
set_option pp.maxSteps 100000
namespace K08
open PySem PySem.Spec PyProof.Rows L2 SS
seal PE PT PW PA PS PSs
section
variable {P : Program} {w : World} {K : PySem.W.Frag} {mg : Str → Option Value} {base : Heap} {tw ffm cNoText cSayError : Addr} {cs : List Addr}
abbrev s_law_cell_at : Stmt := top 38
theorem sc_law_cell_at : FnScope ["_law_script", "_law_k"] ["_law_script", "_law_k"] (defScope s_law_cell_at) := ⟨rfl, rfl, rfl, by decide +kernel, rfl, by decide +kernel, by decide +kernel⟩
theorem ok_cell (T : Txt K mg w tw ffm cNoText cSayError cs) (d : Dfn K mg "_law_cell_at" s_law_cell_at ["_law_script", "_law_k"]) : Cal P w K mg base 1 "_law_cell_at" ["_law_script", "_law_k"] (sp_cell K) := by
  refine d.cal sc_law_cell_at (fun vs H Q E h => ?_) (fun f cdv A outer s H vs Q E hr h => ?_)
  · obtain ⟨a, ns, k, rfl, _⟩ := h
    rfl
  obtain ⟨a, ns, k, rfl, hS, h0, q⟩ := h
  refine ⟨_, (pss_cons (ps_if (pt_cmpR op_lt (pv 1) (pe_cB (call_len_seqK K) (by rfl) T.b_len boot_len (pa_c (pv 0) pa_nil)) (nomark _)) (pss_one (ps_ret (pe_ix (ix_listK K) (pv 0) (pv 1) (fun _ _ => rfl)))) pss_nil) (pss_one (ps_ret pe_int))), ?_⟩
  refine rd_st [some (.ref a), some (.int k)] rfl ?_
  simp only [rLen, tSeq, tIfS, tTest, tOp, tC, tNext, tRet, rI0, tNil, tCons, tCB, rIxL, rd_v0, rd_vS, V.int.injEq, V.bl.injEq, V.ref.injEq, List.cons.injEq, and_true, exists_eq_left', exists_and_left]
  refine ⟨_, .inl hS, ite2 (fun c => ?_) (fun _ => q 0)⟩
  have c' := of_decide_eq_true c
  rw [List.length_map] at c'
  have hk : k.toNat < ns.length := by omega
  have ek : k = ((k.toNat : Nat) : Int) := by omega
  have e : atI (ns.map V.int) ((k.toNat : Nat) : Int) = some (.int ns[k.toNat]) := atI_nat (by simp [hk])
  rw [← ek] at e
  exact ⟨_, hS, _, e, q _⟩
abbrev s_law_name : Stmt := top 39
theorem sc_law_name : FnScope ["_law_cell", "_law_letters", "_law_figures"] ["_law_cell", "_law_letters"] (defScope s_law_name) := ⟨rfl, rfl, rfl, by decide +kernel, rfl, by decide +kernel, by decide +kernel⟩
theorem ok_name (T : Txt K mg w tw ffm cNoText cSayError cs) (d : Dfn K mg "_law_name" s_law_name ["_law_cell", "_law_letters"]) : Cal P w K mg base 1 "_law_name" ["_law_cell", "_law_letters"] sp_name := by
  refine d.cal sc_law_name (fun vs H Q E h => ?_) (fun f cdv A outer s H vs Q E hr h => ?_)
  · obtain ⟨x, l, rfl, _⟩ := h
    rfl
  obtain ⟨c, l, rfl, h0, hl, q⟩ := h
  refine ⟨_, (pss_cons (ps_set (i := 2) sc_law_name.nd rfl (Or.inl rfl) (pe_bmK K PySem.F.plainAttrs_str PySem.F.slot_str_zfill PySem.F.type_str_zfill mt_zfill (pe_cTy call_str_int (by rfl) T.b_str boot_str (pa_c (pe_op op_mod (pe_op op_fdiv (pv 0) pe_int) pe_int) pa_nil)) (pa_c pe_int pa_nil))) (pss_one (ps_ret (pe_op op_add_str (pe_ix ix_str (pv 1) (pe_op op_mod (pv 0) pe_int) (fun _ _ => rfl)) (pe_slice sl_str (pv 2) po_none (po_some (pe_op op_mod (pe_op op_fdiv (pv 0) pe_int) pe_int))))))), ?_⟩
  refine rd_st [some (.int c), some (.str l), none] rfl ?_
  simp only [tSeq, tOp, tC, tRet, gName, tAsg, rI, tNil, tCons, tCB, tNoPart, tPart, tSl, rSlS, rIxS, tBM, tyV, rZfill, rd_v0, rd_vS, List.set_cons_zero, List.set_cons_succ, V.int.injEq, V.str.injEq, List.cons.injEq, and_true, true_and, exists_eq_left', exists_and_left]
  have e26 : ((26 : Int)) = ((26 : Nat) : Int) := rfl
  have hl' : l.cps.toList.length = 26 := by rw [← str_len]; exact hl
  obtain ⟨v, hv, hm⟩ := atI_mod (i := c) hl' (by decide)
  have n0 : 0 ≤ c / 104 % 1000 := Int.emod_nonneg _ (by decide)
  have n1 : c / 104 % 1000 < 1000 := Int.emod_lt_of_pos _ (by decide)
  have k0 : 0 ≤ c / 26 % 4 := Int.emod_nonneg _ (by decide)
  have k1 : c / 26 % 4 < 4 := Int.emod_lt_of_pos _ (by decide)
  have hz := digits_zfill 3 (digits_num n0)
  generalize hZ : Txt.zfill (Str.ofString (toString (c / 104 % 1000))) 3 = Z at hz ⊢
  have lz : Z.length ≤ 100 := by
    rw [← hZ]
    have a := len_zfill (Str.ofString (toString (c / 104 % 1000))) 3
    have b := PySem.W.KT.len_num n0 (by omega : c / 104 % 1000 < 10 ^ 10)
    split at a <;> omega
  have sl := slice_cps Z none (some (c / 26 % 4))
  have ek : c / 26 % 4 = (((c / 26 % 4).toNat : Nat) : Int) := by omega
  rw [ek, cutL_to] at sl
  rw [← ek] at sl
  have sn := slice_len Z none (some (c / 26 % 4))
  refine ⟨⟨by decide, by decide⟩, by decide, ?_, by decide, by decide, small_line (by omega), v, hv, ⟨by decide, by decide⟩, by decide, small_line (by omega), ?_, q _ ⟨v, _, by rw [str_app]; rfl, hm, ?_, ?_⟩⟩
  · have hn : (c / 104 % 1000).natAbs < 2 ^ 10 := by omega
    by_cases h : (c / 104 % 1000).natAbs = 0
    · rw [h]; decide
    · have := (Nat.log2_lt h).mpr hn; omega
  · rw [str_one_len]; exact small_line (by omega)
  · show (Txt.slice Z none (some (c / 26 % 4))).cps.toList.length ≤ 3
    rw [sl, List.length_take]; omega
  · intro x hx
    have hx : x ∈ (Txt.slice Z none (some (c / 26 % 4))).cps.toList := hx
    rw [sl] at hx
    have h := hz x (List.mem_of_mem_take hx)
    have : ∀ y : Nat, 48 ≤ y → y ≤ 57 → y ∈ FIGS.cps.toList := by
      intro y h1 h2
      have : y = 48 ∨ y = 49 ∨ y = 50 ∨ y = 51 ∨ y = 52 ∨ y = 53 ∨ y = 54 ∨ y = 55 ∨ y = 56 ∨ y = 57 := by omega
      rcases this with rfl | rfl | rfl | rfl | rfl | rfl | rfl | rfl | rfl | rfl <;> decide +kernel
    exact this x h.1 h.2
abbrev s_law_place : Stmt := top 40
theorem sc_law_place : FnScope ["_law_cell"] ["_law_cell"] (defScope s_law_place) := ⟨rfl, rfl, rfl, by decide +kernel, rfl, by decide +kernel, by decide +kernel⟩
theorem ok_lplace (T : Txt K mg w tw ffm cNoText cSayError cs) (d : Dfn K mg "_law_place" s_law_place ["_law_cell"]) (C_law_name : Cal P w K mg base 1 "_law_name" ["_law_cell", "_law_letters"] sp_name) : Cal P w K mg base 2 "_law_place" ["_law_cell"] (sp_drawn SMALL) := by
  refine d.cal sc_law_place (fun vs H Q E h => ?_) (fun f cdv A outer s H vs Q E hr h => ?_)
  · obtain ⟨c, rfl, _⟩ := h
    rfl
  obtain ⟨c, rfl, h0, q⟩ := h
  refine ⟨_, (pss_one (ps_ret (pe_callC C_law_name hr (by omega) (by rfl) (pa_c (pv 0) (pa_c pe_str pa_nil))))), ?_⟩
  refine rd_st [some (.int c)] rfl ?_
  simp only [tC, tRet, tNil, tCons, tCall, rd_v0, List.append_nil]
  exact ⟨c, SMALL, rfl, h0, by decide +kernel, q⟩
abbrev s_law_set : Stmt := top 41
theorem sc_law_set : FnScope ["_law_cell"] ["_law_cell"] (defScope s_law_set) := ⟨rfl, rfl, rfl, by decide +kernel, rfl, by decide +kernel, by decide +kernel⟩
theorem ok_lset (T : Txt K mg w tw ffm cNoText cSayError cs) (d : Dfn K mg "_law_set" s_law_set ["_law_cell"]) (C_law_name : Cal P w K mg base 1 "_law_name" ["_law_cell", "_law_letters"] sp_name) : Cal P w K mg base 2 "_law_set" ["_law_cell"] (sp_drawn GREAT) := by
  refine d.cal sc_law_set (fun vs H Q E h => ?_) (fun f cdv A outer s H vs Q E hr h => ?_)
  · obtain ⟨c, rfl, _⟩ := h
    rfl
  obtain ⟨c, rfl, h0, q⟩ := h
  refine ⟨_, (pss_one (ps_ret (pe_callC C_law_name hr (by omega) (by rfl) (pa_c (pv 0) (pa_c pe_str pa_nil))))), ?_⟩
  refine rd_st [some (.int c)] rfl ?_
  simp only [tC, tRet, tNil, tCons, tCall, rd_v0, List.append_nil]
  exact ⟨c, GREAT, rfl, h0, by decide +kernel, q⟩
abbrev s_law_new : Stmt := top 42
theorem sc_law_new : FnScope ["_law_number", "_law_known", "_law_some"] ["_law_number", "_law_known"] (defScope s_law_new) := ⟨rfl, rfl, rfl, by decide +kernel, rfl, by decide +kernel, by decide +kernel⟩
theorem ok_new (T : Txt K mg w tw ffm cNoText cSayError cs) (d : Dfn K mg "_law_new" s_law_new ["_law_number", "_law_known"]) (C_law_place : Cal P w K mg base 2 "_law_place" ["_law_cell"] (sp_drawn SMALL)) (C_law_set : Cal P w K mg base 2 "_law_set" ["_law_cell"] (sp_drawn GREAT)) : Cal P w K mg base 3 "_law_new" ["_law_number", "_law_known"] sp_new := by
  refine d.cal sc_law_new (fun vs H Q E h => ?_) (fun f cdv A outer s H vs Q E hr h => ?_)
  · obtain ⟨c, b, tl, rfl, _⟩ := h
    rfl
  obtain ⟨c, b, tl, rfl, h0, eb, hl, q⟩ := h
  refine ⟨_, (pss_cons (ps_set (i := 2) sc_law_new.nd rfl (Or.inl rfl) (pe_lstN (pa_c (pe_callC C_law_place hr (by omega) (by rfl) (pa_c (pe_op op_fdiv (pv 0) pe_int) pa_nil)) (pa_c pe_str (pa_c pe_str (pa_c pe_str (pa_c pe_str (pa_c pe_str pa_nil)))))))) (pss_cut (ps_if (pt_cmpR op_eq (pe_op op_mod (pv 0) pe_int) pe_int (nomark _)) (pss_one (ps_set (i := 2) sc_law_new.nd rfl (Or.inl rfl) (pe_lstN (pa_c (pe_callC C_law_set hr (by omega) (by rfl) (pa_c (pe_op op_fdiv (pv 0) pe_int) pa_nil)) (pa_c pe_str (pa_c pe_str (pa_c pe_str (pa_c pe_str (pa_c pe_str pa_nil))))))))) pss_nil) (pss_one (ps_ret (pe_ix (ix_listK K) (pe_lcomp ["_law_name_here"] [(1, "_law_known")] (CompOk.of rfl (by rfl) (by rfl)) (by rfl) (pi_listK K (pv 2)) (fun _ _ _ _ _ => (pg_name (i := 0) (show List.Nodup (["_law_name_here", "_law_known"] : List Str) by decide +kernel) (by rfl) (Or.inl (by rfl)))) (fun _ _ _ _ _ => (pf_one (pt_cmpR (op_notIn_seqK K) (pv 0) (pv 1) (by with_unfolding_all rfl)))) (fun _ _ _ _ _ => (pv 0))) pe_int (fun _ _ => rfl)))))), ?_⟩
  refine rd_st [some (.int c), some (.ref b), none] rfl ?_
  simp only [tLstN, tSeq, tOp, tC, gName, tAsg, rI, tNil, tCons, tCall, rd_v0, List.set_cons_zero, List.set_cons_succ, List.append_nil, V.int.injEq, exists_eq_left', exists_and_left]
  have fivP : ∀ z ∈ (["p", "q", "r", "s", "t"] : List Str), isName (.str z) = true ∧ z.length ≤ 4 := by decide +kernel
  have fivS : ∀ z ∈ (["P", "Q", "R", "S", "T"] : List Str), isName (.str z) = true ∧ z.length ≤ 4 := by decide +kernel
  have ndP : (["p", "q", "r", "s", "t"] : List Str).Nodup := by decide +kernel
  have ndS : (["P", "Q", "R", "S", "T"] : List Str).Nodup := by decide +kernel
  refine ⟨⟨by decide, by decide⟩, _, rfl, Int.ediv_nonneg h0 (by decide), fun z0 hz0 => ⟨small_line (by simp), fun p H1 n1 => ?_⟩⟩
  refine cut_by (fun σ H' => ∃ (p : Addr) (zs : List Str), σ = [some (.int c), some (.ref b), some (.ref p)] ∧ Same H H' ∧ H' p = some (.lst (zs.map V.str)) ∧ zs.length = 6 ∧ (∀ z ∈ zs, isName (.str z) = true ∧ z.length ≤ 4) ∧ (zs.drop 1).Nodup) ?_ ?_
  · simp only [tLstN, tIfS, tTest, tOp, tC, tNext, gName, tAsg, rI, rEq, tNil, tCons, tCall, rd_v0, List.set_cons_zero, List.set_cons_succ, List.append_nil, V.int.injEq, V.bl.injEq, V.ref.injEq, List.cons.injEq, and_true, true_and, exists_eq_left', exists_and_left, rd_ii, Option.some.injEq]
    refine ⟨by decide, ite2 (fun _ => ⟨⟨by decide, by decide⟩, _, rfl, Int.ediv_nonneg h0 (by decide), fun z1 hz1 => ⟨small_line (by simp), fun p2 H2 n2 => ⟨n1.g.trans n2.g, z1 :: ["P", "Q", "R", "S", "T"], n2.at', rfl, fun z hz => ?_, ndS⟩⟩⟩) fun _ => ⟨n1.g, z0 :: ["p", "q", "r", "s", "t"], n1.at', rfl, fun z hz => ?_, ndP⟩⟩
    · rcases List.mem_cons.mp hz with rfl | hz
      · exact ⟨name_of_st (nam_is in_great hz1), (nam_len hz1).2⟩
      · exact fivS z hz
    · rcases List.mem_cons.mp hz with rfl | hz
      · exact ⟨name_of_pl (nam_is in_small hz0), (nam_len hz0).2⟩
      · exact fivP z hz
  rintro σ H2 ⟨p2, zs, rfl, g2, e2, l6, nz, nd⟩
  simp only [tOp, tC, tRet, rIxL, iList, rd_v0, rd_vS, rd_comp, V.int.injEq, V.ref.injEq, exists_eq_left', exists_and_left]
  refine ⟨⟨_, .of e2⟩, cf_list (K := K) (a := p2) (xs := zs.map V.str) (fun σ => ∃ v, σ = [v, some (.ref b)]) (fun y => !inV y (tl.map V.str)) id (by rw [List.length_map]; omega) (.of e2) ⟨_, rfl⟩ ?_ ?_⟩
  · rintro D i σ H' x hi hm hx g' hD hD' ⟨v, rfl⟩
    have fx : flatV x = true := by
      obtain ⟨z, _, rfl⟩ := List.mem_map.mp hm
      rfl
    simp only [tTest, tOp, gName, rIn, rd_v0, rd_vS, List.set_cons_zero, V.bl.injEq, V.ref.injEq, exists_eq_left', exists_and_left, if_true]
    refine ⟨_, .inl (.of (g' _ _ (g2 _ _ eb))), fx, flats_str tl, ?_⟩
    cases ht : inV x (tl.map V.str) with
    | true => exact iteF (cf_skip hx (by rw [ht]; rfl) hD' g' ⟨_, rfl⟩)
    | false => exact iteT (cf_step (by rw [List.length_map]; omega) hx (by rw [ht]; rfl) hD hD' g' ⟨_, rfl⟩ rfl)
  · intro D H' hD g' hD'
    rw [List.map_id] at hD'
    have ne : (zs.map V.str).filter (fun y => !inV y (tl.map V.str)) ≠ [] := fun z => by
      obtain ⟨y, hy, hn⟩ := one_left hl nd (by rw [List.length_drop]; omega)
      have my : y ∈ zs := List.mem_of_mem_drop hy
      have := List.filter_eq_nil_iff.mp z (.str y) (List.mem_map_of_mem my)
      rw [inV_strs, decide_eq_false hn] at this
      exact absurd rfl this
    obtain ⟨y0, ys, ey⟩ := List.exists_cons_of_ne_nil ne
    have m0 : y0 ∈ (zs.map V.str).filter (fun y => !inV y (tl.map V.str)) := by rw [ey]; exact List.mem_cons_self
    obtain ⟨m1, m2⟩ := List.mem_filter.mp m0
    obtain ⟨z, mz, rfl⟩ := List.mem_map.mp m1
    rw [ey] at hD'
    refine ⟨D, rfl, _, .of hD', .str z, atI_0, q z H' (g2.trans g') (nz z mz).1 (nz z mz).2 fun h => ?_⟩
    rw [inV_strs, decide_eq_true h] at m2
    cases m2
abbrev s_law_bare : Stmt := top 43
theorem sc_law_bare : FnScope ["_law_number", "_law_known", "_law_trees", "_law_places", "_law_sets", "_law_kind", "_law_words_here"] ["_law_number", "_law_known", "_law_trees"] (defScope s_law_bare) := ⟨rfl, rfl, rfl, by decide +kernel, rfl, by decide +kernel, by decide +kernel⟩
theorem ok_lbare (T : Txt K mg w tw ffm cNoText cSayError cs) (d : Dfn K mg "_law_bare" s_law_bare ["_law_number", "_law_known", "_law_trees"]) : Cal P w K mg base 1 "_law_bare" ["_law_number", "_law_known", "_law_trees"] sp_lbare := by
  refine d.cal sc_law_bare (fun vs H Q E h => ?_) (fun f cdv A outer s H vs Q E hr h => ?_)
  · obtain ⟨c, b, tl, tb, rfl, _⟩ := h
    rfl
  obtain ⟨c, b, tl, tb, rfl, h0, eb, hl, nm, q⟩ := h
  have hu := hu_at hr 8 (by decide)
  refine ⟨_, (pss_cons (ps_setC (i := 3) sc_law_bare.nd rfl (Or.inl rfl) ["_law_name_here"] [] (CompOk.of rfl (by rfl) (by rfl)) (by rfl) (pi_listK K (pv 1)) (fun _ _ _ _ _ => (pg_name (i := 0) (show List.Nodup (["_law_name_here"] : List Str) by decide +kernel) (by rfl) (Or.inl (by rfl)))) (fun _ _ _ _ _ => (pf_one (pt_val (pe_bm0K K PySem.F.plainAttrs_str PySem.F.slot_str_islower PySem.F.type_str_islower mt_islower (pv 0))))) (fun _ _ _ _ _ => (pv 0))) (pss_cons (ps_setC (i := 4) sc_law_bare.nd rfl (Or.inl rfl) ["_law_name_here"] [] (CompOk.of rfl (by rfl) (by rfl)) (by rfl) (pi_listK K (pv 1)) (fun _ _ _ _ _ => (pg_name (i := 0) (show List.Nodup (["_law_name_here"] : List Str) by decide +kernel) (by rfl) (Or.inl (by rfl)))) (fun _ _ _ _ _ => (pf_one (pt_val (pe_bm0K K PySem.F.plainAttrs_str PySem.F.slot_str_isupper PySem.F.type_str_isupper mt_isupper (pv 0))))) (fun _ _ _ _ _ => (pv 0))) (pss_cons (ps_if (pt_cut (PW.pt (pw_and (pt_cmpR (op_eqSK K hu) (pv 3) (pe_lstN pa_nil) (nomark _)) (pw_and1 (pt_cmpR (op_eqSK K hu) (pv 4) (pe_lstN pa_nil) (nomark _)))))) (pss_one (ps_ret (pe_tupN (pa_c (pe_ix (ix_listK K) (pe_lstN (pa_c pe_str (pa_c pe_str pa_nil))) (pe_op op_mod (pv 0) pe_int) (fun _ _ => rfl)) (pa_c pe_str (pa_c (pe_tupN (pa_c pe_str (pa_c pe_str (pa_c pe_str pa_nil)))) pa_nil)))))) pss_nil) (pss_cons (ps_set (i := 5) sc_law_bare.nd rfl (Or.inl rfl) (pe_op op_mod (pv 0) pe_int)) (pss_cons (ps_set (i := 0) sc_law_bare.nd rfl (Or.inl rfl) (pe_op op_fdiv (pv 0) pe_int)) (pss_cons (ps_if (pt_cut (PW.pt (pw_or (pt_cmpR (op_eqSK K hu) (pv 3) (pe_lstN pa_nil) (nomark _)) (pw_or1 (PW.pt (pw_and (pt_cmpR op_eq (pv 5) pe_int (nomark _)) (pw_and1 (pt_cmpR (op_neSK K hu) (pv 4) (pe_lstN pa_nil) (nomark _))))))))) (pss_one (ps_ret (pe_tupN (pa_c pe_str (pa_c (pe_ix (ix_listK K) (pv 4) (pe_op op_mod (pv 0) (pe_cB (call_len_seqK K) (by rfl) T.b_len boot_len (pa_c (pv 4) pa_nil))) (fun _ _ => rfl)) (pa_c (pe_ix (ix_listK K) (pv 4) (pe_op op_mod (pe_op op_fdiv (pv 0) pe_int) (pe_cB (call_len_seqK K) (by rfl) T.b_len boot_len (pa_c (pv 4) pa_nil))) (fun _ _ => rfl)) pa_nil)))))) pss_nil) (pss_cons (ps_if (pt_cut (PW.pt (pw_and (pt_cmpR op_lt (pv 5) pe_int (nomark _)) (pw_and1 (pt_cmpR (op_neSK K hu) (pv 4) (pe_lstN pa_nil) (nomark _)))))) (pss_one (ps_ret (pe_tupN (pa_c pe_str (pa_c (pe_ix (ix_listK K) (pv 3) (pe_op op_mod (pv 0) (pe_cB (call_len_seqK K) (by rfl) T.b_len boot_len (pa_c (pv 3) pa_nil))) (fun _ _ => rfl)) (pa_c (pe_ix (ix_listK K) (pv 4) (pe_op op_mod (pe_op op_fdiv (pv 0) pe_int) (pe_cB (call_len_seqK K) (by rfl) T.b_len boot_len (pa_c (pv 4) pa_nil))) (fun _ _ => rfl)) pa_nil)))))) pss_nil) (pss_cons (ps_set (i := 6) sc_law_bare.nd rfl (Or.inl rfl) (pe_ix (ix_listK K) (pe_lstN (pa_c (pe_lstN (pa_c pe_str (pa_c pe_str (pa_c pe_str (pa_c pe_str pa_nil))))) (pa_c (pe_lstN (pa_c pe_str (pa_c pe_str (pa_c pe_str (pa_c pe_str pa_nil))))) pa_nil))) (pe_cTy call_int1 (by rfl) T.b_int boot_int (pa_c (pv 2) pa_nil)) (fun _ _ => rfl))) (pss_one (ps_ret (pe_tupN (pa_c (pe_ix (ix_listK K) (pv 6) (pe_op op_mod (pe_op op_fdiv (pv 0) pe_int) pe_int) (fun _ _ => rfl)) (pa_c (pe_ix (ix_listK K) (pv 3) (pe_op op_mod (pv 0) (pe_cB (call_len_seqK K) (by rfl) T.b_len boot_len (pa_c (pv 3) pa_nil))) (fun _ _ => rfl)) (pa_c (pe_ix (ix_listK K) (pv 3) (pe_op op_mod (pe_op op_fdiv (pv 0) pe_int) (pe_cB (call_len_seqK K) (by rfl) T.b_len boot_len (pa_c (pv 3) pa_nil))) (fun _ _ => rfl)) pa_nil)))))))))))))), ?_⟩
  refine rd_st [some (.int c), some (.ref b), some (.bl tb), none, none, none, none] rfl ?_
  simp only [rLen, tTupN, tLstN, tSeq, tIfS, tOp, tC, tNext, tRet, gName, tAsg, rI, tNil, tCons, tCB, rIxL, iList, rd_v0, rd_vS, rd_comp, List.set_cons_zero, List.set_cons_succ, V.int.injEq, V.bl.injEq, V.ref.injEq, List.cons.injEq, and_true, exists_eq_left', exists_and_left, exists_const, reduceCtorEq, false_and, false_or]
  have hS : SqL K H b (tl.map V.str) := .of eb
  have fil : ∀ p : Str → Bool, (tl.map V.str).filter (fun y => match y with | .str z => p z | _ => false) = (tl.filter p).map V.str := fun p => by
    rw [List.filter_map]
    rfl
  refine ⟨⟨_, hS⟩, cf_list (K := K) (a := b) (xs := tl.map V.str) (fun σ => ∃ v, σ = [v]) (fun y => match y with | .str z => isPl z | _ => false) id (by rw [List.length_map]; omega) hS ⟨_, rfl⟩ ?_ ?_⟩
  · rintro D i σ H' x hi hm hx g' hD hD' ⟨v, rfl⟩
    obtain ⟨z, mz, rfl⟩ := List.mem_map.mp hm
    simp only [rStrB, tB, gName, tBM0, tyV, rd_v0, List.set_cons_zero, V.str.injEq, V.bl.injEq, true_and, exists_eq_left']
    rw [(islower_eq (nm.nm z mz)).1]
    cases ht : isPl z with
    | true => exact iteT (cf_step (by rw [List.length_map]; omega) hx ht hD hD' g' ⟨_, rfl⟩ rfl)
    | false => exact iteF (cf_skip hx ht hD' g' ⟨_, rfl⟩)
  intro D1 H1 hD1 g1 e1
  rw [List.map_id, fil] at e1
  refine ⟨⟨_, g1.seq hS⟩, cf_list (K := K) (a := b) (xs := tl.map V.str) (fun σ => ∃ v, σ = [v]) (fun y => match y with | .str z => isSt z | _ => false) id (by rw [List.length_map]; omega) (g1.seq hS) ⟨_, rfl⟩ ?_ ?_⟩
  · rintro D i σ H' x hi hm hx g' hD hD' ⟨v, rfl⟩
    obtain ⟨z, mz, rfl⟩ := List.mem_map.mp hm
    simp only [rStrB, tB, gName, tBM0, tyV, rd_v0, List.set_cons_zero, V.str.injEq, V.bl.injEq, true_and, exists_eq_left']
    rw [(islower_eq (nm.nm z mz)).2]
    cases ht : isSt z with
    | true => exact iteT (cf_step (by rw [List.length_map]; omega) hx ht hD hD' g' ⟨_, rfl⟩ rfl)
    | false => exact iteF (cf_skip hx ht hD' g' ⟨_, rfl⟩)
  intro D2 H2 hD2 g2 e2
  rw [List.map_id, fil] at e2
  replace e1 := g2 _ _ e1
  have g12 := g1.trans g2
  have pIn : ∀ z ∈ tl.filter isPl, z ∈ tl ∧ isPl z = true := fun z hz => List.mem_filter.mp hz
  have sIn : ∀ z ∈ tl.filter isSt, z ∈ tl ∧ isSt z = true := fun z hz => List.mem_filter.mp hz
  have both : tl.filter isPl = [] → tl.filter isSt = [] → tl = [] := fun h1 h2 => by
    cases tl with
    | nil => rfl
    | cons z r =>
      rcases name_cases (nm.nm z List.mem_cons_self) with h | h
      · rw [List.filter_cons_of_pos h] at h1; cases h1
      · rw [List.filter_cons_of_pos h] at h2; cases h2
  generalize tl.filter isPl = pl at *
  generalize tl.filter isSt = sl at *
  refine cutT_by (fun b H' => Same H2 H' ∧ b = (decide (pl = []) && decide (sl = []))) ?_ ?_
  · simp only [rEqS, tLstN, tTest, tOp, tAnd, tNil, rd_v0, rd_vS, V.bl.injEq, V.ref.injEq, exists_eq_left', exists_and_left]
    refine ⟨by decide, fun p3 H3 n3 => ⟨pl, .of (n3.g _ _ e1), [], n3.lst, ite2 (fun c1 => ⟨by decide, fun p4 H4 n4 => ⟨sl, .of (n4.g _ _ (n3.g _ _ e2)), [], n4.lst, n3.g.trans n4.g, by rw [c1, Bool.true_and]⟩⟩) fun c1 => ⟨n3.g, by rw [Bool.eq_false_iff.mpr c1, Bool.false_and]⟩⟩⟩
  rintro b1 H3 ⟨g3, rfl⟩
  replace e1 := g3 _ _ e1
  replace e2 := g3 _ _ e2
  have g := g12.trans g3
  refine ite2 (fun c1 => ?_) (fun c1 => ⟨by decide, ⟨by decide, by decide⟩, ?_⟩)
  · rw [Bool.and_eq_true, decide_eq_true_eq, decide_eq_true_eq] at c1
    have et := both c1.1 c1.2
    refine ⟨by decide, fun p4 H4 n4 => ⟨by decide, _, n4.lst, ?_⟩⟩
    obtain ⟨y, hy, my⟩ := atI_mod (i := c) (xs := (["all", "some"] : List Str).map V.str) (n := 2) rfl (by decide)
    obtain ⟨wd, mw, rfl⟩ := List.mem_map.mp my
    have mw' : wd ∈ (["some", "all"] : List Str) := by
      simp only [List.mem_cons, List.not_mem_nil, or_false] at mw ⊢
      exact mw.symm
    refine ⟨_, hy, by decide, fun p5 H5 n5 => ⟨small_line (by simp), fun p6 H6 n6 => ?_⟩⟩
    refine q _ (.qu wd "x" (.bare "same" "x" "x")) H6 (g.trans (n4.g.trans (n5.g.trans n6.g))) (.qu mw' n6.at' (.bare (by decide +kernel) (n6.g _ _ n5.at'))) ⟨mw', by decide +kernel, by decide +kernel, by rw [et]; exact List.not_mem_nil, ?_, ?_⟩ (Nat.le_refl 2) (Nat.le_refl 2) fun h => absurd et h
    · rw [et]; cases tb <;> decide
    · rw [et]
      refine ⟨List.mem_singleton.mpr rfl, List.mem_singleton.mpr rfl, .inr (.inr ⟨?_, by decide +kernel, by decide +kernel⟩)⟩
      cases tb <;> decide +kernel
  have nb : ¬ (pl = [] ∧ sl = []) := fun z => c1 (by rw [Bool.and_eq_true, decide_eq_true_eq, decide_eq_true_eq]; exact z)
  have fin : ∀ (wd n m : Str) (p : Addr) (G H' : Hp), Same H G → New G p (.tup [.str wd, .str n, .str m]) H' → wd ∈ bareWords → okBare tb tl wd n m → Q (.ref p) H' := fun wd n m p G H' gG n' hw ok =>
    q _ (.bare wd n m) H' (gG.trans n'.g) (.bare hw n'.at') ok (Nat.le_succ 1) (Nat.le_succ 1) fun _ => Nat.le_refl 1
  refine cutT_by (fun b H' => Same H3 H' ∧ (b = true → sl ≠ []) ∧ (b = false → pl ≠ [])) ?_ ?_
  · simp only [rEqS, rNeS, tLstN, tTest, tOp, tC, tAnd, tOr, rEq, tNil, rd_v0, rd_vS, V.int.injEq, V.bl.injEq, V.ref.injEq, true_and, exists_eq_left', exists_and_left, rd_ii, reduceCtorEq]
    refine ⟨by decide, fun p4 H4 n4 => ⟨pl, .of (n4.g _ _ e1), [], n4.lst, ite2 (fun c2 => ⟨n4.g, fun _ z => nb ⟨of_decide_eq_true c2, z⟩, fun z => (by cases z)⟩) fun c2 => ite2 (fun c3 => ⟨by decide, fun p5 H5 n5 => ⟨sl, .of (n5.g _ _ (n4.g _ _ e2)), [], n5.lst, n4.g.trans n5.g, fun z => by simpa using z, fun _ z => c2 (decide_eq_true z)⟩⟩) fun c3 => ⟨n4.g, fun z => (by cases z), fun _ z => c2 (decide_eq_true z)⟩⟩⟩
  rintro b2 H4 ⟨g4, t1, t2⟩
  replace e1 := g4 _ _ e1
  replace e2 := g4 _ _ e2
  replace g := g.trans g4
  cases b2 with
  | true =>
    have ns := t1 rfl
    obtain ⟨z1, h1, m1⟩ := atI_names ns (c / 5)
    obtain ⟨z2, h2, m2⟩ := atI_names ns (c / 5 / 5)
    simp only [V.ref.injEq, exists_eq_left', if_true]
    refine ⟨_, .inl (.of e2), len_pos ns, _, .of e2, _, h1, ⟨by decide, by decide⟩, _, .inl (.of e2), len_pos ns, _, .of e2, _, h2, small_line (by simp), fun p5 H5 n5 => fin _ _ _ _ _ _ g n5 (by decide +kernel) ⟨(sIn _ m1).1, (sIn _ m2).1, .inr (.inl ⟨rfl, (sIn _ m1).2, (sIn _ m2).2⟩)⟩⟩
  | false =>
    have np := t2 rfl
    refine iteF ?_
    refine cutT_by (fun b H' => Same H4 H' ∧ (b = true → sl ≠ [])) ?_ ?_
    · simp only [rNeS, tLstN, tTest, tOp, tC, tAnd, rI0, tNil, rd_v0, rd_vS, V.int.injEq, V.bl.injEq, V.ref.injEq, exists_eq_left', exists_and_left, reduceCtorEq]
      refine ite2 (fun c3 => ⟨by decide, fun p5 H5 n5 => ⟨sl, .of (n5.g _ _ e2), [], n5.lst, n5.g, fun z => by simpa using z⟩⟩) fun c3 => ⟨Same.refl _, fun z => (by cases z)⟩
    rintro b3 H5 ⟨g5, t3⟩
    replace e1 := g5 _ _ e1
    replace e2 := g5 _ _ e2
    replace g := g.trans g5
    obtain ⟨z1, h1, m1⟩ := atI_names np (c / 5)
    cases b3 with
    | true =>
      have ns := t3 rfl
      obtain ⟨z2, h2, m2⟩ := atI_names ns (c / 5 / 5)
      simp only [V.ref.injEq, exists_eq_left', if_true]
      refine ⟨_, .inl (.of e1), len_pos np, _, .of e1, _, h1, ⟨by decide, by decide⟩, _, .inl (.of e2), len_pos ns, _, .of e2, _, h2, small_line (by simp), fun p6 H6 n6 => fin _ _ _ _ _ _ g n6 (by decide +kernel) ⟨(pIn _ m1).1, (sIn _ m2).1, .inl ⟨rfl, (pIn _ m1).2, (sIn _ m2).2⟩⟩⟩
    | false =>
      obtain ⟨z2, h2, m2⟩ := atI_names np (c / 5 / 5)
      simp only [V.ref.injEq, exists_eq_left', if_false, reduceCtorEq]
      refine ⟨by decide, fun p6 H6 n6 => ⟨by decide, fun p7 H7 n7 => ⟨small_line (by simp), fun p8 H8 n8 => ⟨_, n8.lst, ?_⟩⟩⟩⟩
      replace e1 := n8.g _ _ (n7.g _ _ (n6.g _ _ e1))
      replace g := g.trans (n6.g.trans (n7.g.trans n8.g))
      have pick : ∃ r, atI [V.ref p6, V.ref p7] (if tb = true then 1 else 0) = some (.ref r) ∧ H8 r = some (.lst ((placeWords tb).map V.str)) := by
        cases tb with
        | true => exact ⟨p7, atI_nat (j := 1) rfl, n8.g _ _ n7.at'⟩
        | false => exact ⟨p6, atI_nat (j := 0) rfl, n8.g _ _ (n7.g _ _ n6.at')⟩
      obtain ⟨r, hr1, er⟩ := pick
      obtain ⟨y, hy, my⟩ := atI_mod (i := c / 5 / 25) (xs := (placeWords tb).map V.str) (n := 4) (by cases tb <;> rfl) (by decide)
      obtain ⟨wd, mw, rfl⟩ := List.mem_map.mp my
      refine ⟨_, hr1, ⟨by decide, by decide⟩, by decide, r, rfl, _, .of er, _, hy, _, .inl (.of e1), len_pos np, _, .of e1, _, h1, ⟨by decide, by decide⟩, _, .inl (.of e1), len_pos np, _, .of e1, _, h2, small_line (by simp), fun p9 H9 n9 => fin _ _ _ _ _ _ g n9 (words_bare tb wd mw) ⟨(pIn _ m1).1, (pIn _ m2).1, .inr (.inr ⟨mw, (pIn _ m1).2, (pIn _ m2).2⟩)⟩⟩
abbrev s_law_saying : Stmt := top 44
theorem sc_law_saying : FnScope ["_law_cells", "_law_known", "_law_deep", "_law_trees", "_law_number", "_law_kind", "_law_rest", "_law_cut", "_law_one", "_law_name_here"] ["_law_cells", "_law_known", "_law_deep", "_law_trees"] (defScope s_law_saying) := ⟨rfl, rfl, rfl, by decide +kernel, rfl, by decide +kernel, by decide +kernel⟩
theorem ok_lsaying {n : Nat} (T : Txt K mg w tw ffm cNoText cSayError cs) (d : Dfn K mg "_law_saying" s_law_saying ["_law_cells", "_law_known", "_law_deep", "_law_trees"]) (C_law_new : Cal P w K mg base 3 "_law_new" ["_law_number", "_law_known"] sp_new) (C_law_bare : Cal P w K mg base 1 "_law_bare" ["_law_number", "_law_known", "_law_trees"] sp_lbare)
    (C_law_saying : Cal P w K mg base (n + 3) "_law_saying" ["_law_cells", "_law_known", "_law_deep", "_law_trees"] (sp_lsaying n)) : Cal P w K mg base (n + 1 + 3) "_law_saying" ["_law_cells", "_law_known", "_law_deep", "_law_trees"] (sp_lsaying (n + 1)) := by
  refine d.cal sc_law_saying (fun vs H Q E h => ?_) (fun f cdv A outer s H vs Q E hr h => ?_)
  · obtain ⟨a, b, cs, tl, dp, tb, rfl, _⟩ := h
    rfl
  obtain ⟨a, b, cs, tl, dp, tb, rfl, hd, ea, hl, hc, eb, nm, hm, d1, d2, q⟩ := h
  refine ⟨_, (pss_cons (ps_set (i := 4) sc_law_saying.nd rfl (Or.inl rfl) pe_int) (pss_cons (ps_set (i := 5) sc_law_saying.nd rfl (Or.inl rfl) pe_int) (pss_cut (ps_if (pt_cmpR op_gt (pe_cB (call_len_seqK K) (by rfl) T.b_len boot_len (pa_c (pv 0) pa_nil)) pe_int (nomark _)) (pss_cons (ps_set (i := 4) sc_law_saying.nd rfl (Or.inl rfl) (pe_op op_fdiv (pe_ix (ix_listK K) (pv 0) pe_int (fun _ _ => rfl)) pe_int)) (pss_one (ps_set (i := 5) sc_law_saying.nd rfl (Or.inl rfl) (pe_op op_mod (pe_ix (ix_listK K) (pv 0) pe_int (fun _ _ => rfl)) pe_int)))) (pss_one (ps_if (pt_cmpR op_eq (pe_cB (call_len_seqK K) (by rfl) T.b_len boot_len (pa_c (pv 0) pa_nil)) pe_int (nomark _)) (pss_one (ps_set (i := 4) sc_law_saying.nd rfl (Or.inl rfl) (pe_ix (ix_listK K) (pv 0) pe_int (fun _ _ => rfl)))) pss_nil))) (pss_cons (ps_set (i := 6) sc_law_saying.nd rfl (Or.inl rfl) (pe_slice (sl_listNK K) (pv 0) (po_some pe_int) po_none)) (pss_cons (ps_if (pt_cut (PW.pt (pw_and (pt_cmpR op_lt (pv 5) pe_int (nomark _)) (pw_and1 (pt_cmpR op_gt (pv 2) pe_int (nomark _)))))) (pss_cons (ps_if (pt_cmpR op_eq (pv 5) pe_int (nomark _)) (pss_one (ps_ret (pe_tupN (pa_c pe_str (pa_c (pe_callC C_law_saying hr (by omega) (by rfl) (pa_c (pv 6) (pa_c (pv 1) (pa_c (pe_op op_sub (pv 2) pe_int) (pa_c (pv 3) pa_nil))))) pa_nil))))) pss_nil) (pss_cons (ps_set (i := 7) sc_law_saying.nd rfl (Or.inl rfl) (pe_op op_add pe_int (pe_op op_mod (pv 4) (pe_cB (call_len_seqK K) (by rfl) T.b_len boot_len (pa_c (pv 6) pa_nil))))) (pss_cons (ps_set (i := 8) sc_law_saying.nd rfl (Or.inl rfl) (pe_callC C_law_saying hr (by omega) (by rfl) (pa_c (pe_slice (sl_listNK K) (pv 6) po_none (po_some (pv 7))) (pa_c (pv 1) (pa_c (pe_op op_sub (pv 2) pe_int) (pa_c (pv 3) pa_nil)))))) (pss_one (ps_ret (pe_tupN (pa_c (pe_ix (ix_listK K) (pe_lstN (pa_c pe_str (pa_c pe_str pa_nil))) (pe_op op_sub (pv 5) pe_int) (fun _ _ => rfl)) (pa_c (pv 8) (pa_c (pe_callC C_law_saying hr (by omega) (by rfl) (pa_c (pe_slice (sl_listNK K) (pv 6) (po_some (pv 7)) po_none) (pa_c (pv 1) (pa_c (pe_op op_sub (pv 2) pe_int) (pa_c (pv 3) pa_nil))))) pa_nil))))))))) pss_nil) (pss_cons (ps_if (pt_cut (PW.pt (pw_and (pt_cmpR op_lt (pv 5) pe_int (nomark _)) (pw_and (pt_cmpR op_gt (pv 2) pe_int (nomark _)) (pw_and1 (pt_cmpR op_lt (pe_cB (call_len_seqK K) (by rfl) T.b_len boot_len (pa_c (pv 1) pa_nil)) (pe_op op_sub pe_int (pe_cTy call_int1 (by rfl) T.b_int boot_int (pa_c (pv 3) pa_nil))) (nomark _))))))) (pss_cons (ps_set (i := 9) sc_law_saying.nd rfl (Or.inl rfl) (pe_callC C_law_new hr (by omega) (by rfl) (pa_c (pe_op op_fdiv (pv 4) pe_int) (pa_c (pv 1) pa_nil)))) (pss_one (ps_ret (pe_tupN (pa_c (pe_ix (ix_listK K) (pe_lstN (pa_c pe_str (pa_c pe_str pa_nil))) (pe_op op_mod (pv 4) pe_int) (fun _ _ => rfl)) (pa_c (pv 9) (pa_c (pe_callC C_law_saying hr (by omega) (by rfl) (pa_c (pv 6) (pa_c (pe_op op_catN (pv 1) (pe_lstN (pa_c (pv 9) pa_nil))) (pa_c (pe_op op_sub (pv 2) pe_int) (pa_c (pv 3) pa_nil))))) pa_nil))))))) pss_nil) (pss_one (ps_ret (pe_callC C_law_bare hr (by omega) (by rfl) (pa_c (pv 4) (pa_c (pv 1) (pa_c (pv 3) pa_nil)))))))))))), ?_⟩
  refine rd_st [some (.ref a), some (.ref b), some (.int dp), some (.bl tb), none, none, none, none, none, none] rfl ?_
  simp only [tSeq, tC, gName, tAsg, List.set_cons_zero, List.set_cons_succ]
  refine cut_by (fun σ H' => H' = H ∧ ∃ nu ki : Int, σ = [some (.ref a), some (.ref b), some (.int dp), some (.bl tb), some (.int nu), some (.int ki), none, none, none, none] ∧ 0 ≤ nu ∧ 0 ≤ ki ∧ (ki < 7 → 2 ≤ cs.length)) ?_ ?_
  · simp only [rLen, tSeq, tIfS, tTest, tOp, tC, tNext, gName, tAsg, rI, rI0, rEq, tNil, tCons, tCB, rIxL, rd_v0, List.set_cons_zero, List.set_cons_succ, V.int.injEq, V.bl.injEq, V.ref.injEq, List.cons.injEq, and_true, true_and, exists_eq_left', exists_and_left, rd_ii, Option.some.injEq, and_assoc]
    have at0 : ∀ c r, cs = c :: r → atI (cs.map V.int) 0 = some (.int c) := fun c r e => by rw [e]; exact atI_0
    refine ⟨_, .inl (.of ea), ite2 (fun h => ?_) fun h => ⟨_, .inl (.of ea), ite2 (fun h2 => ?_) fun _ => ⟨by decide, by decide, fun z => absurd z (by decide)⟩⟩⟩
    · have h' := of_decide_eq_true h
      rw [List.length_map] at h'
      obtain ⟨c, r, ec⟩ := List.exists_cons_of_ne_nil (l := cs) (fun z => by rw [z] at h'; simp only [List.length_nil] at h'; omega)
      have hc0 := hc c (by rw [ec]; exact List.mem_cons_self)
      exact ⟨_, .of ea, _, at0 c r ec, _, rfl, ⟨by decide, by decide⟩, _, .of ea, _, at0 c r ec, _, rfl, by decide, Int.ediv_nonneg hc0 (by decide), Int.emod_nonneg _ (by decide), fun _ => by omega⟩
    · have h' := of_decide_eq_true h2
      rw [List.length_map] at h'
      obtain ⟨c, r, ec⟩ := List.exists_cons_of_ne_nil (l := cs) (fun z => by rw [z] at h'; simp only [List.length_nil] at h'; omega)
      exact ⟨_, .of ea, _, at0 c r ec, _, rfl, hc c (by rw [ec]; exact List.mem_cons_self), by decide, fun z => absurd z (by decide)⟩
  rintro σ H' ⟨rfl, nu, ki, rfl, hnu, hki, hk7⟩
  simp only [rLen, tTupN, tLstN, rSlLN, rCatN, tSeq, tIfS, tTest, tOp, tC, tNext, tRet, gName, tAsg, rI, rI0, rEq, tNil, tCons, tCall, tCB, tNoPart, tPart, tSl, rIxL, rd_v0, rd_vS, List.set_cons_zero, List.set_cons_succ, List.append_nil, V.int.injEq, V.bl.injEq, V.ref.injEq, List.cons.injEq, and_true, true_and, exists_eq_left', exists_and_left, rd_ii]
  refine ⟨_, .of ea, fun p H1 n1 => ?_⟩
  rw [show ((1 : Int)) = ((1 : Nat) : Int) from rfl, cut_ints_from] at n1
  have lr : (cs.drop 1).length = cs.length - 1 := List.length_drop
  have hc' : ∀ c ∈ cs.drop 1, 0 ≤ c := fun c h => hc c (List.mem_of_mem_drop h)
  generalize cs.drop 1 = rs at n1 lr hc'
  have ep := n1.at'
  have eb1 := n1.g _ _ eb
  have g1 := n1.g
  refine cutT_by (fun b G => G = H1 ∧ (b = true → ki < 3 ∧ 2 < dp)) ?_ ?_
  · simp only [tTest, tOp, tC, tAnd, rI0, rd_v0, rd_vS, V.int.injEq, V.bl.injEq, true_and, exists_eq_left', exists_and_left, reduceCtorEq]
    refine ite2 (fun c1 => fun z => ⟨of_decide_eq_true c1, ?_⟩) fun _ => fun z => z.elim
    have := of_decide_eq_true z
    omega
  rintro b1 G ⟨rfl, t1⟩
  cases b1 with
  | true =>
    obtain ⟨k3, dp2⟩ := t1 rfl
    have l2 := hk7 (by omega)
    have ed : ((dp : Int) - 1) = ((dp - 1 : Nat) : Int) := by omega
    rw [ed]
    refine iteT (ite2 (fun c2 => ?_) fun c2 => ?_)
    · refine ⟨p, b, rs, tl, dp - 1, tb, rfl, by omega, ep, by omega, hc', eb1, nm, hm, by omega, .inl (by omega), fun v sy H2 g2 r2 go2 de2 pa2 => ⟨small_line (by simp), fun p3 H3 n3 => ?_⟩⟩
      have dn := depth_neg sy
      exact q _ (.neg sy) H3 (g1.trans (g2.trans n3.g)) (.neg n3.at' (r2.same n3.g)) go2 (by omega) (by omega)
    · have k1 : ¬ ki = 0 := of_decide_eq_false (Bool.eq_false_iff.mpr c2)
      refine ⟨_, .inl (.of ep), by rw [List.length_map]; omega, _, .of ep, fun p2 H2 n2 => ?_⟩
      rw [List.length_map] at n2 ⊢
      have ek : 1 + nu % (rs.length : Int) = (((1 + nu % (rs.length : Int)).toNat : Nat) : Int) := by
        have := Int.emod_nonneg nu (show (rs.length : Int) ≠ 0 by omega)
        omega
      generalize (1 + nu % (rs.length : Int)).toNat = k at ek
      rw [ek] at n2 ⊢
      rw [cut_ints_to] at n2
      have lt : (rs.take k).length + (rs.drop k).length = rs.length := by rw [List.length_take, List.length_drop]; omega
      refine ⟨p2, b, rs.take k, tl, dp - 1, tb, rfl, by omega, n2.at', by omega, fun c h => hc' c (List.mem_of_mem_take h), n2.g _ _ eb1, nm, hm, by omega, .inl (by omega), fun v sy H3 g3 r3 go3 de3 pa3 => ⟨by decide, fun p4 H4 n4 => ⟨_, n4.lst, ?_⟩⟩⟩
      have pick : ∃ wd, atI [V.str "and", V.str "or"] (ki - 1) = some (.str wd) ∧ wd ∈ (["and", "or"] : List Str) := by
        have : ki = 1 ∨ ki = 2 := by omega
        rcases this with rfl | rfl
        · exact ⟨"and", atI_nat (j := 0) rfl, by decide +kernel⟩
        · exact ⟨"or", atI_nat (j := 1) rfl, by decide +kernel⟩
      obtain ⟨wd, hwd, mw⟩ := pick
      have g4 : Same G H4 := n2.g.trans (g3.trans n4.g)
      refine ⟨_, hwd, _, .of (g4 _ _ ep), fun p5 H5 n5 => ?_⟩
      rw [cut_ints_from] at n5
      refine ⟨p5, b, rs.drop k, tl, dp - 1, tb, rfl, by omega, n5.at', by omega, fun c h => hc' c (List.mem_of_mem_drop h), n5.g _ _ (g4 _ _ eb1), nm, hm, by omega, .inl (by omega), fun v2 sy2 H6 g6 r6 go6 de6 pa6 => ⟨small_line (by simp), fun p7 H7 n7 => ?_⟩⟩
      have dn := depth_two wd sy sy2
      have g36 : Same H3 H7 := n4.g.trans (n5.g.trans (g6.trans n7.g))
      exact q _ (.two wd sy sy2) H7 (g1.trans (g4.trans (n5.g.trans (g6.trans n7.g)))) (.two mw n7.at' (r3.same g36) (r6.same n7.g)) ⟨mw, go3, go6⟩ (by omega) (by omega)
  | false =>
    refine iteF ?_
    refine cutT_by (fun b G' => G' = G ∧ (b = true → ki < 7 ∧ 1 < dp ∧ tl.length < mxOf tb)) ?_ ?_
    · simp only [rLen, tTest, tOp, tC, tAnd, rI0, tNil, tCons, tCB, rd_v0, rd_vS, V.int.injEq, V.bl.injEq, V.ref.injEq, List.cons.injEq, and_true, true_and, exists_eq_left', exists_and_left, exists_const, reduceCtorEq, false_and, false_or]
      refine ite2 (fun c1 => ite2 (fun c2 => ⟨_, .inl (.of eb1), fun z => ?_⟩) fun _ => fun z => z.elim) fun _ => fun z => z.elim
      have z' := of_decide_eq_true z
      have c1' := of_decide_eq_true c1
      have c2' := of_decide_eq_true c2
      rw [List.length_map] at z'
      refine ⟨c1', by omega, ?_⟩
      cases tb <;> simp [mxOf] at z' ⊢ <;> omega
    rintro b2 G' ⟨rfl, t2⟩
    cases b2 with
    | true =>
      obtain ⟨k7, dp1, lt⟩ := t2 rfl
      have l2 := hk7 k7
      have ed : ((dp : Int) - 1) = ((dp - 1 : Nat) : Int) := by omega
      rw [ed]
      have m4 : mxOf tb ≤ 4 := by cases tb <;> decide
      refine iteT ⟨⟨by decide, by decide⟩, _, b, tl, rfl, Int.ediv_nonneg hnu (by decide), eb1, by omega, fun z H2 g2 hz1 hz2 hz3 => ⟨by decide, fun p3 H3 n3 => ⟨by decide, _, n3.lst, ?_⟩⟩⟩
      obtain ⟨y, hy, my⟩ := atI_mod (i := nu) (xs := (["some", "all"] : List Str).map V.str) (n := 2) rfl (by decide)
      obtain ⟨wd, mw, rfl⟩ := List.mem_map.mp my
      have g3 : Same G' H3 := g2.trans n3.g
      refine ⟨_, hy, small_line (by simp), fun p4 H4 n4 => ⟨_, n4.g _ _ (g3 _ _ eb1), _, n4.at', small_line (by rw [List.length_map, List.length_singleton]; omega), fun p5 H5 n5 => ?_⟩⟩
      have g5 : Same G' H5 := g3.trans (n4.g.trans n5.g)
      refine ⟨p, p5, rs, tl ++ [z], dp - 1, tb, rfl, by omega, g5 _ _ ep, by omega, hc', by rw [n5.at', List.map_append]; rfl, nm.snoc hz1 hz2 hz3, by rw [List.length_append, List.length_singleton]; omega, by omega, .inr (by simp), fun v sy H6 g6 r6 go6 de6 pa6 => ⟨small_line (by simp), fun p7 H7 n7 => ?_⟩⟩
      have dn := depth_qu wd z sy
      exact q _ (.qu wd z sy) H7 (g1.trans (g5.trans (g6.trans n7.g))) (.qu mw n7.at' (r6.same n7.g)) ⟨mw, hz1, hz2, hz3, lt, go6⟩ (by omega) (by omega)
    | false =>
      have m4 : mxOf tb ≤ 4 := by cases tb <;> decide
      refine iteF ⟨nu, b, tl, tb, rfl, hnu, eb1, by omega, nm, fun v sy H2 g2 r2 go2 pa2 de2 de1 => q v sy H2 (g1.trans g2) r2 go2 ?_ (by omega)⟩
      rcases d2 with d2 | d2
      · omega
      · exact Nat.le_trans (de1 d2) d1
theorem all_lsaying (T : Txt K mg w tw ffm cNoText cSayError cs) (d : Dfn K mg "_law_saying" s_law_saying ["_law_cells", "_law_known", "_law_deep", "_law_trees"]) (C1 : Cal P w K mg base 3 "_law_new" ["_law_number", "_law_known"] sp_new) (C2 : Cal P w K mg base 1 "_law_bare" ["_law_number", "_law_known", "_law_trees"] sp_lbare) :
    ∀ n, Cal P w K mg base (n + 3) "_law_saying" ["_law_cells", "_law_known", "_law_deep", "_law_trees"] (sp_lsaying n)
  | 0 => (d.never fun vs H Q E h => by obtain ⟨a, b, cs, tl, dp, tb, _, hd, _⟩ := h; exact absurd hd (Nat.not_lt_zero _)).mono (by decide)
  | n + 1 => ok_lsaying T d C1 C2 (all_lsaying T d C1 C2 n)
end
end K08
set_option Elab.async false
set_option linter.all false
set_option maxRecDepth 100000
set_option maxHeartbeats 4000000
set_option pp.deepTerms true
set_option pp.maxSteps 100000
namespace K08
open PySem PySem.Spec PyProof.Rows L2 SS
seal PE PT PW PA PS PSs
section
variable {P : Program} {w : World} {K : PySem.W.Frag} {mg : Str → Option Value} {base : Heap} {tw ffm cNoText cSayError : Addr} {cs : List Addr}
abbrev s_words_between_blanks : Stmt := top 31
theorem sc_words_between_blanks : FnScope ["text"] ["text"] (defScope s_words_between_blanks) := ⟨rfl, rfl, rfl, by decide +kernel, rfl, by decide +kernel, by decide +kernel⟩
theorem ok_between (T : Txt K mg w tw ffm cNoText cSayError cs) (d : Dfn K mg "words_between_blanks" s_words_between_blanks ["text"]) : Cal P w K mg base 1 "words_between_blanks" ["text"] sp_between := by
  refine d.cal sc_words_between_blanks (fun vs H Q E h => ?_) (fun f cdv A outer s H vs Q E hr h => ?_)
  · obtain ⟨z, rfl, _⟩ := h
    rfl
  obtain ⟨z, rfl, hz, q⟩ := h
  refine ⟨_, (pss_one (ps_ret (pe_lcomp ["word"] [] (CompOk.of rfl (by rfl) (by rfl)) (by rfl) (pi_listK K (pe_bmK K PySem.F.plainAttrs_str PySem.F.slot_str_split PySem.F.type_str_split mt_split (pv 0) (pa_c pe_str pa_nil))) (fun _ _ _ _ _ => (pg_name (i := 0) (show List.Nodup (["word"] : List Str) by decide +kernel) (by rfl) (Or.inl (by rfl)))) (fun _ _ _ _ _ => (pf_one (pt_cmpR op_ne (pv 0) pe_str (nomark _)))) (fun _ _ _ _ _ => (pv 0))))), ?_⟩
  refine rd_st [some (.str z)] rfl ?_
  simp only [rSplit, tC, tRet, tNil, tCons, tBM, tyV, iList, rd_v0, rd_comp, V.str.injEq, V.ref.injEq, List.cons.injEq, and_true, true_and, exists_eq_left', exists_and_left]
  have hc := cut_len 32 (ch z)
  have hs := SS.split_len z 32
  rw [← lit1.2.2] at hs
  rw [← str_size] at hc
  have hl : (Txt.split z " ").length ≤ 100000 := by omega
  refine ⟨by decide +kernel, by rw [sizeLine_eq]; omega, hl, fun p H1 n1 => ⟨⟨_, n1.lst⟩, ?_⟩⟩
  refine cf_listB (K := K) (a := p) (xs := (Txt.split z " ").map V.str) (fun σ => ∃ v, σ = [v]) (fun y => decide (y ≠ V.str "")) id (by rw [List.length_map]; exact hl) n1.lst ⟨_, rfl⟩ ?_ ?_
  · rintro D i σ H' x hi hm hx g hD hD' ⟨v, rfl⟩
    obtain ⟨y, my, rfl⟩ := List.mem_map.mp hm
    simp only [tTest, tOp, tC, gName, rNe, rd_v0, List.set_cons_zero, V.str.injEq, V.bl.injEq, true_and, exists_eq_left', rd_ss]
    by_cases c : y = ""
    · rw [decide_eq_true c]
      exact iteF (cf_skip hx (by rw [c]; exact decide_eq_false fun h => h rfl) hD' g ⟨_, rfl⟩)
    · rw [decide_eq_false c]
      exact iteT (cf_stepB (by rw [List.length_map]; exact hl) hx (decide_eq_true fun h => c (V.str.inj h)) hD hD' g ⟨_, rfl⟩ rfl)
  intro D H2 hD g eD
  refine q D H2 (n1.g.free hD) (n1.g.trans g) ?_
  rw [eD, List.map_id, List.filter_map]
  refine congrArg (fun l => some (HO.lst (List.map V.str l))) (List.filter_congr fun y _ => ?_)
  show decide (V.str y ≠ V.str "") = decide (y ≠ "")
  exact decide_eq_decide.mpr ⟨fun h e => h (by rw [e]), fun h e => h (V.str.inj e)⟩
abbrev s_words_of : Stmt := top 32
theorem sc_words_of : FnScope ["text"] ["text"] (defScope s_words_of) := ⟨rfl, rfl, rfl, by decide +kernel, rfl, by decide +kernel, by decide +kernel⟩
theorem ok_words (T : Txt K mg w tw ffm cNoText cSayError cs) (d : Dfn K mg "words_of" s_words_of ["text"]) (C_words_between_blanks : Cal P w K mg base 1 "words_between_blanks" ["text"] sp_between) : CalT P w K mg base 2 "words_of" ["text"] sp_words := by
  refine d.calT sc_words_of (fun vs H Q E h => ?_) (fun f cdv A outer s H vs Q E hr h => ?_)
  · obtain ⟨z, rfl, _⟩ := h
    rfl
  obtain ⟨z, rfl, hz, q⟩ := h
  refine ⟨_, (psT_one (psT_ret (peT_callC C_words_between_blanks hr (by omega) (by rfl) (paT_c (peT_replace (peT_replace (PE.t (pv 0)))) (PA.t pa_nil))))), ?_⟩
  refine rd_st [some (.str z)] rfl ?_
  simp only [tReplace, tRet, tNil, tCons, tCall, rd_v0, List.append_nil, V.str.injEq, exists_eq_left']
  have e3 : (" ( " : Str).length = 3 := by decide +kernel
  have e3' : (" ) " : Str).length = 3 := by decide +kernel
  have l1 : (Txt.replace z "(" " ( ").length ≤ 3 * z.length := by
    rw [str_size, str_size z, lit1.1, replace_each]
    exact each_len (by rw [ch_lit1.2.1]; decide) _
  have l2 : (Txt.replace (Txt.replace z "(" " ( ") ")" " ) ").length ≤ 3 * z.length := by
    rw [str_size, pad_str, str_size z]
    exact padL_len _
  refine ⟨by decide +kernel, by rw [e3]; omega, by decide +kernel, by rw [e3']; omega, _, rfl, by omega, fun D H1 hD g1 e1 => q D H1 hD g1 e1⟩
abbrev s_take_word : Stmt := top 33
theorem sc_take_word : FnScope ["left"] ["left"] (defScope s_take_word) := ⟨rfl, rfl, rfl, by decide +kernel, rfl, by decide +kernel, by decide +kernel⟩
theorem ok_takeword (T : Txt K mg w tw ffm cNoText cSayError cs) (d : Dfn K mg "take_word" s_take_word ["left"]) : Cal P w K mg base 1 "take_word" ["left"] sp_takeword := by
  refine d.cal sc_take_word (fun vs H Q E h => ?_) (fun f cdv A outer s H vs Q E hr h => ?_)
  · obtain ⟨l, rfl, _⟩ := h
    rfl
  obtain ⟨l, rfl, q⟩ := h
  refine ⟨_, (pss_one (ps_ret (pe_ifExp (pt_truth (pv 0) (fun _ => rfl)) (pe_bm0K K PySem.F.plainAttrs_list PySem.F.slot_list_pop PySem.F.type_list_pop mt_pop (pv 0)) pe_str))), ?_⟩
  refine rd_st [some (.ref l)] rfl ?_
  simp only [rPop, cxK, tC, tIf, tRet, tBM0, tyV, rd_v0, V.ref.injEq, true_and, exists_eq_left', exists_and_left]
  rcases q with ⟨hl, q⟩ | ⟨y, ws, hl, q⟩
  · exact ⟨false, .inl ⟨_, .of hl, rfl⟩, iteF q⟩
  · rw [revW_cons] at hl
    refine ⟨true, .inl ⟨_, .of hl, by cases revW ws <;> rfl⟩, iteT ⟨.inl ⟨_, .of hl⟩, _, hl, .str y, ?_, q _ (SameX.upd l H _) ?_⟩⟩
    · rw [List.length_append, List.length_singleton, Nat.add_sub_cancel, List.getElem?_append_right (Nat.le_refl _), Nat.sub_self]; rfl
    · rw [upd_same, List.dropLast_concat]
abbrev s_take_saying : Stmt := top 34
theorem sc_take_saying : FnScope ["left", "deepest", "first", "name", "word"] ["left", "deepest"] (defScope s_take_saying) := ⟨rfl, rfl, rfl, by decide +kernel, rfl, by decide +kernel, by decide +kernel⟩
theorem ok_takeE {n k : Nat} (hk : 1 ≤ k) (T : Txt K mg w tw ffm cNoText cSayError cs) (d : Dfn K mg "take_saying" s_take_saying ["left", "deepest"]) (C_take_word : Cal P w K mg base 1 "take_word" ["left"] sp_takeword) (C_take_saying : CalE P w K mg base k "take_saying" ["left", "deepest"] (sp_takeE cNoText n)) (C_take_pair : CalE P w K mg base (k + 1) "take_pair" ["left", "deepest"] (sp_takepairE cNoText n)) : CalE P w K mg base (k + 2) "take_saying" ["left", "deepest"] (sp_takeE cNoText (n + 1)) := by
  refine d.calE sc_take_saying (fun vs H Q E h => ?_) (fun f cdv A outer s H vs Q E hr h R => ?_)
  · obtain ⟨l, ws, dp, rfl, _⟩ := h
    rfl
  obtain ⟨l, ws, dp, rfl, hdn, hl, sh, q, qx⟩ := h
  refine ⟨_, (pss_cons (ps_if (pt_cmpR op_eq (pv 1) pe_int (nomark _)) (pss_one (ps_raiseK R rfl (by rfl) T.m_NoText T.x_NoText F.excBase_ValueError (pa_c pe_str pa_nil))) pss_nil) (pss_cons (ps_set (i := 2) sc_take_saying.nd rfl (Or.inl rfl) (pe_callC C_take_word hr (by omega) (by rfl) (pa_c (pv 0) pa_nil))) (pss_cons (ps_if (pt_cmpR op_eq (pv 2) pe_str (nomark _)) (pss_one (ps_ret (pe_tupN (pa_c pe_str (pa_c (pe_callE R C_take_saying hr (by omega) (by rfl) (pa_c (pv 0) (pa_c (pe_op op_sub (pv 1) pe_int) pa_nil))) pa_nil))))) pss_nil) (pss_cons (ps_if (pt_cmpR (op_in_seqK K) (pv 2) (pe_gl (by rfl) T.g_TELLING_WORDS) (by with_unfolding_all rfl)) (pss_cons (ps_set (i := 3) sc_take_saying.nd rfl (Or.inl rfl) (pe_callC C_take_word hr (by omega) (by rfl) (pa_c (pv 0) pa_nil))) (pss_one (ps_ret (pe_tupN (pa_c (pv 2) (pa_c (pv 3) (pa_c (pe_callE R C_take_saying hr (by omega) (by rfl) (pa_c (pv 0) (pa_c (pe_op op_sub (pv 1) pe_int) pa_nil))) pa_nil))))))) pss_nil) (pss_cons (ps_if (pt_cmpR op_eq (pv 2) pe_str (nomark _)) (pss_one (ps_ret (pe_callE R C_take_pair hr (by omega) (by rfl) (pa_c (pv 0) (pa_c (pe_op op_sub (pv 1) pe_int) pa_nil))))) pss_nil) (pss_cons (ps_set (i := 4) sc_take_saying.nd rfl (Or.inl rfl) (pe_callC C_take_word hr (by omega) (by rfl) (pa_c (pv 0) pa_nil))) (pss_one (ps_ret (pe_tupN (pa_c (pv 4) (pa_c (pv 2) (pa_c (pe_callC C_take_word hr (by omega) (by rfl) (pa_c (pv 0) pa_nil)) pa_nil)))))))))))), ?_⟩
  refine rd_st [some (.ref l), some (.int dp), none, none, none] rfl ?_
  simp only [tRaise, tTupN, tSeq, tIfS, tTest, tOp, tC, tNext, tRet, gName, tAsg, rI0, rEq, tNil, tCons, tCall, rIn, rd_v0, rd_vS, List.set_cons_zero, List.set_cons_succ, List.append_nil, V.int.injEq, V.bl.injEq, V.ref.injEq, true_and, exists_eq_left', exists_and_left, if_false, rd_ii, reduceCtorEq]
  cases dp with
  | zero =>
    rw [decide_eq_true (show (((0 : Nat) : Int) = 0) from rfl)]
    exact iteT ⟨small_line (by simp), fun a0 n0 => qx rfl a0 H (SameX.refl _ _) n0⟩
  | succ e =>
    rw [decide_eq_false (show ¬ (((e + 1 : Nat) : Int) = 0) by omega), show (((e + 1 : Nat) : Int) - 1) = (e : Int) by omega]
    refine iteF (takeword_of hl fun H1 x1 e1 => ⟨rfl, ?_⟩)
    by_cases c1 : ws.headD "" = "not"
    · have pa : parse (e + 1) ws = (parse e ws.tail).map fun p => (.neg p.1, p.2) := by rw [parse, if_pos c1]
      rw [decide_eq_true (congrArg V.str c1)]
      exact iteT ⟨l, ws.tail, e, rfl, by omega, e1, short_tail sh, fun s rest hp v H2 x2 e2 sr r2 => ⟨small_line (by simp), fun p H3 n3 => q (.neg s) rest (by rw [pa, hp]; rfl) _ H3 (x1.trans (x2.trans (.of n3.g))) (n3.g _ _ e2) sr (.neg n3.at' (r2.same n3.g))⟩, fun hp a H2 x2 ha => qx (by rw [pa, hp]; rfl) a H2 (x1.trans x2) ha⟩
    rw [decide_eq_false fun z => c1 (V.str.inj z)]
    refine iteF ⟨_, .inr (T.t_TELLING_WORDS _), rfl, rfl, ?_⟩
    by_cases c2 : ws.headD "" ∈ (["some", "all"] : List Str)
    · have pa : parse (e + 1) ws = (parse e ws.tail.tail).map fun p => (.qu (ws.headD "") (ws.tail.headD "") p.1, p.2) := by rw [parse, if_neg c1, if_pos c2]
      rw [show inV (V.str (ws.headD "")) [.str "some", .str "all"] = true from (inV_strs _ ["some", "all"]).trans (decide_eq_true c2)]
      exact iteT (takeword_of e1 fun H2 x2 e2 => ⟨l, ws.tail.tail, e, rfl, by omega, e2, short_tail (short_tail sh), fun s rest hp v H3 x3 e3 sr r3 => ⟨small_line (by simp), fun p H4 n4 => q (.qu _ _ s) rest (by rw [pa, hp]; rfl) _ H4 (x1.trans (x2.trans (x3.trans (.of n4.g)))) (n4.g _ _ e3) sr (.qu (short_head sh) (short_head (short_tail sh)) n4.at' (r3.same n4.g))⟩, fun hp a H3 x3 ha => qx (by rw [pa, hp]; rfl) a H3 (x1.trans (x2.trans x3)) ha⟩)
    rw [show inV (V.str (ws.headD "")) [.str "some", .str "all"] = false from (inV_strs _ ["some", "all"]).trans (decide_eq_false c2)]
    refine iteF ⟨rfl, ?_⟩
    by_cases c3 : ws.headD "" = "("
    · have pa : parse (e + 1) ws = pairOf e ws.tail := by rw [parse, if_neg c1, if_neg c2, if_pos c3]; rfl
      rw [decide_eq_true (congrArg V.str c3)]
      exact iteT ⟨l, ws.tail, e, rfl, by omega, e1, short_tail sh, fun s rest hp v H2 x2 e2 sr r2 => q s rest (by rw [pa, hp]) v H2 (x1.trans x2) e2 sr r2, fun hp a H2 x2 ha => qx (by rw [pa, hp]) a H2 (x1.trans x2) ha⟩
    have pa : parse (e + 1) ws = some (.bare (ws.tail.headD "") (ws.headD "") (ws.tail.tail.headD ""), ws.tail.tail.tail) := by rw [parse, if_neg c1, if_neg c2, if_neg c3]
    rw [decide_eq_false fun z => c3 (V.str.inj z)]
    exact iteF (takeword_of e1 fun H2 x2 e2 => takeword_of e2 fun H3 x3 e3 => ⟨small_line (by simp), fun p H4 n4 => q _ _ pa _ H4 (x1.trans (x2.trans (x3.trans (.of n4.g)))) (n4.g _ _ e3) (short_tail (short_tail (short_tail sh))) (.bare (short_head (short_tail sh)) (short_head sh) (short_head (short_tail (short_tail sh))) n4.at')⟩)
abbrev s_take_pair : Stmt := top 35
theorem sc_take_pair : FnScope ["left", "deepest", "one", "word", "other"] ["left", "deepest"] (defScope s_take_pair) := ⟨rfl, rfl, rfl, by decide +kernel, rfl, by decide +kernel, by decide +kernel⟩
theorem ok_takepairE {n k : Nat} (hk : 1 ≤ k) (T : Txt K mg w tw ffm cNoText cSayError cs) (d : Dfn K mg "take_pair" s_take_pair ["left", "deepest"]) (C_take_word : Cal P w K mg base 1 "take_word" ["left"] sp_takeword) (C_take_saying : CalE P w K mg base k "take_saying" ["left", "deepest"] (sp_takeE cNoText n)) : CalE P w K mg base (k + 1) "take_pair" ["left", "deepest"] (sp_takepairE cNoText n) := by
  refine d.calE sc_take_pair (fun vs H Q E h => ?_) (fun f cdv A outer s H vs Q E hr h R => ?_)
  · obtain ⟨l, ws, dp, rfl, _⟩ := h
    rfl
  obtain ⟨l, ws, dp, rfl, hdn, hl, sh, q, qx⟩ := h
  refine ⟨_, (pss_cons (ps_set (i := 2) sc_take_pair.nd rfl (Or.inl rfl) (pe_callE R C_take_saying hr (by omega) (by rfl) (pa_c (pv 0) (pa_c (pv 1) pa_nil)))) (pss_cons (ps_set (i := 3) sc_take_pair.nd rfl (Or.inl rfl) (pe_callC C_take_word hr (by omega) (by rfl) (pa_c (pv 0) pa_nil))) (pss_cons (ps_set (i := 4) sc_take_pair.nd rfl (Or.inl rfl) (pe_callE R C_take_saying hr (by omega) (by rfl) (pa_c (pv 0) (pa_c (pv 1) pa_nil)))) (pss_cons (ps_if (pt_cmpR op_ne (pe_callC C_take_word hr (by omega) (by rfl) (pa_c (pv 0) pa_nil)) pe_str (nomark _)) (pss_one (ps_raiseK R rfl (by rfl) T.m_NoText T.x_NoText F.excBase_ValueError (pa_c pe_str pa_nil))) pss_nil) (pss_one (ps_ret (pe_tupN (pa_c (pv 3) (pa_c (pv 2) (pa_c (pv 4) pa_nil)))))))))), ?_⟩
  refine rd_st [some (.ref l), some (.int dp), none, none, none] rfl ?_
  simp only [tRaise, tTupN, tSeq, tIfS, tTest, tOp, tC, tNext, tRet, gName, tAsg, rNe, tNil, tCons, tCall, rd_v0, rd_vS, List.set_cons_zero, List.set_cons_succ, List.append_nil, V.bl.injEq, exists_eq_left']
  refine ⟨l, ws, dp, rfl, hdn, hl, sh, fun s rest hp v H1 x1 e1 sr r1 => takeword_of e1 fun H2 x2 e2 => ⟨l, rest.tail, dp, rfl, hdn, e2, short_tail sr, fun t rest2 hp2 v3 H3 x3 e3 sr3 r3 => takeword_of e3 fun H4 x4 e4 => ⟨rfl, ?_⟩, fun hp2 a H3 x3 ha => qx (by unfold pairOf; rw [hp]; show (parse dp rest.tail).bind _ = none; rw [hp2]; rfl) a H3 (x1.trans (x2.trans x3)) ha⟩, fun hp a H1 x1 ha => qx (by unfold pairOf; rw [hp]; rfl) a H1 x1 ha⟩
  have pa : pairOf dp ws = if rest2.headD "" = ")" then some (.two (rest.headD "") s t, rest2.tail) else none := by
    unfold pairOf
    rw [hp]
    show (parse dp rest.tail).bind _ = _
    rw [hp2]
    rfl
  by_cases c : rest2.headD "" = ")"
  · rw [if_pos c] at pa
    rw [decide_eq_true (congrArg V.str c)]
    exact iteF ⟨small_line (by simp), fun p H5 n5 => q _ _ pa _ H5 (x1.trans (x2.trans (x3.trans (x4.trans (.of n5.g))))) (n5.g _ _ e4) (short_tail sr3) (.two (short_head sr) n5.at' ((((r1.sameX e1 x2).sameX e2 x3).sameX e3 x4).same n5.g) ((r3.sameX e3 x4).same n5.g))⟩
  · rw [if_neg c] at pa
    rw [decide_eq_false fun z => c (V.str.inj z)]
    exact iteT ⟨small_line (by simp), fun a0 n0 => qx pa a0 H4 (x1.trans (x2.trans (x3.trans x4))) n0⟩
theorem all_takeE (T : Txt K mg w tw ffm cNoText cSayError cs) (d1 : Dfn K mg "take_saying" s_take_saying ["left", "deepest"]) (d2 : Dfn K mg "take_pair" s_take_pair ["left", "deepest"]) (C : Cal P w K mg base 1 "take_word" ["left"] sp_takeword) : ∀ n, CalE P w K mg base (2 * n + 1) "take_saying" ["left", "deepest"] (sp_takeE cNoText n)
  | 0 => (d1.neverE fun vs H Q E h => by obtain ⟨l, ws, d, _, hd, _⟩ := h; exact absurd hd (Nat.not_lt_zero _)).mono (by decide)
  | n + 1 => by
    have ih := all_takeE T d1 d2 C n
    exact ok_takeE (by omega) T d1 C ih (ok_takepairE (by omega) T d2 C ih)
abbrev s_read : Stmt := top 36
theorem sc_read : FnScope ["text", "left", "saying"] ["text"] (defScope s_read) := ⟨rfl, rfl, rfl, by decide +kernel, rfl, by decide +kernel, by decide +kernel⟩
theorem ok_readE (T : Txt K mg w tw ffm cNoText cSayError cs) (d : Dfn K mg "read" s_read ["text"]) (C_words_of : CalT P w K mg base 2 "words_of" ["text"] sp_words) (C_take_saying : CalE P w K mg base 27 "take_saying" ["left", "deepest"] (sp_takeE cNoText 13)) (C_is_any_saying : Cal P w K mg base 29 "is_any_saying" ["thing"] sp_anysay) : CalET P w K mg base 30 "read" ["text"] (sp_readE cNoText) := by
  refine d.calET sc_read (fun vs H Q E h => ?_) (fun f cdv A outer s H vs Q E hr h R => ?_)
  · obtain ⟨v, rfl, _⟩ := h
    rfl
  obtain ⟨v, rfl, h⟩ := h
  refine ⟨_, (psT_cons (PS.t (ps_if (pt_not (pt_val (pe_cB call_isk (by rfl) T.b_isinstance boot_isinstance (pa_c (pv 0) (pa_c (pe_bltn (v := .ty "str") (by rfl) T.b_str boot_str (by rfl)) pa_nil))))) (pss_one (ps_raiseK R rfl (by rfl) T.m_NoText T.x_NoText F.excBase_ValueError (pa_c pe_str pa_nil))) pss_nil)) (psT_cons (psT_set (i := 1) sc_read.nd rfl (Or.inl rfl) (peT_list_revK K rfl (by rfl) T.b_list (by rfl) T.b_reversed (paT_c (peT_callT C_words_of hr (by omega) (by rfl) (PA.t (pa_c (pv 0) pa_nil))) (PA.t pa_nil)))) (PSs.t (pss_cons (ps_set (i := 2) sc_read.nd rfl (Or.inl rfl) (pe_callE R C_take_saying hr (by omega) (by rfl) (pa_c (pv 1) (pa_c (pe_gl (by rfl) T.g_DEEPEST) pa_nil)))) (pss_cons (ps_if (PW.pt (pw_or (pt_truth (pv 1) (fun _ => rfl)) (pw_or1 (pt_not (pt_val (pe_callC C_is_any_saying hr (by omega) (by rfl) (pa_c (pv 2) pa_nil))))))) (pss_one (ps_raiseK R rfl (by rfl) T.m_NoText T.x_NoText F.excBase_ValueError (pa_c pe_str pa_nil))) pss_nil) (pss_one (ps_ret (pv 2)))))))), ?_⟩
  refine rd_st [some v, none, none] rfl ?_
  simp only [tListRev, tRaise, cxK, tSeq, tIfS, tB, tC, tOr, tNot, tNext, tRet, gName, tAsg, tNil, tCons, tCall, tCB, rd_v0, rd_vS, List.set_cons_zero, List.set_cons_succ, List.append_nil, V.bl.injEq, V.ty.injEq, List.cons.injEq, and_true, exists_eq_left', exists_and_left, if_true, and_assoc]
  rcases h with ⟨z, rfl, hz, sh, q, qx⟩ | ⟨k, kd, hk, qx⟩
  · have hwl : (wordsT z).length ≤ 100000 := by
      have h1 := cut_len 32 (padL (ch z))
      have h2 := padL_len (ch z)
      have h3 : (wordsT z).length = (wordsL (padL (ch z))).length := by rw [← wordsT_ch, List.length_map]
      have h4 : (wordsL (padL (ch z))).length ≤ (cutAt 32 (padL (ch z))).length := List.length_filter_le _ _
      rw [str_size] at hz
      omega
    refine ⟨_, .str z, by decide, iteF ⟨z, rfl, hz, fun D H1 hD g1 e1 => ⟨D, rfl, _, .of e1, by rw [List.length_map]; exact hwl, fun L H2 n2 => ?_⟩⟩⟩
    have e2 : H2 L = some (.lst (revW (wordsT z))) := by rw [n2.at']; unfold revW; rw [List.map_reverse]
    refine ⟨L, wordsT z, 12, rfl, by decide, e2, sh, fun s rest hp v H3 x3 e3 sr r3 => ?_, fun hp a H3 x3 ha => qx (readW_deep hp) a H3 (g1.trans (x3.same n2.g n2.nil)) ha⟩
    cases rest with
    | cons y r =>
      refine ⟨true, .inl ⟨_, .of e3, by rw [revW_cons]; cases revW r <;> rfl⟩, iteT ⟨small_line (by simp), fun a0 n0 => qx ?_ a0 H3 (g1.trans (x3.same n2.g n2.nil)) n0⟩⟩
      unfold readW
      rw [hp]
    | nil =>
      refine ⟨false, .inl ⟨_, .of e3, rfl⟩, iteF ⟨v, rfl, r3.exp 12, fun b H4 g4 hb => ⟨_, rfl, ?_⟩⟩⟩
      have rw1 : readW (wordsT z) = if goodB s = true then some s else none := by unfold readW; rw [hp]
      have g04 := g1.trans ((x3.same n2.g n2.nil).trans g4)
      by_cases c : goodB s = true
      · rw [if_pos c] at rw1
        obtain ⟨h1, h2, h3, h4⟩ := goodB_iff.mp c
        have eb : b = true := hb.mpr ⟨s, r3.rep h1, h2, h3, h4⟩
        subst eb
        exact iteF (q s rw1 v H4 g04 ((r3.rep h1).same g4))
      · rw [if_neg c] at rw1
        have eb : b = false := Bool.eq_false_iff.mpr fun z => by
          obtain ⟨s', r', h2, h3, h4⟩ := hb.mp z
          have := r3.det r'
          subst this
          exact c (goodB_iff.mpr ⟨r'.wd, h2, h3, h4⟩)
        subst eb
        exact iteT ⟨small_line (by simp), fun a0 n0 => qx rw1 a0 H4 g04 n0⟩
  · exact ⟨k, kd, by decide, by rw [hk]; exact iteT ⟨small_line (by simp), fun a0 n0 => qx a0 H (Same.refl H) n0⟩⟩
end
end K08
set_option Elab.async false
set_option linter.all false
set_option maxRecDepth 100000
set_option maxHeartbeats 4000000
set_option pp.deepTerms true
set_option pp.maxSteps 100000
namespace K08
open PySem PySem.Spec PyProof.Rows L2 SS
seal PE PT PW PA PS PSs
section
variable {P : Program} {w : World} {K : PySem.W.Frag} {mg : Str → Option Value} {base : Heap} {tw ffm cNoText cSayError : Addr} {cs : List Addr}
abbrev s_law_words : Stmt := top 45
theorem sc_law_words : FnScope ["_law_saying_here"] ["_law_saying_here"] (defScope s_law_words) := ⟨rfl, rfl, rfl, by decide +kernel, rfl, by decide +kernel, by decide +kernel⟩
theorem ok_lwords {n : Nat} (T : Txt K mg w tw ffm cNoText cSayError cs) (d : Dfn K mg "_law_words" s_law_words ["_law_saying_here"]) (C_law_words : Cal P w K mg base n "_law_words" ["_law_saying_here"] (sp_lwords n)) : Cal P w K mg base (n + 1) "_law_words" ["_law_saying_here"] (sp_lwords (n + 1)) := by
  refine d.cal sc_law_words (fun vs H Q E h => ?_) (fun f cdv A outer s H vs Q E hr h => ?_)
  · obtain ⟨v, s, rfl, _⟩ := h
    rfl
  obtain ⟨v, sy, rfl, r, hd, hp, q⟩ := h
  refine ⟨_, (pss_cons (ps_if (pt_cmpR op_eq (pe_ix (ix_tupK K) (pv 0) pe_int (fun _ _ => rfl)) pe_str (nomark _)) (pss_one (ps_ret (pe_op op_catN (pe_lstN (pa_c pe_str pa_nil)) (pe_callC C_law_words hr (by omega) (by rfl) (pa_c (pe_ix (ix_tupK K) (pv 0) pe_int (fun _ _ => rfl)) pa_nil))))) pss_nil) (pss_cons (ps_if (pt_cmpR (op_in_seqK K) (pe_ix (ix_tupK K) (pv 0) pe_int (fun _ _ => rfl)) (pe_tupN (pa_c pe_str (pa_c pe_str pa_nil))) (by with_unfolding_all rfl)) (pss_one (ps_ret (pe_op op_catN (pe_op op_catN (pe_op op_catN (pe_op op_catN (pe_lstN (pa_c pe_str pa_nil)) (pe_callC C_law_words hr (by omega) (by rfl) (pa_c (pe_ix (ix_tupK K) (pv 0) pe_int (fun _ _ => rfl)) pa_nil))) (pe_lstN (pa_c (pe_ix (ix_tupK K) (pv 0) pe_int (fun _ _ => rfl)) pa_nil))) (pe_callC C_law_words hr (by omega) (by rfl) (pa_c (pe_ix (ix_tupK K) (pv 0) pe_int (fun _ _ => rfl)) pa_nil))) (pe_lstN (pa_c pe_str pa_nil))))) pss_nil) (pss_cons (ps_if (pt_cmpR (op_in_seqK K) (pe_ix (ix_tupK K) (pv 0) pe_int (fun _ _ => rfl)) (pe_tupN (pa_c pe_str (pa_c pe_str pa_nil))) (by with_unfolding_all rfl)) (pss_one (ps_ret (pe_op op_catN (pe_lstN (pa_c (pe_ix (ix_tupK K) (pv 0) pe_int (fun _ _ => rfl)) (pa_c (pe_ix (ix_tupK K) (pv 0) pe_int (fun _ _ => rfl)) pa_nil))) (pe_callC C_law_words hr (by omega) (by rfl) (pa_c (pe_ix (ix_tupK K) (pv 0) pe_int (fun _ _ => rfl)) pa_nil))))) pss_nil) (pss_one (ps_ret (pe_lstN (pa_c (pe_ix (ix_tupK K) (pv 0) pe_int (fun _ _ => rfl)) (pa_c (pe_ix (ix_tupK K) (pv 0) pe_int (fun _ _ => rfl)) (pa_c (pe_ix (ix_tupK K) (pv 0) pe_int (fun _ _ => rfl)) pa_nil))))))))), ?_⟩
  refine rd_st [some v] rfl ?_
  simp only [tTupN, tLstN, rCatN, tSeq, tIfS, tTest, tOp, tC, tNext, tRet, rEq, tNil, tCons, tCall, rIxT, rIn, rd_v0, List.append_nil, V.int.injEq, V.bl.injEq, V.ref.injEq, exists_eq_left', exists_and_left, if_false, reduceCtorEq]
  cases r with
  | neg e hx =>
    rename_i a x t
    have dn := depth_neg t
    have tk := toks_len t
    refine ⟨a, rfl, _, .of e, _, atI_0, rfl, ?_⟩
    rw [decide_eq_true rfl]
    exact iteT ⟨by decide, fun p1 H1 n1 => ⟨a, rfl, _, .of (n1.g _ _ e), _, atI_nat (j := 1) rfl, x, t, rfl, hx.same n1.g, by omega, by omega, fun D H2 g2 eD => ⟨D, rfl, _, g2 _ _ n1.at', _, eD, small_line (by rw [List.length_map, List.length_singleton]; omega), fun p3 H3 n3 => q p3 H3 (n1.g.trans (g2.trans n3.g)) n3.at'⟩⟩⟩
  | two hw e h1 h2 =>
    rename_i a wd x y t1 t2
    have dn := depth_two wd t1 t2
    have tk1 := toks_len t1
    have tk2 := toks_len t2
    refine ⟨a, rfl, _, .of e, _, atI_0, rfl, ?_⟩
    rw [decide_eq_false fun z => join_not wd hw (V.str.inj z)]
    refine iteF ⟨a, rfl, _, .of e, _, atI_0, by decide, fun p1 H1 n1 => ⟨_, .inr (.of n1.at'), rfl, rfl, ?_⟩⟩
    rw [join_join wd hw]
    have e1 := n1.g _ _ e
    refine iteT ⟨by decide, fun p2 H2 n2 => ⟨a, rfl, _, .of (n2.g _ _ e1), _, atI_nat (j := 1) rfl, x, t1, rfl, h1.same (n1.g.trans n2.g), by omega, by omega, fun D3 H3 g3 e3 => ⟨D3, rfl, _, g3 _ _ n2.at', _, e3, small_line (by rw [List.length_map, List.length_singleton]; omega), fun p4 H4 n4 => ?_⟩⟩⟩
    have g14 : Same H1 H4 := n2.g.trans (g3.trans n4.g)
    refine ⟨a, rfl, _, .of (g14 _ _ e1), _, atI_0, small_line (by simp), fun p5 H5 n5 => ⟨_, n5.g _ _ n4.at', _, n5.at', small_line (by simp only [List.length_append, List.length_map, List.length_singleton, List.length_cons, List.length_nil]; omega), fun p6 H6 n6 => ?_⟩⟩
    have g46 : Same H4 H6 := n5.g.trans n6.g
    refine ⟨a, rfl, _, .of (g46 _ _ (g14 _ _ e1)), _, atI_nat (j := 2) rfl, y, t2, rfl, h2.same (n1.g.trans (g14.trans g46)), by omega, by omega, fun D7 H7 g7 e7 => ⟨D7, rfl, _, g7 _ _ n6.at', _, e7, small_line (by simp only [List.length_append, List.length_map, List.length_singleton, List.length_cons, List.length_nil]; omega), fun p8 H8 n8 => ⟨by decide, fun p9 H9 n9 => ⟨_, n9.g _ _ n8.at', _, n9.at', small_line (by simp only [List.length_append, List.length_map, List.length_singleton, List.length_cons, List.length_nil]; omega), fun p10 H10 n10 => q p10 H10 (n1.g.trans (g14.trans (g46.trans (g7.trans (n8.g.trans (n9.g.trans n10.g)))))) ?_⟩⟩⟩⟩
    rw [n10.at']
    show _ = some (HO.lst (List.map V.str (("(" : Str) :: (toksS t1 ++ wd :: (toksS t2 ++ [(")" : Str)])))))
    simp
  | qu hw e hx =>
    rename_i a wd nm x t
    have dn := depth_qu wd nm t
    have tk := toks_len t
    refine ⟨a, rfl, _, .of e, _, atI_0, rfl, ?_⟩
    rw [decide_eq_false fun z => tell_not wd hw (V.str.inj z)]
    refine iteF ⟨a, rfl, _, .of e, _, atI_0, by decide, fun p1 H1 n1 => ⟨_, .inr (.of n1.at'), rfl, rfl, ?_⟩⟩
    rw [tell_join wd hw]
    refine iteF ⟨a, rfl, _, .of (n1.g _ _ e), _, atI_0, by decide, fun p2 H2 n2 => ⟨_, .inr (.of n2.at'), rfl, rfl, ?_⟩⟩
    rw [tell_tell wd hw]
    have g2 := n1.g.trans n2.g
    have e2 := g2 _ _ e
    exact iteT ⟨a, rfl, _, .of e2, _, atI_0, a, rfl, _, .of e2, _, atI_nat (j := 1) rfl, small_line (by simp), fun p3 H3 n3 => ⟨a, rfl, _, .of (n3.g _ _ e2), _, atI_nat (j := 2) rfl, x, t, rfl, hx.same (g2.trans n3.g), by omega, by omega, fun D4 H4 g4 e4 => ⟨D4, rfl, _, g4 _ _ n3.at', _, e4, small_line (by simp only [List.length_map, List.length_cons, List.length_nil]; omega), fun p5 H5 n5 => q p5 H5 (g2.trans (n3.g.trans (g4.trans n5.g))) n5.at'⟩⟩⟩
  | bare hw e =>
    rename_i a wd na ma
    refine ⟨a, rfl, _, .of e, _, atI_0, rfl, ?_⟩
    rw [decide_eq_false fun z => bare_not wd hw (V.str.inj z)]
    refine iteF ⟨a, rfl, _, .of e, _, atI_0, by decide, fun p1 H1 n1 => ⟨_, .inr (.of n1.at'), rfl, rfl, ?_⟩⟩
    rw [bare_join wd hw]
    refine iteF ⟨a, rfl, _, .of (n1.g _ _ e), _, atI_0, by decide, fun p2 H2 n2 => ⟨_, .inr (.of n2.at'), rfl, rfl, ?_⟩⟩
    rw [bare_tell wd hw]
    have g2 := n1.g.trans n2.g
    have e2 := g2 _ _ e
    exact iteF ⟨a, rfl, _, .of e2, _, atI_nat (j := 1) rfl, a, rfl, _, .of e2, _, atI_0, a, rfl, _, .of e2, _, atI_nat (j := 2) rfl, small_line (by simp), fun p3 H3 n3 => q p3 H3 (g2.trans n3.g) n3.at'⟩
theorem all_lwords (T : Txt K mg w tw ffm cNoText cSayError cs) (d : Dfn K mg "_law_words" s_law_words ["_law_saying_here"]) : ∀ n, Cal P w K mg base n "_law_words" ["_law_saying_here"] (sp_lwords n)
  | 0 => d.never fun vs H Q E h => by obtain ⟨v, s, _, _, hd, _⟩ := h; exact absurd hd (Nat.not_lt_zero _)
  | n + 1 => ok_lwords T d (all_lwords T d n)
abbrev s_law_refused : Stmt := top 46
theorem sc_law_refused : FnScope ["_law_text", "_law_kinds", "e"] ["_law_text"] (defScope s_law_refused) := ⟨rfl, rfl, rfl, by decide +kernel, rfl, by decide +kernel, by decide +kernel⟩
theorem ok_refusedR (T : Txt K mg w tw ffm cNoText cSayError cs) (d : Dfn K mg "_law_refused" s_law_refused ["_law_text"]) (C_read : CalET P w K mg base 30 "read" ["text"] (sp_readE cNoText)) : CalT P w K mg base 31 "_law_refused" ["_law_text"] sp_refusedR := by
  refine d.calT sc_law_refused (fun vs H Q E h => ?_) (fun f cdv A outer s H vs Q E hr h => ?_)
  · obtain ⟨v, rfl, _⟩ := h
    rfl
  obtain ⟨v, rfl, hv, q⟩ := h
  have hu := hu_at hr 8 (by decide)
  refine ⟨_, (psT_cons (PS.t (ps_set (i := 1) sc_law_refused.nd rfl (Or.inl rfl) (pe_lstN pa_nil))) (psT_cons (psT_tryAC C_read hr (by omega) (by rfl) (pa_c (pv 0) pa_nil) (by rfl) T.m_SayError T.k_SayError rfl rfl rfl sc_law_refused.nd (j := 2) rfl rfl fun _ => (pss_cons (ps_set (i := 1) sc_law_refused.nd rfl (Or.inl rfl) (pe_lstN (pa_c (pe_cB (call_isxTK K) (by rfl) T.b_isinstance boot_isinstance (pa_c (pv 2) (pa_c (pe_bltn (v := .ty "ValueError") (by rfl) T.b_ValueError (by rfl) (by rfl)) pa_nil))) (pa_c (pe_cB (call_isxK K) (by rfl) T.b_isinstance boot_isinstance (pa_c (pv 2) (pa_c (pe_gl (v := V.ref _) (by rfl) ⟨_, T.m_NoText, rfl⟩) pa_nil))) (pa_c (pe_cB (call_isxK K) (by rfl) T.b_isinstance boot_isinstance (pa_c (pv 2) (pa_c (pe_gl (v := V.ref _) (by rfl) ⟨_, T.m_NoFrame, rfl⟩) pa_nil))) (pa_c (pe_cB (call_isxK K) (by rfl) T.b_isinstance boot_isinstance (pa_c (pv 2) (pa_c (pe_gl (v := V.ref _) (by rfl) ⟨_, T.m_NoSaying, rfl⟩) pa_nil))) pa_nil)))))) (pss_cons (ps_set (i := 1) sc_law_refused.nd rfl (Or.inl rfl) (pe_op op_catN (pv 1) (pe_lstN (pa_c (pe_cB (call_isxK K) (by rfl) T.b_isinstance boot_isinstance (pa_c (pv 2) (pa_c (pe_gl (v := V.ref _) (by rfl) ⟨_, T.m_NoRow, rfl⟩) pa_nil))) (pa_c (pe_cB (call_isxK K) (by rfl) T.b_isinstance boot_isinstance (pa_c (pv 2) (pa_c (pe_gl (v := V.ref _) (by rfl) ⟨_, T.m_NoTree, rfl⟩) pa_nil))) (pa_c (pe_cB (call_isxK K) (by rfl) T.b_isinstance boot_isinstance (pa_c (pv 2) (pa_c (pe_gl (v := V.ref _) (by rfl) ⟨_, T.m_NoWidth, rfl⟩) pa_nil))) pa_nil)))))) (pss_one (ps_set (i := 1) sc_law_refused.nd rfl (Or.inl rfl) (pe_op op_catN (pv 1) (pe_lstN (pa_c (pe_cB (call_isxK K) (by rfl) T.b_isinstance boot_isinstance (pa_c (pv 2) (pa_c (pe_gl (v := V.ref _) (by rfl) ⟨_, T.m_NoNumber, rfl⟩) pa_nil))) (pa_c (pe_cB (call_isxK K) (by rfl) T.b_isinstance boot_isinstance (pa_c (pv 2) (pa_c (pe_gl (v := V.ref _) (by rfl) ⟨_, T.m_TooGreat, rfl⟩) pa_nil))) (pa_c (pe_cB (call_isxK K) (by rfl) T.b_isinstance boot_isinstance (pa_c (pv 2) (pa_c (pe_gl (v := V.ref _) (by rfl) ⟨_, T.m_NoLine, rfl⟩) pa_nil))) pa_nil)))))))))) (PSs.t (pss_one (ps_ret (pe_cmpR (op_eqD hu) (pv 1) (pe_op op_catN (pe_lstN (pa_c pe_bl (pa_c pe_bl pa_nil))) (pe_op op_repN (pe_lstN (pa_c pe_bl pa_nil)) pe_int)) (nomark _))))))), ?_⟩
  refine rd_st [some v, none, none] rfl ?_
  simp only [tTryA, rIsX, rIsXT, rRepN, tLstN, rCatN, cxK, tSeq, tOp, tC, tRet, gName, tAsg, tNil, tCons, tCB, rEqD, rd_v0, rd_vS, List.set_cons_zero, List.set_cons_succ, V.int.injEq, V.ref.injEq, V.ty.injEq, List.cons.injEq, and_true, exists_eq_left', exists_and_left, and_assoc]
  refine ⟨small_line (by simp), fun p H1 n1 => ⟨v, rfl, ?_⟩⟩
  rcases hv with ⟨z, rfl, hz, sh, hn⟩ | ⟨k, kd, hk⟩
  · refine .inl ⟨z, rfl, hz, sh, (fun s hs => by rw [hn] at hs; cases hs), fun _ a H2 g2 ha a' ea => ?_⟩
    cases ea
    refine ⟨cNoText, rfl, T.ms, fun H3 g3 e3 => ⟨_, e3, T.kx, _, T.iV, _, e3, T.kx, _, T.i1, _, e3, T.kx, _, T.iN 0 (by decide), _, e3, T.kx, _, T.iN 1 (by decide), small_line (by simp), fun p4 H4 n4 => ?_⟩⟩
    have e4 := n4.g _ _ e3
    refine ⟨_, e4, T.kx, _, T.iN 2 (by decide), _, e4, T.kx, _, T.iN 3 (by decide), _, e4, T.kx, _, T.iN 4 (by decide), small_line (by simp), fun p5 H5 n5 => ⟨_, n5.g _ _ n4.at', _, n5.at', small_line (by simp), fun p6 H6 n6 => ?_⟩⟩
    have e6 := (n5.g.trans n6.g) _ _ e4
    refine ⟨_, e6, T.kx, _, T.iN 5 (by decide), _, e6, T.kx, _, T.iN 6 (by decide), _, e6, T.kx, _, T.iN 7 (by decide), small_line (by simp), fun p7 H7 n7 => ⟨_, n7.g _ _ n6.at', _, n7.at', small_line (by simp), fun p8 H8 n8 => ⟨⟨_, rfl⟩, small_line (by simp), fun p9 H9 n9 => ⟨small_line (by simp), fun p10 H10 n10 => ⟨_, n10.at', by decide, by decide, small_line (by simp), fun p11 H11 n11 => ⟨_, (n10.g.trans n11.g) _ _ n9.at', _, n11.at', small_line (by simp), fun p12 H12 n12 => ⟨true, ?_, q H12 (n1.g.trans (g2.trans (g3.trans (n4.g.trans (n5.g.trans (n6.g.trans (n7.g.trans (n8.g.trans (n9.g.trans (n10.g.trans (n11.g.trans n12.g)))))))))))⟩⟩⟩⟩⟩⟩⟩
    have r := rcok_flats (X := (cxOf CX0 P w K mg base ["_law_text", "_law_kinds", "e"] "_law_refused" (defScope s_law_refused) f cdv A outer s H E).nox) (.of ((n9.g.trans (n10.g.trans (n11.g.trans n12.g))) _ _ n8.at')) (.of n12.at') rfl rfl
    exact RcOk.up (j := 1) (show RcOk _ 1 _ _ _ true from r) (by omega)
  · refine .inr ⟨k, kd.same n1.g, hk, fun a H2 g2 ha a' ea => ?_⟩
    cases ea
    refine ⟨cNoText, rfl, T.ms, fun H3 g3 e3 => ⟨_, e3, T.kx, _, T.iV, _, e3, T.kx, _, T.i1, _, e3, T.kx, _, T.iN 0 (by decide), _, e3, T.kx, _, T.iN 1 (by decide), small_line (by simp), fun p4 H4 n4 => ?_⟩⟩
    have e4 := n4.g _ _ e3
    refine ⟨_, e4, T.kx, _, T.iN 2 (by decide), _, e4, T.kx, _, T.iN 3 (by decide), _, e4, T.kx, _, T.iN 4 (by decide), small_line (by simp), fun p5 H5 n5 => ⟨_, n5.g _ _ n4.at', _, n5.at', small_line (by simp), fun p6 H6 n6 => ?_⟩⟩
    have e6 := (n5.g.trans n6.g) _ _ e4
    refine ⟨_, e6, T.kx, _, T.iN 5 (by decide), _, e6, T.kx, _, T.iN 6 (by decide), _, e6, T.kx, _, T.iN 7 (by decide), small_line (by simp), fun p7 H7 n7 => ⟨_, n7.g _ _ n6.at', _, n7.at', small_line (by simp), fun p8 H8 n8 => ⟨⟨_, rfl⟩, small_line (by simp), fun p9 H9 n9 => ⟨small_line (by simp), fun p10 H10 n10 => ⟨_, n10.at', by decide, by decide, small_line (by simp), fun p11 H11 n11 => ⟨_, (n10.g.trans n11.g) _ _ n9.at', _, n11.at', small_line (by simp), fun p12 H12 n12 => ⟨true, ?_, q H12 (n1.g.trans (g2.trans (g3.trans (n4.g.trans (n5.g.trans (n6.g.trans (n7.g.trans (n8.g.trans (n9.g.trans (n10.g.trans (n11.g.trans n12.g)))))))))))⟩⟩⟩⟩⟩⟩⟩
    have r := rcok_flats (X := (cxOf CX0 P w K mg base ["_law_text", "_law_kinds", "e"] "_law_refused" (defScope s_law_refused) f cdv A outer s H E).nox) (.of ((n9.g.trans (n10.g.trans (n11.g.trans n12.g))) _ _ n8.at')) (.of n12.at') rfl rfl
    exact RcOk.up (j := 1) (show RcOk _ 1 _ _ _ true from r) (by omega)
abbrev s_law_bare_at : Stmt := top 47
theorem sc_law_bare_at : FnScope ["_law_words_here", "_law_number", "_law_bare_here", "_law_some"] ["_law_words_here", "_law_number"] (defScope s_law_bare_at) := ⟨rfl, rfl, rfl, by decide +kernel, rfl, by decide +kernel, by decide +kernel⟩
theorem ok_bareat (T : Txt K mg w tw ffm cNoText cSayError cs) (d : Dfn K mg "_law_bare_at" s_law_bare_at ["_law_words_here", "_law_number"]) : Cal P w K mg base 1 "_law_bare_at" ["_law_words_here", "_law_number"] sp_bareat := by
  refine d.cal sc_law_bare_at (fun vs H Q E h => ?_) (fun f cdv A outer s H vs Q E hr h => ?_)
  · obtain ⟨p, s, n, rfl, _⟩ := h
    rfl
  obtain ⟨p, sy, n, rfl, gd, ep, q⟩ := h
  refine ⟨_, (pss_cons (ps_set (i := 2) sc_law_bare_at.nd rfl (Or.inr rfl) (pe_lstN (pa_c pe_str (pa_c pe_str (pa_c pe_str (pa_c pe_str (pa_c pe_str (pa_c pe_str (pa_c pe_str (pa_c pe_str pa_nil)))))))))) (pss_cons (ps_setC (i := 3) sc_law_bare_at.nd rfl (Or.inl rfl) ["_law_k"] [(2, "_law_bare_here"), (0, "_law_words_here")] (CompOk.of rfl (by rfl) (by rfl)) (by rfl) (pi_range1 (by rfl) T.b_range (pa_c (pe_cB (call_len_seqK K) (by rfl) T.b_len boot_len (pa_c (pv 0) pa_nil)) pa_nil)) (fun _ _ _ _ _ => (pg_name (i := 0) (show List.Nodup (["_law_k", "_law_bare_here", "_law_words_here"] : List Str) by decide +kernel) (by rfl) (Or.inl (by rfl)))) (fun _ _ _ _ _ => (pf_one (pt_cmpR (op_in_seqK K) (pe_ix (ix_listK K) (pv 2) (pv 0) (fun _ _ => rfl)) (pv 1) (by with_unfolding_all rfl)))) (fun _ _ _ _ _ => (pv 0))) (pss_one (ps_ret (pe_ix (ix_listK K) (pv 3) (pe_op op_mod (pv 1) (pe_cB (call_len_seqK K) (by rfl) T.b_len boot_len (pa_c (pv 3) pa_nil))) (fun _ _ => rfl)))))), ?_⟩
  refine rd_st [some (.ref p), some (.int n), none, none] rfl ?_
  simp only [rLen, tLstN, tSeq, tOp, tC, tRet, gName, tAsg, rI, tNil, tCons, tCB, rIxL, iRng1, rd_v0, rd_vS, rd_comp, List.set_cons_zero, List.set_cons_succ, V.int.injEq, V.ref.injEq, List.cons.injEq, and_true, exists_eq_left', exists_and_left]
  obtain ⟨wd, wf, dp, pt⟩ := goodB_iff.mp gd
  have tk := toks_len sy
  refine ⟨small_line (by simp), fun pb H1 n1 => ⟨_, .inl (.of (n1.g _ _ ep)), by omega, by rw [List.length_map]; omega, ?_⟩⟩
  rw [Int.toNat_natCast, List.length_map]
  refine crf_map (fun σ => ∃ v, σ = [v, some (.ref pb), some (.ref p)]) (fun i => isB ((toksS sy).getD i "")) (fun i => .int (i : Int)) (by omega) ⟨_, rfl⟩ ?_ ?_
  · rintro D i σ H' hi gg hD hD' ⟨v, rfl⟩
    obtain ⟨z, hz⟩ : ∃ z, (toksS sy)[i]? = some z := ⟨_, List.getElem?_eq_getElem hi⟩
    have ez : (toksS sy).getD i "" = z := by rw [List.getD_eq_getElem?_getD, hz]; rfl
    simp only [tTest, tOp, gName, rIxL, rIn, rd_v0, rd_vS, List.set_cons_zero, V.int.injEq, V.bl.injEq, V.ref.injEq, exists_eq_left', exists_and_left, if_false, reduceCtorEq]
    refine ⟨_, .of ((n1.g.trans gg) _ _ ep), _, by rw [Int.zero_add]; exact atI_nat (by rw [List.getElem?_map, hz]; rfl), _, .inl (.of (gg _ _ n1.at')), rfl, rfl, ?_⟩
    rw [show inV (V.str z) [.str "in", .str "same", .str "within", .str "ahead", .str "next", .str "left", .str "right", .str "above"] = isB z from inV_strs z bareWords, Int.zero_add]
    cases hb : isB z with
    | true => exact iteT (crf_step (by omega) hi (by rw [ez]; exact hb) hD hD' gg ⟨_, rfl⟩ rfl)
    | false => exact iteF (crf_skip hi (by rw [ez]; exact hb) hD' gg ⟨_, rfl⟩)
  intro D H2 hD g2 eD
  have cnt := (toks_even sy wd wf).2
  have pos : 0 < (toksS sy).countP isB := by omega
  obtain ⟨z, mz, hz⟩ := List.countP_pos_iff.mp pos
  obtain ⟨j, hj, ej⟩ := List.getElem_of_mem mz
  have mj : j ∈ (List.range (toksS sy).length).filter fun i => isB ((toksS sy).getD i "") := List.mem_filter.mpr ⟨List.mem_range.mpr hj, by rw [List.getD_eq_getElem?_getD, List.getElem?_eq_getElem hj, ej]; exact hz⟩
  have lpos := List.length_pos_of_mem (List.mem_map_of_mem (f := fun i : Nat => V.int (i : Int)) mj)
  obtain ⟨v, hv, mv⟩ := atI_mod (i := n) (xs := (((List.range (toksS sy).length).filter fun i => isB ((toksS sy).getD i "")).map fun i : Nat => V.int (i : Int))) (n := _) rfl lpos
  obtain ⟨i, mi, rfl⟩ := List.mem_map.mp mv
  obtain ⟨m1, m2⟩ := List.mem_filter.mp mi
  have hi := List.mem_range.mp m1
  rw [List.getD_eq_getElem?_getD, List.getElem?_eq_getElem hi] at m2
  exact ⟨D, rfl, _, .inl (.of eD), by omega, D, rfl, _, .of eD, _, hv, q i _ H2 (n1.g.trans g2) (List.getElem?_eq_getElem hi) (of_decide_eq_true m2)⟩
abbrev s_law_spoilt : Stmt := top 48
theorem sc_law_spoilt : FnScope ["_law_words_here", "_law_way", "_law_number", "_law_at", "_law_bare_here", "_law_other", "_law_found"] ["_law_words_here", "_law_way", "_law_number"] (defScope s_law_spoilt) := ⟨rfl, rfl, rfl, by decide +kernel, rfl, by decide +kernel, by decide +kernel⟩
theorem ok_spoilt (T : Txt K mg w tw ffm cNoText cSayError cs) (d : Dfn K mg "_law_spoilt" s_law_spoilt ["_law_words_here", "_law_way", "_law_number"]) (C_law_bare_at : Cal P w K mg base 1 "_law_bare_at" ["_law_words_here", "_law_number"] sp_bareat) : Cal P w K mg base 2 "_law_spoilt" ["_law_words_here", "_law_way", "_law_number"] sp_spoilt := by
  refine d.cal sc_law_spoilt (fun vs H Q E h => ?_) (fun f cdv A outer s H vs Q E hr h => ?_)
  · obtain ⟨p, s, w, n, rfl, _⟩ := h
    rfl
  obtain ⟨p, sy, wy, n, rfl, gd, ep, w0, w6, q⟩ := h
  refine ⟨_, (pss_cons (ps_set (i := 3) sc_law_spoilt.nd rfl (Or.inl rfl) (pe_op op_mod (pe_op op_fdiv (pv 2) pe_int) (pe_op op_add (pe_cB (call_len_seqK K) (by rfl) T.b_len boot_len (pa_c (pv 0) pa_nil)) pe_int))) (pss_cons (ps_if (pt_cmpR op_eq (pv 1) pe_int (nomark _)) (pss_one (ps_ret (pe_slice (sl_listNK K) (pv 0) po_none (po_some (pe_un un_neg pe_int))))) pss_nil) (pss_cons (ps_if (pt_cmpR op_eq (pv 1) pe_int (nomark _)) (pss_one (ps_ret (pe_op op_catN (pv 0) (pe_lstN (pa_c (pe_ix (ix_listK K) (pe_lstN (pa_c pe_str (pa_c pe_str (pa_c pe_str (pa_c pe_str (pa_c pe_str (pa_c pe_str pa_nil))))))) (pe_op op_mod (pe_op op_fdiv (pv 2) pe_int) pe_int) (fun _ _ => rfl)) pa_nil))))) pss_nil) (pss_cons (ps_if (pt_cmpR op_eq (pv 1) pe_int (nomark _)) (pss_one (ps_ret (pe_op op_catN (pe_op op_catN (pe_slice (sl_listNK K) (pv 0) po_none (po_some (pv 3))) (pe_lstN (pa_c (pe_ix ix_str pe_str (pe_op op_mod (pe_op op_fdiv (pv 2) pe_int) pe_int) (fun _ _ => rfl)) pa_nil))) (pe_slice (sl_listNK K) (pv 0) (po_some (pv 3)) po_none)))) pss_nil) (pss_cons (ps_set (i := 4) sc_law_spoilt.nd rfl (Or.inl rfl) (pe_callC C_law_bare_at hr (by omega) (by rfl) (pa_c (pv 0) (pa_c (pe_op op_fdiv (pv 2) pe_int) pa_nil)))) (pss_cons (ps_if (pt_cmpR op_eq (pv 1) pe_int (nomark _)) (pss_cons (ps_set (i := 5) sc_law_spoilt.nd rfl (Or.inl rfl) (pe_ix (ix_listK K) (pe_lstN (pa_c pe_str (pa_c pe_str (pa_c pe_str (pa_c pe_str (pa_c pe_str (pa_c pe_str pa_nil))))))) (pe_op op_mod (pe_op op_fdiv (pv 2) pe_int) pe_int) (fun _ _ => rfl))) (pss_one (ps_ret (pe_op op_catN (pe_op op_catN (pe_slice (sl_listNK K) (pv 0) po_none (po_some (pv 4))) (pe_lstN (pa_c (pv 5) pa_nil))) (pe_slice (sl_listNK K) (pv 0) (po_some (pe_op op_add (pv 4) pe_int)) po_none))))) pss_nil) (pss_cons (ps_set (i := 6) sc_law_spoilt.nd rfl (Or.inl rfl) (pe_cTy (call_list_ofNK K) (by rfl) T.b_list boot_list (pa_c (pv 0) pa_nil))) (pss_cons (ps_if (pt_cmpR op_eq (pv 1) pe_int (nomark _)) (pss_cons (ps_asg (pe_op op_add_str (pe_ix ix_str (pe_ix (ix_listK K) (pv 0) (pe_op op_sub (pv 4) pe_int) (fun _ _ => rfl)) pe_int (fun _ _ => rfl)) pe_str) (pg_sub (pv 6) (pe_op op_sub (pv 4) pe_int) set_list)) (pss_one (ps_ret (pv 6)))) pss_nil) (pss_cons (ps_asg (pe_bm0K K PySem.F.plainAttrs_str PySem.F.slot_str_upper PySem.F.type_str_upper mt_upper (pe_ix (ix_listK K) (pv 0) (pe_op op_add (pv 4) pe_int) (fun _ _ => rfl))) (pg_sub (pv 6) (pe_op op_add (pv 4) pe_int) set_list)) (pss_cut (ps_if (pt_val (pe_bm0K K PySem.F.plainAttrs_str PySem.F.slot_str_isupper PySem.F.type_str_isupper mt_isupper (pe_ix (ix_listK K) (pv 0) (pe_op op_add (pv 4) pe_int) (fun _ _ => rfl)))) (pss_one (ps_asg (pe_bm0K K PySem.F.plainAttrs_str PySem.F.slot_str_lower PySem.F.type_str_lower mt_lower (pe_ix (ix_listK K) (pv 0) (pe_op op_add (pv 4) pe_int) (fun _ _ => rfl))) (pg_sub (pv 6) (pe_op op_add (pv 4) pe_int) set_list))) pss_nil) (pss_one (ps_ret (pv 6))))))))))))), ?_⟩
  refine rd_st [some (.ref p), some (.int wy), some (.int n), none, none, none, none] rfl ?_
  simp only [rSetL, gSub, rUpper, rLen, rListOf, tLstN, rSlLN, rCatN, tSeq, tIfS, tTest, tOp, tUn, tC, tNext, tRet, gName, tAsg, rI, rI0, rU, rEq, tNil, tCons, tCall, tCB, tNoPart, tPart, tSl, rIxL, rIxS, tBM0, tyV, rd_v0, rd_vS, List.set_cons_zero, List.set_cons_succ, List.append_nil, V.int.injEq, V.str.injEq, V.bl.injEq, V.ref.injEq, List.cons.injEq, and_true, true_and, exists_eq_left', exists_and_left, rd_ii]
  obtain ⟨wd, wf, dp, pt⟩ := goodB_iff.mp gd
  have tk := toks_len sy
  have tw' := toks_wd wd wf
  have ne : toksS sy ≠ [] := by cases sy <;> simp [toksS]
  refine ⟨⟨by decide, by decide⟩, _, .inl (.of ep), by omega, ?_⟩
  have hcase : wy = 0 ∨ wy = 1 ∨ wy = 2 ∨ wy = 3 ∨ wy = 4 ∨ wy = 5 := by omega
  have at0 := Int.emod_nonneg (n / 8) (show (((toksS sy).length : Int) + 1) ≠ 0 by omega)
  have at1 := Int.emod_lt_of_pos (n / 8) (show (0 : Int) < ((toksS sy).length : Int) + 1 by omega)
  obtain ⟨at', eat⟩ : ∃ k : Nat, n / 8 % (((toksS sy).length : Int) + 1) = (k : Int) := ⟨(n / 8 % (((toksS sy).length : Int) + 1)).toNat, by omega⟩
  rw [List.length_map, eat]
  have bare : ∀ (Q' : VK), (∀ (i : Nat) (w : Str) H', Same H H' → (toksS sy)[i]? = some w → w ∈ bareWords → Q' (.int i) H') → sp_bareat [.ref p, .int (n / 8)] H Q' E0 := fun Q' h => ⟨p, sy, n / 8, rfl, gd, ep, h⟩
  rcases hcase with rfl | rfl | rfl | rfl | rfl | rfl
  · refine iteT ⟨_, .of ep, fun p1 H1 n1 => q p1 (toksS sy).dropLast H1 n1.g ?_ (fun z hz => tw' z (List.dropLast_subset _ hz)) (by rw [List.length_dropLast]; omega) (spoilt_last gd)⟩
    rw [n1.at', cutL_map, cutL_last]
  · refine iteF (iteT ⟨small_line (by simp), fun p1 H1 n1 => ⟨⟨by decide, by decide⟩, by decide, _, n1.lst, ?_⟩⟩)
    obtain ⟨v, hv, mv⟩ := atI_mod (i := n / 8) (xs := (["x", "X", "not", ")", "in", "0"] : List Str).map V.str) (n := 6) rfl (by decide)
    obtain ⟨z, mz, rfl⟩ := List.mem_map.mp mv
    refine ⟨_, hv, small_line (by simp), fun p2 H2 n2 => ⟨_, (n1.g.trans n2.g) _ _ ep, _, n2.at', small_line (by simp; omega), fun p3 H3 n3 => q p3 (toksS sy ++ [z]) H3 (n1.g.trans (n2.g.trans n3.g)) (by rw [n3.at', List.map_append]; rfl) (fun y hy => ?_) (by simp; omega) (spoilt_more gd z)⟩⟩
    rcases List.mem_append.mp hy with hy | hy
    · exact tw' y hy
    · rw [List.mem_singleton.mp hy]
      exact more_wd z mz
  · refine iteF (iteF (iteT ⟨_, .of ep, fun p1 H1 n1 => ⟨⟨by decide, by decide⟩, by decide, by decide +kernel, ?_⟩⟩))
    obtain ⟨c, hc, mc⟩ := atI_mod (i := n / 800) (xs := ("()" : Str).cps.toList) (n := 2) (by decide +kernel) (by decide)
    have hb : (⟨#[c]⟩ : Str) = "(" ∨ (⟨#[c]⟩ : Str) = ")" := by
      rw [show ("()" : Str).cps.toList = [40, 41] by decide +kernel] at mc
      rw [lit1.1, lit1.2.1]
      simp only [List.mem_cons, List.not_mem_nil, or_false] at mc
      rcases mc with rfl | rfl
      · exact .inl rfl
      · exact .inr rfl
    refine ⟨c, hc, small_line (by simp), fun p2 H2 n2 => ⟨_, n2.g _ _ n1.at', _, n2.at', small_line (by rw [cutL_map, cutL_to]; simp; omega), fun p3 H3 n3 => ⟨_, .of ((n1.g.trans (n2.g.trans n3.g)) _ _ ep), fun p4 H4 n4 => ⟨_, n4.g _ _ n3.at', _, n4.at', small_line (by rw [cutL_map, cutL_to, cutL_map, cutL_from]; simp; omega), fun p5 H5 n5 => ?_⟩⟩⟩⟩
    refine q p5 ((toksS sy).take at' ++ [⟨#[c]⟩] ++ (toksS sy).drop at') H5 (n1.g.trans (n2.g.trans (n3.g.trans (n4.g.trans n5.g)))) ?_ (fun y hy => ?_) (by simp; omega) (spoilt_bracket gd (List.take_append_drop _ _) hb)
    · rw [n5.at', cutL_map, cutL_to, cutL_map, cutL_from, List.map_append, List.map_append]
      rfl
    · rcases List.mem_append.mp hy with hy | hy
      · rcases List.mem_append.mp hy with hy | hy
        · exact tw' y (List.mem_of_mem_take hy)
        · rw [List.mem_singleton.mp hy]
          exact .inr hb
      · exact tw' y (List.mem_of_mem_drop hy)
  · refine iteF (iteF (iteF ⟨⟨by decide, by decide⟩, bare _ fun i w H1 g1 hi hw => ?_⟩))
    refine iteT ⟨small_line (by simp), fun p2 H2 n2 => ⟨⟨by decide, by decide⟩, by decide, _, n2.lst, ?_⟩⟩
    obtain ⟨v, hv, mv⟩ := atI_mod (i := n / 800) (xs := (["on", "In", "and", "is", "inn", "x"] : List Str).map V.str) (n := 6) rfl (by decide)
    obtain ⟨z, mz, rfl⟩ := List.mem_map.mp mv
    have il := (List.getElem?_eq_some_iff.mp hi).1
    have ew : (toksS sy)[i]'il = w := (List.getElem?_eq_some_iff.mp hi).2
    refine ⟨_, hv, _, rfl, _, .of ((g1.trans n2.g) _ _ ep), fun p3 H3 n3 => ⟨small_line (by simp), fun p4 H4 n4 => ⟨_, n4.g _ _ n3.at', _, n4.at', small_line (by rw [cutL_map, cutL_to]; simp; omega), fun p5 H5 n5 => ⟨_, rfl, _, .of ((g1.trans (n2.g.trans (n3.g.trans (n4.g.trans n5.g)))) _ _ ep), fun p6 H6 n6 => ?_⟩⟩⟩⟩
    rw [show ((i : Int) + 1) = ((i + 1 : Nat) : Int) by omega] at n6
    refine ⟨_, n6.g _ _ n5.at', _, n6.at', small_line (by rw [cutL_map, cutL_to, cutL_map, cutL_from]; simp; omega), fun p7 H7 n7 => ?_⟩
    refine q p7 ((toksS sy).take i ++ [z] ++ (toksS sy).drop (i + 1)) H7 (g1.trans (n2.g.trans (n3.g.trans (n4.g.trans (n5.g.trans (n6.g.trans n7.g)))))) ?_ (fun y hy => ?_) (by simp; omega) (spoilt_word gd (by rw [← ew, List.getElem_cons_drop, List.take_append_drop]) hw (other_nb z mz))
    · rw [n7.at', cutL_map, cutL_to, cutL_map, cutL_from, List.map_append, List.map_append]
      rfl
    · rcases List.mem_append.mp hy with hy | hy
      · rcases List.mem_append.mp hy with hy | hy
        · exact tw' y (List.mem_of_mem_take hy)
        · rw [List.mem_singleton.mp hy]
          exact other_wd z mz
      · exact tw' y (List.mem_of_mem_drop hy)
  · refine iteF (iteF (iteF ⟨⟨by decide, by decide⟩, bare _ fun i w H1 g1 hi hw => ?_⟩))
    refine iteF ⟨_, .inl (.of (g1 _ _ ep)), fun L H2 n2 => iteT ?_⟩
    obtain ⟨na, ma, i1, h1, h2, wb⟩ := toks_nb wd wf i w hi (decide_eq_true hw)
    have l1 := (List.getElem?_eq_some_iff.mp h1).1
    obtain ⟨c, r, ec, hr3, hns⟩ : ∃ c r, na.cps.toList = c :: r ∧ r.length ≤ 3 ∧ (c ≠ 32 ∧ c ≠ 40 ∧ c ≠ 41) := by
      have key : ∀ l : Str, (∀ c ∈ ch l, c ≠ 32 ∧ c ≠ 40 ∧ c ≠ 41) → isNm (.str na) l = true → ∃ c r, na.cps.toList = c :: r ∧ r.length ≤ 3 ∧ (c ≠ 32 ∧ c ≠ 40 ∧ c ≠ 41) := fun l hl h => by
        obtain ⟨c, r, e, h3, hc, _⟩ := nm_ex h
        exact ⟨c, r, e, h3, hl c hc⟩
      exact (name_cases (wf_nm wb).1).elim (key SMALL (by decide +kernel)) (key GREAT (by decide +kernel))
    have l4 : ("1234" : Str).length = 4 := by decide +kernel
    have ech : ch (⟨#[c]⟩ ++ "1234" : Str) = [c, 49, 50, 51, 52] := by rw [ch_app, show ch ("1234" : Str) = [49, 50, 51, 52] by decide +kernel]; rfl
    have nl := nmS_len ec hr3
    refine ⟨_, rfl, _, .of ((g1.trans n2.g) _ _ ep), _, by rw [show ((i : Int) - 1) = ((i - 1 : Nat) : Int) by omega]; exact atI_nat (by rw [List.getElem?_map, h1]; rfl), na, rfl, by rw [sizeLine_eq]; omega, c, by rw [ec]; exact atI_0, by rw [l4, show (⟨#[c]⟩ : Str).length = 1 from rfl, sizeLine_eq]; omega, _, rfl, _, n2.at', i - 1, by rw [List.length_map]; exact ixN_pred i1 l1, ?_⟩
    refine q L ((toksS sy).set (i - 1) (⟨#[c]⟩ ++ "1234")) _ (g1.trans (n2.g.wr n2.nil _)) (by rw [upd_same, List.map_set]) (fun y hy => ?_) (by rw [List.length_set]; omega) (spoilt_name (List.mem_set l1 _) ech)
    rcases List.mem_or_eq_of_mem_set hy with hy | rfl
    · exact tw' y hy
    · refine .inl ⟨by rw [ech]; simp, by rw [ech]; simp; omega, by rw [ech]; simp; omega, by rw [ech]; simp; omega, by rw [str_size, ech]; simp⟩
  · refine iteF (iteF (iteF ⟨⟨by decide, by decide⟩, bare _ fun i w H1 g1 hi hw => ?_⟩))
    refine iteF ⟨_, .inl (.of (g1 _ _ ep)), fun L H2 n2 => iteF ?_⟩
    obtain ⟨na, ma, i1, h1, h2, wb⟩ := toks_nb wd wf i w hi (decide_eq_true hw)
    have l2 := (List.getElem?_eq_some_iff.mp h2).1
    have nm := (wf_nm wb).2
    have am : atI ((toksS sy).map V.str) ((i : Int) + 1) = some (.str ma) := by rw [show ((i : Int) + 1) = ((i + 1 : Nat) : Int) by omega]; exact atI_nat (by rw [List.getElem?_map, h2]; rfl)
    have ixn : ∀ l : List V, l.length = (toksS sy).length → ixN l.length ((i : Int) + 1) = some (i + 1) := fun l hl => by rw [hl]; exact ixN_succ l2
    have gL : ∀ o, Same H (upd H2 L o) := fun o => g1.trans (n2.g.wr n2.nil _)
    refine ⟨_, rfl, _, .of ((g1.trans n2.g) _ _ ep), _, am, trivial, ma, rfl, up_long nm, _, rfl, _, n2.at', i + 1, ixn _ (List.length_map _), ?_⟩
    refine cut_by (fun σ' H' => ∃ m', σ' = [some (V.ref p), some (V.int 5), some (V.int n), some (V.int ↑at'), some (V.int ↑i), none, some (V.ref L)] ∧ Same H H' ∧ H' L = some (.lst (((toksS sy).set (i + 1) m').map V.str)) ∧ (isPl ma = true → isSt m' = true) ∧ (isSt ma = true → isPl m' = true)) ?_ ?_
    · simp only [rSetL, gSub, rLower, rStrB, tIfS, tB, tOp, tC, tNext, tAsg, rI0, rIxL, tBM0, tyV, rd_v0, rd_vS, V.int.injEq, V.bl.injEq, V.ref.injEq, true_and, exists_eq_left', exists_and_left]
      have em : upd H2 L (.lst (((toksS sy).map V.str).set (i + 1) (.str (Txt.upper ma)))) p = some (.lst ((toksS sy).map V.str)) := gL _ _ _ ep
      refine ⟨_, .of em, _, am, trivial, ma, rfl, ?_⟩
      rw [(islower_eq nm).2]
      rcases name_cases nm with hp | hs
      · rw [pl_st hp]
        exact iteF ⟨gL _, Txt.upper ma, by rw [upd_same, List.map_set], fun _ => upper_name hp, fun h => (nomatch h)⟩
      · rw [hs]
        refine iteT ⟨_, .of em, _, am, trivial, ma, rfl, lo_long hs, _, upd_same, i + 1, ixn _ (by rw [List.length_set, List.length_map]), ?_, Txt.lower ma, ?_, (fun h => by have := pl_st h; rw [hs] at this; cases this), fun _ => lower_name hs⟩
        · exact g1.trans ((n2.g.wr n2.nil _).wr n2.nil _)
        · rw [upd_same, List.set_set, List.map_set]
    · rintro σ' H' ⟨m', rfl, g', e', k1, k2⟩
      simp only [tRet, rd_v0, rd_vS]
      refine q L ((toksS sy).set (i + 1) m') H' g' e' (fun y hy => ?_) (by rw [List.length_set]; omega) (spoilt_sort gd hi hw h2 k1 k2)
      rcases List.mem_or_eq_of_mem_set hy with hy | rfl
      · exact tw' y hy
      · exact .inl ((name_cases nm).elim (fun h => plain_st (k1 h)) fun h => plain_pl (k2 h))
abbrev s_law_odd : Stmt := top 49
theorem sc_law_odd : FnScope ["_law_number", "_law_some"] ["_law_number"] (defScope s_law_odd) := ⟨rfl, rfl, rfl, by decide +kernel, rfl, by decide +kernel, by decide +kernel⟩
theorem ok_odd (T : Txt K mg w tw ffm cNoText cSayError cs) (d : Dfn K mg "_law_odd" s_law_odd ["_law_number"]) : Cal P w K mg base 1 "_law_odd" ["_law_number"] sp_oddT := by
  refine d.cal sc_law_odd (fun vs H Q E h => ?_) (fun f cdv A outer s H vs Q E hr h => ?_)
  · obtain ⟨n, rfl, _⟩ := h
    rfl
  obtain ⟨n, rfl, q⟩ := h
  refine ⟨_, (pss_cons (ps_set (i := 1) sc_law_odd.nd rfl (Or.inl rfl) (pe_lstN (pa_c pe_str (pa_c pe_str (pa_c pe_str (pa_c pe_str (pa_c pe_str (pa_c pe_str (pa_c pe_str (pa_c pe_str (pa_c pe_str (pa_c pe_str (pa_c pe_str pa_nil))))))))))))) (pss_cons (ps_set (i := 1) sc_law_odd.nd rfl (Or.inl rfl) (pe_op op_catN (pv 1) (pe_lstN (pa_c pe_str (pa_c pe_str (pa_c pe_str (pa_c pe_str (pa_c pe_str pa_nil)))))))) (pss_cons (ps_set (i := 1) sc_law_odd.nd rfl (Or.inl rfl) (pe_op op_catN (pv 1) (pe_lstN (pa_c pe_str (pa_c pe_str (pa_c pe_str (pa_c pe_str (pa_c pe_str pa_nil)))))))) (pss_cons (ps_set (i := 1) sc_law_odd.nd rfl (Or.inl rfl) (pe_op op_catN (pv 1) (pe_lstN (pa_c pe_str (pa_c pe_str (pa_c pe_str (pa_c pe_str (pa_c pe_str (pa_c pe_str pa_nil))))))))) (pss_cons (ps_set (i := 1) sc_law_odd.nd rfl (Or.inl rfl) (pe_op op_catN (pv 1) (pe_lstN (pa_c pe_str (pa_c pe_str (pa_c pe_str (pa_c pe_str (pa_c pe_str pa_nil)))))))) (pss_one (ps_ret (pe_ix (ix_listK K) (pv 1) (pe_op op_mod (pv 0) pe_int) (fun _ _ => rfl))))))))), ?_⟩
  refine rd_st [some (.int n), none] rfl ?_
  simp only [tLstN, rCatN, tSeq, tOp, tC, tRet, gName, tAsg, rI, tNil, tCons, rIxL, rd_v0, rd_vS, List.set_cons_zero, List.set_cons_succ, V.int.injEq, V.ref.injEq, exists_eq_left', exists_and_left]
  refine ⟨small_line (by simp), fun p1 H1 n1 => ⟨small_line (by simp), fun p2 H2 n2 => ⟨_, n2.g _ _ n1.at', _, n2.at', small_line (by simp), fun p3 H3 n3 => ⟨small_line (by simp), fun p4 H4 n4 => ⟨_, n4.g _ _ n3.at', _, n4.at', small_line (by simp), fun p5 H5 n5 => ⟨small_line (by simp), fun p6 H6 n6 => ⟨_, n6.g _ _ n5.at', _, n6.at', small_line (by simp), fun p7 H7 n7 => ⟨small_line (by simp), fun p8 H8 n8 => ⟨_, n8.g _ _ n7.at', _, n8.at', small_line (by simp), fun p9 H9 n9 => ⟨by decide, _, n9.lst, ?_⟩⟩⟩⟩⟩⟩⟩⟩⟩⟩
  obtain ⟨v, hv, mv⟩ := atI_mod (i := n) (xs := oddT.map V.str) (n := 32) (by rw [List.length_map]; exact odd_len.1) (by decide)
  obtain ⟨z, mz, rfl⟩ := List.mem_map.mp mv
  exact ⟨_, hv, q z H9 (n1.g.trans (n2.g.trans (n3.g.trans (n4.g.trans (n5.g.trans (n6.g.trans (n7.g.trans (n8.g.trans n9.g)))))))) mz⟩
abbrev s_law_balanced : Stmt := top 50
theorem sc_law_balanced : FnScope ["_law_many"] ["_law_many"] (defScope s_law_balanced) := ⟨rfl, rfl, rfl, by decide +kernel, rfl, by decide +kernel, by decide +kernel⟩
theorem ok_bal0 (T : Txt K mg w tw ffm cNoText cSayError cs) (d : Dfn K mg "_law_balanced" s_law_balanced ["_law_many"]) : Cal P w K mg base 1 "_law_balanced" ["_law_many"] (sp_bal 0) := by
  have C_law_balanced : Cal P w K mg base 0 "_law_balanced" ["_law_many"] (fun _ _ _ _ => False) := d.never fun _ _ _ _ h => h
  refine d.cal sc_law_balanced (fun vs H Q E h => ?_) (fun fa cdv A outer s H vs Q E hr h => ?_)
  · obtain ⟨m, rfl, _⟩ := h
    rfl
  obtain ⟨m, rfl, f6, hm, q⟩ := h
  refine ⟨_, (pss_cons (ps_if (pt_cmpR op_lt (pv 0) pe_int (nomark _)) (pss_one (ps_ret pe_str)) pss_nil) (pss_one (ps_ret (pe_op op_add_str (pe_op op_add_str (pe_op op_add_str (pe_op op_add_str pe_str (pe_callC C_law_balanced hr (by omega) (by rfl) (pa_c (pe_op op_fdiv (pv 0) pe_int) pa_nil))) pe_str) (pe_callC C_law_balanced hr (by omega) (by rfl) (pa_c (pe_op op_sub (pv 0) (pe_op op_fdiv (pv 0) pe_int)) pa_nil))) pe_str)))), ?_⟩
  refine rd_st [some (.int m)] rfl ?_
  simp only [tSeq, tIfS, tTest, tOp, tC, tNext, tRet, rI, rI0, tNil, tCons, tCall, rd_v0, V.int.injEq, V.bl.injEq, exists_eq_left', exists_and_left, exists_const, and_false]
  have hm' : m ≤ 1 := hm
  rw [decide_eq_true (show (m : Int) < 2 by omega)]
  have h := q H (Same.refl H)
  rw [show textS (balF 0 m) = textS (.bare "same" "x" "y") from rfl, show textS (.bare "same" "x" "y") = "x same y" by decide +kernel] at h
  exact iteT h
theorem ok_bal {f : Nat} (T : Txt K mg w tw ffm cNoText cSayError cs) (d : Dfn K mg "_law_balanced" s_law_balanced ["_law_many"]) (C_law_balanced : Cal P w K mg base (f + 1) "_law_balanced" ["_law_many"] (sp_bal f)) : Cal P w K mg base (f + 1 + 1) "_law_balanced" ["_law_many"] (sp_bal (f + 1)) := by
  refine d.cal sc_law_balanced (fun vs H Q E h => ?_) (fun fa cdv A outer s H vs Q E hr h => ?_)
  · obtain ⟨m, rfl, _⟩ := h
    rfl
  obtain ⟨m, rfl, f6, hm, q⟩ := h
  refine ⟨_, (pss_cons (ps_if (pt_cmpR op_lt (pv 0) pe_int (nomark _)) (pss_one (ps_ret pe_str)) pss_nil) (pss_one (ps_ret (pe_op op_add_str (pe_op op_add_str (pe_op op_add_str (pe_op op_add_str pe_str (pe_callC C_law_balanced hr (by omega) (by rfl) (pa_c (pe_op op_fdiv (pv 0) pe_int) pa_nil))) pe_str) (pe_callC C_law_balanced hr (by omega) (by rfl) (pa_c (pe_op op_sub (pv 0) (pe_op op_fdiv (pv 0) pe_int)) pa_nil))) pe_str)))), ?_⟩
  refine rd_st [some (.int m)] rfl ?_
  simp only [tSeq, tIfS, tTest, tOp, tC, tNext, tRet, rI, rI0, tNil, tCons, tCall, rd_v0, List.append_nil, V.int.injEq, V.str.injEq, V.bl.injEq, exists_eq_left', exists_and_left]
  by_cases c : m < 2
  · rw [decide_eq_true (show (m : Int) < 2 by omega)]
    have e : balF (f + 1) m = .bare "same" "x" "y" := if_pos c
    have h := q H (Same.refl H)
    rw [e, show textS (.bare "same" "x" "y") = "x same y" by decide +kernel] at h
    exact iteT h
  · rw [decide_eq_false (show ¬ (m : Int) < 2 by omega)]
    have e : balF (f + 1) m = .two "and" (balF f (m / 2)) (balF f (m - m / 2)) := if_neg c
    have p2 : 2 ^ (f + 1) = 2 * 2 ^ f := by rw [Nat.pow_succ]; omega
    have b1 := bal_len f (m / 2)
    have b2 := bal_len f (m - m / 2)
    have p64 : 2 ^ f ≤ 2 ^ 6 := Nat.pow_le_pow_right (by decide) (by omega)
    have l1 : ("(" : Str).length = 1 := by decide +kernel
    have l2 : (" and " : Str).length = 5 := by decide +kernel
    have l3 : (")" : Str).length = 1 := by decide +kernel
    refine iteF ⟨⟨by decide, by decide⟩, m / 2, by rw [show ((m : Int) / 2) = ((m / 2 : Nat) : Int) by omega], by omega, by omega, fun H1 g1 => ⟨_, rfl, by rw [sizeLine_eq]; omega, by rw [app_len, sizeLine_eq]; omega, ⟨by decide, by decide⟩, m - m / 2, by rw [show ((m : Int) - (m : Int) / 2) = ((m - m / 2 : Nat) : Int) by omega], by omega, by omega, fun H2 g2 => ⟨_, rfl, by rw [app_len, app_len, sizeLine_eq]; omega, by rw [app_len, app_len, app_len, sizeLine_eq]; omega, ?_⟩⟩⟩
    have h := q H2 (g1.trans g2)
    rw [e] at h
    rw [bal_glue]
    exact h
theorem all_bal (T : Txt K mg w tw ffm cNoText cSayError cs) (d : Dfn K mg "_law_balanced" s_law_balanced ["_law_many"]) : ∀ f, Cal P w K mg base (f + 1) "_law_balanced" ["_law_many"] (sp_bal f)
  | 0 => ok_bal0 T d
  | f + 1 => ok_bal T d (all_bal T d f)
end
end K08
set_option Elab.async false
set_option linter.all false
set_option maxRecDepth 100000
set_option maxHeartbeats 4000000
set_option pp.deepTerms true
set_option pp.maxSteps 100000
namespace K08
open PySem PySem.Spec PyProof.Rows L2 SS
abbrev sp_law := sp_lawF
seal PE PT PW PA PS PSs PET PTT PWT PAT PST PSsT PEU PAU PSU
section
variable {P : Program} {w : World} {K : PySem.W.Frag} {mg : Str → Option Value} {base : Heap} {tw ffm cNoText cSayError : Addr} {cs : List Addr}
abbrev s_law : Stmt := top 51
theorem sc_law : FnScope ["_law_script", "_law_frame", "_law_cells", "_law_saying_here", "_law_words_here", "_law_way", "_law_number", "_law_k", "_law_other", "_law_deep"] ["_law_script"] (defScope s_law) := ⟨rfl, rfl, rfl, by decide +kernel, rfl, by decide +kernel, by decide +kernel⟩
theorem ok_law {f : Addr} {fd : FuncData} (T : Txt K mg w tw ffm cNoText cSayError cs) (F : Fun K "law" "law" s_law f fd) (C_law_cell_at : Cal P w K mg base 1 "_law_cell_at" ["_law_script", "_law_k"] (sp_cell K))
    (C_law_saying : Cal P w K mg base 14 "_law_saying" ["_law_cells", "_law_known", "_law_deep", "_law_trees"] (sp_lsaying 11)) (C_law_words : Cal P w K mg base 13 "_law_words" ["_law_saying_here"] (sp_lwords 13)) (C_law_refused : CalT P w K mg base 31 "_law_refused" ["_law_text"] sp_refusedR) (C_law_spoilt : Cal P w K mg base 2 "_law_spoilt" ["_law_words_here", "_law_way", "_law_number"] sp_spoilt)
    (C_law_odd : Cal P w K mg base 1 "_law_odd" ["_law_number"] sp_oddT) (C_law_balanced : Cal P w K mg base 6 "_law_balanced" ["_law_many"] (sp_bal 5)) (C_read : CalET P w K mg base 30 "read" ["text"] (sp_readE cNoText)) : FnOk P w K mg base CX0 33 f fd ["_law_script"] (sp_law K) := by
  refine F.ok sc_law (fun vs H Q E h => ?_) (fun cdv A outer s H vs Q E hr h => ?_)
  · obtain ⟨a, ns, rfl, _⟩ := h
    rfl
  obtain ⟨a, ns, rfl, hS, h63, q⟩ := h
  have hu := hu_at hr 16 (by decide)
  refine ⟨_, (pss_cons (ps_set (i := 1) sc_law.nd rfl (Or.inl rfl) (pe_slice (sl_listNK K) (pe_lstN (pa_c pe_str (pa_c pe_str pa_nil))) po_none (po_some (pe_op op_mod (pe_callC C_law_cell_at hr (by omega) (by rfl) (pa_c (pv 0) (pa_c pe_int pa_nil))) pe_int)))) (pss_cons (ps_setC (i := 2) sc_law.nd rfl (Or.inl rfl) ["_law_cell"] [] (CompOk.of rfl (by rfl) (by rfl)) (by rfl) (pi_listK K (pe_slice (sl_listNK K) (pv 0) (po_some pe_int) (po_some pe_int))) (fun _ _ _ _ _ => (pg_name (i := 0) (show List.Nodup (["_law_cell"] : List Str) by decide +kernel) (by rfl) (Or.inl (by rfl)))) (fun _ _ _ _ _ => pf_nil) (fun _ _ _ _ _ => (pe_op op_mod (pv 0) (pe_op op_pow pe_int pe_int)))) (psU_cons (psU_set (i := 3) sc_law.nd rfl (Or.inl rfl) (peU_callC C_law_saying hr (by omega) (by rfl) (paU_tl (pv 2) (paU_tl (pv 1) (paU_hd peU_int (pa_c (pe_cmpR op_eq (pe_op op_mod (pe_op op_fdiv (pe_callC C_law_cell_at hr (by omega) (by rfl) (pa_c (pv 0) (pa_c pe_int pa_nil))) pe_int) pe_int) pe_int (nomark _)) pa_nil)))))) (psT_cons (PS.t (ps_set (i := 4) sc_law.nd rfl (Or.inl rfl) (pe_callC C_law_words hr (by omega) (by rfl) (pa_c (pv 3) pa_nil)))) (psT_cons (psT_if (ptT_cmpR (op_neS2 hu) (peT_callET C_read hr (by omega) (by rfl) (PA.t (pa_c (pe_bmK K PySem.F.plainAttrs_str PySem.F.slot_str_join PySem.F.type_str_join (mt_joinK K) pe_str (pa_c (pv 4) pa_nil)) pa_nil))) (PE.t (pv 3)) (nomark _)) (PSs.t (pss_one (ps_ret pe_bl))) (PSs.t pss_nil)) (psT_cons (PS.t (ps_for PassesOwn.never rfl (pi_range1 (by rfl) T.b_range (pa_c pe_int pa_nil)) (pg_name (i := 5) sc_law.nd (by rfl) (Or.inl (by rfl))) (psU_cons (psU_set (i := 6) sc_law.nd rfl (Or.inl rfl) (peU_op op_mod (peU_op op_mul (peU_op op_add (peU_callC C_law_cell_at hr (by omega) (by rfl) (paU_tl (pv 0) (paU_hd peU_int pa_nil))) (pe_op op_mul (pv 5) (pv 5))) pe_int) pe_int)) (psT_one (psT_if (ptT_not (ptT_val (peT_callT C_law_refused hr (by omega) (by rfl) (PA.t (pa_c (pe_bmK K PySem.F.plainAttrs_str PySem.F.slot_str_join PySem.F.type_str_join (mt_joinK K) pe_str (pa_c (pe_callC C_law_spoilt hr (by omega) (by rfl) (pa_c (pv 4) (pa_c (pv 5) (pa_c (pv 6) pa_nil)))) pa_nil)) pa_nil))))) (PSs.t (pss_one (ps_ret pe_bl))) (PSs.t pss_nil)))))) (psT_cons (PS.t (ps_for PassesOwn.never rfl (pi_range2 (by rfl) T.b_range (pa_c pe_int (pa_c pe_int pa_nil))) (pg_name (i := 7) sc_law.nd (by rfl) (Or.inl (by rfl))) (pss_one (ps_if (pt_not (pt_val (pe_callTU C_law_refused hr (by omega) (by rfl) (paU_hd (peU_callC C_law_odd hr (by omega) (by rfl) (paU_hd (peU_opR op_mod (pe_callC C_law_cell_at hr (by omega) (by rfl) (pa_c (pv 0) (pa_c (pv 7) pa_nil))) (peU_op op_pow peU_int pe_int)) pa_nil)) pa_nil)))) (pss_one (ps_ret pe_bl)) pss_nil)))) (psT_cons (PS.t (ps_set (i := 8) sc_law.nd rfl (Or.inl rfl) (pe_ix (ix_listK K) (pe_lstN (pa_c pe_non (pa_c pe_int (pa_c pe_bl (pa_c (pe_tupN (pa_c pe_str (pa_c pe_str (pa_c pe_str pa_nil)))) (pa_c (pe_lstN (pa_c pe_str pa_nil)) (pa_c (pe_disp (pps_cons pe_str pe_int pps_nil) rfl rfl (by simp) (by decide)) pa_nil))))))) (pe_op op_mod (pe_callC C_law_cell_at hr (by omega) (by rfl) (pa_c (pv 0) (pa_c pe_int pa_nil))) pe_int) (fun _ _ => rfl)))) (psT_cons (psT_if (PWT.pt (pwT_or (ptT_not (ptT_val (peT_callT C_law_refused hr (by omega) (by rfl) (PA.t (pa_c (pe_op op_add_str (pe_op op_mulS pe_str pe_int) pe_str) pa_nil))))) (pwT_or1 (ptT_not (ptT_val (peT_callT C_law_refused hr (by omega) (by rfl) (PA.t (pa_c (pe_op op_mulS pe_str pe_int) pa_nil)))))))) (PSs.t (pss_one (ps_ret pe_bl))) (PSs.t pss_nil)) (psT_cons (PS.t (ps_set (i := 9) sc_law.nd rfl (Or.inl rfl) (pe_op op_add_str (pe_op op_mulS pe_str pe_int) pe_str))) (psT_cons (psT_if (PWT.pt (pwT_or (ptT_not (ptT_val (peT_callT C_law_refused hr (by omega) (by rfl) (PA.t (pa_c (pv 8) pa_nil))))) (pwT_or (ptT_cmpR op_ne (peT_ix (ix_tupK K) (peT_callET C_read hr (by omega) (by rfl) (PA.t (pa_c (pv 9) pa_nil))) pe_int (fun _ _ => rfl)) (PE.t pe_str) (nomark _)) (pwT_or1 (ptT_not (ptT_val (peT_callT C_law_refused hr (by omega) (by rfl) (PA.t (pa_c (pe_op op_add_str pe_str (pv 9)) pa_nil))))))))) (PSs.t (pss_one (ps_ret pe_bl))) (PSs.t pss_nil)) (psT_cons (psT_if (PWT.pt (pwT_or (ptT_not (ptT_val (peT_callT C_law_refused hr (by omega) (by rfl) (PA.t (pa_c (pe_callC C_law_balanced hr (by omega) (by rfl) (pa_c pe_int pa_nil)) pa_nil))))) (pwT_or1 (ptT_cmpR op_ne (peT_ix (ix_tupK K) (peT_callET C_read hr (by omega) (by rfl) (PA.t (pa_c (pe_callC C_law_balanced hr (by omega) (by rfl) (pa_c pe_int pa_nil)) pa_nil))) pe_int (fun _ _ => rfl)) (PE.t pe_str) (nomark _))))) (PSs.t (pss_one (ps_ret pe_bl))) (PSs.t pss_nil)) (psT_one (psT_ret (peT_cmpR op_eq (peT_ix (ix_tupK K) (peT_callET C_read hr (by omega) (by rfl) (PA.t (pa_c (pe_op op_add_str pe_str (pe_callC C_law_balanced hr (by omega) (by rfl) (pa_c pe_int pa_nil))) pa_nil))) pe_int (fun _ _ => rfl)) (PE.t pe_str) (nomark _)))))))))))))))), ?_⟩
  refine rd_st [some (.ref a), none, none, none, none, none, none, none, none, none] rfl ?_
  simp only [rJoin, rNeS2, tLstN, rSlLN, tSeq, tIfS, tTest, tOp, tC, tNext, tRet, gName, tAsg, rI, rEq, tNil, tCons, tCall, tNoPart, tPart, tSl, tBM, tyV, iList, iRng1, rd_v0, rd_vS, rd_comp, rd_for, List.set_cons_zero, List.set_cons_succ, List.append_nil, V.int.injEq, V.str.injEq, V.bl.injEq, V.ref.injEq, List.cons.injEq, and_true, true_and, exists_eq_left', exists_and_left, rd_ii]
  refine ⟨small_line (by simp), fun p0 H0 n0 => ⟨a, ns, 0, rfl, n0.g.seq hS, by decide, fun c => ⟨c, rfl, by decide, _, n0.lst, fun pf H1 n1 => ⟨_, (n0.g.trans n1.g).seq hS, fun p2 H2 n2 => ⟨⟨_, n2.lst⟩, ?_⟩⟩⟩⟩⟩
  rw [cutL_map] at n2
  have l12 : (cutL ns (some 5) (some 17)).length ≤ 12 := by
    rw [show ((5 : Int)) = ((5 : Nat) : Int) from rfl, show ((17 : Int)) = ((17 : Nat) : Int) from rfl]
    unfold cutL
    rw [HT.sIx_nat, HT.sIx_nat, List.length_take]
    omega
  generalize cutL ns (some 5) (some 17) = ms at n2 l12
  obtain ⟨k, ek, hk⟩ : ∃ k : Nat, c % 3 = (k : Int) ∧ k ≤ 2 := ⟨(c % 3).toNat, by omega, by omega⟩
  have ef : H1 pf = some (.lst (((["a", "B"] : List Str).take k).map V.str)) := by
    rw [n1.at', ek, List.map_take, ← cutL_to]
    rfl
  have nm := names_aB k hk
  have ltl : ((["a", "B"] : List Str).take k).length ≤ 2 := by rw [List.length_take]; exact Nat.min_le_right _ _
  generalize (["a", "B"] : List Str).take k = tl at ef nm ltl
  refine cm_list (K := K) (a := p2) (xs := ms.map V.int) (fun σ => ∃ v, σ = [v]) (fun y => match y with | .int z => .int (z % 10 ^ 20) | v => v) (by rw [List.length_map]; omega) n2.lst ⟨_, rfl⟩ ?_ ?_
  · rintro D i σ H' x hi hm hx g hD hD' ⟨v, rfl⟩
    obtain ⟨z, mz, rfl⟩ := List.mem_map.mp hm
    simp only [tOp, tC, gName, rI, tYes, rd_v0, List.set_cons_zero, V.int.injEq, exists_eq_left', exists_and_left, if_true]
    exact ⟨⟨by decide, by decide, by decide⟩, by decide, cm_step (by rw [List.length_map]; omega) hx hD hD' g ⟨_, rfl⟩ rfl⟩
  intro D H3 hD g3 eD
  have eD' : H3 D = some (.lst ((ms.map fun z => z % 10 ^ 20).map V.int)) := by rw [eD, List.map_map, List.map_map]; rfl
  have g03 : Same H H3 := n0.g.trans (n1.g.trans (n2.g.trans g3))
  have cs0 : ∀ c ∈ ms.map fun z => z % (10 : Int) ^ 20, 0 ≤ c := fun c hc => by
    obtain ⟨z, _, rfl⟩ := List.mem_map.mp hc
    exact Int.emod_nonneg _ (by decide)
  have lcs : (ms.map fun z => z % (10 : Int) ^ 20).length ≤ 12 := by rw [List.length_map]; exact l12
  generalize (ms.map fun z => z % (10 : Int) ^ 20) = cs' at eD' cs0 lcs
  refine ⟨a, ns, 0, rfl, g03.seq hS, by decide, fun c2 => ⟨c2, rfl, ⟨by decide, by decide⟩, by decide, ?_⟩⟩
  generalize decide (c2 / 3 % 2 = 1) = tb
  have tlm : tl.length ≤ mxOf tb := by cases tb <;> simp [mxOf] <;> omega
  refine ⟨D, pf, cs', tl, 9, tb, rfl, by decide, eD', by omega, cs0, (n2.g.trans g3) _ _ ef, nm, tlm, by decide, .inl (by decide), fun v sy H4 g4 r4 go4 de4 pa4 => ?_⟩
  simp only [tReplace, tListRev, rSplit, rJoin, rPop, rMulS, rNeS2, tRaise, tTryA, rIsX, rIsXT, rRepN, rSetL, gSub, rUpper, rLower, iZip, rInD, rIxD, rLen, rAll, rAny, rSum, rListOf, rEqS, rNeS, rSlTN, rStrB, tTupN, tLstN, rSlLN, rCatN, cxK, cxP, cxW, tSeq, tIfS, tTest, tB, tOp, tUn, tC, tAnd, tOr, tNot, tAndV, tOrV, tNotV, tIf, tNext, tBreak, tCont, tDrop, tRet, tRetN, gName, gNil, gCons, gTup, tAsg, tPar, tAug, rI, rI0, rU, rEq, rNe, tChain, tNil, tCons, tTup, tLst, tCall, tCB, tNoPart, tPart, tSl, rSlT, rSlL, rSlS, rIxL, rIxT, rIxS, rIn, tBM0, tBM, tyV, rAppend, rExtend, rCat, rZfill, rEqD, iList, iTup, iStr, iRng1, iRng2, tYes, tDisp, tPairs, rd_v0, rd_vS, rd_comp, rd_for, rd_ite_t, rd_ite_f, List.set_cons_zero, List.set_cons_succ, List.nil_append, List.cons_append, List.append_nil, V.int.injEq, V.str.injEq, V.bl.injEq, V.ref.injEq, V.ty.injEq, List.cons.injEq, and_true, true_and, exists_eq_left, exists_eq_left', exists_and_left, exists_eq, exists_const, if_true, if_false, ite_true, ite_false, rd_ss, rd_si, rd_is, rd_ii, rd_bb, Option.some.injEq, exists_eq_right, exists_eq_right', and_assoc, reduceCtorEq, false_and, and_false, false_or, or_false, exists_false]
  have wf := (good_let tb sy tl tlm go4).1
  have wd := r4.wd
  have tkl := toks_len sy
  have tws := toks_wd wd wf
  have gd : goodB sy = true := goodB_iff.mpr ⟨wd, wf, by omega, by omega⟩
  refine ⟨v, sy, rfl, r4, by omega, by omega, fun pw H5 g5 e5 => ⟨pw, rfl, toksS sy, .of e5, joinW_ok tws (by omega), ?_⟩⟩
  rw [join_eq]
  have jl := join_len (toksS sy) tws
  have wj := wordsT_join tws
  have short : ∀ ws : List Str, (∀ z ∈ ws, Wd z) → ∀ x ∈ ws, x.length ≤ 1000 := fun ws h x hx => by have := (h x hx).len; omega
  refine ⟨_, rfl, .inl ⟨_, rfl, by omega, by rw [wj]; exact short _ tws, fun s' hs' u H6 g6 r6 => ?_, fun hn => by rw [wj, readW_toks gd] at hn; cases hn⟩⟩
  rw [wj, readW_toks gd] at hs'
  cases hs'
  refine ⟨false, ne_say r6 (r4.same (g5.trans g6)) (by omega), iteF ⟨by decide, by decide, ?_⟩⟩
  have g06 : Same H H6 := g03.trans (g4.trans (g5.trans g6))
  refine fb_range (lo := 0) (n := 6) (fun i σ H' => Same H6 H' ∧ ∃ v5 v6 : Option V, σ = [some (.ref a), some (.ref pf), some (.ref D), some v, some (.ref pw), v5, v6, none, none, none]) ⟨Same.refl _, _, _, rfl⟩ ?_ ?_
  · rintro i σ H' hi ⟨g, v5, v6, rfl⟩
    simp only [rJoin, tSeq, tIfS, tB, tOp, tC, tNot, tNext, tRet, gName, tAsg, rI, rI0, tNil, tCons, tCall, tBM, tyV, rd_v0, rd_vS, List.set_cons_zero, List.set_cons_succ, List.append_nil, V.int.injEq, V.str.injEq, List.cons.injEq, and_true, true_and, exists_eq_left', exists_and_left]
    refine ⟨a, ns, 1, rfl, (g06.trans g).seq hS, by decide, fun cc => ⟨.inl ⟨by omega, by omega⟩, cc, rfl, .inr ⟨by decide, by decide⟩, by decide, ?_⟩⟩
    refine ⟨pw, sy, _, _, rfl, gd, g _ _ (g6 _ _ e5), by omega, by omega, fun Ds ws H7 g7 e7 w7 l7 n7 => ⟨Ds, rfl, ws, .of e7, joinW_ok w7 (by omega), ?_⟩⟩
    rw [join_eq]
    exact ⟨_, rfl, .inl ⟨_, rfl, by have := join_len ws w7; omega, by rw [wordsT_join w7]; exact short ws w7, by rw [wordsT_join w7]; exact n7⟩, fun H8 g8 => ⟨true, rfl, iteF ⟨g.trans (g7.trans g8), _, rfl⟩⟩⟩
  rintro σ H' ⟨g, v5, v6, rfl⟩
  simp only [tSeq, tC, tNil, tCons, iRng2, rd_for, V.int.injEq, List.cons.injEq, and_true, exists_eq_left', exists_and_left, and_assoc]
  refine ⟨by decide, by decide, by decide, by decide, ?_⟩
  refine fb_range (lo := 2) (n := 3) (fun i σ H' => Same H6 H' ∧ ∃ v7 : Option V, σ = [some (.ref a), some (.ref pf), some (.ref D), some v, some (.ref pw), v5, v6, v7, none, none]) ⟨g, _, rfl⟩ ?_ ?_
  · rintro i σ H' hi ⟨g, v7, rfl⟩
    simp only [tIfS, tB, tOp, tC, tNot, tNext, tRet, gName, rI, tNil, tCons, tCall, rd_v0, rd_vS, List.set_cons_zero, List.set_cons_succ, List.append_nil, V.int.injEq, List.cons.injEq, and_true, true_and, exists_eq_left', exists_and_left]
    exact ⟨a, ns, 2 + (i : Int), rfl, (g06.trans g).seq hS, by omega, fun cc => ⟨⟨by decide, by decide, by decide⟩, cc, rfl, by decide, _, rfl, fun z H7 g7 mz => ⟨_, rfl, .inl ⟨z, rfl, by have := odd_len.2 z mz; omega, words_short' (odd_len.2 z mz), odd_none z mz⟩, fun H8 g8 => ⟨true, rfl, iteF ⟨g.trans (g7.trans g8), _, rfl⟩⟩⟩⟩⟩
  rintro σ H' ⟨g, v7, rfl⟩
  simp only [rMulS, tTupN, tLstN, tSeq, tIfS, tTest, tB, tOp, tC, tOr, tNot, tNext, tRet, gName, tAsg, rI, rEq, rNe, tNil, tCons, tCall, rIxL, rIxT, tDisp, tPairs, rd_v0, rd_vS, List.set_cons_zero, List.set_cons_succ, List.append_nil, V.int.injEq, V.str.injEq, V.bl.injEq, V.ref.injEq, exists_eq_left', exists_and_left, if_true]
  refine ⟨small_line (by simp), fun q1 K1 m1 => ⟨small_line (by simp), fun q2 K2 m2 => fun q3 z3 => ⟨upd_same, [(Sum.inr "x", .int 1)], rfl, by decide, small_line (by simp), fun q4 K4 m4 => ?_⟩⟩⟩
  have gd3 : Same K2 (upd (upd K2 q3 (.dK [])) q3 (.dK (mergeK [] [(Sum.inr "x", .int 1)]))) := fun b o e => by rw [upd_ne (ne_of_none e z3), upd_ne (ne_of_none e z3)]; exact e
  have gK : Same H K4 := g06.trans (g.trans (m1.g.trans (m2.g.trans (gd3.trans m4.g))))
  refine ⟨a, ns, 2, rfl, gK.seq hS, by decide, fun c3 => ⟨c3, rfl, by decide, _, m4.lst, ?_⟩⟩
  obtain ⟨xo, ho, mo⟩ := atI_mod (i := c3) (xs := [V.non, .int 7, .bl true, .ref q1, .ref q2, .ref q3]) (n := 6) rfl (by decide)
  have ko : ∃ k, Kd K4 xo k ∧ subT k "str" = false := by
    simp only [List.mem_cons, List.not_mem_nil, or_false] at mo
    rcases mo with rfl | rfl | rfl | rfl | rfl | rfl
    · exact ⟨_, .non, by decide⟩
    · exact ⟨_, .int _, by decide⟩
    · exact ⟨_, .bl _, by decide⟩
    · exact ⟨_, .tup ((m2.g.trans (gd3.trans m4.g)) _ _ m1.at'), by decide⟩
    · exact ⟨_, .lst ((gd3.trans m4.g) _ _ m2.at'), by decide⟩
    · exact ⟨_, .dK (m4.g _ _ upd_same), by decide⟩
  obtain ⟨ko, kd, ks⟩ := ko
  have ln : ("not " : Str).length = 4 := by decide +kernel
  have lx : ("x same x" : Str).length = 8 := by decide +kernel
  have lo : ("(" : Str).length = 1 := by decide +kernel
  have sh1 : ∀ n : Nat, ∀ x ∈ List.replicate n ("not" : Str) ++ (["x", "same", "x"] : List Str), x.length ≤ 1000 := fun n x hx => by
    rcases List.mem_append.mp hx with hx | hx
    · rw [(List.mem_replicate.mp hx).2]; decide +kernel
    · exact (by decide +kernel : ∀ x ∈ (["x", "same", "x"] : List Str), x.length ≤ 1000) x hx
  have sh2 : ∀ n : Nat, ∀ x ∈ List.replicate n ("(" : Str), x.length ≤ 1000 := fun n x hx => by rw [(List.mem_replicate.mp hx).2]; decide +kernel
  have w1 := wordsT_nots 1200
  have w2 := wordsT_opens 4000
  have w3 := wordsT_nots 11
  have r3 : readW (wordsT (mulS "not " 11 ++ "x same x")) = some (nestS 11) := by rw [w3, ← nest_toks]; exact readW_toks nest_good
  have w4 : wordsT ("not " ++ (mulS "not " 11 ++ "x same x")) = List.replicate 12 ("not" : Str) ++ (["x", "same", "x"] : List Str) := by rw [wordsT_not, w3]; rfl
  have m11 : (mulS "not " 11 ++ "x same x" : Str).length = 52 := by rw [app_len, mulS_len, ln, lx]
  refine ⟨xo, ho, by omega, by decide, by decide, by omega, by rw [mulS_len, ln, lx, sizeLine_eq]; decide, ?_⟩
  refine ⟨_, rfl, .inl ⟨_, rfl, by rw [app_len, mulS_len, ln, lx]; decide, by rw [show Int.toNat 1200 = 1200 from rfl, w1]; exact sh1 1200, by rw [show Int.toNat 1200 = 1200 from rfl, w1]; exact nots_none 1200 (by decide) _⟩, fun G1 h1 => ⟨true, rfl, iteF ⟨by omega, by decide, by decide, by omega, ?_⟩⟩⟩
  refine ⟨_, rfl, .inl ⟨_, rfl, by rw [mulS_len, lo]; decide, by rw [show Int.toNat 4000 = 4000 from rfl, w2]; exact sh2 4000, by rw [show Int.toNat 4000 = 4000 from rfl, w2]; exact opens_none 4000 (by decide)⟩, fun G2 h2 => ⟨true, rfl, iteF ⟨by omega, by decide, by decide, by omega, by rw [mulS_len, ln, lx, sizeLine_eq]; decide, ?_⟩⟩⟩
  refine ⟨_, rfl, .inr ⟨ko, (kd.same h1).same h2, ks⟩, fun G3 h3 => ⟨true, rfl, iteF ?_⟩⟩
  rw [show Int.toNat 11 = 11 from rfl]
  refine ⟨_, rfl, .inl ⟨_, rfl, by omega, by rw [w3]; exact sh1 11, fun s' hs' u G4 h4 r4' => ?_, fun hn => by rw [r3] at hn; cases hn⟩⟩
  rw [r3] at hs'
  cases hs'
  cases r4' with
  | neg e4 _ =>
  refine ⟨_, rfl, _, .of e4, _, atI_0, rfl, ?_⟩
  rw [decide_eq_true rfl]
  refine iteF ⟨by rw [ln, m11, sizeLine_eq]; decide, ?_⟩
  refine ⟨_, rfl, .inl ⟨_, rfl, by rw [app_len, ln, m11]; decide, by rw [w4]; exact sh1 12, by rw [w4]; exact nots_none 12 (by decide) _⟩, fun G5 h5 => ⟨true, rfl, iteF ?_⟩⟩
  obtain ⟨b1, b2, b3, b4⟩ := bal_bad
  have tl31 := bal_len 5 31
  have tl30 := bal_len 5 30
  have wt31 := wordsT_text b1 b2
  obtain ⟨g30, gn30⟩ := bal_good
  obtain ⟨c1, c2, _⟩ := goodB_iff.mp g30
  have wt30 := wordsT_text c1 c2
  have wtn : wordsT ("not " ++ textS (balF 5 30)) = toksS (.neg (balF 5 30)) := by rw [wordsT_not, wt30]; rfl
  refine ⟨31, rfl, by decide, by decide, fun G6 h6 => ⟨_, rfl, .inl ⟨_, rfl, by omega, by rw [wt31]; exact short _ (toks_wd b1 b2), by rw [wt31]; exact readW_great b1 b2 b3 b4⟩, fun G7 h7 => ⟨true, rfl, iteF ?_⟩⟩⟩
  refine ⟨30, rfl, by decide, by decide, fun G8 h8 => ⟨_, rfl, .inl ⟨_, rfl, by omega, by rw [wt30]; exact short _ (toks_wd c1 c2), fun s' hs' u G9 h9 r9 => ?_, fun hn => by rw [wt30, readW_toks g30] at hn; cases hn⟩⟩⟩
  rw [wt30, readW_toks g30] at hs'
  have es : s' = .two "and" (balF 4 15) (balF 4 15) := by
    cases hs'
    rfl
  rw [es] at r9
  cases r9 with
  | two _ e9 _ _ =>
  refine ⟨_, rfl, _, .of e9, _, atI_0, rfl, ?_⟩
  rw [decide_eq_true rfl]
  refine iteF ⟨30, rfl, by decide, by decide, fun G10 h10 => ⟨_, rfl, by rw [ln, sizeLine_eq]; omega, _, rfl, .inl ⟨_, rfl, by rw [app_len, ln]; omega, by rw [wtn]; exact short _ (toks_wd (s := .neg (balF 5 30)) c1 c2), fun s' hs' u G11 h11 r11 => ?_, fun hn => by rw [wtn, readW_toks gn30] at hn; cases hn⟩⟩⟩
  rw [wtn, readW_toks gn30] at hs'
  cases hs'
  cases r11 with
  | neg e11 _ => exact ⟨_, rfl, _, .of e11, _, atI_0, rfl, q G11⟩
end
end K08
set_option Elab.async false
set_option linter.all false
set_option maxRecDepth 100000
namespace K08
open PySem PySem.Spec PyProof.Rows L2 SS
section
variable {P : Program} {w : World} {K : PySem.W.Frag} {mg : Str → Option Value} {base : Heap} {f : Addr} {fd : FuncData} {tw ffm cNoText cSayError : Addr} {cs : List Addr}
theorem all (T : Txt K mg w tw ffm cNoText cSayError cs) (d_is_letter_with_figures : Dfn K mg "is_letter_with_figures" s_is_letter_with_figures ["thing", "letters"]) (d_is_place : Dfn K mg "is_place" s_is_place ["thing"]) (d_is_set : Dfn K mg "is_set" s_is_set ["thing"]) (d_is_name : Dfn K mg "is_name" s_is_name ["thing"]) (d_is_of_sort : Dfn K mg "is_of_sort" s_is_of_sort ["thing", "sort", "deepest"]) (d_has_form : Dfn K mg "has_form" s_has_form ["thing", "deepest"]) (d_inner_sayings : Dfn K mg "inner_sayings" s_inner_sayings ["saying"]) (d_count_parts : Dfn K mg "count_parts" s_count_parts ["saying"]) (d_is_any_saying : Dfn K mg "is_any_saying" s_is_any_saying ["thing"]) (d_words_between_blanks : Dfn K mg "words_between_blanks" s_words_between_blanks ["text"]) (d_words_of : Dfn K mg "words_of" s_words_of ["text"]) (d_take_word : Dfn K mg "take_word" s_take_word ["left"]) (d_take_saying : Dfn K mg "take_saying" s_take_saying ["left", "deepest"]) (d_take_pair : Dfn K mg "take_pair" s_take_pair ["left", "deepest"]) (d_read : Dfn K mg "read" s_read ["text"]) (d_law_cell_at : Dfn K mg "_law_cell_at" s_law_cell_at ["_law_script", "_law_k"]) (d_law_name : Dfn K mg "_law_name" s_law_name ["_law_cell", "_law_letters"]) (d_law_place : Dfn K mg "_law_place" s_law_place ["_law_cell"]) (d_law_set : Dfn K mg "_law_set" s_law_set ["_law_cell"]) (d_law_new : Dfn K mg "_law_new" s_law_new ["_law_number", "_law_known"]) (d_law_bare : Dfn K mg "_law_bare" s_law_bare ["_law_number", "_law_known", "_law_trees"]) (d_law_saying : Dfn K mg "_law_saying" s_law_saying ["_law_cells", "_law_known", "_law_deep", "_law_trees"]) (d_law_words : Dfn K mg "_law_words" s_law_words ["_law_saying_here"]) (d_law_refused : Dfn K mg "_law_refused" s_law_refused ["_law_text"]) (d_law_bare_at : Dfn K mg "_law_bare_at" s_law_bare_at ["_law_words_here", "_law_number"]) (d_law_spoilt : Dfn K mg "_law_spoilt" s_law_spoilt ["_law_words_here", "_law_way", "_law_number"]) (d_law_odd : Dfn K mg "_law_odd" s_law_odd ["_law_number"]) (d_law_balanced : Dfn K mg "_law_balanced" s_law_balanced ["_law_many"]) (F : Fun K "law" "law" s_law f fd) : FnOk P w K mg base CX0 33 f fd ["_law_script"] (sp_law K) := by
  have c1 := ok_lf (P := P) (w := w) (base := base) T d_is_letter_with_figures
  have c2 := ok_place T d_is_place c1
  have c3 := ok_set T d_is_set c1
  have c4 := ok_nm T d_is_name c2 c3
  have c6 := all_form T d_is_of_sort d_has_form c2 c3 c4 12
  have c7 := ok_inner (P := P) (w := w) (base := base) T d_inner_sayings
  have c9 := all_count T d_count_parts c7 13
  have c10 := ok_anysay T d_is_any_saying c6.1 c9
  have t2 := ok_between (P := P) (w := w) (base := base) T d_words_between_blanks
  have t3 := ok_words T d_words_of t2
  have t4 := ok_takeword (P := P) (w := w) (base := base) T d_take_word
  have t5 := all_takeE T d_take_saying d_take_pair t4 13
  have t6 := ok_readE T d_read t3 t5 c10
  have l1 := ok_cell (P := P) (w := w) (base := base) T d_law_cell_at
  have l2 := ok_name (P := P) (w := w) (base := base) T d_law_name
  have l3 := ok_lplace T d_law_place l2
  have l4 := ok_lset T d_law_set l2
  have l5 := ok_new T d_law_new l3 l4
  have l6 := ok_lbare (P := P) (w := w) (base := base) T d_law_bare
  have l7 := all_lsaying T d_law_saying l5 l6 11
  have l9 := all_lwords (P := P) (w := w) (base := base) T d_law_words 13
  have r1 := ok_refusedR T d_law_refused t6
  have r2 := ok_bareat (P := P) (w := w) (base := base) T d_law_bare_at
  have r3 := ok_spoilt T d_law_spoilt r2
  have r4 := ok_odd (P := P) (w := w) (base := base) T d_law_odd
  have r5 := all_bal (P := P) (w := w) (base := base) T d_law_balanced 5
  exact ok_law T F l1 l7 l9 r1 r3 r4 r5 t6
end
end K08
namespace K08
open PySem PySem.Spec PyProof.Rows L2 SS
theorem txt_mk {K : PySem.W.Frag} {mg : Str → Option Value} {w : World} {tw ffm cNoText cSayError dd0 dd1 dd2 dd3 dd4 dd5 dd6 dd7 : Addr} (h0 : mg "isinstance" = none) (h1 : mg "tuple" = none) (h2 : mg "str" = none) (h3 : mg "list" = none) (h4 : mg "int" = none) (h5 : mg "len" = none) (h6 : mg "all" = none) (h7 : mg "sum" = none) (h8 : mg "zip" = none) (h9 : mg "range" = none) (h10 : mg "reversed" = none) (h11 : mg "ValueError" = none) (h12 : GlV mg "FIGURES" (.str FIGS)) (h13 : GlV mg "LONGEST_NAME" (.int 4)) (h14 : GlV mg "SMALL_LETTERS" (.str SMALL)) (h15 : GlV mg "GREAT_LETTERS" (.str GREAT)) (h16 : GlV mg "DEEPEST" (.int 12)) (h17 : GlV mg "MOST_PARTS" (.int 60)) (h18 : GlV mg "TELLING_WORDS" (.ref tw)) (h19 : ∀ H, SqT K H tw [.str "some", .str "all"]) (h20 : GlV mg "FORMS" (.ref ffm)) (h21 : Forms K w ffm) (h22 : mg "NoText" = some (.ref cNoText)) (h23 : mg "SayError" = some (.ref cSayError)) (h24 : mg "NoFrame" = some (.ref dd0)) (h25 : mg "NoSaying" = some (.ref dd1)) (h26 : mg "NoRow" = some (.ref dd2)) (h27 : mg "NoTree" = some (.ref dd3)) (h28 : mg "NoWidth" = some (.ref dd4)) (h29 : mg "NoNumber" = some (.ref dd5)) (h30 : mg "TooGreat" = some (.ref dd6)) (h31 : mg "NoLine" = some (.ref dd7)) (h32 : KSup K cSayError) (h33 : KExc K cNoText) (h34 : PySem.W.mroIn K cNoText (.ref cSayError) = some true) (h35 : PySem.W.kitOne K (.ref cNoText) (.ref cNoText) = some true) (h36 : PySem.W.kitOne K (.ref cNoText) (.type "ValueError") = some true) (h37_0 : PySem.W.kitOne K (.ref cNoText) (.ref dd0) = some false) (h37_1 : PySem.W.kitOne K (.ref cNoText) (.ref dd1) = some false) (h37_2 : PySem.W.kitOne K (.ref cNoText) (.ref dd2) = some false) (h37_3 : PySem.W.kitOne K (.ref cNoText) (.ref dd3) = some false) (h37_4 : PySem.W.kitOne K (.ref cNoText) (.ref dd4) = some false) (h37_5 : PySem.W.kitOne K (.ref cNoText) (.ref dd5) = some false) (h37_6 : PySem.W.kitOne K (.ref cNoText) (.ref dd6) = some false) (h37_7 : PySem.W.kitOne K (.ref cNoText) (.ref dd7) = some false) (h38 : PySem.W.excIn K cNoText [.type "ValueError", .type "Exception", .type "BaseException", .type "object"] "ValueError.__new__" = true) : ∃ (qtw qffm qcNoText qcSayError : Addr) (cs : List Addr), Txt K mg w qtw qffm qcNoText qcSayError cs :=
  ⟨tw, ffm, cNoText, cSayError, [dd0, dd1, dd2, dd3, dd4, dd5, dd6, dd7], ⟨h0, h1, h2, h3, h4, h5, h6, h7, h8, h9, h10, h11, h12, h13, h14, h15, h16, h17, h18, h19, h20, h21, h22, h23, h24, h25, h26, h27, h28, h29, h30, h31, h32, h33, h34, h35, h36, (fun j hj => match j, hj with | 0, _ => h37_0 | 1, _ => h37_1 | 2, _ => h37_2 | 3, _ => h37_3 | 4, _ => h37_4 | 5, _ => h37_5 | 6, _ => h37_6 | 7, _ => h37_7 | _ + 8, h => absurd h (by omega)), h38⟩⟩
end K08
open PySem PySem.W PyProof.Rows
namespace PySem.W.Fast
theorem tw17000509622236464448 : True := trivial
theorem tw13821643566078596900 : True := trivial
theorem tw16438857806694149573 : True := trivial
theorem tw2513615034684262270 : True := trivial
theorem tw5211101258013968163 : True := trivial
theorem tw1642004671499843121 : True := trivial
theorem tw1652762802572218085 : True := trivial
theorem tw10420714154452104537 : True := trivial
theorem tw17360567153052109343 : True := trivial
theorem tw2357397686652267403 : True := trivial
theorem tw8480585116639999771 : True := trivial
theorem tw9454751411775625706 : True := trivial
theorem tw12921042282175160431 : True := trivial
theorem tw13330031319985469949 : True := trivial
theorem tw1359046592494801438 : True := trivial
theorem tw11740107739681564297 : True := trivial
theorem tw14734303974488502300 : True := trivial
theorem tw4068591774429744973 : True := trivial
theorem tw6232818336827390062 : True := trivial
theorem tw1923706558766786369 : True := trivial
theorem tw2724307399399757958 : True := trivial
theorem tw7702123256710243577 : True := trivial
theorem tw1794248011785867658 : True := trivial
theorem tw12647127472177467589 : True := trivial
theorem tw1435824202262445412 : True := trivial
theorem tw12224812022759755382 : True := trivial
theorem tw5914554355843999148 : True := trivial
theorem tw5693673279686165364 : True := trivial
theorem tw12806926763442808049 : True := trivial
theorem tw8183735450344260164 : True := trivial
theorem tw15247426820577001897 : True := trivial
theorem tw3666372650553507258 : True := trivial
theorem tw5817007662689202104 : True := trivial
theorem tw3822075455629711837 : True := trivial
theorem tw2247087201922552318 : True := trivial
theorem tw11088987646938585772 : True := trivial
theorem tw14947471894885427561 : True := trivial
theorem tw17673331941766115994 : True := trivial
theorem tw6992278131059428673 : True := trivial
theorem tw1307921956213639466 : True := trivial
theorem tw8214918468739798844 : True := trivial
theorem tw1509183269353894362 : True := trivial
theorem tw861973590222130741 : True := trivial
theorem tw7450706785923078851 : True := trivial
theorem tw17280719485698614027 : True := trivial
theorem tw11680908097837559903 : True := trivial
theorem tw13735202165045621662 : True := trivial
theorem tw4597063663597609165 : True := trivial
theorem tw7879524098106216567 : True := trivial
theorem tw12863098913021086803 : True := trivial
theorem tw9541417923283636396 : True := trivial
theorem tw12251207365477696210 : True := trivial
theorem tw17806260773805601394 : True := trivial
theorem tw5758335020789054030 : True := trivial
theorem tw16000089272604225493 : True := trivial
theorem tw15981546208269344717 : True := trivial
theorem tw11962556905115463964 : True := trivial
theorem tw16903489317146467063 : True := trivial
theorem tw3368946900201645545 : True := trivial
theorem tw10204539324262930173 : True := trivial
theorem tw12579598883668127331 : True := trivial
theorem tw17089547284515812323 : True := trivial
theorem tw838377214980511085 : True := trivial
end PySem.W.Fast
set_option maxRecDepth 100000 in
set_option maxHeartbeats 0 in
theorem PySem.Challenge.cw_setsays_k08_texts_refused_holds : PySem.Challenge.rw_setsays_k08_texts_refused.Holds := by
  w_on; o_law; k_head; (case hw => w_witness2)
  k_fill
  refine L2.walk_ofK (l := PySem.Challenge.rw_setsays_k08_texts_refused) (n := 63) (k := 33) (x := "_law_script") (CX := L2.CX0) (sp := K08.sp_law) rfl (by decide) rfl ⟨rfl, by decide, by decide⟩ (fun w h Y => PySem.W.kIn_of Y) ?F (fun _ _ a ns hl _ hS => ⟨a, ns, rfl, hS, hl, fun _ => rfl⟩) fun _ _ _ _ z => z
  case F =>
    intro w mg fa h KX G hmg
    obtain ⟨tw, g_TELLING_WORDS, t_TELLING_WORDS⟩ : ∃ q, L2.GlV mg "TELLING_WORDS" (.ref q) ∧ ∀ H, L2.SqT (L2.KOf KX) H q [.str "some", .str "all"] := by
      dsimp only [L2.KOf]
      refine' L2.glt_mk KX G ?a ?l ?z ?r
      (case a => k_is); (case l => k_is); (case z => decide); (case r => exact .cons ⟨_, rfl⟩ (.cons ⟨_, rfl⟩ (.nil)))
    obtain ⟨ff, g_FORMS, f_FORMS⟩ : ∃ q, L2.GlV mg "FORMS" (.ref q) ∧ SS.Forms (L2.KOf KX) w q := by
      dsimp only [L2.KOf]
      refine' SS.forms_mk KX G ?a ?lo ?l ?hk ?he
      (case a => k_is); (case lo => decide); (case l => k_is)
      (case hk => exact ⟨⟨_, _, rfl, rfl⟩, ⟨⟨_, _, rfl, rfl⟩, ⟨⟨_, _, rfl, rfl⟩, ⟨⟨_, _, rfl, rfl⟩, ⟨⟨_, _, rfl, rfl⟩, ⟨⟨_, _, rfl, rfl⟩, ⟨⟨_, _, rfl, rfl⟩, ⟨⟨_, _, rfl, rfl⟩, ⟨⟨_, _, rfl, rfl⟩, ⟨⟨_, _, rfl, rfl⟩, ⟨⟨_, _, rfl, rfl⟩, ⟨⟨_, _, rfl, rfl⟩, ⟨⟨_, _, rfl, rfl⟩, trivial⟩⟩⟩⟩⟩⟩⟩⟩⟩⟩⟩⟩⟩)
      refine' .cons ⟨⟨_, rfl⟩, _, rfl, SS.sqt_mk ?l0 ?z0 ?r0⟩ (.cons ⟨⟨_, rfl⟩, _, rfl, SS.sqt_mk ?l1 ?z1 ?r1⟩ (.cons ⟨⟨_, rfl⟩, _, rfl, SS.sqt_mk ?l2 ?z2 ?r2⟩ (.cons ⟨⟨_, rfl⟩, _, rfl, SS.sqt_mk ?l3 ?z3 ?r3⟩ (.cons ⟨⟨_, rfl⟩, _, rfl, SS.sqt_mk ?l4 ?z4 ?r4⟩ (.cons ⟨⟨_, rfl⟩, _, rfl, SS.sqt_mk ?l5 ?z5 ?r5⟩ (.cons ⟨⟨_, rfl⟩, _, rfl, SS.sqt_mk ?l6 ?z6 ?r6⟩ (.cons ⟨⟨_, rfl⟩, _, rfl, SS.sqt_mk ?l7 ?z7 ?r7⟩ (.cons ⟨⟨_, rfl⟩, _, rfl, SS.sqt_mk ?l8 ?z8 ?r8⟩ (.cons ⟨⟨_, rfl⟩, _, rfl, SS.sqt_mk ?l9 ?z9 ?r9⟩ (.cons ⟨⟨_, rfl⟩, _, rfl, SS.sqt_mk ?l10 ?z10 ?r10⟩ (.cons ⟨⟨_, rfl⟩, _, rfl, SS.sqt_mk ?l11 ?z11 ?r11⟩ (.cons ⟨⟨_, rfl⟩, _, rfl, SS.sqt_mk ?l12 ?z12 ?r12⟩ (.nil)))))))))))))
      (case l0 => k_is); (case z0 => decide); (case r0 => exact .cons ⟨_, rfl⟩ (.cons ⟨_, rfl⟩ (.nil)))
      (case l1 => k_is); (case z1 => decide); (case r1 => exact .cons ⟨_, rfl⟩ (.cons ⟨_, rfl⟩ (.nil)))
      (case l2 => k_is); (case z2 => decide); (case r2 => exact .cons ⟨_, rfl⟩ (.cons ⟨_, rfl⟩ (.nil)))
      (case l3 => k_is); (case z3 => decide); (case r3 => exact .cons ⟨_, rfl⟩ (.cons ⟨_, rfl⟩ (.nil)))
      (case l4 => k_is); (case z4 => decide); (case r4 => exact .cons ⟨_, rfl⟩ (.cons ⟨_, rfl⟩ (.nil)))
      (case l5 => k_is); (case z5 => decide); (case r5 => exact .cons ⟨_, rfl⟩ (.cons ⟨_, rfl⟩ (.nil)))
      (case l6 => k_is); (case z6 => decide); (case r6 => exact .cons ⟨_, rfl⟩ (.cons ⟨_, rfl⟩ (.nil)))
      (case l7 => k_is); (case z7 => decide); (case r7 => exact .cons ⟨_, rfl⟩ (.cons ⟨_, rfl⟩ (.nil)))
      (case l8 => k_is); (case z8 => decide); (case r8 => exact .cons ⟨_, rfl⟩ (.nil))
      (case l9 => k_is); (case z9 => decide); (case r9 => exact .cons ⟨_, rfl⟩ (.cons ⟨_, rfl⟩ (.nil)))
      (case l10 => k_is); (case z10 => decide); (case r10 => exact .cons ⟨_, rfl⟩ (.cons ⟨_, rfl⟩ (.nil)))
      (case l11 => k_is); (case z11 => decide); (case r11 => exact .cons ⟨_, rfl⟩ (.cons ⟨_, rfl⟩ (.nil)))
      (case l12 => k_is); (case z12 => decide); (case r12 => exact .cons ⟨_, rfl⟩ (.cons ⟨_, rfl⟩ (.nil)))
    obtain ⟨tw, ffm, cNoText, cSayError, cs, T⟩ : ∃ (tw ffm cNoText cSayError : Addr) (cs : List Addr), K08.Txt (L2.KOf KX) mg w tw ffm cNoText cSayError cs := by
      dsimp only [L2.KOf]
      refine' K08.txt_mk (PySem.W.mg_none_of KX G ?t0) (PySem.W.mg_none_of KX G ?t1) (PySem.W.mg_none_of KX G ?t2) (PySem.W.mg_none_of KX G ?t3) (PySem.W.mg_none_of KX G ?t4) (PySem.W.mg_none_of KX G ?t5) (PySem.W.mg_none_of KX G ?t6) (PySem.W.mg_none_of KX G ?t7) (PySem.W.mg_none_of KX G ?t8) (PySem.W.mg_none_of KX G ?t9) (PySem.W.mg_none_of KX G ?t10) (PySem.W.mg_none_of KX G ?t11) (L2.glv_mk KX G ?t12 ?r12) (L2.glv_mk KX G ?t13 ?r13) (L2.glv_mk KX G ?t14 ?r14) (L2.glv_mk KX G ?t15 ?r15) (L2.glv_mk KX G ?t16 ?r16) (L2.glv_mk KX G ?t17 ?r17) g_TELLING_WORDS t_TELLING_WORDS g_FORMS f_FORMS (PySem.W.mg_of KX G ?t22) (PySem.W.mg_of KX G ?t23) (PySem.W.mg_of KX G ?t24) (PySem.W.mg_of KX G ?t25) (PySem.W.mg_of KX G ?t26) (PySem.W.mg_of KX G ?t27) (PySem.W.mg_of KX G ?t28) (PySem.W.mg_of KX G ?t29) (PySem.W.mg_of KX G ?t30) (PySem.W.mg_of KX G ?t31) ⟨?t32a, ?t32b, ?t32c⟩ ⟨?t33a, ?t33b, ?t33c, ?t33d, ?t33e, ?t33f⟩ ?t34 ?t35 ?t36 ?t37_0 ?t37_1 ?t37_2 ?t37_3 ?t37_4 ?t37_5 ?t37_6 ?t37_7 ?t38
      (case t0 => k_is)
      (case t1 => k_is)
      (case t2 => k_is)
      (case t3 => k_is)
      (case t4 => k_is)
      (case t5 => k_is)
      (case t6 => k_is)
      (case t7 => k_is)
      (case t8 => k_is)
      (case t9 => k_is)
      (case t10 => k_is)
      (case t11 => k_is)
      (case t12 => k_is); (case r12 => exact ⟨_, rfl⟩)
      (case t13 => k_is); (case r13 => exact ⟨_, rfl⟩)
      (case t14 => k_is); (case r14 => exact ⟨_, rfl⟩)
      (case t15 => k_is); (case r15 => exact ⟨_, rfl⟩)
      (case t16 => k_is); (case r16 => exact ⟨_, rfl⟩)
      (case t17 => k_is); (case r17 => exact ⟨_, rfl⟩)
      (case t22 => k_is)
      (case t23 => k_is)
      (case t24 => k_is)
      (case t25 => k_is)
      (case t26 => k_is)
      (case t27 => k_is)
      (case t28 => k_is)
      (case t29 => k_is)
      (case t30 => k_is)
      (case t31 => k_is)
      (case t32a => k_is); (case t32b => k_is); (case t32c => k_is)
      (case t33a => k_is); (case t33b => k_is); (case t33c => k_is); (case t33d => k_is); (case t33e => k_is); (case t33f => k_is)
      (case t34 => k_is)
      (case t35 => kit_is)
      (case t36 => kit_is)
      (case t37_0 => kit_is)
      (case t37_1 => kit_is)
      (case t37_2 => kit_is)
      (case t37_3 => kit_is)
      (case t37_4 => kit_is)
      (case t37_5 => kit_is)
      (case t37_6 => kit_is)
      (case t37_7 => kit_is)
      (case t38 => k_exc)
    have d_is_letter_with_figures : L2.Dfn (L2.KOf KX) mg "is_letter_with_figures" K08.s_is_letter_with_figures ["thing", "letters"] := by
      dsimp only [L2.KOf]
      refine' L2.dfn_mk KX G ?a ?l ?c ?k (fun _ _ _ _ _ _ us hl => match us, hl with | [_, _], _ => rfl)
      (case a => k_is); (case l => k_is); (case c => k_is); (case k => k_is)
    have d_is_place : L2.Dfn (L2.KOf KX) mg "is_place" K08.s_is_place ["thing"] := by
      dsimp only [L2.KOf]
      refine' L2.dfn_mk KX G ?a ?l ?c ?k (fun _ _ _ _ _ _ us hl => match us, hl with | [_], _ => rfl)
      (case a => k_is); (case l => k_is); (case c => k_is); (case k => k_is)
    have d_is_set : L2.Dfn (L2.KOf KX) mg "is_set" K08.s_is_set ["thing"] := by
      dsimp only [L2.KOf]
      refine' L2.dfn_mk KX G ?a ?l ?c ?k (fun _ _ _ _ _ _ us hl => match us, hl with | [_], _ => rfl)
      (case a => k_is); (case l => k_is); (case c => k_is); (case k => k_is)
    have d_is_name : L2.Dfn (L2.KOf KX) mg "is_name" K08.s_is_name ["thing"] := by
      dsimp only [L2.KOf]
      refine' L2.dfn_mk KX G ?a ?l ?c ?k (fun _ _ _ _ _ _ us hl => match us, hl with | [_], _ => rfl)
      (case a => k_is); (case l => k_is); (case c => k_is); (case k => k_is)
    have d_is_of_sort : L2.Dfn (L2.KOf KX) mg "is_of_sort" K08.s_is_of_sort ["thing", "sort", "deepest"] := by
      dsimp only [L2.KOf]
      refine' L2.dfn_mk KX G ?a ?l ?c ?k (fun _ _ _ _ _ _ us hl => match us, hl with | [_, _, _], _ => rfl)
      (case a => k_is); (case l => k_is); (case c => k_is); (case k => k_is)
    have d_has_form : L2.Dfn (L2.KOf KX) mg "has_form" K08.s_has_form ["thing", "deepest"] := by
      dsimp only [L2.KOf]
      refine' L2.dfn_mk KX G ?a ?l ?c ?k (fun _ _ _ _ _ _ us hl => match us, hl with | [_, _], _ => rfl)
      (case a => k_is); (case l => k_is); (case c => k_is); (case k => k_is)
    have d_inner_sayings : L2.Dfn (L2.KOf KX) mg "inner_sayings" K08.s_inner_sayings ["saying"] := by
      dsimp only [L2.KOf]
      refine' L2.dfn_mk KX G ?a ?l ?c ?k (fun _ _ _ _ _ _ us hl => match us, hl with | [_], _ => rfl)
      (case a => k_is); (case l => k_is); (case c => k_is); (case k => k_is)
    have d_count_parts : L2.Dfn (L2.KOf KX) mg "count_parts" K08.s_count_parts ["saying"] := by
      dsimp only [L2.KOf]
      refine' L2.dfn_mk KX G ?a ?l ?c ?k (fun _ _ _ _ _ _ us hl => match us, hl with | [_], _ => rfl)
      (case a => k_is); (case l => k_is); (case c => k_is); (case k => k_is)
    have d_is_any_saying : L2.Dfn (L2.KOf KX) mg "is_any_saying" K08.s_is_any_saying ["thing"] := by
      dsimp only [L2.KOf]
      refine' L2.dfn_mk KX G ?a ?l ?c ?k (fun _ _ _ _ _ _ us hl => match us, hl with | [_], _ => rfl)
      (case a => k_is); (case l => k_is); (case c => k_is); (case k => k_is)
    have d_words_between_blanks : L2.Dfn (L2.KOf KX) mg "words_between_blanks" K08.s_words_between_blanks ["text"] := by
      dsimp only [L2.KOf]
      refine' L2.dfn_mk KX G ?a ?l ?c ?k (fun _ _ _ _ _ _ us hl => match us, hl with | [_], _ => rfl)
      (case a => k_is); (case l => k_is); (case c => k_is); (case k => k_is)
    have d_words_of : L2.Dfn (L2.KOf KX) mg "words_of" K08.s_words_of ["text"] := by
      dsimp only [L2.KOf]
      refine' L2.dfn_mk KX G ?a ?l ?c ?k (fun _ _ _ _ _ _ us hl => match us, hl with | [_], _ => rfl)
      (case a => k_is); (case l => k_is); (case c => k_is); (case k => k_is)
    have d_take_word : L2.Dfn (L2.KOf KX) mg "take_word" K08.s_take_word ["left"] := by
      dsimp only [L2.KOf]
      refine' L2.dfn_mk KX G ?a ?l ?c ?k (fun _ _ _ _ _ _ us hl => match us, hl with | [_], _ => rfl)
      (case a => k_is); (case l => k_is); (case c => k_is); (case k => k_is)
    have d_take_saying : L2.Dfn (L2.KOf KX) mg "take_saying" K08.s_take_saying ["left", "deepest"] := by
      dsimp only [L2.KOf]
      refine' L2.dfn_mk KX G ?a ?l ?c ?k (fun _ _ _ _ _ _ us hl => match us, hl with | [_, _], _ => rfl)
      (case a => k_is); (case l => k_is); (case c => k_is); (case k => k_is)
    have d_take_pair : L2.Dfn (L2.KOf KX) mg "take_pair" K08.s_take_pair ["left", "deepest"] := by
      dsimp only [L2.KOf]
      refine' L2.dfn_mk KX G ?a ?l ?c ?k (fun _ _ _ _ _ _ us hl => match us, hl with | [_, _], _ => rfl)
      (case a => k_is); (case l => k_is); (case c => k_is); (case k => k_is)
    have d_read : L2.Dfn (L2.KOf KX) mg "read" K08.s_read ["text"] := by
      dsimp only [L2.KOf]
      refine' L2.dfn_mk KX G ?a ?l ?c ?k (fun _ _ _ _ _ _ us hl => match us, hl with | [_], _ => rfl)
      (case a => k_is); (case l => k_is); (case c => k_is); (case k => k_is)
    have d_law_cell_at : L2.Dfn (L2.KOf KX) mg "_law_cell_at" K08.s_law_cell_at ["_law_script", "_law_k"] := by
      dsimp only [L2.KOf]
      refine' L2.dfn_mk KX G ?a ?l ?c ?k (fun _ _ _ _ _ _ us hl => match us, hl with | [_, _], _ => rfl)
      (case a => k_is); (case l => k_is); (case c => k_is); (case k => k_is)
    have d_law_name : L2.Dfn (L2.KOf KX) mg "_law_name" K08.s_law_name ["_law_cell", "_law_letters"] := by
      dsimp only [L2.KOf]
      refine' L2.dfn_mk KX G ?a ?l ?c ?k (fun _ _ _ _ _ _ us hl => match us, hl with | [_, _], _ => rfl)
      (case a => k_is); (case l => k_is); (case c => k_is); (case k => k_is)
    have d_law_place : L2.Dfn (L2.KOf KX) mg "_law_place" K08.s_law_place ["_law_cell"] := by
      dsimp only [L2.KOf]
      refine' L2.dfn_mk KX G ?a ?l ?c ?k (fun _ _ _ _ _ _ us hl => match us, hl with | [_], _ => rfl)
      (case a => k_is); (case l => k_is); (case c => k_is); (case k => k_is)
    have d_law_set : L2.Dfn (L2.KOf KX) mg "_law_set" K08.s_law_set ["_law_cell"] := by
      dsimp only [L2.KOf]
      refine' L2.dfn_mk KX G ?a ?l ?c ?k (fun _ _ _ _ _ _ us hl => match us, hl with | [_], _ => rfl)
      (case a => k_is); (case l => k_is); (case c => k_is); (case k => k_is)
    have d_law_new : L2.Dfn (L2.KOf KX) mg "_law_new" K08.s_law_new ["_law_number", "_law_known"] := by
      dsimp only [L2.KOf]
      refine' L2.dfn_mk KX G ?a ?l ?c ?k (fun _ _ _ _ _ _ us hl => match us, hl with | [_, _], _ => rfl)
      (case a => k_is); (case l => k_is); (case c => k_is); (case k => k_is)
    have d_law_bare : L2.Dfn (L2.KOf KX) mg "_law_bare" K08.s_law_bare ["_law_number", "_law_known", "_law_trees"] := by
      dsimp only [L2.KOf]
      refine' L2.dfn_mk KX G ?a ?l ?c ?k (fun _ _ _ _ _ _ us hl => match us, hl with | [_, _, _], _ => rfl)
      (case a => k_is); (case l => k_is); (case c => k_is); (case k => k_is)
    have d_law_saying : L2.Dfn (L2.KOf KX) mg "_law_saying" K08.s_law_saying ["_law_cells", "_law_known", "_law_deep", "_law_trees"] := by
      dsimp only [L2.KOf]
      refine' L2.dfn_mk KX G ?a ?l ?c ?k (fun _ _ _ _ _ _ us hl => match us, hl with | [_, _, _, _], _ => rfl)
      (case a => k_is); (case l => k_is); (case c => k_is); (case k => k_is)
    have d_law_words : L2.Dfn (L2.KOf KX) mg "_law_words" K08.s_law_words ["_law_saying_here"] := by
      dsimp only [L2.KOf]
      refine' L2.dfn_mk KX G ?a ?l ?c ?k (fun _ _ _ _ _ _ us hl => match us, hl with | [_], _ => rfl)
      (case a => k_is); (case l => k_is); (case c => k_is); (case k => k_is)
    have d_law_refused : L2.Dfn (L2.KOf KX) mg "_law_refused" K08.s_law_refused ["_law_text"] := by
      dsimp only [L2.KOf]
      refine' L2.dfn_mk KX G ?a ?l ?c ?k (fun _ _ _ _ _ _ us hl => match us, hl with | [_], _ => rfl)
      (case a => k_is); (case l => k_is); (case c => k_is); (case k => k_is)
    have d_law_bare_at : L2.Dfn (L2.KOf KX) mg "_law_bare_at" K08.s_law_bare_at ["_law_words_here", "_law_number"] := by
      dsimp only [L2.KOf]
      refine' L2.dfn_mk KX G ?a ?l ?c ?k (fun _ _ _ _ _ _ us hl => match us, hl with | [_, _], _ => rfl)
      (case a => k_is); (case l => k_is); (case c => k_is); (case k => k_is)
    have d_law_spoilt : L2.Dfn (L2.KOf KX) mg "_law_spoilt" K08.s_law_spoilt ["_law_words_here", "_law_way", "_law_number"] := by
      dsimp only [L2.KOf]
      refine' L2.dfn_mk KX G ?a ?l ?c ?k (fun _ _ _ _ _ _ us hl => match us, hl with | [_, _, _], _ => rfl)
      (case a => k_is); (case l => k_is); (case c => k_is); (case k => k_is)
    have d_law_odd : L2.Dfn (L2.KOf KX) mg "_law_odd" K08.s_law_odd ["_law_number"] := by
      dsimp only [L2.KOf]
      refine' L2.dfn_mk KX G ?a ?l ?c ?k (fun _ _ _ _ _ _ us hl => match us, hl with | [_], _ => rfl)
      (case a => k_is); (case l => k_is); (case c => k_is); (case k => k_is)
    have d_law_balanced : L2.Dfn (L2.KOf KX) mg "_law_balanced" K08.s_law_balanced ["_law_many"] := by
      dsimp only [L2.KOf]
      refine' L2.dfn_mk KX G ?a ?l ?c ?k (fun _ _ _ _ _ _ us hl => match us, hl with | [_], _ => rfl)
      (case a => k_is); (case l => k_is); (case c => k_is); (case k => k_is)
    have L : ∃ fd : FuncData, (∀ (s : Shared) (v : Value), BindsTo s fd ⟨[v], []⟩ [("_law_script", v)]) ∧ L2.Fun (L2.KOf KX) "law" "law" K08.s_law fa fd := by
      dsimp only [L2.KOf]
      refine' L2.law_mk KX G hmg ?a ?l ?c ?k ?b
      (case a => k_is); (case l => k_is); (case c => k_is); (case k => k_is)
      exact fun s u => .of_eq rfl
    obtain ⟨fd, hb, F⟩ := L
    exact ⟨fd, hb, fun base _ _ => K08.all T d_is_letter_with_figures d_is_place d_is_set d_is_name d_is_of_sort d_has_form d_inner_sayings d_count_parts d_is_any_saying d_words_between_blanks d_words_of d_take_word d_take_saying d_take_pair d_read d_law_cell_at d_law_name d_law_place d_law_set d_law_new d_law_bare d_law_saying d_law_words d_law_refused d_law_bare_at d_law_spoilt d_law_odd d_law_balanced F⟩
#print axioms PySem.Challenge.cw_setsays_k08_texts_refused_holds
