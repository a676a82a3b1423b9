import PyProof.Rows.All
import Wide.All
import OpenK.AllK
import Wide.FinOn
import Lean
import PyProof.EqAt
import PyProof.EqKinds
import PyProof.TupleCall
import PyProof.CodeObjX
import PyProof.NeKinds
import PyProof.ZipIter
import PyProof.EnumStmt
import PyProof.EnumMake
import KE.KDictOf
import PyProof.AttrMissHeap
import PyProof.Rows.SeqMore2
import PyProof.Rows.MinMaxN
import PyProof.DefMake
import PyProof.DefStmt
import PyProof.RaisesMany
import PyProof.ExcClass2
import PyProof.Rows.Own
import PyProof.Rows.CatchOwn
import PyProof.RulesDel
import PyProof.ListNew
import KE.KIsAll
import PyProof.IsiH_list
import PyProof.ExcArgsOwn
import OpenK.KOwn
import PyProof.ExcBaseAll.ValueError
import PyProof.CallType
import PyProof.FactsAll.list_2
import PySem.SetOps
import PyProof.AutoListH
import PySem.Challenge.RW_setsays_k24_dropped
set_option Elab.async false
set_option maxRecDepth 100000
namespace L2
open PySem PySem.Spec PyProof.Rows
abbrev Key := Sum Int Str
def blI (b : Bool) : Int := if b = true then 1 else 0
def isBl (k : Int) : Value → Bool
  | .bool b => k == blI b
  | _ => false
def keyIs : Key → Value → Bool
  | .inl k, v => Value.isInt k v || isBl k v
  | .inr x, v => Value.isStrOf x v
def keyH (w : World) : Key → Int
  | .inl k => hashInt k
  | .inr x => hashStr w x
theorem isBl_shape {k : Int} : ∀ {v : Value}, isBl k v = true → ∃ b, k = blI b ∧ v = Value.bool b := by
  intro v h
  cases v
  case bool b => exact ⟨b, eq_of_beq h, rfl⟩
  all_goals exact absurd h Bool.false_ne_true
theorem keyIs_shape : ∀ {k : Key} {v : Value}, keyIs k v = true → (∃ i t, k = Sum.inl i ∧ v = Value.int i t) ∨ (∃ x t, k = Sum.inr x ∧ v = Value.str x t) ∨ ∃ b, k = Sum.inl (blI b) ∧ v = Value.bool b
  | .inl i, v, h => by
    rcases (Bool.or_eq_true _ _).mp (show (Value.isInt i v || isBl i v) = true from h) with h | h
    · obtain ⟨t, e⟩ := Value.isInt_shape (k := i) (v := v) h
      exact .inl ⟨i, t, rfl, e⟩
    · obtain ⟨b, e, e'⟩ := isBl_shape h
      exact .inr (.inr ⟨b, by rw [e], e'⟩)
  | .inr x, v, h => by
    obtain ⟨t, e⟩ := Value.isStrOf_shape (x := x) (v := v) h
    exact .inr (.inl ⟨x, t, rfl, e⟩)
theorem keyIs_int (i : Int) (t : Tok) : keyIs (.inl i) (.int i t) = true := by simp [keyIs, Value.isInt]
theorem keyIs_bl (b : Bool) : keyIs (.inl (blI b)) (.bool b) = true := by simp [keyIs, isBl]
theorem blI_inj {a b : Bool} (e : blI a = blI b) : a = b := by
  cases a <;> cases b <;> first | rfl | exact absurd e (by decide)
theorem hash_bl {prog : Program} {w : World} {A : Around} {E : Value → Shared → Prop} {s : Shared} {b : Bool} {Q : Int → Shared → Prop} (h : Q (hashInt (blI b)) { s with toks := s.toks + 1 }) : wpAny (model prog w) A (pyHash (.bool b)) Q E s := by
  have hT : s.TypeIs (.bool b) "bool" := rfl
  have hr := rawHash_range (blI b)
  unfold pyHash
  refine wpAny_bind ?_
  rw [cRoomFor, if_neg (show ¬ [Value.bool b].any Value.onHeap = true from Bool.false_ne_true)]
  refine wpAny_pure (wpAny_bind (wpAny_specialOf hT PySem.F.slot_bool_hash.lookup ?_))
  show wpAny _ _ (if (some (Value.builtin "int.__hash__") == some Value.none) = true then _ else _) Q E s
  rw [if_neg (show ¬ (some (Value.builtin "int.__hash__") == some Value.none) = true from Bool.false_ne_true)]
  refine wpAny_bind (wpAny_specialOf hT PySem.F.slot_bool_hash.lookup ?_)
  show wpAny _ _ (callSpecialIfBoundUnlessNone? (.bool b) "__hash__" _ >>= _) Q E s
  refine wpAny_bind (wpAny_callSpecialIfBoundUnlessNone?_slot hT PySem.F.slot_bool_hash (wpAny_call_entry PySem.F.slot_bool_hash hT PySem.F.entry_int_hash ?_ (PySem.F.args_int_hash_1 _)))
  refine (show wpAny _ _ (do ret (← mkInt (rawHash (blI b)))) _ _ s from wpAny_ret_mkInt ?_)
  show wpAny _ _ (if (decide (-(2 : Int) ^ 63 ≤ rawHash (blI b)) && decide (rawHash (blI b) < 2 ^ 63)) = true then _ else _) Q E _
  rw [if_pos (by rw [decide_eq_true hr.1, decide_eq_true hr.2]; rfl)]
  exact wpAny_pure h
theorem keyIs_str (x : Str) (t : Tok) : keyIs (.inr x) (.str x t) = true := by simp [keyIs, Value.isStrOf]
theorem key_ll (a b : Int) : decide ((Sum.inl a : Key) = Sum.inl b) = (a == b) := by
  by_cases e : a = b
  · subst e; simp
  · have h : ¬ (Sum.inl a : Key) = Sum.inl b := fun q => e (Sum.inl.inj q)
    rw [decide_eq_false h]
    exact (beq_eq_false_iff_ne.mpr e).symm
theorem key_rr (a b : Str) : decide ((Sum.inr a : Key) = Sum.inr b) = decide (a = b) := by
  by_cases e : a = b
  · subst e; simp
  · have h : ¬ (Sum.inr a : Key) = Sum.inr b := fun q => e (Sum.inr.inj q)
    rw [decide_eq_false h, decide_eq_false e]
theorem key_lr (a : Int) (b : Str) : decide ((Sum.inl a : Key) = Sum.inr b) = false := decide_eq_false (fun q => nomatch q)
theorem key_rl (a : Str) (b : Int) : decide ((Sum.inr a : Key) = Sum.inl b) = false := decide_eq_false (fun q => nomatch q)
def mixKind (prog : Program) (w : World) : PySem.KeyKind prog w Key where
  is := keyIs
  hash := keyH w
  inj := fun v a b ha hb => by
    rcases keyIs_shape ha with ⟨i, t, rfl, rfl⟩ | ⟨x, t, rfl, rfl⟩ | ⟨c, rfl, rfl⟩
    · rcases keyIs_shape hb with ⟨j, u, rfl, e⟩ | ⟨y, u, rfl, e⟩ | ⟨d, rfl, e⟩
      · injection e with e1 _; rw [e1]
      · exact nomatch e
      · exact nomatch e
    · rcases keyIs_shape hb with ⟨j, u, rfl, e⟩ | ⟨y, u, rfl, e⟩ | ⟨d, rfl, e⟩
      · exact nomatch e
      · injection e with e1 _; rw [e1]
      · exact nomatch e
    · rcases keyIs_shape hb with ⟨j, u, rfl, e⟩ | ⟨y, u, rfl, e⟩ | ⟨d, rfl, e⟩
      · exact nomatch e
      · exact nomatch e
      · injection e with e1; rw [e1]
  byValue := fun k v h => by
    rcases keyIs_shape h with ⟨i, t, rfl, rfl⟩ | ⟨x, t, rfl, rfl⟩ | ⟨c, rfl, rfl⟩ <;> rfl
  pyHash := fun hv h => by
    rcases keyIs_shape hv with ⟨i, t, rfl, rfl⟩ | ⟨x, t, rfl, rfl⟩ | ⟨c, rfl, rfl⟩
    · exact wpAny_pyHash_int h
    · exact wpAny_pyHash_str h
    · exact hash_bl h
  eqBool := fun hu hv h => by
    rcases keyIs_shape hu with ⟨i, t, rfl, rfl⟩ | ⟨x, t, rfl, rfl⟩ | ⟨c, rfl, rfl⟩
    · rcases keyIs_shape hv with ⟨j, u, rfl, rfl⟩ | ⟨y, u, rfl, rfl⟩ | ⟨d, rfl, rfl⟩
      · rw [key_ll] at h; exact wpAny_eqBool_int h
      · rw [key_lr] at h; exact SeqAt.EqAt.int_str i t y u _ _ _ _ h
      · rw [key_ll] at h; exact SeqAt.EqAt.int_bool i t d _ _ _ _ h
    · rcases keyIs_shape hv with ⟨j, u, rfl, rfl⟩ | ⟨y, u, rfl, rfl⟩ | ⟨d, rfl, rfl⟩
      · rw [key_rl] at h; exact SeqAt.EqAt.str_int x t j u _ _ _ _ h
      · rw [key_rr] at h; exact wpAny_eqBool_str h
      · rw [key_rl] at h; exact SeqAt.EqAt.str_bool x t d _ _ _ _ h
    · rcases keyIs_shape hv with ⟨j, u, rfl, rfl⟩ | ⟨y, u, rfl, rfl⟩ | ⟨d, rfl, rfl⟩
      · rw [key_ll] at h; exact SeqAt.EqAt.bool_int c j u _ _ _ _ h
      · rw [key_lr] at h; exact SeqAt.EqAt.bool_str c y u _ _ _ _ h
      · rw [key_ll, show (blI c == blI d) = (c == d) by cases c <;> cases d <;> rfl] at h
        exact SeqAt.EqAt.bool_bool c d _ _ _ _ h
  «strs» := fun k x t v h => by
    rcases keyIs_shape h with ⟨i, u, rfl, e⟩ | ⟨y, u, rfl, e⟩ | ⟨d, rfl, e⟩
    · exact nomatch e
    · injection e with e1 _
      subst e1
      cases v <;> rfl
    · exact nomatch e
theorem mixKind_int (prog : Program) (w : World) (i : Int) (t : Tok) : (mixKind prog w).is (.inl i) (.int i t) = true := keyIs_int i t
theorem mixKind_str (prog : Program) (w : World) (x : Str) (t : Tok) : (mixKind prog w).is (.inr x) (.str x t) = true := keyIs_str x t
inductive V where
  | non | bl (b : Bool) | int (i : Int) | str (x : Str) | byt (b : Array UInt8) | flt (b : UInt64) | ref (a : Addr) | ty (n : String)
  deriving DecidableEq
def RelV : V → Value → Prop
  | .non, u => u = Value.none
  | .bl b, u => u = Value.bool b
  | .int i, u => ∃ t, u = Value.int i t
  | .str x, u => ∃ t, u = Value.str x t
  | .byt b, u => ∃ t, u = Value.bytes b t
  | .flt b, u => ∃ t, u = Value.float b t
  | .ref a, u => u = Value.ref a
  | .ty n, u => u = Value.type n
abbrev Vals : List V → List Value → Prop := Paired RelV
theorem Vals.length {xs : List V} {us : List Value} (r : Vals xs us) : xs.length = us.length := Paired.length r
theorem Vals.get : ∀ {xs : List V} {us : List Value} {i : Nat} {x : V}, Vals xs us → xs[i]? = some x → ∃ u, us[i]? = some u ∧ RelV x u
  | _, _, _, _, .nil, e => by simp at e
  | _, _, 0, _, .cons r _, e => by simp at e; subst e; exact ⟨_, rfl, r⟩
  | _, _, i + 1, x, .cons _ t, e => by
    obtain ⟨u, h1, h2⟩ := Vals.get (i := i) (x := x) t (by simpa using e)
    exact ⟨u, by simpa using h1, h2⟩
theorem Vals.append : ∀ {xs ys : List V} {us ws : List Value}, Vals xs us → Vals ys ws → Vals (xs ++ ys) (us ++ ws)
  | _, _, _, _, .nil, s => s
  | _, _, _, _, .cons r t, s => .cons r (Vals.append t s)
theorem Vals.take : ∀ {xs : List V} {us : List Value} (n : Nat), Vals xs us → Vals (xs.take n) (us.take n)
  | _, _, 0, _ => .nil
  | _, _, _ + 1, .nil => .nil
  | _, _, n + 1, .cons r t => .cons r (Vals.take n t)
theorem Vals.drop : ∀ {xs : List V} {us : List Value} (n : Nat), Vals xs us → Vals (xs.drop n) (us.drop n)
  | _, _, 0, r => r
  | _, _, _ + 1, .nil => .nil
  | _, _, n + 1, .cons _ t => Vals.drop n t
def RelO : Option V → Option Value → Prop
  | some v, some u => RelV v u
  | none, none => True
  | _, _ => False
def KV {κ : Type} : List (κ × V) → List (κ × Value) → Prop := Paired fun (p : κ × V) (q : κ × Value) => p.1 = q.1 ∧ RelV p.2 q.2
def kV : Key → V
  | .inl i => .int i
  | .inr x => .str x
inductive HO where
    | lst (xs : List V)
    | tup (xs : List V)
    | dK (kvs : List (Key × V)) | dT (kvs : List (List Key × V))
    | set (S : Int → Bool) (n : Nat)
    | ins (C dx : Addr) (fs : List (Str × V))
    | own (x : Addr)
    | xd (fs : List (Str × V))
    | met (f x : Addr)
    | rng (lo hi : Int)
    | frz (o : Obj) (u : HO)
    | tbl (qs : List (Pos × Str)) (ps : Array Value)
    | ext (φ : Heap → Prop)
abbrev Hp := Addr → Option HO
def upd (H : Hp) (a : Addr) (o : HO) : Hp := fun b => if b = a then some o else H b
theorem upd_same {H : Hp} {a : Addr} {o : HO} : upd H a o a = some o := by unfold upd; rw [if_pos rfl]
theorem upd_ne {H : Hp} {a b : Addr} {o : HO} (h : b ≠ a) : upd H a o b = H b := by unfold upd; rw [if_neg h]
theorem ne_of {H : Hp} {a b : Addr} {o u : HO} (h : H a = some o) (h' : H b = some u) (d : o ≠ u) : a ≠ b := by
  intro e; subst e; rw [h] at h'; exact d (Option.some.inj h')
theorem ne_of_none {H : Hp} {a b : Addr} {o : HO} (h : H a = some o) (h' : H b = none) : a ≠ b := by
  intro e; subst e; rw [h] at h'; cases h'
section
variable (P : Program) (w : World)
def CodeObj (o : Obj) (q : Str) : Prop := ∃ vs t, o.data = .fields vs ∧ vs[1]? = some (.str q t)
def ObjOk (H : Hp) (h : Heap) (a : Addr) : HO → Prop
  | .lst xs => xs.length ≤ sizeLine ∧ ∃ (its : List Value) (n : Nat), Vals xs its ∧ h.get? a = some { cls := .type "list", data := .seq its.toArray n }
  | .tup xs => xs.length ≤ sizeLine ∧ ∃ its : List Value, Vals xs its ∧ IsTup h a its.toArray
  | .dK kvs => kvs.length ≤ sizeLine ∧ (a == sysModules) = false ∧ ∃ vs, KV kvs vs ∧ h.DictOf (mixKind P w) a vs
  | .dT kvs => kvs.length ≤ sizeLine ∧ (a == sysModules) = false ∧ ∃ xs : List (List Key × Addr × Value),
      Paired (fun (p : List Key × V) (q : List Key × Addr × Value) => p.1 = q.1 ∧ H q.2.1 = some (.tup (p.1.map kV)) ∧ RelV p.2 q.2.2) kvs xs ∧
      ∃ o es ep, h.get? a = some o ∧ o.ExactDict ∧ o.data = .dict es ep ∧ es.toList = xs.map (entryOfKey (tupleKind (mixKind P w))) ∧ (xs.map (·.1)).Nodup
  | .set S n => h.SetOf (intKind P w) a S n
  | .ins C dx fs => H dx = some (.own a) ∧ fs.length ≤ 1000 ∧ dx ≠ a ∧ h.get? a = some (PySem.W.instObj C dx) ∧
      ∃ mA, h.Ns1 dx mA ∧ (∀ f, RelO (fs.lookup f) (mA f)) ∧ PySem.Within mA (fs.map (·.1))
  | .own _ => ∃ o, h.get? a = some o
  | .xd fs => ∃ mA, h.Ns1 a mA ∧ ∀ f, RelO (fs.lookup f) (mA f)
  | .rng lo hi => ∃ t u v, h.get? a = some { cls := .type "range", data := .fields #[.int lo t, .int hi u, .int 1 v] }
  | .frz o u => h.get? a = some o ∧ ObjOk H h a u
  | .tbl qs ps => ∃ more : Array Value, h.get? a = some { cls := .none, data := .fields (ps ++ more) } ∧ TriplesOk (ps ++ more).toList ∧ ∀ p ∈ qs, ∀ v, codeAmong p.1 (ps ++ more).toList = some v → ∃ c o, v = .ref c ∧ H c = some (.frz o (.own c)) ∧ CodeObj o p.2
  | .met f x => h.get? a = some (PySem.W.methodObj (.ref f) (.ref x))
  | .ext φ => φ h ∧ (∃ o, h.get? a = some o) ∧ ∀ h1 h2 : Heap, φ h1 → (∀ o, h1.get? a = some o → h2.get? a = some o) → φ h2
def HOk (H : Hp) (h : Heap) : Prop := ∀ a o, H a = some o → ObjOk P w H h a o
end
section
variable {P : Program} {w : World} {H H' : Hp} {h h' : Heap} {a : Addr} {o : HO}
theorem ObjOk.lt (x : ObjOk P w H h a o) : a < h.objs.size := by
  cases o with
  | lst xs => obtain ⟨_, _, _, _, e⟩ := x; exact Heap.lt_size e
  | tup xs => obtain ⟨_, _, _, p⟩ := x; exact p.lt
  | dK kvs => obtain ⟨_, _, _, _, o, _, _, e, _⟩ := x; exact Heap.lt_size e
  | dT kvs => obtain ⟨_, _, _, _, o, _, _, e, _⟩ := x; exact Heap.lt_size e
  | set S n => obtain ⟨o, _, _, _, e, _⟩ := x; exact Heap.lt_size e
  | ins C dx fs => obtain ⟨_, _, _, e, _⟩ := x; exact Heap.lt_size e
  | own y => obtain ⟨_, e⟩ := x; exact Heap.lt_size e
  | xd fs => obtain ⟨_, ⟨_, _, _, e, _⟩, _⟩ := x; exact Heap.lt_size e
  | rng lo hi => obtain ⟨_, _, _, e⟩ := x; exact Heap.lt_size e
  | frz ob u => obtain ⟨e, _⟩ := x; exact Heap.lt_size e
  | tbl qs ps => obtain ⟨_, e, _⟩ := x; exact Heap.lt_size e
  | met f y => exact Heap.lt_size (show h.get? a = some _ from x)
  | ext φ => obtain ⟨_, ⟨_, e⟩, _⟩ := x; exact Heap.lt_size e
theorem Paired.mapP {α β : Type} {F G : α → β → Prop} : ∀ {l₁ : List α} {l₂ : List β}, Paired F l₁ l₂ → (∀ a b, F a b → G a b) → Paired G l₁ l₂
  | _, _, .nil, _ => .nil
  | _, _, .cons r t, f => .cons (f _ _ r) (Paired.mapP t f)
theorem ObjOk.stay (x : ObjOk P w H h a o) (k : ∀ b u, (b = a ∨ H b = some (.own a)) → h.get? b = some u → h'.get? b = some u)
    (ho : ∀ b, H b = some (.own a) → H' b = some (.own a)) (hf : ∀ b o u q, CodeObj o q → H b = some (.frz o u) → H' b = some (.frz o u)) (ht : ∀ b xs, H b = some (.tup xs) → H' b = some (.tup xs)) : ObjOk P w H' h' a o := by
  induction o with
  | lst xs => obtain ⟨z, its, n, r, e⟩ := x; exact ⟨z, its, n, r, k _ _ (.inl rfl) e⟩
  | tup xs => obtain ⟨z, its, r, ob, e, c⟩ := x; exact ⟨z, its, r, ob, k _ _ (.inl rfl) e, c⟩
  | dK kvs => obtain ⟨z, y, vs, r, ob, es, ep, e, c⟩ := x; exact ⟨z, y, vs, r, ob, es, ep, k _ _ (.inl rfl) e, c⟩
  | dT kvs =>
    obtain ⟨z, y, xs, r, ob, es, ep, e, c⟩ := x
    exact ⟨z, y, xs, Paired.mapP r fun p q z => ⟨z.1, ht _ _ z.2.1, z.2.2⟩, ob, es, ep, k _ _ (.inl rfl) e, c⟩
  | set S n => obtain ⟨ob, es, ep, t, e, c⟩ := x; exact ⟨ob, es, ep, t, k _ _ (.inl rfl) e, c⟩
  | ins C dx fs =>
    obtain ⟨d, z, ne, e, mA, ⟨od, es, ep, e2, c⟩, r⟩ := x
    exact ⟨ho _ d, z, ne, k _ _ (.inl rfl) e, mA, ⟨od, es, ep, k _ _ (.inr d) e2, c⟩, r⟩
  | own y => obtain ⟨ob, e⟩ := x; exact ⟨ob, k _ _ (.inl rfl) e⟩
  | xd fs => obtain ⟨mA, ⟨od, es, ep, e, c⟩, r⟩ := x; exact ⟨mA, ⟨od, es, ep, k _ _ (.inl rfl) e, c⟩, r⟩
  | rng lo hi => obtain ⟨t, u, v, e⟩ := x; exact ⟨t, u, v, k _ _ (.inl rfl) e⟩
  | frz ob u ih => obtain ⟨e, q⟩ := x; exact ⟨k _ _ (.inl rfl) e, ih q⟩
  | tbl qs ps => obtain ⟨more, e, t, c⟩ := x; exact ⟨more, k _ _ (.inl rfl) e, t, fun p hp v q => let ⟨c1, o, r, z, co⟩ := c p hp v q; ⟨c1, o, r, hf _ _ _ _ co z, co⟩⟩
  | met f y =>
    have e : h.get? a = some (PySem.W.methodObj (.ref f) (.ref y)) := x
    show h'.get? a = some (PySem.W.methodObj (.ref f) (.ref y))
    exact k a _ (.inl rfl) e
  | ext φ => obtain ⟨p, ⟨o, e⟩, st⟩ := x; exact ⟨st _ _ p fun o q => k _ _ (.inl rfl) q, ⟨o, k _ _ (.inl rfl) e⟩, st⟩
theorem HOk.lt (x : HOk P w H h) (e : H a = some o) : a < h.objs.size := (x a o e).lt
theorem HOk.fresh (x : HOk P w H h) (e : h.objs.size ≤ a) : H a = none := by
  cases q : H a with
  | none => rfl
  | some u => exact absurd (Nat.lt_of_lt_of_le (x.lt q) e) (Nat.lt_irrefl _)
theorem HOk.kept (x : HOk P w H h) (k : ∀ b u, h.get? b = some u → h'.get? b = some u) : HOk P w H h' := fun a o e =>
  (x a o e).stay (fun b u _ q => k b u q) (fun _ q => q) (fun _ _ _ _ _ q => q) fun _ _ q => q
theorem HOk.laid (x : HOk P w H h) (k : ∀ b u, h.get? b = some u → h'.get? b = some u) (hp : h.objs.size ≤ a) (new : ObjOk P w (upd H a o) h' a o) : HOk P w (upd H a o) h' := fun b u e => by
  have hn := x.fresh hp
  by_cases hb : b = a
  · subst hb; rw [upd_same] at e; cases e; exact new
  · rw [upd_ne hb] at e
    exact (x b u e).stay (fun c v _ q => k c v q) (fun c q => by rw [upd_ne (ne_of_none q hn)]; exact q) (fun c _ _ _ _ q => by rw [upd_ne (ne_of_none q hn)]; exact q) fun c xs q => by rw [upd_ne (ne_of_none q hn)]; exact q
end
def Rd (H : Hp) (a : Addr) (u : HO) : Prop := H a = some u ∨ ∃ o, H a = some (.frz o u)
theorem Rd.ok {P : Program} {w : World} {H : Hp} {h : Heap} {a : Addr} {u : HO} (r : Rd H a u) (x : HOk P w H h) : ObjOk P w H h a u := by
  rcases r with r | ⟨o, r⟩
  · exact x a u r
  · obtain ⟨_, q⟩ := x a _ r
    exact q
def Mut : Option HO → Prop
  | some (.lst _) => True
  | some (.dK _) => True
  | some (.dT _) => True
  | some (.set _ _) => True
  | some (.ins _ _ _) => True
  | some (.ext _) => True
  | _ => False
section
variable {P : Program} {w : World} {H : Hp} {h h' : Heap} {x e : Addr} {o' : HO}
theorem HOk.write (ok : HOk P w H h) (mu : Mut (H x)) (he : e = x ∨ H e = some (.own x)) (k : ∀ b u, b ≠ e → h.get? b = some u → h'.get? b = some u) (heo : ∃ u, h'.get? e = some u)
    (new : ObjOk P w (upd H x o') h' x o') : HOk P w (upd H x o') h' := fun b u q => by
  have nown : ∀ c y, H c = some (.own y) → c ≠ x := fun c y r z => by subst z; rw [r] at mu; exact mu
  have ntup : ∀ c xs, H c = some (.tup xs) → c ≠ x := fun c xs r z => by subst z; rw [r] at mu; exact mu
  have nfrz : ∀ c o y, H c = some (.frz o y) → c ≠ x := fun c o y r z => by subst z; rw [r] at mu; exact mu
  by_cases hb : b = x
  · subst hb; rw [upd_same] at q; cases q; exact new
  · rw [upd_ne hb] at q
    by_cases hbe : b = e
    · have q' : H b = some (.own x) := by
        rcases he with z | z
        · exact absurd (hbe.trans z) hb
        · rw [hbe]; exact z
      rw [q] at q'; cases q'
      obtain ⟨v, hv⟩ := heo
      exact ⟨v, by rw [hbe]; exact hv⟩
    · refine (ok b u q).stay (fun c v hc r => k c v ?_ r) (fun c r => by rw [upd_ne (nown c b r)]; exact r) (fun c o y _ _ r => by rw [upd_ne (nfrz c o y r)]; exact r) fun c xs r => by rw [upd_ne (ntup c xs r)]; exact r
      rcases hc with rfl | hc
      · exact hbe
      · rintro rfl
        rcases he with z | z
        · exact nown c b hc z
        · rw [hc] at z; cases z; exact hb rfl
end
structure Un (fs ex : List Addr) (H H' : Hp) (h h' : Heap) : Prop where
  keep : ∀ b o, h.get? b = some o → H b = none → b ∉ fs → b ∉ ex → h'.get? b = some o
  slot : ∀ b o, h.get? b = some o → H b = none → b ∈ fs → b ∉ ex → ∃ sl, h'.get? b = some { o with slots := sl }
  free : ∀ b o, h.get? b = some o → H b = none → b ∉ ex → H' b = none
  there : ∀ b o, h.get? b = some o → b ∉ ex → ∃ o', h'.get? b = some o'
  tups : ∀ b xs, H b = some (.tup xs) → H' b = some (.tup xs)
  frzs : ∀ b o u, H b = some (.frz o u) → H' b = some (.frz o u)
  tbls : ∀ b qs ps, H b = some (.tbl qs ps) → H' b = some (.tbl qs ps)
section
variable {fs fs' ex ex' : List Addr} {H H1 H2 : Hp} {h h1 h2 h' : Heap} {a x e : Addr} {o : HO}
theorem Un.any (u : Un fs ex H H1 h h1) {b : Addr} {ob : Obj} (q : h.get? b = some ob) (n : H b = none) (hx : b ∉ ex) : ∃ sl, h1.get? b = some { ob with slots := sl } := by
  by_cases hb : b ∈ fs
  · exact u.slot b ob q n hb hx
  · exact ⟨ob.slots, u.keep b ob q n hb hx⟩
theorem Un.kept (k : ∀ b u, h.get? b = some u → h'.get? b = some u) : Un fs ex H H h h' :=
  ⟨fun b ob q _ _ _ => k b ob q, fun b ob q _ _ _ => ⟨ob.slots, k b ob q⟩, fun _ _ _ n _ => n, fun b ob q _ => ⟨ob, k b ob q⟩, fun _ _ q => q, fun _ _ _ q => q, fun _ _ _ q => q⟩
theorem Un.refl : Un fs ex H H h h := Un.kept fun _ _ q => q
theorem Un.laid (k : ∀ b u, h.get? b = some u → h'.get? b = some u) (hp : h.objs.size ≤ a) (hn : H a = none) : Un fs ex H (upd H a o) h h' where
  keep := fun b u q _ _ _ => k b u q
  slot := fun b u q _ _ _ => ⟨u.slots, k b u q⟩
  free := fun b u q n _ => by rw [upd_ne (Nat.ne_of_lt (Nat.lt_of_lt_of_le (Heap.lt_size q) hp))]; exact n
  there := fun b u q _ => ⟨u, k b u q⟩
  tups := fun b xs q => by rw [upd_ne (ne_of_none q hn)]; exact q
  frzs := fun b u xs q => by rw [upd_ne (ne_of_none q hn)]; exact q
  tbls := fun b qs ps q => by rw [upd_ne (ne_of_none q hn)]; exact q
theorem Un.write (mu : Mut (H x)) (he : e = x ∨ H e = some (.own x)) (k : ∀ b u, b ≠ e → h.get? b = some u → h'.get? b = some u) (heo : ∃ u, h'.get? e = some u) : Un fs ex H (upd H x o) h h' := by
  have hx : ∀ b, H b = none → b ≠ x := fun b n z => by subst z; rw [n] at mu; exact mu
  have hb : ∀ b, H b = none → b ≠ e := fun b n z => by
    subst z
    rcases he with r | r
    · exact hx b n r
    · rw [n] at r; cases r
  have hm : ∀ b u, H b = some u → ¬ Mut (some u) → b ≠ x := fun b u q nm z => by subst z; rw [q] at mu; exact nm mu
  refine ⟨fun b u q n _ _ => k b u (hb b n) q, fun b u q n _ _ => ⟨u.slots, k b u (hb b n) q⟩, fun b u q n _ => by rw [upd_ne (hx b n)]; exact n, fun b u q _ => ?_,
    fun b xs q => by rw [upd_ne (hm b _ q fun z => z)]; exact q, fun b u xs q => by rw [upd_ne (hm b _ q fun z => z)]; exact q, fun b qs ps q => by rw [upd_ne (hm b _ q fun z => z)]; exact q⟩
  by_cases hbe : b = e
  · subst hbe; exact heo
  · exact ⟨u, k b u hbe q⟩
end
def trk (h : Heap) (H : Hp) : List Addr := (List.range h.objs.size).filter fun a => (H a).isSome
def hidT (h : Heap) (H : Hp) : Heap := PySem.W.hideAll h (trk h H)
theorem hidT_size (h : Heap) (H : Hp) : (hidT h H).objs.size = h.objs.size := PySem.W.hideAll_size _ _
theorem hidT_get {h : Heap} {H : Hp} {b : Addr} {o : Obj} (e : h.get? b = some o) (n : H b = none) : (hidT h H).get? b = some o :=
  PySem.W.hideAll_get _ e fun hm => by
    have q : (H b).isSome = true := (List.mem_filter.mp hm).2
    rw [n] at q; simp at q
theorem of_hidT {h : Heap} {H : Hp} {b : Addr} {o : Obj} (e : (hidT h H).get? b = some o) : h.get? b = some o ∧ H b = none := by
  have e' : h.get? b = some o := PySem.W.of_hideAll (trk h H) e
  refine ⟨e', ?_⟩
  cases q : H b with
  | none => rfl
  | some x =>
    have hm : b ∈ trk h H := List.mem_filter.mpr ⟨List.mem_range.mpr (Heap.lt_size e'), by simp [q]⟩
    have z : (hidT h H).get? b = none := PySem.W.hideAll_none (trk h H) hm
    rw [z] at e; cases e
def allNews (g h : Heap) (L : Addr) : List (Addr × Obj) := (List.range h.objs.size).filterMap fun a => if a = L ∨ (g.get? a).isSome = true then none else (h.get? a).map fun o => (a, o)
def rest (g h : Heap) (L d : Addr) : List (Addr × Obj) := (allNews g h L).filter fun p => decide (p.1 ≠ d)
structure Mod (K : PySem.W.Frag) (mg : Str → Option Value) (base : Heap) : Prop where
  kin : K.In base
  glob : base.Ns mainGlobals mg
  blt : ∃ mb, base.Ns builtinsNs mb ∧ ∀ x : Str, x ≠ "__name__" → mb x = bootBuiltins x
  nolimit : base.NoLimit
structure Cx where
  prog : Program
  w : World
  K : PySem.W.Frag
  mg : Str → Option Value
  base : Heap
  A : Around
  N : List Str
  s₀ : Shared
  H₀ : Hp
  env : Env
  outer : List Env
  stack : List Env
  ex : List Addr
  fn : Str → Bool
  calm : Bool
  pn : List (Addr × Obj)
  xe : Value → Shared → Prop
def frs (l : List Env) : List Addr := l.filterMap (·.frame)
abbrev Cx.fs (X : Cx) : List Addr := frs X.outer
def Vis (sc : Scope) (x : Str) : Prop := sc.names.lookup x = some .local ∨ sc.names.lookup x = some .cell ∨ sc.names.lookup x = some .free
def Loc (sc : Scope) (x : Str) : Prop := sc.names.lookup x = some .local ∨ sc.names.lookup x = some .cell
def Look (env : Env) (h : Heap) (m : Str → Option Value) (x : Str) (u : Value) : Prop :=
  (env.kindOf x = some .local ∧ m x = some u) ∨ ((env.kindOf x = some .cell ∨ env.kindOf x = some .free) ∧ ∃ c, env.cells.lookup x = some c ∧ h.IsCell c (some u))
structure Cx.Ok (X : Cx) : Prop where
  mod : Mod X.K X.mg X.base
  kind : X.env.scope.kind = .function
  glob : X.env.globals = mainGlobals
  blt : X.env.builtins = builtinsNs
  above : X.s₀.heap.objs.size ≤ X.env.locals
  inj : ∀ x y c, X.env.cells.lookup x = some c → X.env.cells.lookup y = some c → x = y
  has : ∀ x, (X.env.kindOf x = some .cell ∨ X.env.kindOf x = some .free) → ∃ c, X.env.cells.lookup x = some c
  cab : ∀ x c, X.fn x = true → X.env.cells.lookup x = some c → X.s₀.heap.objs.size ≤ c
  hd : X.calm = true → X.A.handled = none
  frames : X.A.frames = some X.stack
  stk : X.stack = X.outer ∨ (X.stack = X.env :: X.outer ∧ X.env.frame = some X.env.locals)
  exf : ∀ b ∈ X.ex, b ≠ X.env.locals ∧ ∀ x c, X.env.cells.lookup x = some c → c ≠ b
  bs : ∀ b o, X.base.get? b = some o → X.s₀.heap.get? b = some o ∧ X.H₀ b = none
  bsz : X.base.objs.size ≤ X.s₀.heap.objs.size
  noex : ∀ b o, X.base.get? b = some o → b ∉ X.ex
  exfs : ∀ b ∈ X.ex, b ∉ X.fs
  funs : X.s₀.heap.FunFrames X.base X.outer
  frf : ∀ b ∈ X.fs, X.H₀ b = none
structure Inv (X : Cx) (pins : List (Addr × Obj)) (σ : List (Option V)) (H : Hp) (s : Shared) : Prop where
  ok : X.Ok
  os : s.os = X.s₀.os
  bare : AllBare s.gens
  base : Un X.fs X.ex X.H₀ H X.s₀.heap s.heap
  loc : ∃ m, s.heap.Ns X.env.locals m ∧ ∀ (i : Nat) (x : Str) (v : V), X.N[i]? = some x → σ[i]? = some (some v) → Vis X.env.scope x → ∃ u, RelV v u ∧ Look X.env s.heap m x u
  cell : ∀ x c, X.env.cells.lookup x = some c → ∃ v, s.heap.IsCell c v
  free : H X.env.locals = none
  freeC : ∀ x c, X.env.cells.lookup x = some c → H c = none
  pin : ∀ p ∈ X.pn ++ pins, s.heap.get? p.1 = some p.2 ∧ H p.1 = none ∧ p.1 ≠ X.env.locals ∧ p.1 ∉ X.fs ∧ ∀ v, p.2.data ≠ .cell v
  hok : HOk X.prog X.w H s.heap
  len : σ.length = X.N.length
section
variable {X : Cx} {pins : List (Addr × Obj)} {σ : List (Option V)} {H H' : Hp} {s : Shared} {h' : Heap}
theorem Cx.Ok.nofr (ok : X.Ok) {b : Addr} {o : Obj} (e : X.base.get? b = some o) : b ∉ X.fs := fun hb => by
  have := (ok.funs.mem hb).1
  rw [e] at this; cases this
theorem Inv.bs (I : Inv X pins σ H s) : ∀ b o, X.base.get? b = some o → s.heap.get? b = some o ∧ H b = none := fun b o e =>
  ⟨I.base.keep b o (I.ok.bs b o e).1 (I.ok.bs b o e).2 (I.ok.nofr e) (I.ok.noex b o e), I.base.free b o (I.ok.bs b o e).1 (I.ok.bs b o e).2 (I.ok.noex b o e)⟩
theorem Inv.bk (I : Inv X pins σ H s) : ∀ b o, X.base.get? b = some o → s.heap.get? b = some o := fun b o e => (I.bs b o e).1
theorem Inv.mod (I : Inv X pins σ H s) : Mod X.K X.mg X.base := I.ok.mod
theorem Inv.kIn (I : Inv X pins σ H s) : X.K.In s.heap := I.ok.mod.kin.keeps I.bk
theorem Inv.lt (I : Inv X pins σ H s) : X.env.locals < s.heap.objs.size := let ⟨_, hn, _⟩ := I.loc; hn.lt
theorem Inv.sz (I : Inv X pins σ H s) : X.s₀.heap.objs.size ≤ s.heap.objs.size := Nat.le_trans I.ok.above (Nat.le_of_lt I.lt)
theorem Inv.nofs (I : Inv X pins σ H s) {a : Addr} (h : s.heap.objs.size ≤ a) : a ∉ X.fs := fun hb => by
  obtain ⟨_, o, ho, _⟩ := I.ok.funs.mem hb
  exact absurd (Nat.lt_of_lt_of_le (Heap.lt_size ho) (Nat.le_trans I.sz h)) (Nat.lt_irrefl _)
theorem Inv.cne (I : Inv X pins σ H s) : ∀ x c, X.env.cells.lookup x = some c → c ≠ X.env.locals := fun x c e z => by
  obtain ⟨v, o, ho, hd⟩ := I.cell x c e
  obtain ⟨m, ⟨o', es, ep, ho', hd', _⟩, _⟩ := I.loc
  rw [z, ho'] at ho; cases ho; rw [hd'] at hd; cases hd
theorem Inv.funs (I : Inv X pins σ H s) : s.heap.FunFrames X.base X.outer := by
  have all : ∀ (l : List Env), (∀ b ∈ frs l, b ∈ X.fs) → X.s₀.heap.FunFrames X.base l → s.heap.FunFrames X.base l := by
    intro l
    induction l with
    | nil => intro _ _; trivial
    | cons env r ih =>
      intro hs hl
      obtain ⟨hk, ⟨L, o, hf, hn, ho, hd⟩, hr⟩ := hl
      have hL : L ∈ X.fs := hs L (by unfold frs; rw [List.filterMap_cons, hf]; exact List.mem_cons_self)
      obtain ⟨sl, e⟩ := I.base.slot L o ho (I.ok.frf L hL) hL fun z => I.ok.exfs L z hL
      exact ⟨hk, ⟨L, _, hf, hn, e, hd⟩, ih (fun b hb => hs b (by unfold frs; rw [List.filterMap_cons, hf]; exact List.mem_cons_of_mem _ hb)) hr⟩
  exact all X.outer (fun _ hb => hb) I.ok.funs
theorem Inv.stack (I : Inv X pins σ H s) : s.heap.FunFrames X.base X.stack := by
  rcases I.ok.stk with e | ⟨e, hf⟩
  · rw [e]; exact I.funs
  · rw [e]
    obtain ⟨m, hn, _⟩ := I.loc
    refine .cons (by rw [I.ok.kind]; decide) hf hn ?_ I.funs
    exact Heap.get?_none_of_le (Nat.le_trans I.ok.bsz I.ok.above)
theorem Inv.stkSub (I : Inv X pins σ H s) : ∀ b ∈ frs X.stack, b ∈ X.env.locals :: X.fs := fun b hb => by
  rcases I.ok.stk with e | ⟨e, hf⟩
  · rw [e] at hb; exact List.mem_cons_of_mem _ hb
  · rw [e] at hb
    unfold frs at hb
    rw [List.filterMap_cons, hf] at hb
    exact hb
theorem Inv.stkFree (I : Inv X pins σ H s) : ∀ b ∈ frs X.stack, H b = none := fun b hb => by
  rcases List.mem_cons.mp (I.stkSub b hb) with e | hb
  · rw [e]; exact I.free
  · obtain ⟨_, o, ho, _⟩ := I.ok.funs.mem hb
    exact I.base.free b o ho (I.ok.frf b hb) fun z => I.ok.exfs b z hb
theorem Inv.step {g' : Array GenState} {t' : Nat} {d' : Drawn} {ch : List Addr} (I : Inv X pins σ H s)
    (hch : ∀ b ∈ ch, (b ∈ X.ex ∨ X.s₀.heap.objs.size ≤ b) ∧ b ≠ X.env.locals ∧ (∀ x c, X.env.cells.lookup x = some c → c ≠ b) ∧ ∀ p ∈ X.pn ++ pins, p.1 ≠ b)
    (keep : ∀ b o, b ≠ X.env.locals → b ∉ X.fs → b ∉ ch → s.heap.get? b = some o → H b = none → h'.get? b = some o)
    (slot : ∀ b o, b ≠ X.env.locals → b ∈ X.fs → b ∉ ch → s.heap.get? b = some o → H b = none → ∃ sl, h'.get? b = some { o with slots := sl }) (free : ∀ b o, b ∉ ch → s.heap.get? b = some o → H b = none → H' b = none)
    (there : ∀ b o, b ∉ ch → s.heap.get? b = some o → ∃ o', h'.get? b = some o')
    (tups : ∀ b xs, H b = some (.tup xs) → H' b = some (.tup xs)) (frzs : ∀ b o u, H b = some (.frz o u) → H' b = some (.frz o u)) (tbls : ∀ b qs ps, H b = some (.tbl qs ps) → H' b = some (.tbl qs ps))
    (ns : ∀ m, s.heap.Ns X.env.locals m → h'.Ns X.env.locals m) (hok : HOk X.prog X.w H' h') (hg : AllBare g') :
    Inv X pins σ H' { s with heap := h', gens := g', drawn := d', toks := t' } := by
  have neL : ∀ b o, X.s₀.heap.get? b = some o → b ≠ X.env.locals := fun b o e => Nat.ne_of_lt (Nat.lt_of_lt_of_le (Heap.lt_size e) I.ok.above)
  have neC : ∀ b o, X.s₀.heap.get? b = some o → b ∉ X.ex → b ∉ ch := fun b o e hx hb => by
    rcases (hch b hb).1 with z | z
    · exact hx z
    · exact absurd (Nat.lt_of_lt_of_le (Heap.lt_size e) z) (Nat.lt_irrefl _)
  have cellK : ∀ x c, X.env.cells.lookup x = some c → ∀ v, s.heap.IsCell c v → h'.IsCell c v := fun x c e v ⟨o, ho, hd⟩ => by
    have nch : c ∉ ch := fun z => (hch c z).2.2.1 x c e rfl
    by_cases hc : c ∈ X.fs
    · obtain ⟨sl, q⟩ := slot c o (I.cne x c e) hc nch ho (I.freeC x c e)
      exact ⟨_, q, hd⟩
    · exact ⟨o, keep c o (I.cne x c e) hc nch ho (I.freeC x c e), hd⟩
  refine ⟨I.ok, I.os, hg, ⟨fun b o e n hb hx => ?_, fun b o e n hb hx => ?_, fun b o e n hx => ?_, fun b o e hx => ?_, fun b xs e => tups b xs (I.base.tups b xs e), fun b o xs e => frzs b o xs (I.base.frzs b o xs e), fun b qs ps e => tbls b qs ps (I.base.tbls b qs ps e)⟩, ?_, fun x c e => ?_, ?_, fun x c e => ?_, fun p hp => ?_, hok, I.len⟩
  · exact keep b o (neL b o e) hb (neC b o e hx) (I.base.keep b o e n hb hx) (I.base.free b o e n hx)
  · obtain ⟨sl, e1⟩ := I.base.slot b o e n hb hx
    obtain ⟨sl', e2⟩ := slot b _ (neL b o e) hb (neC b o e hx) e1 (I.base.free b o e n hx)
    exact ⟨sl', e2⟩
  · obtain ⟨o', e1⟩ := I.base.there b o e hx
    exact free b o' (neC b o e hx) e1 (I.base.free b o e n hx)
  · obtain ⟨o', e1⟩ := I.base.there b o e hx
    exact there b o' (neC b o e hx) e1
  · obtain ⟨m, hn, hl⟩ := I.loc
    refine ⟨m, ns m hn, fun i x v e1 e2 e3 => ?_⟩
    obtain ⟨u, r, l⟩ := hl i x v e1 e2 e3
    refine ⟨u, r, ?_⟩
    rcases l with l | ⟨k, c, e, z⟩
    · exact .inl l
    · exact .inr ⟨k, c, e, cellK x c e _ z⟩
  · obtain ⟨v, z⟩ := I.cell x c e
    exact ⟨v, cellK x c e v z⟩
  · obtain ⟨m, ⟨o, _, _, ho, _⟩, _⟩ := I.loc
    exact free _ o (fun z => (hch _ z).2.1 rfl) ho I.free
  · obtain ⟨v, o, ho, hd⟩ := I.cell x c e
    exact free c o (fun z => (hch c z).2.2.1 x c e rfl) ho (I.freeC x c e)
  · obtain ⟨e, n, ne, nf, d⟩ := I.pin p hp
    have nch : p.1 ∉ ch := fun z => (hch p.1 z).2.2.2 p hp rfl
    exact ⟨keep p.1 p.2 ne nf nch e n, free p.1 p.2 nch e n, ne, nf, d⟩
theorem Inv.un {t' : Nat} (I : Inv X pins σ H s) (u : Un X.fs [] H H' s.heap h') (hok : HOk X.prog X.w H' h') : Inv X pins σ H' { s with heap := h', toks := t' } := by
  obtain ⟨m, ⟨o, es, ep, ho, r⟩, _⟩ := id I.loc
  obtain ⟨sl, hL⟩ := u.any ho I.free (by simp)
  exact I.step (g' := s.gens) (d' := s.drawn) (ch := []) (fun _ z => nomatch z) (fun b o _ hb _ e n => u.keep b o e n hb (by simp)) (fun b o _ hb _ e n => u.slot b o e n hb (by simp)) (fun b o _ e n => u.free b o e n (by simp)) (fun b o _ e => u.there b o e (by simp)) u.tups u.frzs u.tbls (fun m' hm => by
    obtain ⟨o', es', ep', ho', r'⟩ := hm
    rw [ho] at ho'; cases ho'
    exact ⟨_, es', ep', hL, r'⟩) hok I.bare
theorem Inv.call {g' : Array GenState} {t' : Nat} {d' : Drawn} {ch : List Addr} (I : Inv X pins σ H s) (u : Un (frs X.stack) ch H H' s.heap h') (hok : HOk X.prog X.w H' h') (hg : AllBare g')
    (hch : ∀ b ∈ ch, (b ∈ X.ex ∨ X.s₀.heap.objs.size ≤ b) ∧ b ≠ X.env.locals ∧ (∀ x c, X.env.cells.lookup x = some c → c ≠ b) ∧ ∀ p ∈ X.pn ++ pins, p.1 ≠ b) :
    Inv X pins σ H' { s with heap := h', gens := g', drawn := d', toks := t' } := by
  obtain ⟨m, ⟨o, es, ep, ho, r⟩, _⟩ := id I.loc
  obtain ⟨sl, hL⟩ := u.any ho I.free fun z => (hch _ z).2.1 rfl
  exact I.step (ch := ch) hch (fun b o hL hb hc e n => u.keep b o e n (fun z => (List.mem_cons.mp (I.stkSub b z)).elim hL hb) hc) (fun b o _ _ hc e n => u.any e n hc) (fun b o hc e n => u.free b o e n hc) (fun b o hc e => u.there b o e hc) u.tups u.frzs u.tbls (fun m' hm => by
    obtain ⟨o', es', ep', ho', r'⟩ := hm
    rw [ho] at ho'; cases ho'
    exact ⟨_, es', ep', hL, r'⟩) hok hg
theorem Inv.turned {t' : Nat} {it : Addr} (I : Inv X pins σ H s) (k : ∀ b o, b ≠ it → s.heap.get? b = some o → h'.get? b = some o) (hn : H it = none) (hL : it ≠ X.env.locals)
    (h1 : it ∈ X.ex ∨ X.s₀.heap.objs.size ≤ it) (h2 : ∀ x c, X.env.cells.lookup x = some c → c ≠ it) (h3 : ∀ p ∈ X.pn ++ pins, p.1 ≠ it) : Inv X pins σ H { s with heap := h', toks := t' } := by
  have nit : ∀ b u, H b = some u → b ≠ it := fun b u e z => by rw [z, hn] at e; cases e
  refine I.step (g' := s.gens) (d' := s.drawn) (ch := [it]) (fun b hb => ?_) (fun b o _ _ hc e _ => k b o (fun z => hc (by simp [z])) e) (fun b o _ _ hc e _ => ⟨o.slots, k b o (fun z => hc (by simp [z])) e⟩) (fun _ _ _ _ n => n)
    (fun b o hc e => ⟨o, k b o (fun z => hc (by simp [z])) e⟩) (fun _ _ e => e) (fun _ _ _ e => e) (fun _ _ _ e => e) (fun m hm => ?_) (fun b u e => ?_) I.bare
  · have e : b = it := by simpa using hb
    subst e
    exact ⟨h1, hL, h2, h3⟩
  · obtain ⟨o, es, ep, ho, r⟩ := hm
    exact ⟨o, es, ep, k _ o (Ne.symm hL) ho, r⟩
  · refine (I.hok b u e).stay (fun c v hc q => k c v ?_ q) (fun _ q => q) (fun _ _ _ _ _ q => q) fun _ _ q => q
    rcases hc with z | z
    · rw [z]; exact nit b u e
    · exact nit c _ z
theorem Inv.tok (I : Inv X pins σ H s) (t : Nat) : Inv X pins σ H { s with toks := t } := I.un (h' := s.heap) (t' := t) Un.refl I.hok
theorem Inv.kept {t' : Nat} (I : Inv X pins σ H s) (k : ∀ b u, s.heap.get? b = some u → h'.get? b = some u) : Inv X pins σ H { s with heap := h', toks := t' } := I.un (Un.kept k) (I.hok.kept k)
theorem Inv.laid {a : Addr} {o : HO} {t' : Nat} (I : Inv X pins σ H s) (k : ∀ b u, s.heap.get? b = some u → h'.get? b = some u) (hp : s.heap.objs.size ≤ a) (new : ObjOk X.prog X.w (upd H a o) h' a o) :
    Inv X pins σ (upd H a o) { s with heap := h', toks := t' } := I.un (Un.laid k hp (I.hok.fresh hp)) (I.hok.laid k hp new)
theorem Inv.write {x e : Addr} {o : HO} {t' : Nat} (I : Inv X pins σ H s) (mu : Mut (H x)) (he : e = x ∨ H e = some (.own x)) (k : ∀ b u, b ≠ e → s.heap.get? b = some u → h'.get? b = some u) (heo : ∃ u, h'.get? e = some u)
    (new : ObjOk X.prog X.w (upd H x o) h' x o) : Inv X pins σ (upd H x o) { s with heap := h', toks := t' } := I.un (Un.write mu he k heo) (I.hok.write mu he k heo new)
theorem Inv.pins_of {pins' : List (Addr × Obj)} (I : Inv X pins σ H s) (h : ∀ p ∈ pins', s.heap.get? p.1 = some p.2 ∧ H p.1 = none ∧ p.1 ≠ X.env.locals ∧ p.1 ∉ X.fs ∧ ∀ v, p.2.data ≠ .cell v) : Inv X pins' σ H s :=
  ⟨I.ok, I.os, I.bare, I.base, I.loc, I.cell, I.free, I.freeC, fun p hp => (List.mem_append.mp hp).elim (fun z => I.pin p (List.mem_append_left _ z)) (h p), I.hok, I.len⟩
theorem nodup_ix {N : List Str} (hN : N.Nodup) {i j : Nat} {x : Str} (a : N[i]? = some x) (b : N[j]? = some x) : i = j := by
  obtain ⟨h1, e1⟩ := List.getElem?_eq_some_iff.mp a
  obtain ⟨h2, e2⟩ := List.getElem?_eq_some_iff.mp b
  exact (List.getElem_inj hN).mp (e1.trans e2.symm)
theorem store_ok2 {M : Model} {A : Around} {E : Value → Shared → Prop} {i : Nat} {x : Str} {v : V} {u : Value} {Q : Unit → Shared → Prop} (I : Inv X pins σ H s) (hN : X.N.Nodup) (hi : X.N[i]? = some x) (hx : Loc X.env.scope x) (r : RelV v u)
    (h : ∀ s', Inv X pins (σ.set i (some v)) H s' → (∃ a, Heap.SameBut a s.heap s'.heap ∧ (a = X.env.locals ∨ X.env.cells.lookup x = some a)) → Q () s') (hf : X.fn x = true ∨ X.env.scope.names.lookup x = some .local := by first | exact .inl rfl | exact .inr rfl | assumption) : wpAny M A (storeName X.env x u) Q E s := by
  obtain ⟨m, hn, hl⟩ := id I.loc
  have hcls : (X.env.scope.kind == .class || (X.env.scope.kind == .module && X.env.locals != X.env.globals)) = false := by rw [I.ok.kind]; rfl
  have hiσ : i < σ.length := by rw [I.len]; exact (List.getElem?_eq_some_iff.mp hi).1
  have cne := I.cne
  have tracked : ∀ {a : Addr} {h' : Heap}, (∃ o, s.heap.get? a = some o ∧ H a = none) → Heap.SameBut a s.heap h' → HOk X.prog X.w H h' := fun {a h'} ha hs b ob e => by
    obtain ⟨_, _, hfree⟩ := ha
    refine (I.hok b ob e).stay (fun c w' hc q => (hs.2 c ?_).trans q) (fun _ q => q) (fun _ _ _ _ _ q => q) fun _ _ q => q
    rintro rfl
    rcases hc with rfl | hc
    · rw [hfree] at e; cases e
    · rw [hfree] at hc; cases hc
  rcases hx with hk | hk
  · refine wpAny_storeName_local hk hn (fun h' hn' hs => ?_) hcls
    obtain ⟨oL, _, _, hoL, _⟩ := id hn
    refine h _ ⟨I.ok, I.os, I.bare, ⟨fun b o e n hb hx => ?_, fun b o e n hb hx => ?_, I.base.free, fun b o e hx => ?_, I.base.tups, I.base.frzs, I.base.tbls⟩, ⟨_, hn', fun j y v' e1 e2 e3 => ?_⟩, fun y c e => ?_, I.free, I.freeC, fun p hp => ?_, tracked ⟨oL, hoL, I.free⟩ hs, by simpa using I.len⟩ ⟨_, hs, .inl rfl⟩
    · exact (hs.2 b (Nat.ne_of_lt (Nat.lt_of_lt_of_le (Heap.lt_size e) I.ok.above))).trans (I.base.keep b o e n hb hx)
    · obtain ⟨sl, e1⟩ := I.base.slot b o e n hb hx
      exact ⟨sl, (hs.2 b (Nat.ne_of_lt (Nat.lt_of_lt_of_le (Heap.lt_size e) I.ok.above))).trans e1⟩
    · obtain ⟨o', e1⟩ := I.base.there b o e hx
      exact ⟨o', (hs.2 b (Nat.ne_of_lt (Nat.lt_of_lt_of_le (Heap.lt_size e) I.ok.above))).trans e1⟩
    · by_cases hj : j = i
      · subst hj
        rw [hi] at e1; cases e1
        rw [List.getElem?_set_self hiσ] at e2
        cases e2
        exact ⟨u, r, .inl ⟨hk, by simp⟩⟩
      · rw [List.getElem?_set_ne (Ne.symm hj)] at e2
        obtain ⟨u', r', q⟩ := hl j y v' e1 e2 e3
        refine ⟨u', r', ?_⟩
        rcases q with ⟨k, e⟩ | ⟨k, c, e, z⟩
        · refine .inl ⟨k, ?_⟩
          have : y ≠ x := fun e => hj (nodup_ix hN e1 (e ▸ hi))
          simp [this, e]
        · exact .inr ⟨k, c, e, z.sameBut hs (cne y c e)⟩
    · obtain ⟨w', z⟩ := I.cell y c e
      exact ⟨w', z.sameBut hs (cne y c e)⟩
    · obtain ⟨e, n, ne, nf, d⟩ := I.pin p hp
      exact ⟨(hs.2 p.1 ne).trans e, n, ne, nf, d⟩
  · have hfn : X.fn x = true := by
      rcases hf with z | z
      · exact z
      · rw [z] at hk; cases hk
    obtain ⟨c, hc⟩ := I.ok.has x (.inl hk)
    obtain ⟨w', z⟩ := I.cell x c hc
    refine wpAny_storeName_cell I.ok.kind hk hc z (fun h' hc' hs => ?_)
    obtain ⟨oc, hoc, hocd⟩ := id z
    refine h { s with heap := h' } ⟨I.ok, I.os, I.bare, ⟨fun b o e n hb hx => ?_, fun b o e n hb hx => ?_, I.base.free, fun b o e hx => ?_, I.base.tups, I.base.frzs, I.base.tbls⟩, ⟨m, hn.sameBut hs (Ne.symm (cne x c hc)), fun j y v' e1 e2 e3 => ?_⟩, fun y c' e => ?_, I.free, I.freeC, fun p hp => ?_, tracked ⟨oc, hoc, I.freeC x c hc⟩ hs, by simpa using I.len⟩ ⟨c, hs, .inr hc⟩
    · exact (hs.2 b (Nat.ne_of_lt (Nat.lt_of_lt_of_le (Heap.lt_size e) (I.ok.cab x c hfn hc)))).trans (I.base.keep b o e n hb hx)
    · obtain ⟨sl, e1⟩ := I.base.slot b o e n hb hx
      exact ⟨sl, (hs.2 b (Nat.ne_of_lt (Nat.lt_of_lt_of_le (Heap.lt_size e) (I.ok.cab x c hfn hc)))).trans e1⟩
    · obtain ⟨o', e1⟩ := I.base.there b o e hx
      exact ⟨o', (hs.2 b (Nat.ne_of_lt (Nat.lt_of_lt_of_le (Heap.lt_size e) (I.ok.cab x c hfn hc)))).trans e1⟩
    · by_cases hj : j = i
      · subst hj
        rw [hi] at e1; cases e1
        rw [List.getElem?_set_self hiσ] at e2
        cases e2
        exact ⟨u, r, .inr ⟨.inl hk, c, hc, hc'⟩⟩
      · rw [List.getElem?_set_ne (Ne.symm hj)] at e2
        obtain ⟨u', r', q⟩ := hl j y v' e1 e2 e3
        refine ⟨u', r', ?_⟩
        rcases q with q | ⟨k, c', e, z'⟩
        · exact .inl q
        · refine .inr ⟨k, c', e, z'.sameBut hs ?_⟩
          rintro rfl
          exact hj (nodup_ix hN e1 (I.ok.inj _ _ _ e hc ▸ hi))
    · by_cases hcc : c' = c
      · subst hcc; exact ⟨_, hc'⟩
      · obtain ⟨w2, z2⟩ := I.cell y c' e
        exact ⟨w2, z2.sameBut hs hcc⟩
    · obtain ⟨e, n, ne, nf, d⟩ := I.pin p hp
      refine ⟨(hs.2 p.1 ?_).trans e, n, ne, nf, d⟩
      intro q
      rw [q, hoc] at e
      have q' : oc = p.2 := Option.some.inj e
      exact d w' (by rw [← q']; exact hocd)
theorem store_ok {M : Model} {A : Around} {E : Value → Shared → Prop} {i : Nat} {x : Str} {v : V} {u : Value} {Q : Unit → Shared → Prop} (I : Inv X pins σ H s) (hN : X.N.Nodup) (hi : X.N[i]? = some x) (hx : Loc X.env.scope x) (r : RelV v u)
    (h : ∀ s', Inv X pins (σ.set i (some v)) H s' → Q () s') (hf : X.fn x = true ∨ X.env.scope.names.lookup x = some .local := by first | exact .inl rfl | exact .inr rfl | assumption) : wpAny M A (storeName X.env x u) Q E s :=
  store_ok2 I hN hi hx r (fun s' I' _ => h s' I') hf
theorem Inv.call' {s' : Shared} {ch : List Addr} (I : Inv X pins σ H s) (ho : s'.os = s.os) (u : Un (frs X.stack) ch H H' s.heap s'.heap) (hok : HOk X.prog X.w H' s'.heap) (hg : AllBare s'.gens)
    (hch : ∀ b ∈ ch, (b ∈ X.ex ∨ X.s₀.heap.objs.size ≤ b) ∧ b ≠ X.env.locals ∧ (∀ x c, X.env.cells.lookup x = some c → c ≠ b) ∧ ∀ p ∈ X.pn ++ pins, p.1 ≠ b) : Inv X pins σ H' s' := by
  obtain ⟨h', g', d', t', o'⟩ := s'
  have e : o' = s.os := ho
  subst e
  exact I.call (g' := g') (t' := t') (d' := d') u hok hg hch
end
abbrev XK := Value → Option Addr → Hp → Prop
abbrev St := List (Option V)
abbrev VK := V → Hp → Prop
abbrev TE := St → Hp → VK → Prop
abbrev TT := St → Hp → (Bool → Hp → Prop) → Prop
abbrev TA := St → Hp → (List V → Hp → Prop) → Prop
structure Ends where
  nx : St → Hp → Prop
  rt : VK
  bk : St → Hp → Prop := fun _ _ => False
  ct : St → Hp → Prop := fun _ _ => False
abbrev TS := Ends → St → Hp → Prop
def EP (X : Cx) (pins : List (Addr × Obj)) (σ : St) (Q : VK) (u : Value) (s' : Shared) : Prop := ∃ v H', Inv X pins σ H' s' ∧ RelV v u ∧ Q v H'
def TP (X : Cx) (pins : List (Addr × Obj)) (σ : St) (Q : Bool → Hp → Prop) (b : Bool) (s' : Shared) : Prop := ∃ H', Inv X pins σ H' s' ∧ Q b H'
def AP (X : Cx) (pins : List (Addr × Obj)) (σ : St) (Q : List V → Hp → Prop) (us : List Value) (s' : Shared) : Prop := ∃ vs H', Inv X pins σ H' s' ∧ Vals vs us ∧ Q vs H'
def SP (X : Cx) (pins : List (Addr × Obj)) (D : Ends) (f : Flow) (s' : Shared) : Prop :=
  match f with
  | .next => ∃ σ' H', Inv X pins σ' H' s' ∧ D.nx σ' H'
  | .brk => ∃ σ' H', Inv X pins σ' H' s' ∧ D.bk σ' H'
  | .cont => ∃ σ' H', Inv X pins σ' H' s' ∧ D.ct σ' H'
  | .ret u => ∃ v σ' H', Inv X pins σ' H' s' ∧ RelV v u ∧ D.rt v H'
def PE (X : Cx) (e : Expr) (t : TE) : Prop :=
  ∀ (pins : List (Addr × Obj)) (s : Shared) (σ : St) (H : Hp) (Q : VK), Inv X pins σ H s → t σ H Q → wpAny (model X.prog X.w) X.A (eval e X.env) (EP X pins σ Q) X.xe s
def PT (X : Cx) (e : Expr) (t : TT) : Prop :=
  ∀ (pins : List (Addr × Obj)) (s : Shared) (σ : St) (H : Hp) (Q : Bool → Hp → Prop), Inv X pins σ H s → t σ H Q → wpAny (model X.prog X.w) X.A (isTrue e X.env (eval e X.env)) (TP X pins σ Q) X.xe s
def PW (X : Cx) (e : Expr) (t : TT) : Prop :=
  ∀ (whole : Sem Value) (pins : List (Addr × Obj)) (s : Shared) (σ : St) (H : Hp) (Q : Bool → Hp → Prop), Inv X pins σ H s → t σ H Q → wpAny (model X.prog X.w) X.A (isTrue e X.env whole) (TP X pins σ Q) X.xe s
theorem PW.pt {X : Cx} {e : Expr} {t : TT} (h : PW X e t) : PT X e t := h _
def PA (X : Cx) (es : List Expr) (t : TA) : Prop :=
  ∀ (pos : Pos) (pins : List (Addr × Obj)) (s : Shared) (σ : St) (H : Hp) (Q : List V → Hp → Prop), Inv X pins σ H s → t σ H Q → wpAny (model X.prog X.w) X.A (spliced (backTo pos (starEach es X.env))) (AP X pins σ Q) X.xe s
def PS (X : Cx) (st : Stmt) (t : TS) : Prop :=
  ∀ (pins : List (Addr × Obj)) (s : Shared) (σ : St) (H : Hp) (D : Ends), Inv X pins σ H s → t D σ H → wpAny (model X.prog X.w) X.A (exec st X.env) (SP X pins D) X.xe s
def PSs (X : Cx) (st : List Stmt) (t : TS) : Prop :=
  ∀ (pins : List (Addr × Obj)) (s : Shared) (σ : St) (H : Hp) (D : Ends), Inv X pins σ H s → t D σ H → wpAny (model X.prog X.w) X.A (execs st X.env) (SP X pins D) X.xe s
theorem thn {α : Type} {t : Sem α} {Q Q' : α → Shared → Prop} {M : Model} {A : Around} {E : Value → Shared → Prop} {s : Shared} (h : wpAny M A t Q E s) (hQ : ∀ a s, Q a s → Q' a s) : wpAny M A t Q' E s := wpAny_mono h hQ fun _ _ x => x
section
variable {X : Cx}
theorem bin {a b : Expr} {ta tb : TE} (ha : PE X a ta) (hb : PE X b tb) {pins : List (Addr × Obj)} {s : Shared} {σ : St} {H : Hp} {R : V → V → Hp → Prop} (I : Inv X pins σ H s) (h : ta σ H fun x H1 => tb σ H1 fun y H2 => R x y H2)
    {α : Type} {Q : α → Shared → Prop} {f : Value → Value → Sem α}
    (hf : ∀ v u s2 x y H2, Inv X pins σ H2 s2 → RelV x v → RelV y u → R x y H2 → wpAny (model X.prog X.w) X.A (f v u) Q X.xe s2) :
    wpAny (model X.prog X.w) X.A (eval a X.env) (fun v s₁ => wpAny (model X.prog X.w) X.A (eval b X.env) (fun u s₂ => wpAny (model X.prog X.w) X.A (f v u) Q X.xe s₂) X.xe s₁) X.xe s := by
  refine thn (ha pins s σ H _ I h) fun v s1 ⟨x, H1, I1, r1, q1⟩ => ?_
  refine thn (hb pins s1 σ H1 _ I1 q1) fun u s2 ⟨y, H2, I2, r2, q2⟩ => ?_
  exact hf v u s2 x y H2 I2 r1 r2 q2
def tVar (i : Nat) : TE := fun σ H Q => ∃ v, σ[i]? = some (some v) ∧ Q v H
def tC (v : V) : TE := fun _ H Q => Q v H
theorem pe_var {i : Nat} {x : Str} {pos : Pos} (hN : X.N[i]? = some x) (hv : Vis X.env.scope x) (hd : (x == ("__debug__" : Str)) = false := by decide) (hcd : (x == ("__classdict__" : Str)) = false := by decide) : PE X (.Name x pos) (tVar i) := by
  intro pins s σ H Q I h
  obtain ⟨v, e, h⟩ := h
  obtain ⟨m, hn, hl⟩ := I.loc
  obtain ⟨u, r, l⟩ := hl i x v hN e hv
  have fin : EP X pins σ Q u s := ⟨v, H, I, r, h⟩
  rcases l with ⟨hk, hm⟩ | ⟨hk, c, hc, hcell⟩
  · exact wpAny_Name (wpAny_loadName_local I.ok.kind hk hn hm fin) hd
  · rcases hk with hk | hk
    · exact wpAny_Name (wpAny_loadName_cell I.ok.kind hk hc hcell fin) hd
    · exact wpAny_Name (wpAny_loadName_free I.ok.kind hk hc hcell fin hcd) hd
theorem pe_int {i j pos} : PE X (.Constant (.int i) j pos) (tC (.int i)) := fun _ _ _ H _ I h => wpAny_Constant_int ⟨.int i, H, I.tok _, ⟨_, rfl⟩, h⟩
theorem pe_bl {b j pos} : PE X (.Constant (.bool b) j pos) (tC (.bl b)) := fun _ _ _ H _ I h => Constant_bool ⟨.bl b, H, I, rfl, h⟩
def Gl (X : Cx) (x : Str) : Prop := X.env.kindOf x = some .globalImplicit
theorem ld_glob {E : Value → Shared → Prop} {pins : List (Addr × Obj)} {s : Shared} {σ : St} {H : Hp} {x : Str} {u : Value} {pos : Pos} {Q : Value → Shared → Prop} (I : Inv X pins σ H s) (hg : Gl X x) (hm : X.mg x = some u) (h : Q u s)
    (hd : (x == ("__debug__" : Str)) = false := by decide) : wpAny (model X.prog X.w) X.A (eval (.Name x pos) X.env) Q E s :=
  Calls.Name_function_global I.ok.kind hg (Calls.loadGlobal_global (by rw [I.ok.glob]; exact I.mod.glob.keeps I.bk) hm h) hd
theorem ld_blt {E : Value → Shared → Prop} {pins : List (Addr × Obj)} {s : Shared} {σ : St} {H : Hp} {x : Str} {u : Value} {pos : Pos} {Q : Value → Shared → Prop} (I : Inv X pins σ H s) (hg : Gl X x) (hm : X.mg x = none) (hv : bootBuiltins x = some u) (h : Q u s)
    (hn : x ≠ "__name__" := by decide) (hd : (x == ("__debug__" : Str)) = false := by decide) : wpAny (model X.prog X.w) X.A (eval (.Name x pos) X.env) Q E s := by
  obtain ⟨mb, h1, h2⟩ := I.mod.blt
  exact Calls.Name_function_global I.ok.kind hg (Calls.loadGlobal_builtin (by rw [I.ok.glob]; exact I.mod.glob.keeps I.bk) hm (by rw [I.ok.blt]; exact h1.keeps I.bk) ((h2 x hn).trans hv) h) hd
theorem pe_glob {x : Str} {v : V} {u : Value} {pos : Pos} (hg : Gl X x) (hm : X.mg x = some u) (r : RelV v u) (hd : (x == ("__debug__" : Str)) = false := by decide) : PE X (.Name x pos) (tC v) :=
  fun _ _ _ H _ I h => ld_glob I hg hm ⟨v, H, I, r, h⟩ hd
theorem pe_bltn {x : Str} {v : V} {u : Value} {pos : Pos} (hg : Gl X x) (hm : X.mg x = none) (hv : bootBuiltins x = some u) (r : RelV v u) (hn : x ≠ "__name__" := by decide) (hd : (x == ("__debug__" : Str)) = false := by decide) : PE X (.Name x pos) (tC v) :=
  fun _ _ _ H _ I h => ld_blt I hg hm hv ⟨v, H, I, r, h⟩ hn hd
variable {a b : Expr} {ta tb : TE} {pos : Pos}
def PC (X : Cx) (op : CmpOp) (a b : Expr) (t : TE) : Prop :=
  ∀ (pins : List (Addr × Obj)) (s : Shared) (σ : St) (H : Hp) (Q : VK), Inv X pins σ H s → t σ H Q →
    wpAny (model X.prog X.w) X.A (eval a X.env) (fun v s₁ => wpAny (model X.prog X.w) X.A (eval b X.env) (fun u s₂ => wpAny (model X.prog X.w) X.A (compareOp op v u) (EP X pins σ Q) X.xe s₂) X.xe s₁) X.xe s
def tB (t : TE) : TT := fun σ H Q => t σ H fun x H1 => ∃ c, x = .bl c ∧ Q c H1
theorem pt_cmp {op : CmpOp} {t : TE} (h : PC X op a b t) (h1 : behindInMarks op b = false := by first | exact nobehind _ (by decide) (by decide) | rfl) : PT X (.Compare a [op] [b] pos) (tB t) := by
  intro pins s σ H Q I hw
  refine wpAny_isTrue_Compare1 (thn (h pins s σ H _ I hw) fun v s1 h1 => thn h1 fun u s2 h2 => thn h2 fun c s3 ⟨x, H1, I1, r1, q1⟩ => ?_) h1
  obtain ⟨d, rfl, q⟩ := q1
  cases r1
  exact wpAny_truthy_bool ⟨H1, I1, q⟩
theorem pt_val {e : Expr} {t : TE} (h : PE X e t) (he : ∀ whole, isTrue e X.env whole = (do let v ← whole; standAt e.pos; holding [v] (truthy v)) := by intro _; rfl) : PT X e (tB t) := by
  intro pins s σ H Q I hw
  refine isTrue_plain (thn (h pins s σ H _ I hw) fun v s1 ⟨x, H1, I1, r1, q1⟩ => ?_) (he _)
  obtain ⟨d, rfl, q⟩ := q1
  cases r1
  exact wpAny_truthy_bool ⟨H1, I1, q⟩
variable {tA tB' : TT} {rest : List Expr}
def tOr (t u : TT) : TT := fun σ H Q => t σ H fun c H1 => if c = true then Q true H1 else u σ H1 Q
def tNot (t : TT) : TT := fun σ H Q => t σ H fun c H1 => Q (!c) H1
theorem pw_or1 (ha : PT X a tA) : PW X (.BoolOp .Or [a] pos) tA := by
  intro wh pins s σ H Q I h
  refine isTrue_or (thn (ha pins s σ H Q I h) fun c s1 e => ?_)
  cases c with
  | false => exact isTrue_or_nil e
  | true => exact e
theorem pw_or (ha : PT X a tA) (hb : PW X (.BoolOp .Or (b :: rest) pos) tB') : PW X (.BoolOp .Or (a :: b :: rest) pos) (tOr tA tB') := by
  intro wh pins s σ H Q I h
  refine isTrue_or (thn (ha pins s σ H _ I h) fun c s1 ⟨H1, I1, q1⟩ => ?_)
  cases c with
  | true => exact ⟨H1, I1, q1⟩
  | false => exact hb wh pins s1 σ H1 Q I1 q1
theorem pt_not (ha : PT X a tA) : PT X (.UnaryOp .Not a pos) (tNot tA) := by
  intro pins s σ H Q I h
  exact isTrue_not (ha pins s σ H (fun c H1 => Q (!c) H1) I h)
def tAndV (ta tb : TE) : TE := fun σ H Q => ta σ H fun x H1 => ∃ c, x = .bl c ∧ if c = true then tb σ H1 Q else Q (.bl false) H1
def tNotV (ta : TE) : TE := fun σ H Q => ta σ H fun x H1 => ∃ c, x = .bl c ∧ Q (.bl (!c)) H1
theorem pe_one {op} {t : TE} (h : PE X a t) : PE X (.BoolOp op [a] pos) t := fun pins s σ H Q I hw => BoolOp_one (h pins s σ H Q I hw)
theorem pe_and (ha : PE X a ta) (hb : PE X (.BoolOp .And (b :: rest) pos) tb) : PE X (.BoolOp .And (a :: b :: rest) pos) (tAndV ta tb) := by
  intro pins s σ H Q I h
  refine BoolOp_and (thn (ha pins s σ H _ I h) fun v s1 ⟨x, H1, I1, r1, q1⟩ => ?_)
  obtain ⟨c, rfl, q1⟩ := q1
  cases r1
  refine wpAny_truthy_bool ?_
  cases c with
  | true => exact hb pins s1 σ H1 Q I1 q1
  | false => exact ⟨.bl false, H1, I1, rfl, q1⟩
theorem pe_not (ha : PE X a ta) : PE X (.UnaryOp .Not a pos) (tNotV ta) := by
  intro pins s σ H Q I h
  refine UnaryOp_ (thn (ha pins s σ H _ I h) fun v s1 ⟨x, H1, I1, r1, q1⟩ => ?_)
  obtain ⟨c, rfl, q1⟩ := q1
  cases r1
  exact not_of (wpAny_truthy_bool ⟨.bl (!c), H1, I1, rfl, q1⟩)
end
def SqL (K : PySem.W.Frag) (H : Hp) (a : Addr) (xs : List V) : Prop :=
  Rd H a (.lst xs) ∨
    ∃ (o : Obj) (its : Array Value) (n : Nat), K.lookup a = some o ∧ o.cls = .type "list" ∧ o.dict = none ∧ o.data = .seq its n ∧ its.size ≤ sizeLine ∧ Vals xs its.toList
def SqT (K : PySem.W.Frag) (H : Hp) (a : Addr) (xs : List V) : Prop :=
  Rd H a (.tup xs) ∨
    ∃ (o : Obj) (its : Array Value) (n : Nat), K.lookup a = some o ∧ o.cls = .type "tuple" ∧ o.data = .seq its n ∧ its.size ≤ sizeLine ∧ Vals xs its.toList
def absV : Value → Option V
  | .none => some .non
  | .bool b => some (.bl b)
  | .int i _ => some (.int i)
  | .str x _ => some (.str x)
  | .bytes b _ => some (.byt b)
  | .float b _ => some (.flt b)
  | .ref a => some (.ref a)
  | .type n => some (.ty n)
  | _ => none
theorem RelV.abs {x : V} {u : Value} (r : RelV x u) : absV u = some x := by
  cases x with
  | non => cases r; rfl
  | bl _ => cases r; rfl
  | int _ => obtain ⟨t, rfl⟩ := r; rfl
  | str _ => obtain ⟨t, rfl⟩ := r; rfl
  | byt _ => obtain ⟨t, rfl⟩ := r; rfl
  | flt _ => obtain ⟨t, rfl⟩ := r; rfl
  | ref _ => cases r; rfl
  | ty _ => cases r; rfl
theorem RelV.inj {x y : V} {u : Value} (r : RelV x u) (q : RelV y u) : x = y := Option.some.inj (r.abs.symm.trans q.abs)
theorem Vals.inj : ∀ {xs ys : List V} {us : List Value}, Vals xs us → Vals ys us → xs = ys
  | _, _, _, .nil, .nil => rfl
  | _, _, _, .cons r t, .cons r' t' => by rw [r.inj r', Vals.inj t t']
section
variable {X : Cx} {pins : List (Addr × Obj)} {σ : St} {H : Hp} {s : Shared} {a : Addr} {xs ys : List V}
theorem SqL.of {K : PySem.W.Frag} (h : H a = some (.lst xs)) : SqL K H a xs := .inl (.inl h)
theorem SqT.of {K : PySem.W.Frag} (h : H a = some (.tup xs)) : SqT K H a xs := .inl (.inl h)
theorem Inv.list (I : Inv X pins σ H s) (h : SqL X.K H a xs) : ∃ its : List Value, Vals xs its ∧ PlainL s.heap a its.toArray ∧ xs.length ≤ sizeLine := by
  rcases h with h | ⟨o, its, n, hk, hc, hd, hs, hz, r⟩
  · obtain ⟨z, its, n, r, e⟩ := h.ok I.hok
    exact ⟨its, r, ⟨_, n, e, rfl, rfl, rfl⟩, z⟩
  · refine ⟨its.toList, r, ⟨o, n, I.kIn a o hk, hc, hd, by simpa using hs⟩, ?_⟩
    have e := r.length
    simp only [Array.length_toList] at e
    omega
theorem Inv.tuple (I : Inv X pins σ H s) (h : SqT X.K H a xs) : ∃ its : List Value, Vals xs its ∧ IsTup s.heap a its.toArray ∧ xs.length ≤ sizeLine := by
  rcases h with h | ⟨o, its, n, hk, hc, hs, hz, r⟩
  · obtain ⟨z, its, r, p⟩ := h.ok I.hok
    exact ⟨its, r, p, z⟩
  · refine ⟨its.toList, r, ⟨o, I.kIn a o hk, hc, n, by simpa using hs⟩, ?_⟩
    have e := r.length
    simp only [Array.length_toList] at e
    omega
theorem Inv.list_inj (I : Inv X pins σ H s) (h : SqL X.K H a xs) (h' : SqL X.K H a ys) : xs = ys := by
  obtain ⟨its, r, ⟨o, n, e, _, _, d⟩, _⟩ := I.list h
  obtain ⟨its', r', ⟨o', n', e', _, _, d'⟩, _⟩ := I.list h'
  rw [e] at e'; cases e'
  rw [d] at d'
  injection d' with d1 _
  have : its = its' := by simpa using congrArg Array.toList d1
  subst this
  exact r.inj r'
theorem Inv.tuple_inj (I : Inv X pins σ H s) (h : SqT X.K H a xs) (h' : SqT X.K H a ys) : xs = ys := by
  obtain ⟨its, r, ⟨o, e, _, n, d⟩, _⟩ := I.tuple h
  obtain ⟨its', r', ⟨o', e', _, n', d'⟩, _⟩ := I.tuple h'
  rw [e] at e'; cases e'
  rw [d] at d'
  injection d' with d1 _
  have : its = its' := by simpa using congrArg Array.toList d1
  subst this
  exact r.inj r'
end
abbrev Cx.wish (X : Cx) (E : Value → Shared → Prop) : Cx := { X with xe := E }
abbrev Cx.nox (X : Cx) : Cx := X.wish fun _ _ => False
theorem Cx.Ok.wish {X : Cx} (ok : X.Ok) (E : Value → Shared → Prop) : (X.wish E).Ok :=
  ⟨ok.mod, ok.kind, ok.glob, ok.blt, ok.above, ok.inj, ok.has, ok.cab, ok.hd, ok.frames, ok.stk, ok.exf, ok.bs, ok.bsz, ok.noex, ok.exfs, ok.funs, ok.frf⟩
theorem Cx.Ok.unwish {X : Cx} {E : Value → Shared → Prop} (ok : (X.wish E).Ok) : X.Ok :=
  ⟨ok.mod, ok.kind, ok.glob, ok.blt, ok.above, ok.inj, ok.has, ok.cab, ok.hd, ok.frames, ok.stk, ok.exf, ok.bs, ok.bsz, ok.noex, ok.exfs, ok.funs, ok.frf⟩
section
variable {X : Cx} {pins : List (Addr × Obj)} {σ : St} {H : Hp} {s : Shared} {E : Value → Shared → Prop}
theorem Inv.wish (I : Inv X pins σ H s) (E : Value → Shared → Prop) : Inv (X.wish E) pins σ H s := ⟨I.ok.wish E, I.os, I.bare, I.base, I.loc, I.cell, I.free, I.freeC, I.pin, I.hok, I.len⟩
theorem Inv.unwish (I : Inv (X.wish E) pins σ H s) : Inv X pins σ H s := ⟨I.ok.unwish, I.os, I.bare, I.base, I.loc, I.cell, I.free, I.freeC, I.pin, I.hok, I.len⟩
theorem SP.unwish {D : Ends} {f : Flow} {s' : Shared} (h : SP (X.wish E) pins D f s') : SP X pins D f s' := by
  cases f with
  | next => obtain ⟨σ', H', I, q⟩ := h; exact ⟨σ', H', I.unwish, q⟩
  | brk => obtain ⟨σ', H', I, q⟩ := h; exact ⟨σ', H', I.unwish, q⟩
  | cont => obtain ⟨σ', H', I, q⟩ := h; exact ⟨σ', H', I.unwish, q⟩
  | ret u => obtain ⟨v, σ', H', I, r, q⟩ := h; exact ⟨v, σ', H', I.unwish, r, q⟩
theorem PSs.nox {st : List Stmt} {t : TS} (h : PSs X.nox st t) : PSs X st t := fun pins s σ H D I hw =>
  wpAny_mono (h pins s σ H D (I.wish _) hw) (fun _ _ q => q.unwish) fun _ _ z => False.elim z
end
section
variable {X : Cx} {st : Stmt} {rest : List Stmt} {t u : TS} {e : Expr} {te : TE} {pos : Pos}
def tNext : TS := fun D σ H => D.nx σ H
def tSeq (t u : TS) : TS := fun D σ H => t { D with nx := u D } σ H
theorem pss_nil : PSs X [] tNext := fun _ _ σ H _ I h => wpAny_execs_nil ⟨σ, H, I, h⟩
theorem pss_cons (h1 : PS X st t) (h2 : PSs X rest u) : PSs X (st :: rest) (tSeq t u) := by
  intro pins s σ H D I h
  refine wpAny_execs_cons (thn (h1 pins s σ H { D with nx := u D } I h) fun f s1 q => ?_)
  cases f with
  | next =>
    obtain ⟨σ', H', I', q⟩ := q
    exact h2 pins s1 σ' H' D I' q
  | ret v => exact q
  | brk => exact q
  | cont => exact q
theorem pss_one (h1 : PS X st t) : PSs X [st] t := by
  intro pins s σ H D I h
  refine wpAny_execs_cons (thn (h1 pins s σ H D I h) fun f s1 q => ?_)
  cases f with
  | next => exact wpAny_execs_nil q
  | ret v => exact q
  | brk => exact q
  | cont => exact q
theorem Inv.quiet {pins : List (Addr × Obj)} {σ : St} {H : Hp} {s : Shared} (I : Inv X pins σ H s) : interactive X.env = false := by simp [interactive, I.ok.kind]
def tDrop (te : TE) : TS := fun D σ H => te σ H fun _ H1 => D.nx σ H1
theorem ps_expr (he : PE X e te) (hs : swapsWith e none pos.line X.env = pure false := by rfl) : PS X (.Expr e pos) (tDrop te) := by
  intro pins s σ H D I h
  exact wpAny_Expr_any (thn (he pins s σ H _ I h) fun v s1 ⟨x, H1, I1, r1, q1⟩ => ⟨σ, H1, I1, q1⟩) I.quiet hs
def tRet (te : TE) : TS := fun D σ H => te σ H D.rt
theorem ps_ret (he : PE X e te) : PS X (.Return (some e) pos) (tRet te) := by
  intro pins s σ H D I h
  exact wpAny_Return_some (thn (he pins s σ H _ I h) fun v s1 ⟨x, H1, I1, r1, q1⟩ => ⟨x, σ, H1, I1, r1, q1⟩)
def tIfS (c : TT) (t u : TS) : TS := fun D σ H => c σ H fun b H1 => if b = true then t D σ H1 else u D σ H1
theorem ps_if {c : Expr} {a b : List Stmt} {tc : TT} (hc : PT X c tc) (ha : PSs X a t) (hb : PSs X b u) : PS X (.If c a b pos) (tIfS tc t u) := by
  intro pins s σ H D I h
  refine wpAny_If (thn (hc pins s σ H _ I h) fun d s1 ⟨H1, I1, q1⟩ => ?_)
  cases d with
  | true => exact ha pins s1 σ H1 D I1 q1
  | false => exact hb pins s1 σ H1 D I1 q1
def tNever : TS := fun _ _ _ => False
theorem ps_never : PS X st tNever := fun _ _ _ _ _ _ h => h.elim
end
abbrev TG := V → St → Hp → (St → Hp → Prop) → Prop
abbrev TGs := List V → St → Hp → (St → Hp → Prop) → Prop
def PG (X : Cx) (target : Expr) (t : TG) : Prop :=
  ∀ (pins : List (Addr × Obj)) (s : Shared) (σ : St) (H : Hp) (v : V) (u : Value) (Q : St → Hp → Prop), Inv X pins σ H s → RelV v u → t v σ H Q →
    wpAny (model X.prog X.w) X.A (assign target X.env u) (fun _ s' => ∃ σ' H', Inv X pins σ' H' s' ∧ Q σ' H') X.xe s
def PGs (X : Cx) (ts : List Expr) (t : TGs) : Prop :=
  ∀ (pins : List (Addr × Obj)) (s : Shared) (σ : St) (H : Hp) (vs : List V) (us : List Value) (Q : St → Hp → Prop), Inv X pins σ H s → Vals vs us → t vs σ H Q →
    wpAny (model X.prog X.w) X.A (assignInOrder ((assignEach ts X.env).map (·.2)) us) (fun _ s' => ∃ σ' H', Inv X pins σ' H' s' ∧ Q σ' H') X.xe s
abbrev TIp := V → V → Hp → VK → Prop
def PIp (X : Cx) (op : Operator) (t : TIp) : Prop :=
  ∀ (pins : List (Addr × Obj)) (s : Shared) (σ : St) (H : Hp) (x y : V) (v u : Value) (Q : VK), Inv X pins σ H s → RelV x v → RelV y u → t x y H Q →
    wpAny (model X.prog X.w) X.A (inplaceOp op v u) (EP X pins σ Q) X.xe s
section
variable {X : Cx} {pos : Pos}
def gName (i : Nat) : TG := fun v σ H Q => Q (σ.set i (some v)) H
theorem pg_name {i : Nat} {x : Str} (hN : X.N.Nodup) (hi : X.N[i]? = some x) (hx : Loc X.env.scope x) (hf : X.fn x = true ∨ X.env.scope.names.lookup x = some .local := by first | exact .inl rfl | exact .inr rfl | assumption) : PG X (.Name x pos) (gName i) := by
  intro pins s σ H v u Q I r h
  exact wpAny_assign_Name (store_ok I hN hi hx r (fun s' I' => ⟨_, H, I', h⟩) hf)
def gNil : TGs := fun vs σ H Q => vs = [] ∧ Q σ H
def gCons (t : TG) (u : TGs) : TGs := fun vs σ H Q => ∃ v r, vs = v :: r ∧ t v σ H fun σ' H' => u r σ' H' Q
theorem pgs_nil : PGs X [] gNil := by
  intro pins s σ H vs us Q I r h
  obtain ⟨e, h⟩ := h
  subst e
  cases r
  exact assignInOrder_nil ⟨σ, H, I, h⟩
theorem pgs_cons {e : Expr} {es : List Expr} {t : TG} {u : TGs} (h1 : PG X e t) (h2 : PGs X es u)
    (hs : (assignEach (e :: es) X.env).map (·.2) = assign e X.env :: (assignEach es X.env).map (·.2) := by rfl) : PGs X (e :: es) (gCons t u) := by
  intro pins s σ H vs us Q I r h
  obtain ⟨v, vr, e1, h⟩ := h
  subst e1
  cases r with
  | cons r rr =>
    rw [hs]
    refine assignInOrder_cons (thn (h1 pins s σ H _ _ _ I r h) fun _ s1 ⟨σ1, H1, I1, q1⟩ => ?_)
    exact h2 pins s1 σ1 H1 _ _ Q I1 rr q1
def gTup (K : PySem.W.Frag) (n : Nat) (t : TGs) : TG := fun v σ H Q => ∃ a xs, v = .ref a ∧ SqT K H a xs ∧ xs.length = n ∧ t xs σ H Q
theorem pg_tup {es : List Expr} {k : Nat} {t : TGs} {n : Nat} (hc : X.calm = true) (h : PGs X es t)
    (hn : (assignEach es X.env).length = n := by rfl) (hst : (assignEach es X.env).findIdx? (·.1) = none := by rfl) : PG X (.Tuple es k pos) (gTup X.K n t) := by
  intro pins s σ H v u Q I r hw
  obtain ⟨a, xs, e1, hq, hl, hw⟩ := hw
  subst e1
  cases r
  obtain ⟨its, rv, ht, hz⟩ := I.tuple hq
  refine assign_Tuple_tuple (I.ok.hd hc) ht (by simp [hn, ← hl, rv.length]) hst fun h' hx => ?_
  have I1 : Inv X pins σ H { s with heap := h' } := I.kept (t' := s.toks) fun b o e => hx b o (Nat.ne_of_lt (Heap.lt_size e)) e
  exact h pins _ σ H xs _ Q I1 (by simpa using rv) hw
def tAsg (te : TE) (g : TG) : TS := fun D σ H => te σ H fun x H1 => g x σ H1 D.nx
theorem ps_asg {tg e : Expr} {te : TE} {g : TG} (he : PE X e te) (hg : PG X tg g) (hs : swapsWithSole [tg] e pos.line X.env = pure false := by rfl) (hw : swappedStores [tg] e X.env = pure none := by rfl)
    (h1 : (assignEach [tg] X.env).map (·.2) = [assign tg X.env] := by rfl) : PS X (.Assign [tg] e pos) (tAsg te g) := by
  intro pins s σ H D I h
  refine wpAny_Assign_stores (thn (he pins s σ H _ I h) fun v s1 ⟨x, H1, I1, r1, q1⟩ => ?_) hs hw
  rw [h1]
  exact thn (hg pins s1 σ H1 x v _ I1 r1 q1) fun _ s2 q => q
theorem ps_set {i : Nat} {x : Str} {e : Expr} {te : TE} {pos' : Pos} (hN : X.N.Nodup) (hi : X.N[i]? = some x) (hx : Loc X.env.scope x) (he : PE X e te) (hs : swapsWith e (some (.Name x pos')) pos.line X.env = pure false := by rfl) (hf : X.fn x = true ∨ X.env.scope.names.lookup x = some .local := by first | exact .inl rfl | exact .inr rfl | assumption) :
    PS X (.Assign [.Name x pos'] e pos) (tAsg te (gName i)) := by
  intro pins s σ H D I h
  refine wpAny_Assign_Name (thn (he pins s σ H _ I h) fun v s1 ⟨y, H1, I1, r1, q1⟩ => ?_) hs
  exact store_ok I1 hN hi hx r1 (fun s2 I2 => ⟨_, H1, I2, q1⟩) hf
def tAug (i : Nat) (te : TE) (ti : TIp) : TS := fun D σ H => ∃ x, σ[i]? = some (some x) ∧ te σ H fun y H1 => ti x y H1 fun z H2 => D.nx (σ.set i (some z)) H2
theorem ps_aug {i : Nat} {x : Str} {e : Expr} {te : TE} {op : Operator} {ti : TIp} {pos' : Pos} (hN : X.N.Nodup) (hi : X.N[i]? = some x) (hx : Loc X.env.scope x) (he : PE X e te) (ho : PIp X op ti) (hf : X.fn x = true ∨ X.env.scope.names.lookup x = some .local := by first | exact .inl rfl | exact .inr rfl | assumption) :
    PS X (.AugAssign (.Name x pos') op e pos) (tAug i te ti) := by
  intro pins s σ H D I h
  obtain ⟨v, e1, h⟩ := h
  obtain ⟨m, hn, hl⟩ := I.loc
  have vis : Vis X.env.scope x := by rcases hx with k | k; exact .inl k; exact .inr (.inl k)
  obtain ⟨u, r, l⟩ := hl i x v hi e1 vis
  refine wpAny_AugAssign_Name ?_
  have go : wpAny (model X.prog X.w) X.A (eval e X.env) (fun w s₂ => wpAny (model X.prog X.w) X.A (inplaceOp op u w) (fun r s₃ => wpAny (model X.prog X.w) X.A (storeName X.env x r) (fun _ => SP X pins D .next) X.xe s₃) X.xe s₂) X.xe s := by
    refine thn (he pins s σ H _ I h) fun w s1 ⟨y, H1, I1, r1, q1⟩ => ?_
    refine thn (ho pins s1 σ H1 v y u w _ I1 r r1 q1) fun z s2 ⟨zv, H2, I2, r2, q2⟩ => ?_
    exact store_ok I2 hN hi hx r2 (fun s3 I3 => ⟨_, H2, I3, q2⟩) hf
  rcases l with ⟨hk, hm⟩ | ⟨hk, c, hc, hcell⟩
  · exact wpAny_loadName_local I.ok.kind hk hn hm go
  · rcases hk with hk | hk
    · exact wpAny_loadName_cell I.ok.kind hk hc hcell go
    · rcases hx with k | k
      · have : X.env.scope.names.lookup x = some .free := hk
        rw [k] at this; cases this
      · have : X.env.scope.names.lookup x = some .free := hk
        rw [k] at this; cases this
def ipI (f : Int → Int → Int) : TIp := fun x y H Q => ∃ i j, x = .int i ∧ y = .int j ∧ Q (.int (f i j)) H
theorem ip_add : PIp X .Add (ipI fun i j => i + j) := by
  intro pins s σ H x y v u Q I r1 r2 h
  obtain ⟨i, j, e1, e2, q⟩ := h
  subst e1; subst e2
  obtain ⟨t, rfl⟩ := r1
  obtain ⟨t', rfl⟩ := r2
  exact iadd_int ⟨.int _, H, I.tok _, ⟨_, rfl⟩, q⟩
end
section
variable {X : Cx} {pos : Pos}
def tWhile (c : TT) (tb : TS) : TS := fun D σ H => ∃ W : Nat → St → Hp → Prop, (∃ m, W m σ H) ∧ ∀ m σ H, W m σ H →
  c σ H fun b H1 => if b = true then ∃ N : St → Hp → Prop, (∀ σ' H', N σ' H' → ∃ m', m' < m ∧ W m' σ' H') ∧ tb { D with nx := N, ct := N, bk := D.nx } σ H1 else D.nx σ H1
theorem ps_while {c : Expr} {body : List Stmt} {tc : TT} {tb : TS} (hp : PassesOwn (model X.prog X.w) X.A X.env X.xe) (hc : PT X c tc) (hb : PSs X body tb) : PS X (.While c body [] pos) (tWhile tc tb) := by
  intro pins s σ H D I h
  obtain ⟨W, ⟨m0, w0⟩, turn⟩ := h
  refine wpAny_While (codeAny_whileLoop (fun n s' => ∃ σ' H', Inv X pins σ' H' s' ∧ W n σ' H') ?_ m0 ⟨σ, H, I, w0⟩)
  rintro n s1 ⟨σ1, H1, I1, w1⟩
  refine wpAny_passesOwn hp (thn (hc pins s1 σ1 H1 _ I1 (turn n σ1 H1 w1)) fun b s2 ⟨H2, I2, q2⟩ => ?_)
  cases b with
  | true =>
    obtain ⟨N, hN, q2⟩ := q2
    rw [if_pos rfl]
    refine wpAny_passesOwn hp (thn (hb pins s2 σ1 H2 _ I2 q2) fun f s3 q3 => ?_)
    cases f with
    | next =>
      obtain ⟨σ3, H3, I3, n3⟩ := q3
      obtain ⟨m', hm, w3⟩ := hN σ3 H3 n3
      exact ⟨m', hm, σ3, H3, I3, w3⟩
    | cont =>
      obtain ⟨σ3, H3, I3, n3⟩ := q3
      obtain ⟨m', hm, w3⟩ := hN σ3 H3 n3
      exact ⟨m', hm, σ3, H3, I3, w3⟩
    | brk => exact q3
    | ret v => exact q3
  | false =>
    rw [if_neg Bool.false_ne_true]
    exact wpAny_execs_nil ⟨σ1, H2, I2, q2⟩
end
structure It where
  go : Nat → Hp → Prop
  yld : Nat → Hp → V → Hp → Prop
  stop : Nat → Hp → Prop
def FpOk (X : Cx) (pins : List (Addr × Obj)) (H : Hp) (b : Addr) : Prop :=
  H b = none ∧ b ≠ X.env.locals ∧ b ∉ X.fs ∧ (b ∈ X.ex ∨ X.s₀.heap.objs.size ≤ b) ∧ (∀ x c, X.env.cells.lookup x = some c → c ≠ b) ∧ ∀ p ∈ X.pn ++ pins, p.1 ≠ b
theorem Inv.fpOk {X : Cx} {pins : List (Addr × Obj)} {σ : St} {H H' : Hp} {s : Shared} {b : Addr} (I : Inv X pins σ H s) (hb : s.heap.objs.size ≤ b) (hn : H' b = none) : FpOk X pins H' b := by
  refine ⟨hn, Nat.ne_of_gt (Nat.lt_of_lt_of_le I.lt hb), I.nofs hb, .inr (Nat.le_trans I.sz hb), fun x c e z => ?_, fun p hp z => ?_⟩
  · obtain ⟨v, q⟩ := I.cell x c e
    exact absurd (Nat.lt_of_lt_of_le q.lt (by rw [z]; exact hb)) (Nat.lt_irrefl _)
  · exact absurd (Nat.lt_of_lt_of_le (Heap.lt_size (I.pin p hp).1) (by rw [z]; exact hb)) (Nat.lt_irrefl _)
structure Turn (P : Program) (w : World) (K : PySem.W.Frag) (tg : Expr) (J : It) (fp : List Addr) (it : Addr) (tn : Nat → Heap → Prop) : Prop where
  mem : it ∈ fp
  obj : ∀ i h, tn i h → ∀ b ∈ fp, ∃ o, h.get? b = some o ∧ ∀ v, o.data ≠ .cell v
  keep : ∀ i h h', tn i h → (∀ b ∈ fp, ∀ o, h.get? b = some o → h'.get? b = some o) → tn i h'
  item : ∀ (X : Cx), X.prog = P → X.w = w → X.K = K → X.calm = true → ∀ (i : Nat) (pins : List (Addr × Obj)) (s : Shared) (σ : St) (H : Hp) (E : Value → Shared → Prop), Inv X pins σ H s → (∀ b ∈ fp, FpOk X pins H b) → tn i s.heap → J.go i H →
    wpAny (model P w) X.A (pyNext (.ref it)) (fun r s1 => ∃ u, r = some u ∧
      wpAny (model P w) X.A (letOwnedTupleGo tg (.ref it) u) (fun _ s2 => ∃ x H', Inv X pins σ H' s2 ∧ RelV x u ∧ J.yld i H x H' ∧ tn (i + 1) s2.heap ∧ ∀ b ∈ fp, H' b = none) E s1) E s
  done : ∀ (X : Cx), X.prog = P → X.w = w → X.K = K → X.calm = true → ∀ (i : Nat) (pins : List (Addr × Obj)) (s : Shared) (σ : St) (H : Hp) (E : Value → Shared → Prop), Inv X pins σ H s → (∀ b ∈ fp, FpOk X pins H b) → tn i s.heap → J.stop i H →
    wpAny (model P w) X.A (pyNext (.ref it)) (fun r s1 => r = none ∧ Inv X pins σ H s1) E s
  self : ∀ (A : Around) (i : Nat) (s : Shared) (Q : Value → Shared → Prop) (E : Value → Shared → Prop), tn i s.heap → Q (.ref it) s → wpAny (model P w) A (pyIter (.ref it)) Q E s
abbrev TI := St → Hp → (It → Hp → Prop) → Prop
def PIE (X : Cx) (pins : List (Addr × Obj)) (σ : St) (tg : Expr) (R : It → Hp → Prop) (itv : Value) (s2 : Shared) : Prop :=
  ∃ (it : Addr) (fp : List Addr) (tn : Nat → Heap → Prop) (J : It) (H' : Hp), itv = .ref it ∧ Inv X pins σ H' s2 ∧ Turn X.prog X.w X.K tg J fp it tn ∧ tn 0 s2.heap ∧ (∀ b ∈ fp, FpOk X pins H' b) ∧ R J H'
def PI (X : Cx) (tg iter : Expr) (wi : TI) : Prop :=
  ∀ (pins : List (Addr × Obj)) (s : Shared) (σ : St) (H : Hp) (R : It → Hp → Prop), Inv X pins σ H s → wi σ H R →
    wpAny (model X.prog X.w) X.A (eval iter X.env) (fun v s1 => wpAny (model X.prog X.w) X.A (pyIter v) (PIE X pins σ tg R) X.xe s1) X.xe s
theorem go_of {M : Model} {A : Around} {E : Value → Shared → Prop} {s : Shared} {tg : Expr} {it : Addr} {u : Value} {o : Obj} {n : String} {vs : Array Value} {Q : Unit → Shared → Prop} (ho : s.heap.get? it = some o) (hc : o.cls = .type n) (hd : o.data = .fields vs)
    (hn : ["enumerate", "zip", "dict_itemiterator", "dict_reverseitemiterator", "odict_iterator", "itertools.zip_longest", "itertools.pairwise"].contains n = false) (hQ : Q () s) : wpAny M A (letOwnedTupleGo tg (.ref it) u) Q E s := by
  unfold letOwnedTupleGo
  cases tg <;> first
    | exact wpAny_pure hQ
    | (cases u <;> first
        | exact wpAny_pure hQ
        | (refine wpAny_bind (wpAny_load ho ?_)
           rw [hc, hd]
           show wpAny M A (if (["enumerate", "zip", "dict_itemiterator", "dict_reverseitemiterator", "odict_iterator", "itertools.zip_longest", "itertools.pairwise"].contains n && vs[0]? == some (rawInt _)) = true then _ else _) Q E s
           rw [if_neg (by intro h; rw [hn, Bool.false_and] at h; cases h)]
           exact wpAny_pure hQ))
def Itl (K : PySem.W.Frag) (a : Addr) : It :=
  ⟨fun i H => ∃ xs x, SqL K H a xs ∧ xs[i]? = some x, fun i H x H' => H' = H ∧ ∀ xs, SqL K H a xs → xs[i]? = some x, fun i H => ∃ xs, SqL K H a xs ∧ xs.length ≤ i⟩
def Itt (K : PySem.W.Frag) (a : Addr) : It :=
  ⟨fun i H => ∃ xs x, SqT K H a xs ∧ xs[i]? = some x, fun i H x H' => H' = H ∧ ∀ xs, SqT K H a xs → xs[i]? = some x, fun i H => ∃ xs, SqT K H a xs ∧ xs.length ≤ i⟩
def Itr (lo : Int) (n : Nat) : It := ⟨fun i _ => i < n, fun i H x H' => H' = H ∧ x = .int (lo + i), fun i _ => n ≤ i⟩
theorem turn_list {P : Program} {w : World} {K : PySem.W.Frag} {tg : Expr} (a it : Addr) : Turn P w K tg (Itl K a) [it] it (fun i h => h.IsListIter it a i) where
  mem := by simp
  obj := fun i h st b hb => by
    have e : b = it := by simpa using hb
    subst e
    obtain ⟨o, e, c, d⟩ := st
    exact ⟨o, e, fun v z => by rw [d] at z; cases z⟩
  keep := fun i h h' st k => st.at fun o e => k it (by simp) o e
  item := by
    intro X hP hw hK hc i pins s σ H E I hf st hg
    subst hP hw hK
    obtain ⟨xs, x, hq, hx⟩ := hg
    obtain ⟨its, rv, p, hz⟩ := I.list hq
    obtain ⟨u, hu, ru⟩ := rv.get hx
    obtain ⟨f0, f1, f2, f3, f4, f5⟩ := hf it (by simp)
    refine wpAny_pyNext_list_item st p.isList (x := u) (by simpa using hu) fun h' st' sb => ?_
    have I1 : Inv X pins σ H { s with heap := h' } := I.turned (t' := s.toks) (fun b o hb e => (sb.2 b hb).trans e) f0 f1 f3 f4 f5
    obtain ⟨o, e, c, d⟩ := id st'
    exact ⟨u, rfl, go_of (s := { s with heap := h' }) e c d (by decide) ⟨x, H, I1, ru, ⟨rfl, fun ys hy => by rw [I.list_inj hy hq]; exact hx⟩, st', fun b hb => (hf b hb).1⟩⟩
  done := by
    intro X hP hw hK hc i pins s σ H E I hf st hg
    subst hP hw hK
    obtain ⟨xs, hq, hx⟩ := hg
    obtain ⟨its, rv, p, hz⟩ := I.list hq
    obtain ⟨f0, f1, f2, f3, f4, f5⟩ := hf it (by simp)
    have hl := rv.length
    exact wpAny_pyNext_list_end (I.ok.hd hc) st p.isList (by simp; omega) fun h' eb => ⟨rfl, I.turned (t' := s.toks) (fun b o hb e => eb b o hb e) f0 f1 f3 f4 f5⟩
  self := fun _ _ _ _ _ st h => wpAny_pyIter_listiter st h
theorem turn_tuple {P : Program} {w : World} {K : PySem.W.Frag} {tg : Expr} (a it : Addr) : Turn P w K tg (Itt K a) [it] it (fun i h => h.IsTupleIter it a i) where
  mem := by simp
  obj := fun i h st b hb => by
    have e : b = it := by simpa using hb
    subst e
    obtain ⟨o, e, c, d⟩ := st
    exact ⟨o, e, fun v z => by rw [d] at z; cases z⟩
  keep := fun i h h' st k => st.at fun o e => k it (by simp) o e
  item := by
    intro X hP hw hK hc i pins s σ H E I hf st hg
    subst hP hw hK
    obtain ⟨xs, x, hq, hx⟩ := hg
    obtain ⟨its, rv, p, hz⟩ := I.tuple hq
    obtain ⟨u, hu, ru⟩ := rv.get hx
    obtain ⟨f0, f1, f2, f3, f4, f5⟩ := hf it (by simp)
    refine wpAny_pyNext_tuple_item st (show s.heap.IsTuple a its.toArray from p) (x := u) (by simpa using hu) fun h' st' sb => ?_
    have I1 : Inv X pins σ H { s with heap := h' } := I.turned (t' := s.toks) (fun b o hb e => (sb.2 b hb).trans e) f0 f1 f3 f4 f5
    obtain ⟨o, e, c, d⟩ := id st'
    exact ⟨u, rfl, go_of (s := { s with heap := h' }) e c d (by decide) ⟨x, H, I1, ru, ⟨rfl, fun ys hy => by rw [I.tuple_inj hy hq]; exact hx⟩, st', fun b hb => (hf b hb).1⟩⟩
  done := by
    intro X hP hw hK hc i pins s σ H E I hf st hg
    subst hP hw hK
    obtain ⟨xs, hq, hx⟩ := hg
    obtain ⟨its, rv, p, hz⟩ := I.tuple hq
    obtain ⟨f0, f1, f2, f3, f4, f5⟩ := hf it (by simp)
    have hl := rv.length
    exact wpAny_pyNext_tuple_end (I.ok.hd hc) st (show s.heap.IsTuple a its.toArray from p) (by simp; omega) fun h' eb => ⟨rfl, I.turned (t' := s.toks) (fun b o hb e => eb b o hb e) f0 f1 f3 f4 f5⟩
  self := fun _ _ _ _ _ st h => wpAny_pyIter_tupleiter st h
theorem turn_range {P : Program} {w : World} {K : PySem.W.Frag} {tg : Expr} (it : Addr) (lo : Int) (n : Nat) : Turn P w K tg (Itr lo n) [it] it (fun i h => IsRangeIter h it (lo + (i : Nat) * 1) ((n : Int) - (i : Nat)) 1) where
  mem := by simp
  obj := fun i h st b hb => by
    have e : b = it := by simpa using hb
    subst e
    exact ⟨_, st, fun v z => by
      have z' : Data.fields _ = Data.cell v := z
      cases z'⟩
  keep := fun i h h' st k => k it (by simp) _ st
  item := by
    intro X hP hw hK hc i pins s σ H E I hf st hg
    subst hP hw hK
    obtain ⟨f0, f1, f2, f3, f4, f5⟩ := hf it (by simp)
    have W := Walks.range (prog := X.prog) (w := X.w) (I.ok.hd hc) it lo 1 n
    refine W.item i s _ _ hg st fun v h' tk hv st' kk => ?_
    obtain ⟨t, rfl⟩ := hv
    have I1 : Inv X pins σ H { s with heap := h', toks := tk } := I.turned (fun b o hb e => kk b o (by simpa using hb) e) f0 f1 f3 f4 f5
    refine ⟨_, rfl, go_of (s := { s with heap := h', toks := tk }) (n := "range_iterator") st' rfl rfl (by decide) ⟨.int (lo + i), H, I1, ⟨t, ?_⟩, ⟨rfl, rfl⟩, st', fun b hb => (hf b hb).1⟩⟩
    rw [Int.mul_one]
  done := by
    intro X hP hw hK hc i pins s σ H E I hf st hg
    subst hP hw hK
    obtain ⟨f0, f1, f2, f3, f4, f5⟩ := hf it (by simp)
    exact wpAny_pyNext_range_end (I.ok.hd hc) st (by have : n ≤ i := hg; omega) fun h' eb => ⟨rfl, I.turned (t' := s.toks) (fun b o hb e => eb b o hb e) f0 f1 f3 f4 f5⟩
  self := fun _ _ _ _ _ st h => wpAny_pyIter_rangeiter st h
section
variable {X : Cx} {tg : Expr}
def iList (K : PySem.W.Frag) (tl : TE) : TI := fun σ H R => tl σ H fun x H1 => ∃ a, x = .ref a ∧ (∃ xs, SqL K H1 a xs) ∧ R (Itl K a) H1
def iTup (K : PySem.W.Frag) (tl : TE) : TI := fun σ H R => tl σ H fun x H1 => ∃ a, x = .ref a ∧ (∃ xs, SqT K H1 a xs) ∧ R (Itt K a) H1
theorem pi_list {l : Expr} {tl : TE} (hl : PE X l tl) : PI X tg l (iList X.K tl) := by
  intro pins s σ H R I h
  refine thn (hl pins s σ H _ I h) fun v s1 ⟨x, H1, I1, r1, q1⟩ => ?_
  obtain ⟨a, e, ⟨xs, hq⟩, q⟩ := q1
  subst e
  cases r1
  obtain ⟨its, rv, p, hz⟩ := I1.list hq
  refine wpAny_pyIter_list p.isList ?_
  refine ⟨s1.heap.objs.size, [s1.heap.objs.size], _, _, H1, rfl, I1.kept (t' := s1.toks) fun b o e => Heap.get?_push_of_some _ e, turn_list a _, ⟨_, Heap.get?_push_size _ rfl, rfl, rfl⟩, fun b hb => ?_, q⟩
  have e : b = s1.heap.objs.size := by simpa using hb
  subst e
  exact I1.fpOk (Nat.le_refl _) (I1.hok.fresh (Nat.le_refl _))
theorem pi_tup {l : Expr} {tl : TE} (hl : PE X l tl) : PI X tg l (iTup X.K tl) := by
  intro pins s σ H R I h
  refine thn (hl pins s σ H _ I h) fun v s1 ⟨x, H1, I1, r1, q1⟩ => ?_
  obtain ⟨a, e, ⟨xs, hq⟩, q⟩ := q1
  subst e
  cases r1
  obtain ⟨its, rv, p, hz⟩ := I1.tuple hq
  refine wpAny_pyIter_tuple (show s1.heap.IsTuple a its.toArray from p) ?_
  refine ⟨s1.heap.objs.size, [s1.heap.objs.size], _, _, H1, rfl, I1.kept (t' := s1.toks) fun b o e => Heap.get?_push_of_some _ e, turn_tuple a _, ⟨_, Heap.get?_push_size _ rfl, rfl, rfl⟩, fun b hb => ?_, q⟩
  have e : b = s1.heap.objs.size := by simpa using hb
  subst e
  exact I1.fpOk (Nat.le_refl _) (I1.hok.fresh (Nat.le_refl _))
theorem range_it {pins : List (Addr × Obj)} {σ : St} {H : Hp} {s : Shared} {R : It → Hp → Prop} {E : Value → Shared → Prop} {lo hi : Int} {t u v : Tok} {tk : Nat} (I : Inv X pins σ H s) (h1 : -(2 ^ 62) ≤ lo) (h2 : lo < 2 ^ 62) (h3 : -(2 ^ 62) ≤ hi) (h4 : hi < 2 ^ 62)
    (q : R (Itr lo (hi - lo).toNat) H) : wpAny (model X.prog X.w) X.A (pyIter (.ref s.heap.objs.size)) (PIE X pins σ tg R) E { s with heap := s.heap.push { cls := .type "range", data := .fields #[.int lo t, .int hi u, .int 1 v] }, toks := tk } := by
  refine wpAny_pyIter_range (IsRange.new ..) (small_one h1 h2 h3 h4) ?_
  have I1 : Inv X pins σ H { s with heap := s.heap.push { cls := .type "range", data := .fields #[.int lo t, .int hi u, .int 1 v] }, toks := tk } := I.kept fun b o e => Heap.get?_push_of_some _ e
  refine ⟨(s.heap.push { cls := .type "range", data := .fields #[.int lo t, .int hi u, .int 1 v] }).objs.size, [(s.heap.push { cls := .type "range", data := .fields #[.int lo t, .int hi u, .int 1 v] }).objs.size], _, _, H, rfl,
    I1.kept (t' := tk) fun b o e => Heap.get?_push_of_some _ e, turn_range _ lo (hi - lo).toNat, ?_, fun b hb => ?_, q⟩
  · have e1 : lo + ((0 : Nat) : Int) * 1 = lo := by simp
    have e2 : (((hi - lo).toNat : Nat) : Int) - ((0 : Nat) : Int) = Builtin.Range.rangeSize lo hi 1 := by rw [rangeSize_one]; split <;> omega
    show IsRangeIter _ _ (lo + ((0 : Nat) : Int) * 1) ((((hi - lo).toNat : Nat) : Int) - ((0 : Nat) : Int)) 1
    rw [e1, e2]
    exact Heap.get?_push_size _ rfl
  · have e : b = (s.heap.push { cls := .type "range", data := .fields #[.int lo t, .int hi u, .int 1 v] }).objs.size := by simpa using hb
    subst e
    exact I1.fpOk (Nat.le_refl _) (I1.hok.fresh (Nat.le_refl _))
def iRng1 (ta : TA) : TI := fun σ H R => ta σ H fun vs H1 => ∃ j : Int, vs = [.int j] ∧ -(2 ^ 62) ≤ j ∧ j < 2 ^ 62 ∧ R (Itr 0 j.toNat) H1
theorem pi_range1 {a : Expr} {ta : TA} {p pos : Pos} (hg : Gl X "range") (hm : X.mg "range" = none) (ha : PA X [a] ta) (hs : starEach [a] X.env = [(false, eval a X.env)] := by rfl) : PI X tg (.Call (.Name "range" p) [a] [] pos) (iRng1 ta) := by
  intro pins s σ H R I h
  refine Call_ (ld_blt I hg hm boot_range (PyProof.Rows.callWith_type1 (thn (ha pos pins s σ H _ I h) fun us s1 ⟨vs, H1, I1, r1, q1⟩ => ?_) hs rfl))
  obtain ⟨j, e, q1, q2, q⟩ := q1
  subst e
  cases r1 with
  | cons r rr =>
    cases rr
    obtain ⟨t, rfl⟩ := r
    exact call_range_1 (range_it I1 (by omega) (by omega) q1 q2 (by simpa using q))
def tFor (wi : TI) (g : TG) (tb : TS) : TS := fun D σ H => wi σ H fun J H1 => ∃ W : Nat → Nat → St → Hp → Prop, (∃ m, W 0 m σ H1) ∧ ∀ i m σ H, W i m σ H →
  (J.stop i H ∧ D.nx σ H) ∨ (J.go i H ∧ ∃ N : St → Hp → Prop, (∀ σ' H', N σ' H' → ∃ m', m' < m ∧ W (i + 1) m' σ' H') ∧ ∀ x H', J.yld i H x H' → g x σ H' fun σ2 H2 => tb { D with nx := N, ct := N, bk := D.nx } σ2 H2)
def pinsAt (fp : List Addr) (h : Heap) : List (Addr × Obj) := fp.filterMap fun b => (h.get? b).map fun o => (b, o)
theorem mem_pinsAt {fp : List Addr} {h : Heap} {b : Addr} {o : Obj} (hb : b ∈ fp) (e : h.get? b = some o) : (b, o) ∈ pinsAt fp h := List.mem_filterMap.mpr ⟨b, hb, by rw [e]; rfl⟩
theorem of_pinsAt {fp : List Addr} {h : Heap} {p : Addr × Obj} (hp : p ∈ pinsAt fp h) : p.1 ∈ fp ∧ h.get? p.1 = some p.2 := by
  obtain ⟨b, hb, e⟩ := List.mem_filterMap.mp hp
  cases q : h.get? b with
  | none => rw [q] at e; cases e
  | some o =>
    rw [q] at e
    have e' : (b, o) = p := Option.some.inj e
    subst e'
    exact ⟨hb, q⟩
theorem Inv.pinned {pins : List (Addr × Obj)} {σ : St} {H : Hp} {s : Shared} {fp : List Addr} (I : Inv X pins σ H s) (hf : ∀ b ∈ fp, FpOk X pins H b) (ho : ∀ b ∈ fp, ∃ o, s.heap.get? b = some o ∧ ∀ v, o.data ≠ .cell v) : Inv X (pins ++ pinsAt fp s.heap) σ H s :=
  I.pins_of fun p hp => (List.mem_append.mp hp).elim (fun z => I.pin p (List.mem_append_right _ z)) fun z => by
    obtain ⟨hb, e⟩ := of_pinsAt z
    obtain ⟨f0, f1, f2, _⟩ := hf p.1 hb
    obtain ⟨o, e', d⟩ := ho p.1 hb
    rw [e] at e'; cases e'
    exact ⟨e, f0, f1, f2, d⟩
theorem Inv.unpinned {pins pl : List (Addr × Obj)} {σ : St} {H : Hp} {s : Shared} (I : Inv X (pins ++ pl) σ H s) : Inv X pins σ H s := I.pins_of fun p hp => I.pin p (List.mem_append_right _ (List.mem_append_left _ hp))
theorem ps_for {iter : Expr} {body : List Stmt} {wi : TI} {g : TG} {tb : TS} {pos : Pos} (hp : PassesOwn (model X.prog X.w) X.A X.env X.xe) (hc : X.calm = true) (hi : PI X tg iter wi) (hg : PG X tg g) (hb : PSs X body tb)
    (hs : ∀ x, foldedSetIterable iter X.env x = pure x := by intro _; rfl) : PS X (.For tg iter body [] pos) (tFor wi g tb) := by
  intro pins s σ H D I h
  refine wpAny_For (thn (hi pins s σ H _ I h) fun v s1 h1 => thn h1 fun itv s2 h2 => ?_) hs
  obtain ⟨it, fp, tn, J, H2, e, I2, T, st2, f2, W, ⟨m0, w0⟩, turn⟩ := h2
  subst e
  have stat : ∀ {H' : Hp}, (∀ b ∈ fp, H' b = none) → ∀ b ∈ fp, FpOk X pins H' b := fun hn b hb => ⟨hn b hb, (f2 b hb).2⟩
  refine codeAny_forLoop_any (fun n s' => ∃ i σ' H', Inv X pins σ' H' s' ∧ tn i s'.heap ∧ (∀ b ∈ fp, H' b = none) ∧ W i n σ' H') ?_ m0 ⟨0, σ, H2, I2, st2, fun b hb => (f2 b hb).1, w0⟩
  rintro n s3 ⟨i, σ3, H3, I3, st3, fr3, w3⟩
  rcases turn i n σ3 H3 w3 with ⟨stop, qn⟩ | ⟨go, N, hN, step⟩
  · refine wpAny_passesOwn hp (thn (T.done X rfl rfl rfl hc i pins s3 σ3 H3 X.xe I3 (stat fr3) st3 stop) fun r s4 ⟨hr, I4⟩ => ?_)
    subst hr
    exact wpAny_execs_nil ⟨σ3, H3, I4, qn⟩
  · refine wpAny_passesOwn hp (thn (T.item X rfl rfl rfl hc i pins s3 σ3 H3 X.xe I3 (stat fr3) st3 go) fun r s4 ⟨u, hr, h4⟩ => ?_)
    subst hr
    refine wpAny_passesOwn hp (thn h4 fun _ s5 ⟨x, H5, I5, r5, y5, st5, fr5⟩ => ?_)
    have I5' := I5.pinned (stat fr5) (T.obj _ _ st5)
    refine wpAny_passesOwn hp (thn (hg _ s5 σ3 H5 x u _ I5' r5 (step x H5 y5)) fun _ s6 ⟨σ6, H6, I6, q6⟩ => ?_)
    refine wpAny_passesOwn hp (thn (hb _ s6 σ6 H6 _ I6 q6) fun f s7 q7 => ?_)
    have again : ∀ {σ7 : St} {H7 : Hp}, Inv X (pins ++ pinsAt fp s5.heap) σ7 H7 s7 → N σ7 H7 → ∃ m, m < n ∧ ∃ i σ' H', Inv X pins σ' H' s7 ∧ tn i s7.heap ∧ (∀ b ∈ fp, H' b = none) ∧ W i m σ' H' := fun {σ7 H7} I7 n7 => by
      obtain ⟨m', hm, w7⟩ := hN σ7 H7 n7
      refine ⟨m', hm, i + 1, σ7, H7, I7.unpinned, T.keep _ _ _ st5 fun b hb o e => (I7.pin (b, o) (List.mem_append_right _ (List.mem_append_right _ (mem_pinsAt hb e)))).1, fun b hb => ?_, w7⟩
      obtain ⟨o, e, d⟩ := T.obj _ _ st5 b hb
      exact (I7.pin (b, o) (List.mem_append_right _ (List.mem_append_right _ (mem_pinsAt hb e)))).2.1
    cases f with
    | next => obtain ⟨σ7, H7, I7, n7⟩ := q7; exact again I7 n7
    | cont => obtain ⟨σ7, H7, I7, n7⟩ := q7; exact again I7 n7
    | brk => obtain ⟨σ7, H7, I7, q7⟩ := q7; exact ⟨σ7, H7, I7.unpinned, q7⟩
    | ret v => obtain ⟨x7, σ7, H7, I7, r7, q7⟩ := q7; exact ⟨x7, σ7, H7, I7.unpinned, r7, q7⟩
end
theorem for_list {K : PySem.W.Frag} {a : Addr} {xs : List V} {g : TG} {tb : TS} {D : Ends} {σ : St} {H : Hp} (Pv : Nat → St → Hp → Prop) (h0 : Pv 0 σ H) (hl : ∀ i σ H, i ≤ xs.length → Pv i σ H → SqL K H a xs)
    (hs : ∀ i x σ H, xs[i]? = some x → Pv i σ H → g x σ H fun σ2 H2 => tb { D with nx := Pv (i + 1), ct := Pv (i + 1), bk := D.nx } σ2 H2) (hd : ∀ σ H, Pv xs.length σ H → D.nx σ H) :
    ∃ W : Nat → Nat → St → Hp → Prop, (∃ m, W 0 m σ H) ∧ ∀ i m σ H, W i m σ H →
      ((Itl K a).stop i H ∧ D.nx σ H) ∨ ((Itl K a).go i H ∧ ∃ N : St → Hp → Prop, (∀ σ' H', N σ' H' → ∃ m', m' < m ∧ W (i + 1) m' σ' H') ∧ ∀ x H', (Itl K a).yld i H x H' → g x σ H' fun σ2 H2 => tb { D with nx := N, ct := N, bk := D.nx } σ2 H2) := by
  refine ⟨fun i m σ H => m = xs.length - i ∧ i ≤ xs.length ∧ Pv i σ H, ⟨xs.length, by simp, Nat.zero_le _, h0⟩, ?_⟩
  rintro i m σ H ⟨rfl, hi, p⟩
  have q := hl i σ H hi p
  by_cases hlt : i < xs.length
  · refine .inr ⟨⟨xs, xs[i], q, by simp [hlt]⟩, Pv (i + 1), fun σ' H' p' => ⟨xs.length - (i + 1), by omega, rfl, hlt, p'⟩, fun x H' y => ?_⟩
    obtain ⟨e, y⟩ := y
    subst e
    exact hs i x σ _ (y xs q) p
  · have e : i = xs.length := by omega
    subst e
    exact .inl ⟨⟨xs, q, Nat.le_refl _⟩, hd σ H p⟩
theorem for_tup {K : PySem.W.Frag} {a : Addr} {xs : List V} {g : TG} {tb : TS} {D : Ends} {σ : St} {H : Hp} (Pv : Nat → St → Hp → Prop) (h0 : Pv 0 σ H) (hl : ∀ i σ H, i ≤ xs.length → Pv i σ H → SqT K H a xs)
    (hs : ∀ i x σ H, xs[i]? = some x → Pv i σ H → g x σ H fun σ2 H2 => tb { D with nx := Pv (i + 1), ct := Pv (i + 1), bk := D.nx } σ2 H2) (hd : ∀ σ H, Pv xs.length σ H → D.nx σ H) :
    ∃ W : Nat → Nat → St → Hp → Prop, (∃ m, W 0 m σ H) ∧ ∀ i m σ H, W i m σ H →
      ((Itt K a).stop i H ∧ D.nx σ H) ∨ ((Itt K a).go i H ∧ ∃ N : St → Hp → Prop, (∀ σ' H', N σ' H' → ∃ m', m' < m ∧ W (i + 1) m' σ' H') ∧ ∀ x H', (Itt K a).yld i H x H' → g x σ H' fun σ2 H2 => tb { D with nx := N, ct := N, bk := D.nx } σ2 H2) := by
  refine ⟨fun i m σ H => m = xs.length - i ∧ i ≤ xs.length ∧ Pv i σ H, ⟨xs.length, by simp, Nat.zero_le _, h0⟩, ?_⟩
  rintro i m σ H ⟨rfl, hi, p⟩
  have q := hl i σ H hi p
  by_cases hlt : i < xs.length
  · refine .inr ⟨⟨xs, xs[i], q, by simp [hlt]⟩, Pv (i + 1), fun σ' H' p' => ⟨xs.length - (i + 1), by omega, rfl, hlt, p'⟩, fun x H' y => ?_⟩
    obtain ⟨e, y⟩ := y
    subst e
    exact hs i x σ _ (y xs q) p
  · have e : i = xs.length := by omega
    subst e
    exact .inl ⟨⟨xs, q, Nat.le_refl _⟩, hd σ H p⟩
theorem for_range {lo : Int} {n : Nat} {g : TG} {tb : TS} {D : Ends} {σ : St} {H : Hp} (Pv : Nat → St → Hp → Prop) (h0 : Pv 0 σ H)
    (hs : ∀ i σ H, i < n → Pv i σ H → g (.int (lo + i)) σ H fun σ2 H2 => tb { D with nx := Pv (i + 1), ct := Pv (i + 1), bk := D.nx } σ2 H2) (hd : ∀ σ H, Pv n σ H → D.nx σ H) :
    ∃ W : Nat → Nat → St → Hp → Prop, (∃ m, W 0 m σ H) ∧ ∀ i m σ H, W i m σ H →
      ((Itr lo n).stop i H ∧ D.nx σ H) ∨ ((Itr lo n).go i H ∧ ∃ N : St → Hp → Prop, (∀ σ' H', N σ' H' → ∃ m', m' < m ∧ W (i + 1) m' σ' H') ∧ ∀ x H', (Itr lo n).yld i H x H' → g x σ H' fun σ2 H2 => tb { D with nx := N, ct := N, bk := D.nx } σ2 H2) := by
  refine ⟨fun i m σ H => m = n - i ∧ i ≤ n ∧ Pv i σ H, ⟨n, by simp, Nat.zero_le _, h0⟩, ?_⟩
  rintro i m σ H ⟨rfl, hi, p⟩
  by_cases hlt : i < n
  · refine .inr ⟨hlt, Pv (i + 1), fun σ' H' p' => ⟨n - (i + 1), by omega, rfl, hlt, p'⟩, fun x H' y => ?_⟩
    obtain ⟨e, y⟩ := y
    subst e y
    exact hs i σ _ hlt p
  · have e : i = n := by omega
    subst e
    exact .inl ⟨Nat.le_refl _, hd σ H p⟩
abbrev R2 := V → V → Hp → VK → Prop
def OpR (X : Cx) (f : Value → Value → Sem Value) (r : R2) : Prop :=
  ∀ (pins : List (Addr × Obj)) (s : Shared) (σ : St) (H : Hp) (x y : V) (v u : Value) (Q : VK), Inv X pins σ H s → RelV x v → RelV y u → r x y H Q →
    wpAny (model X.prog X.w) X.A (f v u) (EP X pins σ Q) X.xe s
def CallR (X : Cx) (f : Value) (r : List V → Hp → VK → Prop) : Prop :=
  ∀ (pins : List (Addr × Obj)) (s : Shared) (σ : St) (H : Hp) (xs : List V) (us : List Value) (Q : VK), Inv X pins σ H s → Vals xs us → r xs H Q →
    wpAny (model X.prog X.w) X.A (call f us) (EP X pins σ Q) X.xe s
def tOp (r : R2) (ta tb : TE) : TE := fun σ H Q => ta σ H fun x H1 => tb σ H1 fun y H2 => r x y H2 Q
def rI (C : Int → Int → Prop) (g : Int → Int → V) : R2 := fun x y H Q => ∃ i j, x = .int i ∧ y = .int j ∧ C i j ∧ Q (g i j) H
def rI0 (g : Int → Int → V) : R2 := fun x y H Q => ∃ i j, x = .int i ∧ y = .int j ∧ Q (g i j) H
section
variable {X : Cx} {a b c : Expr} {ta tb tc : TE} {pos : Pos}
theorem binT (ha : PE X a ta) (hb : PE X b tb) {pins : List (Addr × Obj)} {s : Shared} {σ : St} {H : Hp} {R : V → V → Hp → Prop} (I : Inv X pins σ H s)
    (h : ta σ H fun x H1 => tb σ H1 fun y H2 => R x y H2) {Q : Value → Shared → Prop} {f : Value → Value → Sem Value}
    (hf : ∀ v u s2 x y H2, Inv X pins σ H2 s2 → RelV x v → RelV y u → R x y H2 → wpAny (model X.prog X.w) X.A (f v u) Q X.xe s2) :
    wpAny (model X.prog X.w) X.A (eval a X.env) (fun v s₁ => wpAny (model X.prog X.w) X.A (eval b X.env) (fun u s₂ => wpAny (model X.prog X.w) X.A (f v u) Q X.xe s₂) X.xe s₁) X.xe s := by
  refine thn (ha pins s σ H _ I h) fun v s1 ⟨x, H1, I1, r1, q1⟩ => ?_
  refine thn (hb pins s1 σ H1 _ I1 q1) fun u s2 ⟨y, H2, I2, r2, q2⟩ => ?_
  exact hf v u s2 x y H2 I2 r1 r2 q2
theorem pe_op {op : Operator} {r : R2} (ho : OpR X (binaryOp op) r) (ha : PE X a ta) (hb : PE X b tb) : PE X (.BinOp a op b pos) (tOp r ta tb) := by
  intro pins s σ H Q I h
  exact wpAny_BinOp (binT ha hb I h fun v u s2 x y H2 I2 rx ry q => ho pins s2 σ H2 x y v u Q I2 rx ry q)
theorem opI {f : Value → Value → Sem Value} {C : Int → Int → Prop} {g : Int → Int → Int}
    (rule : ∀ (i j : Int) (t u : Tok) (s : Shared) (Q : Value → Shared → Prop) (E : Value → Shared → Prop), C i j → Q (.int (g i j) s.toks) { s with toks := s.toks + 1 } → wpAny (model X.prog X.w) X.A (f (.int i t) (.int j u)) Q E s) :
    OpR X f (rI C fun i j => .int (g i j)) := by
  intro pins s σ H x y v u Q I rx ry h
  obtain ⟨i, j, rfl, rfl, hc, q⟩ := h
  obtain ⟨t, rfl⟩ := rx
  obtain ⟨t', rfl⟩ := ry
  exact rule i j t t' s _ _ hc ⟨.int (g i j), H, I.tok _, ⟨_, rfl⟩, q⟩
theorem opI0 {f : Value → Value → Sem Value} {g : Int → Int → Int}
    (rule : ∀ (i j : Int) (t u : Tok) (s : Shared) (Q : Value → Shared → Prop) (E : Value → Shared → Prop), Q (.int (g i j) s.toks) { s with toks := s.toks + 1 } → wpAny (model X.prog X.w) X.A (f (.int i t) (.int j u)) Q E s) :
    OpR X f (rI0 fun i j => .int (g i j)) := by
  intro pins s σ H x y v u Q I rx ry h
  obtain ⟨i, j, rfl, rfl, q⟩ := h
  obtain ⟨t, rfl⟩ := rx
  obtain ⟨t', rfl⟩ := ry
  exact rule i j t t' s _ _ ⟨.int (g i j), H, I.tok _, ⟨_, rfl⟩, q⟩
theorem opB0 {f : Value → Value → Sem Value} {g : Int → Int → Bool}
    (rule : ∀ (i j : Int) (t u : Tok) (s : Shared) (Q : Value → Shared → Prop) (E : Value → Shared → Prop), Q (.bool (g i j)) s → wpAny (model X.prog X.w) X.A (f (.int i t) (.int j u)) Q E s) :
    OpR X f (rI0 fun i j => .bl (g i j)) := by
  intro pins s σ H x y v u Q I rx ry h
  obtain ⟨i, j, rfl, rfl, q⟩ := h
  obtain ⟨t, rfl⟩ := rx
  obtain ⟨t', rfl⟩ := ry
  exact rule i j t t' s _ _ ⟨.bl (g i j), H, I, rfl, q⟩
def CDiv (i j : Int) : Prop := 0 < j ∧ j < 1073741824
def CPow (i j : Int) : Prop := 0 ≤ j ∧ j ≤ 1000000 ∧ i.natAbs < 2 ^ 64
def CMul (i j : Int) : Prop := (-(2 ^ 64) < i ∧ i < 2 ^ 64) ∨ (-(2 ^ 64) < j ∧ j < 2 ^ 64)
theorem CMul.ok {i j : Int} (h : CMul i j) : IntMulOk i j := by
  rcases h with ⟨h1, h2⟩ | ⟨h1, h2⟩
  · exact .of_left (intBits_le_64 h1 h2)
  · exact .of_right (intBits_le_64 h1 h2)
theorem two_pow_nn (k : Nat) : (0 : Int) ≤ 2 ^ k := by
  rw [two_pow_cast]
  exact Int.natCast_nonneg _
theorem op_add : OpR X (binaryOp .Add) (rI0 fun i j => .int (i + j)) := opI0 fun _ _ _ _ _ _ _ q => add_int q
theorem op_sub : OpR X (binaryOp .Sub) (rI0 fun i j => .int (i - j)) := opI0 fun _ _ _ _ _ _ _ q => sub_int q
theorem op_mul : OpR X (binaryOp .Mult) (rI CMul fun i j => .int (i * j)) := opI fun _ _ _ _ _ _ _ hc q => mul_int q hc.ok
theorem op_fdiv : OpR X (binaryOp .FloorDiv) (rI CDiv fun i j => .int (i / j)) := opI fun i j _ _ _ _ _ hc q => by
  have h1 : (0 : Int) < j := hc.1
  have h2 : j < 1073741824 := hc.2
  exact floordiv_int (by omega) (by rw [Int.fdiv_eq_ediv_of_nonneg i (by omega)]; exact q) (.inl (PyProof.noPylong_small (by omega)))
theorem op_mod : OpR X (binaryOp .Mod) (rI (fun _ j => 0 < j) fun i j => .int (i % j)) := opI fun i j _ _ _ _ _ hc q => by
  have h1 : (0 : Int) < j := hc
  exact mod_int' (by omega) (by rw [Int.fmod_eq_emod_of_nonneg i (by omega)]; exact q)
theorem op_pow : OpR X (binaryOp .Pow) (rI CPow fun i j => .int (i ^ j.toNat)) := opI fun _ _ _ _ _ _ _ hc q => pow_int_small hc.1 hc.2.1 hc.2.2 q
theorem op_shl : OpR X (binaryOp .LShift) (rI CPow fun i j => .int (i * 2 ^ j.toNat)) := opI fun _ _ _ _ _ _ _ hc q => lshift_int_small hc.1 hc.2.1 hc.2.2 q
theorem op_shr : OpR X (binaryOp .RShift) (rI (fun _ j => 0 ≤ j) fun i j => .int (i / 2 ^ j.toNat)) := opI fun i j _ _ _ _ _ hc q =>
  rshift_int hc (by rw [Int.fdiv_eq_ediv_of_nonneg i (two_pow_nn _)]; exact q)
theorem op_and : OpR X (binaryOp .BitAnd) (rI0 fun i j => .int (Builtin.bitAnd i j)) := opI0 fun _ _ _ _ _ _ _ q => and_int q
end
def scal : V → V → Bool
  | .non, .non => true | .non, .int _ => true | .int _, .non => true | .non, .bl _ => true | .bl _, .non => true | .non, .str _ => true | .str _, .non => true
  | .int _, .int _ => true | .bl _, .bl _ => true | .str _, .str _ => true | .byt _, .byt _ => true
  | .int _, .str _ => true | .str _, .int _ => true | .bl _, .str _ => true | .str _, .bl _ => true
  | _, _ => false
def rNe : R2 := fun x y H Q => scal x y = true ∧ Q (.bl (!decide (x = y))) H
theorem dec_int {i j : Int} : decide (V.int i = V.int j) = (i == j) := by
  rw [Bool.eq_iff_iff]
  simp
theorem dec_bl {i j : Bool} : decide (V.bl i = V.bl j) = (i == j) := by
  rw [Bool.eq_iff_iff]
  simp
theorem dec_str {i j : Str} : decide (V.str i = V.str j) = (i == j) := by
  rw [Bool.eq_iff_iff]
  simp
theorem dec_byt {i j : Array UInt8} : decide (V.byt i = V.byt j) = (i.toList == j.toList) := by
  rw [Bool.eq_iff_iff]
  cases i
  cases j
  simp
section
variable {X : Cx} {a b c : Expr} {ta tb tc : TE} {pos : Pos}
theorem fin_bl {pins : List (Addr × Obj)} {σ : St} {H : Hp} {s : Shared} {Q : VK} {k k' : Bool} (I : Inv X pins σ H s) (q : Q (.bl k) H) (e : k = k') : EP X pins σ Q (.bool k') s := by
  subst e
  exact ⟨.bl k, H, I, rfl, q⟩
theorem op_ne : OpR X (compareOp .NotEq) rNe := by
  intro pins s σ H x y v u Q I rx ry h
  obtain ⟨hs, q⟩ := h
  cases x with
  | non =>
    cases rx
    cases y with
    | non => cases ry; exact PySem.EqNone.ne_none_none (fin_bl I q (by simp))
    | bl j => cases ry; exact PySem.EqNone.ne_none_bool (fin_bl I q (by simp))
    | int j => obtain ⟨t', rfl⟩ := ry; exact PySem.EqNone.ne_none_int (fin_bl I q (by simp))
    | str j => obtain ⟨t', rfl⟩ := ry; exact PySem.EqNone.ne_none_str (fin_bl I q (by simp))
    | _ => exact absurd (show false = true from hs) Bool.false_ne_true
  | bl i =>
    cases rx
    cases y with
    | non => cases ry; exact PySem.EqNone.ne_bool_none (fin_bl I q (by simp))
    | bl j => cases ry; exact ne_bool (fin_bl I q (congrArg not dec_bl))
    | str j => obtain ⟨t', rfl⟩ := ry; exact PySem.EqMixed.ne_bool_str (fin_bl I q (by simp))
    | _ => exact absurd (show false = true from hs) Bool.false_ne_true
  | int i =>
    obtain ⟨t, rfl⟩ := rx
    cases y with
    | non => cases ry; exact PySem.EqNone.ne_int_none (fin_bl I q (by simp))
    | int j => obtain ⟨t', rfl⟩ := ry; exact ne_int (fin_bl I q (congrArg not dec_int))
    | str j => obtain ⟨t', rfl⟩ := ry; exact PySem.EqMixed.ne_int_str (fin_bl I q (by simp))
    | _ => exact absurd (show false = true from hs) Bool.false_ne_true
  | str i =>
    obtain ⟨t, rfl⟩ := rx
    cases y with
    | non => cases ry; exact PySem.EqNone.ne_str_none (fin_bl I q (by simp))
    | bl j => cases ry; exact PySem.EqMixed.ne_str_bool (fin_bl I q (by simp))
    | int j => obtain ⟨t', rfl⟩ := ry; exact PySem.EqMixed.ne_str_int (fin_bl I q (by simp))
    | str j => obtain ⟨t', rfl⟩ := ry; exact ne_str (fin_bl I q (congrArg not dec_str))
    | _ => exact absurd (show false = true from hs) Bool.false_ne_true
  | byt i =>
    obtain ⟨t, rfl⟩ := rx
    cases y with
    | byt j => obtain ⟨t', rfl⟩ := ry; exact PySem.W.ne_bytes (fin_bl I q (congrArg not dec_byt))
    | _ => exact absurd (show false = true from hs) Bool.false_ne_true
  | _ => cases y <;> exact absurd (show false = true from hs) Bool.false_ne_true
theorem op_lt : OpR X (compareOp .Lt) (rI0 fun i j => .bl (decide (i < j))) := opB0 fun _ _ _ _ _ _ _ q => lt_int q
theorem op_le : OpR X (compareOp .LtE) (rI0 fun i j => .bl (decide (i ≤ j))) := opB0 fun _ _ _ _ _ _ _ q => le_int q
theorem op_gt : OpR X (compareOp .Gt) (rI0 fun i j => .bl (decide (j < i))) := opB0 fun _ _ _ _ _ _ _ q => gt_int q
theorem op_ge : OpR X (compareOp .GtE) (rI0 fun i j => .bl (decide (j ≤ i))) := opB0 fun _ _ _ _ _ _ _ q => ge_int q
theorem nomark (b : Expr) {op : CmpOp} (h : op ≠ .In := by decide) (h2 : op ≠ .NotIn := by decide) : behindInMarks op b = false := by
  have e1 : (op == CmpOp.In) = false := by cases op <;> first | rfl | exact absurd rfl h
  have e2 : (op == CmpOp.NotIn) = false := by cases op <;> first | rfl | exact absurd rfl h2
  cases b <;> simp [behindInMarks, e1, e2]
theorem pe_cmpR {op : CmpOp} {r : R2} (ho : OpR X (compareOp op) r) (ha : PE X a ta) (hb : PE X b tb) (hm : behindInMarks op b = false) : PE X (.Compare a [op] [b] pos) (tOp r ta tb) := by
  intro pins s σ H Q I h
  exact wpAny_Compare1 (binT ha hb I h fun v u s2 x y H2 I2 rx ry q => ho pins s2 σ H2 x y v u Q I2 rx ry q) hm
def tTest (t : TE) : TT := fun σ H Q => t σ H fun x H' => ∃ k, x = .bl k ∧ Q k H'
theorem pt_cmpR {op : CmpOp} {r : R2} (ho : OpR X (compareOp op) r) (ha : PE X a ta) (hb : PE X b tb) (hm : behindInMarks op b = false) : PT X (.Compare a [op] [b] pos) (tTest (tOp r ta tb)) := by
  intro pins s σ H Q I h
  refine wpAny_isTrue_Compare1 (thn (ha pins s σ H _ I h) fun v s1 ⟨x, H1, I1, r1, q1⟩ => thn (hb pins s1 σ H1 _ I1 q1) fun u s2 ⟨y, H2, I2, r2, q2⟩ =>
    thn (ho pins s2 σ H2 x y v u _ I2 r1 r2 q2) fun c s3 ⟨z, H3, I3, r3, k, e, q3⟩ => ?_) hm
  subst e
  cases r3
  exact wpAny_truthy_bool ⟨H3, I3, q3⟩
def tChain (r r' : R2) (ta tb tc : TE) : TE := fun σ H Q => ta σ H fun x H1 => tb σ H1 fun y H2 => r x y H2 fun z H3 => ∃ k, z = .bl k ∧
  (if k = true then tc σ H3 fun w' H4 => r' y w' H4 Q else Q (.bl false) H3)
theorem pe_chain {op op' : CmpOp} {r r' : R2} (ho : OpR X (compareOp op) r) (ho' : OpR X (compareOp op') r') (ha : PE X a ta) (hb : PE X b tb) (hc : PE X c tc)
    (hm : lastMarks [op, op'] [b, c] = false := by with_unfolding_all rfl) : PE X (.Compare a [op, op'] [b, c] pos) (tChain r r' ta tb tc) := by
  intro pins s σ H Q I h
  refine Compare_chain (thn (ha pins s σ H _ I h) fun v s1 ⟨x, H1, I1, r1, q1⟩ => chain_link (thn (hb pins s1 σ H1 _ I1 q1) fun u s2 ⟨y, H2, I2, r2, q2⟩ =>
    thn (ho pins s2 σ H2 x y v u _ I2 r1 r2 q2) fun d s3 ⟨z, H3, I3, r3, k, e, q3⟩ => ?_)) hm
  subst e
  cases r3
  refine wpAny_truthy_bool ?_
  cases k with
  | false => exact ite_ff ⟨.bl false, H3, I3, rfl, q3⟩
  | true => exact ite_tt (chain_last (thn (hc pins s3 σ H3 _ I3 q3) fun w' s4 ⟨z', H4, I4, r4, q4⟩ => ho' pins s4 σ H4 y z' u w' Q I4 r2 r4 q4))
theorem line63 : (sizeLine : Nat) < 2 ^ 63 := by rw [sizeLine_eq]; decide
theorem vals1 {x : V} {us : List Value} (r : Vals [x] us) : ∃ u, us = [u] ∧ RelV x u := by
  cases r with
  | cons r1 r2 => cases r2; exact ⟨_, rfl, r1⟩
theorem vals2 {x y : V} {us : List Value} (r : Vals [x, y] us) : ∃ u w', us = [u, w'] ∧ RelV x u ∧ RelV y w' := by
  cases r with
  | cons r1 r2 =>
    cases r2 with
    | cons r3 r4 => cases r4; exact ⟨_, _, rfl, r1, r3⟩
end
structure ObjM (h : Heap) (x dx C : Addr) (mA : Str → Option Value) : Prop where
  obj : h.get? x = some (PySem.W.instObj C dx)
  ns : h.Ns1 dx mA
  ne : dx ≠ x
theorem lookIn_ns {h : Heap} {dx : Addr} {mA : Str → Option Value} (n : h.Ns1 dx mA) : ∃ od, h.get? dx = some od ∧ ∀ name, PySem.W.lookIn name od = some (mA name) := by
  obtain ⟨o, es, ep, ho, hd, hk, _, hm⟩ := n
  refine ⟨o, ho, fun name => ?_⟩
  have e := hm name
  unfold nsFind findBy at e
  rw [← Array.find?_toList] at e
  unfold PySem.W.lookIn
  rw [hd]
  dsimp only
  split
  · rename_i y q
    rw [q] at e
    exact congrArg some e
  · rename_i q
    rw [q] at e
    have a : es.toList.any (·.refKey) = false := by
      rw [List.any_eq_false]
      intro y hy
      obtain ⟨z, t, hkey⟩ := hk y (Array.mem_toList_iff.mp hy)
      simp [DictEntry.refKey, hkey]
    have a' : ¬ es.toList.any (·.refKey) = true := by rw [a]; exact Bool.false_ne_true
    rw [if_neg a']
    exact congrArg some e
theorem ObjM.look {h : Heap} {x dx C : Addr} {mA : Str → Option Value} (I : ObjM h x dx C mA) : ∃ od, PySem.W.InstAt h x (PySem.W.instObj C dx) C (some od) ∧ ∀ name, PySem.W.lookIn name od = some (mA name) :=
  let ⟨od, ho, hl⟩ := lookIn_ns I.ns
  ⟨od, ⟨I.obj, rfl, rfl, ho⟩, hl⟩
theorem RelO.some_of {v : V} {o : Option Value} (r : RelO (some v) o) : ∃ u, o = some u ∧ RelV v u := by
  cases o with
  | none => exact (show False from r).elim
  | some u => exact ⟨u, rfl, r⟩
section
variable {P : Program} {w : World} {H H' : Hp} {h h' : Heap} {a C dx : Addr} {fs fs' : List (Str × V)}
theorem ins_get (hok : HOk P w H h) (e : H a = some (.ins C dx fs)) : ∃ mA, ObjM h a dx C mA ∧ (∀ f, RelO (fs.lookup f) (mA f)) ∧ PySem.Within mA (fs.map (·.1)) ∧ fs.length ≤ 1000 ∧ H dx = some (.own a) := by
  obtain ⟨d, z, ne, ob, mA, n, r, q⟩ := (show ObjOk P w H h a (.ins C dx fs) from hok a _ e)
  exact ⟨mA, ⟨ob, n, ne⟩, r, q, z, d⟩
end
structure Cls (K : PySem.W.Frag) (C : Addr) : Prop where
  pg : PySem.W.plainGet K C Str.empty = true
  hd : PySem.W.hasDictIn K C = true
  po : PySem.W.plainOver K C = true
  sa : PySem.W.findIn K (.ref C) "__setattr__" = some (some (.builtin "object.__setattr__"))
theorem Cls.get {K : PySem.W.Frag} {C : Addr} (c : Cls K C) (f : Str) : PySem.W.plainGet K C f = true := c.pg
section
variable {X : Cx} {pins : List (Addr × Obj)} {σ : St} {H : Hp} {s : Shared} {A : Around} {E : Value → Shared → Prop} {Q : Value → Shared → Prop} {c : Value} {b : Bool}
inductive TyOf (K : PySem.W.Frag) (H : Hp) : V → Value → Prop where
  | non : TyOf K H .non (.type "NoneType")
  | bl (x : Bool) : TyOf K H (.bl x) (.type "bool")
  | int (i : Int) : TyOf K H (.int i) (.type "int")
  | str (x : Str) : TyOf K H (.str x) (.type "str")
  | flt (x : UInt64) : TyOf K H (.flt x) (.type "float")
  | lst {a : Addr} {xs : List V} (e : H a = some (.lst xs)) : TyOf K H (.ref a) (.type "list")
  | frz {a : Addr} {o : Obj} {xs : List V} (e : H a = some (.frz o (.lst xs))) : TyOf K H (.ref a) (.type "list")
  | tup {a : Addr} {xs : List V} (e : H a = some (.tup xs)) : TyOf K H (.ref a) (.type "tuple")
  | dK {a : Addr} {kvs : List (Key × V)} (e : H a = some (.dK kvs)) : TyOf K H (.ref a) (.type "dict")
  | dT {a : Addr} {kvs : List (List Key × V)} (e : H a = some (.dT kvs)) : TyOf K H (.ref a) (.type "dict")
  | ins {a C dx : Addr} {fs : List (Str × V)} (e : H a = some (.ins C dx fs)) (cl : Cls K C) (ha : PySem.W.findIn K (.ref C) "__class__" = some (some (.builtin "object.__class__")))
      (hn : PySem.W.specialIn K (.builtin "object.__class__") "__get__" = some (some (.builtin "getset_descriptor.__get__"))) (htk : PySem.W.takesIn K (.builtin "object.__class__") = some true)
      (hm : PySem.W.mroIn K C (.type "object") = some true) : TyOf K H (.ref a) (.ref C)
theorem isinst_ok {x : V} {u t : Value} (I : Inv X pins σ H s) (rx : RelV x u) (ty : TyOf X.K H x t) (e : PySem.W.kitOne X.K t c = some b) (h : ∀ tk, Q (.bool b) { s with toks := tk }) :
    wpAny (model X.prog X.w) A (call (.builtin "isinstance") [u, c]) Q E s := by
  cases ty with
  | non => cases (show u = Value.none from rx); exact PySem.W.kia_one PySem.W.kitx_none I.kIn True.intro e (fun z => nomatch z) h
  | bl y => cases (show u = Value.bool y from rx); exact PySem.W.kia_one PySem.W.kitx_bool I.kIn True.intro e (fun z => nomatch z) h
  | int i => obtain ⟨t, q⟩ := (show ∃ t, u = Value.int i t from rx); cases q; exact PySem.W.kia_one PySem.W.kitx_int I.kIn True.intro e (fun z => nomatch z) h
  | str y => obtain ⟨t, q⟩ := (show ∃ t, u = Value.str y t from rx); cases q; exact PySem.W.kia_one PySem.W.kitx_str I.kIn True.intro e (fun z => nomatch z) h
  | flt y => obtain ⟨t, q⟩ := (show ∃ t, u = Value.float y t from rx); cases q; exact PySem.W.kia_one PySem.W.kitx_float I.kIn True.intro e (fun z => nomatch z) h
  | @lst a xs ea =>
    cases (show u = Value.ref a from rx)
    obtain ⟨_, _, n, _, h1⟩ := (show ObjOk X.prog X.w H s.heap a (.lst xs) from I.hok a _ ea)
    exact PySem.W.kia_one PySem.W.kitx_list I.kIn ⟨_, h1, rfl⟩ e (fun z => nomatch z) h
  | @frz a ob xs ea =>
    cases (show u = Value.ref a from rx)
    obtain ⟨_, _, _, n, _, h1⟩ := (show ObjOk X.prog X.w H s.heap a (.frz ob (.lst xs)) from I.hok a _ ea)
    exact PySem.W.kia_one PySem.W.kitx_list I.kIn ⟨_, h1, rfl⟩ e (fun z => nomatch z) h
  | @tup a xs ea =>
    cases (show u = Value.ref a from rx)
    obtain ⟨_, _, _, p⟩ := (show ObjOk X.prog X.w H s.heap a (.tup xs) from I.hok a _ ea)
    obtain ⟨o, h1, h2, _⟩ := p
    exact PySem.W.kia_one PySem.W.kitx_tuple I.kIn ⟨o, h1, h2⟩ e (fun z => nomatch z) h
  | @dK a kvs ea =>
    cases (show u = Value.ref a from rx)
    obtain ⟨_, _, vs, _, p⟩ := (show ObjOk X.prog X.w H s.heap a (.dK kvs) from I.hok a _ ea)
    obtain ⟨o, es, ep, h1, h2, _⟩ := p
    exact PySem.W.kia_one PySem.W.kitx_dict I.kIn ⟨o, h1, h2.1⟩ e (fun z => nomatch z) h
  | @dT a kvs ea =>
    cases (show u = Value.ref a from rx)
    obtain ⟨_, _, xs, _, o, es, ep, h1, h2, _⟩ := (show ObjOk X.prog X.w H s.heap a (.dT kvs) from I.hok a _ ea)
    exact PySem.W.kia_one PySem.W.kitx_dict I.kIn ⟨o, h1, h2.1⟩ e (fun z => nomatch z) h
  | @ins a C dx fs ea cl ha hn htk hm =>
    cases (show u = Value.ref a from rx)
    obtain ⟨mA, O, _⟩ := ins_get I.hok ea
    obtain ⟨od, J, _⟩ := O.look
    exact PySem.W.kia_one (PySem.W.kitx_own (cl.get _) cl.hd ha hn htk hm) I.kIn J e (fun z => nomatch z) h
end
structure Room (k : Nat) (A : Around) : Prop where
  hd : A.handled = none
  dp : A.depth + 3 * k + 5 < recursionLimit
  un : A.units + 16 * k + 200 < cLine
theorem Room.mono {j k : Nat} {A : Around} (r : Room k A) (h : j ≤ k) : Room j A := ⟨r.hd, by have := r.dp; omega, by have := r.un; omega⟩
theorem Room.deeper {k : Nat} {A : Around} (r : Room (k + 1) A) (env : Env) : Room k (A.deeper env) :=
  ⟨r.hd, by have := r.dp; show A.depth + 1 + 3 * k + 5 < _; omega, by have := r.un; show A.units + 3 + 16 * k + 200 < _; omega⟩
theorem Room.depth {k : Nat} {A : Around} (r : Room k A) : A.depth < recursionLimit := by have := r.dp; omega
theorem Room.units {k : Nat} {A : Around} (r : Room k A) : A.units + 64 < cLine := by have := r.un; omega
def tNil : TA := fun _ H Q => Q [] H
def tCons (ta : TE) (tr : TA) : TA := fun σ H Q => ta σ H fun x H1 => tr σ H1 fun xs H2 => Q (x :: xs) H2
section
variable {X : Cx} {e : Expr} {es : List Expr} {te : TE} {t : TA} {pos : Pos}
theorem pa_nil : PA X [] tNil := fun _ _ _ _ H Q I h => Calls.spliced_nil ⟨[], H, I, .nil, h⟩
theorem pa_cons (ha : PE X e te) (hr : PA X es t) (hs : starEach (e :: es) X.env = (false, eval e X.env) :: starEach es X.env := by rfl) : PA X (e :: es) (tCons te t) := by
  intro pos pins s σ H Q I h
  rw [hs]
  show wpAny _ _ (spliced ((false, eval e X.env) :: backTo pos (starEach es X.env))) _ _ s
  refine Calls.spliced_cons (thn (ha pins s σ H _ I h) fun u s1 ⟨x, H1, I1, r1, q1⟩ => ?_)
  exact thn (hr pos pins s1 σ H1 _ I1 q1) fun us s2 ⟨xs, H2, I2, r2, q2⟩ => ⟨x :: xs, H2, I2, .cons r1 r2, q2⟩
end
abbrev Sp := List V → Hp → VK → XK → Prop
abbrev CXT := List Env → Hp → Shared → XK → Value → Shared → Prop
structure Env0 (P : Program) (w : World) (K : PySem.W.Frag) (mg : Str → Option Value) (base : Heap) (A : Around) (outer : List Env) (s : Shared) (H : Hp) : Prop where
  frames : A.frames = some outer
  mod : Mod K mg base
  bs : ∀ b o, base.get? b = some o → s.heap.get? b = some o ∧ H b = none
  bsz : base.objs.size ≤ s.heap.objs.size
  funs : s.heap.FunFrames base outer
  frf : ∀ b ∈ frs outer, H b = none
  hok : HOk P w H s.heap
  bare : AllBare s.gens
def CE (outer : List Env) (P : Program) (w : World) (H : Hp) (s : Shared) (Q : VK) (u : Value) (s' : Shared) : Prop :=
  ∃ v H', s'.os = s.os ∧ AllBare s'.gens ∧ Un (frs outer) [] H H' s.heap s'.heap ∧ HOk P w H' s'.heap ∧ RelV v u ∧ Q v H'
def CR (CX : CXT) (outer : List Env) (P : Program) (w : World) (H : Hp) (s : Shared) (Q : VK) (E : XK) (r : Result) (s' : Shared) : Prop :=
  match r with
  | .ok (.ret u) => CE outer P w H s Q u s'
  | .ok _ => False
  | .error e => CX outer H s E e s'
structure FnOk (P : Program) (w : World) (K : PySem.W.Frag) (mg : Str → Option Value) (base : Heap) (CX : CXT) (k : Nat) (f : Addr) (fd : FuncData) (ps : List Str) (sp : Sp) : Prop where
  len : ∀ vs H Q E, sp vs H Q E → vs.length = ps.length
  run : ∀ (A : Around) (outer : List Env) (s : Shared) (H : Hp) (args : Args) (us : List Value) (vs : List V) (Q : VK) (E : XK), Room k A → Env0 P w K mg base A outer s H → BindsTo s fd args (ps.zip us) → Vals vs us → sp vs H Q E →
    codeAny (model P w) A (.call (.ref f) args) (CR CX outer P w H s Q E) s
section
variable {X : Cx} {pins : List (Addr × Obj)} {σ : St} {H : Hp} {s s' : Shared}
theorem Inv.env0 (I : Inv X pins σ H s) : Env0 X.prog X.w X.K X.mg X.base X.A X.stack s H :=
  ⟨I.ok.frames, I.ok.mod, I.bs, Nat.le_trans I.ok.bsz I.sz, I.stack, I.stkFree, I.hok, I.bare⟩
theorem Inv.after {Q : VK} {u : Value} (I : Inv X pins σ H s) (h : CE X.stack X.prog X.w H s Q u s') : EP X pins σ Q u s' := by
  obtain ⟨v, H', os, bare, un, hok, r, q⟩ := h
  obtain ⟨hh, g, d, t, os'⟩ := s'
  obtain rfl : os' = s.os := os
  exact ⟨v, H', I.call (h' := hh) (g' := g) (d' := d) (t' := t) (ch := []) un hok bare (fun b z => absurd z (by simp)), r, q⟩
end
def tCall (sp : Sp) (dvs : List V) (E : XK) (t : TA) : TE := fun σ H Q => t σ H fun vs H1 => sp (vs ++ dvs) H1 Q E
def Binds (K : PySem.W.Frag) (fd : FuncData) (ps : List Str) (ds : List Value) : Prop :=
  ∀ (s : Shared) (us : List Value), K.In s.heap → (us ++ ds).length = ps.length → BindsTo s fd ⟨us, []⟩ (ps.zip (us ++ ds))
theorem Binds.all {K : PySem.W.Frag} {fd : FuncData} {ps : List Str} (h : ∀ us : List Value, us.length = ps.length → bindArgs fd ⟨us, []⟩ = pure (ps.zip us)) : Binds K fd ps [] := fun s us _ hl => by
  rw [List.append_nil] at hl ⊢
  exact .of_eq (h us hl)
def Passes (CX : CXT) (X : Cx) (E : XK) : Prop := ∀ (pins : List (Addr × Obj)) (σ : St) (H : Hp) (s : Shared) (e : Value) (s' : Shared), Inv X pins σ H s → CX X.stack H s E e s' → X.xe e s'
section
variable {X : Cx} {CX : CXT} {k : Nat} {f C : Addr} {fd : FuncData} {ps : List Str} {sp : Sp} {dvs : List V} {ds : List Value} {E : XK} {x m : Str} {p pos apos : Pos} {e o : Expr} {es : List Expr} {ta : TE} {t : TA}
theorem run_fn {pins : List (Addr × Obj)} {σ : St} {H : Hp} {s : Shared} {Q : VK} {us : List Value} {vs : List V} (F : FnOk X.prog X.w X.K X.mg X.base CX k f fd ps sp) (hr : Room k X.A) (hb : Binds X.K fd ps ds) (hd : Vals dvs ds) (hx : Passes CX X E)
    (I : Inv X pins σ H s) (r : Vals vs us) (h : sp (vs ++ dvs) H Q E) : wpAny (model X.prog X.w) X.A (call (.ref f) us) (EP X pins σ Q) X.xe s := by
  have r2 : Vals (vs ++ dvs) (us ++ ds) := r.append hd
  have hl : (us ++ ds).length = ps.length := by rw [← r2.length]; exact F.len _ _ _ _ h
  refine wpAny_call (codeAny_mono (F.run X.A X.stack s H ⟨us, []⟩ (us ++ ds) (vs ++ dvs) Q E hr I.env0 (hb s us I.kIn hl) r2 h) fun r s' hq => ?_)
  cases r with
  | error e => exact hx pins σ H s e s' I hq
  | ok fl =>
    cases fl with
    | ret u => exact I.after hq
    | next => exact False.elim hq
    | brk => exact False.elim hq
    | cont => exact False.elim hq
theorem pe_call (F : FnOk X.prog X.w X.K X.mg X.base CX k f fd ps sp) (hr : Room k X.A) (hg : Gl X x) (hm : X.mg x = some (.ref f)) (hk : PySem.W.keepIn X.K (.ref f) = true) (hb : Binds X.K fd ps ds) (hd : Vals dvs ds) (hx : Passes CX X E)
    (ha : PA X (e :: es) t) (hdb : (x == ("__debug__" : Str)) = false := by decide) (he : starEach (e :: es) X.env = (false, eval e X.env) :: starEach es X.env := by rfl) (hpl : (backTo pos (starEach es X.env)).any (·.1) = false := by rfl) :
    PE X (.Call (.Name x p) (e :: es) [] pos) (tCall sp dvs E t) := by
  intro pins s σ H Q I h
  refine wpAny_Call_Name_kw (ld_glob I hg hm ?_ hdb)
  refine PySem.W.callWith_K (h₀ := X.base) I.ok.mod.kin hk (thn (ha pos pins s σ H _ I h) fun us s1 ⟨vs, H1, I1, r, q⟩ => ⟨I1.kIn, ?_⟩) he hpl
  exact run_fn F hr hb hd hx I1 r q
end
structure FnScope (N P : List Str) (sc : Scope) : Prop where
  kind : sc.kind = .function
  co : sc.isCoroutine = false
  gen : sc.isGenerator = false
  nd : N.Nodup
  pre : N.take P.length = P
  par : ∀ x ∈ P, sc.names.lookup x = some .local ∨ sc.names.lookup x = some .cell
  nofree : ∀ y ∈ sc.names, y.2 ≠ .free
theorem bindL_out {kindOf : Str → Option NameKind} {x : Str} : ∀ {binds : List (Str × Value)} {m : Str → Option Value}, (∀ v, (x, v) ∉ binds) → bindL kindOf binds m x = m x
  | [], _, _ => rfl
  | (n, v) :: r, m, h => by
    unfold bindL
    rw [bindL_out fun w hw => h w (List.mem_cons_of_mem _ hw)]
    split
    · have : x ≠ n := by rintro rfl; exact h v List.mem_cons_self
      simp [this]
    · rfl
theorem bindC_out {kindOf : Str → Option NameKind} {x : Str} : ∀ {binds : List (Str × Value)} {m : Str → Option Value}, (∀ v, (x, v) ∉ binds) → bindC kindOf binds m x = m x
  | [], _, _ => rfl
  | (n, v) :: r, m, h => by
    unfold bindC
    rw [bindC_out fun w hw => h w (List.mem_cons_of_mem _ hw)]
    split
    · rfl
    · have : x ≠ n := by rintro rfl; exact h v List.mem_cons_self
      simp [this]
theorem bindL_get {kindOf : Str → Option NameKind} {x : Str} {v : Value} : ∀ {P : List Str} {vs : List Value} {i : Nat} {m : Str → Option Value}, P.Nodup → P[i]? = some x → vs[i]? = some v → kindOf x = some .local →
    bindL kindOf (P.zip vs) m x = some v
  | [], _, _, _, _, h, _, _ => by simp at h
  | _ :: _, [], _, _, _, _, h, _ => by simp at h
  | p :: P, w :: vs, 0, m, nd, h1, h2, hk => by
    simp at h1 h2; subst h1; subst h2
    show bindL kindOf ((p, w) :: P.zip vs) m p = _
    unfold bindL
    rw [bindL_out fun v hv => (List.nodup_cons.mp nd).1 (List.of_mem_zip hv).1, if_pos hk]
    simp
  | p :: P, w :: vs, i + 1, m, nd, h1, h2, hk => by
    show bindL kindOf ((p, w) :: P.zip vs) m x = _
    unfold bindL
    exact bindL_get (i := i) (List.nodup_cons.mp nd).2 (by simpa using h1) (by simpa using h2) hk
theorem bindC_get {kindOf : Str → Option NameKind} {x : Str} {v : Value} : ∀ {P : List Str} {vs : List Value} {i : Nat} {m : Str → Option Value}, P.Nodup → P[i]? = some x → vs[i]? = some v → kindOf x ≠ some .local →
    bindC kindOf (P.zip vs) m x = some v
  | [], _, _, _, _, h, _, _ => by simp at h
  | _ :: _, [], _, _, _, _, h, _ => by simp at h
  | p :: P, w :: vs, 0, m, nd, h1, h2, hk => by
    simp at h1 h2; subst h1; subst h2
    show bindC kindOf ((p, w) :: P.zip vs) m p = _
    unfold bindC
    rw [bindC_out fun v hv => (List.nodup_cons.mp nd).1 (List.of_mem_zip hv).1, if_neg hk]
    simp
  | p :: P, w :: vs, i + 1, m, nd, h1, h2, hk => by
    show bindC kindOf ((p, w) :: P.zip vs) m x = _
    unfold bindC
    exact bindC_get (i := i) (List.nodup_cons.mp nd).2 (by simpa using h1) (by simpa using h2) hk
def start (N : List Str) (vs : List V) : St := vs.map some ++ List.replicate (N.length - vs.length) none
def cxOf (CX : CXT) (P : Program) (w : World) (K : PySem.W.Frag) (mg : Str → Option Value) (base : Heap) (N : List Str) (qual : Str) (scope : Scope) (f : Addr) (cd : Value) (A : Around) (outer : List Env) (s : Shared) (H : Hp) (E : XK) : Cx where
  prog := P
  w := w
  K := K
  mg := mg
  base := base
  A := A.deeper (envOfC qual scope s.heap.objs.size f cd)
  N := N
  s₀ := s
  H₀ := H
  env := envOfC qual scope s.heap.objs.size f cd
  outer := outer
  stack := envOfC qual scope s.heap.objs.size f cd :: outer
  ex := []
  calm := true
  fn := fun _ => true
  pn := []
  xe := fun e s' => wpAny (model P w) (A.deeper (envOfC qual scope s.heap.objs.size f cd)) (leaving (envOfC qual scope s.heap.objs.size f cd) e) (fun _ s'' => CX outer H s E e s'') (fun e' s'' => CX outer H s E e' s'') s'
theorem cell_has {sc : Scope} {n : Nat} {x : Str} (h : sc.names.lookup x = some .cell) : ∃ c, (cellsFrom n sc.names []).lookup x = some c := by
  have q := PySem.W.cellsFrom_some sc.names n [] (.inl h)
  exact Option.isSome_iff_exists.mp q
theorem inv_start {CX : CXT} {P : Program} {w : World} {K : PySem.W.Frag} {mg : Str → Option Value} {base : Heap} {N ps : List Str} {qual : Str} {scope : Scope} {f : Addr} {cd : Value} {A : Around} {outer : List Env} {s s1 : Shared} {H : Hp} {E : XK} {us : List Value} {vs : List V}
    (S : FnScope N ps scope) (hd : A.handled = none) (e0 : Env0 P w K mg base A outer s H) (hl : vs.length = ps.length) (r : Vals vs us)
    (x : InCallC s s.heap.objs.size (bindL (envOfC qual scope s.heap.objs.size f cd).kindOf (ps.zip us) fun _ => none) (cellsFrom (s.heap.objs.size + 1) scope.names []) (bindC (envOfC qual scope s.heap.objs.size f cd).kindOf (ps.zip us) fun _ => none) s1) :
    Inv (cxOf CX P w K mg base N qual scope f cd A outer s H E) [] (start N vs) H s1 := by
  have hpl : ps.length ≤ N.length := by have := congrArg List.length S.pre; rw [List.length_take] at this; omega
  obtain ⟨h1, tk, rfl, hk⟩ := x.done
  have noA : ∀ b : Addr, b ∉ (cxOf CX P w K mg base N qual scope f cd A outer s H E).ex := fun b z => absurd (show b ∈ ([] : List Addr) from z) (by simp)
  refine ⟨⟨e0.mod, S.kind, rfl, rfl, Nat.le_refl _, fun y z c h1 h2 => ?_, fun y hy => ?_, fun y c _ h => ?_, fun _ => hd, Around.frames_deeper e0.frames, .inr ⟨rfl, rfl⟩, fun b z => absurd z (noA b), e0.bs, e0.bsz, fun b _ _ => noA b, fun b z => absurd z (noA b), e0.funs, e0.frf⟩,
    rfl, e0.bare, Un.kept hk, ⟨_, x.toInCall.ns, fun i y v h1 h2 h3 => ?_⟩, fun y c h => ⟨_, x.cell y c h⟩, e0.hok.fresh (Nat.le_refl _), fun y c h => ?_, fun p hp => absurd (show p ∈ ([] : List (Addr × Obj)) from hp) (by simp), e0.hok.kept hk, ?_⟩
  · exact name_of_addr x.apart (PySem.mem_of_lookup h1) (PySem.mem_of_lookup h2)
  · have hy : scope.names.lookup y = some .cell ∨ scope.names.lookup y = some .free := hy
    rcases hy with hy | hy
    · exact cell_has hy
    · exact absurd rfl (S.nofree _ (PySem.mem_of_lookup hy))
  · exact Nat.le_of_lt (x.above y c (PySem.mem_of_lookup h))
  · have hi : i < vs.length := by
      unfold start at h2
      by_cases hi : i < vs.length
      · exact hi
      · rw [List.getElem?_append_right (by simpa using hi)] at h2
        rw [List.getElem?_replicate] at h2
        split at h2 <;> cases h2
    have ha : vs[i]? = some v := by
      unfold start at h2
      rw [List.getElem?_append_left (by simpa using hi), List.getElem?_map] at h2
      cases e : vs[i]? with
      | none => rw [e] at h2; cases h2
      | some a => rw [e] at h2; cases h2; rfl
    obtain ⟨u, hu, rv⟩ := r.get ha
    have hp : ps[i]? = some y := by
      rw [← S.pre, List.getElem?_take_of_lt (by omega)]; exact h1
    have ndP : ps.Nodup := by rw [← S.pre]; exact S.nd.sublist (List.take_sublist _ _)
    refine ⟨u, rv, ?_⟩
    rcases S.par y (List.mem_of_getElem? hp) with k | k
    · exact .inl ⟨k, bindL_get ndP hp hu k⟩
    · obtain ⟨c, e⟩ := cell_has (n := s.heap.objs.size + 1) k
      refine .inr ⟨.inl k, c, e, ?_⟩
      have q := x.cell y c e
      rw [bindC_get ndP hp hu (by show scope.names.lookup y ≠ _; rw [k]; decide)] at q
      exact q
  · exact e0.hok.fresh (Nat.le_of_lt (x.above y c (PySem.mem_of_lookup h)))
  · unfold start
    show _ = N.length
    rw [List.length_append, List.length_map, List.length_replicate]
    omega
theorem fn_of {CX : CXT} {P : Program} {w : World} {K : PySem.W.Frag} {mg : Str → Option Value} {base : Heap} {k : Nat} {f : Addr} {name qual : Str} {params : Arguments} {body : List Stmt} {scope : Scope} {dV kV doc pm cdv ct oc : Value} {an od : Option Addr}
    {osl : Array (Option Value)} {N ps : List Str} {sp : Sp} (lk : K.lookup f = some ⟨oc, od, .func (PySem.W.fnOf name qual params body scope dV kV doc pm an cdv ct), osl⟩) (hcd : PySem.W.codeIn K cdv qual = true) (S : FnScope N ps scope)
    (len : ∀ vs H Q E, sp vs H Q E → vs.length = ps.length)
    (hbody : ∀ (A : Around) (outer : List Env) (s : Shared) (H : Hp) (vs : List V) (Q : VK) (E : XK), Room k (A.deeper (envOfC qual scope s.heap.objs.size f cdv)) → sp vs H Q E →
      ∃ t, PSs (cxOf CX P w K mg base N qual scope f cdv A outer s H E) body t ∧ t { nx := fun _ H' => Q .non H', rt := Q } (start N vs) H) :
    FnOk P w K mg base CX (k + 1) f (PySem.W.fnOf name qual params body scope dV kV doc pm an cdv ct) ps sp := by
  refine ⟨len, fun A outer s H args us vs Q E hr e0 hb r hsp => ?_⟩
  have hl := len _ _ _ _ hsp
  have KX : K.In s.heap := e0.mod.kin.keeps fun b o e => (e0.bs b o e).1
  have lim : s.heap.NoLimit := e0.mod.nolimit.keeps fun b o e => (e0.bs b o e).1
  have hkind : ∀ y ∈ ps.zip us, scope.names.lookup y.1 = some .local ∨ (scope.names.lookup y.1 = some .cell ∧ ((cellsFrom (s.heap.objs.size + 1) scope.names []).lookup y.1).isSome = true) := fun ⟨n, v⟩ hy => by
    rcases S.par n (List.of_mem_zip hy).1 with q | q
    · exact .inl q
    · exact .inr ⟨q, PySem.W.cellsFrom_some _ _ _ (.inl q)⟩
  refine codeAny_call_function hr.depth (KX _ _ lk) rfl S.co S.gen rfl (PySem.W.codeRec_of KX hcd) (hb _ _ _ _ ?_)
  refine wpAny_newFunctionEnv_cells S.kind hkind fun env he s1 x => ?_
  subst he
  refine ⟨lim.keeps x.toInCall.keep, codeAny_func ?_⟩
  obtain ⟨t, ht, hq⟩ := hbody A outer s H vs Q E (hr.deeper _) hsp
  have I : Inv (cxOf CX P w K mg base N qual scope f cdv A outer s H E) [] (start N vs) H s1 := inv_start S hr.hd e0 hl r x
  refine wpAny_mono (ht [] s1 (start N vs) H _ I hq) (fun fl s' hs => ?_) fun e s' hs => hs
  have fin : ∀ {σ' : St} {H' : Hp} {v : V} {u : Value}, Inv (cxOf CX P w K mg base N qual scope f cdv A outer s H E) [] σ' H' s' → RelV v u → Q v H' → CE outer P w H s Q u s' :=
    fun {σ' H' v u} J rv q => ⟨v, H', J.os, J.bare, J.base, J.hok, rv, q⟩
  cases fl with
  | ret u =>
    obtain ⟨v, σ', H', J, rv, q⟩ := hs
    exact fin J rv q
  | next =>
    obtain ⟨σ', H', J, q⟩ := hs
    exact fin (v := V.non) (u := Value.none) J rfl q
  | brk =>
    obtain ⟨_, _, _, q⟩ := hs
    exact False.elim q
  | cont =>
    obtain ⟨_, _, _, q⟩ := hs
    exact False.elim q
section
variable {X : Cx} {x : Str} {p pos : Pos} {e : Expr} {es : List Expr} {t : TA} {id T : String} {r : List V → Hp → VK → Prop}
def tCB (r : List V → Hp → VK → Prop) (t : TA) : TE := fun σ H Q => t σ H fun vs H1 => r vs H1 Q
theorem pe_callB (hc : CallR X (.builtin id) r) (hg : Gl X x) (hm : X.mg x = none) (hv : bootBuiltins x = some (.builtin id)) (ha : PA X (e :: es) t) (hn : x ≠ "__name__" := by decide) (hdb : (x == ("__debug__" : Str)) = false := by decide)
    (he : starEach (e :: es) X.env = (false, eval e X.env) :: starEach es X.env := by rfl) (hpl : (backTo pos (starEach es X.env)).any (·.1) = false := by rfl) : PE X (.Call (.Name x p) (e :: es) [] pos) (tCB r t) := by
  intro pins s σ H Q I h
  refine wpAny_Call_Name_kw (ld_blt I hg hm hv ?_ hn hdb)
  exact PyProof.Rows.callWith_builtin1 (thn (ha pos pins s σ H _ I h) fun us s1 ⟨vs, H1, I1, r1, q1⟩ => hc pins s1 σ H1 vs us Q I1 r1 q1) he hpl
theorem pe_callTy (hc : CallR X (.type T) r) (hg : Gl X x) (hm : X.mg x = none) (hv : bootBuiltins x = some (.type T)) (ha : PA X (e :: es) t) (hn : x ≠ "__name__" := by decide) (hdb : (x == ("__debug__" : Str)) = false := by decide)
    (he : starEach (e :: es) X.env = (false, eval e X.env) :: starEach es X.env := by rfl) (hpl : (backTo pos (starEach es X.env)).any (·.1) = false := by rfl) : PE X (.Call (.Name x p) (e :: es) [] pos) (tCB r t) := by
  intro pins s σ H Q I h
  refine wpAny_Call_Name_kw (ld_blt I hg hm hv ?_ hn hdb)
  exact PyProof.Rows.callWith_type1 (thn (ha pos pins s σ H _ I h) fun us s1 ⟨vs, H1, I1, r1, q1⟩ => hc pins s1 σ H1 vs us Q I1 r1 q1) he hpl
end
end L2
namespace HT
open PySem PyProof.Rows
section
open PySem.SeqAt
open PySem.AutoSeq1 (wpAny_loadPart')
open PySem.MeetsSeq PySem.MeetsSeq2 PySem.MeetsSeq3
end
section
variable {prog : Program} {w : World} {A : Around} {E : Value → Shared → Prop} {s : Shared}
theorem cat_tup {t b : Addr} {vs ws : List Value} {Q : Value → Shared → Prop} (ht : IsTup s.heap t vs.toArray) (hb : IsTup s.heap b ws.toArray) (hv : vs ≠ [])
    (h1 : ws = [] → Q (.ref t) s) (h2 : ws ≠ [] → Q (.ref s.heap.objs.size) { s with heap := s.heap.push { cls := .type "tuple", data := .seq (vs ++ ws).toArray } })
    (hsz : vs.length + ws.length ≤ sizeLine) : wpAny (model prog w) A (binaryOp .Add (.ref t) (.ref b)) Q E s := by
  obtain ⟨⟨cls, dd, data, sl⟩, ho, hc, n, hd⟩ := id ht
  obtain ⟨⟨cls2, dd2, data2, sl2⟩, ho2, hc2, n2, hd2⟩ := id hb
  simp only at hc hd hc2 hd2
  subst hc hd hc2 hd2
  have e : vs.toArray ++ ws.toArray = (vs ++ ws).toArray := by simp
  by_cases hw : ws = []
  · exact concat_meets ⟨_, ho, rfl⟩ ⟨_, ho2, rfl⟩ noFill_tuple_add seq_tuple_add PySem.F.slot_tuple_add PySem.F.entry_tuple_add (PySem.F.args_tuple_add_2 _ _)
      (tuple_addW1 t b vs.toArray ws.toArray n n2 dd dd2 sl sl2 (by simpa using hv) (by simp [hw])) ⟨ho, ho2, h1 hw⟩
  · refine concat_meets ⟨_, ho, rfl⟩ ⟨_, ho2, rfl⟩ noFill_tuple_add seq_tuple_add PySem.F.slot_tuple_add PySem.F.entry_tuple_add (PySem.F.args_tuple_add_2 _ _)
      (tuple_addW2 t b vs.toArray ws.toArray n n2 dd dd2 sl sl2 (by simpa using hv) (by simpa using hw) (by rw [List.size_toArray, List.size_toArray]; exact hsz)) ⟨ho, ho2, ?_⟩
    rw [e]
    exact h2 hw
def sIx (n d : Nat) : Option Int → Nat
  | none => d
  | some v => if v < 0 then (v + (n : Int)).toNat else min v.toNat n
end
end HT
namespace L2
open PySem PySem.Spec PyProof.Rows
abbrev TO := St → Hp → (Option Int → Hp → Prop) → Prop
def PO (X : Cx) (e : Option Expr) (t : TO) : Prop :=
  ∀ (pins : List (Addr × Obj)) (s : Shared) (σ : St) (H : Hp) (Q : Option Int → Hp → Prop), Inv X pins σ H s → t σ H Q →
    wpAny (model X.prog X.w) X.A (evalPart e X.env) (fun u s' => ∃ o H', Inv X pins σ H' s' ∧ IsPart u o ∧ Q o H') X.xe s
def tPart (t : TE) : TO := fun σ H Q => t σ H fun x H1 => ∃ i, x = .int i ∧ Q (some i) H1
theorem intsAre_of {ns : List Int} : ∀ {us : List Value}, Vals (ns.map V.int) us → IntsAre us ns := by
  induction ns with
  | nil => intro us r; rw [List.map_nil] at r; cases r; exact .nil
  | cons n ns ih =>
    intro us r
    rw [List.map_cons] at r
    cases r with
    | cons r1 r2 =>
      obtain ⟨t, e⟩ := r1
      subst e
      exact .cons n t (ih r2)
section
variable {X : Cx} {e : Expr} {te : TE} {lo hi : Option Expr} {tl th : TO} {pos p2 : Pos}
theorem po_some (h : PE X e te) : PO X (some e) (tPart te) := by
  intro pins s σ H Q I hw
  rw [evalPart_some]
  refine thn (h pins s σ H _ I hw) fun u s1 ⟨x, H1, I1, r1, q1⟩ => ?_
  obtain ⟨i, rfl, q⟩ := q1
  obtain ⟨t, rfl⟩ := r1
  exact ⟨some i, H1, I1, .int i t, q⟩
def SlR (X : Cx) (r : V → Option Int → Option Int → Hp → VK → Prop) : Prop :=
  ∀ (pins : List (Addr × Obj)) (s : Shared) (σ : St) (H : Hp) (x : V) (v vl vu : Value) (lo hi : Option Int) (sl : Addr) (Q : VK), Inv X pins σ H s → RelV x v → s.heap.IsSliceOf sl vl vu .none → IsPart vl lo → IsPart vu hi → r x lo hi H Q →
    ∃ T id, typeLookup (.type T) "__getitem__" = pure (some (.builtin id)) ∧ s.TypeIs v T ∧ wpAny (model X.prog X.w) X.A (getItem v (.ref sl)) (EP X pins σ Q) X.xe s
def tSl (r : V → Option Int → Option Int → Hp → VK → Prop) (te : TE) (tl th : TO) : TE := fun σ H Q => te σ H fun x H1 => tl σ H1 fun l H2 => th σ H2 fun u H3 => r x l u H3 Q
theorem pe_slice {r : V → Option Int → Option Int → Hp → VK → Prop} (hr : SlR X r) (he : PE X e te) (hl : PO X lo tl) (hu : PO X hi th) : PE X (.Subscript e (.Slice lo hi none p2) pos) (tSl r te tl th) := by
  intro pins s σ H Q I h
  refine Subscript_ (thn (he pins s σ H _ I h) fun v s1 ⟨x, H1, I1, r1, q1⟩ => ?_)
  refine wpAny_Slice (thn (hl pins s1 σ H1 _ I1 q1) fun vl s2 ⟨l, H2, I2, pl, q2⟩ => thn (hu pins s2 σ H2 _ I2 q2) fun vu s3 ⟨u, H3, I3, pu, q3⟩ => ?_)
  rw [evalPart_none]
  refine wpAny_pure ?_
  have I4 : Inv X pins σ H3 { s3 with heap := s3.heap.push { cls := .type "slice", data := .fields #[vl, vu, .none] } } := I3.kept (t' := s3.toks) fun b ob q => Heap.get?_push_of_some _ q
  obtain ⟨T, id, hT, ht, hg⟩ := hr pins { s3 with heap := s3.heap.push { cls := .type "slice", data := .fields #[vl, vu, .none] } } σ H3 x v vl vu l u s3.heap.objs.size Q I4 r1 (Heap.IsSliceOf.new ..) pl pu q3
  show wpAny (model X.prog X.w) X.A (subscriptTail e (.Slice lo hi none p2) v (.ref s3.heap.objs.size)) (EP X pins σ Q) X.xe { s3 with heap := s3.heap.push { cls := .type "slice", data := .fields #[vl, vu, .none] } }
  exact tail_any (ops := [.ref s3.heap.objs.size, v]) ht hT hg (by with_unfolding_all rfl)
def cutV (xs : List V) (lo hi : Option Int) : List V := (xs.drop (HT.sIx xs.length 0 lo)).take (HT.sIx xs.length xs.length hi - HT.sIx xs.length 0 lo)
theorem cutV_length (xs : List V) (lo hi : Option Int) : (cutV xs lo hi).length ≤ xs.length := by
  unfold cutV
  rw [List.length_take, List.length_drop]
  omega
def rCatT (K : PySem.W.Frag) : R2 := fun x y H Q => ∃ a b xs ys, x = .ref a ∧ y = .ref b ∧ SqT K H a xs ∧ SqT K H b ys ∧ xs ≠ [] ∧ xs.length + ys.length ≤ sizeLine ∧
  (ys = [] → Q (.ref a) H) ∧ (ys ≠ [] → ∀ p, H p = none → Q (.ref p) (upd H p (.tup (xs ++ ys))))
theorem Vals.nil_iff {xs : List V} {us : List Value} (r : Vals xs us) : us = [] ↔ xs = [] := by
  cases r with
  | nil => simp
  | cons _ _ => simp
theorem op_catT : OpR X (binaryOp .Add) (rCatT X.K) := by
  intro pins s σ H x y v u Q I rx ry h
  obtain ⟨a, b, xs, ys, rfl, rfl, ha, hb, hx, hz, q1, q2⟩ := h
  cases rx
  cases ry
  obtain ⟨its, r1, p1, _⟩ := I.tuple ha
  obtain ⟨its2, r2, p2, _⟩ := I.tuple hb
  refine HT.cat_tup p1 p2 (fun z => hx (r1.nil_iff.mp z)) (fun z => ⟨.ref a, H, I, rfl, q1 (r2.nil_iff.mp z)⟩) (fun z => ?_) (by rw [← r1.length, ← r2.length]; exact hz)
  refine ⟨.ref s.heap.objs.size, _, I.laid (t' := s.toks) (o := .tup (xs ++ ys)) (fun b ob q => Heap.get?_push_of_some _ q) (Nat.le_refl _) ?_, rfl, q2 (fun w => z (r2.nil_iff.mpr w)) _ (I.hok.fresh (Nat.le_refl _))⟩
  exact ⟨by rw [List.length_append]; exact hz, _, r1.append r2, IsTup.new _ _⟩
end
def ixN (n : Nat) (i : Int) : Option Nat := if 0 ≤ i then (if i < n then some i.toNat else none) else if -(n : Int) ≤ i then some (i + n).toNat else none
def atI {α : Type} (xs : List α) (i : Int) : Option α := (ixN xs.length i).bind fun j => xs[j]?
theorem ixN_seq {n : Nat} {i : Int} {j : Nat} (h : ixN n i = some j) : seqIndex? i n = some j ∧ j < n ∧ -(n : Int) ≤ i ∧ i < n := by
  unfold ixN at h
  by_cases h0 : 0 ≤ i
  · rw [if_pos h0] at h
    by_cases h1 : i < n
    · rw [if_pos h1] at h
      have e : i.toNat = j := Option.some.inj h
      exact ⟨by rw [seqIndex_of h0 h1, e], by omega, by omega, h1⟩
    · rw [if_neg h1] at h; cases h
  · rw [if_neg h0] at h
    by_cases h1 : -(n : Int) ≤ i
    · rw [if_pos h1] at h
      have e : (i + n).toNat = j := Option.some.inj h
      exact ⟨by rw [seqIndex_neg (by omega) h1, e], by omega, h1, by omega⟩
    · rw [if_neg h1] at h; cases h
theorem atI_get {α : Type} {xs : List α} {i : Int} {v : α} (h : atI xs i = some v) : ∃ j, seqIndex? i xs.length = some j ∧ xs[j]? = some v ∧ j < xs.length ∧ -(xs.length : Int) ≤ i ∧ i < xs.length := by
  unfold atI at h
  cases e : ixN xs.length i with
  | none => rw [e] at h; cases h
  | some j =>
    rw [e] at h
    obtain ⟨h1, h2, h3, h4⟩ := ixN_seq e
    exact ⟨j, h1, h, h2, h3, h4⟩
theorem atI_nat {α : Type} {xs : List α} {j : Nat} {v : α} (h : xs[j]? = some v) : atI xs (j : Int) = some v := by
  have hj : j < xs.length := (List.getElem?_eq_some_iff.mp h).1
  have e : ixN xs.length (j : Int) = some j := by
    unfold ixN
    rw [if_pos (by omega), if_pos (by omega)]; simp
  unfold atI; rw [e]; exact h
def PlainIx (b : Expr) : Prop := ∀ o i, subscripted b false o i = operate [o, i] (getItem o i)
def IxR (X : Cx) (r : R2) : Prop :=
  ∀ (value slice : Expr) (pins : List (Addr × Obj)) (s : Shared) (σ : St) (H : Hp) (x y : V) (v u : Value) (Q : VK), Inv X pins σ H s → RelV x v → RelV y u → r x y H Q →
    subscripted slice false v u = operate [v, u] (getItem v u) → wpAny (model X.prog X.w) X.A (subscriptTail value slice v u) (EP X pins σ Q) X.xe s
def MtR (X : Cx) (id : String) (r : V → List V → Hp → VK → Prop) : Prop :=
  ∀ (pins : List (Addr × Obj)) (s : Shared) (σ : St) (H : Hp) (x : V) (xs : List V) (v : Value) (us : List Value) (Q : VK), Inv X pins σ H s → RelV x v → Vals xs us → r x xs H Q →
    wpAny (model X.prog X.w) X.A (call (.builtin id) (v :: us)) (EP X pins σ Q) X.xe s
section
variable {X : Cx} {a b : Expr} {ta tb : TE} {pos : Pos}
theorem pe_ix {r : R2} (hr : IxR X r) (ha : PE X a ta) (hb : PE X b tb) (hs : PlainIx b) : PE X (.Subscript a b pos) (tOp r ta tb) := by
  intro pins s σ H Q I h
  exact Subscript_ (binT ha hb I h fun v u s2 x y H2 I2 rx ry q => hr a b pins s2 σ H2 x y v u Q I2 rx ry q (hs _ _))
def rIxL (K : PySem.W.Frag) : R2 := fun x y H Q => ∃ p xs i v, x = .ref p ∧ y = .int i ∧ SqL K H p xs ∧ atI xs i = some v ∧ Q v H
def rIxT (K : PySem.W.Frag) : R2 := fun x y H Q => ∃ p xs i v, x = .ref p ∧ y = .int i ∧ SqT K H p xs ∧ atI xs i = some v ∧ Q v H
theorem ix_list : IxR X (rIxL X.K) := by
  intro value slice pins s σ H x y v u Q I rx ry h hs
  obtain ⟨p, xs, i, z, rfl, rfl, hq, he, q⟩ := h
  cases rx
  obtain ⟨t, rfl⟩ := ry
  obtain ⟨its, r, pl, hz⟩ := I.list hq
  obtain ⟨j, h1, h2, h3, h4, h5⟩ := atI_get he
  obtain ⟨w, ew, rw'⟩ := r.get h2
  have hl := r.length
  have hn := line63
  have fin : EP X pins σ Q w s := ⟨z, H, I, rw', q⟩
  by_cases h0 : 0 ≤ i
  · have hj : i.toNat = j := by
      rw [seqIndex_of h0 h5] at h1
      exact Option.some.inj h1
    exact item_listR pl.isList h0 (by omega) (by rw [hj]; simpa using ew) fin hs
  · have hj : (i + (its.toArray.size : Int)).toNat = j := by
      rw [seqIndex_neg (by omega) h4] at h1
      rw [List.size_toArray, ← hl]
      exact Option.some.inj h1
    exact subscriptTail_builtinR (x := w) pl.isList.typeIs slot_list_getitem.lookup
      (wpAny_getItem_list_neg (Q := fun r s' => r = w ∧ EP X pins σ Q r s') pl.isList (by omega) (by rw [List.size_toArray] <;> omega) (by omega) (by rw [hj]; simpa using ew) ⟨rfl, fin⟩) hs
theorem ix_tup : IxR X (rIxT X.K) := by
  intro value slice pins s σ H x y v u Q I rx ry h hs
  obtain ⟨p, xs, i, z, rfl, rfl, hq, he, q⟩ := h
  cases rx
  obtain ⟨t, rfl⟩ := ry
  obtain ⟨its, r, pl, hz⟩ := I.tuple hq
  obtain ⟨j, h1, h2, h3, h4, h5⟩ := atI_get he
  obtain ⟨w, ew, rw'⟩ := r.get h2
  have hl := r.length
  have hn := line63
  have fin : EP X pins σ Q w s := ⟨z, H, I, rw', q⟩
  exact subscriptTail_builtinR (x := w) pl.typeIs slot_tuple_getitem.lookup
    (getItem_tuple (j := j) (Q := fun r s' => r = w ∧ EP X pins σ Q r s') pl (by omega) (by omega) (by rw [List.size_toArray, ← hl]; exact h1) (by simpa using ew) ⟨rfl, fin⟩) hs
theorem slice_bounds (lo hi : Option Int) (n : Nat) : (sliceBounds lo hi none n).1 = ((HT.sIx n 0 lo : Nat) : Int) ∧ (sliceBounds lo hi none n).2.1 = ((HT.sIx n n hi : Nat) : Int) ∧ (sliceBounds lo hi none n).2.2 = 1 := by
  refine ⟨?_, ?_, rfl⟩
  · cases lo with
    | none => simp [sliceBounds, HT.sIx]
    | some i =>
      simp only [sliceBounds, HT.sIx, Option.getD_none, show (1 : Int) > 0 by decide, if_true]
      by_cases h : i < 0
      · simp only [h, if_true] <;> omega
      · simp only [h, if_false] <;> omega
  · cases hi with
    | none => simp [sliceBounds, HT.sIx]
    | some i =>
      simp only [sliceBounds, HT.sIx, Option.getD_none, show (1 : Int) > 0 by decide, if_true]
      by_cases h : i < 0
      · simp only [h, if_true] <;> omega
      · simp only [h, if_false] <;> omega
theorem slicePick_cut (its : List Value) (lo hi : Option Int) : slicePick its.toArray lo hi none = ((its.drop (HT.sIx its.length 0 lo)).take (HT.sIx its.length its.length hi - HT.sIx its.length 0 lo)).toArray := by
  obtain ⟨h1, h2, h3⟩ := slice_bounds lo hi its.toArray.size
  unfold slicePick
  rw [h1, h2, h3]
  simp only [sliceRange_one, pick_run, List.size_toArray] <;> rfl
def rSlL (K : PySem.W.Frag) : V → Option Int → Option Int → Hp → VK → Prop := fun x lo hi H Q => ∃ a xs, x = .ref a ∧ SqL K H a xs ∧ ∀ p, H p = none → Q (.ref p) (upd H p (.lst (cutV xs lo hi)))
theorem sl_list : SlR X (rSlL X.K) := by
  intro pins s σ H x v vl vu lo hi sl Q I rx hs pl pu h
  obtain ⟨a, xs, rfl, hx, q⟩ := h
  cases rx
  obtain ⟨its, r, ht, hz⟩ := I.list hx
  have hlen := r.length
  refine ⟨"list", _, slot_list_getitem.lookup, ht.isList.typeIs, ?_⟩
  refine wpAny_getItem_list_slice ht.isList hs pl pu .none (by simp) ?_ (by rw [List.size_toArray] <;> omega)
  rw [slicePick_cut, ← hlen]
  refine ⟨.ref s.heap.objs.size, _, I.laid (t' := s.toks) (o := .lst (cutV xs lo hi)) (fun b ob q => Heap.get?_push_of_some _ q) (Nat.le_refl _) ?_, rfl, q _ (I.hok.fresh (Nat.le_refl _))⟩
  exact ⟨Nat.le_trans (cutV_length xs lo hi) hz, _, 0, (r.drop (HT.sIx xs.length 0 lo)).take (HT.sIx xs.length xs.length hi - HT.sIx xs.length 0 lo), Heap.get?_push_size _ rfl⟩
def flatV : V → Bool
  | .non => true
  | .bl _ => true
  | .int _ => true
  | .str _ => true
  | _ => false
def eqV : V → V → Bool
  | .non, .non => true
  | .bl a, .bl b => a == b
  | .bl a, .int b => (if a then 1 else 0) == b
  | .int a, .bl b => a == (if b then 1 else 0)
  | .int a, .int b => a == b
  | .str a, .str b => a == b
  | _, _ => false
theorem eqAt_V {A : Around} {s : Shared} {y x : V} {u v : Value} (ry : RelV y u) (rx : RelV x v) (fy : flatV y = true) (fx : flatV x = true) : SeqAt.EqAt A s u v (eqV y x) := by
  cases y with
  | non =>
    cases ry
    cases x with
    | non => cases rx; exact SeqAt.EqAt.same _
    | bl b => cases rx; exact SeqAt.EqAt.none_bool b
    | int b => obtain ⟨t, rfl⟩ := rx; exact SeqAt.EqAt.none_int b t
    | str b => obtain ⟨t, rfl⟩ := rx; exact SeqAt.EqAt.none_str b t
    | _ => exact absurd (show false = true from fx) Bool.false_ne_true
  | bl a =>
    cases ry
    cases x with
    | non => cases rx; exact SeqAt.EqAt.bool_none a
    | bl b => cases rx; exact SeqAt.EqAt.bool_bool a b
    | int b => obtain ⟨t, rfl⟩ := rx; exact SeqAt.EqAt.bool_int a b t
    | str b => obtain ⟨t, rfl⟩ := rx; exact SeqAt.EqAt.bool_str a b t
    | _ => exact absurd (show false = true from fx) Bool.false_ne_true
  | int a =>
    obtain ⟨t', rfl⟩ := ry
    cases x with
    | non => cases rx; exact SeqAt.EqAt.int_none a t'
    | bl b => cases rx; exact SeqAt.EqAt.int_bool a t' b
    | int b => obtain ⟨t, rfl⟩ := rx; exact SeqAt.EqAt.int_int a t' b t
    | str b => obtain ⟨t, rfl⟩ := rx; exact SeqAt.EqAt.int_str a t' b t
    | _ => exact absurd (show false = true from fx) Bool.false_ne_true
  | str a =>
    obtain ⟨t', rfl⟩ := ry
    cases x with
    | non => cases rx; exact SeqAt.EqAt.str_none a t'
    | bl b => cases rx; exact SeqAt.EqAt.str_bool a t' b
    | int b => obtain ⟨t, rfl⟩ := rx; exact SeqAt.EqAt.str_int a t' b t
    | str b => obtain ⟨t, rfl⟩ := rx; exact SeqAt.EqAt.str_str a t' b t
    | _ => exact absurd (show false = true from fx) Bool.false_ne_true
  | _ => exact absurd (show false = true from fy) Bool.false_ne_true
def eqU (x : V) (u : Value) : Bool := match u with
  | .none => eqV .non x
  | .bool b => eqV (.bl b) x
  | .int i _ => eqV (.int i) x
  | .str z _ => eqV (.str z) x
  | _ => false
theorem eqU_of {x y : V} {u : Value} (r : RelV y u) (f : flatV y = true) : eqU x u = eqV y x := by
  cases y with
  | non => cases r; rfl
  | bl b => cases r; rfl
  | int i => obtain ⟨t, rfl⟩ := r; rfl
  | str z => obtain ⟨t, rfl⟩ := r; rfl
  | _ => exact absurd (show false = true from f) Bool.false_ne_true
theorem any_eqU {x : V} : ∀ {xs : List V} {us : List Value}, Vals xs us → xs.all flatV = true → us.any (eqU x) = xs.any fun y => eqV y x
  | _, _, .nil, _ => rfl
  | y :: xs, u :: us, .cons r t, f => by
    rw [List.all_cons, Bool.and_eq_true] at f
    rw [List.any_cons, List.any_cons, eqU_of r f.1, any_eqU t f.2]
theorem mem_eqAt {A : Around} {s : Shared} {x : V} {v : Value} (rx : RelV x v) (fx : flatV x = true) : ∀ {xs : List V} {us : List Value}, Vals xs us → xs.all flatV = true → ∀ u ∈ us, SeqAt.EqAt A s u v (eqU x u)
  | _, _, .nil, _ => fun u hu => by cases hu
  | y :: xs, u :: us, .cons r t, f => fun u' hu => by
    rw [List.all_cons, Bool.and_eq_true] at f
    rcases List.mem_cons.mp hu with rfl | hu
    · rw [eqU_of r f.1]; exact eqAt_V r rx f.1 fx
    · exact mem_eqAt rx fx t f.2 u' hu
def inV (x : V) (xs : List V) : Bool := xs.any fun y => eqV y x
def rIn (K : PySem.W.Frag) (neg : Bool) : R2 := fun x y H Q => ∃ p xs, y = .ref p ∧ (SqL K H p xs ∨ SqT K H p xs) ∧ flatV x = true ∧ xs.all flatV = true ∧ Q (.bl (if neg then !inV x xs else inV x xs)) H
theorem op_notIn_seq : OpR X (compareOp .NotIn) (rIn X.K true) := by
  intro pins s σ H x y v u Q I rx ry h
  obtain ⟨p, xs, rfl, hq, fx, fs, q⟩ := h
  cases ry
  rcases hq with hq | hq
  · obtain ⟨its, r, pl, hz⟩ := I.list hq
    refine SeqAt.notIn_listAt (eqU x) pl.isList (fun w hw => mem_eqAt rx fx r fs w (by simpa using hw)) ⟨.bl _, H, I, rfl, ?_⟩
    rw [show its.toArray.any (eqU x) = its.any (eqU x) by simp, any_eqU r fs]
    exact q
  · obtain ⟨its, r, pl, hz⟩ := I.tuple hq
    refine SeqAt.notIn_tupleAt (eqU x) pl (fun w hw => mem_eqAt rx fx r fs w (by simpa using hw)) ⟨.bl _, H, I, rfl, ?_⟩
    rw [show its.toArray.any (eqU x) = its.any (eqU x) by simp, any_eqU r fs]
    exact q
theorem call_len_seq : CallR X (.builtin "len") (fun xs H Q => ∃ p ys, xs = [.ref p] ∧ (SqL X.K H p ys ∨ SqT X.K H p ys) ∧ Q (.int ys.length) H) := by
  intro pins s σ H xs us Q I r h
  obtain ⟨p, ys, rfl, hq, q⟩ := h
  obtain ⟨u, rfl, rx⟩ := vals1 r
  cases rx
  have hn := line63
  rcases hq with hq | hq
  · obtain ⟨its, r', pl, hz⟩ := I.list hq
    have hlen := r'.length
    exact Calls.call_len_list pl.isList (by simp only [List.size_toArray] <;> omega) ⟨.int ys.length, H, I.tok _, ⟨s.toks + 1, by rw [List.size_toArray, hlen]⟩, q⟩
  · obtain ⟨its, r', pl, hz⟩ := I.tuple hq
    have hlen := r'.length
    exact len_tuple pl (by simp only [List.size_toArray] <;> omega) ⟨.int ys.length, H, I.tok _, ⟨s.toks + 1, by rw [List.size_toArray, hlen]⟩, q⟩
theorem call_tuple_of : CallR X (.type "tuple") (fun xs H Q => ∃ p ys, xs = [.ref p] ∧ ((SqL X.K H p ys ∧ ∀ l, H l = none → Q (.ref l) (upd H l (.tup ys))) ∨ (SqT X.K H p ys ∧ Q (.ref p) H))) := by
  intro pins s σ H xs us Q I r h
  obtain ⟨p, ys, rfl, h⟩ := h
  obtain ⟨u, rfl, rx⟩ := vals1 r
  cases rx
  rcases h with ⟨hq, q⟩ | ⟨hq, q⟩
  · obtain ⟨its, r', pl, hz⟩ := I.list hq
    have hlen := r'.length
    refine call_tuple_list pl.isList (fun h' kp => ?_) (by simp only [List.size_toArray] <;> omega)
    have I1 : Inv X pins σ H { s with heap := h' } := I.kept (t' := s.toks) kp
    have I2 : Inv X pins σ (upd H h'.objs.size (.tup ys)) { s with heap := h'.push { cls := .type "tuple", data := .seq its.toArray } } :=
      I1.laid (t' := s.toks) (fun b o e => Heap.get?_push_of_some _ e) (Nat.le_refl _) (show ObjOk X.prog X.w _ _ _ (.tup ys) from ⟨hz, its, r', IsTup.new _ _⟩)
    exact ⟨.ref h'.objs.size, _, I2, rfl, q _ (I1.hok.fresh (Nat.le_refl _))⟩
  · obtain ⟨its, r', pl, hz⟩ := I.tuple hq
    exact call_tuple_same pl ⟨.ref p, H, I, rfl, q⟩
def tyV (K : PySem.W.Frag) (T : String) (x : V) (H : Hp) : Prop := match x with
  | .str _ => T = "str"
  | .int _ => T = "int"
  | .ref p => (T = "list" ∧ ∃ xs, SqL K H p xs) ∨ (T = "tuple" ∧ ∃ o, K.lookup p = some o ∧ o.cls = .type "tuple" ∧ o.dict = none) ∨
      (T = "dict" ∧ ((∃ kvs, H p = some (.dK kvs)) ∨ ∃ kvs, H p = some (.dT kvs))) ∨ (T = "set" ∧ ∃ S n, H p = some (.set S n))
  | _ => False
theorem tyV_is {pins : List (Addr × Obj)} {σ : St} {H : Hp} {s : Shared} {T : String} {x : V} {v : Value} (I : Inv X pins σ H s) (r : RelV x v) (ty : tyV X.K T x H) :
    s.TypeIs v T ∧ ∀ a, v = .ref a → ∃ ob, s.heap.get? a = some ob ∧ ob.dict = none := by
  cases x with
  | str z =>
    obtain ⟨t, rfl⟩ := r
    cases (show T = "str" from ty)
    exact ⟨typeIs_str s z t, fun _ e => nomatch e⟩
  | int i =>
    obtain ⟨t, rfl⟩ := r
    cases (show T = "int" from ty)
    exact ⟨typeIs_int s i t, fun _ e => nomatch e⟩
  | ref p =>
    cases r
    rcases ty with ⟨rfl, xs, hq⟩ | ⟨rfl, o, hk, hc, hd⟩ | ⟨rfl, hk⟩ | ⟨rfl, S, n, hk⟩
    · obtain ⟨its, _, pl, _⟩ := I.list hq
      refine ⟨pl.isList.typeIs, fun a e => ?_⟩
      cases e
      obtain ⟨o, n, e, c, hd, _⟩ := pl
      exact ⟨o, e, hd⟩
    · refine ⟨⟨o, I.kIn p o hk, hc⟩, fun a e => ?_⟩
      cases e
      exact ⟨o, I.kIn _ o hk, hd⟩
    · have z : ∃ o, s.heap.get? p = some o ∧ o.ExactDict := by
        rcases hk with ⟨kvs, hk⟩ | ⟨kvs, hk⟩
        · obtain ⟨_, _, _, _, o, _, _, e, ex, _⟩ := I.hok p _ hk
          exact ⟨o, e, ex⟩
        · obtain ⟨_, _, _, _, o, _, _, e, ex, _⟩ := I.hok p _ hk
          exact ⟨o, e, ex⟩
      obtain ⟨o, e, ex⟩ := z
      refine ⟨⟨o, e, ex.1⟩, fun a e2 => ?_⟩
      cases e2
      exact ⟨o, e, ex.2.1⟩
    · obtain ⟨o, _, _, _, e, ex, _⟩ := I.hok p _ hk
      refine ⟨⟨o, e, ex.1⟩, fun a e2 => ?_⟩
      cases e2
      exact ⟨o, e, ex.2.1⟩
  | _ => exact False.elim ty
def tBM (K : PySem.W.Frag) (T : String) (r : V → List V → Hp → VK → Prop) (to : TE) (t : TA) : TE := fun σ H Q => to σ H fun x H1 => tyV K T x H1 ∧ t σ H1 fun xs H2 => r x xs H2 Q
variable {o e : Expr} {es : List Expr} {to : TE} {t : TA} {name : Str} {apos cpos : Pos} {T id : String} {r : V → List V → Hp → VK → Prop}
theorem pe_bm (pa : PlainAttrs T) (slot : Slot T name id) (hty : typeOf (.builtin id) = pure (.type "method_descriptor")) (hm : MtR X id r) (ho : PE X o to) (ha : PA X (e :: es) t)
    (hbase : attributeBase o name X.env (eval o X.env) = eval o X.env := by rfl)
    (hfew : ((backTo cpos (starEach (e :: es) X.env)).all (fun x => !x.1) && (backToKw cpos (keywordEach [] X.env)).all (fun x => x.1.isSome)
      && decide ((e :: es).length + ([] : List Keyword).length + (if ([] : List Keyword).isEmpty then 0 else 1) < 30)) = true := by rfl)
    (hline : (apos.endLine == cpos.line) = true := by rfl) (hs : starEach (e :: es) X.env = (false, eval e X.env) :: starEach es X.env := by rfl) (hplain : (backTo cpos (starEach es X.env)).any (·.1) = false := by rfl) :
    PE X (.Call (.Attribute o name apos) (e :: es) [] cpos) (tBM X.K T r to t) := by
  intro pins s σ H Q I h
  refine wpAny_Call_method_late hbase hfew hline rfl (thn (ho pins s σ H _ I h) fun v s1 ⟨x, H1, I1, r1, ty, q1⟩ => ?_)
  obtain ⟨h1, h2⟩ := tyV_is I1 r1 ty
  refine ⟨T, id, pa, slot, hty, h1, h2, ?_⟩
  have hA := ha cpos pins s1 σ H1 _ I1 q1
  rw [hs] at hA ⊢
  refine Calls.callWith_builtin (by show (false || (backTo cpos (starEach es X.env)).any (·.1)) = false; rw [hplain] <;> rfl) (Calls.evalArgs_plain ?_)
  exact thn hA fun us s2 ⟨vs, H2, I2, r2, q2⟩ => hm pins s2 σ H2 x vs v us Q I2 r1 r2 q2
end
def MtM (X : Cx) (id : String) (r : V → List V → Hp → VK → Prop) : Prop :=
  ∀ (pins : List (Addr × Obj)) (s : Shared) (σ : St) (H : Hp) (x : V) (xs : List V) (v : Value) (us : List Value) (Q : VK), Inv X pins σ H s → RelV x v → Vals xs us → r x xs H Q →
    wpAny (model X.prog X.w) X.A (call (.builtin id) (v :: us)) (EP X pins σ Q) X.xe s
theorem Vals.one : ∀ {x : V} {us : List Value}, Vals [x] us → ∃ u, us = [u] ∧ RelV x u
  | _, _, .cons r .nil => ⟨_, rfl, r⟩
theorem Vals.two : ∀ {x y : V} {us : List Value}, Vals [x, y] us → ∃ u v, us = [u, v] ∧ RelV x u ∧ RelV y v
  | _, _, _, .cons r (.cons q .nil) => ⟨_, _, rfl, r, q⟩
section
variable {X : Cx} {pins : List (Addr × Obj)} {σ : St} {H : Hp} {s : Shared} {l b : Addr} {xs ys zs : List V}
theorem Inv.lset {its its' : List Value} {n : Nat} {f : Array Value → Array Value} {t' : Nat} (I : Inv X pins σ H s) (hH : H l = some (.lst xs))
    (e : s.heap.get? l = some { cls := .type "list", data := .seq its.toArray n }) (hf : f its.toArray = its'.toArray) (hv : Vals ys its') (hz : ys.length ≤ sizeLine) :
    Inv X pins σ (upd H l (.lst ys)) { s with heap := s.heap.update l (Obj.mapSeq f), toks := t' } := by
  have q := PySem.IsL.update e f
  rw [hf] at q
  refine I.write (x := l) (e := l) (by rw [hH]; exact trivial) (.inl rfl) (fun b' u hb hu => (Heap.get?_update_other s.heap (Obj.mapSeq f) (Ne.symm hb)).trans hu) ⟨_, q⟩ ?_
  exact ⟨hz, its', _, hv, q⟩
theorem Inv.lnew {its : List Value} {t' : Nat} (I : Inv X pins σ H s) (hv : Vals ys its) (hz : ys.length ≤ sizeLine) :
    Inv X pins σ (upd H s.heap.objs.size (.lst ys)) { s with heap := s.heap.push { cls := .type "list", data := .seq its.toArray }, toks := t' } :=
  I.laid (fun _ _ q => Heap.get?_push_of_some _ q) (Nat.le_refl _) ⟨hz, its, 0, hv, Heap.get?_push_size _ rfl⟩
theorem Inv.fresh (I : Inv X pins σ H s) : H s.heap.objs.size = none := I.hok.fresh (Nat.le_refl _)
theorem Inv.lstM (I : Inv X pins σ H s) (hH : H l = some (.lst xs)) : xs.length ≤ sizeLine ∧ ∃ (its : List Value) (n : Nat), Vals xs its ∧ xs.length = its.length ∧ s.heap.get? l = some { cls := .type "list", data := .seq its.toArray n } := by
  obtain ⟨z, its, n, r, e⟩ := I.hok l _ hH
  exact ⟨z, its, n, r, r.length, e⟩
theorem notLongL {n : Nat} (h : n ≤ sizeLine) : Builtin.List.listTooLong n = false := by
  unfold Builtin.List.listTooLong
  exact decide_eq_false (by omega)
end
section
variable {X : Cx}
def rAppend : V → List V → Hp → VK → Prop := fun x vs H Q => ∃ l xs y, x = .ref l ∧ vs = [y] ∧ H l = some (.lst xs) ∧ xs.length < sizeLine ∧ Q .non (upd H l (.lst (xs ++ [y])))
theorem mt_append : MtM X "list.append" rAppend := by
  intro pins s σ H x vs v us Q I rx rv h
  obtain ⟨l, xs, y, rfl, rfl, hH, hz, q⟩ := h
  cases rx
  obtain ⟨u, rfl, ru⟩ := rv.one
  obtain ⟨z, its, n, r, hl, e⟩ := I.lstM hH
  refine call_meets F.slot_list_append ⟨_, e, rfl⟩ F.entry_list_append (F.args_list_append_2 _ _) (PySem.list_append l its.toArray n u (by rw [List.size_toArray]; omega)) ⟨e, ?_⟩
  refine ⟨.non, _, I.lset (its' := its ++ [u]) hH e (by simp) (r.append (.cons ru .nil)) ?_, rfl, q⟩
  rw [List.length_append, List.length_singleton]
  omega
def rExtend : V → List V → Hp → VK → Prop := fun x vs H Q => ∃ l b xs zs, x = .ref l ∧ vs = [.ref b] ∧ H l = some (.lst xs) ∧ H b = some (.lst zs) ∧ xs.length + zs.length ≤ sizeLine ∧ Q .non (upd H l (.lst (xs ++ zs)))
theorem mt_extend : MtM X "list.extend" rExtend := by
  intro pins s σ H x vs v us Q I rx rv h
  obtain ⟨l, b, xs, zs, rfl, rfl, hH, hB, hz, q⟩ := h
  cases rx
  obtain ⟨u, rfl, ru⟩ := rv.one
  cases ru
  obtain ⟨z, its, n, r, hl, e⟩ := I.lstM hH
  obtain ⟨z2, its2, n2, r2, hl2, e2⟩ := I.lstM hB
  have hsz : its.toArray.size + its2.toArray.size ≤ sizeLine := by rw [List.size_toArray, List.size_toArray]; omega
  have hlong : ¬ (!its.toArray.isEmpty && Builtin.List.listTooLong (its.toArray.size + its2.toArray.size)) = true := by
    rw [notLongL hsz, Bool.and_false]
    exact Bool.false_ne_true
  refine call_meets F.slot_list_extend ⟨_, e, rfl⟩ F.entry_list_extend (F.args_list_extend_2 _ _)
    (AutoSeq1.list_extend_list_list_0 l its.toArray n b its2.toArray n2 hlong (by rw [List.size_toArray]; omega) (by omega)) ⟨e, e2, ?_⟩
  refine ⟨.non, _, I.lset (its' := its ++ its2) hH e (by simp) (r.append r2) ?_, rfl, q⟩
  rw [List.length_append]
  omega
end
section
variable {prog : Program} {w : World} {A : Around} {E : Value → Shared → Prop} {s : Shared}
theorem bounds_run {a c n : Nat} (hac : a ≤ c) (hc : c ≤ n) : sliceBounds (some (a : Int)) (some (c : Int)) none n = ((a : Int), (c : Int), 1) := by
  simp only [sliceBounds, Option.getD_none]
  have h1 : ¬ ((a : Int) < 0) := by omega
  have h2 : ¬ ((c : Int) < 0) := by omega
  simp only [h1, h2, if_false, show (1 : Int) > 0 by decide, if_true]
  congr 1
  · omega
  · congr 1; omega
set_option maxRecDepth 100000 in
theorem setItem_slice {l b sl : Addr} {items new : Array Value} {n n2 : Nat} {vl vu : Value} {a c : Nat} {Q : Unit → Shared → Prop}
    (e : s.heap.get? l = some { cls := .type "list", data := .seq items n }) (e2 : s.heap.get? b = some { cls := .type "list", data := .seq new n2 }) (hne : l ≠ b)
    (hs : s.heap.IsSliceOf sl vl vu .none) (pl : IsPart vl (some (a : Int))) (pu : IsPart vu (some (c : Int))) (hac : a ≤ c) (hc : c ≤ items.size)
    (hsz : items.size + new.size ≤ sizeLine) (h : Q () { s with heap := s.heap.update l (Obj.mapSeq fun xs => xs.extract 0 a ++ new ++ xs.extract c xs.size) }) :
    wpAny (model prog w) A (setItem (.ref l) (.ref sl) (.ref b)) Q E s := by
  have hl : s.heap.IsList l items := PySem.IsL.isList e
  have hb : s.heap.IsList b new := PySem.IsL.isList e2
  obtain ⟨os, hos, hcs, hds⟩ := id hs
  have hTs : s.TypeIs (.ref sl) "slice" := ⟨os, hos, hcs⟩
  have hstep : ¬ ((rawPart none == rawInt 0) = true) := Bool.false_ne_true
  have hsame : Builtin.List.listSameRef (.ref l) (.ref b) = false := by
    unfold Builtin.List.listSameRef
    exact beq_eq_false_iff_ne.mpr hne
  have hmax : (max (a : Int) (c : Int)).toNat = c := by omega
  have hz' : ((fun xs : Array Value => xs.extract 0 a ++ new ++ xs.extract c xs.size) items).size ≤ sizeLine + 1 := by
    simp only [Array.size_append, Array.size_extract]
    omega
  unfold setItem
  try with_reducible refine wpAny_holding ?_
  first | refine wpAny_bind (wpAny_pure ?_) | skip
  refine wpAny_bind (wpAny_sequenceKey hl.typeIs (by decide) ?_)
  refine wpAny_bind (wpAny_callSpecial?_slot (name := Str.ofString "__setitem__") hl.typeIs slot_list_setitem
    (wpAny_call_entry slot_list_setitem hl.typeIs entry_list_setitem ?_ (args_list_setitem _ _ _)))
  show wpAny _ _ (Builtin.List.listSubscript? (.ref sl) >>= _) _ _ s
  refine wpAny_bind ?_
  unfold Builtin.List.listSubscript?
  refine wpAny_bind (wpAny_specialOf hTs slice_no_index ?_)
  simp only [Option.isNone_none, if_true]
  refine wpAny_pure ?_
  show wpAny _ _ (typeOf (.ref sl) >>= _) _ _ s
  refine wpAny_bind (wpAny_typeOf hTs ?_)
  first
    | rw [if_neg (by decide)]
    | refine PySem.W.KFB.if_not (by decide) ?_
  rw [listSliceParts_eq]
  refine wpAny_bind (wpAny_bind (wpAny_field hos hds (x := .none) rfl (wpAny_bind (wpAny_listPart .none ?_))))
  rw [if_neg hstep]
  refine wpAny_bind (wpAny_field hos hds (x := vl) rfl (wpAny_bind (wpAny_listPart pl ?_)))
  refine wpAny_bind (wpAny_field hos hds (x := vu) rfl (wpAny_bind (wpAny_listPart pu (wpAny_pure ?_))))
  first
    | simp only [hsame, Bool.false_eq_true, if_false]
    | refine PySem.W.KFB.if_not hsame ?_
    | (dsimp only
       rw [if_neg (by rw [hsame]; exact Bool.false_ne_true)])
  refine wpAny_bind (m := Builtin.List.listAllItems (.ref b) "must assign iterable to extended slice") ?_
  unfold Builtin.List.listAllItems
  refine wpAny_bind (wpAny_typeOf hb.typeIs ?_)
  first
    | refine PySem.W.KFB.if_so (by decide) ?_
    | rw [if_pos (by decide)]
    | simp only [beq_self_eq_true, Bool.true_or, if_true]
  unfold Builtin.List.listItems
  refine wpAny_bind (wpAny_seqItems e2 rfl (wpAny_pure ?_))
  refine wpAny_bind (wpAny_bind (wpAny_seqItems e rfl (wpAny_pure ?_)))
  refine wpAny_bind (wpAny_of_eq ((sliceIndices_raw (some (a : Int)) (some (c : Int)) none items.size (by simp)).trans (congrArg (pure : Int × Int × Int → Sem (Int × Int × Int)) (bounds_run hac hc))) ?_)
  show wpAny _ _ (if ((1 : Int) == 1) = true then _ else _) _ _ s
  rw [if_pos (by decide)]
  refine wpAny_bind (wpAny_rule ?_)
  first
    | simp only [notLongL hsz, Bool.false_eq_true, if_false]
    | refine PySem.W.KFB.if_not (notLongL hsz) ?_
  first | refine wpAny_bind (wpAny_pure ?_) | skip
  show wpAny _ _ (updateSeq l (fun xs => xs.extract 0 ((a : Int)).toNat ++ new ++ xs.extract (max (a : Int) (c : Int)).toNat xs.size) >>= _) _ _ s
  rw [hmax, Int.toNat_natCast]
  refine wpAny_bind (wpAny_updateSeq (hz := Nat.le_trans (Nat.le_add_right _ _) hsz) (_hz' := hz') e rfl ?_)
  refine wpAny_bind (wpAny_letGo ?_)
  first
    | exact wpAny_bind (wpAny_pure (wpAny_pure ⟨.none, rfl, wpAny_pure h⟩))
    | exact wpAny_pure ⟨.none, rfl, wpAny_pure h⟩
end
end L2
namespace Att
open PySem PySem.W PySem.Calls PyProof.Rows
theorem ints_of_wellAll {P : Params} {h : Heap} : ∀ (ns : List Int) (vs : List Value), WellAll P h vs (ns.map WData.int) → IntsAre vs ns := by
  intro ns
  induction ns with
  | nil =>
    intro vs w
    rw [List.map_nil] at w
    cases w
    exact .nil
  | cons n ns ih =>
    intro vs w
    rw [List.map_cons] at w
    cases w with
    | cons a b =>
      cases a
      exact .cons _ _ (ih _ b)
theorem script_of {l : OpenLaw} {n : Nat} (hn : l.most = some n) {P : Params} {h : Heap} {args : List WData} {vals : List Value}
    (hpre : l.row.toRowW.claim.pre args = true) (hwl : WellAll P h vals args) :
    ∃ a vs ns, vals = [Value.ref a] ∧ args = [WData.list (ns.map WData.int)] ∧ h.get? a = some { cls := .type "list", data := .seq vs.toArray } ∧ IntsAre vs ns ∧ ns.length ≤ n := by
  have hsh : WShape.hasAll [] args [.list .int] = true := (pre_splitW hpre).1
  have hc : l.pre.holds [] { args := args } = true := (pre_splitW hpre).2
  obtain ⟨d, r, rfl, h1, h2⟩ := hasAllW_cons hsh
  obtain rfl := hasAllW_nil h2
  obtain ⟨xs, rfl, h3⟩ := hasW_list h1
  obtain ⟨ns, rfl⟩ := items_int h3
  have hlen : ns.length ≤ n := by
    unfold OpenLaw.pre at hc
    have h4 : (WTm.not (.lt (.lit (.int (n : Int))) (.len (.arg 0)))).holds [] { args := [.list (ns.map .int)] } = true := by
      have h4 := (holds_andW hc).1
      rw [hn] at h4
      exact h4
    have h5 := condW_of h4 (w_not (w_lt w_lit (w_len_list (w_arg rfl))))
    rw [List.length_map] at h5
    refine Nat.le_of_not_lt fun q => ?_
    have q' : (n : Int) < ((ns.length : Nat) : Int) := by omega
    first
      | (rw [decide_eq_true q'] at h5; exact absurd h5 (by decide))
      | (simp at h5; omega)
  cases hwl with
  | cons w1 w2 =>
    cases w2
    cases w1 with
    | list ho hall => exact ⟨_, _, ns, rfl, rfl, ho, ints_of_wellAll ns _ hall, hlen⟩
theorem post_true (l : OpenLaw) (args : List WData) : l.row.toRowW.claim.post args (.bool true) args = true :=
  postW_of (r := l.row.toRowW) (X := (true == true))
    (show WShape.has [] (.bool true) .bool = true by first | rfl | decide | simp [WShape.has, WShape.arms, WShape.armsAll])
    (show (WTm.eq .res (.lit (.bool true))).value [] { args := args, res := some (.bool true), after := args } = some (.bool (true == true)) from w_eq_bool (w_res rfl) w_lit) rfl
theorem attach_call {l : OpenLaw} {n : Nat} {q : Program} {loose : List Str} {XP : (Str → Option Value) → Heap → Prop} {YP : World → Heap → Prop} {d : DefRec}
    (hn : l.most = some n) (hdf : d.params.defaults = [])
    (call : ∀ (w : World) (s₀ s₁ : Shared) (mg mb : Str → Option Value) (fa : Addr) (o : Obj) (pm cd doc : Value) (a : Addr) (vs : List Value) (ns : List Int),
      Ground q loose [] XP w s₀ mg mb s₁.heap → YP w s₁.heap →
      s₁.heap.get? fa = some o → o.data = .func (docDef d.name d.params d.body d.scope pm cd doc) → s₁.heap.CodeRec cd d.name → mg d.name = some (.ref fa) →
      s₁.heap.get? a = some { cls := .type "list", data := .seq vs.toArray } → IntsAre vs ns → ns.length ≤ n → s₁.gens = #[] →
      codeAny (model l.prog w) callerA (.call (.ref fa) ⟨[.ref a], []⟩) (fun r s' => r = .ok (.ret (.bool true)) ∧ OldK s₁.heap s'.heap ∧ s'.os = s₁.os ∧ AllBare s'.gens) s₁) :
    WalkO q loose XP YP l.row.toRowW d [] (fun f vs => PySem.call f vs) := by
  intro w s₀ s₁ mg mb G Y fa o pm cd doc dV kV ho hd hcd hD hmg hg args vals as hpre hlay hrd hwl hlo
  obtain rfl : dV = .none := Dflts.none hD hdf
  obtain rfl : kV = .none := Dflts.noKw hD
  obtain ⟨a, vs, ns, rfl, rfl, hobj, hints, hlen⟩ := script_of hn hpre hwl
  refine enter_call (codeAny_mono (call w s₀ s₁ mg mb fa o pm cd doc a vs ns G Y ho (fd_plain hd) hcd hmg hobj hints hlen hg) fun r s' hq => ?_)
  obtain ⟨rfl, h2, h3, h4⟩ := hq
  exact ⟨.inl ⟨.bool true, .bool true, [], rfl, fun _ => rfl, .bool true, post_true l _, fun _ => ⟨List.Pairwise.nil, fun _ hm => (nomatch hm)⟩⟩, h2, h3, h4⟩
end Att
namespace L2
open PySem PySem.Spec PyProof.Rows
theorem vals_ints : ∀ {vs : List Value} {ns : List Int}, IntsAre vs ns → Vals (ns.map V.int) vs
  | _, _, .nil => .nil
  | _, _, .cons n t h => .cons ⟨t, rfl⟩ (vals_ints h)
abbrev KOf {K : PySem.W.Frag} {h : Heap} (_ : K.In h) : PySem.W.Frag := K
def defArgs (s : Stmt) : Arguments := match s with
  | .FunctionDef _ a _ _ _ _ _ _ _ _ => a
  | _ => { posonlyargs := [], args := [], vararg := none, kwonlyargs := [], kw_defaults := [], kwarg := none, defaults := [] }
def defBody (s : Stmt) : List Stmt := match s with
  | .FunctionDef _ _ b _ _ _ _ _ _ _ => b
  | _ => []
def defScope (s : Stmt) : Scope := match s with
  | .FunctionDef _ _ _ _ _ _ sc _ _ _ => sc
  | _ => { kind := .function, names := [], isGenerator := false, isCoroutine := false }
abbrev CX0 : CXT := fun _ _ _ _ _ _ => False
abbrev E0 : XK := fun _ _ _ => False
theorem pass0 {X : Cx} : Passes CX0 X E0 := fun _ _ _ _ _ _ _ h => h.elim
structure Fun (K : PySem.W.Frag) (x qual : Str) (st : Stmt) (f : Addr) (fd : FuncData) : Prop where
  ex : ∃ (oc : Value) (od : Option Addr) (kV doc pm : Value) (an : Option Addr) (cdv ct : Value) (osl : Array (Option Value)),
    fd = PySem.W.fnOf x qual (defArgs st) (defBody st) (defScope st) .none kV doc pm an cdv ct ∧ K.lookup f = some ⟨oc, od, .func fd, osl⟩ ∧ PySem.W.codeIn K cdv qual = true
  kp : PySem.W.keepIn K (.ref f) = true
section
variable {P : Program} {w : World} {K : PySem.W.Frag} {mg : Str → Option Value} {base : Heap}
theorem Fun.ok {x qual : Str} {st : Stmt} {f : Addr} {fd : FuncData} {N ps : List Str} {k : Nat} {sp : Sp} (F : Fun K x qual st f fd) (S : FnScope N ps (defScope st)) (len : ∀ vs H Q E, sp vs H Q E → vs.length = ps.length)
    (hbody : ∀ (cdv : Value) (A : Around) (outer : List Env) (s : Shared) (H : Hp) (vs : List V) (Q : VK) (E : XK), Room k (A.deeper (envOfC qual (defScope st) s.heap.objs.size f cdv)) → sp vs H Q E →
      ∃ t, PSs (cxOf CX0 P w K mg base N qual (defScope st) f cdv A outer s H E).nox (defBody st) t ∧ t { nx := fun _ H' => Q .non H', rt := Q } (start N vs) H) : FnOk P w K mg base CX0 (k + 1) f fd ps sp := by
  obtain ⟨oc, od, kV, doc, pm, an, cdv, ct, osl, rfl, lk, hcd⟩ := F.ex
  refine fn_of lk hcd S len fun A outer s H vs Q E hr hsp => ?_
  obtain ⟨t, h, q⟩ := hbody cdv A outer s H vs Q E hr hsp
  exact ⟨t, h.nox, q⟩
theorem Fun.binds {x qual : Str} {st : Stmt} {f : Addr} {fd : FuncData} {ps : List Str} (F : Fun K x qual st f fd)
    (h : ∀ (kV doc pm : Value) (an : Option Addr) (cdv ct : Value) (us : List Value), us.length = ps.length → bindArgs (PySem.W.fnOf x qual (defArgs st) (defBody st) (defScope st) .none kV doc pm an cdv ct) ⟨us, []⟩ = pure (ps.zip us)) : Binds K fd ps [] := by
  obtain ⟨oc, od, kV, doc, pm, an, cdv, ct, osl, rfl, lk, hcd⟩ := F.ex
  exact .all (h kV doc pm an cdv ct)
theorem fun_mk {x qual : Str} {st : Stmt} {f : Addr} {oc : Value} {od an : Option Addr} {osl : Array (Option Value)} {kV doc pm cdv ct : Value} (l : K.lookup f = some ⟨oc, od, .func (PySem.W.fnOf x qual (defArgs st) (defBody st) (defScope st) .none kV doc pm an cdv ct), osl⟩)
    (c : PySem.W.codeIn K cdv qual = true) (k : PySem.W.keepIn K (.ref f) = true) : Fun K x qual st f (PySem.W.fnOf x qual (defArgs st) (defBody st) (defScope st) .none kV doc pm an cdv ct) := ⟨⟨oc, od, kV, doc, pm, an, cdv, ct, osl, rfl, l, c⟩, k⟩
end
theorem small1000 {n : Nat} (h : n ≤ 1000) : n < sizeLine := Nat.lt_of_le_of_lt h (by decide)
section
variable {X : Cx}
theorem pv (i : Nat) {x : Str} {pos : Pos} (hN : X.N[i]? = some x := by rfl) (hv : Vis X.env.scope x := by first | exact Or.inl rfl | exact Or.inr (Or.inl rfl) | exact Or.inr (Or.inr rfl)) (hd : (x == ("__debug__" : Str)) = false := by decide)
    (hcd : (x == ("__classdict__" : Str)) = false := by decide) : PE X (.Name x pos) (tVar i) := pe_var hN hv hd hcd
end
theorem iteF {A B : Prop} (h : B) : if false = true then A else B := by
  rw [if_neg Bool.false_ne_true]
  exact h
theorem iteT {A B : Prop} (h : A) : if true = true then A else B := by
  rw [if_pos rfl]
  exact h
theorem ite2 {c A B : Prop} [Decidable c] (h1 : c → A) (h2 : ¬ c → B) : if c then A else B := by
  by_cases h : c
  · rw [if_pos h]
    exact h1 h
  · rw [if_neg h]
    exact h2 h
def Same (H H' : Hp) : Prop := ∀ b o, H b = some o → H' b = some o
theorem Same.refl (H : Hp) : Same H H := fun _ _ h => h
theorem Same.trans {H H1 H2 : Hp} (a : Same H H1) (b : Same H1 H2) : Same H H2 := fun c o h => b c o (a c o h)
theorem Same.free {H H' : Hp} (e : Same H H') {l : Addr} (h : H' l = Option.none) : H l = Option.none := by
  cases q : H l with
  | none => rfl
  | some o =>
    rw [e l o q] at h
    cases h
theorem Same.seq {K : PySem.W.Frag} {H H' : Hp} {a : Addr} {xs : List V} (e : Same H H') (h : SqL K H a xs) : SqL K H' a xs := by
  rcases h with (h | ⟨o, h⟩) | h
  · exact .inl (.inl (e _ _ h))
  · exact .inl (.inr ⟨o, e _ _ h⟩)
  · exact .inr h
theorem closure_go (env : Env) : ∀ (names : List (Str × NameKind)) (cs : List (Str × Addr)),
    (∀ p ∈ names, p.2 = .free → ∃ c, env.cells.lookup p.1 = some c) → (∀ x c, cs.lookup x = some c → env.cells.lookup x = some c) →
    ∃ cl : List (Str × Addr), (forIn names cs fun (p : Str × NameKind) (r : List (Str × Addr)) => (if (p.2 == NameKind.free) = true then (do let c ← cellOf env p.1; pure (ForInStep.yield ((p.1, c) :: r))) else pure (ForInStep.yield r) : Sem (ForInStep (List (Str × Addr))))) = (pure cl : Sem (List (Str × Addr))) ∧
      (∀ x c, cl.lookup x = some c → env.cells.lookup x = some c) ∧ (∀ x, (cs.lookup x).isSome = true → (cl.lookup x).isSome = true) ∧ (∀ p ∈ names, p.2 = .free → (cl.lookup p.1).isSome = true)
  | [], cs, _, h2 => ⟨cs, rfl, h2, fun _ h => h, fun _ h => nomatch h⟩
  | (n, k) :: r, cs, h1, h2 => by
    have h1' : ∀ p ∈ r, p.2 = .free → ∃ c, env.cells.lookup p.1 = some c := fun p hp => h1 p (List.mem_cons_of_mem _ hp)
    by_cases hk : (k == NameKind.free) = true
    · have hk' : k = .free := by simpa using hk
      obtain ⟨c, hc⟩ := h1 (n, k) List.mem_cons_self hk'
      have h2' : ∀ x c', ((n, c) :: cs).lookup x = some c' → env.cells.lookup x = some c' := fun x c' e => by
        rw [List.lookup_cons] at e
        cases hx : x == n with
        | true =>
          rw [hx] at e
          have e1 : x = n := by simpa using hx
          rw [e1, hc]; exact e
        | false => rw [hx] at e; exact h2 x c' e
      obtain ⟨cl, e1, e2, e3, e4⟩ := closure_go env r ((n, c) :: cs) h1' h2'
      have hn : (((n, c) :: cs).lookup n).isSome = true := by rw [List.lookup_cons, beq_self_eq_true]; rfl
      refine ⟨cl, ?_, e2, fun x hx => e3 x ?_, fun p hp hf => ?_⟩
      · rw [List.forIn_cons]
        have q : cellOf env n = pure c := by unfold cellOf; rw [hc]
        simp only [hk, if_true, q]
        exact e1
      · rw [List.lookup_cons]
        cases x == n with
        | true => rfl
        | false => exact hx
      · rcases List.mem_cons.mp hp with e | hp
        · rw [e]; exact e3 n hn
        · exact e4 p hp hf
    · obtain ⟨cl, e1, e2, e3, e4⟩ := closure_go env r cs h1' h2
      refine ⟨cl, ?_, e2, e3, fun p hp hf => ?_⟩
      · rw [List.forIn_cons]
        have hkf : (k == NameKind.free) = false := by simpa using hk
        simp only [hkf, Bool.false_eq_true, if_false]
        exact e1
      · rcases List.mem_cons.mp hp with e | hp
        · rw [e] at hf; exact absurd (by simpa using hf) hk
        · exact e4 p hp hf
theorem closure_of {scope : Scope} {env : Env} (h : ∀ p ∈ scope.names, p.2 = .free → ∃ c, env.cells.lookup p.1 = some c) :
    ∃ cl, closureFor scope env = pure cl ∧ (∀ x c, cl.lookup x = some c → env.cells.lookup x = some c) ∧ (∀ p ∈ scope.names, p.2 = .free → ∃ c, cl.lookup p.1 = some c) := by
  obtain ⟨cl, e1, e2, _, e4⟩ := closure_go env scope.names [] h (fun x c e => by simp at e)
  refine ⟨cl, ?_, e2, fun p hp hf => Option.isSome_iff_exists.mp (e4 p hp hf)⟩
  have q : closureFor scope env = (forIn scope.names [] fun (p : Str × NameKind) (r : List (Str × Addr)) => (if (p.2 == NameKind.free) = true then (do let c ← cellOf env p.1; pure (ForInStep.yield ((p.1, c) :: r))) else pure (ForInStep.yield r) : Sem (ForInStep (List (Str × Addr))))) >>= pure := by
    unfold closureFor
    rfl
  rw [q, e1]
  rfl
theorem relabel_free {env : Env} : ∀ {names : List (Str × NameKind)} {x : Str}, (∀ y ∈ names, y.2 ≠ .cell) →
    ((names.map fun (n, k) => if (k == NameKind.free && env.scope.kind == .function && env.kindOf n == some .cell) then (n, NameKind.cell) else (n, k)).lookup x = some .cell ∨
     (names.map fun (n, k) => if (k == NameKind.free && env.scope.kind == .function && env.kindOf n == some .cell) then (n, NameKind.cell) else (n, k)).lookup x = some .free) → (x, NameKind.free) ∈ names
  | [], _, _, h => by simp at h
  | (n, k) :: r, x, hc, h => by
    have ih := @relabel_free env r x (fun y hy => hc y (List.mem_cons_of_mem _ hy))
    simp only [List.map_cons] at h
    cases hx : x == n with
    | true =>
      have e : x = n := by simpa using hx
      subst e
      by_cases hh : (k == NameKind.free && env.scope.kind == .function && env.kindOf x == some .cell) = true
      · have : k = .free := by
          simp only [Bool.and_eq_true] at hh
          simpa using hh.1.1
        subst this
        exact List.mem_cons_self
      · rw [if_neg hh] at h
        simp only [List.lookup_cons, hx] at h
        rcases h with h | h
        · have : k = .cell := Option.some.inj h
          exact absurd this (hc (x, k) List.mem_cons_self)
        · have : k = .free := Option.some.inj h
          subst this
          exact List.mem_cons_self
    | false =>
      refine List.mem_cons_of_mem _ (ih ?_)
      by_cases hh : (k == NameKind.free && env.scope.kind == .function && env.kindOf n == some .cell) = true
      · rw [if_pos hh] at h
        simpa only [List.lookup_cons, hx] using h
      · rw [if_neg hh] at h
        simpa only [List.lookup_cons, hx] using h
theorem relabel_kind {env : Env} : ∀ {names : List (Str × NameKind)} {x : Str}, names.lookup x = some .free →
    ((names.map fun (n, k) => if (k == NameKind.free && env.scope.kind == .function && env.kindOf n == some .cell) then (n, NameKind.cell) else (n, k)).lookup x = some .cell ∨
     (names.map fun (n, k) => if (k == NameKind.free && env.scope.kind == .function && env.kindOf n == some .cell) then (n, NameKind.cell) else (n, k)).lookup x = some .free)
  | [], _, h => by simp at h
  | (n, k) :: r, x, h => by
    have ih := @relabel_kind env r x
    simp only [List.map_cons]
    cases hx : x == n with
    | true =>
      simp only [List.lookup_cons, hx] at h
      have e : k = .free := Option.some.inj h
      subst e
      by_cases hh : (NameKind.free == NameKind.free && env.scope.kind == .function && env.kindOf n == some .cell) = true
      · rw [if_pos hh]; left; simp only [List.lookup_cons, hx]
      · rw [if_neg hh]; right; simp only [List.lookup_cons, hx]
    | false =>
      simp only [List.lookup_cons, hx] at h
      by_cases hh : (k == NameKind.free && env.scope.kind == .function && env.kindOf n == some .cell) = true
      · rw [if_pos hh]; simpa only [List.lookup_cons, hx] using ih h
      · rw [if_neg hh]; simpa only [List.lookup_cons, hx] using ih h
def cxB (X : Cx) (scope : Scope) (tn : List Str) (cp : List (Nat × Str)) (cl : List (Str × Addr)) (C : Addr) (s : Shared) (H : Hp) (fp : List Addr) : Cx :=
  { X with N := tn ++ cp.map (·.2), s₀ := s, H₀ := H, env := compEnvC scope cl C X.env, outer := X.stack, ex := fp, fn := fun _ => false, pn := [], xe := fun _ _ => False }
def stB (tn : List Str) (cp : List (Nat × Str)) (σ : St) : St := List.replicate tn.length none ++ cp.map fun p => (σ[p.1]?).getD none
structure CompOk (X : Cx) (scope : Scope) (cp : List (Nat × Str)) : Prop where
  kind : scope.kind = .function
  nocell : ∀ y ∈ scope.names, y.2 ≠ .cell
  names : ∀ y ∈ scope.names, y.2 = .local → scope.names.lookup y.1 = some .local
  free : ∀ y ∈ scope.names, y.2 = .free → X.env.kindOf y.1 = some .cell ∨ X.env.kindOf y.1 = some .free
  cap : ∀ p ∈ cp, X.N[p.1]? = some p.2 ∧ scope.names.lookup p.2 = some .free
section
variable {X : Cx} {pins : List (Addr × Obj)} {σ : St} {H : Hp} {s : Shared} {scope : Scope} {tn : List Str} {cp : List (Nat × Str)} {cl : List (Str × Addr)} {fp : List Addr}
theorem mem_of_lookup' {α : Type} : ∀ {l : List (Str × α)} {x : Str} {v : α}, l.lookup x = some v → (x, v) ∈ l
  | [], _, _, h => by simp at h
  | (n, k) :: r, x, v, h => by
    rw [List.lookup_cons] at h
    cases hx : x == n with
    | true =>
      rw [hx] at h
      have e : x = n := by simpa using hx
      have e2 : k = v := Option.some.inj h
      subst e e2
      exact List.mem_cons_self
    | false => rw [hx] at h; exact List.mem_cons_of_mem _ (mem_of_lookup' h)
theorem block_start {h₁ : Heap} {t' : Nat} {m0 : Str → Option Value} (I : Inv X pins σ H s) (O : CompOk X scope cp) (hcl1 : ∀ x c, cl.lookup x = some c → X.env.cells.lookup x = some c) (hcl2 : ∀ p ∈ scope.names, p.2 = .free → ∃ c, cl.lookup p.1 = some c)
    (hf : ∀ b ∈ fp, FpOk X pins H b ∧ b < s.heap.objs.size) (hns : h₁.Ns s.heap.objs.size m0) (hk : ∀ b o, s.heap.get? b = some o → h₁.get? b = some o) :
    Inv (cxB X scope tn cp cl s.heap.objs.size s H fp) [] (stB tn cp σ) H { s with heap := h₁, toks := t' } := by
  have ok : (cxB X scope tn cp cl s.heap.objs.size s H fp).Ok := by
    refine ⟨I.ok.mod, O.kind, I.ok.glob, I.ok.blt, Nat.le_refl _, fun x y c e1 e2 => I.ok.inj x y c (hcl1 x c e1) (hcl1 y c e2), fun x hx => ?_, fun x c hx => (by cases hx), I.ok.hd, I.ok.frames, .inl rfl, fun b hb => ⟨Nat.ne_of_lt (hf b hb).2, fun x c e => ?_⟩,
      fun b o e => I.bs b o e, Nat.le_trans I.ok.bsz I.sz, fun b o e hb => ?_, fun b hb hb' => ?_, I.stack, I.stkFree⟩
    · exact hcl2 (x, .free) (relabel_free O.nocell hx) rfl
    · exact (hf b hb).1.2.2.2.2.1 x c (hcl1 x c e)
    · rcases (hf b hb).1.2.2.2.1 with z | z
      · exact I.ok.noex b o e z
      · exact absurd (Nat.lt_of_lt_of_le (Heap.lt_size e) (Nat.le_trans I.ok.bsz z)) (Nat.lt_irrefl _)
    · rcases List.mem_cons.mp (I.stkSub b hb') with z | z
      · exact (hf b hb).1.2.1 z
      · exact (hf b hb).1.2.2.1 z
  refine ⟨ok, rfl, I.bare, Un.kept hk, ⟨m0, hns, fun i x v e1 e2 e3 => ?_⟩, fun x c e => ?_, I.hok.fresh (Nat.le_refl _), fun x c e => I.freeC x c (hcl1 x c e), fun p hp => by simp [cxB] at hp, I.hok.kept hk, ?_⟩
  · -- a captured name
    have e1' : (tn ++ cp.map (·.2))[i]? = some x := e1
    have e2' : (List.replicate tn.length none ++ cp.map fun p => (σ[p.1]?).getD none)[i]? = some (some v) := e2
    by_cases hi : i < tn.length
    · rw [List.getElem?_append_left (by simpa using hi)] at e2'
      rw [List.getElem?_replicate, if_pos hi] at e2'
      cases e2'
    · rw [List.getElem?_append_right (by simpa using Nat.le_of_not_lt hi), List.length_replicate, List.getElem?_map] at e2'
      rw [List.getElem?_append_right (Nat.le_of_not_lt hi), List.getElem?_map] at e1'
      cases hp : cp[i - tn.length]? with
      | none => rw [hp] at e1'; cases e1'
      | some p =>
        rw [hp] at e1' e2'
        have e1'' : p.2 = x := Option.some.inj e1'
        have e2'' : (σ[p.1]?).getD none = some v := Option.some.inj e2'
        obtain ⟨c1, c2⟩ := O.cap p (List.mem_of_getElem? hp)
        rw [e1''] at c1 c2
        have hs : σ[p.1]? = some (some v) := by
          cases q : σ[p.1]? with
          | none => rw [q] at e2''; cases e2''
          | some z => rw [q] at e2''; exact congrArg some e2''
        have hk' := O.free (x, .free) (mem_of_lookup' c2) rfl
        have hvis : Vis X.env.scope x := by
          rcases hk' with z | z
          · exact .inr (.inl z)
          · exact .inr (.inr z)
        obtain ⟨m, hn, hl⟩ := I.loc
        obtain ⟨u, r, l⟩ := hl p.1 x v c1 hs hvis
        refine ⟨u, r, .inr ?_⟩
        rcases l with ⟨z, _⟩ | ⟨_, c, hc, o, ho, hd⟩
        · rcases hk' with y | y <;> (rw [z] at y; cases y)
        · obtain ⟨c', hc'⟩ := hcl2 (x, .free) (mem_of_lookup' c2) rfl
          have : c' = c := Option.some.inj ((hcl1 x c' hc').symm.trans hc)
          subst this
          exact ⟨relabel_kind c2, c', hc', o, hk c' o ho, hd⟩
  · obtain ⟨v, o, ho, hd⟩ := I.cell x c (hcl1 x c e)
    exact ⟨v, o, hk c o ho, hd⟩
  · show (stB tn cp σ).length = (tn ++ cp.map (·.2)).length
    unfold stB
    simp
theorem block_end {σ' : St} {H' : Hp} {s' : Shared} {h' : Heap} {pinsB : List (Addr × Obj)} (I : Inv X pins σ H s) (hf : ∀ b ∈ fp, FpOk X pins H b)
    (J : Inv (cxB X scope tn cp cl s.heap.objs.size s H fp) pinsB σ' H' s') (hs : Heap.SameBut s.heap.objs.size s'.heap h') : Inv X pins σ H' { s' with heap := h' } := by
  have ne : ∀ b o, s.heap.get? b = some o → b ≠ s.heap.objs.size := fun b o e => Nat.ne_of_lt (Heap.lt_size e)
  have U : Un (frs X.stack) fp H H' s.heap h' := by
    have u : Un (frs X.stack) fp H H' s.heap s'.heap := J.base
    refine ⟨fun b o e n h1 h2 => (hs.2 b (ne b o e)).trans (u.keep b o e n h1 h2), fun b o e n h1 h2 => ?_, u.free, fun b o e h2 => ?_, u.tups, u.frzs, u.tbls⟩
    · obtain ⟨sl, q⟩ := u.slot b o e n h1 h2
      exact ⟨sl, (hs.2 b (ne b o e)).trans q⟩
    · obtain ⟨o', q⟩ := u.there b o e h2
      exact ⟨o', (hs.2 b (ne b o e)).trans q⟩
  have fr : H' s.heap.objs.size = none := J.free
  have hok : HOk X.prog X.w H' h' := fun b ob e => by
    refine (J.hok b ob e).stay (fun c v hc q => (hs.2 c ?_).trans q) (fun _ q => q) (fun _ _ _ _ _ q => q) fun _ _ q => q
    rintro rfl
    rcases hc with z | z
    · rw [← z, fr] at e; cases e
    · rw [fr] at z; cases z
  refine I.call' (s' := { s' with heap := h' }) (ch := fp) J.os U hok J.bare fun b hb => ?_
  obtain ⟨_, f1, _, f3, f4, f5⟩ := hf b hb
  exact ⟨f3, f1, f4, f5⟩
end
def PIfs (X : Cx) (ifs : List Expr) (t : TT) : Prop :=
  ∀ (pins : List (Addr × Obj)) (s : Shared) (σ : St) (H : Hp) (Q : Bool → Hp → Prop), Inv X pins σ H s → t σ H Q →
    wpAny (model X.prog X.w) X.A (forIn ifs true fun c r => if r = true then do let ok ← isTrue c X.env (eval c X.env); pure (ForInStep.yield ok) else pure (ForInStep.yield r)) (TP X pins σ Q) X.xe s
def tYes : TT := fun _ H Q => Q true H
theorem pf_nil {X : Cx} : PIfs X [] tYes := fun _ _ _ H _ I h => wpAny_tests_nil ⟨H, I, h⟩
theorem pf_one {X : Cx} {c : Expr} {t : TT} (h : PT X c t) : PIfs X [c] t := fun pins s σ H Q I hw => wpAny_tests_one (h pins s σ H Q I hw)
theorem compLoop_own {prog : Program} {w : World} {A : Around} {R : Result → Shared → Prop} {s : Shared} {elt target iter : Expr} {ifs : List Expr} {scope : Scope} {pos : Pos} {it acc : Value} {env : Env} (I : Nat → Shared → Prop)
    (turn : ∀ n s, I n s → wpAny (model prog w) A (pyNext it) (fun r s₁ => match r with
      | none => R (.ok .next) s₁
      | some v => wpAny (model prog w) A (letOwnedTupleGo target it v) (fun _ s₂ => wpAny (model prog w) A (assign target env v) (fun _ s₃ =>
          wpAny (model prog w) A (forIn ifs true fun c r => if r = true then do let ok ← isTrue c env (eval c env); pure (ForInStep.yield ok) else pure (ForInStep.yield r)) (fun ok s₄ =>
            if ok = true then wpAny (model prog w) A (eval elt env) (fun x s₅ =>
              wpAny (model prog w) A (call (.builtin "list.append") [acc, x]) (fun _ s₆ => ∃ m, m < n ∧ I m s₆) (fun _ _ => False) s₅) (fun _ _ => False) s₄
            else ∃ m, m < n ∧ I m s₄) (fun _ _ => False) s₃) (fun _ _ => False) s₂) (fun _ _ => False) s₁) (fun _ _ => False) s)
    (n : Nat) (h : I n s) :
    codeAny (model prog w) A (.compLoop (.ListComp elt [⟨target, iter, ifs, 0⟩] scope pos) 0 it acc env) R s := by
  refine codeAny_loop rfl I (fun n s hI => ?_) n h
  show wpAny _ A ((compTurn (.ListComp elt [⟨target, iter, ifs, 0⟩] scope pos) 0 it acc env).onRaise (fun x => do noteFrame x env; theTreesLotGoes x)) _ _ s
  refine wpAny_noted ?_
  rw [compTurn_list]
  refine wpAny_bind (wpAny_standAt (wpAny_bind (wpAny_mono (turn n s hI) (fun r s₁ h₁ => ?_) fun _ _ f => f.elim)))
  cases r with
  | none => exact wpAny_pure h₁
  | some v =>
    refine wpAny_bind (wpAny_mono h₁ (fun _ s₂ h₂ => ?_) fun _ _ f => f.elim)
    refine wpAny_bind (wpAny_mono h₂ (fun _ s₃ h₃ => wpAny_bind (wpAny_mono h₃ (fun ok s₄ h₄ => ?_) fun _ _ f => f.elim)) fun _ _ f => f.elim)
    cases ok with
    | false => exact wpAny_pure ⟨rfl, h₄⟩
    | true =>
      exact wpAny_bind (wpAny_bind (wpAny_mono h₄ (fun x s₅ h₅ => wpAny_bind (wpAny_mono h₅ (fun _ s₆ h₆ => wpAny_pure (wpAny_pure ⟨rfl, h₆⟩)) fun _ _ f => f.elim)) fun _ _ f => f.elim))
def tComp (tn : List Str) (cp : List (Nat × Str)) (wi : TI) (g : TG) (tif : TT) (te : TE) : TE := fun σ H Q => wi σ H fun J H1 => ∀ D, H1 D = none → ∃ W : Nat → Nat → St → Hp → Prop,
  (∃ m, W 0 m (stB tn cp σ) (upd H1 D (.lst []))) ∧ ∀ i m σb Hb, W i m σb Hb →
    (J.stop i Hb ∧ Q (.ref D) Hb) ∨ (J.go i Hb ∧ ∀ x H', J.yld i Hb x H' → g x σb H' fun σ2 H2 => tif σ2 H2 fun c H3 =>
      if c = true then te σ2 H3 fun y H4 => ∃ ys, H4 D = some (.lst ys) ∧ ys.length < sizeLine ∧ ∃ m', m' < m ∧ W (i + 1) m' σ2 (upd H4 D (.lst (ys ++ [y])))
      else ∃ m', m' < m ∧ W (i + 1) m' σ2 H3)
theorem lcomp_core {X : Cx} {elt tg iter : Expr} {ifs : List Expr} {scope : Scope} {pos cpos : Pos} {wi : TI} {g : TG} {tif : TT} {te : TE} (tn : List Str) (cp : List (Nat × Str)) (O : CompOk X scope cp) (hc : X.calm = true) (hi : PI X tg iter wi)
    (hg : ∀ cl C s H fp, PG (cxB X scope tn cp cl C s H fp) tg g) (hif : ∀ cl C s H fp, PIfs (cxB X scope tn cp cl C s H fp) ifs tif) (he : ∀ cl C s H fp, PE (cxB X scope tn cp cl C s H fp) elt te)
    (hs : ∀ x, foldedSetIterable iter X.env x = pure x) {pins : List (Addr × Obj)} {s : Shared} {σ : St} {H : Hp} {Q : VK} {R : Value → Shared → Prop} {use : Option (Value → Sem Unit)} (I : Inv X pins σ H s) (h : tComp tn cp wi g tif te σ H Q)
    (fin : ∀ (D C : Addr) (H5 : Hp) (s5 : Shared) (m : Str → Option Value), Inv X pins σ H5 s5 → FpOk X pins H5 C → s5.heap.Ns C m → Q (.ref D) H5 → compPost (model X.prog X.w) X.A X.xe use R (.ref D) C (.ok .next) s5) :
    wpAny (model X.prog X.w) X.A (comprehension (.ListComp elt [⟨tg, iter, ifs, 0⟩] scope pos) scope X.env cpos (newList []) false (eval iter X.env) use) R X.xe s := by
  obtain ⟨cl, hcl, hcl1, hcl2⟩ := closure_of (scope := scope) (env := X.env) fun p hp hf => I.ok.has p.1 (O.free p hp hf)
  refine wpAny_comprehension_free (use := use) rfl hs hcl O.kind O.names (thn (hi pins s σ H _ I h) fun v s1 h1 => thn h1 fun itv s2 h2 => ?_)
  obtain ⟨it, fp, tn', J, H2, rfl, I2, T, st2, f2, rest⟩ := h2
  refine wpAny_newObj_type ?_
  have I3 : Inv X pins σ (upd H2 s2.heap.objs.size (.lst [])) { s2 with heap := s2.heap.push { cls := .type "list", data := .seq ([] : List Value).toArray } } := I2.lnew (its := []) (t' := s2.toks) .nil (Nat.zero_le _)
  obtain ⟨W, ⟨m0, w0⟩, turn⟩ := rest s2.heap.objs.size I2.fresh
  have fpl : ∀ b ∈ fp, b < s2.heap.objs.size := fun b hb => by
    obtain ⟨o, e, _⟩ := T.obj _ _ st2 b hb
    exact Heap.lt_size e
  have f3 : ∀ b ∈ fp, FpOk X pins (upd H2 s2.heap.objs.size (.lst [])) b := fun b hb => ⟨by rw [upd_ne (Nat.ne_of_lt (fpl b hb))]; exact (f2 b hb).1, (f2 b hb).2⟩
  have sz3 : (s2.heap.push { cls := .type "list", data := .seq ([] : List Value).toArray }).objs.size = s2.heap.objs.size + 1 := Heap.size_push ..
  refine wpAny_newFunctionEnv O.nocell (by intro y hy; simp at hy) (fun h₁ hns hsb => ?_) O.kind
  have hk1 : ∀ b o, (s2.heap.push { cls := .type "list", data := .seq ([] : List Value).toArray }).get? b = some o → h₁.get? b = some o := fun b o e =>
    hsb.extBut b o (Nat.ne_of_lt (Heap.lt_size e)) (Heap.get?_push_of_some _ e)
  have J3 := block_start (tn := tn) (cp := cp) (t' := s2.toks + ([] : List (Str × Value)).length) I3 O hcl1 hcl2 (fun b hb => ⟨f3 b hb, by rw [sz3]; exact Nat.lt_succ_of_lt (fpl b hb)⟩) hns hk1
  have st3 : tn' 0 h₁ := T.keep _ _ _ st2 fun b hb o e => hk1 b o (Heap.get?_push_of_some _ e)
  show codeAny _ _ (.compStart _ 0 (.ref it) (.ref s2.heap.objs.size) (compEnvC scope cl (s2.heap.push { cls := .type "list", data := .seq ([] : List Value).toArray }).objs.size X.env)) _ _
  generalize hXB : cxB X scope tn cp cl (s2.heap.push { cls := .type "list", data := .seq ([] : List Value).toArray }).objs.size { s2 with heap := s2.heap.push { cls := .type "list", data := .seq ([] : List Value).toArray } } (upd H2 s2.heap.objs.size (.lst [])) fp = XB at J3
  have hprog : XB.prog = X.prog := by rw [← hXB]; rfl
  have hw : XB.w = X.w := by rw [← hXB]; rfl
  have hK : XB.K = X.K := by rw [← hXB]; rfl
  have hA : XB.A = X.A := by rw [← hXB]; rfl
  have henv : XB.env = compEnvC scope cl (s2.heap.push { cls := .type "list", data := .seq ([] : List Value).toArray }).objs.size X.env := by rw [← hXB]; rfl
  have hcalm : XB.calm = true := by rw [← hXB]; exact hc
  have hxe : XB.xe = fun _ _ => False := by rw [← hXB]; rfl
  have hgB : PG XB tg g := by rw [← hXB]; exact hg _ _ _ _ _
  have hifB : PIfs XB ifs tif := by rw [← hXB]; exact hif _ _ _ _ _
  have heB : PE XB elt te := by rw [← hXB]; exact he _ _ _ _ _
  have fB : ∀ (pb : List (Addr × Obj)) (Hb : Hp), (∀ b ∈ fp, Hb b = none) → (∀ b ∈ fp, ∀ p ∈ XB.pn ++ pb, p.1 ≠ b) → ∀ b ∈ fp, FpOk XB pb Hb b := fun pb Hb hn hp b hb => by
    refine ⟨hn b hb, ?_, ?_, .inl (by rw [← hXB]; exact hb), fun x c e => ?_, hp b hb⟩
    · rw [henv]; show b ≠ (s2.heap.push { cls := .type "list", data := .seq ([] : List Value).toArray }).objs.size
      rw [sz3]; exact Nat.ne_of_lt (Nat.lt_succ_of_lt (fpl b hb))
    · rw [← hXB]
      show b ∉ frs X.stack
      intro z
      rcases List.mem_cons.mp (I2.stkSub b z) with y | y
      · exact (f2 b hb).2.1 y
      · exact (f2 b hb).2.2.1 y
    · rw [henv] at e
      exact (f2 b hb).2.2.2.2.1 x c (hcl1 x c e)
  have pn0 : XB.pn = [] := by rw [← hXB]; rfl
  have loop : ∀ s₃ : Shared, s₃ = { s2 with heap := h₁, toks := s2.toks + ([] : List (Str × Value)).length } →
      codeAny (model X.prog X.w) X.A (.compLoop (.ListComp elt [⟨tg, iter, ifs, 0⟩] scope pos) 0 (.ref it) (.ref s2.heap.objs.size) XB.env)
        (compPost (model X.prog X.w) X.A X.xe use R (.ref s2.heap.objs.size) (s2.heap.push { cls := .type "list", data := .seq ([] : List Value).toArray }).objs.size) s₃ := by
    rintro s₃ rfl
    refine compLoop_own (fun n s' => ∃ i σb Hb, Inv XB [] σb Hb s' ∧ tn' i s'.heap ∧ (∀ b ∈ fp, Hb b = none) ∧ W i n σb Hb) ?_ m0 ⟨0, stB tn cp σ, _, J3, st3, fun b hb => (f3 b hb).1, w0⟩
    rintro n s4 ⟨i, σ4, H4, I4, st4, fr4, w4⟩
    rcases turn i n σ4 H4 w4 with ⟨stop, qn⟩ | ⟨go, step⟩
    · have d := T.done XB hprog hw hK hcalm i [] s4 σ4 H4 (fun _ _ => False) I4 (fB [] H4 fr4 (fun b hb p hp => by rw [pn0] at hp; simp at hp)) st4 stop
      rw [hA] at d
      refine thn d fun r s5 ⟨hr, I5⟩ => ?_
      subst hr
      obtain ⟨mm, hn5, _⟩ := id I5.loc
      have fr5 : H4 (s2.heap.push { cls := .type "list", data := .seq ([] : List Value).toArray }).objs.size = none := by
        have z := I5.free
        rw [henv] at z
        exact z
      have J5 : Inv X pins σ H4 s5 := by
        rw [← hXB] at I5
        exact block_end (h' := s5.heap) I3 f3 I5 ⟨rfl, fun _ _ => rfl⟩
      exact fin _ _ H4 s5 mm J5 (I3.fpOk (Nat.le_refl _) fr5) (by rw [henv] at hn5; exact hn5) qn
    · have d := T.item XB hprog hw hK hcalm i [] s4 σ4 H4 (fun _ _ => False) I4 (fB [] H4 fr4 (fun b hb p hp => by rw [pn0] at hp; simp at hp)) st4 go
      rw [hA] at d
      refine thn d fun r s5 ⟨u, hr, h5⟩ => ?_
      subst hr
      refine thn h5 fun _ s6 ⟨x, H6, I6, r6, y6, st6, fr6⟩ => ?_
      have I6' := I6.pinned (fB [] H6 fr6 (fun b hb p hp => by rw [pn0] at hp; simp at hp)) (T.obj _ _ st6)
      have q6 := step x H6 y6
      have a1 := hgB _ s6 σ4 H6 x u _ I6' r6 q6
      rw [hxe, hprog, hw, hA] at a1
      refine thn a1 fun _ s7 ⟨σ7, H7, I7, q7⟩ => ?_
      have a2 := hifB _ s7 σ7 H7 _ I7 q7
      rw [hxe, hprog, hw, hA] at a2
      refine thn a2 fun ok s8 ⟨H8, I8, q8⟩ => ?_
      have again : ∀ {σ9 : St} {H9 : Hp} {s9 : Shared}, Inv XB ([] ++ pinsAt fp s6.heap) σ9 H9 s9 → (∃ m', m' < n ∧ W (i + 1) m' σ9 H9) → ∃ m, m < n ∧ ∃ i σb Hb, Inv XB [] σb Hb s9 ∧ tn' i s9.heap ∧ (∀ b ∈ fp, Hb b = none) ∧ W i m σb Hb := fun {σ9 H9 s9} I9 n9 => by
        obtain ⟨m', hm, w9⟩ := n9
        refine ⟨m', hm, i + 1, σ9, H9, I9.unpinned, T.keep _ _ _ st6 fun b hb o e => (I9.pin (b, o) (List.mem_append_right _ (List.mem_append_right _ (mem_pinsAt hb e)))).1, fun b hb => ?_, w9⟩
        obtain ⟨o, e, d⟩ := T.obj _ _ st6 b hb
        exact (I9.pin (b, o) (List.mem_append_right _ (List.mem_append_right _ (mem_pinsAt hb e)))).2.1
      cases ok with
      | false => exact again I8 q8
      | true =>
        show wpAny _ _ _ _ _ _
        have a3 := heB _ s8 σ7 H8 _ I8 q8
        rw [hxe, hprog, hw, hA] at a3
        refine thn a3 fun yv s9 ⟨y, H9, I9, r9, ys, hD, hlen, n9⟩ => ?_
        have a4 := mt_append (X := XB) _ s9 σ7 H9 (.ref s2.heap.objs.size) [y] (.ref s2.heap.objs.size) [yv] (fun _ H' => ∃ m', m' < n ∧ W (i + 1) m' σ7 H') I9 rfl (.cons r9 .nil) ⟨_, ys, y, rfl, rfl, hD, hlen, n9⟩
        rw [hxe, hprog, hw, hA] at a4
        exact thn a4 fun _ s10 ⟨_, H10, I10, _, q10⟩ => again I10 q10
  rw [henv] at loop
  refine codeAny_compStart_list (loop _ rfl) (T.self _ 0 _ _ _ st3 (loop _ rfl))
theorem pe_lcomp {X : Cx} {elt tg iter : Expr} {ifs : List Expr} {scope : Scope} {pos : Pos} {wi : TI} {g : TG} {tif : TT} {te : TE} (tn : List Str) (cp : List (Nat × Str)) (O : CompOk X scope cp) (hc : X.calm = true) (hi : PI X tg iter wi)
    (hg : ∀ cl C s H fp, PG (cxB X scope tn cp cl C s H fp) tg g) (hif : ∀ cl C s H fp, PIfs (cxB X scope tn cp cl C s H fp) ifs tif) (he : ∀ cl C s H fp, PE (cxB X scope tn cp cl C s H fp) elt te)
    (hs : ∀ x, foldedSetIterable iter X.env x = pure x := by intro _; rfl) :
    PE X (.ListComp elt [⟨tg, iter, ifs, 0⟩] scope pos) (tComp tn cp wi g tif te) := by
  intro pins s σ H Q I h
  rw [eval_ListComp]
  refine lcomp_core tn cp O hc hi hg hif he hs I h fun D C H5 s5 m I5 f5 n5 q5 => ⟨m, n5, fun h' hs' => ⟨.ref D, H5, ?_, rfl, q5⟩⟩
  obtain ⟨f0, f1, f2, f3, f4, f5⟩ := f5
  exact I5.turned (t' := s5.toks) (fun b o hb e => (hs'.2 b hb).trans e) f0 f1 f3 f4 f5
theorem ps_setC {X : Cx} {i : Nat} {x : Str} {elt tg iter : Expr} {ifs : List Expr} {scope : Scope} {pos pos' spos : Pos} {wi : TI} {g : TG} {tif : TT} {te : TE} (hN : X.N.Nodup) (hx : X.N[i]? = some x) (hl : Loc X.env.scope x) (tn : List Str) (cp : List (Nat × Str)) (O : CompOk X scope cp) (hc : X.calm = true) (hi : PI X tg iter wi)
    (hg : ∀ cl C s H fp, PG (cxB X scope tn cp cl C s H fp) tg g) (hif : ∀ cl C s H fp, PIfs (cxB X scope tn cp cl C s H fp) ifs tif) (he : ∀ cl C s H fp, PE (cxB X scope tn cp cl C s H fp) elt te)
    (hsw : swapsWith (.ListComp elt [⟨tg, iter, ifs, 0⟩] scope pos) (some (.Name x pos')) spos.line X.env = pure true := by rfl) (hs : ∀ x, foldedSetIterable iter X.env x = pure x := by intro _; rfl)
    (hf : X.fn x = true ∨ X.env.scope.names.lookup x = some .local := by first | exact .inl rfl | exact .inr rfl | assumption) :
    PS X (.Assign [.Name x pos'] (.ListComp elt [⟨tg, iter, ifs, 0⟩] scope pos) spos) (tAsg (tComp tn cp wi g tif te) (gName i)) := by
  intro pins s σ H D I h
  rw [exec_Assign_Name_used _ _ _ _ hsw]
  refine wpAny_bind (wpAny_standAt (wpAny_bind ?_))
  show wpAny _ X.A (do let _ ← comprehension (.ListComp elt [⟨tg, iter, ifs, 0⟩] scope pos) scope X.env _ (newList []) false (eval iter X.env) (some (assign (.Name x pos') X.env))) _ _ s
  refine wpAny_bind (wpAny_mono (lcomp_core tn cp O hc hi hg hif he hs (R := fun _ s' => SP X pins D .next s') I h fun E C H5 s5 m I5 f5 n5 q5 => ?_) (fun _ _ q => wpAny_pure (wpAny_pure q)) fun _ _ e => e)
  obtain ⟨f0, f1, f2, f3, f4, f5⟩ := f5
  show wpAny _ X.A (assign (.Name x pos') X.env (.ref E)) _ _ _
  refine wpAny_assign_Name (store_ok2 I5 hN hx hl (v := .ref E) rfl (fun s6 I6 ⟨a, sb, ha⟩ => ?_) hf)
  have ne : C ≠ a := by
    rcases ha with e | e
    · rw [e]; exact f1
    · exact fun z => f4 x a e z.symm
  refine ⟨m, n5.sameBut sb ne, fun h' hs' => ⟨_, H5, I6.turned (t' := s6.toks) (fun b o hb e => (hs'.2 b hb).trans e) f0 f1 f3 f4 f5, q5⟩⟩
theorem call_isinst {X : Cx} : CallR X (.builtin "isinstance") (fun xs H Q => ∃ x T t b, xs = [x, .ty T] ∧ TyOf X.K H x t ∧ PySem.W.kitOne X.K t (.type T) = some b ∧ Q (.bl b) H) := by
  intro pins s σ H xs us Q I r h
  obtain ⟨x, T, t, b, rfl, ty, e, q⟩ := h
  obtain ⟨u, w', rfl, rx, ry⟩ := vals2 r
  cases (show w' = Value.type T from ry)
  exact isinst_ok I rx ty e fun tk => ⟨.bl b, H, I.tok _, rfl, q⟩
section
open PyProof.Rows.LSm
theorem bools_of {bs : List Bool} : ∀ {us : List Value}, Vals (bs.map V.bl) us → BoolsAre us bs := by
  induction bs with
  | nil => intro us r; rw [List.map_nil] at r; cases r; exact .nil
  | cons b bs ih =>
    intro us r
    rw [List.map_cons] at r
    cases r with
    | cons r1 r2 =>
      cases (show _ = Value.bool b from r1)
      exact .cons b (ih r2)
theorem call_all_bl {X : Cx} (hc : X.calm = true) : CallR X (.builtin "all") (fun xs H Q => ∃ (p : Addr) (bs : List Bool), xs = [.ref p] ∧ SqL X.K H p (bs.map V.bl) ∧ Q (.bl (bs.all id)) H) := by
  intro pins s σ H xs us Q I r h
  obtain ⟨p, bs, rfl, hx, q⟩ := h
  obtain ⟨u, rfl, rx⟩ := vals1 r
  cases (show u = Value.ref p from rx)
  obtain ⟨vs, rv, pl, hz⟩ := I.list hx
  have hl := pl.isList
  have hb := bools_of rv
  have hlt : p < s.heap.objs.size := by obtain ⟨_, e, _⟩ := hl; exact Heap.lt_size e
  refine call_all_walk (wpAny_pyIter_list hl ?_)
  refine ⟨s.heap.objs.size, [s.heap.objs.size, p], [s.heap.objs.size], vs.toArray.size, _, _, fun i => (bs[i]?).getD true, rfl, Walks.list (A := X.A.in1) (I.ok.hd hc) _ p (Nat.ne_of_lt hlt) vs.toArray,
    ⟨⟨_, Heap.get?_push_size _ rfl, rfl, rfl⟩, hl.push _⟩, fun i v s' Q' E' hP hQ => ?_, fun h' tk hk => ?_⟩
  · obtain ⟨b, e, rfl⟩ := hb.get i v (by simpa using hP)
    simp only [e, Option.getD_some] at hQ
    exact wpAny_truthy_bool hQ
  · have e : ((List.range vs.toArray.size).all fun i => (bs[i]?).getD true) = bs.all id := by
      rw [List.size_toArray, hb.length]; exact range_all bs
    rw [e]
    exact ⟨.bl _, H, I.kept (kept_iter hk), rfl, q⟩
theorem call_any_bl {X : Cx} (hc : X.calm = true) : CallR X (.builtin "any") (fun xs H Q => ∃ (p : Addr) (bs : List Bool), xs = [.ref p] ∧ SqL X.K H p (bs.map V.bl) ∧ Q (.bl (bs.any id)) H) := by
  intro pins s σ H xs us Q I r h
  obtain ⟨p, bs, rfl, hx, q⟩ := h
  obtain ⟨u, rfl, rx⟩ := vals1 r
  cases (show u = Value.ref p from rx)
  obtain ⟨vs, rv, pl, hz⟩ := I.list hx
  have hl := pl.isList
  have hb := bools_of rv
  have hlt : p < s.heap.objs.size := by obtain ⟨_, e, _⟩ := hl; exact Heap.lt_size e
  refine call_any_walk (wpAny_pyIter_list hl ?_)
  refine ⟨s.heap.objs.size, [s.heap.objs.size, p], [s.heap.objs.size], vs.toArray.size, _, _, fun i => (bs[i]?).getD false, rfl, Walks.list (A := X.A.in1) (I.ok.hd hc) _ p (Nat.ne_of_lt hlt) vs.toArray,
    ⟨⟨_, Heap.get?_push_size _ rfl, rfl, rfl⟩, hl.push _⟩, fun i v s' Q' E' hP hQ => ?_, fun h' tk hk => ?_⟩
  · obtain ⟨b, e, rfl⟩ := hb.get i v (by simpa using hP)
    simp only [e, Option.getD_some] at hQ
    exact wpAny_truthy_bool hQ
  · have e : ((List.range vs.toArray.size).any fun i => (bs[i]?).getD false) = bs.any id := by
      rw [List.size_toArray, hb.length]; exact range_any bs
    rw [e]
    exact ⟨.bl _, H, I.kept (kept_iter hk), rfl, q⟩
theorem call_sum_int {X : Cx} (hc : X.calm = true) : CallR X (.builtin "sum") (fun xs H Q => ∃ (p : Addr) (ns : List Int), xs = [.ref p] ∧ SqL X.K H p (ns.map V.int) ∧ Q (.int ns.sum) H) := by
  intro pins s σ H xs us Q I r h
  obtain ⟨p, ns, rfl, hx, q⟩ := h
  obtain ⟨u, rfl, rx⟩ := vals1 r
  cases (show u = Value.ref p from rx)
  obtain ⟨vs, rv, pl, hz⟩ := I.list hx
  have hi := intsAre_of rv
  obtain ⟨ys, hy⟩ := hi.allInts.items
  have hl' : s.heap.IsList p (intItems ys) := hy ▸ pl.isList
  refine sum_intListG (I.ok.hd hc) hl' fun h' tk t' hk => ?_
  have e1 : ns = ys.toList.map (·.1) := by
    rw [← nums_intItems, ← hy]
    exact (show numsOf vs.toArray.toList = ns from hi.numsOf).symm
  have e2 : preSum (numAt ys) ys.size = ns.sum := by
    rw [preSum_eq, List.take_of_length_le (by simp), e1]
  rw [e2]
  exact ⟨.int _, H, I.kept hk, ⟨_, rfl⟩, q⟩
end
def EqOk (X : Cx) (k : Nat) (H : Hp) (x y : V) (b : Bool) : Prop := ∀ (pins : List (Addr × Obj)) (σ : St) (s : Shared) (A : Around) (u v : Value), A.units + k < cLine → Inv X pins σ H s → RelV x u → RelV y v → SeqAt.EqAt A s u v b
def RcOk (X : Cx) (k : Nat) (H : Hp) (x y : V) (b : Bool) : Prop := ∀ (pins : List (Addr × Obj)) (σ : St) (s : Shared) (A : Around) (u v : Value), A.units + k < cLine → Inv X pins σ H s → RelV x u → RelV y v → SeqAt.RcAt A s u v b
section
variable {X : Cx} {k : Nat} {H : Hp} {x y : V} {a b : Addr} {xs ys : List V}
theorem eqok_flat (fx : flatV x = true) (fy : flatV y = true) : EqOk X k H x y (eqV x y) := fun _ _ _ _ _ _ _ _ rx ry => eqAt_V rx ry fx fy
theorem eqok_same : EqOk X k H (.ref a) (.ref a) true := fun _ _ _ _ u v _ _ rx ry => by
  cases (show u = Value.ref a from rx)
  cases (show v = Value.ref a from ry)
  exact SeqAt.EqAt.same _
theorem EqOk.of_rc (hne : a ≠ b) {c : Bool} (h : RcOk X k H (.ref a) (.ref b) c) : EqOk X k H (.ref a) (.ref b) c := fun pins σ s A u v hu I rx ry => by
  cases (show u = Value.ref a from rx)
  cases (show v = Value.ref b from ry)
  exact SeqAt.EqAt.of_refs hne (h pins σ s A _ _ hu I rfl rfl)
theorem Vals.at {xs : List V} {us : List Value} (r : Vals xs us) {j : Nat} (h : j < us.length) : ∃ (h' : j < xs.length), RelV xs[j] us[j] := by
  have hl := r.length
  have h' : j < xs.length := by omega
  obtain ⟨u, e, q⟩ := r.get (i := j) (x := xs[j]) (by simp [h'])
  rw [List.getElem?_eq_getElem h] at e
  cases e
  exact ⟨h', q⟩
theorem rcok_lists (hx : SqL X.K H a xs) (hy : SqL X.K H b ys) (hl : xs.length = ys.length) (e : Nat → Bool) (he : ∀ j (h1 : j < xs.length) (h2 : j < ys.length), EqOk X k H xs[j] ys[j] (e j)) :
    RcOk X (k + 1) H (.ref a) (.ref b) ((List.range xs.length).all e) := fun pins σ s A u v hu I rx ry => by
  cases (show u = Value.ref a from rx)
  cases (show v = Value.ref b from ry)
  obtain ⟨us, r1, p1, _⟩ := I.list hx
  obtain ⟨vs, r2, p2, _⟩ := I.list hy
  have l1 := r1.length
  have l2 := r2.length
  have q := SeqAt.RcAt.lists (A := A) (e := e) p1.isList p2.isList (by rw [List.size_toArray, List.size_toArray]; omega) (by omega) fun j h1 h2 => by
    rw [List.size_toArray] at h1 h2
    obtain ⟨g1, q1⟩ := r1.at h1
    obtain ⟨g2, q2⟩ := r2.at h2
    exact he j g1 g2 pins σ s A.in1 _ _ (by show A.units + 1 + k < cLine; omega) I (by simpa using q1) (by simpa using q2)
  rw [List.size_toArray, ← l1] at q
  exact q
theorem rcok_tups (hx : SqT X.K H a xs) (hy : SqT X.K H b ys) (e : Nat → Bool) (he : ∀ j (h1 : j < xs.length) (h2 : j < ys.length), EqOk X k H xs[j] ys[j] (e j)) :
    RcOk X (k + 1) H (.ref a) (.ref b) ((List.range (min xs.length ys.length)).all e && xs.length == ys.length) := fun pins σ s A u v hu I rx ry => by
  cases (show u = Value.ref a from rx)
  cases (show v = Value.ref b from ry)
  obtain ⟨us, r1, p1, _⟩ := I.tuple hx
  obtain ⟨vs, r2, p2, _⟩ := I.tuple hy
  have l1 := r1.length
  have l2 := r2.length
  have q := SeqAt.RcAt.tuples (A := A) (e := e) p1 p2 (by omega) fun j h1 h2 => by
    rw [List.size_toArray] at h1 h2
    obtain ⟨g1, q1⟩ := r1.at h1
    obtain ⟨g2, q2⟩ := r2.at h2
    exact he j g1 g2 pins σ s A.in1 _ _ (by show A.units + 1 + k < cLine; omega) I (by simpa using q1) (by simpa using q2)
  rw [List.size_toArray, List.size_toArray, ← l1, ← l2] at q
  exact q
end
def CW (D : Addr) (n : Nat) (Pv : Nat → List V → St → Hp → Prop) (i m : Nat) (σ : St) (H : Hp) : Prop := m = n - i ∧ i ≤ n ∧ ∃ ys, H D = some (.lst ys) ∧ ys.length ≤ i ∧ Pv i ys σ H
def CStep (D : Addr) (n i : Nat) (Pv : Nat → List V → St → Hp → Prop) (σ2 : St) (y : V) (H4 : Hp) : Prop :=
  ∃ ys, H4 D = some (.lst ys) ∧ ys.length < sizeLine ∧ ∃ m', m' < n - i ∧ CW D n Pv (i + 1) m' σ2 (upd H4 D (.lst (ys ++ [y])))
def CSkip (D : Addr) (n i : Nat) (Pv : Nat → List V → St → Hp → Prop) (σ2 : St) (H3 : Hp) : Prop := ∃ m', m' < n - i ∧ CW D n Pv (i + 1) m' σ2 H3
section
variable {D : Addr} {Q : VK} {g : TG} {tif : TT} {te : TE} {σ0 : St} {H1 : Hp} {n i : Nat} {Pv : Nat → List V → St → Hp → Prop}
theorem cstep {ys : List V} {y : V} {σ2 : St} {H4 : Hp} (hn : n ≤ sizeLine) (hi : i < n) (hD : H4 D = some (.lst ys)) (hl : ys.length ≤ i) (h : Pv (i + 1) (ys ++ [y]) σ2 (upd H4 D (.lst (ys ++ [y])))) : CStep D n i Pv σ2 y H4 :=
  ⟨ys, hD, by omega, n - (i + 1), by omega, rfl, hi, ys ++ [y], upd_same, by rw [List.length_append, List.length_singleton]; omega, h⟩
theorem cskip {ys : List V} {σ2 : St} {H3 : Hp} (hi : i < n) (hD : H3 D = some (.lst ys)) (hl : ys.length ≤ i) (h : Pv (i + 1) ys σ2 H3) : CSkip D n i Pv σ2 H3 :=
  ⟨n - (i + 1), by omega, rfl, hi, ys, hD, by omega, h⟩
theorem comp_by {J : It} (Pv : Nat → List V → St → Hp → Prop) (hn : n ≤ sizeLine) (h0 : Pv 0 [] σ0 (upd H1 D (.lst [])))
    (hgo : ∀ i ys σ H, i < n → H D = some (.lst ys) → Pv i ys σ H → J.go i H) (hstop : ∀ ys σ H, H D = some (.lst ys) → Pv n ys σ H → J.stop n H)
    (hs : ∀ i ys σ H, i < n → H D = some (.lst ys) → ys.length ≤ i → Pv i ys σ H → ∀ x H', J.yld i H x H' → g x σ H' fun σ2 H2 => tif σ2 H2 fun c H3 =>
      if c = true then te σ2 H3 fun y H4 => CStep D n i Pv σ2 y H4 else CSkip D n i Pv σ2 H3)
    (hd : ∀ ys σ H, H D = some (.lst ys) → ys.length ≤ n → Pv n ys σ H → Q (.ref D) H) :
    ∃ W : Nat → Nat → St → Hp → Prop, (∃ m, W 0 m σ0 (upd H1 D (.lst []))) ∧ ∀ i m σb Hb, W i m σb Hb →
      (J.stop i Hb ∧ Q (.ref D) Hb) ∨ (J.go i Hb ∧ ∀ x H', J.yld i Hb x H' → g x σb H' fun σ2 H2 => tif σ2 H2 fun c H3 =>
        if c = true then te σ2 H3 fun y H4 => ∃ ys, H4 D = some (.lst ys) ∧ ys.length < sizeLine ∧ ∃ m', m' < m ∧ W (i + 1) m' σ2 (upd H4 D (.lst (ys ++ [y])))
        else ∃ m', m' < m ∧ W (i + 1) m' σ2 H3) := by
  refine ⟨CW D n Pv, ⟨n, by omega, Nat.zero_le _, [], upd_same, Nat.le_refl _, h0⟩, ?_⟩
  rintro i m σ H ⟨rfl, hi, ys, hD, hl, p⟩
  by_cases hlt : i < n
  · exact .inr ⟨hgo i ys σ H hlt hD p, hs i ys σ H hlt hD hl p⟩
  · have e : i = n := by omega
    subst e
    exact .inl ⟨hstop ys σ H hD p, hd ys σ H hD hl p⟩
theorem comp_list {K : PySem.W.Frag} {a : Addr} {xs : List V} (Pv : Nat → List V → St → Hp → Prop) (hn : xs.length ≤ sizeLine) (h0 : Pv 0 [] σ0 (upd H1 D (.lst [])))
    (hl : ∀ i ys σ H, i ≤ xs.length → H D = some (.lst ys) → Pv i ys σ H → SqL K H a xs)
    (hs : ∀ i ys σ H x, i < xs.length → xs[i]? = some x → H D = some (.lst ys) → ys.length ≤ i → Pv i ys σ H → g x σ H fun σ2 H2 => tif σ2 H2 fun c H3 =>
      if c = true then te σ2 H3 fun y H4 => CStep D xs.length i Pv σ2 y H4 else CSkip D xs.length i Pv σ2 H3)
    (hd : ∀ ys σ H, H D = some (.lst ys) → ys.length ≤ xs.length → Pv xs.length ys σ H → Q (.ref D) H) :
    ∃ W : Nat → Nat → St → Hp → Prop, (∃ m, W 0 m σ0 (upd H1 D (.lst []))) ∧ ∀ i m σb Hb, W i m σb Hb →
      ((Itl K a).stop i Hb ∧ Q (.ref D) Hb) ∨ ((Itl K a).go i Hb ∧ ∀ x H', (Itl K a).yld i Hb x H' → g x σb H' fun σ2 H2 => tif σ2 H2 fun c H3 =>
        if c = true then te σ2 H3 fun y H4 => ∃ ys, H4 D = some (.lst ys) ∧ ys.length < sizeLine ∧ ∃ m', m' < m ∧ W (i + 1) m' σ2 (upd H4 D (.lst (ys ++ [y])))
        else ∃ m', m' < m ∧ W (i + 1) m' σ2 H3) :=
  comp_by Pv hn h0 (fun i ys σ H hi hD p => ⟨xs, xs[i], hl i ys σ H (Nat.le_of_lt hi) hD p, by simp [hi]⟩) (fun ys σ H hD p => ⟨xs, hl _ ys σ H (Nat.le_refl _) hD p, Nat.le_refl _⟩) (fun i ys σ H hi hD hl' p x H' y => by
    obtain ⟨e, y⟩ := y
    subst e
    exact hs i ys σ _ x hi (y xs (hl i ys σ _ (Nat.le_of_lt hi) hD p)) hD hl' p) hd
end
section
variable {κ : Type} [DecidableEq κ]
def valV (kvs : List (κ × V)) (k : κ) : Option V := (kvs.find? fun kv => decide (kv.1 = k)).map (·.2)
def putK (kvs : List (κ × V)) (k : κ) (v : V) : List (κ × V) :=
  if (kvs.any fun kv => decide (kv.1 = k)) = true then kvs.map (fun kv => if kv.1 = k then (kv.1, v) else kv) else kvs ++ [(k, v)]
theorem valV_nil {k : κ} : valV ([] : List (κ × V)) k = none := rfl
theorem valV_pos {p : κ × V} {r : List (κ × V)} {k : κ} (e : p.1 = k) : valV (p :: r) k = some p.2 := by simp [valV, List.find?_cons, e]
theorem valV_neg {p : κ × V} {r : List (κ × V)} {k : κ} (e : ¬ p.1 = k) : valV (p :: r) k = valV r k := by simp [valV, List.find?_cons, e]
theorem valV_any (k : κ) : ∀ kvs : List (κ × V), (kvs.any fun kv => decide (kv.1 = k)) = (valV kvs k).isSome
  | [] => rfl
  | p :: r => by
    rw [List.any_cons]
    by_cases e : p.1 = k
    · simp only [valV_pos e, decide_eq_true e, Bool.true_or, Option.isSome_some]
    · rw [valV_neg e, decide_eq_false e, Bool.false_or]; exact valV_any k r
theorem valV_map (k j : κ) (y : V) : ∀ kvs : List (κ × V), valV (kvs.map fun kv => if kv.1 = k then (kv.1, y) else kv) j = (valV kvs j).map fun x => if j = k then y else x
  | [] => rfl
  | p :: r => by
    have ih := valV_map k j y r
    rw [List.map_cons]
    by_cases h : p.1 = k
    · rw [if_pos h]
      by_cases e : p.1 = j
      · rw [valV_pos (p := (p.1, y)) e, valV_pos e, Option.map_some, if_pos (e.symm.trans h)]
      · rw [valV_neg (p := (p.1, y)) e, valV_neg e, ih]
    · rw [if_neg h]
      by_cases e : p.1 = j
      · rw [valV_pos (p := p) e, valV_pos e, Option.map_some, if_neg (fun z => h (e.trans z))]
      · rw [valV_neg (p := p) e, valV_neg e, ih]
theorem valV_snoc (k j : κ) (y : V) : ∀ kvs : List (κ × V), valV kvs k = none → valV (kvs ++ [(k, y)]) j = if j = k then some y else valV kvs j
  | [], _ => by
    by_cases e : k = j
    · rw [if_pos e.symm]; exact valV_pos (p := (k, y)) e
    · rw [if_neg (fun z => e z.symm)]; exact valV_neg (p := (k, y)) e
  | p :: r, hn => by
    rw [List.cons_append]
    have hk : ¬ p.1 = k := fun z => by rw [valV_pos z] at hn; cases hn
    rw [valV_neg hk] at hn
    have ih := valV_snoc k j y r hn
    by_cases e : p.1 = j
    · rw [valV_pos e, valV_pos e, if_neg (fun z => hk (e.trans z))]
    · rw [valV_neg e, valV_neg e, ih]
theorem valV_put (kvs : List (κ × V)) (k j : κ) (y : V) : valV (putK kvs k y) j = if j = k then some y else valV kvs j := by
  unfold putK
  by_cases a : (kvs.any fun kv => decide (kv.1 = k)) = true
  · rw [if_pos a, valV_map]
    rw [valV_any] at a
    by_cases e : j = k
    · obtain ⟨x, hx⟩ := Option.isSome_iff_exists.mp a
      rw [if_pos e, e, hx, Option.map_some, if_pos rfl]
    · rw [if_neg e]
      cases valV kvs j with
      | none => rfl
      | some x => rw [Option.map_some, if_neg e]
  · rw [if_neg a]
    refine valV_snoc k j y kvs ?_
    rw [valV_any] at a
    cases q : valV kvs k with
    | none => rfl
    | some x => rw [q] at a; exact (a rfl).elim
theorem length_putK (kvs : List (κ × V)) (k : κ) (v : V) : (putK kvs k v).length ≤ kvs.length + 1 := by
  unfold putK
  split
  · rw [List.length_map]; omega
  · rw [List.length_append, List.length_cons, List.length_nil]; omega
theorem putK_new {kvs : List (κ × V)} {k : κ} (v : V) (h : valV kvs k = none) : putK kvs k v = kvs ++ [(k, v)] := by
  unfold putK
  rw [valV_any, h]
  exact if_neg (by decide)
theorem RelO.isSome_eq {o : Option V} {u : Option Value} (r : RelO o u) : o.isSome = u.isSome := by
  cases o with
  | none => cases u with
    | none => rfl
    | some _ => exact (show False from r).elim
  | some _ => cases u with
    | none => exact (show False from r).elim
    | some _ => rfl
theorem KV.val {kvs : List (κ × V)} {vs : List (κ × Value)} (r : KV kvs vs) (k : κ) : RelO (valV kvs k) (valueAt vs k) := by
  unfold KV at r
  induction r with
  | nil => exact True.intro
  | @cons p q ps qs h t ih =>
    obtain ⟨h1, h2⟩ := h
    by_cases e : p.1 = k
    · have e' : q.1 = k := h1.symm.trans e
      have b : valueAt (q :: qs) k = some q.2 := by simp [valueAt, List.find?_cons, e']
      rw [valV_pos e, b]; exact h2
    · have e' : ¬ q.1 = k := fun z => e (h1.trans z)
      have b : valueAt (q :: qs) k = valueAt qs k := by simp [valueAt, List.find?_cons, e']
      rw [valV_neg e, b]; exact ih
theorem KV.any {kvs : List (κ × V)} {vs : List (κ × Value)} (r : KV kvs vs) (k : κ) : (kvs.any fun kv => decide (kv.1 = k)) = vs.any fun kv => decide (kv.1 = k) := by
  unfold KV at r
  induction r with
  | nil => rfl
  | cons h t ih => rw [List.any_cons, List.any_cons, ih, h.1]
theorem KV.repl {kvs : List (κ × V)} {vs : List (κ × Value)} (r : KV kvs vs) (k : κ) {y : V} {u : Value} (ry : RelV y u) :
    KV (kvs.map fun kv => if kv.1 = k then (kv.1, y) else kv) (vs.map fun kv => if kv.1 = k then (kv.1, u) else kv) := by
  unfold KV at r ⊢
  induction r with
  | nil => exact .nil
  | @cons p q ps qs h t ih =>
    rw [List.map_cons, List.map_cons]
    refine .cons ?_ ih
    obtain ⟨h1, h2⟩ := h
    by_cases e : p.1 = k
    · rw [if_pos e, if_pos (h1.symm.trans e)]; exact ⟨h1, ry⟩
    · rw [if_neg e, if_neg (fun z => e (h1.trans z))]; exact ⟨h1, h2⟩
theorem KV.put {kvs : List (κ × V)} {vs : List (κ × Value)} (r : KV kvs vs) (k : κ) {y : V} {u : Value} (ry : RelV y u) : KV (putK kvs k y) (stored vs k u) := by
  unfold putK stored
  rw [r.any k]
  by_cases e : (vs.any fun kv => decide (kv.1 = k)) = true
  · rw [if_pos e, if_pos e]; exact r.repl k ry
  · rw [if_neg e, if_neg e]; exact Paired.snoc r ⟨rfl, ry⟩
theorem KV.length {kvs : List (κ × V)} {vs : List (κ × Value)} (r : KV kvs vs) : kvs.length = vs.length := Paired.length r
end
theorem kV_is {P : Program} {w : World} {k : Key} {u : Value} (r : RelV (kV k) u) : (mixKind P w).is k u = true := by
  cases k with
  | inl i => obtain ⟨t, e⟩ := (show ∃ t, u = Value.int i t from r); subst e; exact mixKind_int P w i t
  | inr x => obtain ⟨t, e⟩ := (show ∃ t, u = Value.str x t from r); subst e; exact mixKind_str P w x t
theorem items_are {P : Program} {w : World} : ∀ {ks : List Key} {us : List Value}, Vals (ks.map kV) us → ItemsAre (mixKind P w) ks us
  | [], _, r => by rw [List.map_nil] at r; cases r; exact .nil
  | k :: ks, _, r => by
    rw [List.map_cons] at r
    cases r with
    | cons h t => exact .cons (kV_is h) (items_are t)
abbrev KT (H : Hp) : List (List Key × V) → List (List Key × Addr × Value) → Prop := Paired fun p q => p.1 = q.1 ∧ H q.2.1 = some (.tup (p.1.map kV)) ∧ RelV p.2 q.2.2
theorem KT.val {H : Hp} {kvs : List (List Key × V)} {xs : List (List Key × Addr × Value)} (r : KT H kvs xs) (k : List Key) : RelO (valV kvs k) ((atKey xs k).map (·.2)) := by
  induction r with
  | nil => exact True.intro
  | @cons p q ps qs h t ih =>
    obtain ⟨h1, _, h2⟩ := h
    by_cases e : p.1 = k
    · have e' : q.1 = k := h1.symm.trans e
      have b : atKey (q :: qs) k = some q.2 := by simp [atKey, List.find?_cons, e']
      rw [valV_pos e, b]; exact h2
    · have e' : ¬ q.1 = k := fun z => e (h1.trans z)
      have b : atKey (q :: qs) k = atKey qs k := by simp [atKey, List.find?_cons, e']
      rw [valV_neg e, b]; exact ih
theorem KT.repl {H : Hp} {kvs : List (List Key × V)} {xs : List (List Key × Addr × Value)} (r : KT H kvs xs) (k : List Key) {y : V} {u : Value} (ry : RelV y u) :
    KT H (kvs.map fun kv => if kv.1 = k then (kv.1, y) else kv) (xs.map (putAt k u)) := by
  induction r with
  | nil => exact .nil
  | @cons p q ps qs h t ih =>
    rw [List.map_cons, List.map_cons]
    refine .cons ?_ ih
    obtain ⟨h1, h2, h3⟩ := h
    unfold putAt
    by_cases e : p.1 = k
    · rw [if_pos e, if_pos (h1.symm.trans e)]; exact ⟨h1, h2, ry⟩
    · rw [if_neg e, if_neg (fun z => e (h1.trans z))]; exact ⟨h1, h2, h3⟩
theorem KT.put {H : Hp} {kvs : List (List Key × V)} {xs : List (List Key × Addr × Value)} (r : KT H kvs xs) (k : List Key) {b : Addr} {y : V} {u : Value} (hb : H b = some (.tup (k.map kV))) (ry : RelV y u) :
    KT H (putK kvs k y) (storedH xs k b u) := by
  have e : (kvs.any fun kv => decide (kv.1 = k)) = (atKey xs k).isSome := by
    rw [valV_any, (r.val k).isSome_eq, Option.isSome_map]
  unfold putK storedH
  rw [e]
  by_cases q : (atKey xs k).isSome = true
  · rw [if_pos q, if_pos q]; exact r.repl k ry
  · rw [if_neg q, if_neg q]; exact Paired.snoc r ⟨rfl, hb, ry⟩
theorem KT.keeps {H H' : Hp} {kvs : List (List Key × V)} {xs : List (List Key × Addr × Value)} (r : KT H kvs xs) (ht : ∀ b ys, H b = some (.tup ys) → H' b = some (.tup ys)) : KT H' kvs xs :=
  Paired.mapP r fun _ _ z => ⟨z.1, ht _ _ z.2.1, z.2.2⟩
section
variable {P : Program} {w : World} {H : Hp} {h : Heap} {a : Addr}
theorem rd_of {u : HO} (ok : HOk P w H h) (e : Rd H a u) : ObjOk P w H h a u := e.ok ok
theorem dk_rd {kvs : List (Key × V)} (ok : HOk P w H h) (e : Rd H a (.dK kvs)) : kvs.length ≤ sizeLine ∧ (a == sysModules) = false ∧ ∃ vs, KV kvs vs ∧ h.DictOf (mixKind P w) a vs :=
  show ObjOk P w H h a (.dK kvs) from rd_of ok e
theorem dk_of {kvs : List (Key × V)} (ok : HOk P w H h) (e : H a = some (.dK kvs)) : kvs.length ≤ sizeLine ∧ (a == sysModules) = false ∧ ∃ vs, KV kvs vs ∧ h.DictOf (mixKind P w) a vs := dk_rd ok (.inl e)
theorem key_of {ks : List Key} (ok : HOk P w H h) (e : H a = some (.tup (ks.map kV))) : (tupleKind (mixKind P w)).is h ks a := by
  obtain ⟨_, its, r, o, h1, h2, n, h3⟩ := (show ObjOk P w H h a (.tup (ks.map kV)) from ok a _ e)
  exact ⟨o, its.toArray, n, h1, h2, h3, by simpa using items_are r⟩
theorem dt_rd {kvs : List (List Key × V)} (ok : HOk P w H h) (e : Rd H a (.dT kvs)) : kvs.length ≤ sizeLine ∧ (a == sysModules) = false ∧
    ∃ xs, KT H kvs xs ∧ h.DictOfH (tupleKind (mixKind P w)) a xs := by
  obtain ⟨z, y, xs, r, o, es, ep, h1, h2, h3, h4, h5⟩ := (show ObjOk P w H h a (.dT kvs) from rd_of ok e)
  refine ⟨z, y, xs, r, o, es, ep, h1, h2, h3, h4, fun x hx => ?_, h5⟩
  have all : ∀ {l : List (List Key × V)} {m : List (List Key × Addr × Value)}, KT H l m → ∀ x ∈ m, (tupleKind (mixKind P w)).is h x.1 x.2.1 := by
    intro l m q
    induction q with
    | nil => intro x hx; exact nomatch hx
    | @cons p q ps qs hq t ih =>
      intro x hx
      rcases List.mem_cons.mp hx with e | hx
      · subst e
        exact key_of ok (by rw [← hq.1]; exact hq.2.1)
      · exact ih x hx
  exact all r x hx
theorem dt_of {kvs : List (List Key × V)} (ok : HOk P w H h) (e : H a = some (.dT kvs)) : kvs.length ≤ sizeLine ∧ (a == sysModules) = false ∧
    ∃ xs, KT H kvs xs ∧ h.DictOfH (tupleKind (mixKind P w)) a xs := dt_rd ok (.inl e)
end
def KeyV (k : Key) (y : V) : Prop := y = kV k ∨ ∃ b, y = .bl b ∧ k = .inl (blI b)
theorem KeyV.is {P : Program} {w : World} {k : Key} {y : V} {u : Value} (h : KeyV k y) (r : RelV y u) : (mixKind P w).is k u = true := by
  rcases h with rfl | ⟨b, rfl, rfl⟩
  · exact kV_is r
  · cases (show u = Value.bool b from r)
    exact keyIs_bl b
def DGet (H : Hp) (a : Addr) (y : V) (r : Option V) : Prop :=
  (∃ kvs k, Rd H a (.dK kvs) ∧ KeyV k y ∧ r = valV kvs k) ∨ ∃ kvs k b, Rd H a (.dT kvs) ∧ y = .ref b ∧ H b = some (.tup (k.map kV)) ∧ r = valV kvs k
def DPut (H : Hp) (a : Addr) (y v : V) (H' : Hp) : Prop :=
  (∃ kvs k, H a = some (.dK kvs) ∧ KeyV k y ∧ kvs.length < sizeLine ∧ H' = upd H a (.dK (putK kvs k v))) ∨
  ∃ kvs k b, H a = some (.dT kvs) ∧ y = .ref b ∧ H b = some (.tup (k.map kV)) ∧ kvs.length < sizeLine ∧ H' = upd H a (.dT (putK kvs k v))
theorem DGet.k {H : Hp} {a : Addr} {kvs : List (Key × V)} {k : Key} (e : H a = some (.dK kvs)) : DGet H a (kV k) (valV kvs k) := .inl ⟨kvs, k, .inl e, .inl rfl, rfl⟩
theorem DGet.t {H : Hp} {a b : Addr} {kvs : List (List Key × V)} {k : List Key} (e : H a = some (.dT kvs)) (eb : H b = some (.tup (k.map kV))) : DGet H a (.ref b) (valV kvs k) := .inr ⟨kvs, k, b, .inl e, rfl, eb, rfl⟩
theorem DPut.k {H : Hp} {a : Addr} {kvs : List (Key × V)} {k : Key} {v : V} (e : H a = some (.dK kvs)) (hl : kvs.length < sizeLine) : DPut H a (kV k) v (upd H a (.dK (putK kvs k v))) := .inl ⟨kvs, k, e, .inl rfl, hl, rfl⟩
theorem DPut.t {H : Hp} {a b : Addr} {kvs : List (List Key × V)} {k : List Key} {v : V} (e : H a = some (.dT kvs)) (eb : H b = some (.tup (k.map kV))) (hl : kvs.length < sizeLine) :
    DPut H a (.ref b) v (upd H a (.dT (putK kvs k v))) := .inr ⟨kvs, k, b, e, rfl, eb, hl, rfl⟩
section
variable {X : Cx} {pins : List (Addr × Obj)} {σ : St} {H : Hp} {s : Shared} {a : Addr} {y v : V} {u r : Value} {o : Option V} {A : Around} {E : Value → Shared → Prop}
theorem Inv.big (I : Inv X pins σ H s) : sysModules < s.heap.objs.size := by
  have h : mainGlobals < s.heap.objs.size := (I.mod.glob.keeps I.bk).lt
  exact Nat.lt_trans (by decide) h
theorem d_getItem {Q : Value → Shared → Prop} (hu : A.units + 1 < cLine) (I : Inv X pins σ H s) (g : DGet H a y (some v)) (ry : RelV y u) (h : ∀ w' s', Inv X pins σ H s' → RelV v w' → Q w' s') :
    wpAny (model X.prog X.w) A (getItem (.ref a) u) Q E s := by
  rcases g with ⟨kvs, k, e, ey, l⟩ | ⟨kvs, k, b, e, ey, eb, l⟩
  · obtain ⟨z, hd, vs, rel, dd⟩ := dk_rd I.hok e
    obtain ⟨w', hw, rw'⟩ := RelO.some_of (v := v) (o := valueAt vs k) (by rw [l]; exact rel.val k)
    exact wpAny_getItem_of (ey.is ry) dd.mapOf hw (h w' _ (I.tok _) rw')
  · subst ey
    cases (show u = Value.ref b from ry)
    obtain ⟨z, hd, xs, rel, dd⟩ := dt_rd I.hok e
    obtain ⟨w', hw, rw'⟩ := RelO.some_of (v := v) (o := (atKey xs k).map (·.2)) (by rw [l]; exact rel.val k)
    obtain ⟨p, hp, hp2⟩ := Option.map_eq_some_iff.mp hw
    refine wpAny_getItem_heap (tupleKind_room_in1 hu) (key_of I.hok eb) dd hp ?_
    rw [hp2]
    exact h w' _ (I.tok _) rw'
theorem d_in {Q : Value → Shared → Prop} (hu : A.units + 1 < cLine) (I : Inv X pins σ H s) (g : DGet H a y o) (ry : RelV y u) (h : ∀ s', Inv X pins σ H s' → Q (.bool o.isSome) s') :
    wpAny (model X.prog X.w) A (compareOp .In u (.ref a)) Q E s := by
  rcases g with ⟨kvs, k, e, ey, l⟩ | ⟨kvs, k, b, e, ey, eb, l⟩
  · obtain ⟨z, hd, vs, rel, dd⟩ := dk_rd I.hok e
    refine wpAny_in_of (ey.is ry) hd dd.mapOf ?_
    rw [← (rel.val k).isSome_eq, ← l]
    exact h _ (I.tok _)
  · subst ey
    cases (show u = Value.ref b from ry)
    obtain ⟨z, hd, xs, rel, dd⟩ := dt_rd I.hok e
    refine wpAny_in_heap (tupleKind_room_in1 hu) (key_of I.hok eb) hd dd ?_
    have q := (rel.val k).isSome_eq
    rw [Option.isSome_map] at q
    rw [← q, ← l]
    exact h _ (I.tok _)
theorem d_notIn {Q : Value → Shared → Prop} (hu : A.units + 1 < cLine) (I : Inv X pins σ H s) (g : DGet H a y o) (ry : RelV y u) (h : ∀ s', Inv X pins σ H s' → Q (.bool (!o.isSome)) s') :
    wpAny (model X.prog X.w) A (compareOp .NotIn u (.ref a)) Q E s := by
  rcases g with ⟨kvs, k, e, ey, l⟩ | ⟨kvs, k, b, e, ey, eb, l⟩
  · obtain ⟨z, hd, vs, rel, dd⟩ := dk_rd I.hok e
    refine wpAny_notIn_of (ey.is ry) hd dd.mapOf ?_
    rw [← (rel.val k).isSome_eq, ← l]
    exact h _ (I.tok _)
  · subst ey
    cases (show u = Value.ref b from ry)
    obtain ⟨z, hd, xs, rel, dd⟩ := dt_rd I.hok e
    refine wpAny_notIn_heap (tupleKind_room_in1 hu) (key_of I.hok eb) hd dd ?_
    have q := (rel.val k).isSome_eq
    rw [Option.isSome_map] at q
    rw [← q, ← l]
    exact h _ (I.tok _)
theorem d_write {h' : Heap} {t' : Nat} {ob : HO} (I : Inv X pins σ H s) (mu : Mut (H a)) (hs : Heap.SameBut a s.heap h') (he : ∃ q, h'.get? a = some q) (new : ObjOk X.prog X.w (upd H a ob) h' a ob) :
    Inv X pins σ (upd H a ob) { s with heap := h', toks := t' } :=
  I.write (x := a) (e := a) mu (.inl rfl) (fun b q hb z => (hs.2 b hb).trans z) he new
theorem dk_new {P : Program} {w : World} {H' : Hp} {h' : Heap} {kvs : List (Key × V)} {vs : List (Key × Value)} (z : kvs.length ≤ sizeLine) (hd : (a == sysModules) = false) (rel : KV kvs vs) (dd : h'.DictOf (mixKind P w) a vs) :
    ObjOk P w H' h' a (.dK kvs) := ⟨z, hd, vs, rel, dd⟩
theorem d_setItem {H' : Hp} {Q : Unit → Shared → Prop} (hu : A.units + 1 < cLine) (I : Inv X pins σ H s) (g : DPut H a y v H') (ry : RelV y u) (rv : RelV v r) (h : ∀ s', Inv X pins σ H' s' → Q () s') :
    wpAny (model X.prog X.w) A (setItem (.ref a) u r) Q E s := by
  rcases g with ⟨kvs, k, e, ey, l, eH⟩ | ⟨kvs, k, b, e, ey, eb, l, eH⟩
  · subst eH
    obtain ⟨z, hd, vs, rel, dd⟩ := dk_of I.hok e
    have hz : vs.length ≤ sizeLine := by rw [← rel.length]; exact z
    have hl : (putK kvs k v).length ≤ sizeLine := by have := length_putK kvs k v; omega
    refine wpAny_setItem_pairs (hsz := hz) (ey.is ry) dd fun h' dd' hs => h _ ?_
    have he : ∃ q, h'.get? a = some q := let ⟨q, _, _, hq, _⟩ := dd'; ⟨q, hq⟩
    exact d_write I (by rw [e]; exact True.intro) hs he (dk_new hl hd (rel.put k rv) dd')
  · subst ey eH
    cases (show u = Value.ref b from ry)
    obtain ⟨z, hd, xs, rel, dd⟩ := dt_of I.hok e
    have hz : xs.length ≤ sizeLine := by rw [← Paired.length rel]; exact z
    have hl : (putK kvs k v).length ≤ sizeLine := by have := length_putK kvs k v; omega
    refine wpAny_setItem_heap (hsz := hz) (tupleKind_room_in1 hu) (key_of I.hok eb) dd fun h' dd' hs => h _ ?_
    obtain ⟨q, es, ep, hq, h2, h3, h4, _, h5⟩ := dd'
    refine d_write I (by rw [e]; exact True.intro) hs ⟨q, hq⟩ ⟨hl, hd, _, (rel.put k eb rv).keeps fun c ys ec => ?_, q, es, ep, hq, h2, h3, h4, h5⟩
    rw [upd_ne (ne_of ec e (fun z => nomatch z))]
    exact ec
end
section
variable {X : Cx} {pins : List (Addr × Obj)} {σ : St} {H : Hp} {s : Shared} {a : Addr} {kvs : List (Key × V)} {k : Key} {u : Value} {A : Around} {E : Value → Shared → Prop}
theorem d_len {Q : Value → Shared → Prop} (I : Inv X pins σ H s) (e : Rd H a (.dK kvs)) (h : ∀ t s', Inv X pins σ H s' → Q (.int kvs.length t) s') : wpAny (model X.prog X.w) A (call (.builtin "len") [.ref a]) Q E s := by
  obtain ⟨z, hd, vs, rel, dd⟩ := dk_rd I.hok e
  refine call_len_dict hd dd (by rw [← rel.length]; rw [sizeLine_eq] at z; omega) ?_
  rw [← rel.length]
  exact h _ _ (I.tok _)
end
def NoSl (i : Expr) : Prop := ∀ ov iv, subscripted i false ov iv = operate [ov, iv] (getItem ov iv)
theorem subD_of {prog : Program} {w : World} {A : Around} {E : Value → Shared → Prop} {s : Shared} {env : Env} {value slice : Expr} {pos : Pos} {T id : String} {Q : Value → Shared → Prop}
    (hl : typeLookup (.type T) "__getitem__" = pure (some (.builtin id))) (hs : NoSl slice)
    (h : wpAny (model prog w) A (eval value env) (fun o s₁ => wpAny (model prog w) A (eval slice env) (fun i s₂ => s₂.TypeIs o T ∧ wpAny (model prog w) A (getItem o i) Q E s₂) E s₁) E s) :
    wpAny (model prog w) A (eval (.Subscript value slice pos) env) Q E s := by
  refine Subscript_ (wpAny_mono h (fun o s₁ h₁ => wpAny_mono h₁ (fun i s₂ h₂ => ?_) fun _ _ x => x) fun _ _ x => x)
  obtain ⟨hT, h₂⟩ := h₂
  unfold subscriptTail
  refine wpAny_bind ?_
  rw [getitemInPython_of_ne hT.not_modules]
  refine wpAny_bind (wpAny_specialOf hT hl ?_)
  have fin : wpAny (model prog w) A (subscripted slice false o i) (fun r s₃ => wpAny (model prog w) A (letTemporaryGo value o r >>= fun _ => pure r) Q E s₃) E s₂ := by
    rw [hs o i]
    exact wpAny_operating (wpAny_mono h₂ (fun r s₃ h₃ => wpAny_bind (wpAny_letTemporaryGo (wpAny_pure h₃))) fun _ _ x => x)
  first
    | exact wpAny_pure (wpAny_bind fin)
    | exact wpAny_bind (wpAny_pure (wpAny_bind fin))
    | exact wpAny_bind fin
theorem dict_typeIs {X : Cx} {pins : List (Addr × Obj)} {σ : St} {H : Hp} {s : Shared} {a : Addr} {y : V} {o : Option V} (I : Inv X pins σ H s) (g : DGet H a y o) : s.TypeIs (.ref a) "dict" := by
  rcases g with ⟨kvs, k, e, _, _⟩ | ⟨kvs, k, b, e, _, _, _⟩
  · obtain ⟨_, _, vs, _, dd⟩ := dk_rd I.hok e
    exact dd.typeIs
  · obtain ⟨_, _, xs, _, dd⟩ := dt_rd I.hok e
    exact dd.typeIs
def tDGet (td ty : TE) : TE := fun σ H Q => td σ H fun x H1 => ty σ H1 fun y H2 => ∃ a v, x = .ref a ∧ DGet H2 a y (some v) ∧ Q v H2
def sDPut (td ty tv : TE) : TS := fun D σ H => tv σ H fun v H1 => td σ H1 fun x H2 => ty σ H2 fun y H3 => ∃ a H4, x = .ref a ∧ DPut H3 a y v H4 ∧ D.nx σ H4
section
variable {X : Cx} {o i e value : Expr} {pos pos' tpos : Pos} {td ty tv : TE}
theorem pe_dget (hu : X.A.units + 1 < cLine) (ho : PE X o td) (hi : PE X i ty) (hs : NoSl i) : PE X (.Subscript o i pos) (tDGet td ty) := by
  intro pins s σ H Q I h
  refine subD_of PySem.F.slot_dict_getitem.lookup hs (thn (ho pins s σ H _ I h) fun u s1 ⟨x, H1, I1, rx, q1⟩ => thn (hi pins s1 σ H1 _ I1 q1) fun iv s2 ⟨y, H2, I2, ry, a, v, ex, g, q2⟩ => ?_)
  subst ex
  obtain rfl : u = Value.ref a := rx
  exact ⟨dict_typeIs I2 g, d_getItem hu I2 g ry fun w' s3 I3 rw' => ⟨v, H2, I3, rw', q2⟩⟩
theorem ps_dput (hu : X.A.units + 1 < cLine) (ho : PE X o td) (hi : PE X i ty) (hv : PE X value tv) (hs : swapsWith value (some (.Subscript o i pos')) pos.line X.env = pure false) :
    PS X (.Assign [.Subscript o i pos'] value pos) (sDPut td ty tv) := by
  intro pins s σ H D I h
  refine wpAny_Assign_Subscript (thn (hv pins s σ H _ I h) fun r s1 ⟨v, H1, I1, rv, q1⟩ => thn (ho pins s1 σ H1 _ I1 q1) fun u s2 ⟨x, H2, I2, rx, q2⟩ => thn (hi pins s2 σ H2 _ I2 q2) fun iv s3 ⟨y, H3, I3, ry, a, H4, ex, g, q3⟩ => ?_) hs
  subst ex
  obtain rfl : u = Value.ref a := rx
  exact d_setItem hu I3 g ry rv fun s4 I4 => ⟨σ, H4, I4, q3⟩
end
theorem dk_empty {P : Program} {w : World} {H : Hp} (h : Heap) (hb : sysModules < h.objs.size) : ObjOk P w H (h.push { cls := .type "dict", data := .dict #[] }) h.objs.size (.dK []) :=
  ⟨Nat.zero_le _, beq_eq_false_iff_ne.mpr (Ne.symm (Nat.ne_of_lt hb)), [], .nil, Heap.DictOf.new h⟩
theorem dt_empty {P : Program} {w : World} {H : Hp} (h : Heap) (hb : sysModules < h.objs.size) : ObjOk P w H (h.push { cls := .type "dict", data := .dict #[] }) h.objs.size (.dT []) :=
  ⟨Nat.zero_le _, beq_eq_false_iff_ne.mpr (Ne.symm (Nat.ne_of_lt hb)), [], .nil, _, #[], 0, Heap.get?_push_size _ rfl, ⟨rfl, rfl, rfl⟩, rfl, rfl, List.nodup_nil⟩
def tDNewK : TE := fun _ H Q => ∀ p, H p = none → Q (.ref p) (upd H p (.dK []))
def tDNewT : TE := fun _ H Q => ∀ p, H p = none → Q (.ref p) (upd H p (.dT []))
section
variable {X : Cx} {pos : Pos}
theorem pe_dnewK : PE X (.Dict [] [] pos) tDNewK := fun pins s σ H Q I h =>
  wpAny_Dict_empty ⟨.ref s.heap.objs.size, _, I.laid (a := s.heap.objs.size) (o := .dK []) (t' := s.toks) (fun _ _ q => Heap.get?_push_of_some _ q) (Nat.le_refl _) (dk_empty s.heap I.big), rfl, h _ (I.hok.fresh (Nat.le_refl _))⟩
theorem pe_dnewT : PE X (.Dict [] [] pos) tDNewT := fun pins s σ H Q I h =>
  wpAny_Dict_empty ⟨.ref s.heap.objs.size, _, I.laid (a := s.heap.objs.size) (o := .dT []) (t' := s.toks) (fun _ _ q => Heap.get?_push_of_some _ q) (Nat.le_refl _) (dt_empty s.heap I.big), rfl, h _ (I.hok.fresh (Nat.le_refl _))⟩
end
def tPairs : List (TE × TE) → St → Hp → (List (V × V) → Hp → Prop) → Prop
  | [], _, H, Q => Q [] H
  | (tk, tv) :: r, σ, H, Q => tk σ H fun x H1 => tv σ H1 fun y H2 => tPairs r σ H2 fun ps H3 => Q ((x, y) :: ps) H3
abbrev VV : List (V × V) → List (Value × Value) → Prop := Paired fun p q => RelV p.1 q.1 ∧ RelV p.2 q.2
def PPs (X : Cx) (pos : Pos) (keys : List (Option Expr)) (values : List Expr) (trs : List (TE × TE)) : Prop :=
  ∀ (pins : List (Addr × Obj)) (s : Shared) (σ : St) (H : Hp) (Q : List (V × V) → Hp → Prop), Inv X pins σ H s → tPairs trs σ H Q →
    wpAny (model X.prog X.w) X.A (evalPairs (pairTrees keys values X.env pos)) (fun vs s' => ∃ ps H', Inv X pins σ H' s' ∧ VV ps vs ∧ Q ps H') X.xe s
theorem pps_nil {X : Cx} {pos : Pos} : PPs X pos [] [] [] := fun pins s σ H Q I h => pairTrees_nil_walk ⟨[], H, I, .nil, h⟩
theorem pps_cons {X : Cx} {pos : Pos} {k v : Expr} {ks : List (Option Expr)} {vs : List Expr} {tk tv : TE} {trs : List (TE × TE)} (hk : PE X k tk) (hv : PE X v tv) (hr : PPs X pos ks vs trs) :
    PPs X pos (some k :: ks) (v :: vs) ((tk, tv) :: trs) := fun pins s σ H Q I h =>
  pairTrees_cons_walk (thn (hk pins s σ H _ I h) fun u s1 ⟨x, H1, I1, rx, q1⟩ => thn (hv pins s1 σ H1 _ I1 q1) fun w2 s2 ⟨y, H2, I2, ry, q2⟩ =>
    thn (hr pins s2 σ H2 _ I2 q2) fun ws s3 ⟨ps, H3, I3, rel, q3⟩ => ⟨(x, y) :: ps, H3, I3, .cons ⟨rx, ry⟩ rel, q3⟩)
def mergeK (kvs more : List (Key × V)) : List (Key × V) := more.foldl (fun acc kv => putK acc kv.1 kv.2) kvs
theorem KV.merge : ∀ {more : List (Key × V)} {rs : List (Key × Value)} {kvs : List (Key × V)} {vs : List (Key × Value)}, KV more rs → KV kvs vs → KV (mergeK kvs more) (merged vs rs) := by
  intro more rs kvs vs r
  unfold KV at r
  induction r generalizing kvs vs with
  | nil => intro q; exact q
  | @cons p q ps qs h t ih =>
    intro r0
    have e : KV (putK kvs p.1 p.2) (stored vs q.1 q.2) := by
      have := r0.put p.1 h.2
      rw [← h.1]; exact this
    exact ih e
theorem length_mergeK : ∀ (more kvs : List (Key × V)), (mergeK kvs more).length ≤ kvs.length + more.length
  | [], kvs => by show kvs.length ≤ kvs.length + 0; omega
  | p :: r, kvs => by
    have h1 := length_mergeK r (putK kvs p.1 p.2)
    have h2 := length_putK kvs p.1 p.2
    show (mergeK (putK kvs p.1 p.2) r).length ≤ _
    rw [List.length_cons]; omega
theorem carries_of {P : Program} {w : World} : ∀ {kvs : List (Key × V)} {ws : List (Value × Value)}, VV (kvs.map fun kv => (kV kv.1, kv.2)) ws → ∃ rs, Carries (mixKind P w) ws rs ∧ KV kvs rs
  | [], _, r => by rw [List.map_nil] at r; cases r; exact ⟨[], True.intro, .nil⟩
  | p :: kvs, _, r => by
    rw [List.map_cons] at r
    cases r with
    | @cons a b as bs h t =>
      obtain ⟨rs, c, q⟩ := carries_of (P := P) (w := w) t
      obtain ⟨b1, b2⟩ := b
      exact ⟨(p.1, b2) :: rs, ⟨kV_is h.1, rfl, c⟩, .cons ⟨rfl, h.2⟩ q⟩
def tDisp (trs : List (TE × TE)) : TE := fun σ H Q => ∀ p, H p = none → tPairs trs σ (upd H p (.dK [])) fun ps H2 => H2 p = some (.dK []) ∧ ∃ kvs : List (Key × V), ps = kvs.map (fun kv => (kV kv.1, kv.2)) ∧ kvs.length ≤ 15 ∧ Q (.ref p) (upd H2 p (.dK (mergeK [] kvs)))
theorem pe_disp {X : Cx} {pos : Pos} {keys : List (Option Expr)} {values : List Expr} {trs : List (TE × TE)} (h : PPs X pos keys values trs) (hall : keys.all (·.isSome) = true) (hl : keys.length = values.length) (h0 : keys ≠ [])
    (h15 : keys.length ≤ 15) : PE X (.Dict keys values pos) (tDisp trs) := by
  intro pins s σ H Q I q
  have hn := I.hok.fresh (Nat.le_refl s.heap.objs.size)
  have I1 := I.laid (a := s.heap.objs.size) (o := .dK []) (h' := s.heap.push { cls := .type "dict", data := .dict #[] }) (t' := s.toks) (fun _ _ q => Heap.get?_push_of_some _ q) (Nat.le_refl _) (dk_empty s.heap I.big)
  refine wpAny_Dict_walk (knd := mixKind X.prog X.w) hall hl h0 h15 (thn (h pins _ σ _ _ I1 (q _ hn)) fun ws s2 ⟨ps, H2, I2, rel, e, kvs, ep, lk, q2⟩ => ?_)
  subst ep
  obtain ⟨rs, c, rk⟩ := carries_of (P := X.prog) (w := X.w) rel
  obtain ⟨z, hd, vs0, r0, dd⟩ := dk_of I2.hok e
  cases r0
  refine ⟨rs, c, dd, fun h' dd' hs => ⟨.ref s.heap.objs.size, _, ?_, rfl, q2⟩⟩
  have hz : (mergeK [] kvs).length ≤ sizeLine := by
    have h1 := length_mergeK kvs []
    rw [List.length_nil] at h1
    rw [sizeLine_eq]; omega
  have he : ∃ q, h'.get? s.heap.objs.size = some q := let ⟨q, _, _, hq, _⟩ := dd'; ⟨q, hq⟩
  exact d_write I2 (by rw [e]; exact True.intro) hs he (dk_new hz hd (rk.merge .nil) dd')
section
variable {X : Cx}
theorem call_lenD : CallR X (.builtin "len") (fun xs H Q => ∃ a kvs, xs = [V.ref a] ∧ H a = some (.dK kvs) ∧ Q (.int kvs.length) H) := by
  intro pins s σ H xs us Q I r h
  obtain ⟨a, kvs, rfl, ha, q⟩ := h
  obtain ⟨u, rfl, ru⟩ := vals1 r
  cases ru
  exact d_len I (.inl ha) fun t s' I' => ⟨.int kvs.length, H, I', ⟨t, rfl⟩, q⟩
end
def notStar : Expr → Bool
  | .Starred _ _ => false
  | _ => true
theorem star_cons {e : Expr} {es : List Expr} {env : Env} (h : notStar e = true) : starEach (e :: es) env = (false, eval e env) :: starEach es env := by
  cases e with
  | Starred v q => exact absurd (show false = true from h) Bool.false_ne_true
  | _ => rw [starEach.eq_def]
theorem star_any : ∀ {es : List Expr} {env : Env} {pos : Pos}, es.all notStar = true → (backTo pos (starEach es env)).any (·.1) = false
  | [], env, pos, _ => by rw [starEach.eq_def]; rfl
  | e :: r, env, pos, h => by
    rw [List.all_cons, Bool.and_eq_true] at h
    rw [star_cons h.1]
    exact star_any h.2
section
variable {X : Cx} {x : Str} {p pos : Pos} {e : Expr} {es : List Expr} {te : TE} {t : TA} {T id : String} {r : List V → Hp → VK → Prop}
theorem pa_c (ha : PE X e te) (hr : PA X es t) (h : notStar e = true := by rfl) : PA X (e :: es) (tCons te t) := pa_cons ha hr (star_cons h)
theorem pe_cB (hc : CallR X (.builtin id) r) (hg : Gl X x) (hm : X.mg x = none) (hv : bootBuiltins x = some (.builtin id)) (ha : PA X (e :: es) t) (hn : x ≠ "__name__" := by decide) (hdb : (x == ("__debug__" : Str)) = false := by decide)
    (h1 : notStar e = true := by rfl) (h2 : es.all notStar = true := by rfl) : PE X (.Call (.Name x p) (e :: es) [] pos) (tCB r t) := pe_callB hc hg hm hv ha hn hdb (star_cons h1) (star_any h2)
theorem pe_cTy (hc : CallR X (.type T) r) (hg : Gl X x) (hm : X.mg x = none) (hv : bootBuiltins x = some (.type T)) (ha : PA X (e :: es) t) (hn : x ≠ "__name__" := by decide) (hdb : (x == ("__debug__" : Str)) = false := by decide)
    (h1 : notStar e = true := by rfl) (h2 : es.all notStar = true := by rfl) : PE X (.Call (.Name x p) (e :: es) [] pos) (tCB r t) := pe_callTy hc hg hm hv ha hn hdb (star_cons h1) (star_any h2)
end
structure Dfn (K : PySem.W.Frag) (mg : Str → Option Value) (x : Str) (st : Stmt) (ps : List Str) : Prop where
  ex : ∃ f fd, Fun K x x st f fd ∧ Binds K fd ps [] ∧ mg x = some (.ref f)
structure Cal (P : Program) (w : World) (K : PySem.W.Frag) (mg : Str → Option Value) (base : Heap) (n : Nat) (x : Str) (ps : List Str) (sp : Sp) : Prop where
  ex : ∃ f fd, FnOk P w K mg base CX0 n f fd ps sp ∧ Binds K fd ps [] ∧ PySem.W.keepIn K (.ref f) = true ∧ mg x = some (.ref f)
section
variable {P : Program} {w : World} {K : PySem.W.Frag} {mg : Str → Option Value} {base : Heap}
theorem Dfn.cal {x : Str} {st : Stmt} {N ps : List Str} {k : Nat} {sp : Sp} (d : Dfn K mg x st ps) (S : FnScope N ps (defScope st)) (len : ∀ vs H Q E, sp vs H Q E → vs.length = ps.length)
    (hbody : ∀ (f : Addr) (cdv : Value) (A : Around) (outer : List Env) (s : Shared) (H : Hp) (vs : List V) (Q : VK) (E : XK), Room k (A.deeper (envOfC x (defScope st) s.heap.objs.size f cdv)) → sp vs H Q E →
      ∃ t, PSs (cxOf CX0 P w K mg base N x (defScope st) f cdv A outer s H E).nox (defBody st) t ∧ t { nx := fun _ H' => Q .non H', rt := Q } (start N vs) H) : Cal P w K mg base (k + 1) x ps sp := by
  obtain ⟨f, fd, F, b, m⟩ := d.ex
  exact ⟨f, fd, F.ok S len (hbody f), b, F.kp, m⟩
end
section
variable {X : Cx} {n k : Nat} {x : Str} {ps : List Str} {sp : Sp} {p pos : Pos} {e : Expr} {es : List Expr} {t : TA}
theorem pe_callC (C : Cal X.prog X.w X.K X.mg X.base n x ps sp) (hr : Room k X.A) (hle : n ≤ k) (hg : Gl X x) (ha : PA X (e :: es) t) (hdb : (x == ("__debug__" : Str)) = false := by decide)
    (h1 : notStar e = true := by rfl) (h2 : es.all notStar = true := by rfl) : PE X (.Call (.Name x p) (e :: es) [] pos) (tCall sp [] E0 t) := by
  obtain ⟨f, fd, F, b, kp, m⟩ := C.ex
  exact pe_call F (hr.mono hle) hg m kp b .nil pass0 ha hdb (star_cons h1) (star_any h2)
def GlV (mg : Str → Option Value) (x : Str) (v : V) : Prop := ∃ u, mg x = some u ∧ RelV v u
theorem pe_gl {v : V} (hg : Gl X x) (h : GlV X.mg x v) (hd : (x == ("__debug__" : Str)) = false := by decide) : PE X (.Name x pos) (tC v) := by
  obtain ⟨u, m, r⟩ := h
  exact pe_glob hg m r hd
end
theorem CompOk.of {X : Cx} {scope : Scope} {cp : List (Nat × Str)} (kind : scope.kind = .function)
    (h1 : (scope.names.all fun y => y.2 != .cell && (y.2 != .local || scope.names.lookup y.1 == some .local) && (y.2 != .free || (X.env.scope.names.lookup y.1 == some .cell || X.env.scope.names.lookup y.1 == some .free))) = true)
    (h2 : (cp.all fun p => X.N[p.1]? == some p.2 && scope.names.lookup p.2 == some .free) = true) : CompOk X scope cp := by
  have g := List.all_eq_true.mp h1
  refine ⟨kind, fun y hy e => ?_, fun y hy e => ?_, fun y hy e => ?_, fun p hp => ?_⟩
  · have q := g y hy
    rw [Bool.and_eq_true, Bool.and_eq_true] at q
    rw [e] at q
    exact absurd q.1.1 (by decide)
  · have q := g y hy
    rw [Bool.and_eq_true, Bool.and_eq_true] at q
    have q := q.1.2
    rw [e] at q
    simpa using q
  · have q := g y hy
    rw [Bool.and_eq_true, Bool.and_eq_true] at q
    have q := q.2
    rw [e] at q
    have q : X.env.scope.names.lookup y.1 = some .cell ∨ X.env.scope.names.lookup y.1 = some .free := by simpa using q
    exact q
  · have q := List.all_eq_true.mp h2 p hp
    rw [Bool.and_eq_true] at q
    exact ⟨by simpa using q.1, by simpa using q.2⟩
inductive Kd (H : Hp) : V → String → Prop where
  | non : Kd H .non "NoneType"
  | bl (b : Bool) : Kd H (.bl b) "bool"
  | int (i : Int) : Kd H (.int i) "int"
  | str (z : Str) : Kd H (.str z) "str"
  | lst {a : Addr} {xs : List V} (e : H a = some (.lst xs)) : Kd H (.ref a) "list"
  | tup {a : Addr} {xs : List V} (e : H a = some (.tup xs)) : Kd H (.ref a) "tuple"
  | dK {a : Addr} {kvs : List (Key × V)} (e : H a = some (.dK kvs)) : Kd H (.ref a) "dict"
def kinds : List String := ["NoneType", "bool", "int", "str", "list", "tuple", "dict"]
def subT (k T : String) : Bool := k == T || (k == "bool" && T == "int")
theorem kit_ok (K : PySem.W.Frag) : ∀ k ∈ kinds, ∀ T ∈ ["str", "list", "tuple", "bool", "int", "dict"], PySem.W.kitOne K (.type k) (.type T) = some (subT k T) := by
  intro k hk T hT
  simp only [kinds, List.mem_cons, List.not_mem_nil, or_false] at hk hT
  rcases hk with rfl | rfl | rfl | rfl | rfl | rfl | rfl <;> rcases hT with rfl | rfl | rfl | rfl | rfl | rfl <;> first | rfl | kernel_rfl
theorem Kd.ty {K : PySem.W.Frag} {H : Hp} {x : V} {k : String} (h : Kd H x k) : TyOf K H x (.type k) ∧ k ∈ kinds := by
  cases h with
  | non => exact ⟨.non, by decide⟩
  | bl b => exact ⟨.bl b, by decide⟩
  | int i => exact ⟨.int i, by decide⟩
  | str z => exact ⟨.str z, by decide⟩
  | lst e => exact ⟨.lst e, by decide⟩
  | tup e => exact ⟨.tup e, by decide⟩
  | dK e => exact ⟨.dK e, by decide⟩
theorem Kd.same {H H' : Hp} {x : V} {k : String} (h : Kd H x k) (g : Same H H') : Kd H' x k := by
  cases h with
  | non => exact .non
  | bl b => exact .bl b
  | int i => exact .int i
  | str z => exact .str z
  | lst e => exact .lst (g _ _ e)
  | tup e => exact .tup (g _ _ e)
  | dK e => exact .dK (g _ _ e)
theorem Kd.inj {H : Hp} {x : V} {k k' : String} (h : Kd H x k) (h' : Kd H x k') : k = k' := by
  cases h with
  | lst e => cases h' with | lst _ => rfl | tup e' => rw [e] at e'; cases e' | dK e' => rw [e] at e'; cases e'
  | tup e => cases h' with | lst e' => rw [e] at e'; cases e' | tup _ => rfl | dK e' => rw [e] at e'; cases e'
  | dK e => cases h' with | lst e' => rw [e] at e'; cases e' | tup e' => rw [e] at e'; cases e' | dK _ => rfl
  | non => cases h'; rfl
  | bl _ => cases h'; rfl
  | int _ => cases h'; rfl
  | str _ => cases h'; rfl
theorem call_isk {X : Cx} : CallR X (.builtin "isinstance") (fun xs H Q => ∃ x T k, xs = [x, .ty T] ∧ Kd H x k ∧ T ∈ ["str", "list", "tuple", "bool", "int", "dict"] ∧ Q (.bl (subT k T)) H) := by
  intro pins s σ H xs us Q I r h
  obtain ⟨x, T, k, e, hk, hT, q⟩ := h
  obtain ⟨h1, h2⟩ := hk.ty (K := X.K)
  exact call_isinst pins s σ H xs us Q I r ⟨x, T, .type k, _, e, h1, kit_ok X.K k h2 T hT, q⟩
theorem same_upd {H : Hp} {p : Addr} (h : H p = none) (o : HO) : Same H (upd H p o) := fun b u q => by rw [upd_ne (ne_of_none q h)]; exact q
theorem Same.seqT {K : PySem.W.Frag} {H H' : Hp} {a : Addr} {xs : List V} (e : Same H H') (h : SqT K H a xs) : SqT K H' a xs := by
  rcases h with (h | ⟨o, h⟩) | h
  · exact .inl (.inl (e _ _ h))
  · exact .inl (.inr ⟨o, e _ _ h⟩)
  · exact .inr h
section
variable {H : Hp} {Q : VK} {v : V} {a : Option V} {r : St} {i : Nat}
theorem rd_st {t : TS} {D : Ends} {σ : St} (σ' : St) (e : σ = σ') (h : t D σ' H) : t D σ H := by rw [e]; exact h
theorem rd_v0 : tVar 0 (some v :: r) H Q = Q v H := by simp [tVar]
theorem rd_vS : tVar (i + 1) (a :: r) H Q = tVar i r H Q := rfl
theorem rd_ii {a b : Int} : (scal (.int a) (.int b) = true) = True := by simp [scal]
def cBody (tn : List Str) (cp : List (Nat × Str)) (g : TG) (tif : TT) (te : TE) (σ : St) (Q : VK) (J : It) (H1 : Hp) : Prop := ∀ D, H1 D = none → ∃ W : Nat → Nat → St → Hp → Prop,
  (∃ m, W 0 m (stB tn cp σ) (upd H1 D (.lst []))) ∧ ∀ i m σb Hb, W i m σb Hb →
    (J.stop i Hb ∧ Q (.ref D) Hb) ∨ (J.go i Hb ∧ ∀ x H', J.yld i Hb x H' → g x σb H' fun σ2 H2 => tif σ2 H2 fun c H3 =>
      if c = true then te σ2 H3 fun y H4 => ∃ ys, H4 D = some (.lst ys) ∧ ys.length < sizeLine ∧ ∃ m', m' < m ∧ W (i + 1) m' σ2 (upd H4 D (.lst (ys ++ [y])))
      else ∃ m', m' < m ∧ W (i + 1) m' σ2 H3)
theorem rd_comp {tn : List Str} {cp : List (Nat × Str)} {wi : TI} {g : TG} {tif : TT} {te : TE} {σ : St} : tComp tn cp wi g tif te σ H Q = wi σ H fun J H1 => cBody tn cp g tif te σ Q J H1 := rfl
def fBody (g : TG) (tb : TS) (D : Ends) (σ : St) (J : It) (H1 : Hp) : Prop := ∃ W : Nat → Nat → St → Hp → Prop, (∃ m, W 0 m σ H1) ∧ ∀ i m σ H, W i m σ H →
  (J.stop i H ∧ D.nx σ H) ∨ (J.go i H ∧ ∃ N : St → Hp → Prop, (∀ σ' H', N σ' H' → ∃ m', m' < m ∧ W (i + 1) m' σ' H') ∧ ∀ x H', J.yld i H x H' → g x σ H' fun σ2 H2 => tb { D with nx := N, ct := N, bk := D.nx } σ2 H2)
theorem rd_for {wi : TI} {g : TG} {tb : TS} {D : Ends} {σ : St} : tFor wi g tb D σ H = wi σ H fun J H1 => fBody g tb D σ J H1 := rfl
end
section
variable {tn : List Str} {cp : List (Nat × Str)} {g : TG} {tif : TT} {te : TE} {σ0 : St} {Q : VK} {H1 : Hp}
theorem cb_by {J : It} (n : Nat) (Pv : Addr → Nat → List V → St → Hp → Prop) (hn : n ≤ sizeLine) (h0 : ∀ D, H1 D = none → Pv D 0 [] (stB tn cp σ0) (upd H1 D (.lst [])))
    (hgo : ∀ D i ys σ H, H1 D = none → i < n → H D = some (.lst ys) → Pv D i ys σ H → J.go i H) (hstop : ∀ D ys σ H, H1 D = none → H D = some (.lst ys) → Pv D n ys σ H → J.stop n H)
    (hs : ∀ D i ys σ H x H', H1 D = none → i < n → H D = some (.lst ys) → ys.length ≤ i → Pv D i ys σ H → J.yld i H x H' → g x σ H' fun σ2 H2 => tif σ2 H2 fun c H3 =>
      if c = true then te σ2 H3 fun y H4 => CStep D n i (Pv D) σ2 y H4 else CSkip D n i (Pv D) σ2 H3)
    (hd : ∀ D ys σ H, H1 D = none → H D = some (.lst ys) → ys.length ≤ n → Pv D n ys σ H → Q (.ref D) H) : cBody tn cp g tif te σ0 Q J H1 := fun D hD =>
  comp_by (Pv D) hn (h0 D hD) (fun i ys σ H => hgo D i ys σ H hD) (fun ys σ H => hstop D ys σ H hD) (fun i ys σ H hi hH hl p x H' y => hs D i ys σ H x H' hD hi hH hl p y) (fun ys σ H => hd D ys σ H hD)
theorem cb_list {K : PySem.W.Frag} {a : Addr} {xs : List V} (Pv : Addr → Nat → List V → St → Hp → Prop) (hn : xs.length ≤ sizeLine) (h0 : ∀ D, H1 D = none → Pv D 0 [] (stB tn cp σ0) (upd H1 D (.lst [])))
    (hl : ∀ D i ys σ H, H1 D = none → i ≤ xs.length → H D = some (.lst ys) → Pv D i ys σ H → SqL K H a xs)
    (hs : ∀ D i ys σ H x, H1 D = none → i < xs.length → xs[i]? = some x → H D = some (.lst ys) → ys.length ≤ i → Pv D i ys σ H → g x σ H fun σ2 H2 => tif σ2 H2 fun c H3 =>
      if c = true then te σ2 H3 fun y H4 => CStep D xs.length i (Pv D) σ2 y H4 else CSkip D xs.length i (Pv D) σ2 H3)
    (hd : ∀ D ys σ H, H1 D = none → H D = some (.lst ys) → ys.length ≤ xs.length → Pv D xs.length ys σ H → Q (.ref D) H) : cBody tn cp g tif te σ0 Q (Itl K a) H1 := fun D hD =>
  comp_list (Pv D) hn (h0 D hD) (fun i ys σ H => hl D i ys σ H hD) (fun i ys σ H x => hs D i ys σ H x hD) (fun ys σ H => hd D ys σ H hD)
theorem cb_tup {K : PySem.W.Frag} {a : Addr} {xs : List V} (Pv : Addr → Nat → List V → St → Hp → Prop) (hn : xs.length ≤ sizeLine) (h0 : ∀ D, H1 D = none → Pv D 0 [] (stB tn cp σ0) (upd H1 D (.lst [])))
    (hl : ∀ D i ys σ H, H1 D = none → i ≤ xs.length → H D = some (.lst ys) → Pv D i ys σ H → SqT K H a xs)
    (hs : ∀ D i ys σ H x, H1 D = none → i < xs.length → xs[i]? = some x → H D = some (.lst ys) → ys.length ≤ i → Pv D i ys σ H → g x σ H fun σ2 H2 => tif σ2 H2 fun c H3 =>
      if c = true then te σ2 H3 fun y H4 => CStep D xs.length i (Pv D) σ2 y H4 else CSkip D xs.length i (Pv D) σ2 H3)
    (hd : ∀ D ys σ H, H1 D = none → H D = some (.lst ys) → ys.length ≤ xs.length → Pv D xs.length ys σ H → Q (.ref D) H) : cBody tn cp g tif te σ0 Q (Itt K a) H1 :=
  cb_by xs.length Pv hn h0 (fun D i ys σ H hD hi hH p => ⟨xs, xs[i], hl D i ys σ H hD (Nat.le_of_lt hi) hH p, by simp [hi]⟩) (fun D ys σ H hD hH p => ⟨xs, hl D _ ys σ H hD (Nat.le_refl _) hH p, Nat.le_refl _⟩) (fun D i ys σ H x H' hD hi hH hl' p y => by
    obtain ⟨e, y⟩ := y
    subst e
    exact hs D i ys σ _ x hD hi (y xs (hl D i ys σ _ hD (Nat.le_of_lt hi) hH p)) hH hl' p) hd
variable {tb : TS} {D : Ends}
theorem fb_list {K : PySem.W.Frag} {a : Addr} {xs : List V} (Pv : Nat → St → Hp → Prop) (h0 : Pv 0 σ0 H1) (hl : ∀ i σ H, i ≤ xs.length → Pv i σ H → SqL K H a xs)
    (hs : ∀ i x σ H, xs[i]? = some x → Pv i σ H → g x σ H fun σ2 H2 => tb { D with nx := Pv (i + 1), ct := Pv (i + 1), bk := D.nx } σ2 H2) (hd : ∀ σ H, Pv xs.length σ H → D.nx σ H) : fBody g tb D σ0 (Itl K a) H1 := for_list Pv h0 hl hs hd
theorem fb_tup {K : PySem.W.Frag} {a : Addr} {xs : List V} (Pv : Nat → St → Hp → Prop) (h0 : Pv 0 σ0 H1) (hl : ∀ i σ H, i ≤ xs.length → Pv i σ H → SqT K H a xs)
    (hs : ∀ i x σ H, xs[i]? = some x → Pv i σ H → g x σ H fun σ2 H2 => tb { D with nx := Pv (i + 1), ct := Pv (i + 1), bk := D.nx } σ2 H2) (hd : ∀ σ H, Pv xs.length σ H → D.nx σ H) : fBody g tb D σ0 (Itt K a) H1 := for_tup Pv h0 hl hs hd
theorem fb_range {lo : Int} {n : Nat} (Pv : Nat → St → Hp → Prop) (h0 : Pv 0 σ0 H1)
    (hs : ∀ i σ H, i < n → Pv i σ H → g (.int (lo + i)) σ H fun σ2 H2 => tb { D with nx := Pv (i + 1), ct := Pv (i + 1), bk := D.nx } σ2 H2) (hd : ∀ σ H, Pv n σ H → D.nx σ H) : fBody g tb D σ0 (Itr lo n) H1 := for_range Pv h0 hs hd
end
def cutL {α : Type} (xs : List α) (lo hi : Option Int) : List α := (xs.drop (HT.sIx xs.length 0 lo)).take (HT.sIx xs.length xs.length hi - HT.sIx xs.length 0 lo)
theorem atI_0 {α : Type} {c : α} {r : List α} : atI (c :: r) 0 = some c := atI_nat (j := 0) rfl
theorem small_line {n : Nat} (h : n ≤ 1000) : n ≤ sizeLine := Nat.le_of_lt (small1000 h)
theorem atI_mod {α : Type} {xs : List α} {i : Int} {n : Nat} (hn : xs.length = n) (h0 : 0 < n) : ∃ v, atI xs (i % (n : Int)) = some v ∧ v ∈ xs := by
  have h1 : 0 ≤ i % (n : Int) := Int.emod_nonneg _ (by omega)
  have h2 : i % (n : Int) < n := Int.emod_lt_of_pos _ (by omega)
  have h3 : (i % (n : Int)).toNat < xs.length := by omega
  refine ⟨xs[(i % (n : Int)).toNat], ?_, List.getElem_mem h3⟩
  have e : i % (n : Int) = (((i % (n : Int)).toNat : Nat) : Int) := by omega
  have q : atI xs (((i % (n : Int)).toNat : Nat) : Int) = some xs[(i % (n : Int)).toNat] := atI_nat (by simp)
  rw [← e] at q
  exact q
theorem hu_at {A : Around} {k : Nat} (hr : Room k A) (j : Nat) (h : j ≤ 64) : A.units + j < cLine := by have := hr.units; omega
section
variable {K : PySem.W.Frag} {h : Heap} {mg : Str → Option Value}
theorem dfn_mk {x : Str} {st : Stmt} {ps : List Str} {f : Addr} {oc : Value} {od an : Option Addr} {osl : Array (Option Value)} {kV doc pm cdv ct : Value} (X : K.In h) (G : h.Ns mainGlobals mg)
    (a : PySem.W.nsIn K mainGlobals x = some (some (.ref f))) (l : K.lookup f = some ⟨oc, od, .func (PySem.W.fnOf x x (defArgs st) (defBody st) (defScope st) .none kV doc pm an cdv ct), osl⟩)
    (c : PySem.W.codeIn K cdv x = true) (k : PySem.W.keepIn K (.ref f) = true)
    (hb : ∀ (kV doc pm : Value) (an : Option Addr) (cdv ct : Value) (us : List Value), us.length = ps.length → bindArgs (PySem.W.fnOf x x (defArgs st) (defBody st) (defScope st) .none kV doc pm an cdv ct) ⟨us, []⟩ = pure (ps.zip us)) : Dfn K mg x st ps :=
  ⟨f, _, fun_mk l c k, (fun_mk l c k).binds hb, PySem.W.mg_of X G a⟩
theorem law_mk {x y : Str} {st : Stmt} {f fa : Addr} {oc : Value} {od an : Option Addr} {osl : Array (Option Value)} {kV doc pm cdv ct : Value} (X : K.In h) (G : h.Ns mainGlobals mg) (hfa : mg x = some (.ref fa))
    (a : PySem.W.nsIn K mainGlobals x = some (some (.ref f))) (l : K.lookup f = some ⟨oc, od, .func (PySem.W.fnOf x x (defArgs st) (defBody st) (defScope st) .none kV doc pm an cdv ct), osl⟩)
    (c : PySem.W.codeIn K cdv x = true) (k : PySem.W.keepIn K (.ref f) = true) (hb : ∀ (s : Shared) (v : Value), BindsTo s (PySem.W.fnOf x x (defArgs st) (defBody st) (defScope st) .none kV doc pm an cdv ct) ⟨[v], []⟩ [(y, v)]) :
    ∃ fd : FuncData, (∀ (s : Shared) (v : Value), BindsTo s fd ⟨[v], []⟩ [(y, v)]) ∧ Fun K x x st fa fd := by
  have e := hfa.symm.trans (PySem.W.mg_of X G a)
  cases e
  exact ⟨_, hb, fun_mk l c k⟩
theorem glv_mk {x : Str} {u : Value} {v : V} (X : K.In h) (G : h.Ns mainGlobals mg) (a : PySem.W.nsIn K mainGlobals x = some (some u)) (r : RelV v u) : GlV mg x v := ⟨u, PySem.W.mg_of X G a, r⟩
end
section
variable {CX : CXT} {P : Program} {w : World} {K : PySem.W.Frag} {mg : Str → Option Value} {base : Heap} {N : List Str} {x : Str} {sc : Scope} {f : Addr} {cdv : Value} {A : Around} {outer : List Env} {s : Shared} {H : Hp} {E : XK}
theorem cxK : (cxOf CX P w K mg base N x sc f cdv A outer s H E).K = K := rfl
theorem cxP : (cxOf CX P w K mg base N x sc f cdv A outer s H E).prog = P := rfl
theorem cxW : (cxOf CX P w K mg base N x sc f cdv A outer s H E).w = w := rfl
end
section
variable {X : Cx} {st : Stmt} {rest : List Stmt} {t u : TS} {e : Expr} {te : TE}
def tCut (t u : TS) : TS := fun D σ H => ∃ Pv : St → Hp → Prop, t { D with nx := Pv } σ H ∧ ∀ σ' H', Pv σ' H' → u D σ' H'
theorem pss_cut (h1 : PS X st t) (h2 : PSs X rest u) : PSs X (st :: rest) (tCut t u) := by
  intro pins s σ H D I h
  obtain ⟨Pv, q1, q2⟩ := h
  refine wpAny_execs_cons (thn (h1 pins s σ H { D with nx := Pv } I q1) fun f s1 q => ?_)
  cases f with
  | next =>
    obtain ⟨σ', H', I', q⟩ := q
    exact h2 pins s1 σ' H' D I' (q2 σ' H' q)
  | ret v => exact q
  | brk => exact q
  | cont => exact q
theorem cut_by {D : Ends} {σ : St} {H : Hp} (Pv : St → Hp → Prop) (h1 : t { D with nx := Pv } σ H) (h2 : ∀ σ' H', Pv σ' H' → u D σ' H') : tCut t u D σ H := ⟨Pv, h1, h2⟩
end
local instance (priority := 10000) : BEq Key := instBEqOfDecidableEq
local instance (priority := 10000) : LawfulBEq Key := inferInstanceAs (LawfulBEq (Sum Int Str))
def onceK : List Key → List Key → List Key
  | acc, [] => acc
  | acc, k :: r => onceK (if k ∈ acc then acc else acc ++ [k]) r
theorem onceK_snoc : ∀ (ks acc : List Key) (k : Key), onceK acc (ks ++ [k]) = if k ∈ onceK acc ks then onceK acc ks else onceK acc ks ++ [k]
  | [], acc, k => rfl
  | j :: r, acc, k => onceK_snoc r _ k
theorem onceK_len : ∀ (ks acc : List Key), (onceK acc ks).length ≤ acc.length + ks.length
  | [], acc => Nat.le_refl _
  | k :: r, acc => by
    have h := onceK_len r (if k ∈ acc then acc else acc ++ [k])
    show (onceK (if k ∈ acc then acc else acc ++ [k]) r).length ≤ acc.length + (r.length + 1)
    split at h <;> rename_i c
    · rw [if_pos c]; omega
    · rw [if_neg c]
      rw [List.length_append, List.length_singleton] at h
      omega
section
variable {P : Program} {w : World} {A : Around} {R : Result → Shared → Prop} {it : Addr} {fp wr : List Addr} {G : Array GenState → Array GenState → Prop} {n : Nat} {Pv : Nat → Value → Prop} {St : Nat → Shared → Prop}
def SetIs (P : Program) (w : World) (h : Heap) (a : Addr) (ks : List Key) : Prop := h.SetOf (mixKind P w) a (fun k => decide (k ∈ onceK [] ks)) (onceK [] ks).length
theorem SetIs.kept {h h' : Heap} {a : Addr} {ks : List Key} (x : SetIs P w h a ks) (k : ∀ o, h.get? a = some o → h'.get? a = some o) : SetIs P w h' a ks := by
  obtain ⟨o, es, ep, t, ho, rest⟩ := x
  exact ⟨o, es, ep, t, k o ho, rest⟩
theorem scan_kV {k : Key} {v : Value} (h : (mixKind P w).is k v = true) : v.scannable = true := by
  rcases keyIs_shape h with ⟨i, t, rfl, rfl⟩ | ⟨x, t, rfl, rfl⟩ | ⟨c, rfl, rfl⟩ <;> rfl
theorem set_turns (W : WalksS P w A.in1 it fp wr G n Pv St) (a : Addr) (ha : a ∉ fp) (ks : List Key) (hn : ks.length = n) (hv : ∀ i v, Pv i v → ∀ k, ks[i]? = some k → (mixKind P w).is k v = true) (hb : n + 1 < scanBound) :
    ∀ (m i : Nat) (s : Shared), n - i = m → i ≤ n → St i s → SetIs P w s.heap a (ks.take i) → (∀ s', Moved (a :: wr) G s s' → SetIs P w s'.heap a ks → R (.ok (.ret .none)) s') →
      codeAny (model P w) A (.builtin "set.update.loop" ⟨[.ref a, .ref it], []⟩) R s := by
  have haw : a ∉ wr := fun h => ha (W.sub _ h)
  have up : ∀ b ∈ wr, b ∈ a :: wr := fun b h => List.mem_cons_of_mem _ h
  intro m
  induction m with
  | zero =>
    intro i s hm hi st x q
    obtain rfl : i = n := by omega
    rw [List.take_of_length_le (Nat.le_of_eq hn)] at x
    refine codeAny_builtin F.entry_set_update_loop ?_
    rw [Around.under_plainId F.plain_set_update_loop _]
    refine wpAny_bind (W.done s _ _ st fun s' mv => wpAny_pure (q s' (mv.mono up) (x.kept fun o e => mv.heap a _ haw e)))
  | succ m ih =>
    intro i s hm hi st x q
    have lt : i < n := by omega
    have hk : ks[i]? = some ks[i] := by simp [hn, lt]
    refine codeAny_builtin F.entry_set_update_loop ?_
    rw [Around.under_plainId F.plain_set_update_loop _]
    refine wpAny_bind (W.item i s _ _ lt st fun v s' pv st' mv => ?_)
    have is := hv i v pv _ hk
    have x' := x.kept (h' := s'.heap) fun o e => mv.heap a _ haw e
    refine wpAny_bind (m := holding [v] (setAdd a v)) (wpAny_holding ?_)
    unfold setAdd
    refine wpAny_holding (wpAny_bind ((mixKind P w).pyHash (k := ks[i]) is ?_))
    have room := onceK_len (ks.take i) []
    rw [List.length_take, List.length_nil] at room
    refine wpAny_setAddHashed_of (knd := mixKind P w) (s := { s' with toks := s'.toks + 1 }) is (scan_kV is) x' (by omega) fun h' sb x2 => ?_
    have x3 : SetIs P w h' a (ks.take (i + 1)) := by
      unfold SetIs
      rw [List.take_add_one, hk, Option.toList_some, onceK_snoc]
      refine SetOf_congr x2 (fun k' => ?_) ?_
      · by_cases c : ks[i] ∈ onceK [] (ks.take i)
        · rw [if_pos c]
          by_cases e : k' = ks[i]
          · subst e; simp [c]
          · simp [e]
        · rw [if_neg c]
          simp [List.mem_append]
      · by_cases c : ks[i] ∈ onceK [] (ks.take i)
        · rw [if_pos c]; simp [c]
        · rw [if_neg c]; simp [c]
    refine wpAny_pure ⟨plainId_quiet F.plain_set_update_loop _, ih (i + 1) _ (by omega) lt (W.frame _ s' _ _ st' (Nat.le_succ _) fun b hb o e => ?_) x3 fun s2 mv2 x4 => ?_⟩
    · rw [sb.2 b (fun h => ha (h ▸ hb))]; exact e
    · refine q s2 (Moved.trans W.gtrans ((mv.mono up).then_heap (Nat.le_succ _) fun b o hb e => ?_) mv2) x4
      rw [sb.2 b (fun h => hb (h ▸ List.mem_cons_self))]; exact e
end
section
variable {P : Program} {w : World} {A : Around} {E : Value → Shared → Prop} {s : Shared}
set_option maxHeartbeats 3200000 in
theorem set_of_list {l : Addr} {its : Array Value} {ks : List Key} {Q : Value → Shared → Prop} (hh : A.handled = none) (hl : s.heap.IsList l its) (hk : ks.length = its.size) (hi : ∀ (i : Nat) v k, its[i]? = some v → ks[i]? = some k → (mixKind P w).is k v = true)
    (hb : its.size + 1 < scanBound)
    (h : ∀ (h' : Heap) (tk : Nat), SetIs P w h' s.heap.objs.size ks → (∀ b o, b < s.heap.objs.size → s.heap.get? b = some o → h'.get? b = some o) → Q (.ref s.heap.objs.size) { s with heap := h', toks := tk }) :
    wpAny (model P w) A (call (.type "set") [.ref l]) Q E s := by
  obtain ⟨c, tl, hmro⟩ := F.called_set.mro
  have made := F.called_set.made
  have sub := F.called_set.sub
  refine wpAny_call (codeAny_of_tree (wpAny_pure ⟨Code.quiet_builtin _ (by decide +kernel), codeAny_builtin F.entry_type_call ?_⟩))
  rw [Around.under_plain (weight_type_call_type "set" [.ref l] []) rfl]
  have a1 := F.called_set.notType
  have a2 := F.called_set.canCreate
  have a3 := F.typeCall_set_1 (.ref l)
  repeat (any_goals (first | assumption | wp_step))
  refine codeAny_mono (code_set_new_1 (.ref l) (E := E) (Q₁ := fun obj s1 => ∃ led : Bool, obj = .ref s.heap.objs.size ∧ s1 = { s with heap := s.heap.push { cls := .type "set", dict := none, data := .set #[] 0 (.fresh 0 0 led) } }) fun led => ⟨led, rfl, rfl⟩) fun r s1 hr => ?_
  cases r with
  | error e => exact hr
  | ok fl =>
    cases fl with
    | ret obj =>
      obtain ⟨led, rfl, rfl⟩ := hr
      have at0 : (s.heap.push { cls := .type "set", dict := none, data := .set #[] 0 (.fresh 0 0 led) }).get? s.heap.objs.size = some { cls := .type "set", dict := none, data := .set #[] 0 (.fresh 0 0 led) } := Heap.get?_push_size _ rfl
      have ty : Shared.TypeIs { s with heap := s.heap.push { cls := .type "set", dict := none, data := .set #[] 0 (.fresh 0 0 led) } } (.ref s.heap.objs.size) "set" := ⟨_, at0, rfl⟩
      have i1 := F.called_set.init.lookup
      have i2 := F.called_set.init.bind (.ref s.heap.objs.size)
      repeat (any_goals (first | assumption | wp_step))
      refine codeAny_mono (codeAny_call_builtin (R := wants (fun r s2 => r = .none ∧ ∃ h' tk, s2 = { s with heap := h', toks := tk } ∧ SetIs P w h' s.heap.objs.size ks ∧
          (∀ b o, b < s.heap.objs.size → s.heap.get? b = some o → h'.get? b = some o)) E) F.called_set.init.plain F.entry_set_init (check_set_init_1 ty ?_)) fun r2 s2 hr2 => ?_
      · obtain ⟨ol, ho, hc, nl, hd⟩ := hl
        obtain ⟨oc, od, oda, osl⟩ := ol
        simp only at hc hd
        subst hc; subst hd
        have ho' : (s.heap.push { cls := .type "set", dict := none, data := .set #[] 0 (.fresh 0 0 led) }).get? l = some { cls := .type "list", dict := od, data := .seq its nl, slots := osl } := Heap.get?_push_of_some _ ho
        have b1 := F.sub_list_set
        have b2 := F.sub_list_frozenset
        have b3 : (Value.type "list" == Value.type "dict") = false := by decide
        have hl1 : (s.heap.push { cls := .type "set", dict := none, data := .set #[] 0 (.fresh 0 0 led) }).IsList l its := ⟨_, ho', rfl, nl, rfl⟩
        unfold Builtin.«set.__init__» noKeywords Builtin.Frozenset.updateFrom
        generalize hPI : pyIter = PI
        wp_walk
        subst hPI
        refine wpAny_pyIter_list hl1 ?_
        refine wpAny_bind (wpAny_runValue ?_)
        have ll : l < s.heap.objs.size := Heap.lt_size ho
        have h3 : A.in1.in1.in1.handled = none := by simp [hh]
        have ne : l ≠ (s.heap.push { cls := .type "set", dict := none, data := .set #[] 0 (.fresh 0 0 led) }).objs.size := by rw [Heap.size_push]; exact Nat.ne_of_lt (Nat.lt_succ_of_lt ll)
        have nf : s.heap.objs.size ∉ [(s.heap.push { cls := .type "set", dict := none, data := .set #[] 0 (.fresh 0 0 led) }).objs.size, l] := by
          rw [Heap.size_push]
          intro z
          rcases List.mem_cons.mp z with z | z
          · exact absurd z (Nat.ne_of_lt (Nat.lt_succ_self _))
          · exact absurd (List.mem_singleton.mp z) (Nat.ne_of_gt ll)
        refine set_turns ((Walks.list h3 _ l ne its).toS) s.heap.objs.size nf ks hk (fun i v pv k e => hi i v k pv e) hb (its.size - 0) 0 _ (by omega) (Nat.zero_le _) ⟨⟨_, Heap.get?_push_size _ rfl, rfl, rfl⟩, (hl1.push _)⟩ ?x0 ?q0
        case x0 =>
          refine SetIs.kept (h := s.heap.push { cls := .type "set", dict := none, data := .set #[] 0 (.fresh 0 0 led) }) ?_ fun o e => Heap.get?_push_of_some _ e
          rw [List.take_zero]
          exact SetOf_congr ((setObjOf_fresh (knd := mixKind P w) led).setOf at0 (by unfold scanBound; omega)) (fun _ => rfl) rfl
        case q0 =>
          intro s' mv x'
          obtain ⟨h', g', d', tk', os'⟩ := s'
          have eg : g' = s.gens := mv.gens
          have ed : d' = s.drawn := mv.drawn
          have eo : os' = s.os := mv.os
          subst eg; subst ed; subst eo
          refine wpAny_pure (wpAny_pure ⟨rfl, h', tk', rfl, x', fun b o hb e => mv.heap b o ?_ (Heap.get?_push_of_some _ (Heap.get?_push_of_some _ e))⟩)
          rw [Heap.size_push]
          intro z
          rcases List.mem_cons.mp z with z | z
          · exact absurd z (Nat.ne_of_lt hb)
          · exact absurd (List.mem_singleton.mp z) (Nat.ne_of_lt (Nat.lt_succ_of_lt hb))
      · cases r2 with
        | error e => exact hr2
        | ok f2 =>
          cases f2 with
          | ret r =>
            obtain ⟨rfl, h', tk, rfl, x', k'⟩ := hr2
            repeat (any_goals (first | assumption | wp_step))
            exact h _ _ x' k'
          | _ => exact hr2.elim
    | _ => exact hr.elim
end
structure New (H : Hp) (p : Addr) (o : HO) (H' : Hp) : Prop where
  nil : H p = none
  g : Same H H'
  at' : H' p = some o
  eq : H' = upd H p o
theorem New.mk' {H : Hp} {p : Addr} (h : H p = none) (o : HO) : New H p o (upd H p o) := ⟨h, same_upd h o, upd_same, rfl⟩
theorem New.lst {K : PySem.W.Frag} {H H' : Hp} {p : Addr} {xs : List V} (n : New H p (.lst xs) H') : SqL K H' p xs := .of n.at'
theorem Same.wr {H H' : Hp} {p : Addr} (g : Same H H') (h : H p = none) (o : HO) : Same H (upd H' p o) := fun b u e => by rw [upd_ne (ne_of_none e h)]; exact g b u e
section
variable {X : Cx} {e : Expr} {es : List Expr} {t : TA} {pos : Pos}
def tTupN (t : TA) : TE := fun σ H Q => t σ H fun xs H1 => xs.length ≤ sizeLine ∧ ∀ p H', New H1 p (.tup xs) H' → Q (.ref p) H'
def tLstN (t : TA) : TE := fun σ H Q => t σ H fun xs H1 => xs.length ≤ sizeLine ∧ ∀ p H', New H1 p (.lst xs) H' → Q (.ref p) H'
theorem pe_tupN {x1} (h : PA X es t) : PE X (.Tuple es x1 pos) (tTupN t) := by
  intro pins s σ H Q I hq
  refine wpAny_Tuple_spliced (thn (h pos pins s σ H _ I hq) fun us s1 ⟨xs, H1, I1, r, z, q⟩ => ⟨by rw [← r.length]; exact z, ?_⟩)
  refine ⟨.ref s1.heap.objs.size, upd H1 s1.heap.objs.size (.tup xs), I1.laid (t' := s1.toks) (fun b u e => Heap.get?_push_of_some _ e) (Nat.le_refl _) ?_, rfl, q _ _ (.mk' I1.fresh _)⟩
  exact ⟨z, us, r, ⟨_, Heap.get?_push_size _ rfl, rfl, _, rfl⟩⟩
theorem pe_lstN (h : PA X es t) : PE X (.List es pos) (tLstN t) := by
  intro pins s σ H Q I hq
  refine wpAny_List_spliced (thn (h pos pins s σ H _ I hq) fun us s1 ⟨xs, H1, I1, r, z, q⟩ => ⟨by rw [← r.length]; exact z, ?_⟩)
  refine ⟨.ref s1.heap.objs.size, upd H1 s1.heap.objs.size (.lst xs), I1.laid (t' := s1.toks) (fun b u e => Heap.get?_push_of_some _ e) (Nat.le_refl _) ?_, rfl, q _ _ (.mk' I1.fresh _)⟩
  exact ⟨z, us, 0, r, Heap.get?_push_size _ rfl⟩
def rSlLN (K : PySem.W.Frag) : V → Option Int → Option Int → Hp → VK → Prop := fun x lo hi H Q => ∃ a xs, x = .ref a ∧ SqL K H a xs ∧ ∀ p H', New H p (.lst (cutL xs lo hi)) H' → Q (.ref p) H'
theorem sl_listN : SlR X (rSlLN X.K) := fun pins s σ H x v vl vu lo hi sl Q I rx hs pl pu h => by
  obtain ⟨a, xs, e, hx, q⟩ := h
  exact sl_list pins s σ H x v vl vu lo hi sl Q I rx hs pl pu ⟨a, xs, e, hx, fun p np => q p _ (.mk' np _)⟩
theorem call_tuple_ofN : CallR X (.type "tuple") (fun xs H Q => ∃ p ys, xs = [.ref p] ∧ ((SqL X.K H p ys ∧ ∀ l H', New H l (.tup ys) H' → Q (.ref l) H') ∨ (SqT X.K H p ys ∧ Q (.ref p) H))) := fun pins s σ H xs us Q I r h => by
  obtain ⟨p, ys, e, hq⟩ := h
  refine call_tuple_of pins s σ H xs us Q I r ⟨p, ys, e, ?_⟩
  rcases hq with ⟨h1, q⟩ | h1
  · exact .inl ⟨h1, fun l nl => q l _ (.mk' nl _)⟩
  · exact .inr h1
end
section
variable {tn : List Str} {cp : List (Nat × Str)} {g : TG} {tif : TT} {te : TE} {σ0 : St} {Q : VK} {H1 : Hp} {K : PySem.W.Frag} {a : Addr} {xs : List V}
def PMap (S : St → Prop) (f : V → V) (xs : List V) (H1 : Hp) (i : Nat) (ys : List V) (σ : St) (H : Hp) : Prop := Same H1 H ∧ S σ ∧ ys = (xs.take i).map f
theorem cm_list (S : St → Prop) (f : V → V) (hn : xs.length ≤ 1000) (hS : SqL K H1 a xs) (h0 : S (stB tn cp σ0))
    (hs : ∀ D i σ H x, i < xs.length → x ∈ xs → xs[i]? = some x → Same H1 H → H1 D = none → H D = some (.lst ((xs.take i).map f)) → S σ → g x σ H fun σ2 H2 => tif σ2 H2 fun c H3 =>
      if c = true then te σ2 H3 fun y H4 => CStep D xs.length i (PMap S f xs H1) σ2 y H4 else CSkip D xs.length i (PMap S f xs H1) σ2 H3)
    (hd : ∀ D H, H1 D = none → Same H1 H → H D = some (.lst (xs.map f)) → Q (.ref D) H) : cBody tn cp g tif te σ0 Q (Itl K a) H1 := by
  refine cb_list (K := K) (a := a) (xs := xs) (fun D i ys σ H => PMap S f xs H1 i ys σ H) (small_line hn) (fun D hD => ⟨same_upd hD _, h0, rfl⟩) (fun D i ys σ H _ _ _ p => p.1.seq hS) ?_ ?_
  · rintro D i ys σ H x hD hi hx hH hl ⟨p1, p2, rfl⟩
    exact hs D i σ H x hi (List.mem_of_getElem? hx) hx p1 hD hH p2
  · rintro D ys σ H hD hH hl ⟨p1, p2, rfl⟩
    rw [List.take_of_length_le (Nat.le_refl _)] at hH
    exact hd D H hD p1 hH
theorem cm_tup (S : St → Prop) (f : V → V) (hn : xs.length ≤ 1000) (hS : SqT K H1 a xs) (h0 : S (stB tn cp σ0))
    (hs : ∀ D i σ H x, i < xs.length → x ∈ xs → xs[i]? = some x → Same H1 H → H1 D = none → H D = some (.lst ((xs.take i).map f)) → S σ → g x σ H fun σ2 H2 => tif σ2 H2 fun c H3 =>
      if c = true then te σ2 H3 fun y H4 => CStep D xs.length i (PMap S f xs H1) σ2 y H4 else CSkip D xs.length i (PMap S f xs H1) σ2 H3)
    (hd : ∀ D H, H1 D = none → Same H1 H → H D = some (.lst (xs.map f)) → Q (.ref D) H) : cBody tn cp g tif te σ0 Q (Itt K a) H1 := by
  refine cb_tup (K := K) (a := a) (xs := xs) (fun D i ys σ H => PMap S f xs H1 i ys σ H) (small_line hn) (fun D hD => ⟨same_upd hD _, h0, rfl⟩) (fun D i ys σ H _ _ _ p => p.1.seqT hS) ?_ ?_
  · rintro D i ys σ H x hD hi hx hH hl ⟨p1, p2, rfl⟩
    exact hs D i σ H x hi (List.mem_of_getElem? hx) hx p1 hD hH p2
  · rintro D ys σ H hD hH hl ⟨p1, p2, rfl⟩
    rw [List.take_of_length_le (Nat.le_refl _)] at hH
    exact hd D H hD p1 hH
theorem cm_step {S : St → Prop} {f : V → V} {D : Addr} {i : Nat} {x y : V} {σ2 : St} {H4 : Hp} (hn : xs.length ≤ 1000) (hx : xs[i]? = some x) (hD : H1 D = none) (h4 : H4 D = some (.lst ((xs.take i).map f))) (g4 : Same H1 H4) (s2 : S σ2) (e : y = f x) :
    CStep D xs.length i (PMap S f xs H1) σ2 y H4 := by
  have hi : i < xs.length := (List.getElem?_eq_some_iff.mp hx).1
  refine cstep (small_line hn) hi h4 (by rw [List.length_map, List.length_take]; omega) ⟨g4.wr hD _, s2, ?_⟩
  rw [List.take_add_one, hx, List.map_append, e]
  rfl
end
end L2
namespace SS
open PySem PySem.Spec PyProof.Rows L2
def Thing (H : Hp) (y : V) : Prop := (∃ k, Kd H y k) ∧ ∀ z, y = .str z → z.length ≤ 1000
theorem Thing.str {H : Hp} {z : Str} (h : z.length ≤ 1000) : Thing H (.str z) := ⟨⟨_, .str z⟩, fun z' e => by cases e; exact h⟩
theorem Thing.tup {H : Hp} {a : Addr} {xs : List V} (e : H a = some (.tup xs)) : Thing H (.ref a) := ⟨⟨_, .tup e⟩, fun z' e => by cases e⟩
def sp_cell (K : PySem.W.Frag) : Sp := fun vs H Q _ => ∃ (a : Addr) (ns : List Int) (k : Int), vs = [.ref a, .int k] ∧ SqL K H a (ns.map V.int) ∧ 0 ≤ k ∧ ∀ c, Q (.int c) H
theorem cutL_map {α β : Type} (f : α → β) (xs : List α) (lo hi : Option Int) : cutL (xs.map f) lo hi = (cutL xs lo hi).map f := by
  unfold cutL
  rw [List.length_map, List.map_take, List.map_drop]
end SS
namespace L2
open PySem PySem.Spec PyProof.Rows
section
variable {X : Cx} (K : PySem.W.Frag)
theorem op_notIn_seqK (h : X.K = K := by rfl) : OpR X (compareOp .NotIn) (rIn K true) := h ▸ op_notIn_seq
theorem ix_listK (h : X.K = K := by rfl) : IxR X (rIxL K) := h ▸ ix_list
theorem ix_tupK (h : X.K = K := by rfl) : IxR X (rIxT K) := h ▸ ix_tup
theorem sl_listNK (h : X.K = K := by rfl) : SlR X (rSlLN K) := h ▸ sl_listN
def rLen : List V → Hp → VK → Prop := fun xs H Q => ∃ p ys, xs = [.ref p] ∧ (SqL K H p ys ∨ SqT K H p ys) ∧ Q (.int (List.length ys)) H
theorem call_len_seqK (h : X.K = K := by rfl) : CallR X (.builtin "len") (rLen K) := h ▸ call_len_seq
def rAll : List V → Hp → VK → Prop := fun xs H Q => ∃ (p : Addr) (bs : List Bool), xs = [.ref p] ∧ SqL K H p (bs.map V.bl) ∧ Q (.bl (bs.all id)) H
theorem call_all_blK (hc : X.calm = true) (h : X.K = K := by rfl) : CallR X (.builtin "all") (rAll K) := h ▸ call_all_bl hc
def rAny : List V → Hp → VK → Prop := fun xs H Q => ∃ (p : Addr) (bs : List Bool), xs = [.ref p] ∧ SqL K H p (bs.map V.bl) ∧ Q (.bl (bs.any id)) H
theorem call_any_blK (hc : X.calm = true) (h : X.K = K := by rfl) : CallR X (.builtin "any") (rAny K) := h ▸ call_any_bl hc
def rSum : List V → Hp → VK → Prop := fun xs H Q => ∃ (p : Addr) (ns : List Int), xs = [.ref p] ∧ SqL K H p (ns.map V.int) ∧ Q (.int ns.sum) H
theorem call_sum_intK (hc : X.calm = true) (h : X.K = K := by rfl) : CallR X (.builtin "sum") (rSum K) := h ▸ call_sum_int hc
theorem pi_listK {tg l : Expr} {tl : TE} (hl : PE X l tl) (h : X.K = K := by rfl) : PI X tg l (iList K tl) := h ▸ pi_list hl
theorem pi_tupK {tg l : Expr} {tl : TE} (hl : PE X l tl) (h : X.K = K := by rfl) : PI X tg l (iTup K tl) := h ▸ pi_tup hl
variable {o e : Expr} {es : List Expr} {to : TE} {t : TA} {name : Str} {apos cpos : Pos} {T id : String} {r : V → List V → Hp → VK → Prop}
theorem pe_bmK (pa : PlainAttrs T) (slot : Slot T name id) (hty : typeOf (.builtin id) = pure (.type "method_descriptor")) (hm : MtR X id r) (ho : PE X o to) (ha : PA X (e :: es) t) (h : X.K = K := by rfl)
    (hbase : attributeBase o name X.env (eval o X.env) = eval o X.env := by rfl)
    (hfew : ((backTo cpos (starEach (e :: es) X.env)).all (fun x => !x.1) && (backToKw cpos (keywordEach [] X.env)).all (fun x => x.1.isSome)
      && decide ((e :: es).length + ([] : List Keyword).length + (if ([] : List Keyword).isEmpty then 0 else 1) < 30)) = true := by rfl)
    (hline : (apos.endLine == cpos.line) = true := by rfl) (h1 : notStar e = true := by rfl) (h2 : es.all notStar = true := by rfl) :
    PE X (.Call (.Attribute o name apos) (e :: es) [] cpos) (tBM K T r to t) := h ▸ pe_bm pa slot hty hm ho ha hbase hfew hline (star_cons h1) (star_any h2)
end
end L2
namespace SS
open PySem PySem.Spec PyProof.Rows L2
inductive Sy where
  | bare (w n m : Str)
  | neg (s : Sy)
  | two (w : Str) (s t : Sy)
  | qu (w n : Str) (s : Sy)
theorem Paired.at {α β : Type} {R : α → β → Prop} : ∀ {xs : List α} {ys : List β} {i : Nat} {x : α}, Paired R xs ys → xs[i]? = some x → ∃ y, ys[i]? = some y ∧ R x y
  | _, _, _, _, .nil, h => by simp at h
  | _, _, 0, _, .cons h _, e => by simp at e; subst e; exact ⟨_, rfl, h⟩
  | _, _, i + 1, _, .cons _ h, e => by simp only [List.getElem?_cons_succ] at e ⊢; exact Paired.at h e
theorem Paired.len {α β : Type} {R : α → β → Prop} : ∀ {xs : List α} {ys : List β}, Paired R xs ys → xs.length = ys.length
  | _, _, .nil => rfl
  | _, _, .cons _ h => by rw [List.length_cons, List.length_cons, Paired.len h]
end SS
namespace L2
open PySem PySem.Spec PyProof.Rows
section
variable {P : Program} {w : World} {A : Around} {E : Value → Shared → Prop} {s : Shared}
theorem nx_tup_item {j t : Addr} {k : Nat} {its : Array Value} {y : Value} {Q : Value → Shared → Prop} (st : s.heap.IsTupleIter j t k) (tp : s.heap.IsTuple t its) (hy : its[k]? = some y)
    (q : ∀ h', h'.IsTupleIter j t (k + 1) → Heap.SameBut j s.heap h' → Q y { s with heap := h' }) : wpAny (model P w) A (Builtin.SmallTypes.nextOf (.ref j)) Q E s := by
  obtain ⟨oj, gj, cj, dj⟩ := id st
  obtain ⟨ot, gt, _, nt, dt⟩ := tp
  unfold Builtin.SmallTypes.nextOf
  refine wpAny_bind (wpAny_callSpecial?_slot (name := Str.ofString "__next__") st.typeIs F.slot_tuple_iterator_next (wpAny_call_entry F.slot_tuple_iterator_next st.typeIs F.entry_tuple_iterator_next ?_ (F.args_tuple_iterator_next_1 _)))
  show wpAny _ _ (field (.ref j) 0 >>= _) _ _ s
  refine wpAny_bind (wpAny_field gj dj (x := .ref t) rfl ?_)
  show wpAny _ _ (if (Value.ref t == Value.none) = true then _ else _) _ _ s
  rw [if_neg (show ¬ (Value.ref t == Value.none) = true from Bool.false_ne_true)]
  show wpAny _ _ (field (.ref j) 1 >>= _) _ _ s
  refine wpAny_bind (wpAny_field gj dj (x := .int k 0) rfl ?_)
  show wpAny _ _ (seqItems? (.ref t) >>= _) _ _ s
  refine wpAny_bind (wpAny_seqItems gt dt ?_)
  simp only [Int.toNat_natCast, hy]
  refine wpAny_bind (wpAny_setField gj dj (by simp) (wpAny_pure ⟨y, rfl, wpAny_pure (q _ ?_ (Heap.SameBut.update ..))⟩))
  exact ⟨_, Heap.get?_update_self _ gj (Obj.isFreed_of_fields (Obj.data_mapFields dj _)), (Obj.cls_mapFields ..).trans cj, by rw [Obj.data_mapFields dj]; simp [rawInt]⟩
theorem nx_tup_end {j t : Addr} {k : Nat} {its : Array Value} {Q : Value → Shared → Prop} (hh : A.handled = none) (st : s.heap.IsTupleIter j t k) (tp : s.heap.IsTuple t its) (hy : its[k]? = none)
    (q : ∀ h' e, Heap.ExtBut j s.heap h' → (∃ o, h'.get? e = some o ∧ o.cls = .type "StopIteration") → E (.ref e) { s with heap := h' }) : wpAny (model P w) A (Builtin.SmallTypes.nextOf (.ref j)) Q E s := by
  obtain ⟨oj, gj, cj, dj⟩ := id st
  obtain ⟨ot, gt, _, nt, dt⟩ := tp
  unfold Builtin.SmallTypes.nextOf
  refine wpAny_bind (wpAny_callSpecial?_slot (name := Str.ofString "__next__") st.typeIs F.slot_tuple_iterator_next (wpAny_call_entry F.slot_tuple_iterator_next st.typeIs F.entry_tuple_iterator_next ?_ (F.args_tuple_iterator_next_1 _)))
  show wpAny _ _ (field (.ref j) 0 >>= _) _ _ s
  refine wpAny_bind (wpAny_field gj dj (x := .ref t) rfl ?_)
  show wpAny _ _ (if (Value.ref t == Value.none) = true then _ else _) _ _ s
  rw [if_neg (show ¬ (Value.ref t == Value.none) = true from Bool.false_ne_true)]
  show wpAny _ _ (field (.ref j) 1 >>= _) _ _ s
  refine wpAny_bind (wpAny_field gj dj (x := .int k 0) rfl ?_)
  show wpAny _ _ (seqItems? (.ref t) >>= _) _ _ s
  refine wpAny_bind (wpAny_seqItems gt dt ?_)
  simp only [Int.toNat_natCast, hy]
  refine wpAny_bind (wpAny_rule (wpAny_bind (wpAny_setField gj dj (by simp) ?_)))
  show wpAny _ _ (newExc (.type "StopIteration") [] >>= _) _ _ _
  refine wpAny_bind ?_
  simp only [newExc, newTuple]
  refine wpAny_bind (wpAny_newObj_type ?_ (by size_fits))
  refine wpAny_bind (m := firstArgMember _ _) (wpAny_of_eq (a := Value.none) (by simp only [firstArgMember]; rfl) ?_)
  refine wpAny_newObj_type ?_ (by size_fits)
  simp only [raiseNew]
  refine wpAny_bind (wpAny_handled ?_)
  rw [show A.in1.handled = none from hh]
  refine wpAny_bind (wpAny_pure (wpAny_throw (q _ _ (((Heap.SameBut.update ..).extBut.push _).push _) ⟨_, Heap.get?_push_size _ rfl, rfl⟩)))
end
structure ZipT (h : Heap) (z ti ro j1 j2 t1 t2 : Addr) (f0 : Value) (i : Nat) : Prop where
  z : IsZip h z ti ro f0
  ti : IsPair h ti (.ref j1) (.ref j2)
  ro : ∃ a b, IsPair h ro a b
  j1 : h.IsTupleIter j1 t1 i
  j2 : h.IsTupleIter j2 t2 i
abbrev zt1 (h : Heap) (a : Addr) : Heap := h.push { cls := .type "tuple_iterator", data := .fields #[.ref a, .int 0 0] }
abbrev zt2 (h : Heap) (a b : Addr) : Heap := (zt1 h a).push { cls := .type "tuple_iterator", data := .fields #[.ref b, .int 0 0] }
abbrev zt3 (h : Heap) (a b : Addr) : Heap := (zt2 h a b).push { cls := .type "tuple", data := .seq #[.ref h.objs.size, .ref (zt1 h a).objs.size] }
abbrev zt4 (h : Heap) (a b : Addr) : Heap := (zt3 h a b).push { cls := .type "tuple", data := .seq #[.none, .none] }
abbrev zt5 (h : Heap) (a b : Addr) : Heap := (zt4 h a b).push { cls := .type "zip", data := .fields #[.none, .bool false, .bool false, .ref (zt2 h a b).objs.size, .ref (zt3 h a b).objs.size] }
theorem zt_new (a b : Addr) (xs ys : Array Value) : Meets (Builtin.«zip.__new__» ⟨[.type "zip", .ref a, .ref b], []⟩) (fun _ R s => s.heap.IsTuple a xs ∧ s.heap.IsTuple b ys ∧ R (.ok (.ret (.ref (zt4 s.heap a b).objs.size))) { s with heap := zt5 s.heap a b }) :=
  .of_wp fun prog w A R s h => by
    obtain ⟨hp, g, d, tk, os⟩ := s
    obtain ⟨ha, hb, h⟩ := h
    have hsub := sub_zip
    have hA : Heap.IsTuple (Shared.heap ⟨hp, g, d, tk, os⟩) a xs := ha
    have hB : Heap.IsTuple (Shared.heap ⟨hp.push { cls := .type "tuple_iterator", data := .fields #[.ref a, .int 0 0] }, g, d, tk, os⟩) b ys := by
      obtain ⟨o, e, r⟩ := hb
      exact ⟨o, Heap.get?_push_of_some _ e, r⟩
    wp_walk using wpAny_pyIter_tuple hA, wpAny_pyIter_tuple hB
    exact ⟨_, rfl, h⟩
section
variable {P : Program} {w : World} {A : Around} {E : Value → Shared → Prop} {s : Shared}
theorem zt_call {a b : Addr} {xs ys : Array Value} {Q : Value → Shared → Prop} (ha : s.heap.IsTuple a xs) (hb : s.heap.IsTuple b ys)
    (q : ∀ h', ZipT h' (s.heap.objs.size + 4) (s.heap.objs.size + 2) (s.heap.objs.size + 3) s.heap.objs.size (s.heap.objs.size + 1) a b .none 0 → h'.objs.size = s.heap.objs.size + 5 → (∀ c o, s.heap.get? c = some o → h'.get? c = some o) → Q (.ref (s.heap.objs.size + 4)) { s with heap := h' }) :
    wpAny (model P w) A (call (.type "zip") [.ref a, .ref b]) Q E s := by
  refine callType_new F.called_zip (by decide) (F.typeCall_zip_2 _ _) (F.newCall_zip_2 _ _) (fun obj => F.args_object_init_3 obj _ _) F.entry_zip_new (zt_new a b xs ys) ⟨ha, hb, ?_⟩
  have s1 : (zt1 s.heap a).objs.size = s.heap.objs.size + 1 := Heap.size_push ..
  have s2 : (zt2 s.heap a b).objs.size = s.heap.objs.size + 2 := by rw [Heap.size_push, s1]
  have s3 : (zt3 s.heap a b).objs.size = s.heap.objs.size + 3 := by rw [Heap.size_push, s2]
  have s4 : (zt4 s.heap a b).objs.size = s.heap.objs.size + 4 := by rw [Heap.size_push, s3]
  have s5 : (zt5 s.heap a b).objs.size = s.heap.objs.size + 5 := by rw [Heap.size_push, s4]
  have k5 : (zt5 s.heap a b).get? (zt4 s.heap a b).objs.size = some _ := Heap.get?_push_size _ rfl
  have k4 : (zt5 s.heap a b).get? (zt3 s.heap a b).objs.size = some _ := Heap.get?_push_of_some _ (Heap.get?_push_size _ rfl)
  have k3 : (zt5 s.heap a b).get? (zt2 s.heap a b).objs.size = some _ := Heap.get?_push_of_some _ (Heap.get?_push_of_some _ (Heap.get?_push_size _ rfl))
  have k2 : (zt5 s.heap a b).get? (zt1 s.heap a).objs.size = some _ := Heap.get?_push_of_some _ (Heap.get?_push_of_some _ (Heap.get?_push_of_some _ (Heap.get?_push_size _ rfl)))
  have k1 : (zt5 s.heap a b).get? s.heap.objs.size = some _ := Heap.get?_push_of_some _ (Heap.get?_push_of_some _ (Heap.get?_push_of_some _ (Heap.get?_push_of_some _ (Heap.get?_push_size _ rfl))))
  rw [s2, s3, s4] at k5
  rw [s1, s2] at k3
  rw [s3] at k4
  rw [s1] at k2
  show _ ∧ _
  rw [s4]
  exact ⟨⟨_, k5, rfl⟩, q _ ⟨k5, k3, ⟨_, _, k4⟩, ⟨_, k1, rfl, rfl⟩, ⟨_, k2, rfl, rfl⟩⟩ s5 fun c o x => Heap.get?_push_of_some _ (Heap.get?_push_of_some _ (Heap.get?_push_of_some _ (Heap.get?_push_of_some _ (Heap.get?_push_of_some _ x))))⟩
end
section
variable {X : Cx} {pins : List (Addr × Obj)} {σ : St} {H : Hp} {s : Shared} {h' : Heap}
theorem Inv.turnedL {t' : Nat} {L : List Addr} (I : Inv X pins σ H s) (k : ∀ b o, b ∉ L → s.heap.get? b = some o → h'.get? b = some o) (hL : ∀ b ∈ L, FpOk X pins H b) : Inv X pins σ H { s with heap := h', toks := t' } := by
  have no : ∀ b u, H b = some u → b ∉ L := fun b u e z => by rw [(hL b z).1] at e; cases e
  refine I.step (g' := s.gens) (d' := s.drawn) (ch := L) (fun b hb => ?_) (fun b o _ _ hc e _ => k b o hc e) (fun b o _ _ hc e _ => ⟨o.slots, k b o hc e⟩) (fun _ _ _ _ n => n)
    (fun b o hc e => ⟨o, k b o hc e⟩) (fun _ _ e => e) (fun _ _ _ e => e) (fun _ _ _ e => e) (fun m hm => ?_) (fun b u e => ?_) I.bare
  · obtain ⟨_, f1, _, f3, f4, f5⟩ := hL b hb
    exact ⟨f3, f1, f4, f5⟩
  · obtain ⟨o, es, ep, ho, r⟩ := hm
    exact ⟨o, es, ep, k _ o (fun z => (hL _ z).2.1 rfl) ho, r⟩
  · refine (I.hok b u e).stay (fun c v hc q => k c v ?_ q) (fun _ q => q) (fun _ _ _ _ _ q => q) fun _ _ q => q
    rcases hc with z | z
    · rw [z]; exact no b u e
    · exact no c _ z
theorem Inv.turnedNew {t' : Nat} {L : List Addr} {p : Addr} {o : HO} (I : Inv X pins σ H s) (k : ∀ b u, b ∉ L → s.heap.get? b = some u → h'.get? b = some u) (hL : ∀ b ∈ L, FpOk X pins H b) (hp : s.heap.objs.size ≤ p) (new : ObjOk X.prog X.w (upd H p o) h' p o)
    (hl : ∀ b ∈ L, ∃ u, h'.get? b = some u) : Inv X pins σ (upd H p o) { s with heap := h', toks := t' } := by
  have hn : H p = none := I.hok.fresh hp
  have no : ∀ b u, H b = some u → b ∉ L := fun b u e z => by rw [(hL b z).1] at e; cases e
  have ne : ∀ b u, H b = some u → upd H p o b = some u := fun b u e => by rw [upd_ne (ne_of_none e hn)]; exact e
  refine I.step (g' := s.gens) (d' := s.drawn) (ch := L) (fun b hb => ?_) (fun b u _ _ hc e _ => k b u hc e) (fun b u _ _ hc e _ => ⟨u.slots, k b u hc e⟩) (fun b u _ e z => ?_)
    (fun b u hc e => ⟨u, k b u hc e⟩) (fun b xs e => ne b _ e) (fun b ob u e => ne b _ e) (fun b _ _ e => ne b _ e) (fun m hm => ?_) (fun b u e => ?_) I.bare
  · obtain ⟨_, f1, _, f3, f4, f5⟩ := hL b hb
    exact ⟨f3, f1, f4, f5⟩
  · rw [upd_ne (Nat.ne_of_lt (Nat.lt_of_lt_of_le (Heap.lt_size e) hp))]; exact z
  · obtain ⟨ob, es, ep, ho, r⟩ := hm
    exact ⟨ob, es, ep, k _ ob (fun z => (hL _ z).2.1 rfl) ho, r⟩
  · by_cases hb : b = p
    · subst hb; rw [upd_same] at e; cases e; exact new
    · rw [upd_ne hb] at e
      refine (I.hok b u e).stay (fun c v hc q => k c v ?_ q) (fun c q => ne c _ q) (fun c _ _ _ _ q => ne c _ q) fun c xs q => ne c _ q
      rcases hc with z | z
      · rw [z]; exact no b u e
      · exact no c _ z
end
theorem pg_tupK {X : Cx} (K : PySem.W.Frag) {es : List Expr} {k : Nat} {t : TGs} {n : Nat} {pos : Pos} (hc : X.calm = true) (h : PGs X es t) (hK : X.K = K := by rfl)
    (hn : (assignEach es X.env).length = n := by rfl) (hst : (assignEach es X.env).findIdx? (·.1) = none := by rfl) : PG X (.Tuple es k pos) (gTup K n t) := hK ▸ pg_tup hc h hn hst
section
variable {tn : List Str} {cp : List (Nat × Str)} {g : TG} {tif : TT} {te : TE} {σ0 : St} {Q : VK} {H1 : Hp} {K : PySem.W.Frag} {a : Addr} {xs : List V}
theorem ci_list (S : St → Prop) (f : Nat → V) (hn : xs.length ≤ 1000) (hS : SqL K H1 a xs) (h0 : S (stB tn cp σ0))
    (hs : ∀ D i σ H x, i < xs.length → xs[i]? = some x → Same H1 H → H1 D = none → H D = some (.lst ((List.range i).map f)) → S σ → g x σ H fun σ2 H2 => tif σ2 H2 fun c H3 =>
      if c = true then te σ2 H3 fun v H4 => CStep D xs.length i (fun i ws σ H => Same H1 H ∧ S σ ∧ ws = (List.range i).map f) σ2 v H4 else CSkip D xs.length i (fun i ws σ H => Same H1 H ∧ S σ ∧ ws = (List.range i).map f) σ2 H3)
    (hd : ∀ D H, H1 D = none → Same H1 H → H D = some (.lst ((List.range xs.length).map f)) → Q (.ref D) H) : cBody tn cp g tif te σ0 Q (Itl K a) H1 := by
  refine cb_list (K := K) (a := a) (xs := xs) (fun D i ws σ H => Same H1 H ∧ S σ ∧ ws = (List.range i).map f) (small_line hn) (fun D hD => ⟨same_upd hD _, h0, rfl⟩) (fun D i ys σ H _ _ _ p => p.1.seq hS) ?_ ?_
  · rintro D i ys σ H x hD hi hx hH hl ⟨p1, p2, rfl⟩
    exact hs D i σ H x hi hx p1 hD hH p2
  · rintro D ys σ H hD hH hl ⟨p1, p2, rfl⟩
    exact hd D H hD p1 hH
end
end L2
namespace SS
open PySem PySem.Spec PyProof.Rows L2
def Exp (H : Hp) : Nat → V → Prop
  | 0, v => Thing H v
  | n + 1, v => Thing H v ∧ ∀ a xs, v = .ref a → H a = some (.tup xs) → xs.length ≤ 1000 ∧ ∀ x ∈ xs, Exp H n x
end SS
set_option maxHeartbeats 1000000
namespace SS
open PySem PySem.Spec PyProof.Rows L2
inductive Lit where
  | str (z : Str)
  | oth
  | tnil
  | tcons (x r : Lit)
  deriving DecidableEq
def Oth (H : Hp) (v : V) : Prop := ∃ k, Kd H v k ∧ k ≠ "str" ∧ k ≠ "tuple"
def LitAt (H : Hp) : Lit → V → Prop
  | .str z, v => v = .str z ∧ z.length ≤ 1000
  | .oth, v => Oth H v
  | .tnil, v => ∃ a, v = .ref a ∧ H a = some (.tup [])
  | .tcons x r, v => ∃ a y ys, v = .ref a ∧ H a = some (.tup (y :: ys)) ∧ ys.length ≤ 100 ∧ LitAt H x y ∧ Items H r ys
where Items (H : Hp) : Lit → List V → Prop
  | .tcons x r, ys => ∃ z zs, ys = z :: zs ∧ LitAt H x z ∧ Items H r zs
  | .tnil, ys => ys = []
  | _, _ => False
abbrev Items := LitAt.Items
theorem Oth.same {H H' : Hp} {v : V} (g : Same H H') (h : Oth H v) : Oth H' v := let ⟨k, z, r⟩ := h; ⟨k, z.same g, r⟩
mutual
theorem LitAt.same {H H' : Hp} (g : Same H H') : ∀ {l : Lit} {v : V}, LitAt H l v → LitAt H' l v
  | .str z, _, h => h
  | .oth, _, h => Oth.same g h
  | .tnil, _, ⟨a, e, h⟩ => ⟨a, e, g _ _ h⟩
  | .tcons x r, _, ⟨a, y, ys, e, h, hl, h1, h2⟩ => ⟨a, y, ys, e, g _ _ h, hl, LitAt.same g h1, Items.same g h2⟩
theorem Items.same {H H' : Hp} (g : Same H H') : ∀ {l : Lit} {ys : List V}, Items H l ys → Items H' l ys
  | .tcons x r, _, ⟨z, zs, e, h1, h2⟩ => ⟨z, zs, e, LitAt.same g h1, Items.same g h2⟩
  | .tnil, _, h => h
  | .str _, _, h => h
  | .oth, _, h => h
end
theorem LitAt.thing {H : Hp} : ∀ {l : Lit} {v : V}, LitAt H l v → Thing H v
  | .str z, _, ⟨e, h⟩ => by subst e; exact .str h
  | .oth, v, ⟨k, h, h1, _⟩ => ⟨⟨k, h⟩, fun z e => by subst e; cases h; exact absurd rfl h1⟩
  | .tnil, _, ⟨a, e, h⟩ => by subst e; exact .tup h
  | .tcons x r, _, ⟨a, y, ys, e, h, _, _, _⟩ => by subst e; exact .tup h
mutual
theorem LitAt.exp {H : Hp} : ∀ (n : Nat) {l : Lit} {v : V}, LitAt H l v → Exp H n v
  | 0, _, _, h => h.thing
  | n + 1, .str z, _, h => ⟨h.thing, fun a xs e _ => by rw [h.1] at e; cases e⟩
  | n + 1, .oth, v, h => ⟨h.thing, fun a xs e e' => by
    subst e
    obtain ⟨k, hk, _, h2⟩ := h
    exact absurd (hk.inj (.tup e')) h2⟩
  | n + 1, .tnil, _, h => ⟨h.thing, fun a xs e e' => by
    obtain ⟨a', e1, e2⟩ := h
    rw [e] at e1
    cases e1
    rw [e2] at e'
    cases e'
    exact ⟨Nat.zero_le _, fun x hx => nomatch hx⟩⟩
  | n + 1, .tcons x r, _, h => ⟨h.thing, fun a xs e e' => by
    obtain ⟨a', y, ys, e1, e2, hl, h1, h2⟩ := h
    rw [e] at e1
    cases e1
    rw [e2] at e'
    cases e'
    refine ⟨by rw [List.length_cons]; omega, fun x' hx => ?_⟩
    rcases List.mem_cons.mp hx with rfl | hx
    · exact LitAt.exp n h1
    · exact Items.exp n h2 x' hx⟩
theorem Items.exp {H : Hp} : ∀ (n : Nat) {l : Lit} {ys : List V}, Items H l ys → ∀ y ∈ ys, Exp H n y
  | n, .tcons x r, _, ⟨z, zs, e, h1, h2⟩, y, hy => by
    subst e
    rcases List.mem_cons.mp hy with rfl | hy
    · exact LitAt.exp n h1
    · exact Items.exp n h2 y hy
  | n, .tnil, _, h, y, hy => by rw [show _ = [] from h] at hy; exact nomatch hy
  | n, .str _, _, h, y, hy => False.elim h
  | n, .oth, _, h, y, hy => False.elim h
end
end SS
namespace L2
open PySem PySem.Spec PyProof.Rows
variable {X : Cx}
section
variable {X : Cx} {k : Nat} {H : Hp} {a b : Addr} {xs ys : List V}
theorem eqV_int (a b : Int) : eqV (.int a) (.int b) = decide (a = b) := by
  by_cases h : a = b
  · subst h; simp [eqV]
  · simp [eqV, h]
theorem all_eqi : ∀ (xs ys : List Int), (xs.length == ys.length && (List.range xs.length).all fun j => eqV ((xs.map V.int).getD j .non) ((ys.map V.int).getD j .non)) = decide (xs = ys)
  | [], [] => rfl
  | [], y :: ys => by simp
  | x :: xs, [] => by simp
  | x :: xs, y :: ys => by
    have ih := all_eqi xs ys
    have e : (List.range (x :: xs).length).all (fun j => eqV (((x :: xs).map V.int).getD j .non) (((y :: ys).map V.int).getD j .non)) =
        (decide (x = y) && (List.range xs.length).all fun j => eqV ((xs.map V.int).getD j .non) ((ys.map V.int).getD j .non)) := by
      rw [List.length_cons, List.range_succ_eq_map, List.all_cons, List.all_map]
      exact congrArg (· && _) (eqV_int x y)
    rw [e]
    have e2 : ((x :: xs).length == (y :: ys).length) = (xs.length == ys.length) := by simp
    rw [e2]
    by_cases hx : x = y
    · subst hx
      rw [decide_eq_true rfl, Bool.true_and, ih]
      simp
    · rw [decide_eq_false hx, Bool.false_and, Bool.and_false]
      simp [hx]
theorem flats_int (xs : List Int) : (xs.map V.int).all flatV = true := by
  rw [List.all_eq_true]
  intro x hx
  obtain ⟨z, _, rfl⟩ := List.mem_map.mp hx
  rfl
def rNeI (K : PySem.W.Frag) : R2 := fun x y H Q => ∃ (a b : Addr) (xs ys : List Int), x = .ref a ∧ y = .ref b ∧ SqL K H a (xs.map V.int) ∧ SqL K H b (ys.map V.int) ∧ Q (.bl (!decide (xs = ys))) H
theorem op_neI (hu : X.A.units + 8 < cLine) : OpR X (compareOp .NotEq) (rNeI X.K) := by
  intro pins s σ H x y v u Q I rx ry h
  obtain ⟨a, b, xs, ys, rfl, rfl, h1, h2, q⟩ := h
  cases (show v = Value.ref a from rx)
  cases (show u = Value.ref b from ry)
  obtain ⟨us, r1, p1, _⟩ := I.list h1
  obtain ⟨vs, r2, p2, _⟩ := I.list h2
  have l1 := r1.length
  have l2 := r2.length
  have hu' : X.A.units < cLine := by omega
  by_cases hl : us.length = vs.length
  · have z := SeqAt.RcNeAt.lists (A := X.A) (s := s) (e := fun j => eqV ((xs.map V.int).getD j .non) ((ys.map V.int).getD j .non)) p1.isList p2.isList (by rw [List.size_toArray, List.size_toArray]; exact hl) hu' fun j h1 h2 => by
      rw [List.size_toArray] at h1 h2
      obtain ⟨g1, q1⟩ := r1.at h1
      obtain ⟨g2, q2⟩ := r2.at h2
      have e1 : (xs.map V.int).getD j .non = (xs.map V.int)[j] := by rw [List.getD_eq_getElem?_getD, List.getElem?_eq_getElem g1]; rfl
      have e2 : (ys.map V.int).getD j .non = (ys.map V.int)[j] := by rw [List.getD_eq_getElem?_getD, List.getElem?_eq_getElem g2]; rfl
      rw [e1, e2]
      refine eqAt_V (by simpa using q1) (by simpa using q2) ?_ ?_
      · exact List.all_eq_true.mp (flats_int xs) _ (List.getElem_mem g1)
      · exact List.all_eq_true.mp (flats_int ys) _ (List.getElem_mem g2)
    have e := all_eqi xs ys
    rw [List.length_map] at l1 l2
    rw [show (xs.length == ys.length) = true by simp; omega, Bool.true_and] at e
    rw [List.size_toArray, ← l1, e] at z
    exact z _ _ _ _ ⟨.bl (!decide (xs = ys)), H, I, rfl, q⟩
  · have z := SeqAt.RcNeAt.lists_lengths (A := X.A) (s := s) p1.isList p2.isList (by rw [List.size_toArray, List.size_toArray]; simpa using hl) hu'
    have e : decide (xs = ys) = false := decide_eq_false fun h => by rw [h, List.length_map] at l1; rw [List.length_map] at l2; omega
    rw [e] at q
    exact z _ _ _ _ ⟨.bl true, H, I, rfl, q⟩
variable (K : PySem.W.Frag)
theorem op_neIK (hu : X.A.units + 8 < cLine) (h : X.K = K := by rfl) : OpR X (compareOp .NotEq) (rNeI K) := h ▸ op_neI hu
end
section
variable {tn : List Str} {cp : List (Nat × Str)} {g : TG} {tif : TT} {te : TE} {σ0 : St} {Q : VK} {H1 : Hp} {lo : Int} {n : Nat}
def PRng (S : St → Prop) (f : Nat → V) (H1 : Hp) (i : Nat) (ys : List V) (σ : St) (H : Hp) : Prop := Same H1 H ∧ S σ ∧ ys = (List.range i).map f
theorem cr_map (S : St → Prop) (f : Nat → V) (hn : n ≤ 1000) (h0 : S (stB tn cp σ0))
    (hs : ∀ D i σ H, i < n → Same H1 H → H1 D = none → H D = some (.lst ((List.range i).map f)) → S σ → g (.int (lo + i)) σ H fun σ2 H2 => tif σ2 H2 fun c H3 =>
      if c = true then te σ2 H3 fun v H4 => CStep D n i (PRng S f H1) σ2 v H4 else CSkip D n i (PRng S f H1) σ2 H3)
    (hd : ∀ D H, H1 D = none → Same H1 H → H D = some (.lst ((List.range n).map f)) → Q (.ref D) H) : cBody tn cp g tif te σ0 Q (Itr lo n) H1 := by
  refine cb_by n (fun D => PRng S f H1) (small_line hn) (fun D hD => ⟨same_upd hD _, h0, rfl⟩) (fun D i ys σ H _ hi _ _ => hi) (fun D ys σ H _ _ _ => Nat.le_refl _) ?_ ?_
  · rintro D i ys σ H x H' hD hi hH hl ⟨p1, p2, rfl⟩ ⟨rfl, rfl⟩
    exact hs D i σ _ hi p1 hD hH p2
  · rintro D ys σ H hD hH hl ⟨p1, p2, rfl⟩
    exact hd D H hD p1 hH
theorem cr_step {S : St → Prop} {f : Nat → V} {D : Addr} {i : Nat} {v : V} {σ2 : St} {H4 : Hp} (hn : n ≤ 1000) (hi : i < n) (hD : H1 D = none) (h4 : H4 D = some (.lst ((List.range i).map f))) (g4 : Same H1 H4) (s2 : S σ2) (e : v = f i) : CStep D n i (PRng S f H1) σ2 v H4 := by
  subst e
  refine cstep (small_line hn) hi h4 (by simp) ⟨g4.wr hD _, s2, ?_⟩
  rw [List.range_succ, List.map_append]
  rfl
theorem ca_range (S : St → Prop) (G : V → Prop) (hn : n ≤ 1000) (h0 : S (stB tn cp σ0))
    (hs : ∀ D i ys σ H, i < n → Same H1 H → H1 D = none → H D = some (.lst ys) → ys.length = i → (∀ y ∈ ys, G y) → S σ → g (.int (lo + i)) σ H fun σ2 H2 => tif σ2 H2 fun c H3 =>
      if c = true then te σ2 H3 fun v H4 => CStep D n i (fun i ys σ H => Same H1 H ∧ S σ ∧ ys.length = i ∧ ∀ y ∈ ys, G y) σ2 v H4 else CSkip D n i (fun i ys σ H => Same H1 H ∧ S σ ∧ ys.length = i ∧ ∀ y ∈ ys, G y) σ2 H3)
    (hd : ∀ D ys H, H1 D = none → Same H1 H → H D = some (.lst ys) → ys.length = n → (∀ y ∈ ys, G y) → Q (.ref D) H) : cBody tn cp g tif te σ0 Q (Itr lo n) H1 := by
  refine cb_by n (fun D i ys σ H => Same H1 H ∧ S σ ∧ ys.length = i ∧ ∀ y ∈ ys, G y) (small_line hn) (fun D hD => ⟨same_upd hD _, h0, rfl, fun _ h => (nomatch h)⟩) (fun D i ys σ H _ hi _ _ => hi) (fun D ys σ H _ _ _ => Nat.le_refl _) ?_ ?_
  · rintro D i ys σ H x H' hD hi hH hl ⟨p1, p2, p3, p4⟩ ⟨rfl, rfl⟩
    exact hs D i ys σ _ hi p1 hD hH p3 p4 p2
  · rintro D ys σ H hD hH hl ⟨p1, p2, p3, p4⟩
    exact hd D ys H hD p1 hH p3 p4
theorem ca_step {S : St → Prop} {G : V → Prop} {D : Addr} {i : Nat} {ys : List V} {v : V} {σ2 : St} {H4 : Hp} (hn : n ≤ 1000) (hi : i < n) (hD : H1 D = none) (h4 : H4 D = some (.lst ys)) (hl : ys.length = i) (hy : ∀ y ∈ ys, G y) (g4 : Same H1 H4) (s2 : S σ2) (e : G v) :
    CStep D n i (fun i ys σ H => Same H1 H ∧ S σ ∧ ys.length = i ∧ ∀ y ∈ ys, G y) σ2 v H4 := by
  refine cstep (small_line hn) hi h4 (by omega) ⟨g4.wr hD _, s2, by simp [hl], fun y my => ?_⟩
  rcases List.mem_append.mp my with h | h
  · exact hy y h
  · rw [List.mem_singleton.mp h]; exact e
end
def TupS (H H' : Hp) : Prop := ∀ b xs, H b = some (.tup xs) → H' b = some (.tup xs)
theorem Same.tups {H H' : Hp} (g : Same H H') : TupS H H' := fun b xs e => g b _ e
theorem TupS.refl (H : Hp) : TupS H H := fun _ _ e => e
theorem TupS.trans {H H1 H2 : Hp} (a : TupS H H1) (b : TupS H1 H2) : TupS H H2 := fun c xs e => b c xs (a c xs e)
theorem TupS.wr {H : Hp} {p : Addr} {xs : List V} (h : H p = some (.lst xs)) (o : HO) : TupS H (upd H p o) := fun b ys e => by rw [upd_ne (ne_of e h (by intro z; cases z))]; exact e
end L2
namespace SM
structure Mc where
  w : Nat
  ways : List (List Nat)
  ends : List Bool
structure Mc.Ok (m : Mc) : Prop where
  wid : m.w ≤ 4
  pos : 0 < m.ends.length
  few : m.ends.length ≤ 100
  len : m.ways.length = m.ends.length
  line : ∀ l ∈ m.ways, l.length = 2 ^ m.w
  room : ∀ l ∈ m.ways, ∀ r ∈ l, r < m.ends.length
abbrev Mc.n (m : Mc) : Nat := m.ends.length
def Mc.go (m : Mc) (r l : Nat) : Nat := (m.ways.getD r []).getD l 0
def Mc.fin (m : Mc) (r : Nat) : Bool := m.ends.getD r false
theorem Mc.Ok.at {m : Mc} (ok : m.Ok) {r l : Nat} (hr : r < m.ends.length) (hl : l < 2 ^ m.w) : ∃ line, m.ways[r]? = some line ∧ line[l]? = some (m.go r l) ∧ m.go r l < m.ends.length := by
  have h1 : r < m.ways.length := by rw [ok.len]; exact hr
  have e1 : m.ways[r]? = some m.ways[r] := List.getElem?_eq_getElem h1
  have h2 : l < m.ways[r].length := by rw [ok.line _ (List.getElem_mem h1)]; exact hl
  have e2 : m.ways[r][l]? = some m.ways[r][l] := List.getElem?_eq_getElem h2
  have eg : m.go r l = m.ways[r][l] := by
    simp only [Mc.go, List.getD_eq_getElem?_getD, e1, Option.getD_some, e2]
  exact ⟨_, e1, by rw [eg]; exact e2, by rw [eg]; exact ok.room _ (List.getElem_mem h1) _ (List.getElem_mem h2)⟩
theorem Mc.Ok.go_lt {m : Mc} (ok : m.Ok) {r l : Nat} (hr : r < m.n) (hl : l < 2 ^ m.w) : m.go r l < m.n := let ⟨_, _, _, h⟩ := ok.at hr hl; h
theorem Mc.fin_at {m : Mc} {r : Nat} (hr : r < m.ends.length) : m.ends[r]? = some (m.fin r) := by
  unfold Mc.fin
  rw [List.getD_eq_getElem?_getD, List.getElem?_eq_getElem hr, Option.getD_some]
def Mc.run (m : Mc) (r : Nat) (row : List Nat) : Nat := row.foldl m.go r
theorem Mc.run_snoc (m : Mc) (r : Nat) (row : List Nat) (l : Nat) : m.run r (row ++ [l]) = m.go (m.run r row) l := by unfold Mc.run; rw [List.foldl_append]; rfl
theorem Mc.run_cons (m : Mc) (r l : Nat) (row : List Nat) : m.run r (l :: row) = m.run (m.go r l) row := rfl
theorem pow_nat (n : Nat) : (2 : Int) ^ n = ((2 ^ n : Nat) : Int) := by
  induction n with
  | zero => rfl
  | succ n ih => rw [Int.pow_succ, Nat.pow_succ, ih]; omega
theorem pow_small {w : Nat} (h : w ≤ 4) : 1 ≤ 2 ^ w ∧ 2 ^ w ≤ 16 := by
  have : w = 0 ∨ w = 1 ∨ w = 2 ∨ w = 3 ∨ w = 4 := by omega
  rcases this with rfl | rfl | rfl | rfl | rfl <;> decide
theorem shl_small {i wd : Int} (h0 : 0 ≤ i) (h1 : i ≤ 1000) (hw : wd ≤ 4) : 0 ≤ i * 2 ^ wd.toNat ∧ i * 2 ^ wd.toNat ≤ 16000 := by
  have : wd.toNat = 0 ∨ wd.toNat = 1 ∨ wd.toNat = 2 ∨ wd.toNat = 3 ∨ wd.toNat = 4 := by omega
  rcases this with e | e | e | e | e <;> rw [e] <;> constructor <;> omega
def Mc.Row (m : Mc) (row : List Nat) : Prop := ∀ l ∈ row, l < 2 ^ m.w
def Par (m : Mc) (r : Nat) (m' : Mc) (r' : Nat) : Prop := ∀ row, m.Row row → m.fin (m.run r row) = m'.fin (m'.run r' row)
theorem Mc.Row.cons {m : Mc} {l : Nat} {row : List Nat} (hl : l < 2 ^ m.w) (h : m.Row row) : m.Row (l :: row) := fun x hx => by
  rcases List.mem_cons.mp hx with rfl | hx
  · exact hl
  · exact h x hx
theorem Mc.Row.nil (m : Mc) : m.Row [] := fun _ h => nomatch h
theorem Par.go {m m' : Mc} {r r' l : Nat} (h : Par m r m' r') (hl : l < 2 ^ m.w) : Par m (m.go r l) m' (m'.go r' l) := fun row hr => h (l :: row) (hr.cons hl)
theorem Par.symm {m m' : Mc} {r r' : Nat} (h : Par m r m' r') (hw : m.w = m'.w) : Par m' r' m r := fun row hr => (h row fun l hl => by rw [hw]; exact hr l hl).symm
theorem Par.trans {m m' m'' : Mc} {r r' r'' : Nat} (h : Par m r m' r') (h' : Par m' r' m'' r'') (hw : m.w = m'.w) : Par m r m'' r'' := fun row hr => (h row hr).trans (h' row fun l hl => by rw [← hw]; exact hr l hl)
theorem Par.fin {m m' : Mc} {r r' : Nat} (h : Par m r m' r') : m.fin r = m'.fin r' := h [] (Mc.Row.nil m)
theorem Par.of {m m' : Mc} (R : Nat → Nat → Prop) (hf : ∀ r r', R r r' → m.fin r = m'.fin r') (hg : ∀ r r' l, R r r' → l < 2 ^ m.w → R (m.go r l) (m'.go r' l)) {r r' : Nat} (h : R r r') : Par m r m' r' := fun row => by
  induction row generalizing r r' with
  | nil => exact fun _ => hf r r' h
  | cons l row ih => exact fun hr => ih (hg r r' l h (hr l List.mem_cons_self)) fun x hx => hr x (List.mem_cons_of_mem _ hx)
def Lex (r' l' r l : Nat) : Prop := r' < r ∨ (r' = r ∧ l' < l)
structure Mc.Ord (m : Mc) : Prop where
  grow : ∀ r l b, r < m.n → l < 2 ^ m.w → 0 < b → b < m.go r l → ∃ r' l', l' < 2 ^ m.w ∧ Lex r' l' r l ∧ m.go r' l' = b
  par : ∀ b, 0 < b → b < m.n → ∃ r' l', r' < b ∧ l' < 2 ^ m.w ∧ m.go r' l' = b
structure Canon (m : Mc) : Prop where
  ord : m.Ord
  dist : ∀ i j, i < m.n → j < m.n → Par m i m j → i = j
theorem canon_side {m1 m2 : Mc} (hw : m1.w = m2.w) (c2 : Canon m2) (root : Par m1 0 m2 0) {r l : Nat} (hr2 : r < m2.n) (h2 : m2.Ok) (hl : l < 2 ^ m1.w) (pr : Par m1 r m2 r)
    (IH : ∀ r', r' < r → Par m1 r' m2 r' ∧ ∀ l, l < 2 ^ m1.w → m1.go r' l = m2.go r' l) (il : ∀ l', l' < l → m1.go r l' = m2.go r l') (h : m1.go r l < m2.go r l) : False := by
  have hl2 : l < 2 ^ m2.w := by rw [← hw]; exact hl
  have hb := h2.go_lt hr2 hl2
  have pab := pr.go hl
  have fin : Par m1 (m1.go r l) m2 (m1.go r l) → False := fun p => by
    have q := (p.symm hw).trans pab hw.symm
    have := c2.dist _ _ (by omega) hb q
    omega
  by_cases h0 : m1.go r l = 0
  · rw [h0] at fin; exact fin root
  · obtain ⟨r', l', hl', lx, e⟩ := c2.ord.grow r l (m1.go r l) hr2 hl2 (by omega) h
    rw [← hw] at hl'
    rcases lx with hlt | ⟨rfl, hlt⟩
    · obtain ⟨p, q⟩ := IH r' hlt
      have z := p.go hl'
      rw [q l' hl', e] at z
      exact fin z
    · have z := pr.go hl'
      rw [il l' hlt, e] at z
      exact fin z
theorem canon_steps {m1 m2 : Mc} (hw : m1.w = m2.w) (o1 : m1.Ok) (o2 : m2.Ok) (c1 : Canon m1) (c2 : Canon m2) (root : Par m1 0 m2 0) (r : Nat) (h1 : r < m1.n) (h2 : r < m2.n) : Par m1 r m2 r ∧ ∀ l, l < 2 ^ m1.w → m1.go r l = m2.go r l := by
  induction r using Nat.strongRecOn with
  | _ r ih =>
    have IH : ∀ r', r' < r → Par m1 r' m2 r' ∧ ∀ l, l < 2 ^ m1.w → m1.go r' l = m2.go r' l := fun r' h => ih r' h (by omega) (by omega)
    have pr : Par m1 r m2 r := by
      by_cases h0 : r = 0
      · subst h0; exact root
      · obtain ⟨r', l', hr', hl', e⟩ := c1.ord.par r (by omega) h1
        obtain ⟨p, q⟩ := IH r' hr'
        have z := p.go hl'
        rw [← q l' hl', e] at z
        exact z
    refine ⟨pr, fun l => ?_⟩
    induction l using Nat.strongRecOn with
    | _ l il =>
      intro hl
      have il' : ∀ l', l' < l → m1.go r l' = m2.go r l' := fun l' h => il l' h (by omega)
      rcases Nat.lt_trichotomy (m1.go r l) (m2.go r l) with h | h | h
      · exact (canon_side hw c2 root h2 o2 hl pr IH il' h).elim
      · exact h
      · refine (canon_side hw.symm c1 (root.symm hw) h1 o1 (by rw [← hw]; exact hl) (pr.symm hw) (fun r' hr' => ?_) (fun l' hl' => (il' l' hl').symm) h).elim
        obtain ⟨p, q⟩ := IH r' hr'
        exact ⟨p.symm hw, fun l hl => (q l (by rw [hw]; exact hl)).symm⟩
theorem Mc.ext_go {m1 m2 : Mc} (o1 : m1.Ok) (o2 : m2.Ok) (hw : m1.w = m2.w) (hn : m1.n = m2.n) (hg : ∀ r l, r < m1.n → l < 2 ^ m1.w → m1.go r l = m2.go r l) (hf : ∀ r, r < m1.n → m1.fin r = m2.fin r) : m1 = m2 := by
  have e1 : m1.ways = m2.ways := by
    refine List.ext_getElem (by rw [o1.len, o2.len]; exact hn) fun r h1 h2 => ?_
    refine List.ext_getElem (by rw [o1.line _ (List.getElem_mem h1), o2.line _ (List.getElem_mem h2), hw]) fun l h3 h4 => ?_
    have hr : r < m1.n := by rw [o1.len] at h1; exact h1
    have hl : l < 2 ^ m1.w := by rw [o1.line _ (List.getElem_mem h1)] at h3; exact h3
    have := hg r l hr hl
    unfold Mc.go at this
    simpa [List.getD_eq_getElem?_getD, List.getElem?_eq_getElem h1, List.getElem?_eq_getElem h2, List.getElem?_eq_getElem h3, List.getElem?_eq_getElem h4] using this
  have e2 : m1.ends = m2.ends := by
    refine List.ext_getElem hn fun r h1 h2 => ?_
    have := hf r h1
    unfold Mc.fin at this
    simpa [List.getD_eq_getElem?_getD, List.getElem?_eq_getElem h1, List.getElem?_eq_getElem h2] using this
  cases m1; cases m2
  simp_all
theorem canon_le {m1 m2 : Mc} (hw : m1.w = m2.w) (o1 : m1.Ok) (o2 : m2.Ok) (c1 : Canon m1) (c2 : Canon m2) (root : Par m1 0 m2 0) : m2.n ≤ m1.n := by
  refine Nat.le_of_not_lt fun h => ?_
  have p1 : 0 < m1.n := o1.pos
  obtain ⟨r', l', hr', hl', e⟩ := c2.ord.par m1.n p1 h
  have hl1 : l' < 2 ^ m1.w := by rw [hw]; exact hl'
  have z := (canon_steps hw o1 o2 c1 c2 root r' hr' (by omega)).2 l' hl1
  have := o1.go_lt hr' hl1
  omega
theorem canon_one {m1 m2 : Mc} (hw : m1.w = m2.w) (o1 : m1.Ok) (o2 : m2.Ok) (c1 : Canon m1) (c2 : Canon m2) (root : Par m1 0 m2 0) : m1 = m2 := by
  have hn : m1.n = m2.n := Nat.le_antisymm (canon_le hw.symm o2 o1 c2 c1 (root.symm hw)) (canon_le hw o1 o2 c1 c2 root)
  refine Mc.ext_go o1 o2 hw hn (fun r l hr hl => (canon_steps hw o1 o2 c1 c2 root r hr (by omega)).2 l hl) fun r hr => (canon_steps hw o1 o2 c1 c2 root r hr (by omega)).1.fin
def ix (xs : List Nat) (i : Nat) : Nat := xs.getD i 0
theorem ix_at {xs : List Nat} {i : Nat} (h : i < xs.length) : xs[i]? = some (ix xs i) := by
  unfold ix
  rw [List.getD_eq_getElem?_getD, List.getElem?_eq_getElem h, Option.getD_some]
theorem ix_of {xs : List Nat} {i v : Nat} (h : xs[i]? = some v) : ix xs i = v := by unfold ix; rw [List.getD_eq_getElem?_getD, h]; rfl
theorem ix_mem {xs : List Nat} {i : Nat} (h : i < xs.length) : ix xs i ∈ xs := List.mem_of_getElem? (ix_at h)
theorem ix_ex {xs : List Nat} {v : Nat} (h : v ∈ xs) : ∃ i, i < xs.length ∧ ix xs i = v := by
  obtain ⟨i, hi, e⟩ := List.getElem_of_mem h
  exact ⟨i, hi, ix_of (by rw [List.getElem?_eq_getElem hi, e])⟩
theorem ix_app {xs ys : List Nat} {i : Nat} (h : i < xs.length) : ix (xs ++ ys) i = ix xs i := by
  unfold ix; rw [List.getD_eq_getElem?_getD, List.getD_eq_getElem?_getD, List.getElem?_append_left h]
theorem ix_last (xs : List Nat) (v : Nat) : ix (xs ++ [v]) xs.length = v := by simp [ix]
theorem ix_inj {xs : List Nat} (hn : xs.Nodup) {i j : Nat} (hi : i < xs.length) (hj : j < xs.length) (e : ix xs i = ix xs j) : i = j := by
  have h1 := ix_at hi
  rw [e, ← ix_at hj] at h1
  exact (List.getElem?_inj hi hn).mp h1
structure Come (m : Mc) (rooms : List Nat) (at' l : Nat) : Prop where
  nd : rooms.Nodup
  zero : ix rooms 0 = 0
  pos : 0 < rooms.length
  lt : ∀ r ∈ rooms, r < m.n
  disc : ∀ b, 0 < b → b < rooms.length → ∃ r' l', r' < b ∧ l' < 2 ^ m.w ∧ Lex r' l' at' l ∧ m.go (ix rooms r') l' = ix rooms b
  clos : ∀ r l', r < rooms.length → l' < 2 ^ m.w → Lex r l' at' l → ∃ t, t < rooms.length ∧ ix rooms t = m.go (ix rooms r) l' ∧
    ∀ b, 0 < b → b < t → ∃ r'' l'', l'' < 2 ^ m.w ∧ Lex r'' l'' r l' ∧ r'' < rooms.length ∧ m.go (ix rooms r'') l'' = ix rooms b
theorem Come.start {m : Mc} (h : 0 < m.n) : Come m [0] 0 0 :=
  ⟨by simp, rfl, by simp, fun r hr => by rw [List.mem_singleton.mp hr]; exact h, fun b h0 h1 => by simp at h1; omega, fun r l' _ _ lx => by rcases lx with z | ⟨_, z⟩ <;> omega⟩
theorem lex_next {r l' a l : Nat} (h : Lex r l' a (l + 1)) : Lex r l' a l ∨ (r = a ∧ l' = l) := by
  rcases h with h | ⟨h, h'⟩
  · exact .inl (.inl h)
  · by_cases e : l' = l
    · exact .inr ⟨h, e⟩
    · exact .inl (.inr ⟨h, by omega⟩)
theorem lex_up {r l' a l : Nat} (h : Lex r l' a l) : Lex r l' a (l + 1) := h.imp id fun ⟨h, h'⟩ => ⟨h, by omega⟩
theorem Come.old {m : Mc} {rooms : List Nat} {a l : Nat} (c : Come m rooms a l) (ha : a < rooms.length) (hk : m.go (ix rooms a) l ∈ rooms) : Come m rooms a (l + 1) := by
  refine ⟨c.nd, c.zero, c.pos, c.lt, fun b h0 h1 => ?_, fun r l' hr hl' lx => ?_⟩
  · obtain ⟨r', l', h2, h3, h4, h5⟩ := c.disc b h0 h1
    exact ⟨r', l', h2, h3, lex_up h4, h5⟩
  · rcases lex_next lx with lx | ⟨rfl, rfl⟩
    · exact c.clos r l' hr hl' lx
    · obtain ⟨t, ht, et⟩ := ix_ex hk
      refine ⟨t, ht, et, fun b h0 h1 => ?_⟩
      obtain ⟨r', l'', h2, h3, h4, h5⟩ := c.disc b h0 (by omega)
      exact ⟨r', l'', h3, h4, by omega, h5⟩
theorem Come.new {m : Mc} {rooms : List Nat} {a l : Nat} (c : Come m rooms a l) (ha : a < rooms.length) (hl : l < 2 ^ m.w) (hn : m.go (ix rooms a) l < m.n) (hk : ¬ m.go (ix rooms a) l ∈ rooms) : Come m (rooms ++ [m.go (ix rooms a) l]) a (l + 1) := by
  have len : (rooms ++ [m.go (ix rooms a) l]).length = rooms.length + 1 := by simp
  have up : ∀ {r : Nat}, r < rooms.length → ix (rooms ++ [m.go (ix rooms a) l]) r = ix rooms r := fun h => ix_app h
  refine ⟨?_, by rw [up c.pos]; exact c.zero, by omega, fun r hr => ?_, fun b h0 h1 => ?_, fun r l' hr hl' lx => ?_⟩
  · refine List.nodup_append.mpr ⟨c.nd, by simp, fun x hx y hy => ?_⟩
    rw [List.mem_singleton.mp hy]
    intro e; rw [e] at hx; exact hk hx
  · rcases List.mem_append.mp hr with h | h
    · exact c.lt r h
    · rw [List.mem_singleton.mp h]; exact hn
  · by_cases hb : b < rooms.length
    · obtain ⟨r', l', h2, h3, h4, h5⟩ := c.disc b h0 hb
      exact ⟨r', l', h2, h3, lex_up h4, by rw [up (by omega), up hb]; exact h5⟩
    · have e : b = rooms.length := by omega
      subst e
      exact ⟨a, l, ha, hl, .inr ⟨rfl, by omega⟩, by rw [up ha, ix_last]⟩
  · rcases lex_next lx with lx | ⟨rfl, rfl⟩
    · have hra : r < rooms.length := by rcases lx with z | ⟨z, _⟩ <;> omega
      obtain ⟨t, ht, et, g⟩ := c.clos r l' hra hl' lx
      refine ⟨t, by omega, by rw [up ht, up hra]; exact et, fun b h0 h1 => ?_⟩
      obtain ⟨r'', l'', h2, h3, h4, h5⟩ := g b h0 h1
      exact ⟨r'', l'', h2, h3, by omega, by rw [up h4, up (by omega)]; exact h5⟩
    · refine ⟨rooms.length, by omega, by rw [ix_last, up ha], fun b h0 h1 => ?_⟩
      obtain ⟨r', l'', h2, h3, h4, h5⟩ := c.disc b h0 h1
      exact ⟨r', l'', h3, h4, by omega, by rw [up (by omega), up h1]; exact h5⟩
theorem Come.turn {m : Mc} {rooms : List Nat} {a : Nat} (c : Come m rooms a (2 ^ m.w)) : Come m rooms (a + 1) 0 := by
  have up : ∀ {r l : Nat}, l < 2 ^ m.w → Lex r l (a + 1) 0 → Lex r l a (2 ^ m.w) := fun {r l} hl lx => by
    rcases lx with z | ⟨_, z⟩
    · by_cases e : r = a
      · exact .inr ⟨e, hl⟩
      · exact .inl (by omega)
    · omega
  refine ⟨c.nd, c.zero, c.pos, c.lt, fun b h0 h1 => ?_, fun r l' hr hl' lx => c.clos r l' hr hl' (up hl' lx)⟩
  obtain ⟨r', l', h2, h3, h4, h5⟩ := c.disc b h0 h1
  refine ⟨r', l', h2, h3, ?_, h5⟩
  rcases h4 with z | ⟨z, _⟩
  · exact .inl (by omega)
  · exact .inl (by omega)
theorem nodup_le : ∀ {xs : List Nat} {n : Nat}, xs.Nodup → (∀ x ∈ xs, x < n) → xs.length ≤ n
  | xs, 0, _, h => by cases xs with | nil => exact Nat.le_refl _ | cons x r => exact absurd (h x List.mem_cons_self) (Nat.not_lt_zero _)
  | xs, n + 1, hn, h => by
    have h1 : (xs.erase n).length ≤ n := nodup_le (hn.erase n) fun x hx => by
      have h2 := h x (List.mem_of_mem_erase hx)
      have h3 : x ≠ n := fun e => by rw [e] at hx; exact (List.Nodup.not_mem_erase hn) hx
      omega
    by_cases hm : n ∈ xs
    · have h2 := List.length_erase_of_mem hm
      have h3 := List.length_pos_of_mem hm
      omega
    · rw [List.erase_of_not_mem hm] at h1; omega
def picked (m : Mc) (rooms : List Nat) (g : Nat → Nat) : Mc := ⟨m.w, rooms.map fun r => (m.ways.getD r []).map g, rooms.map m.fin⟩
theorem picked_n (m : Mc) (rooms : List Nat) (g : Nat → Nat) : (picked m rooms g).n = rooms.length := by simp [picked, Mc.n]
theorem picked_fin (m : Mc) {rooms : List Nat} (g : Nat → Nat) {i : Nat} (h : i < rooms.length) : (picked m rooms g).fin i = m.fin (ix rooms i) := by
  unfold picked Mc.fin
  simp only [List.getD_eq_getElem?_getD, List.getElem?_map]
  rw [ix_at h]
  rfl
theorem picked_go {m : Mc} (ok : m.Ok) {rooms : List Nat} (g : Nat → Nat) {i l : Nat} (h : i < rooms.length) (hr : ix rooms i < m.n) (hl : l < 2 ^ m.w) : (picked m rooms g).go i l = g (m.go (ix rooms i) l) := by
  obtain ⟨line, e1, e2, e3⟩ := ok.at hr hl
  have e1' : m.ways.getD (ix rooms i) [] = line := by rw [List.getD_eq_getElem?_getD, e1]; rfl
  unfold picked
  rw [Mc.go]
  simp only [List.getD_eq_getElem?_getD, List.getElem?_map]
  rw [ix_at h]
  simp only [Option.map_some, Option.getD_some]
  rw [e1]
  simp only [Option.getD_some, List.getElem?_map]
  rw [e2]
  rfl
theorem picked_ok {m : Mc} (ok : m.Ok) {rooms : List Nat} {g : Nat → Nat} (h0 : 0 < rooms.length) (hf : rooms.length ≤ 100) (hr : ∀ r ∈ rooms, r < m.n) (hg : ∀ r l, r ∈ rooms → l < 2 ^ m.w → g (m.go r l) < rooms.length) : (picked m rooms g).Ok := by
  refine ⟨ok.wid, by simpa [picked] using h0, by simpa [picked] using hf, by simp [picked], fun line hl => ?_, fun line hl x hx => ?_⟩
  · obtain ⟨r, mr, rfl⟩ := List.mem_map.mp hl
    have h1 : r < m.ways.length := by rw [ok.len]; exact hr r mr
    rw [List.length_map, List.getD_eq_getElem?_getD, List.getElem?_eq_getElem h1, Option.getD_some]
    exact ok.line _ (List.getElem_mem h1)
  · obtain ⟨r, mr, rfl⟩ := List.mem_map.mp hl
    obtain ⟨y, my, rfl⟩ := List.mem_map.mp hx
    have h1 : r < m.ways.length := by rw [ok.len]; exact hr r mr
    rw [List.getD_eq_getElem?_getD, List.getElem?_eq_getElem h1, Option.getD_some] at my
    obtain ⟨l, h2, e2⟩ := List.getElem_of_mem my
    rw [ok.line _ (List.getElem_mem h1)] at h2
    have h3 := hg r l mr h2
    obtain ⟨line, e3, e4, _⟩ := ok.at (hr r mr) h2
    rw [List.getElem?_eq_getElem h1] at e3
    cases e3
    rw [List.getElem?_eq_getElem (by rw [ok.line _ (List.getElem_mem h1)]; exact h2), e2] at e4
    cases e4
    simpa [picked] using h3
theorem come_picked {m : Mc} (ok : m.Ok) {rooms : List Nat} (c : Come m rooms rooms.length 0) {g : Nat → Nat} (hg : ∀ i, i < rooms.length → g (ix rooms i) = i) :
    (picked m rooms g).Ok ∧ (picked m rooms g).Ord ∧ Par m 0 (picked m rooms g) 0 ∧ rooms.length ≤ m.n := by
  have hle : rooms.length ≤ m.n := nodup_le c.nd c.lt
  have hlt : ∀ {i : Nat}, i < rooms.length → ix rooms i < m.n := fun h => c.lt _ (ix_mem h)
  have clo : ∀ r l, r < rooms.length → l < 2 ^ m.w → ∃ t, t < rooms.length ∧ ix rooms t = m.go (ix rooms r) l ∧ ∀ b, 0 < b → b < t → ∃ r'' l'', l'' < 2 ^ m.w ∧ Lex r'' l'' r l ∧ r'' < rooms.length ∧ m.go (ix rooms r'') l'' = ix rooms b :=
    fun r l hr hl => c.clos r l hr hl (.inl hr)
  have pgo : ∀ {i l : Nat}, i < rooms.length → l < 2 ^ m.w → ∀ t, t < rooms.length → m.go (ix rooms i) l = ix rooms t → (picked m rooms g).go i l = t := fun hi hl t ht e => by
    rw [picked_go ok g hi (hlt hi) hl, e]; exact hg t ht
  refine ⟨picked_ok ok c.pos (by have : m.n ≤ 100 := ok.few; omega) c.lt fun r l mr hl => ?_, ⟨fun r l b hr hl h0 hb => ?_, fun b h0 hb => ?_⟩, ?_, hle⟩
  · obtain ⟨i, hi, rfl⟩ := ix_ex mr
    obtain ⟨t, ht, et, _⟩ := clo i l hi hl
    rw [← et, hg t ht]; exact ht
  · rw [picked_n] at hr
    obtain ⟨t, ht, et, gr⟩ := clo r l hr hl
    rw [pgo hr hl t ht et.symm] at hb
    obtain ⟨r'', l'', h1, h2, h3, h4⟩ := gr b h0 hb
    exact ⟨r'', l'', h1, h2, pgo h3 h1 b (by omega) h4⟩
  · rw [picked_n] at hb
    obtain ⟨r', l', h1, h2, h3, h4⟩ := c.disc b h0 hb
    exact ⟨r', l', h1, h2, pgo (by omega) h2 b hb h4⟩
  · refine Par.of (fun r i => i < rooms.length ∧ ix rooms i = r) (fun r i ⟨hi, e⟩ => ?_) (fun r i l ⟨hi, e⟩ hl => ?_) ⟨c.pos, c.zero⟩
    · rw [picked_fin m g hi, e]
    · obtain ⟨t, ht, et, _⟩ := clo i l hi hl
      rw [pgo hi hl t ht et.symm, ← e]
      exact ⟨ht, et⟩
structure Srt (ns : List Nat) : Prop where
  grow : ∀ i, i < ns.length → ∀ b, b < ix ns i → ∃ j, j < i ∧ ix ns j = b
theorem Srt.le {ns : List Nat} (h : Srt ns) (i : Nat) (hi : i < ns.length) : ix ns i ≤ i := by
  induction i using Nat.strongRecOn with
  | _ i ih =>
    by_cases h0 : ix ns i = 0
    · omega
    · obtain ⟨j, hj, e⟩ := h.grow i hi (ix ns i - 1) (by omega)
      have := ih j hj (by omega)
      omega
theorem srt_le {s f : List Nat} (hs : Srt s) (hf : Srt f) (hl : s.length = f.length) (ref : ∀ i j, i < s.length → j < s.length → ix f i = ix f j → ix s i = ix s j) : ∀ v i, i < s.length → ix s i = v → v ≤ ix f i
  | 0, _, _, _ => Nat.zero_le _
  | v + 1, i, hi, e => by
    have ih := srt_le hs hf hl ref v
    refine Nat.le_of_not_lt fun hlt => ?_
    have no : ∀ j, j < i → ix s j = v → False := fun j => by
      induction j using Nat.strongRecOn with
      | _ j ij =>
        intro hj ej
        have h1 := ih j (by omega) ej
        have h2 : ix f j ≠ ix f i := fun z => by have := ref j i (by omega) hi z; omega
        obtain ⟨k, hk, ek⟩ := hf.grow j (by omega) (ix f i) (by omega)
        have h3 := ref k i (by omega) hi ek
        obtain ⟨j', hj', ej'⟩ := hs.grow k (by omega) v (by omega)
        exact ij j' (by omega) (by omega) ej'
    obtain ⟨j, hj, ej⟩ := hs.grow i hi v (by omega)
    exact no j hj ej
theorem sum_le : ∀ {s f : List Nat}, s.length = f.length → (∀ i, i < s.length → ix s i ≤ ix f i) → s.sum ≤ f.sum ∧ (s.sum = f.sum → s = f)
  | [], [], _, _ => ⟨Nat.le_refl _, fun _ => rfl⟩
  | [], _ :: _, h, _ => by simp at h
  | _ :: _, [], h, _ => by simp at h
  | x :: s, y :: f, h, g => by
    have h1 := g 0 (by simp)
    have h2 : x ≤ y := h1
    obtain ⟨h3, h4⟩ := sum_le (s := s) (f := f) (by simpa using h) fun i hi => by
      have := g (i + 1) (by simpa using hi)
      simpa [ix] using this
    refine ⟨by simp only [List.sum_cons]; omega, fun e => ?_⟩
    simp only [List.sum_cons] at e
    rw [show x = y by omega, h4 (by omega)]
theorem sum_bound : ∀ {s : List Nat} {n : Nat}, (∀ x ∈ s, x ≤ n) → s.sum ≤ s.length * n
  | [], n, _ => by simp
  | x :: s, n, h => by
    have h1 := h x List.mem_cons_self
    have h2 := sum_bound (s := s) (n := n) fun y hy => h y (List.mem_cons_of_mem _ hy)
    simp only [List.sum_cons, List.length_cons, Nat.succ_mul]
    omega
structure Sorts (m : Mc) (ns : List Nat) : Prop where
  srt : Srt ns
  len : ns.length = m.n
  fin : ∀ i j, i < m.n → j < m.n → ix ns i = ix ns j → m.fin i = m.fin j
  sep : ∀ i j, i < m.n → j < m.n → Par m i m j → ix ns i = ix ns j
def Stable (m : Mc) (ns : List Nat) : Prop := ∀ i j l, i < m.n → j < m.n → l < 2 ^ m.w → ix ns i = ix ns j → ix ns (m.go i l) = ix ns (m.go j l)
structure Firsts (ns fs : List Nat) : Prop where
  lt : ∀ s, s < fs.length → ix fs s < ns.length
  is : ∀ s, s < fs.length → ix ns (ix fs s) = s
  le : ∀ s j, s < fs.length → j < ns.length → ix ns j = s → ix fs s ≤ j
  all : ∀ i, i < ns.length → ix ns i < fs.length
theorem quotient {m : Mc} (ok : m.Ok) (ord : m.Ord) {ns fs : List Nat} (S : Sorts m ns) (st : Stable m ns) (F : Firsts ns fs) :
    (picked m fs (ix ns)).Ok ∧ Canon (picked m fs (ix ns)) ∧ Par m 0 (picked m fs (ix ns)) 0 ∧ fs.length ≤ m.n := by
  have hlt : ∀ {s : Nat}, s < fs.length → ix fs s < m.n := fun h => by rw [← S.len]; exact F.lt _ h
  have h0 : 0 < fs.length := by have := F.all 0 (by rw [S.len]; exact ok.pos); omega
  have all : ∀ {i : Nat}, i < m.n → ix ns i < fs.length := fun h => F.all _ (by rw [S.len]; exact h)
  have mono : ∀ {a b : Nat}, a < fs.length → b < fs.length → a < b → ix fs a < ix fs b := fun {a b} ha hb hab => by
    have e := F.is b hb
    obtain ⟨j, hj, ej⟩ := S.srt.grow (ix fs b) (F.lt b hb) a (by omega)
    have := F.le a j ha (by have := F.lt b hb; omega) ej
    omega
  have mono' : ∀ {a b : Nat}, a < fs.length → b < fs.length → ix fs a < ix fs b → a < b := fun {a b} ha hb h => by
    rcases Nat.lt_trichotomy a b with z | z | z
    · exact z
    · subst z; omega
    · have := mono hb ha z; omega
  have hle : fs.length ≤ m.n := by
    have h1 := F.is (fs.length - 1) (by omega)
    have h2 := hlt (s := fs.length - 1) (by omega)
    have h3 := S.srt.le _ (by rw [S.len]; exact h2)
    omega
  have pgo : ∀ {s l : Nat}, s < fs.length → l < 2 ^ m.w → (picked m fs (ix ns)).go s l = ix ns (m.go (ix fs s) l) := fun hs hl => picked_go ok _ hs (hlt hs) hl
  have thr : ∀ {i l : Nat}, i < m.n → l < 2 ^ m.w → (picked m fs (ix ns)).go (ix ns i) l = ix ns (m.go i l) := fun {i l} hi hl => by
    rw [pgo (all hi) hl]
    exact st _ _ l (hlt (all hi)) hi hl (F.is _ (all hi))
  have hok : (picked m fs (ix ns)).Ok := picked_ok ok h0 (by have : m.n ≤ 100 := ok.few; omega) (fun r mr => by obtain ⟨s, hs, rfl⟩ := ix_ex mr; exact hlt hs) fun r l mr hl => by
    obtain ⟨s, hs, rfl⟩ := ix_ex mr
    exact all (ok.go_lt (hlt hs) hl)
  have par : ∀ {i : Nat}, i < m.n → Par m i (picked m fs (ix ns)) (ix ns i) := fun {i} hi => by
    refine Par.of (fun r s => r < m.n ∧ s = ix ns r) (fun r s ⟨hr, e⟩ => ?_) (fun r s l ⟨hr, e⟩ hl => ?_) ⟨hi, rfl⟩
    · rw [e, picked_fin m _ (all hr)]
      exact S.fin _ _ hr (hlt (all hr)) (F.is _ (all hr)).symm
    · exact ⟨ok.go_lt hr hl, by rw [e, thr hr hl]⟩
  refine ⟨hok, ⟨⟨fun s l b hs hl hb hlt' => ?_, fun b hb hbn => ?_⟩, fun i j hi hj p => ?_⟩, ?_, hle⟩
  · rw [picked_n] at hs
    rw [pgo hs hl] at hlt'
    have ht := ok.go_lt (hlt hs) hl
    have ha := all ht
    have hbl : b < fs.length := by omega
    have h1 : ix fs b < m.go (ix fs s) l := by
      have h2 := mono hbl ha hlt'
      have h3 := F.le _ _ ha (by rw [S.len]; exact ht) rfl
      omega
    have h0' : 0 < ix fs b := by
      have := F.is b hbl
      by_cases z : ix fs b = 0
      · have h5 := S.srt.le 0 (by rw [S.len]; exact ok.pos)
        rw [z] at this; omega
      · omega
    obtain ⟨r', l', hl', lx, e⟩ := ord.grow (ix fs s) l (ix fs b) (hlt hs) hl h0' h1
    have hr' : r' < m.n := by have := hlt hs; rcases lx with z | ⟨z, _⟩ <;> omega
    refine ⟨ix ns r', l', hl', ?_, by rw [thr hr' hl', e]; exact F.is b hbl⟩
    rcases lx with z | ⟨z, z'⟩
    · refine .inl (mono' (all hr') hs ?_)
      have := F.le _ r' (all hr') (by rw [S.len]; exact hr') rfl
      omega
    · exact .inr ⟨by rw [z]; exact F.is s hs, z'⟩
  · rw [picked_n] at hbn
    have h0' : 0 < ix fs b := by
      have := F.is b hbn
      by_cases z : ix fs b = 0
      · have h5 := S.srt.le 0 (by rw [S.len]; exact ok.pos)
        rw [z] at this; omega
      · omega
    obtain ⟨r', l', hr', hl', e⟩ := ord.par (ix fs b) h0' (hlt hbn)
    have hrn : r' < m.n := by have := hlt hbn; omega
    refine ⟨ix ns r', l', mono' (all hrn) hbn ?_, hl', by rw [thr hrn hl', e]; exact F.is b hbn⟩
    have := F.le _ r' (all hrn) (by rw [S.len]; exact hrn) rfl
    omega
  · rw [picked_n] at hi hj
    have p1 := par (hlt hi)
    have p2 := par (hlt hj)
    rw [F.is i hi] at p1
    rw [F.is j hj] at p2
    have q : Par m (ix fs i) m (ix fs j) := (p1.trans p rfl).trans (p2.symm rfl) rfl
    have z := S.sep _ _ (hlt hi) (hlt hj) q
    rw [F.is i hi, F.is j hj] at z
    exact z
  · have p := par ok.pos
    have e : ix ns 0 = 0 := by have := S.srt.le 0 (by rw [S.len]; exact ok.pos); omega
    rw [e] at p
    exact p
structure Num {α : Type} (marks : List α) (ns : List Nat) : Prop where
  len : ns.length = marks.length
  eq : ∀ i j a b, marks[i]? = some a → marks[j]? = some b → (ix ns i = ix ns j ↔ a = b)
  srt : Srt ns
theorem sorts_first {m : Mc} {ns : List Nat} (N : Num m.ends ns) : Sorts m ns := by
  refine ⟨N.srt, N.len, fun i j hi hj e => ?_, fun i j hi hj p => ?_⟩
  · exact (N.eq i j _ _ (Mc.fin_at hi) (Mc.fin_at hj)).mp e
  · exact (N.eq i j _ _ (Mc.fin_at hi) (Mc.fin_at hj)).mpr p.fin
def markOf (m : Mc) (ns : List Nat) (i : Nat) : List Nat := ix ns i :: (m.ways.getD i []).map (ix ns)
theorem mark_eq {m : Mc} (ok : m.Ok) {ns : List Nat} {i j : Nat} (hi : i < m.n) (hj : j < m.n) : markOf m ns i = markOf m ns j ↔ ix ns i = ix ns j ∧ ∀ l, l < 2 ^ m.w → ix ns (m.go i l) = ix ns (m.go j l) := by
  have h1 : i < m.ways.length := by rw [ok.len]; exact hi
  have h2 : j < m.ways.length := by rw [ok.len]; exact hj
  have L1 := ok.line _ (List.getElem_mem h1)
  have L2 := ok.line _ (List.getElem_mem h2)
  unfold markOf
  rw [List.cons.injEq]
  refine and_congr_right fun _ => ?_
  unfold Mc.go
  simp only [List.getD_eq_getElem?_getD, List.getElem?_eq_getElem h1, List.getElem?_eq_getElem h2, Option.getD_some]
  refine ⟨fun e l hl => ?_, fun h => ?_⟩
  · have z := congrArg (fun q => q[l]?) e
    simp only [List.getElem?_map] at z
    rw [List.getElem?_eq_getElem (by omega), List.getElem?_eq_getElem (by omega)] at z ⊢
    simpa using z
  · refine List.ext_getElem (by rw [List.length_map, List.length_map, L1, L2]) fun l h3 h4 => ?_
    rw [List.length_map] at h3 h4
    have z := h l (by omega)
    rw [List.getElem?_eq_getElem h3, List.getElem?_eq_getElem h4] at z
    rw [List.getElem_map, List.getElem_map]
    simpa using z
theorem sorts_next {m : Mc} (ok : m.Ok) {ns fs : List Nat} (S : Sorts m ns) (N : Num ((List.range m.n).map (markOf m ns)) fs) : Sorts m fs ∧ (∀ i j, i < ns.length → j < ns.length → ix fs i = ix fs j → ix ns i = ix ns j) ∧ (fs = ns → Stable m ns) := by
  have at' : ∀ {i : Nat}, i < m.n → ((List.range m.n).map (markOf m ns))[i]? = some (markOf m ns i) := fun h => by rw [List.getElem?_map, List.getElem?_range h]; rfl
  have eq : ∀ {i j : Nat}, i < m.n → j < m.n → (ix fs i = ix fs j ↔ ix ns i = ix ns j ∧ ∀ l, l < 2 ^ m.w → ix ns (m.go i l) = ix ns (m.go j l)) := fun hi hj => (N.eq _ _ _ _ (at' hi) (at' hj)).trans (mark_eq ok hi hj)
  refine ⟨⟨N.srt, by rw [N.len]; simp, fun i j hi hj e => S.fin i j hi hj ((eq hi hj).mp e).1, fun i j hi hj p => (eq hi hj).mpr ⟨S.sep i j hi hj p, fun l hl => S.sep _ _ (ok.go_lt hi hl) (ok.go_lt hj hl) (p.go hl)⟩⟩, fun i j hi hj e => ?_, fun e i j l hi hj hl h => ?_⟩
  · rw [S.len] at hi hj
    exact ((eq hi hj).mp e).1
  · subst e
    exact ((eq hi hj).mp h).2 l hl
theorem sorts_more {m : Mc} {ns fs : List Nat} (S : Sorts m ns) (S' : Sorts m fs) (ref : ∀ i j, i < ns.length → j < ns.length → ix fs i = ix fs j → ix ns i = ix ns j) (ne : fs ≠ ns) : ns.sum < fs.sum ∧ fs.sum ≤ m.n * m.n := by
  have hl : ns.length = fs.length := by rw [S.len, S'.len]
  obtain ⟨h1, h2⟩ := sum_le hl fun i hi => srt_le S.srt S'.srt hl ref _ i hi rfl
  refine ⟨Nat.lt_of_le_of_ne h1 fun e => ne (h2 e).symm, ?_⟩
  have h3 := sum_bound (s := fs) (n := m.n) fun x hx => by
    obtain ⟨i, hi, rfl⟩ := ix_ex hx
    have := S'.srt.le i hi
    have := S'.len
    omega
  rw [S'.len] at h3
  exact h3
section
variable {α : Type} [DecidableEq α]
def news : List α → List α → List α
  | acc, [] => acc
  | acc, x :: r => news (if x ∈ acc then acc else acc ++ [x]) r
theorem news_snoc : ∀ (xs acc : List α) (x : α), news acc (xs ++ [x]) = if x ∈ news acc xs then news acc xs else news acc xs ++ [x]
  | [], acc, x => rfl
  | y :: r, acc, x => news_snoc r _ x
theorem news_mem : ∀ (xs acc : List α) (x : α), x ∈ news acc xs ↔ x ∈ acc ∨ x ∈ xs
  | [], acc, x => by simp [news]
  | y :: r, acc, x => by
    unfold news
    rw [news_mem r _ x]
    by_cases h : y ∈ acc
    · rw [if_pos h]
      simp only [List.mem_cons]
      refine ⟨fun z => z.imp id .inr, fun z => z.elim .inl fun z => z.elim (fun e => .inl (e ▸ h)) .inr⟩
    · rw [if_neg h]
      simp only [List.mem_append, List.mem_cons, List.not_mem_nil, or_false]
      exact or_assoc
theorem news_nd : ∀ (xs acc : List α), acc.Nodup → (news acc xs).Nodup
  | [], acc, h => h
  | y :: r, acc, h => by
    unfold news
    refine news_nd r _ ?_
    by_cases hy : y ∈ acc
    · rw [if_pos hy]; exact h
    · rw [if_neg hy]
      refine List.nodup_append.mpr ⟨h, by simp, fun a ha b hb => ?_⟩
      rw [List.mem_singleton.mp hb]
      intro e; exact hy (e ▸ ha)
theorem news_len : ∀ (xs acc : List α), (news acc xs).length ≤ acc.length + xs.length
  | [], acc => by simp [news]
  | y :: r, acc => by
    unfold news
    have := news_len r (if y ∈ acc then acc else acc ++ [y])
    by_cases hy : y ∈ acc
    · rw [if_pos hy] at this ⊢; simp only [List.length_cons]; omega
    · rw [if_neg hy] at this ⊢; simp only [List.length_append, List.length_cons, List.length_nil] at this ⊢; omega
theorem news_pre : ∀ (xs acc : List α), ∃ t, news acc xs = acc ++ t
  | [], acc => ⟨[], by simp [news]⟩
  | y :: r, acc => by
    unfold news
    obtain ⟨t, e⟩ := news_pre r (if y ∈ acc then acc else acc ++ [y])
    by_cases hy : y ∈ acc
    · rw [if_pos hy] at e ⊢; exact ⟨t, e⟩
    · rw [if_neg hy] at e ⊢; exact ⟨[y] ++ t, by rw [e, List.append_assoc]⟩
theorem news_app : ∀ (xs ys acc : List α), news acc (xs ++ ys) = news (news acc xs) ys
  | [], ys, acc => rfl
  | x :: r, ys, acc => news_app r ys _
def nOf (ds : List α) (x : α) : Nat := ds.idxOf x
def nxt (ds : List α) (x : α) : List α := if x ∈ ds then ds else ds ++ [x]
theorem nxt_in {ds : List α} {x : α} (h : x ∈ ds) : nxt ds x = ds := if_pos h
theorem nxt_out {ds : List α} {x : α} (h : ¬ x ∈ ds) : nxt ds x = ds ++ [x] := if_neg h
theorem news_nxt (xs : List α) (x : α) : news [] (xs ++ [x]) = nxt (news [] xs) x := news_snoc xs [] x
theorem news_take {xs : List α} {i : Nat} {x : α} (h : xs[i]? = some x) : news [] (xs.take (i + 1)) = nxt (news [] (xs.take i)) x := by rw [List.take_add_one, h, Option.toList_some, news_nxt]
theorem idx_app {xs ys : List α} {x : α} (h : x ∈ xs) : (xs ++ ys).idxOf x = xs.idxOf x := by rw [List.idxOf_append, if_pos h]
theorem num_of (marks : List α) : Num marks (marks.map (nOf (news [] marks))) := by
  show Num marks (marks.map fun x => (news [] marks).idxOf x)
  have at' : ∀ {i : Nat} {a : α}, marks[i]? = some a → ix (marks.map fun x => (news [] marks).idxOf x) i = (news [] marks).idxOf a := fun h => ix_of (by rw [List.getElem?_map, h]; rfl)
  have mem : ∀ {a : α}, a ∈ marks → a ∈ news [] marks := fun h => (news_mem marks [] _).mpr (.inr h)
  refine ⟨List.length_map _, fun i j a b ha hb => ?_, ⟨fun i hi b hb => ?_⟩⟩
  · rw [at' ha, at' hb]
    refine ⟨fun e => ?_, fun e => by rw [e]⟩
    have h1 := List.idxOf_lt_length_iff.mpr (mem (List.mem_of_getElem? ha))
    have h2 := List.idxOf_lt_length_iff.mpr (mem (List.mem_of_getElem? hb))
    have e1 := List.getElem_idxOf h1
    have e2 := List.getElem_idxOf h2
    rw [← e1, ← e2]
    congr 1
  · rw [List.length_map] at hi
    have hx : marks[i]? = some marks[i] := List.getElem?_eq_getElem hi
    rw [at' hx] at hb
    have em : marks = marks.take i ++ marks[i] :: marks.drop (i + 1) := by rw [← List.drop_eq_getElem_cons hi, List.take_append_drop]
    have en : news [] marks = news (if marks[i] ∈ news [] (marks.take i) then news [] (marks.take i) else news [] (marks.take i) ++ [marks[i]]) (marks.drop (i + 1)) := by
      conv => lhs; rw [em]
      rw [news_app]; rfl
    obtain ⟨t, et⟩ := news_pre (marks.drop (i + 1)) (if marks[i] ∈ news [] (marks.take i) then news [] (marks.take i) else news [] (marks.take i) ++ [marks[i]])
    rw [← en] at et
    have hbl : b < (news [] (marks.take i)).length := by
      by_cases c : marks[i] ∈ news [] (marks.take i)
      · rw [if_pos c] at et
        rw [et, idx_app c] at hb
        have := List.idxOf_lt_length_iff.mpr c
        omega
      · rw [if_neg c] at et
        rw [et, idx_app (by simp), List.idxOf_append, if_neg c] at hb
        simp at hb
        omega
    have hpre : ∃ t', news [] marks = news [] (marks.take i) ++ t' := by
      by_cases c : marks[i] ∈ news [] (marks.take i)
      · rw [if_pos c] at et; exact ⟨t, et⟩
      · rw [if_neg c] at et; exact ⟨[marks[i]] ++ t, by rw [et, List.append_assoc]⟩
    obtain ⟨t', et'⟩ := hpre
    have hm : (news [] (marks.take i))[b] ∈ marks.take i := by
      rcases (news_mem (marks.take i) [] _).mp (List.getElem_mem hbl) with h | h
      · exact nomatch h
      · exact h
    obtain ⟨j, hj, ej⟩ := List.getElem_of_mem hm
    rw [List.length_take] at hj
    rw [List.getElem_take] at ej
    refine ⟨j, by omega, ?_⟩
    have hj' : marks[j]? = some (news [] (marks.take i))[b] := by rw [List.getElem?_eq_getElem (by omega), ej]
    rw [at' hj', et', idx_app (List.getElem_mem hbl)]
    exact List.Nodup.idxOf_getElem (news_nd _ _ List.nodup_nil) b hbl
end
theorem idx_le : ∀ (ns : List Nat) (s j : Nat), ns[j]? = some s → ns.idxOf s ≤ j
  | [], _, _, h => by simp at h
  | x :: ns, s, 0, h => by
    simp only [List.getElem?_cons_zero, Option.some.injEq] at h
    subst h
    simp
  | x :: ns, s, j + 1, h => by
    simp only [List.getElem?_cons_succ] at h
    have ih := idx_le ns s j h
    rw [List.idxOf_cons]
    cases hx : x == s with
    | true => simp
    | false => simp; omega
theorem idx_is {ns : List Nat} {s : Nat} (h : s ∈ ns) : ns.idxOf s < ns.length ∧ ix ns (ns.idxOf s) = s := by
  have h1 := List.idxOf_lt_length_iff.mpr h
  exact ⟨h1, ix_of (by rw [List.getElem?_eq_getElem h1, List.getElem_idxOf h1])⟩
theorem firsts_of {ns : List Nat} {M : Nat} (S : Srt ns) (hM : M ∈ ns) (hle : ∀ a ∈ ns, a ≤ M) : Firsts ns ((List.range (M + 1)).map fun s => ns.idxOf s) ∧ ∀ s, s ≤ M → s ∈ ns := by
  have mem : ∀ s, s ≤ M → s ∈ ns := fun s hs => by
    by_cases e : s = M
    · rw [e]; exact hM
    · obtain ⟨i, hi, ei⟩ := ix_ex hM
      obtain ⟨j, hj, ej⟩ := S.grow i hi s (by omega)
      rw [← ej]
      exact ix_mem (by omega)
  have at' : ∀ {s : Nat}, s < M + 1 → ix ((List.range (M + 1)).map fun s => ns.idxOf s) s = ns.idxOf s := fun {s} h => ix_of (by rw [List.getElem?_map, List.getElem?_range h]; rfl)
  have len : ((List.range (M + 1)).map fun s => ns.idxOf s).length = M + 1 := by simp
  refine ⟨⟨fun s hs => ?_, fun s hs => ?_, fun s j hs hj e => ?_, fun i hi => ?_⟩, mem⟩
  · rw [len] at hs; rw [at' hs]; exact (idx_is (mem s (by omega))).1
  · rw [len] at hs; rw [at' hs]; exact (idx_is (mem s (by omega))).2
  · rw [len] at hs; rw [at' hs]
    exact idx_le ns s j (by rw [ix_at hj, e])
  · rw [len]
    have := hle _ (ix_mem hi)
    omega
structure Red (m m' : Mc) : Prop where
  ok : m'.Ok
  w : m'.w = m.w
  canon : Canon m'
  par : Par m 0 m' 0
  le : m'.n ≤ m.n
theorem red_of {m : Mc} (ok : m.Ok) {rooms : List Nat} (c : Come m rooms rooms.length 0) {g : Nat → Nat} (hg : ∀ i, i < rooms.length → g (ix rooms i) = i) {ns fs : List Nat} (S : Sorts (picked m rooms g) ns) (st : Stable (picked m rooms g) ns) (F : Firsts ns fs) :
    Red m (picked (picked m rooms g) fs (ix ns)) := by
  obtain ⟨o1, ord1, p1, l1⟩ := come_picked ok c hg
  obtain ⟨o2, c2, p2, l2⟩ := quotient o1 ord1 S st F
  refine ⟨o2, rfl, c2, p1.trans p2 rfl, ?_⟩
  rw [picked_n] at l2 ⊢
  omega
open PySem PySem.Spec PyProof.Rows L2 SS
abbrev nV (n : Nat) : V := .int (n : Int)
def Line (H : Hp) (v : V) (l : List Nat) : Prop := ∃ a, v = .ref a ∧ H a = some (.tup (l.map nV))
def RepM (H : Hp) (a : Addr) (m : Mc) : Prop := ∃ (b c : Addr) (rs : List V), H a = some (.tup [nV m.w, .ref b, .ref c]) ∧ H b = some (.tup rs) ∧ Paired (Line H) rs m.ways ∧ H c = some (.tup (m.ends.map V.bl))
theorem Line.ts {H H' : Hp} {v : V} {l : List Nat} (h : Line H v l) (g : TupS H H') : Line H' v l := let ⟨a, e, z⟩ := h; ⟨a, e, g _ _ z⟩
theorem RepM.ts {H H' : Hp} {a : Addr} {m : Mc} (h : RepM H a m) (g : TupS H H') : RepM H' a m := by
  obtain ⟨b, c, rs, h1, h2, h3, h4⟩ := h
  exact ⟨b, c, rs, g _ _ h1, g _ _ h2, L2.Paired.mapP h3 fun _ _ z => z.ts g, g _ _ h4⟩
theorem RepM.same {H H' : Hp} {a : Addr} {m : Mc} (h : RepM H a m) (g : Same H H') : RepM H' a m := h.ts g.tups
theorem Paired.at2 {α β : Type} {R : α → β → Prop} : ∀ {xs : List α} {ys : List β} {i : Nat} {y : β}, Paired R xs ys → ys[i]? = some y → ∃ x, xs[i]? = some x ∧ R x y
  | _, _, _, _, .nil, h => by simp at h
  | _, _, 0, _, .cons h _, e => by simp at e; subst e; exact ⟨_, rfl, h⟩
  | _, _, i + 1, _, .cons _ h, e => by simp only [List.getElem?_cons_succ] at e ⊢; exact Paired.at2 h e
theorem Paired.snoc {α β : Type} {R : α → β → Prop} : ∀ {xs : List α} {ys : List β} {x : α} {y : β}, Paired R xs ys → R x y → Paired R (xs ++ [x]) (ys ++ [y])
  | _, _, _, _, .nil, h => .cons h .nil
  | _, _, _, _, .cons h t, z => .cons h (Paired.snoc t z)
theorem all_bl : ∀ {ys : List V}, (∀ y ∈ ys, ∃ b, y = V.bl b) → ∃ bs : List Bool, ys = bs.map V.bl
  | [], _ => ⟨[], rfl⟩
  | y :: ys, h => by
    obtain ⟨b, rfl⟩ := h y List.mem_cons_self
    obtain ⟨bs, rfl⟩ := all_bl fun z hz => h z (List.mem_cons_of_mem _ hz)
    exact ⟨b :: bs, rfl⟩
def sp_mix (K : PySem.W.Frag) : Sp := fun vs H Q _ => ∃ (a : Addr) (ns : List Int) (k sl : Int), vs = [.ref a, .int k, .int sl] ∧ SqL K H a (ns.map V.int) ∧ 0 ≤ k ∧ k < 1000000 ∧ ∀ r : Int, 0 ≤ r → Q (.int r) H
def sp_machine (K : PySem.W.Frag) : Sp := fun vs H Q _ => ∃ (a : Addr) (ns : List Int) (wd n sl : Int), vs = [.ref a, .int wd, .int n, .int sl] ∧ SqL K H a (ns.map V.int) ∧ 0 ≤ wd ∧ wd ≤ 4 ∧ 1 ≤ n ∧ n ≤ 30 ∧
  ∀ p m H', Same H H' → RepM H' p m → m.Ok → (m.w : Int) = wd → (m.ends.length : Int) = n → Q (.ref p) H'
def sp_whole : Sp := fun vs H Q _ => ∃ (r n : Int), vs = [.int r, .int n] ∧ 0 ≤ r ∧ r < n ∧ Q (.bl true) H
def sp_ismach : Sp := fun vs H Q _ => ∃ (a : Addr) (m : Mc) (wd : Int), vs = [.ref a, .int wd] ∧ RepM H a m ∧ m.Ok ∧ (m.w : Int) = wd ∧ ∀ H', Same H H' → Q (.bl true) H'
theorem map_nV (l : List Nat) : l.map nV = (l.map fun (n : Nat) => (n : Int)).map V.int := by rw [List.map_map]; rfl
end SM
namespace L2
open PySem PySem.Spec PyProof.Rows
theorem li_at {h h' : Heap} {j a : Addr} {i : Nat} (x : h.IsListIter j a i) (k : ∀ o, h.get? j = some o → h'.get? j = some o) : h'.IsListIter j a i := by
  obtain ⟨o, e, r⟩ := x
  exact ⟨o, k o e, r⟩
theorem li_ext {h h' : Heap} {j a b : Addr} {i : Nat} (x : h.IsListIter j a i) (k : Heap.ExtBut b h h') (n : j ≠ b) : h'.IsListIter j a i := li_at x fun o e => k j o n e
structure ZipL (h : Heap) (z ti ro j1 j2 t1 t2 : Addr) (f0 : Value) (i : Nat) : Prop where
  z : IsZip h z ti ro f0
  ti : IsPair h ti (.ref j1) (.ref j2)
  ro : ∃ a b, IsPair h ro a b
  j1 : h.IsListIter j1 t1 i
  j2 : h.IsTupleIter j2 t2 i
section
variable {P : Program} {w : World} {A : Around} {E : Value → Shared → Prop} {s : Shared} {z ti ro j1 j2 t1 t2 : Addr} {i : Nat} {its1 its2 : Array Value}
theorem zl_item {x y : Value} {Q : Option Value → Shared → Prop} (D : ZipApart z ti ro j1 j2 t1 t2) (Z : ZipL s.heap z ti ro j1 j2 t1 t2 .none i) (p1 : s.heap.IsList t1 its1) (p2 : s.heap.IsTuple t2 its2) (hx : its1[i]? = some x) (hy : its2[i]? = some y)
    (q : ∀ h', ZipL h' z ti ro j1 j2 t1 t2 (rawInt s.heap.objs.size) (i + 1) → IsPair h' s.heap.objs.size x y → h'.objs.size = s.heap.objs.size + 1 → (∀ c o, c ≠ z → c ≠ ro → c ≠ j1 → c ≠ j2 → s.heap.get? c = some o → h'.get? c = some o) →
      Q (some (.ref s.heap.objs.size)) { s with heap := h' }) : wpAny (model P w) A (pyNext (.ref z)) Q E s := by
  have hT : s.TypeIs (.ref z) "zip" := ⟨_, Z.z, rfl⟩
  obtain ⟨a, b, hro⟩ := Z.ro
  unfold pyNext
  refine wpAny_bind (wpAny_attempt (wpAny_callSpecial?_slot (name := Str.ofString "__next__") hT F.slot_zip_next (wpAny_call_entry F.slot_zip_next hT F.entry_zip_next ?_ (F.args_zip_next_1 _))))
  show wpAny _ _ (field (.ref z) 2 >>= _) _ _ _
  refine wpAny_bind (wpAny_field Z.z rfl (x := .bool false) rfl ?_)
  show wpAny _ _ (field (.ref z) 3 >>= _) _ _ _
  refine wpAny_bind (wpAny_field Z.z rfl (x := .ref ti) rfl ?_)
  refine wpAny_bind (wpAny_seqItems Z.ti rfl ?_)
  show wpAny _ _ (Builtin.SmallTypes.ownedTupleIsFree (.ref z) >>= _) _ _ _
  refine wpAny_bind ?_
  unfold Builtin.SmallTypes.ownedTupleIsFree
  refine wpAny_bind (wpAny_field Z.z rfl (x := .none) rfl (wpAny_pure ?_))
  simp only [if_true]
  refine wpAny_bind (wpAny_rule ?_)
  refine wpAny_bind (wpAny_field Z.z rfl (x := .ref ro) rfl ?_)
  refine wpAny_bind (wpAny_setField_rec Z.z (by simp) fun ha hza hsa => ?_)
  replace hza : IsZip ha z ti ro .ellipsis := hza
  refine wpAny_bind ?_
  simp only [List.zipIdx_cons, List.zipIdx_nil, List.forIn_cons, List.forIn_nil]
  refine wpAny_bind (wpAny_bind (wpAny_onRaise ?_))
  show wpAny _ _ (Builtin.SmallTypes.nextOf (.ref j1) >>= _) _ _ _
  refine wpAny_bind (wpAny_nextOf_list_item (li_ext Z.j1 hsa.extBut D.i1z) (p1.extBut hsa.extBut D.l1z) hx fun hb b1 hsb => wpAny_pure ?_)
  have rob : IsPair hb ro a b := hsb.extBut _ _ D.TOi1 (hsa.extBut _ _ D.TOz hro)
  refine wpAny_bind (wpAny_seqItems rob rfl ?_)
  refine wpAny_bind (wpAny_updateSeq_pair rob fun hc roc hsc => ?_)
  replace roc : IsPair hc ro x b := roc
  refine wpAny_bind (wpAny_letGo (wpAny_pure ?_))
  refine wpAny_bind (wpAny_bind (wpAny_onRaise ?_))
  show wpAny _ _ (Builtin.SmallTypes.nextOf (.ref j2) >>= _) _ _ _
  refine wpAny_bind (nx_tup_item (((Z.j2.extBut hsa.extBut D.i2z).extBut hsb.extBut D.i12.symm).extBut hsc.extBut D.TOi2.symm) (((p2.extBut hsa.extBut D.l2z).extBut hsb.extBut D.l2i1).extBut hsc.extBut D.l2TO) hy fun hd d2 hsd => wpAny_pure ?_)
  have rod : IsPair hd ro x b := hsd.extBut _ _ D.TOi2 roc
  refine wpAny_bind (wpAny_seqItems rod rfl ?_)
  refine wpAny_bind (wpAny_updateSeq_pair rod fun he roe hse => ?_)
  replace roe : IsPair he ro x y := roe
  refine wpAny_bind (wpAny_letGo (wpAny_pure (wpAny_pure ?_)))
  refine wpAny_bind (wpAny_seqItems roe rfl ?_)
  refine wpAny_bind (wpAny_newTuple ?_)
  have sz : he.objs.size = s.heap.objs.size := by rw [hse.1, hsd.1, hsc.1, hsb.1, hsa.1]
  have ze : IsZip he z ti ro .ellipsis := hse.extBut _ _ D.TOz.symm (hsd.extBut _ _ D.i2z.symm (hsc.extBut _ _ D.TOz.symm (hsb.extBut _ _ D.i1z.symm hza)))
  have ke : ∀ c o, c ≠ z → c ≠ ro → c ≠ j1 → c ≠ j2 → s.heap.get? c = some o → he.get? c = some o := fun c o c1 c2 c3 c4 e =>
    hse.extBut _ _ c2 (hsd.extBut _ _ c4 (hsc.extBut _ _ c2 (hsb.extBut _ _ c3 (hsa.extBut _ _ c1 e))))
  have e1 : he.IsListIter j1 t1 (i + 1) := li_ext (li_ext (li_ext b1 hsc.extBut D.TOi1.symm) hsd.extBut D.i12) hse.extBut D.TOi1.symm
  have e2 : he.IsTupleIter j2 t2 (i + 1) := d2.extBut hse.extBut D.TOi2.symm
  have zlt : z < he.objs.size := Heap.lt_size ze
  show wpAny _ _ (Builtin.SmallTypes.ownedTupleHandOut (.ref z) (.ref he.objs.size) >>= _) _ _ _
  refine wpAny_bind ?_
  unfold Builtin.SmallTypes.ownedTupleHandOut
  have zf : IsZip (he.push { cls := .type "tuple", data := .seq #[x, y] }) z ti ro .ellipsis := Heap.get?_push_of_some _ ze
  refine wpAny_bind (wpAny_setField_rec zf (by simp) fun hg zg hsg => ?_)
  replace zg : IsZip hg z ti ro (rawInt he.objs.size) := zg
  refine wpAny_setField_rec zg (by simp) fun hk zk hsk => ?_
  replace zk : IsZip hk z ti ro (rawInt he.objs.size) := zk
  have up : ∀ c o, c ≠ z → he.get? c = some o → hk.get? c = some o := fun c o c1 e => hsk.extBut _ _ c1 (hsg.extBut _ _ c1 (Heap.get?_push_of_some _ e))
  have tk : IsPair hk he.objs.size x y := hsk.extBut _ _ (Nat.ne_of_gt zlt) (hsg.extBut _ _ (Nat.ne_of_gt zlt) (Heap.get?_push_size _ rfl))
  have zk8 : hk.objs.size = he.objs.size + 1 := by rw [hsk.1, hsg.1, Heap.size_push]
  rw [sz] at zk tk zk8
  refine wpAny_pure ⟨_, rfl, wpAny_pure ?_⟩
  show Q (some (.ref he.objs.size)) _
  rw [sz]
  exact q hk ⟨zk, up _ _ D.TIz (ke _ _ D.TIz D.TITO D.TIi1 D.TIi2 Z.ti), ⟨_, _, up _ _ D.TOz roe⟩, li_at e1 fun o e => up _ o D.i1z e, e2.at fun o e => up _ o D.i2z e⟩ tk zk8 fun c o c1 c2 c3 c4 e => up c o c1 (ke c o c1 c2 c3 c4 e)
theorem zl_end {Q : Option Value → Shared → Prop} (hh : A.handled = none) (D : ZipApart z ti ro j1 j2 t1 t2) (Z : ZipL s.heap z ti ro j1 j2 t1 t2 .none i) (p1 : s.heap.IsList t1 its1) (p2 : s.heap.IsTuple t2 its2) (hx : its1[i]? = none)
    (q : ∀ h', (∀ c o, c ≠ z → c ≠ ro → c ≠ j1 → c ≠ j2 → s.heap.get? c = some o → h'.get? c = some o) → Q none { s with heap := h' }) : wpAny (model P w) A (pyNext (.ref z)) Q E s := by
  have hT : s.TypeIs (.ref z) "zip" := ⟨_, Z.z, rfl⟩
  unfold pyNext
  refine wpAny_bind (wpAny_attempt (wpAny_callSpecial?_slot (name := Str.ofString "__next__") hT F.slot_zip_next (wpAny_call_entry F.slot_zip_next hT F.entry_zip_next ?_ (F.args_zip_next_1 _))))
  show wpAny _ _ (field (.ref z) 2 >>= _) _ _ _
  refine wpAny_bind (wpAny_field Z.z rfl (x := .bool false) rfl ?_)
  show wpAny _ _ (field (.ref z) 3 >>= _) _ _ _
  refine wpAny_bind (wpAny_field Z.z rfl (x := .ref ti) rfl ?_)
  refine wpAny_bind (wpAny_seqItems Z.ti rfl ?_)
  show wpAny _ _ (Builtin.SmallTypes.ownedTupleIsFree (.ref z) >>= _) _ _ _
  refine wpAny_bind ?_
  unfold Builtin.SmallTypes.ownedTupleIsFree
  refine wpAny_bind (wpAny_field Z.z rfl (x := .none) rfl (wpAny_pure ?_))
  simp only [if_true]
  refine wpAny_bind (wpAny_rule ?_)
  refine wpAny_bind (wpAny_field Z.z rfl (x := .ref ro) rfl ?_)
  refine wpAny_bind (wpAny_setField_rec Z.z (by simp) fun ha hza hsa => ?_)
  replace hza : IsZip ha z ti ro .ellipsis := hza
  refine wpAny_bind ?_
  simp only [List.zipIdx_cons, List.zipIdx_nil, List.forIn_cons, List.forIn_nil]
  refine wpAny_bind (wpAny_bind (wpAny_onRaise ?_))
  show wpAny _ _ (Builtin.SmallTypes.nextOf (.ref j1) >>= _) _ _ _
  refine wpAny_bind (wpAny_nextOf_list_end hh (li_ext Z.j1 hsa.extBut D.i1z) (p1.extBut hsa.extBut D.l1z) hx fun hb e hsb ⟨oe, ge, ce⟩ => ?_)
  have zb : IsZip hb z ti ro .ellipsis := hsb _ _ D.i1z.symm hza
  have nez : e ≠ z := fun z' => by
    subst z'
    rw [zb] at ge
    cases ge
    simp at ce
  refine wpAny_setField_rec zb (by simp) fun hc _ hsc => ?_
  refine wpAny_bind (wpAny_isInstance (T := "StopIteration") (b := true) ⟨oe, hsc.extBut _ _ nez ge, ce⟩ isSubtype_stop ?_)
  exact wpAny_pure (q _ fun c o c1 _ c3 _ x => hsc.extBut _ _ c1 (hsb _ _ c3 (hsa.extBut _ _ c1 x)))
end
abbrev zl1 (h : Heap) (a : Addr) : Heap := h.push { cls := .type "list_iterator", data := .fields #[.ref a, .int 0 0] }
abbrev zl2 (h : Heap) (a b : Addr) : Heap := (zl1 h a).push { cls := .type "tuple_iterator", data := .fields #[.ref b, .int 0 0] }
abbrev zl3 (h : Heap) (a b : Addr) : Heap := (zl2 h a b).push { cls := .type "tuple", data := .seq #[.ref h.objs.size, .ref (zl1 h a).objs.size] }
abbrev zl4 (h : Heap) (a b : Addr) : Heap := (zl3 h a b).push { cls := .type "tuple", data := .seq #[.none, .none] }
abbrev zl5 (h : Heap) (a b : Addr) : Heap := (zl4 h a b).push { cls := .type "zip", data := .fields #[.none, .bool false, .bool false, .ref (zl2 h a b).objs.size, .ref (zl3 h a b).objs.size] }
theorem zl_new (a b : Addr) (xs ys : Array Value) : Meets (Builtin.«zip.__new__» ⟨[.type "zip", .ref a, .ref b], []⟩) (fun _ R s => s.heap.IsList a xs ∧ s.heap.IsTuple b ys ∧ R (.ok (.ret (.ref (zl4 s.heap a b).objs.size))) { s with heap := zl5 s.heap a b }) :=
  .of_wp fun prog w A R s h => by
    obtain ⟨hp, g, d, tk, os⟩ := s
    obtain ⟨ha, hb, h⟩ := h
    have hsub := sub_zip
    have hA : Heap.IsList (Shared.heap ⟨hp, g, d, tk, os⟩) a xs := ha
    have hB : Heap.IsTuple (Shared.heap ⟨hp.push { cls := .type "list_iterator", data := .fields #[.ref a, .int 0 0] }, g, d, tk, os⟩) b ys := by
      obtain ⟨o, e, r⟩ := hb
      exact ⟨o, Heap.get?_push_of_some _ e, r⟩
    wp_walk using wpAny_pyIter_list hA, wpAny_pyIter_tuple hB
    exact ⟨_, rfl, h⟩
section
variable {P : Program} {w : World} {A : Around} {E : Value → Shared → Prop} {s : Shared}
theorem zl_call {a b : Addr} {xs ys : Array Value} {Q : Value → Shared → Prop} (ha : s.heap.IsList a xs) (hb : s.heap.IsTuple b ys)
    (q : ∀ h', ZipL h' (s.heap.objs.size + 4) (s.heap.objs.size + 2) (s.heap.objs.size + 3) s.heap.objs.size (s.heap.objs.size + 1) a b .none 0 → h'.objs.size = s.heap.objs.size + 5 → (∀ c o, s.heap.get? c = some o → h'.get? c = some o) → Q (.ref (s.heap.objs.size + 4)) { s with heap := h' }) :
    wpAny (model P w) A (call (.type "zip") [.ref a, .ref b]) Q E s := by
  refine callType_new F.called_zip (by decide) (F.typeCall_zip_2 _ _) (F.newCall_zip_2 _ _) (fun obj => F.args_object_init_3 obj _ _) F.entry_zip_new (zl_new a b xs ys) ⟨ha, hb, ?_⟩
  have s1 : (zl1 s.heap a).objs.size = s.heap.objs.size + 1 := Heap.size_push ..
  have s2 : (zl2 s.heap a b).objs.size = s.heap.objs.size + 2 := by rw [Heap.size_push, s1]
  have s3 : (zl3 s.heap a b).objs.size = s.heap.objs.size + 3 := by rw [Heap.size_push, s2]
  have s4 : (zl4 s.heap a b).objs.size = s.heap.objs.size + 4 := by rw [Heap.size_push, s3]
  have s5 : (zl5 s.heap a b).objs.size = s.heap.objs.size + 5 := by rw [Heap.size_push, s4]
  have k5 : (zl5 s.heap a b).get? (zl4 s.heap a b).objs.size = some _ := Heap.get?_push_size _ rfl
  have k4 : (zl5 s.heap a b).get? (zl3 s.heap a b).objs.size = some _ := Heap.get?_push_of_some _ (Heap.get?_push_size _ rfl)
  have k3 : (zl5 s.heap a b).get? (zl2 s.heap a b).objs.size = some _ := Heap.get?_push_of_some _ (Heap.get?_push_of_some _ (Heap.get?_push_size _ rfl))
  have k2 : (zl5 s.heap a b).get? (zl1 s.heap a).objs.size = some _ := Heap.get?_push_of_some _ (Heap.get?_push_of_some _ (Heap.get?_push_of_some _ (Heap.get?_push_size _ rfl)))
  have k1 : (zl5 s.heap a b).get? s.heap.objs.size = some _ := Heap.get?_push_of_some _ (Heap.get?_push_of_some _ (Heap.get?_push_of_some _ (Heap.get?_push_of_some _ (Heap.get?_push_size _ rfl))))
  rw [s2, s3, s4] at k5
  rw [s1, s2] at k3
  rw [s3] at k4
  rw [s1] at k2
  show _ ∧ _
  rw [s4]
  exact ⟨⟨_, k5, rfl⟩, q _ ⟨k5, k3, ⟨_, _, k4⟩, ⟨_, k1, rfl, rfl⟩, ⟨_, k2, rfl, rfl⟩⟩ s5 fun c o x => Heap.get?_push_of_some _ (Heap.get?_push_of_some _ (Heap.get?_push_of_some _ (Heap.get?_push_of_some _ (Heap.get?_push_of_some _ x))))⟩
end
def ItzL (K : PySem.W.Frag) (a b : Addr) : It :=
  ⟨fun i H => ∃ xs ys x y, SqL K H a xs ∧ SqT K H b ys ∧ xs[i]? = some x ∧ ys[i]? = some y,
   fun i H v H' => ∃ p x y, v = .ref p ∧ New H p (.tup [x, y]) H' ∧ (∀ xs, SqL K H a xs → xs[i]? = some x) ∧ ∀ ys, SqT K H b ys → ys[i]? = some y,
   fun i H => ∃ xs ys, SqL K H a xs ∧ SqT K H b ys ∧ xs.length ≤ i⟩
theorem turn_zipL {P : Program} {w : World} {K : PySem.W.Frag} {elts : List Expr} {x1} {tpos : Pos} (z ti ro j1 j2 a b : Addr) (D : ZipApart z ti ro j1 j2 a b) :
    Turn P w K (.Tuple elts x1 tpos) (ItzL K a b) [z, ti, ro, j1, j2] z (fun i h => ZipL h z ti ro j1 j2 a b .none i) where
  mem := by simp
  obj := fun i h st c hc => by
    obtain ⟨u, v, hro⟩ := st.ro
    obtain ⟨o1, e1, c1, d1⟩ := st.j1
    obtain ⟨o2, e2, c2, d2⟩ := st.j2
    simp only [List.mem_cons, List.not_mem_nil, or_false] at hc
    rcases hc with rfl | rfl | rfl | rfl | rfl
    · exact ⟨_, st.z, fun v q => nomatch q⟩
    · exact ⟨_, st.ti, fun v q => nomatch q⟩
    · exact ⟨_, hro, fun v q => nomatch q⟩
    · exact ⟨_, e1, fun v q => by rw [d1] at q; cases q⟩
    · exact ⟨_, e2, fun v q => by rw [d2] at q; cases q⟩
  keep := fun i h h' st k => by
    obtain ⟨u, v, hro⟩ := st.ro
    exact ⟨k z (by simp) _ st.z, k ti (by simp) _ st.ti, ⟨u, v, k ro (by simp) _ hro⟩, li_at st.j1 fun o e => k j1 (by simp) o e, st.j2.at fun o e => k j2 (by simp) o e⟩
  item := by
    intro X hP hw hK hc i pins s σ H E I hf st hg
    subst hP hw hK
    obtain ⟨xs, ys, x, y, hx, hy, ex, ey⟩ := hg
    obtain ⟨its1, r1, p1, _⟩ := I.list hx
    obtain ⟨its2, r2, p2, _⟩ := I.tuple hy
    obtain ⟨u, hu, ru⟩ := r1.get ex
    obtain ⟨v, hv, rv⟩ := r2.get ey
    have fz := hf z (by simp)
    refine zl_item D st p1.isList (show s.heap.IsTuple b its2.toArray from p2) (x := u) (y := v) (by simpa using hu) (by simpa using hv) fun h1 Z1 q1 sz1 k1 => ⟨_, rfl, ?_⟩
    refine wpAny_letOwnedTupleGo_zip Z1.z fun h2 z2 sb2 => ?_
    have hlt : ∀ c ∈ [z, ti, ro, j1, j2], c ≠ s.heap.objs.size := fun c hc => by
      obtain ⟨o, e, _⟩ : ∃ o, s.heap.get? c = some o ∧ True := by
        obtain ⟨u', v', hro⟩ := st.ro
        obtain ⟨o1, e1, _⟩ := st.j1
        obtain ⟨o2, e2, _⟩ := st.j2
        simp only [List.mem_cons, List.not_mem_nil, or_false] at hc
        rcases hc with rfl | rfl | rfl | rfl | rfl
        · exact ⟨_, st.z, trivial⟩
        · exact ⟨_, st.ti, trivial⟩
        · exact ⟨_, hro, trivial⟩
        · exact ⟨_, e1, trivial⟩
        · exact ⟨_, e2, trivial⟩
      exact Nat.ne_of_lt (Heap.lt_size e)
    have k2 : ∀ c o, c ∉ [z, ti, ro, j1, j2] → s.heap.get? c = some o → h2.get? c = some o := fun c o hc e => by
      have hz : c ≠ z := fun q => hc (by simp [q])
      exact sb2.extBut _ _ hz (k1 c o hz (fun q => hc (by simp [q])) (fun q => hc (by simp [q])) (fun q => hc (by simp [q])) e)
    have tup2 : h2.get? s.heap.objs.size = some { cls := .type "tuple", data := .seq #[u, v] } := sb2.extBut _ _ (Ne.symm (hlt z (by simp))) q1
    have st2 : ZipL h2 z ti ro j1 j2 a b .none (i + 1) := by
      obtain ⟨u', v', hro⟩ := Z1.ro
      exact ⟨z2, sb2.extBut _ _ D.TIz Z1.ti, ⟨u', v', sb2.extBut _ _ D.TOz hro⟩, li_ext Z1.j1 sb2.extBut D.i1z, Z1.j2.extBut sb2.extBut D.i2z⟩
    have there : ∀ c ∈ [z, ti, ro, j1, j2], ∃ o, h2.get? c = some o := fun c hc => by
      obtain ⟨u', v', hro⟩ := st2.ro
      obtain ⟨o1, e1, _⟩ := st2.j1
      obtain ⟨o2, e2, _⟩ := st2.j2
      simp only [List.mem_cons, List.not_mem_nil, or_false] at hc
      rcases hc with rfl | rfl | rfl | rfl | rfl
      · exact ⟨_, st2.z⟩
      · exact ⟨_, st2.ti⟩
      · exact ⟨_, hro⟩
      · exact ⟨_, e1⟩
      · exact ⟨_, e2⟩
    have I2 : Inv X pins σ (upd H s.heap.objs.size (.tup [x, y])) { s with heap := h2, toks := s.toks } := I.turnedNew k2 hf (Nat.le_refl _) ⟨small_line (by simp), [u, v], .cons ru (.cons rv .nil), ⟨_, tup2, rfl, _, rfl⟩⟩ there
    refine ⟨.ref s.heap.objs.size, _, I2, rfl, ⟨_, x, y, rfl, .mk' I.fresh _, fun ws hw => by rw [I.list_inj hw hx]; exact ex, fun ws hw => by rw [I.tuple_inj hw hy]; exact ey⟩, st2, fun c hc => ?_⟩
    rw [upd_ne (hlt c hc)]
    exact (hf c hc).1
  done := by
    intro X hP hw hK hc i pins s σ H E I hf st hg
    subst hP hw hK
    obtain ⟨xs, ys, hx, hy, hl⟩ := hg
    obtain ⟨its1, r1, p1, _⟩ := I.list hx
    obtain ⟨its2, r2, p2, _⟩ := I.tuple hy
    have l1 := r1.length
    exact zl_end (I.ok.hd hc) D st p1.isList (show s.heap.IsTuple b its2.toArray from p2) (by simp; omega) fun h' k => ⟨rfl, I.turnedL (t' := s.toks) (fun c o hc e => k c o (fun q => hc (by simp [q])) (fun q => hc (by simp [q])) (fun q => hc (by simp [q])) (fun q => hc (by simp [q])) e) hf⟩
  self := fun _ _ _ _ _ st h => wpAny_pyIter_zip st.z h
def iZipL (K : PySem.W.Frag) (ta : TA) : TI := fun σ H R => ta σ H fun vs H1 => ∃ a b, vs = [.ref a, .ref b] ∧ (∃ xs, SqL K H1 a xs) ∧ (∃ ys, SqT K H1 b ys) ∧ R (ItzL K a b) H1
theorem pi_zipL {X : Cx} {elts : List Expr} {x1} {tpos : Pos} {a b : Expr} {ta : TA} {p pos : Pos} (hg : Gl X "zip") (hm : X.mg "zip" = none) (ha : PA X [a, b] ta) (h1 : notStar a = true := by rfl) (h2 : notStar b = true := by rfl) : PI X (.Tuple elts x1 tpos) (.Call (.Name "zip" p) [a, b] [] pos) (iZipL X.K ta) := by
  intro pins s σ H R I h
  have hs2 : starEach [b] X.env = [(false, eval b X.env)] := by rw [star_cons h2, starEach.eq_def]
  have hs : starEach [a, b] X.env = [(false, eval a X.env), (false, eval b X.env)] := by rw [star_cons h1, hs2]
  refine Call_ (ld_blt I hg hm boot_zip (PyProof.Rows.callWith_type1 (thn (ha pos pins s σ H _ I h) fun us s1 ⟨vs, H1, I1, r1, q1⟩ => ?_) (by rw [hs, hs2]) (by rw [hs2]; rfl)))
  obtain ⟨p1, p2, e, ⟨xs, hx⟩, ⟨ys, hy⟩, q⟩ := q1
  subst e
  obtain ⟨u, v, rfl, ru, rv⟩ := vals2 r1
  cases (show u = Value.ref p1 from ru)
  cases (show v = Value.ref p2 from rv)
  obtain ⟨its1, _, t1', _⟩ := I1.list hx
  have t1 := t1'.isList
  obtain ⟨its2, _, t2, _⟩ := I1.tuple hy
  have l1 : p1 < s1.heap.objs.size := by obtain ⟨_, e, _⟩ := t1; exact Heap.lt_size e
  have l2 : p2 < s1.heap.objs.size := by obtain ⟨_, e, _⟩ := t2; exact Heap.lt_size e
  refine zl_call t1 (show s1.heap.IsTuple p2 its2.toArray from t2) fun h' Z sz k => wpAny_pyIter_zip Z.z ?_
  refine ⟨_, [s1.heap.objs.size + 4, s1.heap.objs.size + 2, s1.heap.objs.size + 3, s1.heap.objs.size, s1.heap.objs.size + 1], _, _, H1, rfl, I1.kept (t' := s1.toks) k, turn_zipL _ _ _ _ _ p1 p2 (zipApart_new l1 l2), Z, fun c hc => ?_, q⟩
  have hle : s1.heap.objs.size ≤ c := by
    simp only [List.mem_cons, List.not_mem_nil, or_false] at hc
    rcases hc with rfl | rfl | rfl | rfl | rfl
    · exact Nat.le_add_right _ _
    · exact Nat.le_add_right _ _
    · exact Nat.le_add_right _ _
    · exact Nat.le_refl _
    · exact Nat.le_add_right _ _
  exact I1.fpOk hle (I1.hok.fresh hle)
theorem pi_zipLK {X : Cx} (K : PySem.W.Frag) {elts : List Expr} {x1} {tpos : Pos} {a b : Expr} {ta : TA} {p pos : Pos} (hg : Gl X "zip") (hm : X.mg "zip" = none) (ha : PA X [a, b] ta) (h : X.K = K := by rfl) (h1 : notStar a = true := by rfl) (h2 : notStar b = true := by rfl) :
    PI X (.Tuple elts x1 tpos) (.Call (.Name "zip" p) [a, b] [] pos) (iZipL K ta) := h ▸ pi_zipL hg hm ha h1 h2
def Ite (K : PySem.W.Frag) (a : Addr) : It :=
  ⟨fun i H => ∃ xs x, SqL K H a xs ∧ xs[i]? = some x, fun i H v H' => ∃ p x, v = .ref p ∧ New H p (.tup [.int (i : Int), x]) H' ∧ ∀ xs, SqL K H a xs → xs[i]? = some x, fun i H => ∃ xs, SqL K H a xs ∧ xs.length ≤ i⟩
theorem turn_enum {P : Program} {w : World} {K : PySem.W.Frag} {elts : List Expr} {x1} {tpos : Pos} (e it a : Addr) (hne : e ≠ it) :
    Turn P w K (.Tuple elts x1 tpos) (Ite K a) [e, it] e (fun i h => (∃ old, IsEnum h e it (i : Int) old) ∧ h.IsListIter it a i) where
  mem := by simp
  obj := fun i h st c hc => by
    obtain ⟨⟨old, se⟩, o1, e1, c1, d1⟩ := st
    simp only [List.mem_cons, List.not_mem_nil, or_false] at hc
    rcases hc with rfl | rfl
    · exact ⟨_, se, fun v q => nomatch q⟩
    · exact ⟨_, e1, fun v q => by rw [d1] at q; cases q⟩
  keep := fun i h h' st k => ⟨let ⟨old, se⟩ := st.1; ⟨old, k e (by simp) _ se⟩, li_at st.2 fun o z => k it (by simp) o z⟩
  item := by
    intro X hP hw hK hc i pins s σ H E I hf st hg
    subst hP hw hK
    obtain ⟨xs, x, hx, ex⟩ := hg
    obtain ⟨its, r, pl, _⟩ := I.list hx
    obtain ⟨u, hu, ru⟩ := r.get ex
    obtain ⟨⟨old, se⟩, si⟩ := st
    refine wpAny_pyNext_enum_item se si pl.isList (x := u) (by simpa using hu) hne fun h1 eo1 si1 q1 sz1 k1 => ⟨_, rfl, ?_⟩
    refine wpAny_letOwnedTupleGo_enum eo1 fun h2 e2 sb2 => ?_
    have hlt : ∀ c ∈ [e, it], c ≠ s.heap.objs.size := fun c hc => by
      simp only [List.mem_cons, List.not_mem_nil, or_false] at hc
      rcases hc with rfl | rfl
      · exact Nat.ne_of_lt (Heap.lt_size se)
      · obtain ⟨o, z, _⟩ := si
        exact Nat.ne_of_lt (Heap.lt_size z)
    have k2 : ∀ c o, c ∉ [e, it] → s.heap.get? c = some o → h2.get? c = some o := fun c o hc z =>
      sb2.extBut _ _ (fun q => hc (by simp [q])) (k1 c o (fun q => hc (by simp [q])) (fun q => hc (by simp [q])) z)
    have tup2 := sb2.extBut _ _ (Ne.symm (hlt e (by simp))) q1
    have si2 : h2.IsListIter it a (i + 1) := li_ext si1 sb2.extBut (Ne.symm hne)
    have e2' : IsEnum h2 e it ((i + 1 : Nat) : Int) u := by rw [show ((i + 1 : Nat) : Int) = (i : Int) + 1 by omega]; exact e2
    have there : ∀ c ∈ [e, it], ∃ o, h2.get? c = some o := fun c hc => by
      simp only [List.mem_cons, List.not_mem_nil, or_false] at hc
      rcases hc with rfl | rfl
      · exact ⟨_, e2⟩
      · obtain ⟨o, z, _⟩ := si2
        exact ⟨o, z⟩
    have I2 : Inv X pins σ (upd H s.heap.objs.size (.tup [.int (i : Int), x])) { s with heap := h2, toks := s.toks + 1 } := I.turnedNew k2 hf (Nat.le_refl _) ⟨small_line (by simp), [.int i s.toks, u], .cons ⟨_, rfl⟩ (.cons ru .nil), ⟨_, tup2, rfl, _, rfl⟩⟩ there
    refine ⟨.ref s.heap.objs.size, _, I2, rfl, ⟨_, x, rfl, .mk' I.fresh _, fun ws hw => by rw [I.list_inj hw hx]; exact ex⟩, ⟨⟨_, e2'⟩, si2⟩, fun c hc => ?_⟩
    rw [upd_ne (hlt c hc)]
    exact (hf c hc).1
  done := by
    intro X hP hw hK hc i pins s σ H E I hf st hg
    subst hP hw hK
    obtain ⟨xs, hx, hl⟩ := hg
    obtain ⟨its, r, pl, _⟩ := I.list hx
    have l1 := r.length
    obtain ⟨⟨old, se⟩, si⟩ := st
    exact wpAny_pyNext_enum_end (I.ok.hd hc) se si pl.isList (by simp; omega) fun h' k => ⟨rfl, I.turnedL (t' := s.toks) (fun c o hc z => k c o (fun q => hc (by simp [q])) z) hf⟩
  self := fun _ _ _ _ _ st h => let ⟨_, se⟩ := st.1; wpAny_pyIter_enum se h
def iEnum (K : PySem.W.Frag) (ta : TA) : TI := fun σ H R => ta σ H fun vs H1 => ∃ a, vs = [.ref a] ∧ (∃ xs, SqL K H1 a xs) ∧ R (Ite K a) H1
theorem pi_enum {X : Cx} {elts : List Expr} {x1} {tpos : Pos} {a : Expr} {ta : TA} {p pos : Pos} (hg : Gl X "enumerate") (hm : X.mg "enumerate" = none) (ha : PA X [a] ta) (h1 : notStar a = true := by rfl) : PI X (.Tuple elts x1 tpos) (.Call (.Name "enumerate" p) [a] [] pos) (iEnum X.K ta) := by
  intro pins s σ H R I h
  have hs : starEach [a] X.env = [(false, eval a X.env)] := by rw [star_cons h1, starEach.eq_def]
  refine Call_ (ld_blt I hg hm boot_enumerate (PyProof.Rows.callWith_type1 (thn (ha pos pins s σ H _ I h) fun us s1 ⟨vs, H1, I1, r1, q1⟩ => ?_) hs rfl))
  obtain ⟨p1, e, ⟨xs, hx⟩, q⟩ := q1
  subst e
  obtain ⟨u, rfl, ru⟩ := vals1 r1
  cases (show u = Value.ref p1 from ru)
  obtain ⟨its, _, t1, _⟩ := I1.list hx
  refine call_enumerate_list t1.isList fun h' se si sz k => wpAny_pyIter_enum se ?_
  refine ⟨_, [s1.heap.objs.size + 1, s1.heap.objs.size], _, _, H1, rfl, I1.kept (t' := s1.toks) k, turn_enum _ _ p1 (Nat.succ_ne_self _), ⟨⟨_, se⟩, si⟩, fun c hc => ?_, q⟩
  have hle : s1.heap.objs.size ≤ c := by
    simp only [List.mem_cons, List.not_mem_nil, or_false] at hc
    rcases hc with rfl | rfl
    · exact Nat.le_add_right _ _
    · exact Nat.le_refl _
  exact I1.fpOk hle (I1.hok.fresh hle)
theorem pi_enumK {X : Cx} (K : PySem.W.Frag) {elts : List Expr} {x1} {tpos : Pos} {a : Expr} {ta : TA} {p pos : Pos} (hg : Gl X "enumerate") (hm : X.mg "enumerate" = none) (ha : PA X [a] ta) (h : X.K = K := by rfl) (h1 : notStar a = true := by rfl) :
    PI X (.Tuple elts x1 tpos) (.Call (.Name "enumerate" p) [a] [] pos) (iEnum K ta) := h ▸ pi_enum hg hm ha h1
theorem list_no_keys : typeLookup (.type "list") "keys" = pure none := am_miss_of_fast (by decide +kernel)
theorem no_keys {prog : Program} {w : World} {A : Around} {E : Value → Shared → Prop} {s : Shared} {a : Addr} {xs : Array Value} {k : Nat} {sl : Array (Option Value)} {Q : Option Value → Shared → Prop}
    (hx : s.heap.get? a = some { cls := .type "list", dict := none, data := .seq xs k, slots := sl }) (hA : A.handled = none)
    (h : ∀ h' tk, (∀ b o, s.heap.get? b = some o → h'.get? b = some o) → Q none { s with heap := h', toks := tk }) : wpAny (model prog w) A (getAttr? (.ref a) "keys") Q E s := by
  obtain ⟨hp, g, d, tk, os⟩ := s
  have hT : ∀ tk', (⟨hp, g, d, tk', os⟩ : Shared).TypeIs (.ref a) "list" := fun _ => ⟨_, hx, rfl⟩
  have f1 := sub_AttributeError
  have f3 := F.slot_list_getattribute.lookup
  have f4 := F.slot_list_getattribute.bind (.ref a)
  have f5 := am_list_getattr_none
  unfold getAttr? getAttrBy? getAttrBy
  repeat (any_goals (first | assumption | exact hT _ | ((with_reducible show wpAny _ _ (call (Value.builtin "list.__getattribute__") _ _) _ _ _); refine call_meets F.slot_list_getattribute (hT _) am_entry_list_getattribute (F.args_list_getattribute_2 _ _) (meets_getattribute_miss_list a xs k sl "keys" _ list_no_keys (by decide +kernel) (by decide)) ⟨hx, hA, fun h' tk' e hx' => ?_⟩) | wp_step))
  obtain ⟨t', u', he⟩ := hx'.there
  show wpAny _ _ (getattributeRaised _ _ _ _ _ _ _) _ _ _
  unfold getattributeRaised
  repeat (any_goals (first | assumption | wp_step))
  exact h _ _ hx'.keeps
theorem entry_dict_update_loop : entryFor table "dict.update.loop" = some Builtin.«dict.update.loop» := entryFor_of_tree (by kernel_rfl)
theorem plain_dict_update_loop : plainId "dict.update.loop" = true := by decide +kernel
section
variable {P : Program} {w : World} {κ : Type} [DecidableEq κ] {knd : KeyKind P w κ} {A : Around} {R : Result → Shared → Prop} {it : Addr} {fp wr : List Addr} {G : Array GenState → Array GenState → Prop} {n : Nat} {Pv : Nat → Value → Prop} {St : Nat → Shared → Prop}
def PairsAt (knd : KeyKind P w κ) (h : Heap) (bad : List Addr) (Pv : Nat → Value → Prop) (kvs : List (κ × Value)) : Prop := ∀ i v k u, Pv i v → kvs[i]? = some (k, u) → ∃ p key, v = .ref p ∧ p ∉ bad ∧ knd.is k key = true ∧ h.IsTuple p #[key, u]
theorem PairsAt.kept {h h' : Heap} {bad : List Addr} {kvs : List (κ × Value)} (x : PairsAt knd h bad Pv kvs) (k : ∀ b o, b ∉ bad → h.get? b = some o → h'.get? b = some o) : PairsAt knd h' bad Pv kvs := fun i v k' u pv e => by
  obtain ⟨p, key, e1, e2, e3, o, ho, r⟩ := x i v k' u pv e
  exact ⟨p, key, e1, e2, e3, o, k p o e2 ho, r⟩
theorem dict_turns (W : WalksS P w A.in1 it fp wr G n Pv St) (a : Addr) (ha : a ∉ fp) (kvs : List (κ × Value)) (hn : kvs.length = n) (hz : n ≤ sizeLine) :
    ∀ (m i : Nat) (j : Int) (tk : Tok) (s : Shared), n - i = m → i ≤ n → St i s → PairsAt knd s.heap (a :: wr) Pv kvs → s.heap.DictOf knd a (merged [] (kvs.take i)) → (∀ s', Moved (a :: wr) G s s' → s'.heap.DictOf knd a (merged [] kvs) → R (.ok (.ret .none)) s') →
      codeAny (model P w) A (.builtin "dict.update.loop" ⟨[.ref a, .ref it, .int j tk, .none], []⟩) R s := by
  have haw : a ∉ wr := fun h => ha (W.sub _ h)
  have up : ∀ b ∈ wr, b ∈ a :: wr := fun b h => List.mem_cons_of_mem _ h
  have dkept : ∀ {h h' : Heap} {l : List (κ × Value)}, h.DictOf knd a l → (∀ o, h.get? a = some o → h'.get? a = some o) → h'.DictOf knd a l := fun x k => let ⟨o, es, ep, ho, r⟩ := x; ⟨o, es, ep, k o ho, r⟩
  intro m
  induction m with
  | zero =>
    intro i j tk s hm hi st pa x q
    obtain rfl : i = n := by omega
    rw [List.take_of_length_le (Nat.le_of_eq hn)] at x
    refine codeAny_builtin entry_dict_update_loop ?_
    rw [Around.under_plainId plain_dict_update_loop _]
    refine wpAny_bind (W.done s _ _ st fun s' mv => ?_)
    show wpAny _ _ (Builtin.Dict.addKeywords a [] >>= _) _ _ _
    exact wpAny_bind (wpAny_pure (wpAny_pure (q s' (mv.mono up) (dkept x fun o e => mv.heap a _ haw e))))
  | succ m ih =>
    intro i j tk s hm hi st pa x q
    have lt : i < n := by omega
    have hk : kvs[i]? = some (kvs[i].1, kvs[i].2) := by simp [hn, lt]
    refine codeAny_builtin entry_dict_update_loop ?_
    rw [Around.under_plainId plain_dict_update_loop _]
    refine wpAny_bind (W.item i s _ _ lt st fun v s' pv st' mv => ?_)
    have x' := dkept (h' := s'.heap) x fun o e => mv.heap a _ haw e
    have pa' : PairsAt knd s'.heap (a :: wr) Pv kvs := pa.kept fun b o hb e => mv.heap b o (fun z => hb (up b z)) e
    obtain ⟨p, key, rfl, np, is, o, ho, hc, z, hd⟩ := pa' i v _ _ pv hk
    refine wpAny_bind (wpAny_holding (wpAny_bind ?_))
    refine wpAny_tryCatch (m := Builtin.Dict.pairItems (Value.ref p)) ?_
    unfold Builtin.Dict.pairItems
    refine wpAny_bind (wpAny_typeOf (T := "tuple") ⟨o, ho, hc⟩ ?_)
    rw [if_pos (show (Value.type "tuple" == Value.type "list" || Value.type "tuple" == Value.type "tuple") = true from rfl)]
    refine wpAny_bind (wpAny_seqItems ho hd (wpAny_pure ?_))
    show wpAny _ _ (holding [key, kvs[i].2] (dictSet a key kvs[i].2)) _ _ _
    have len := merged_length_le ([] : List (κ × Value)) (kvs.take i)
    rw [List.length_take, List.length_nil] at len
    refine wpAny_holding (wpAny_dictSet_pairs (hsz := by omega) is x' fun h' x2 sb => ?_)
    rw [← merged_take_succ [] kvs i _ hk] at x2
    have k2 : ∀ b o, b ∉ a :: wr → s'.heap.get? b = some o → h'.get? b = some o := fun b o hb e => by rw [sb.2 b (fun h => hb (h ▸ List.mem_cons_self))]; exact e
    refine wpAny_pure ⟨plainId_quiet plain_dict_update_loop _, ih (i + 1) (j + 1) _ _ (by omega) lt (W.frame _ s' _ _ st' (Nat.le_succ _) fun b hb o e => ?_) (pa'.kept k2) x2 fun s2 mv2 x4 => ?_⟩
    · rw [sb.2 b (fun h => ha (h ▸ hb))]; exact e
    · exact q s2 (Moved.trans W.gtrans ((mv.mono up).then_heap (Nat.le_succ _) fun b o hb e => k2 b o hb e) mv2) x4
end
section
variable {P : Program} {w : World} {κ : Type} [DecidableEq κ] {knd : KeyKind P w κ} {A : Around} {E : Value → Shared → Prop} {s : Shared}
theorem dict_of_list {l : Addr} {its : Array Value} {n : Nat} {sl : Array (Option Value)} {kvs : List (κ × Value)} {Q : Value → Shared → Prop} (hh : A.handled = none) (hl : s.heap.get? l = some { cls := .type "list", dict := none, data := .seq its n, slots := sl }) (hk : kvs.length = its.size) (hz : its.size ≤ sizeLine)
    (hi : ∀ (i : Nat) v k u, its[i]? = some v → kvs[i]? = some (k, u) → ∃ p key, v = .ref p ∧ knd.is k key = true ∧ s.heap.IsTuple p #[key, u])
    (h : ∀ (h' : Heap) (tk : Nat), h'.DictOf knd s.heap.objs.size (merged [] kvs) → (∀ b o, s.heap.get? b = some o → h'.get? b = some o) → Q (.ref s.heap.objs.size) { s with heap := h', toks := tk }) :
    wpAny (model P w) A (call (.type "dict") [.ref l]) Q E s := by
  refine callType_codes (Q₁ := fun obj s₁ => obj = .ref s.heap.objs.size ∧ s₁ = { s with heap := s.heap.push { cls := .type "dict", data := .dict #[] } }) F.kt_called_dict (F.kt_typeCall_dict_1 _) F.entry_dict_init (kt_code_dict_new _ ⟨rfl, rfl⟩) ?_
  rintro obj s₁ ⟨rfl, rfl⟩
  have hnew : (s.heap.push { cls := .type "dict", data := .dict #[] }).DictOf knd s.heap.objs.size [] := Heap.DictOf.new s.heap
  have hl' : (s.heap.push { cls := .type "dict", data := .dict #[] }).get? l = some { cls := .type "list", dict := none, data := .seq its n, slots := sl } := Heap.get?_push_of_some _ hl
  refine ⟨hnew.typeIs, F.args_dict_init_2 _ _, ?_⟩
  unfold Builtin.«dict.__init__»
  refine wpAny_bind ?_
  unfold Builtin.Dict.selfAndRest
  refine wpAny_bind (wpAny_notOrdered_dict hnew.typeIs ?_)
  show wpAny _ _ (pure (s.heap.objs.size, [Value.ref l])) _ _ _
  refine wpAny_pure ?_
  show wpAny _ _ (Builtin.Dict.updateFrom "dict.__init__" s.heap.objs.size (.ref l) [] .none) _ _ _
  unfold Builtin.Dict.updateFrom
  refine wpAny_bind (wpAny_typeOf (T := "list") ⟨_, hl', rfl⟩ ?_)
  rw [if_pos (by decide)]
  refine wpAny_bind (no_keys hl' (by simp [hh]) fun h1 tk1 k1 => ?_)
  rw [if_pos (show (none : Option Value).isNone = true from rfl)]
  refine wpAny_bind (wpAny_rule (wpAny_bind ?_))
  have hl1 : h1.IsList l its := ⟨_, k1 _ _ hl', rfl, n, rfl⟩
  refine wpAny_pyIter_list hl1 ?_
  have ll : l < s.heap.objs.size := Heap.lt_size hl
  have dlt : s.heap.objs.size < h1.objs.size := by
    obtain ⟨o, _, _, ho, _⟩ := hnew
    exact Heap.lt_size (k1 _ _ ho)
  have h3 : A.in1.in1.handled = none := by simp [hh]
  have lt1 : l < h1.objs.size := Nat.lt_trans ll dlt
  have nf : s.heap.objs.size ∉ [h1.objs.size, l] := fun z => by
    rcases List.mem_cons.mp z with z | z
    · exact absurd z (Nat.ne_of_lt dlt)
    · exact absurd (List.mem_singleton.mp z) (Nat.ne_of_gt ll)
  have up : ∀ b o, s.heap.get? b = some o → (h1.push { cls := .type "list_iterator", data := .fields #[.ref l, .int 0 0] }).get? b = some o := fun b o e => Heap.get?_push_of_some _ (k1 _ _ (Heap.get?_push_of_some _ e))
  refine wpAny_pure ⟨plainId_quiet plain_dict_update_loop _, dict_turns (knd := knd) (A := A.in1) ((Walks.list h3 _ l (Nat.ne_of_lt lt1) its).toS) s.heap.objs.size nf kvs hk hz (its.size - 0) 0 0 _ _ rfl (Nat.zero_le _) ⟨⟨_, Heap.get?_push_size _ rfl, rfl, rfl⟩, hl1.push _⟩ ?pa ?x0 ?q0⟩
  case pa =>
    intro i v k u pv e
    obtain ⟨p, key, e1, e2, o, ho, r⟩ := hi i v k u pv e
    have lp := Heap.lt_size ho
    refine ⟨p, key, e1, fun z => ?_, e2, o, up p o ho, r⟩
    rcases List.mem_cons.mp z with z | z
    · exact absurd z (Nat.ne_of_lt lp)
    · exact absurd (List.mem_singleton.mp z) (Nat.ne_of_lt (Nat.lt_trans lp dlt))
  case x0 =>
    obtain ⟨o, es, ep, ho, r⟩ := hnew
    exact ⟨o, es, ep, Heap.get?_push_of_some _ (k1 _ _ ho), r⟩
  case q0 =>
    intro s' mv x'
    obtain ⟨h', g', d', tk', os'⟩ := s'
    have eg : g' = s.gens := mv.gens
    have ed : d' = s.drawn := mv.drawn
    have eo : os' = s.os := mv.os
    subst eg; subst ed; subst eo
    refine ⟨rfl, h h' tk' x' fun b o e => mv.heap b o (fun z => ?_) (up b o e)⟩
    have lb := Heap.lt_size e
    rcases List.mem_cons.mp z with z | z
    · exact absurd z (Nat.ne_of_lt lb)
    · exact absurd (List.mem_singleton.mp z) (Nat.ne_of_lt (Nat.lt_trans lb dlt))
end
theorem DGet.b {H : Hp} {a : Addr} {kvs : List (Key × V)} {b : Bool} (e : H a = some (.dK kvs)) : DGet H a (.bl b) (valV kvs (.inl (blI b))) := .inl ⟨kvs, _, .inl e, .inr ⟨b, rfl, rfl⟩, rfl⟩
theorem DPut.b {H : Hp} {a : Addr} {kvs : List (Key × V)} {b : Bool} {v : V} (e : H a = some (.dK kvs)) (hl : kvs.length < sizeLine) : DPut H a (.bl b) v (upd H a (.dK (putK kvs (.inl (blI b)) v))) := .inl ⟨kvs, _, e, .inr ⟨b, rfl, rfl⟩, hl, rfl⟩
theorem DGet.n {H : Hp} {a : Addr} {kvs : List (Key × V)} {n : Int} (e : H a = some (.dK kvs)) : DGet H a (.int n) (valV kvs (.inl n)) := DGet.k (k := .inl n) e
theorem DPut.n {H : Hp} {a : Addr} {kvs : List (Key × V)} {n : Int} {v : V} (e : H a = some (.dK kvs)) (hl : kvs.length < sizeLine) : DPut H a (.int n) v (upd H a (.dK (putK kvs (.inl n) v))) := DPut.k (k := .inl n) e hl
def rInDc (neg : Bool) : R2 := fun y x H Q => ∃ a o, x = .ref a ∧ DGet H a y o ∧ Q (.bl (if neg then !o.isSome else o.isSome)) H
section
variable {X : Cx} {o i value : Expr} {pos pos' : Pos} {td ty tv : TE}
theorem op_in_d (hu : X.A.units + 8 < cLine) : OpR X (compareOp .In) (rInDc false) := by
  intro pins s σ H y x v u Q I ry rx h
  obtain ⟨a, o, rfl, g, q⟩ := h
  obtain rfl : u = Value.ref a := rx
  exact d_in (by omega) I g ry fun s3 I3 => ⟨.bl o.isSome, H, I3, rfl, q⟩
theorem op_notin_d (hu : X.A.units + 8 < cLine) : OpR X (compareOp .NotIn) (rInDc true) := by
  intro pins s σ H y x v u Q I ry rx h
  obtain ⟨a, o, rfl, g, q⟩ := h
  obtain rfl : u = Value.ref a := rx
  exact d_notIn (by omega) I g ry fun s3 I3 => ⟨.bl (!o.isSome), H, I3, rfl, q⟩
theorem pe_dgetH (hu : X.A.units + 8 < cLine) (ho : PE X o td) (hi : PE X i ty) (hs : NoSl i) : PE X (.Subscript o i pos) (tDGet td ty) := pe_dget (by omega) ho hi hs
theorem ps_dputH (hu : X.A.units + 8 < cLine) (ho : PE X o td) (hi : PE X i ty) (hv : PE X value tv) (hs : swapsWith value (some (.Subscript o i pos')) pos.line X.env = pure false) :
    PS X (.Assign [.Subscript o i pos'] value pos) (sDPut td ty tv) := ps_dput (by omega) ho hi hv hs
def tDNewN : TE := fun _ H Q => ∀ p H', New H p (.dK []) H' → Q (.ref p) H'
def tDNewTN : TE := fun _ H Q => ∀ p H', New H p (.dT []) H' → Q (.ref p) H'
theorem pe_dnewN : PE X (.Dict [] [] pos) tDNewN := fun pins s σ H Q I h => pe_dnewK pins s σ H Q I fun p np => h p _ (.mk' np _)
theorem pe_dnewTN : PE X (.Dict [] [] pos) tDNewTN := fun pins s σ H Q I h => pe_dnewT pins s σ H Q I fun p np => h p _ (.mk' np _)
def rLenD : List V → Hp → VK → Prop := fun xs H Q => ∃ a kvs, xs = [V.ref a] ∧ H a = some (.dK kvs) ∧ Q (.int kvs.length) H
theorem call_lenDK : CallR X (.builtin "len") rLenD := call_lenD
end
section
variable {prog : Program} {w : World} {κ : Type} [DecidableEq κ] {knd : HeapKind prog w κ} {A : Around} {E : Value → Shared → Prop} {s : Shared}
theorem meets_len_h (d : Addr) (hd : (d == sysModules) = false) :
    MeetsIn prog w (Builtin.«dict.__len__» ⟨[.ref d], []⟩) (fun _ R s => ∃ xs, s.heap.DictOfH knd d xs ∧ R (.ok (.ret (.int xs.length s.toks))) { s with toks := s.toks + 1 }) :=
  .of_wp fun A R s ⟨xs, hm, h⟩ => by
    obtain ⟨o, es, ep, ho, hc, hdat, he, _⟩ := hm
    show wpAny _ _ (dictSize d >>= _) _ _ s
    unfold dictSize
    refine wpAny_bind (wpAny_bind (wpAny_dictEntries ho hdat (wpAny_pure ?_)))
    show wpAny _ _ (Builtin.Dict.pendingCount d >>= _) _ _ s
    refine wpAny_bind (wpAny_pendingCount_other hd (wpAny_ret_mkInt ?_))
    have e : es.size = xs.length := by rw [← Array.length_toList, he, List.length_map]
    rw [Nat.add_zero, e]
    exact h
theorem len_dict_h {d : Addr} {xs : List (κ × Addr × Value)} {Q : Value → Shared → Prop} (hd : (d == sysModules) = false) (hm : s.heap.DictOfH knd d xs) (hfit : (xs.length : Int) < 2 ^ 63) (hT : s.TypeIs (.ref d) "dict")
    (h : Q (.int xs.length (s.toks + 1)) { s with toks := s.toks + 1 + 1 }) : wpAny (model prog w) A (call (.builtin "len") [.ref d]) Q E s := by
  refine Calls.call_function_entry kind_len plain_len entry_len (args_len1 _) ?_
  unfold Builtin.«len»
  refine wpAny_bind (m := oneArg "len" _) (wpAny_pure ?_)
  refine wpAny_bind (m := callSpecial? (.ref d) (Str.ofString "__len__")) (wpAny_callSpecial?_slot (name := Str.ofString "__len__") hT PySem.F.slot_dict_len (call_meetsIn PySem.F.slot_dict_len hT PySem.F.entry_dict_len (PySem.F.args_dict_len_1 _) (meets_len_h d hd) ⟨xs, hm, ?_⟩))
  show wpAny _ _ _ _ _ { s with toks := s.toks + 1 }
  refine wpAny_bind (wpAny_holding (wpAny_pure (wpAny_bind (wpAny_letGo ?_))))
  show wpAny _ _ (if ((xs.length : Nat) : Int) < 0 then _ else _) _ _ _
  rw [if_neg (by omega)]
  show wpAny _ _ (if ((xs.length : Nat) : Int) ≥ 2 ^ 63 then _ else _) _ _ _
  rw [if_neg (by omega)]
  exact wpAny_bind (wpAny_mkInt (wpAny_pure ⟨_, rfl, h⟩))
end
def rLenT : List V → Hp → VK → Prop := fun xs H Q => ∃ a kvs, xs = [V.ref a] ∧ H a = some (.dT kvs) ∧ Q (.int kvs.length) H
theorem call_lenT {X : Cx} : CallR X (.builtin "len") rLenT := by
  intro pins s σ H xs us Q I r h
  obtain ⟨a, kvs, rfl, ha, q⟩ := h
  obtain ⟨u, rfl, ru⟩ := vals1 r
  cases ru
  obtain ⟨z, hd, ys, rel, dd⟩ := dt_of I.hok ha
  have el := Paired.length rel
  have hT : s.TypeIs (.ref a) "dict" := by obtain ⟨o, _, _, ho, hc, _⟩ := id dd; exact ⟨o, ho, hc.1⟩
  refine len_dict_h hd dd (by rw [sizeLine_eq] at z; omega) hT ?_
  rw [← el]
  exact ⟨.int kvs.length, H, I.tok _, ⟨_, rfl⟩, q⟩
def PairV (H : Hp) (r : V) (kv : Key × V) : Prop := ∃ t, r = .ref t ∧ H t = some (.tup [kV kv.1, kv.2])
theorem pairs_are {P : Program} {w : World} {H : Hp} {h : Heap} (ok : HOk P w H h) : ∀ {rs : List V} {kvs : List (Key × V)} {us : List Value}, Paired (PairV H) rs kvs → Vals rs us →
    ∃ ws : List (Key × Value), KV kvs ws ∧ ∀ (i : Nat) v k u, us[i]? = some v → ws[i]? = some (k, u) → ∃ p key, v = .ref p ∧ (mixKind P w).is k key = true ∧ h.IsTuple p #[key, u]
  | _, _, _, .nil, .nil => ⟨[], .nil, fun i v k u e _ => by simp at e⟩
  | _, _, _, .cons (b := kv) ⟨t, et, ht⟩ pr, .cons rv vs => by
    obtain ⟨ws, h1, h2⟩ := pairs_are ok pr vs
    subst et
    cases (show _ = Value.ref t from rv)
    obtain ⟨_, its, ri, tp⟩ := ok t _ ht
    cases ri with
    | cons r1 rr =>
      cases rr with
      | cons r2 rr =>
        cases rr
        rename_i key u1
        refine ⟨(kv.1, u1) :: ws, .cons ⟨rfl, r2⟩ h1, fun i v k u e1 e2 => ?_⟩
        cases i with
        | zero =>
          simp only [List.getElem?_cons_zero, Option.some.injEq, Prod.mk.injEq] at e1 e2
          obtain ⟨rfl, rfl⟩ := e2
          exact ⟨t, key, e1.symm, kV_is r1, tp⟩
        | succ i =>
          simp only [List.getElem?_cons_succ] at e1 e2
          exact h2 i v k u e1 e2
def rDictOf (K : PySem.W.Frag) : List V → Hp → VK → Prop := fun xs H Q => ∃ (p : Addr) (rs : List V) (kvs : List (Key × V)), xs = [.ref p] ∧ SqL K H p rs ∧ Paired (PairV H) rs kvs ∧ kvs.length ≤ 1000 ∧ ∀ d H', New H d (.dK (mergeK [] kvs)) H' → Q (.ref d) H'
theorem call_dict_of {X : Cx} (hc : X.calm = true) : CallR X (.type "dict") (rDictOf X.K) := by
  intro pins s σ H xs us Q I r h
  obtain ⟨p, rs, kvs, rfl, hx, pr, hz, q⟩ := h
  obtain ⟨u, rfl, rx⟩ := vals1 r
  cases (show u = Value.ref p from rx)
  obtain ⟨vs, rv, ⟨o, n, ho, hcl, hdi, hda⟩, _⟩ := I.list hx
  obtain ⟨ws, kw, hw⟩ := pairs_are I.hok pr rv
  have l1 := rv.length
  have l2 := Paired.length pr
  have l3 := kw.length
  obtain ⟨oc, od, oda, osl⟩ := o
  simp only at hcl hdi hda
  subst hcl; subst hdi; subst hda
  refine dict_of_list (knd := mixKind X.prog X.w) (kvs := ws) (I.ok.hd hc) ho (by rw [List.size_toArray]; omega) (by rw [List.size_toArray]; exact small_line (by omega)) (fun i v k u e1 e2 => hw i v k u (by simpa using e1) e2) fun h' tk x k => ?_
  have hm : KV (mergeK [] kvs) (merged [] ws) := KV.merge kw .nil
  have hl := length_mergeK kvs []
  rw [List.length_nil] at hl
  exact ⟨.ref s.heap.objs.size, _, I.laid (t' := tk) k (Nat.le_refl _) (dk_new (small_line (by omega)) (beq_eq_false_iff_ne.mpr (Ne.symm (Nat.ne_of_lt I.big))) hm x), rfl, q _ _ (.mk' I.fresh _)⟩
theorem call_dict_ofK {X : Cx} (K : PySem.W.Frag) (hc : X.calm = true) (h : X.K = K := by rfl) : CallR X (.type "dict") (rDictOf K) := h ▸ call_dict_of hc
theorem merge_other : ∀ (more acc : List (Key × V)) (k : Key), k ∉ more.map (·.1) → valV (mergeK acc more) k = valV acc k
  | [], _, _, _ => rfl
  | kv :: more, acc, k, h => by
    rw [List.map_cons, List.mem_cons, not_or] at h
    show valV (mergeK (putK acc kv.1 kv.2) more) k = _
    rw [merge_other more _ k h.2, valV_put, if_neg h.1]
theorem merge_at : ∀ (more acc : List (Key × V)) (k : Key) (v : V), (more.map (·.1)).Nodup → (k, v) ∈ more → valV (mergeK acc more) k = some v
  | [], _, _, _, _, h => nomatch h
  | kv :: more, acc, k, v, hn, h => by
    rw [List.map_cons, List.nodup_cons] at hn
    show valV (mergeK (putK acc kv.1 kv.2) more) k = _
    rcases List.mem_cons.mp h with rfl | h
    · rw [merge_other more _ _ hn.1, valV_put, if_pos rfl]
    · exact merge_at more _ k v hn.2 h
def rMaxL (K : PySem.W.Frag) : List V → Hp → VK → Prop := fun xs H Q => ∃ (p : Addr) (ns : List Int), xs = [.ref p] ∧ SqL K H p (ns.map V.int) ∧ 0 < ns.length ∧ ∀ M, M ∈ ns → (∀ a ∈ ns, a ≤ M) → Q (.int M) H
theorem call_max_l {X : Cx} (hc : X.calm = true) : CallR X (.builtin "max") (rMaxL X.K) := by
  intro pins s σ H xs us Q I r h
  obtain ⟨p, ns, rfl, hx, hne, q⟩ := h
  obtain ⟨u, rfl, rx⟩ := vals1 r
  cases (show u = Value.ref p from rx)
  obtain ⟨vs, rv, pl, _⟩ := I.list hx
  have hi := intsAre_of rv
  obtain ⟨xs, e⟩ := hi.allInts.items
  have hl' : s.heap.IsList p (intItems xs) := e ▸ pl.isList
  have hns : ns = xs.toList.map (·.1) := by
    rw [← nums_intItems, ← e]
    exact (show numsOf vs.toArray.toList = ns from hi.numsOf).symm
  have hsz : 0 < xs.size := by rw [hns, List.length_map, Array.length_toList] at hne; exact hne
  refine max_intList (I.ok.hd hc) hl' hsz fun v h' tk hv hk => ?_
  obtain ⟨t, rfl⟩ := intItems_at hv
  obtain ⟨h1, h2⟩ := argBest_gt (numAt xs) (xs.size - 1)
  refine ⟨.int _, H, I.kept hk, ⟨_, rfl⟩, q _ ?_ fun a ha => ?_⟩
  · rw [hns, numAt_eq]; exact getD_mem (by rw [List.length_map, Array.length_toList]; omega)
  · rw [hns] at ha
    obtain ⟨j, hj, rfl⟩ := mem_getD ha
    rw [List.length_map, Array.length_toList] at hj
    rw [← numAt_eq]; exact h2 j (by omega)
theorem call_max_lK {X : Cx} (K : PySem.W.Frag) (hc : X.calm = true) (h : X.K = K := by rfl) : CallR X (.builtin "max") (rMaxL K) := h ▸ call_max_l hc
def rIndex (K : PySem.W.Frag) : V → List V → Hp → VK → Prop := fun x vs H Q => ∃ (p : Addr) (ns : List Int) (k : Int), x = .ref p ∧ vs = [.int k] ∧ SqL K H p (ns.map V.int) ∧ k ∈ ns ∧ ns.length ≤ 1000 ∧ Q (.int (ns.idxOf k : Nat)) H
theorem mt_index {X : Cx} : MtR X "list.index" (rIndex X.K) := by
  intro pins s σ H x xs v us Q I rx rs h
  obtain ⟨p, ns, k, rfl, rfl, hx, hk, hz, q⟩ := h
  cases rx
  obtain ⟨u, rfl, t, rfl⟩ := vals1 rs
  obtain ⟨vs, rv, pl, _⟩ := I.list hx
  have hi := intsAre_of rv
  obtain ⟨⟨cls, dd, data, sl⟩, ho, hc, n, hd⟩ := pl.isList
  simp only at hc hd
  subst hc hd
  have hlen := hi.length
  have hj : ns.idxOf k < ns.length := List.idxOf_lt_length_iff.mpr hk
  refine call_meets PySem.F.slot_list_index ⟨_, ho, rfl⟩ PySem.F.entry_list_index (PySem.F.args_list_index_2 _ _)
    (SeqAt.list_indexAt p vs.toArray n dd sl (.int k t) (isInt k) (ns.idxOf k) (by simpa [hlen] using hj) (by omega) ?_ ?_) ⟨ho, fun y hy => (eq_isInt k t hi y (by simpa using hy)).at _ _, ?_⟩
  · show isInt k vs[ns.idxOf k] = true
    rw [isInt_at k hi _ (by omega) hj]
    simpa using List.getElem_idxOf hj
  · intro j hjs hlt
    show isInt k vs[j] = false
    rw [isInt_at k hi j (by simpa using hjs) (by omega)]
    exact ne_of_lt_idxOf hlt _
  · exact ⟨.int _, H, I.tok _, ⟨_, rfl⟩, q⟩
theorem mt_indexK {X : Cx} (K : PySem.W.Frag) (h : X.K = K := by rfl) : MtR X "list.index" (rIndex K) := h ▸ mt_index
def rCatTN (K : PySem.W.Frag) : R2 := fun x y H Q => ∃ a b xs ys, x = .ref a ∧ y = .ref b ∧ SqT K H a xs ∧ SqT K H b ys ∧ xs ≠ [] ∧ ys ≠ [] ∧ xs.length + ys.length ≤ sizeLine ∧ ∀ p H', New H p (.tup (xs ++ ys)) H' → Q (.ref p) H'
theorem op_catTN {X : Cx} : OpR X (binaryOp .Add) (rCatTN X.K) := fun pins s σ H x y v u Q I rx ry h => by
  obtain ⟨a, b, xs, ys, e1, e2, ha, hb, hx, hy, hz, q⟩ := h
  exact op_catT pins s σ H x y v u Q I rx ry ⟨a, b, xs, ys, e1, e2, ha, hb, hx, hz, fun z => absurd z hy, fun _ p np => q p _ (.mk' np _)⟩
theorem op_catTNK {X : Cx} (K : PySem.W.Frag) (h : X.K = K := by rfl) : OpR X (binaryOp .Add) (rCatTN K) := h ▸ op_catTN
section
variable {tn : List Str} {cp : List (Nat × Str)} {g : TG} {tif : TT} {te : TE} {σ0 : St} {Q : VK} {H1 : Hp} {n : Nat}
def PGen (S : St → Prop) (G : Nat → V → Hp → Prop) (H1 : Hp) (i : Nat) (ys : List V) (σ : St) (H : Hp) : Prop := Same H1 H ∧ S σ ∧ ys.length = i ∧ ∀ j y, ys[j]? = some y → G j y H
theorem cg_by {J : It} (S : St → Prop) (G : Nat → V → Hp → Prop) (hn : n ≤ 1000) (h0 : S (stB tn cp σ0)) (hgo : ∀ i H, i < n → Same H1 H → J.go i H) (hstop : ∀ H, Same H1 H → J.stop n H)
    (hs : ∀ D i ys σ H x H', i < n → Same H1 H → H1 D = none → H D = some (.lst ys) → ys.length = i → (∀ j y, ys[j]? = some y → G j y H) → S σ → J.yld i H x H' → g x σ H' fun σ2 H2 => tif σ2 H2 fun c H3 =>
      if c = true then te σ2 H3 fun v H4 => CStep D n i (PGen S G H1) σ2 v H4 else CSkip D n i (PGen S G H1) σ2 H3)
    (hd : ∀ D ys H, H1 D = none → Same H1 H → H D = some (.lst ys) → ys.length = n → (∀ j y, ys[j]? = some y → G j y H) → Q (.ref D) H) : cBody tn cp g tif te σ0 Q J H1 := by
  refine cb_by n (fun D => PGen S G H1) (small_line hn) (fun D hD => ⟨same_upd hD _, h0, rfl, fun j y e => by simp at e⟩) (fun D i ys σ H _ hi _ p => hgo i H hi p.1) (fun D ys σ H _ _ p => hstop H p.1) ?_ ?_
  · rintro D i ys σ H x H' hD hi hH hl ⟨p1, p2, p3, p4⟩ hy
    exact hs D i ys σ H x H' hi p1 hD hH p3 p4 p2 hy
  · rintro D ys σ H hD hH hl ⟨p1, p2, p3, p4⟩
    exact hd D ys H hD p1 hH p3 p4
theorem cg_step {S : St → Prop} {G : Nat → V → Hp → Prop} {D : Addr} {i : Nat} {ys : List V} {v : V} {σ2 : St} {H H4 : Hp} (hG : ∀ j y H H', TupS H H' → G j y H → G j y H') (hn : n ≤ 1000) (hi : i < n) (hD : H1 D = none) (h4 : H4 D = some (.lst ys)) (hl : ys.length = i)
    (hy : ∀ j y, ys[j]? = some y → G j y H) (ts : TupS H H4) (g4 : Same H1 H4) (s2 : S σ2) (e : G i v H4) : CStep D n i (PGen S G H1) σ2 v H4 := by
  refine cstep (small_line hn) hi h4 (by omega) ⟨g4.wr hD _, s2, by simp [hl], fun j y ej => ?_⟩
  by_cases h : j < ys.length
  · rw [List.getElem?_append_left h] at ej
    exact hG j y _ _ (ts.trans (TupS.wr h4 _)) (hy j y ej)
  · rw [List.getElem?_append_right (by omega)] at ej
    have e0 : j - ys.length = 0 := by
      cases hj : j - ys.length with
      | zero => rfl
      | succ k => rw [hj] at ej; simp at ej
    rw [e0] at ej
    simp at ej
    subst ej
    rw [show j = i by omega]
    exact hG i _ _ _ (TupS.wr h4 _) e
end
theorem yld_enum {K : PySem.W.Frag} {a : Addr} {xs : List V} {i : Nat} {H H' : Hp} {v : V} (hx : SqL K H a xs) (y : (Ite K a).yld i H v H') : ∃ p x, v = .ref p ∧ New H p (.tup [.int (i : Int), x]) H' ∧ xs[i]? = some x := by
  obtain ⟨p, x, e, n, h⟩ := y
  exact ⟨p, x, e, n, h xs hx⟩
theorem yld_zipL {K : PySem.W.Frag} {a b : Addr} {xs ys : List V} {i : Nat} {H H' : Hp} {v : V} (hx : SqL K H a xs) (hy : SqT K H b ys) (z : (ItzL K a b).yld i H v H') : ∃ p x y, v = .ref p ∧ New H p (.tup [x, y]) H' ∧ xs[i]? = some x ∧ ys[i]? = some y := by
  obtain ⟨p, x, y, e, n, h1, h2⟩ := z
  exact ⟨p, x, y, e, n, h1 xs hx, h2 ys hy⟩
def tDisp1T (tk tv : TE) : TE := fun σ H Q => ∀ p H1, New H p (.dT []) H1 → tk σ H1 fun y H2 => tv σ H2 fun z H3 => H3 p = some (.dT []) ∧ ∃ b ks, y = .ref b ∧ H3 b = some (.tup (ks.map kV)) ∧ Q (.ref p) (upd H3 p (.dT [(ks, z)]))
theorem pe_disp1T {X : Cx} {k v : Expr} {tk tv : TE} {pos : Pos} (hu : X.A.units + 8 < cLine) (hk : PE X k tk) (hv : PE X v tv) : PE X (.Dict [some k] [v] pos) (tDisp1T tk tv) := by
  intro pins s σ H Q I q
  have I1 := I.laid (a := s.heap.objs.size) (o := .dT []) (h' := s.heap.push { cls := .type "dict", data := .dict #[] }) (t' := s.toks) (fun _ _ q => Heap.get?_push_of_some _ q) (Nat.le_refl _) (dt_empty s.heap I.big)
  have e : (evalEachOpt [some k] X.env).zip ((evalEach [v] X.env).map fun v => do let x ← v; standAt pos; pure x) = [(eval k X.env, do let x ← eval v X.env; standAt pos; pure x)].map fun p => (some p.1, p.2) := rfl
  rw [arm_eval_Dict, e, dictDisplay_pairs _ (by simp) (by simp)]
  refine wpAny_bind (wpAny_standAt (wpAny_bind ?_))
  unfold subDict
  refine wpAny_bind (wpAny_alloc (wpAny_bind (wpAny_holding ?_)))
  rw [if_pos (by simp)]
  refine wpAny_bind (evalPairs_cons ?_)
  refine thn (hk pins _ σ _ _ I1 (q _ _ (.mk' I.fresh _))) fun kv s2 ⟨y, H2, I2, ry, q2⟩ => ?_
  refine wpAny_bind (thn (hv pins s2 σ H2 _ I2 q2) fun vv s3 ⟨z, H3, I3, rz, ep, b, ks, ey, eb, q3⟩ => ?_)
  subst ey
  obtain rfl : kv = Value.ref b := ry
  refine wpAny_bind (wpAny_standAt (wpAny_pure (evalPairs_nil (wpAny_holding ?_))))
  rw [List.forIn_cons]
  obtain ⟨zz, hd, xs, rel, dd⟩ := dt_of I3.hok ep
  cases rel
  refine wpAny_bind (wpAny_bind ?_)
  show wpAny _ _ (dictSet s.heap.objs.size (Value.ref b) vv >>= _) _ _ _
  refine wpAny_bind (wpAny_dictSet_heap (knd := tupleKind (mixKind X.prog X.w)) (hsz := by rw [List.length_nil]; exact Nat.zero_le _) (show X.A.units < cLine by omega) (key_of I3.hok eb) dd fun h' dd' hs => wpAny_pure ?_)
  dsimp only
  rw [List.forIn_nil]
  refine wpAny_pure (wpAny_pure (wpAny_pure (wpAny_pure ?_)))
  obtain ⟨o, es, ep', hq, h2, h3, h4, h4', h5⟩ := dd'
  refine ⟨.ref s.heap.objs.size, _, d_write I3 (by rw [ep]; exact True.intro) hs ⟨o, hq⟩ ?_, rfl, q3⟩
  refine ⟨small_line (by simp), hd, storedH [] ks b vv, ?_, o, es, ep', hq, h2, h3, h4, h5⟩
  show Paired _ [(ks, z)] [(ks, b, vv)]
  refine .cons ⟨rfl, ?_, rz⟩ .nil
  rw [upd_ne (ne_of eb ep (fun z => nomatch z))]
  exact eb
def NeOk (X : Cx) (k : Nat) (H : Hp) (x y : V) (b : Bool) : Prop := ∀ (pins : List (Addr × Obj)) (σ : St) (s : Shared) (A : Around) (u v : Value), A.units + k < cLine → Inv X pins σ H s → RelV x u → RelV y v → SeqAt.RcNeAt A s u v b
theorem neok_tups {X : Cx} {k : Nat} {H : Hp} {a b : Addr} {xs ys : List V} (hx : SqT X.K H a xs) (hy : SqT X.K H b ys) (e : Nat → Bool) (he : ∀ j (h1 : j < xs.length) (h2 : j < ys.length), EqOk X k H xs[j] ys[j] (e j)) :
    NeOk X (k + 1) H (.ref a) (.ref b) (!((List.range (min xs.length ys.length)).all e && xs.length == ys.length)) := fun pins σ s A u v hu I rx ry => by
  cases (show u = Value.ref a from rx)
  cases (show v = Value.ref b from ry)
  obtain ⟨us, r1, p1, _⟩ := I.tuple hx
  obtain ⟨vs, r2, p2, _⟩ := I.tuple hy
  have l1 := r1.length
  have l2 := r2.length
  have q := SeqAt.RcNeAt.tuples (A := A) (e := e) p1 p2 (by omega) fun j h1 h2 => by
    rw [List.size_toArray] at h1 h2
    obtain ⟨g1, q1⟩ := r1.at h1
    obtain ⟨g2, q2⟩ := r2.at h2
    exact he j g1 g2 pins σ s A.in1 _ _ (by show A.units + 1 + k < cLine; omega) I (by simpa using q1) (by simpa using q2)
  rw [List.size_toArray, List.size_toArray, ← l1, ← l2] at q
  exact q
def rNeM (X : Cx) : R2 := fun x y H Q => ∃ c, NeOk X 8 H x y c ∧ Q (.bl c) H
theorem op_neM {X : Cx} (hu : X.A.units + 8 < cLine) : OpR X (compareOp .NotEq) (rNeM X) := by
  intro pins s σ H x y v u Q I rx ry h
  obtain ⟨c, r, q⟩ := h
  exact r pins σ s X.A v u hu I rx ry _ _ _ _ ⟨.bl c, H, I, rfl, q⟩
end L2
namespace SM
open PySem PySem.Spec PyProof.Rows L2 SS
theorem paired_of {α β : Type} {R : α → β → Prop} : ∀ {xs : List α} {ys : List β}, xs.length = ys.length → (∀ (j : Nat) x y, xs[j]? = some x → ys[j]? = some y → R x y) → Paired R xs ys
  | [], [], _, _ => .nil
  | [], _ :: _, h, _ => by simp at h
  | _ :: _, [], h, _ => by simp at h
  | x :: xs, y :: ys, h, f => .cons (f 0 x y rfl rfl) (paired_of (by simpa using h) fun j a b e1 e2 => f (j + 1) a b (by simpa using e1) (by simpa using e2))
theorem nodup_map_on {α β : Type} {f : α → β} : ∀ {l : List α}, (∀ a ∈ l, ∀ b ∈ l, f a = f b → a = b) → l.Nodup → (l.map f).Nodup
  | [], _, _ => List.nodup_nil
  | x :: l, h, hn => by
    rw [List.nodup_cons] at hn
    rw [List.map_cons, List.nodup_cons]
    refine ⟨fun z => ?_, nodup_map_on (fun a ha b hb => h a (List.mem_cons_of_mem _ ha) b (List.mem_cons_of_mem _ hb)) hn.2⟩
    obtain ⟨y, my, e⟩ := List.mem_map.mp z
    have := h y (List.mem_cons_of_mem _ my) x List.mem_cons_self e
    rw [this] at my
    exact hn.1 my
theorem map_cast_inj : ∀ {a b : List Nat}, (a.map fun (n : Nat) => (n : Int)) = (b.map fun (n : Nat) => (n : Int)) → a = b
  | [], [], _ => rfl
  | [], _ :: _, h => nomatch h
  | _ :: _, [], h => nomatch h
  | x :: a, y :: b, h => by
    rw [List.map_cons, List.map_cons, List.cons.injEq] at h
    rw [map_cast_inj h.2, show x = y by have := h.1; omega]
theorem idx_cast (k : Nat) : ∀ ns : List Nat, (ns.map fun (n : Nat) => (n : Int)).idxOf (k : Int) = ns.idxOf k
  | [] => rfl
  | x :: ns => by
    rw [List.map_cons, List.idxOf_cons, List.idxOf_cons, idx_cast k ns]
    by_cases h : x = k
    · subst h; simp
    · have h1 : (x == k) = false := by simp [h]
      have h2 : ((x : Int) == (k : Int)) = false := by simp; omega
      rw [h1, h2]
def Lk (H : Hp) (b : Addr) (l : List Nat) (g : Nat → Nat) : Prop :=
  (∃ kvs : List (Key × V), H b = some (.dK kvs) ∧ ∀ r ∈ l, valV kvs (.inl (r : Int)) = some (nV (g r))) ∨ ∃ ns : List Nat, H b = some (.lst (ns.map nV)) ∧ ∀ r ∈ l, ns[r]? = some (g r)
theorem Lk.same {H H' : Hp} {b : Addr} {l : List Nat} {g : Nat → Nat} (h : Lk H b l g) (s : Same H H') : Lk H' b l g := by
  rcases h with ⟨kvs, e, z⟩ | ⟨ns, e, z⟩
  · exact .inl ⟨kvs, s _ _ e, z⟩
  · exact .inr ⟨ns, s _ _ e, z⟩
def sp_reached : Sp := fun vs H Q _ => ∃ (a : Addr) (m : Mc), vs = [.ref a] ∧ RepM H a m ∧ m.Ok ∧ ∀ D rooms H', H D = none → Same H H' → H' D = some (.lst (rooms.map nV)) → Come m rooms rooms.length 0 → Q (.ref D) H'
def sp_renamed : Sp := fun vs H Q _ => ∃ (a b : Addr) (l : List Nat) (g : Nat → Nat), vs = [.ref a, .ref b] ∧ H a = some (.tup (l.map nV)) ∧ l.length ≤ 16 ∧ Lk H b l g ∧ ∀ p H', Same H H' → H' p = some (.tup ((l.map g).map nV)) → Q (.ref p) H'
def sp_picked : Sp := fun vs H Q _ => ∃ (a b c : Addr) (m : Mc) (rooms : List Nat) (g : Nat → Nat), vs = [.ref a, .ref b, .ref c] ∧ RepM H a m ∧ m.Ok ∧ H b = some (.lst (rooms.map nV)) ∧ rooms.length ≤ 100 ∧ (∀ r ∈ rooms, r < m.n) ∧
  (∀ r ∈ rooms, Lk H c (m.ways.getD r []) g) ∧ ∀ p H', Same H H' → RepM H' p (picked m rooms g) → Q (.ref p) H'
def sp_numberedB : Sp := fun vs H Q _ => ∃ (a : Addr) (bs : List Bool), vs = [.ref a] ∧ H a = some (.tup (bs.map V.bl)) ∧ bs.length ≤ 100 ∧ ∀ D ns H', H D = none → Same H H' → H' D = some (.lst (ns.map nV)) → Num bs ns → Q (.ref D) H'
def sp_numberedT : Sp := fun vs H Q _ => ∃ (a : Addr) (rs : List V) (ms : List (List Nat)), vs = [.ref a] ∧ H a = some (.lst rs) ∧ Paired (Line H) rs ms ∧ ms.length ≤ 100 ∧ ∀ D ns H', H D = none → Same H H' → H' D = some (.lst (ns.map nV)) → Num ms ns → Q (.ref D) H'
def sp_numbered : Sp := fun vs H Q E => sp_numberedB vs H Q E ∨ sp_numberedT vs H Q E
def sp_finer : Sp := fun vs H Q _ => ∃ (a b : Addr) (m : Mc) (ns : List Nat), vs = [.ref a, .ref b] ∧ RepM H a m ∧ m.Ok ∧ H b = some (.lst (ns.map nV)) ∧ Sorts m ns ∧
  ∀ D fs H', H D = none → Same H H' → H' D = some (.lst (fs.map nV)) → Num ((List.range m.n).map (markOf m ns)) fs → Q (.ref D) H'
section
variable {α κ : Type} [DecidableEq α] [DecidableEq κ]
def tabF (key : α → κ) : Nat → List α → List (κ × V)
  | _, [] => []
  | n, x :: r => (key x, nV n) :: tabF key (n + 1) r
theorem tabF_snoc (key : α → κ) : ∀ (ds : List α) (n : Nat) (d : α), tabF key n (ds ++ [d]) = tabF key n ds ++ [(key d, nV (n + ds.length))]
  | [], n, d => rfl
  | x :: r, n, d => by
    show (key x, nV n) :: tabF key (n + 1) (r ++ [d]) = _
    rw [tabF_snoc key r]
    show _ = (key x, nV n) :: (tabF key (n + 1) r ++ [(key d, nV (n + (r.length + 1)))])
    rw [show n + 1 + r.length = n + (r.length + 1) by omega]
theorem tabF_len (key : α → κ) : ∀ (ds : List α) (n : Nat), (tabF key n ds).length = ds.length
  | [], _ => rfl
  | x :: r, n => by show (tabF key (n + 1) r).length + 1 = r.length + 1; rw [tabF_len key r]
theorem tabF_val {key : α → κ} (inj : ∀ a b, key a = key b → a = b) (x : α) : ∀ (ds : List α) (n : Nat), valV (tabF key n ds) (key x) = if x ∈ ds then some (nV (n + ds.idxOf x)) else none
  | [], n => by simp [tabF, valV_nil]
  | y :: r, n => by
    show valV ((key y, nV n) :: tabF key (n + 1) r) (key x) = _
    by_cases h : y = x
    · subst h
      rw [valV_pos rfl, if_pos List.mem_cons_self]
      simp
    · rw [valV_neg (fun e => h (inj _ _ e)), tabF_val inj x r (n + 1)]
      have e : (x ∈ y :: r) ↔ x ∈ r := by simp [List.mem_cons, Ne.symm h]
      by_cases hr : x ∈ r
      · rw [if_pos hr, if_pos (e.mpr hr), List.idxOf_cons, show (y == x) = false by simp [h], cond_false, show n + 1 + r.idxOf x = n + (r.idxOf x + 1) by omega]
      · rw [if_neg hr, if_neg (fun z => hr (e.mp z))]
theorem tabF_in {key : α → κ} (inj : ∀ a b, key a = key b → a = b) {x : α} {ds : List α} (h : x ∈ ds) : valV (tabF key 0 ds) (key x) = some (nV (nOf ds x)) := by
  rw [tabF_val inj x ds 0, if_pos h, Nat.zero_add]; rfl
theorem tabF_out {key : α → κ} (inj : ∀ a b, key a = key b → a = b) {x : α} {ds : List α} (h : ¬ x ∈ ds) : valV (tabF key 0 ds) (key x) = none := by
  rw [tabF_val inj x ds 0, if_neg h]
theorem tabF_put {key : α → κ} (inj : ∀ a b, key a = key b → a = b) {x : α} {ds : List α} (h : ¬ x ∈ ds) : putK (tabF key 0 ds) (key x) (V.int ((tabF key 0 ds).length : Int)) = tabF key 0 (ds ++ [x]) := by
  rw [putK_new _ (tabF_out inj h), tabF_snoc, tabF_len, Nat.zero_add]
end
def keyB (b : Bool) : Key := .inl (blI b)
def keyL (l : List Nat) : List Key := l.map fun (n : Nat) => (Sum.inl (n : Int) : Key)
theorem keyB_inj (a b : Bool) (e : keyB a = keyB b) : a = b := blI_inj (Sum.inl.inj e)
theorem keyL_inj : ∀ (a b : List Nat), keyL a = keyL b → a = b
  | [], [], _ => rfl
  | [], _ :: _, h => nomatch h
  | _ :: _, [], h => nomatch h
  | x :: a, y :: b, h => by
    rw [keyL, keyL, List.map_cons, List.map_cons, List.cons.injEq] at h
    rw [keyL_inj a b h.2]
    have e : (x : Int) = (y : Int) := Sum.inl.inj h.1
    rw [show x = y by omega]
theorem keyL_V (l : List Nat) : (keyL l).map kV = l.map nV := by unfold keyL; rw [List.map_map]; rfl
def knT (rooms : List Nat) : List (Key × V) := rooms.map fun (r : Nat) => ((Sum.inl (r : Int) : Key), V.bl true)
theorem knT_len (rooms : List Nat) : (knT rooms).length = rooms.length := List.length_map _
theorem knT_val (r : Nat) : ∀ rooms : List Nat, valV (knT rooms) (.inl (r : Int)) = if r ∈ rooms then some (V.bl true) else none
  | [] => by simp [knT, valV_nil]
  | x :: rooms => by
    show valV (((Sum.inl (x : Int) : Key), V.bl true) :: knT rooms) (.inl (r : Int)) = _
    by_cases h : x = r
    · subst h; rw [valV_pos rfl, if_pos List.mem_cons_self]
    · rw [valV_neg (fun e => h (by have := Sum.inl.inj e; omega)), knT_val r rooms]
      have e : (r ∈ x :: rooms) ↔ r ∈ rooms := by simp [List.mem_cons, Ne.symm h]
      by_cases hr : r ∈ rooms
      · rw [if_pos hr, if_pos (e.mpr hr)]
      · rw [if_neg hr, if_neg (fun z => hr (e.mp z))]
theorem knT_put {r : Nat} {rooms : List Nat} (h : ¬ r ∈ rooms) : putK (knT rooms) (.inl (r : Int)) (V.bl true) = knT (rooms ++ [r]) := by
  rw [putK_new _ (by rw [knT_val, if_neg h])]
  simp [knT]
theorem TupS.wrT {H : Hp} {p : Addr} {kvs : List (List Key × V)} (h : H p = some (.dT kvs)) (o : HO) : TupS H (upd H p o) := fun b ys e => by rw [upd_ne (ne_of e h (by intro z; cases z))]; exact e
section
variable {X : Cx} {H : Hp}
theorem all_range_true (n : Nat) : ((List.range n).all fun _ => true) = true := by simp
theorem rc_line {a b : Addr} {l : List Nat} {k : Nat} (ha : H a = some (.tup (l.map nV))) (hb : H b = some (.tup (l.map nV))) : RcOk X (k + 1) H (.ref a) (.ref b) true := by
  have r := rcok_tups (X := X) (k := k) (.of ha) (.of hb) (fun _ => true) fun j h1 h2 => by
    have e : (l.map nV)[j] = V.int (l[j]'(by simpa using h1) : Nat) := by simp
    rw [e]
    have z := eqok_flat (X := X) (k := k) (H := H) (x := V.int ((l[j]'(by simpa using h1) : Nat) : Int)) (y := V.int ((l[j]'(by simpa using h1) : Nat) : Int)) rfl rfl
    rw [show eqV (V.int ((l[j]'(by simpa using h1) : Nat) : Int)) (V.int ((l[j]'(by simpa using h1) : Nat) : Int)) = true by simp [eqV]] at z
    exact z
  rw [all_range_true, show ((l.map nV).length == (l.map nV).length) = true by simp, Bool.true_and] at r
  exact r
theorem rc_bools {a b : Addr} {l : List Bool} {k : Nat} (ha : H a = some (.tup (l.map V.bl))) (hb : H b = some (.tup (l.map V.bl))) : RcOk X (k + 1) H (.ref a) (.ref b) true := by
  have r := rcok_tups (X := X) (k := k) (.of ha) (.of hb) (fun _ => true) fun j h1 h2 => by
    have e : (l.map V.bl)[j] = V.bl (l[j]'(by simpa using h1)) := by simp
    rw [e]
    have z := eqok_flat (X := X) (k := k) (H := H) (x := V.bl (l[j]'(by simpa using h1))) (y := V.bl (l[j]'(by simpa using h1))) rfl rfl
    rw [show eqV (V.bl (l[j]'(by simpa using h1))) (V.bl (l[j]'(by simpa using h1))) = true by simp [eqV]] at z
    exact z
  rw [all_range_true, show ((l.map V.bl).length == (l.map V.bl).length) = true by simp, Bool.true_and] at r
  exact r
theorem eqok_of {a b : Addr} {k : Nat} (r : RcOk X k H (.ref a) (.ref b) true) : EqOk X k H (.ref a) (.ref b) true := by
  by_cases h : a = b
  · subst h; exact eqok_same
  · exact .of_rc h r
theorem rc_lines {a b : Addr} {rs ts : List V} {ls : List (List Nat)} {k : Nat} (ha : H a = some (.tup rs)) (hb : H b = some (.tup ts)) (pa : Paired (Line H) rs ls) (pb : Paired (Line H) ts ls) : RcOk X (k + 2) H (.ref a) (.ref b) true := by
  have l1 := SS.Paired.len pa
  have l2 := SS.Paired.len pb
  have r := rcok_tups (X := X) (k := k + 1) (.of ha) (.of hb) (fun _ => true) fun j h1 h2 => by
    obtain ⟨x, ex, p, ep, hp⟩ := SS.Paired.at pa (List.getElem?_eq_getElem h1)
    obtain ⟨y, ey, q, eq, hq⟩ := SS.Paired.at pb (List.getElem?_eq_getElem h2)
    rw [ex] at ey
    cases ey
    rw [ep, eq]
    exact eqok_of (rc_line hp hq)
  rw [all_range_true, show (rs.length == ts.length) = true by simp; omega, Bool.true_and] at r
  exact r
theorem rc_mach {a b : Addr} {m : Mc} (ha : RepM H a m) (hb : RepM H b m) : RcOk X 8 H (.ref a) (.ref b) true := by
  obtain ⟨b1, c1, rs, e1, e2, e3, e4⟩ := ha
  obtain ⟨b2, c2, ts, f1, f2, f3, f4⟩ := hb
  have r := rcok_tups (X := X) (k := 7) (.of e1) (.of f1) (fun _ => true) fun j h1 h2 => by
    have hj : j = 0 ∨ j = 1 ∨ j = 2 := by simp only [List.length_cons, List.length_nil] at h1; omega
    rcases hj with rfl | rfl | rfl
    · have z := eqok_flat (X := X) (k := 7) (H := H) (x := V.int (m.w : Int)) (y := V.int (m.w : Int)) rfl rfl
      rw [show eqV (V.int (m.w : Int)) (V.int (m.w : Int)) = true by simp [eqV]] at z
      exact z
    · exact eqok_of ((rc_lines (k := 5) e2 f2 e3 f3))
    · exact eqok_of ((rc_bools (k := 6) e4 f4))
  exact r
theorem ne_mach {a b : Addr} {m : Mc} (ha : RepM H a m) (hb : RepM H b m) : NeOk X 8 H (.ref a) (.ref b) false := by
  obtain ⟨b1, c1, rs, e1, e2, e3, e4⟩ := ha
  obtain ⟨b2, c2, ts, f1, f2, f3, f4⟩ := hb
  have r := neok_tups (X := X) (k := 7) (.of e1) (.of f1) (fun _ => true) fun j h1 h2 => by
    have hj : j = 0 ∨ j = 1 ∨ j = 2 := by simp only [List.length_cons, List.length_nil] at h1; omega
    rcases hj with rfl | rfl | rfl
    · have z := eqok_flat (X := X) (k := 7) (H := H) (x := V.int (m.w : Int)) (y := V.int (m.w : Int)) rfl rfl
      rw [show eqV (V.int (m.w : Int)) (V.int (m.w : Int)) = true by simp [eqV]] at z
      exact z
    · exact eqok_of (rc_lines (k := 5) e2 f2 e3 f3)
    · exact eqok_of (rc_bools (k := 6) e4 f4)
  exact r
end
end SM
namespace L2
open PySem PySem.Spec PyProof.Rows
abbrev IsZipF (h : Heap) (z ti ro : Addr) (f0 f1 : Value) : Prop := h.get? z = some { cls := .type "zip", dict := none, data := .fields #[f0, f1, .bool false, .ref ti, .ref ro], slots := #[] }
theorem load_alive {M : Model} {A : Around} {E : Value → Shared → Prop} {s : Shared} {a : Addr} {Q : Option Obj → Shared → Prop} (h : Q (s.heap.get? a) s) : wpAny M A (loadIfAlive a) Q E s := fun _ _ _ => h
structure ZipG (h : Heap) (z ti ro j1 j2 t1 t2 : Addr) (i : Nat) : Prop where
  z : ∃ f0 f1, IsZipF h z ti ro f0 f1 ∧ (f0 = Value.none ∨ ∃ a : Addr, f0 = rawInt a)
  ti : IsPair h ti (.ref j1) (.ref j2)
  ro : ∃ a b, IsPair h ro a b
  j1 : h.IsTupleIter j1 t1 i
  j2 : h.IsTupleIter j2 t2 i
section
variable {P : Program} {w : World} {A : Around} {E : Value → Shared → Prop} {s : Shared} {z ti ro j1 j2 t1 t2 : Addr} {i : Nat} {its1 its2 : Array Value}
theorem owned_free {f0 f1 : Value} {Q : Bool → Shared → Prop} (hz : IsZipF s.heap z ti ro f0 f1) (hf : f0 = Value.none ∨ ∃ a : Addr, f0 = rawInt a) (q : ∀ b h' g1, IsZipF h' z ti ro f0 g1 → Heap.SameBut z s.heap h' → Q b { s with heap := h' }) :
    wpAny (model P w) A (Builtin.SmallTypes.ownedTupleIsFree (.ref z)) Q E s := by
  unfold Builtin.SmallTypes.ownedTupleIsFree
  refine wpAny_bind (wpAny_field hz rfl (x := f0) rfl ?_)
  rcases hf with rfl | ⟨a, rfl⟩
  · exact wpAny_pure (q true s.heap f1 hz (Heap.SameBut.refl _ _))
  · show wpAny _ _ (loadIfAlive _ >>= _) _ _ _
    refine wpAny_bind (load_alive ?_)
    cases s.heap.get? (Int.toNat (a : Int)) with
    | none =>
      rw [if_pos (show (none : Option Obj).isNone = true from rfl)]
      exact wpAny_pure (q true s.heap f1 hz (Heap.SameBut.refl _ _))
    | some o =>
      rw [if_neg (show ¬ (some o : Option Obj).isNone = true from Bool.false_ne_true)]
      refine wpAny_bind (wpAny_field hz rfl (x := f1) rfl ?_)
      by_cases c : (f1 != Value.bool true) = true
      · rw [if_pos c]
        exact wpAny_bind (wpAny_setField_rec hz (by simp) fun h' hz' hs' => wpAny_pure (q false h' (.bool true) hz' hs'))
      · rw [if_neg c]
        exact wpAny_pure (q false s.heap f1 hz (Heap.SameBut.refl _ _))
end
set_option maxHeartbeats 1000000 in
theorem enum_newZ (z ti ro : Addr) :
    Meets (Builtin.«enumerate.__new__» ⟨[.type "enumerate", .ref z], []⟩) (fun _ R s => IsZip s.heap z ti ro .none ∧
      R (.ok (.ret (.ref s.heap.objs.size))) { s with heap := s.heap.push { cls := .type "enumerate", data := .fields #[.none, .bool false, .ref z, rawInt 0, .none, .none] } }) :=
  .of_wp fun prog w A R s h => by
    obtain ⟨hp, g, d, tk, os⟩ := s; obtain ⟨hl, h⟩ := h
    have hsub := sub_enumerate
    have hL : IsZip (Shared.heap ⟨hp, g, d, tk, os⟩) z ti ro .none := hl
    wp_walk using AutoSeq1.wpAny_loadPart' hl
    refine wpAny_stack_any fun st => wpAny_pure ?_
    split
    · rename_i c _ _ _ _ _
      cases (c == Value.type "enumerate")
      · wp_walk using AutoSeq1.wpAny_loadPart' hl, wpAny_pyIter_zip hL
        exact ⟨_, rfl, h⟩
      · wp_walk using AutoSeq1.wpAny_loadPart' hl, wpAny_pyIter_zip hL
        exact ⟨_, rfl, h⟩
    · wp_walk using AutoSeq1.wpAny_loadPart' hl, wpAny_pyIter_zip hL
      exact ⟨_, rfl, h⟩
section
variable {tn : List Str} {cp : List (Nat × Str)} {g : TG} {tif : TT} {te : TE} {σ0 : St} {Q : VK} {H1 : Hp} {lo : Int} {n : Nat}
def PRnF (S : St → Prop) (p : Nat → Bool) (f : Nat → V) (H1 : Hp) (i : Nat) (ys : List V) (σ : St) (H : Hp) : Prop := Same H1 H ∧ S σ ∧ ys = ((List.range i).filter p).map f
theorem crf_map (S : St → Prop) (p : Nat → Bool) (f : Nat → V) (hn : n ≤ 1000) (h0 : S (stB tn cp σ0))
    (hs : ∀ D i σ H, i < n → Same H1 H → H1 D = none → H D = some (.lst (((List.range i).filter p).map f)) → S σ → g (.int (lo + i)) σ H fun σ2 H2 => tif σ2 H2 fun c H3 =>
      if c = true then te σ2 H3 fun v H4 => CStep D n i (PRnF S p f H1) σ2 v H4 else CSkip D n i (PRnF S p f H1) σ2 H3)
    (hd : ∀ D H, H1 D = none → Same H1 H → H D = some (.lst (((List.range n).filter p).map f)) → Q (.ref D) H) : cBody tn cp g tif te σ0 Q (Itr lo n) H1 := by
  refine cb_by n (fun D => PRnF S p f H1) (small_line hn) (fun D hD => ⟨same_upd hD _, h0, rfl⟩) (fun D i ys σ H _ hi _ _ => hi) (fun D ys σ H _ _ _ => Nat.le_refl _) ?_ ?_
  · rintro D i ys σ H x H' hD hi hH hl ⟨p1, p2, rfl⟩ ⟨rfl, rfl⟩
    exact hs D i σ _ hi p1 hD hH p2
  · rintro D ys σ H hD hH hl ⟨p1, p2, rfl⟩
    exact hd D H hD p1 hH
theorem crf_len (p : Nat → Bool) (f : Nat → V) (i : Nat) : (((List.range i).filter p).map f).length ≤ i := by
  rw [List.length_map]
  have := List.length_filter_le p (List.range i)
  rw [List.length_range] at this
  exact this
theorem crf_step {S : St → Prop} {p : Nat → Bool} {f : Nat → V} {D : Addr} {i : Nat} {v : V} {σ2 : St} {H4 : Hp} (hn : n ≤ 1000) (hi : i < n) (hp : p i = true) (hD : H1 D = none) (h4 : H4 D = some (.lst (((List.range i).filter p).map f))) (g4 : Same H1 H4) (s2 : S σ2) (e : v = f i) : CStep D n i (PRnF S p f H1) σ2 v H4 := by
  subst e
  refine cstep (small_line hn) hi h4 (crf_len p f i) ⟨g4.wr hD _, s2, ?_⟩
  rw [List.range_succ, List.filter_append, List.map_append]
  simp [hp]
theorem crf_skip {S : St → Prop} {p : Nat → Bool} {f : Nat → V} {D : Addr} {i : Nat} {σ2 : St} {H3 : Hp} (hi : i < n) (hp : p i = false) (h3 : H3 D = some (.lst (((List.range i).filter p).map f))) (g3 : Same H1 H3) (s2 : S σ2) : CSkip D n i (PRnF S p f H1) σ2 H3 := by
  refine cskip hi h3 (crf_len p f i) ⟨g3, s2, ?_⟩
  rw [List.range_succ, List.filter_append]
  simp [hp]
end
theorem codeAmong_app {pos pos' : Pos} {v : Value} (l : List Value) (h : TriplesOk l) : codeAmong pos' (l ++ [rawInt pos.line, rawInt pos.col, v]) = match codeAmong pos' l with
    | some x => some x
    | none => if ((pos.line : Int) == (pos'.line : Int) && (pos.col : Int) == (pos'.col : Int)) = true then some v else none := by
  fun_induction TriplesOk l with
  | case1 => simp [codeAmong, rawInt]
  | case2 a t b u x rest ih =>
    simp only [List.cons_append, codeAmong]
    split
    · rfl
    · exact ih h
  | case3 l h1 h2 => exact h.elim
def TabOk (H : Hp) (P : Addr) (qs : List (Pos × Str)) : Prop := ∃ ps : Array Value, H P = some (.tbl qs ps)
theorem TabOk.same {H H' : Hp} {P : Addr} {qs : List (Pos × Str)} (T : TabOk H P qs) (g : Same H H') : TabOk H' P qs := let ⟨ps, h⟩ := T; ⟨ps, g _ _ h⟩
def KCode (K : PySem.W.Frag) (c P : Addr) : Prop := ∃ o vs file tf flags tg inF text tt, K.lookup c = some o ∧ o.cls = .type "code" ∧ o.data = .fields vs ∧ vs[11]? = some (.ref P) ∧ vs.getD 11 .none = .ref P ∧ vs.getD 18 .none = .str file tf ∧
  vs.getD 7 .none = .int flags tg ∧ vs.getD 9 .none = .bool inF ∧ vs.getD 10 .none = .int text tt ∧ c ≠ P
section
variable {X : Cx} {pins : List (Addr × Obj)} {σ : St} {H : Hp} {s : Shared}
theorem fn_code {E : Value → Shared → Prop} {c P : Addr} {qs : List (Pos × Str)} {pos : Pos} {line : Nat} {name qual : Str} {params : Arguments} {scope : Scope} {body : FuncBody} {Q : Value → Shared → Prop} (I : Inv X pins σ H s) (hc : X.env.code = .ref c) (kc : KCode X.K c P)
    (T : TabOk H P qs) (hq : (pos, qual) ∈ qs) (hone : ∀ p ∈ qs, p.1.line = pos.line → p.1.col = pos.col → p.2 = qual)
    (h : ∀ c' o H' s', Inv X pins σ H' s' → H' c' = some (.frz o (.own c')) → CodeObj o qual → Same H H' → Q (.ref c') s') :
    wpAny (model X.prog X.w) X.A (functionCode X.env pos line name qual params scope body) Q E s := by
  obtain ⟨ps0, hP⟩ := T
  obtain ⟨more, hop, htr, hcs⟩ := I.hok P _ hP
  obtain ⟨oc, vs, file, tf, flags, tg, inF, text, tt, lk, hcl, hd, h11', h11, h18, h7, h9, h10, hne⟩ := kc
  have ho : s.heap.get? c = some oc := I.kIn c oc lk
  generalize hps : ps0 ++ more = ps at hop htr hcs
  cases hf : codeAmong pos ps.toList with
  | some v =>
    obtain ⟨c', o, rfl, hc', co⟩ := hcs _ hq v hf
    unfold functionCode codeAt
    rw [hc, if_neg (show ¬ ((Value.ref c == Value.none) = true) from Bool.false_ne_true)]
    refine wpAny_bind (wpAny_fieldsOf ho hd ?_)
    rw [h11]
    refine wpAny_bind (wpAny_fieldsOf hop rfl ?_)
    rw [hf]
    exact wpAny_pure (h c' o H s I hc' co fun _ _ e => e)
  | none =>
    have ic : s.heap.IsCode c P ps := ⟨oc, vs, file, tf, flags, tg, inF, text, tt, _, ho, hd, h11, h18, h7, h9, h10, hop, rfl, htr, hne⟩
    refine wpAny_functionCodeX hc ic ⟨⟨oc, vs, ho, hcl, hd, h11'⟩, hop⟩ hf fun c' h' tk hx hge hlt hic hrec htab _ => ?_
    obtain ⟨c₂, o', vs', t', e, hc', hd', hv'⟩ := hrec
    cases e
    have nPn : ∀ b, H b = none → b ≠ P := fun b e z => by rw [z, hP] at e; cases e
    have hcn : H c' = none := I.hok.fresh hge
    have nc : ∀ b u, H b = some u → b ≠ c' := fun b u e z => by rw [z, hcn] at e; cases e
    have nP : ∀ b u, H b = some u → (∀ a b, u ≠ .tbl a b) → b ≠ P := fun b u e n z => by rw [z, hP] at e; cases e; exact n _ _ rfl
    have up : ∀ b u, H b = some u → upd H c' (.frz o' (.own c')) b = some u := fun b u e => by rw [upd_ne (nc b u e)]; exact e
    have co : CodeObj o' qual := ⟨vs', t', hd', hv'⟩
    have I' : Inv X pins σ (upd H c' (.frz o' (.own c'))) { s with heap := h', toks := tk } := by
      refine I.un ⟨fun b o e n _ _ => hx b o (nPn b n) e, fun b o e n _ _ => ⟨o.slots, hx b o (nPn b n) e⟩, fun b o e n _ => ?_, fun b o e _ => ?_, fun b xs e => up b _ e, fun b o u e => up b _ e, fun b qs ps e => up b _ e⟩ fun b u e => ?_
      · rw [upd_ne (Nat.ne_of_lt (Nat.lt_of_lt_of_le (Heap.lt_size e) hge))]; exact n
      · by_cases hb : b = P
        · subst hb; exact ⟨_, htab.2⟩
        · exact ⟨o, hx b o hb e⟩
      · by_cases hb : b = c'
        · subst hb
          rw [upd_same] at e; cases e
          exact ⟨hc', _, hc'⟩
        · rw [upd_ne hb] at e
          by_cases hbP : b = P
          · subst hbP
            rw [hP] at e; cases e
            have hl : (ps ++ #[rawInt pos.line, rawInt pos.col, Value.ref c']).toList = ps.toList ++ [rawInt pos.line, rawInt pos.col, .ref c'] := by simp
            have e2 : ps0 ++ (more ++ #[rawInt pos.line, rawInt pos.col, Value.ref c']) = ps ++ #[rawInt pos.line, rawInt pos.col, Value.ref c'] := by rw [← Array.append_assoc, hps]
            refine ⟨more ++ #[rawInt pos.line, rawInt pos.col, .ref c'], by rw [e2]; exact htab.2, by rw [e2, hl]; exact TriplesOk_snoc _ _ _ _ htr, fun p hp v e => ?_⟩
            rw [e2, hl, codeAmong_app _ htr] at e
            cases hv : codeAmong p.1 ps.toList with
            | some x =>
              rw [hv] at e
              cases e
              obtain ⟨c1, o1, e1, e2, e3⟩ := hcs p hp _ hv
              exact ⟨c1, o1, e1, up c1 _ e2, e3⟩
            | none =>
              rw [hv] at e
              simp only at e
              split at e
              · rename_i hh
                cases e
                rw [Bool.and_eq_true] at hh
                have e1 : pos.line = p.1.line := by have := hh.1; simp at this; omega
                have e2 : pos.col = p.1.col := by have := hh.2; simp at this; omega
                exact ⟨c', o', rfl, upd_same, by rw [hone p hp e1.symm e2.symm]; exact co⟩
              · cases e
          · refine (I.hok b u e).stay (fun c w hc q => hx c w ?_ q) (fun c q => up c _ q) (fun c _ _ _ _ q => up c _ q) fun c xs q => up c _ q
            rcases hc with rfl | hc
            · exact hbP
            · exact nP c _ hc fun _ _ z => nomatch z
    exact h c' o' _ _ I' upd_same co up
def cloFd (name qual : Str) (params : Arguments) (body : FuncBody) (scope : Scope) (cl : List (Str × Addr)) (ct cd pm : Value) : FuncData :=
  { name, qualname := qual, params, body, scope, globals := mainGlobals, closure := cl, closureTuple := ct, code := cd, builtins := builtinsNs, defaults := .none, kwdefaults := .none, annotations := none, pyModule := pm, doc := .none }
def BltK (base : Heap) (mg : Str → Option Value) : Prop := ∃ bm o, mg "__builtins__" = some (.ref bm) ∧ bm ≠ builtinsNs ∧ base.get? bm = some o ∧ o.cls = .type "module" ∧ o.dict = some builtinsNs ∧ o.data = .plain
def NoDoc : FuncBody → Prop
  | .stmts b => docOf b = none
  | .expr _ => True
structure Made (X : Cx) (H H' : Hp) (name qual : Str) (params : Arguments) (body : FuncBody) (scope : Scope) (f : Addr) : Prop where
  old : Same H H'
  new : H f = none
  ex : ∃ cl ct c' oc pm, (∀ x c, cl.lookup x = some c → X.env.cells.lookup x = some c) ∧ (∀ p ∈ scope.names, p.2 = .free → ∃ c, cl.lookup p.1 = some c) ∧ H' c' = some (.frz oc (.own c')) ∧ CodeObj oc qual ∧
    H' f = some (.frz { cls := .type "function", data := .func (cloFd name qual params body scope cl ct (.ref c') pm) } (.own f))
theorem make_fn {E : Value → Shared → Prop} {c P : Addr} {qs : List (Pos × Str)} {pos : Pos} {line : Nat} {name qual : Str} {params : Arguments} {scope : Scope} {body : FuncBody} {Q : Value → Shared → Prop} (I : Inv X pins σ H s) (hc : X.env.code = .ref c) (kc : KCode X.K c P) (kb : BltK X.base X.mg)
    (hfr : ∀ p ∈ scope.names, p.2 = .free → X.env.kindOf p.1 = some .cell ∨ X.env.kindOf p.1 = some .free) (nd : NoDoc body)
    (T : TabOk H P qs) (hq : (pos, qual) ∈ qs) (hone : ∀ p ∈ qs, p.1.line = pos.line → p.1.col = pos.col → p.2 = qual)
    (h : ∀ f H' s', Inv X pins σ H' s' → Made X H H' name qual params body scope f → Q (.ref f) s') :
    wpAny (model X.prog X.w) X.A (makeFunction name qual params body scope X.env [] [] [] pos line) Q E s := by
  obtain ⟨cl, hcl, hcl1, hcl2⟩ := closure_of (scope := scope) (env := X.env) fun p hp hf => I.ok.has p.1 (hfr p hp hf)
  obtain ⟨bm, ob, b1, b2, b3, b4, b5, b6⟩ := kb
  have tail : ∀ (ct : Value) (s1 : Shared), Inv X pins σ H s1 → wpAny (model X.prog X.w) X.A (do
      let fd : FuncData := { name, qualname := qual, params, body, scope, globals := X.env.globals, closure := cl, closureTuple := ct, code := ← functionCode X.env pos line name qual params scope body, builtins := ← builtinsFor X.env.globals X.env.builtins, defaults := .none, kwdefaults := .none, annotations := none, pyModule := (← nsGet X.env.globals "__name__").getD .none, doc := ← match body with | .stmts b => (match docOf b with | some s => mkText s | none => pure .none) | .expr _ => pure .none }
      newObj (.type "function") (.func fd)) Q E s1 := by
    intro ct s1 I1
    refine wpAny_bind (fn_code I1 hc kc T hq hone fun c' oc H' s' I' e1 co up => ?_)
    have hg : s'.heap.Ns X.env.globals X.mg := by rw [I'.ok.glob]; exact I'.mod.glob.keeps I'.bk
    refine wpAny_bind (wpAny_builtinsFor hg b1 b2 (I'.bk bm ob b3) b4 b5 b6 ?_)
    refine wpAny_bind (wpAny_nsGet hg ?_)
    have fin : wpAny (model X.prog X.w) X.A (newObj (.type "function") (.func { name, qualname := qual, params, body, scope, globals := X.env.globals, closure := cl, closureTuple := ct, code := .ref c', builtins := builtinsNs, defaults := .none, kwdefaults := .none, annotations := none, pyModule := (X.mg "__name__").getD .none, doc := .none })) Q E s' := by
      refine wpAny_newObj_type ?_ (by size_fits)
      rw [I'.ok.glob]
      have hfn : H' s'.heap.objs.size = none := I'.fresh
      have hfn0 : H s'.heap.objs.size = none := by
        cases e : H s'.heap.objs.size with
        | none => rfl
        | some u => rw [up _ u e] at hfn; cases hfn
      have nf : ∀ b u, H' b = some u → b ≠ s'.heap.objs.size := fun b u e z => by rw [z, hfn] at e; cases e
      have I2 := I'.laid (a := s'.heap.objs.size) (o := .frz { cls := .type "function", data := .func (cloFd name qual params body scope cl ct (.ref c') ((X.mg "__name__").getD .none)) } (.own s'.heap.objs.size)) (t' := s'.toks)
        (h' := s'.heap.push { cls := .type "function", data := .func (cloFd name qual params body scope cl ct (.ref c') ((X.mg "__name__").getD .none)) }) (fun b u e => Heap.get?_push_of_some _ e) (Nat.le_refl _) ⟨Heap.get?_push_size _ rfl, _, Heap.get?_push_size _ rfl⟩
      refine h _ _ _ I2 ⟨fun b u e => by rw [upd_ne (nf b u (up b u e))]; exact up b u e, hfn0, cl, ct, c', oc, _, hcl1, hcl2, by rw [upd_ne (nf c' _ e1)]; exact e1, co, upd_same⟩
    cases body with
    | expr e => exact wpAny_bind (wpAny_pure fin)
    | stmts b =>
      have nd' : docOf b = none := nd
      refine wpAny_bind ?_
      show wpAny _ _ (match docOf b with | some s => mkText s | none => pure .none) _ _ _
      rw [nd']
      exact wpAny_pure fin
  rw [makeFunction_eq]
  simp only [List.isEmpty_nil, if_true, List.zip_nil_right, List.filterMap_nil]
  refine wpAny_bind (wpAny_pure (wpAny_bind (wpAny_pure (wpAny_bind (wpAny_pure ?_)))))
  unfold makeTail
  rw [hcl]
  refine wpAny_bind (wpAny_pure ?_)
  show wpAny _ _ (if cl.isEmpty = true then _ else _) _ _ _
  by_cases he : cl.isEmpty = true
  · rw [if_pos he]
    exact wpAny_bind (wpAny_pure (tail .none s I))
  · rw [if_neg he]
    refine wpAny_bind (wpAny_newTextTuple ?_)
    exact (tail _ _ (I.kept (t' := s.toks) fun b o e => Heap.get?_push_of_some _ e))
end
def fnO (fd : FuncData) (f : Addr) : HO := .frz { cls := .type "function", data := .func fd } (.own f)
def Frz (H H' : Hp) : Prop := ∀ b o u, H b = some (.frz o u) → H' b = some (.frz o u)
theorem Frz.refl (H : Hp) : Frz H H := fun _ _ _ e => e
theorem Frz.trans {H H1 H2 : Hp} (a : Frz H H1) (b : Frz H1 H2) : Frz H H2 := fun c o u e => b c o u (a c o u e)
theorem Same.frz {H H' : Hp} (g : Same H H') : Frz H H' := fun b o u e => g _ _ e
def CloH (P : Program) (w : World) (K : PySem.W.Frag) (mg : Str → Option Value) (base : Heap) (k : Nat) (H : Hp) (f : Addr) (n : Nat) (sp : Sp) : Prop :=
  ∀ (A : Around) (outer : List Env) (s : Shared) (H' : Hp) (us : List Value) (vs : List V) (Q : VK), Room k A → Env0 P w K mg base A outer s H' → Frz H H' → Vals vs us → vs.length = n → sp vs H' Q E0 →
    codeAny (model P w) A (.call (.ref f) ⟨us, []⟩) (CR CX0 outer P w H' s Q E0) s
theorem CloH.mono {P : Program} {w : World} {K : PySem.W.Frag} {mg : Str → Option Value} {base : Heap} {k : Nat} {H H1 : Hp} {f : Addr} {n : Nat} {sp : Sp} (c : CloH P w K mg base k H f n sp) (g : Frz H H1) : CloH P w K mg base k H1 f n sp :=
  fun A outer s H' us vs Q hr e0 fz => c A outer s H' us vs Q hr e0 (g.trans fz)
def tCallV (P : Program) (w : World) (K : PySem.W.Frag) (mg : Str → Option Value) (base : Heap) (k n : Nat) (sp : Sp) (i : Nat) (t : TA) : TE := fun σ H Q => ∃ f fd, σ[i]? = some (some (.ref f)) ∧ H f = some (fnO fd f) ∧
  t σ H fun vs H1 => H1 f = some (fnO fd f) ∧ CloH P w K mg base k H1 f n sp ∧ vs.length = n ∧ sp vs H1 Q E0
theorem keep_one (f : Addr) (fd : FuncData) : PySem.W.keepIn [(f, { cls := .type "function", data := .func fd })] (.ref f) = true := by
  unfold PySem.W.keepIn
  simp [List.lookup]
theorem pe_callV {X : Cx} {x : Str} {i k n : Nat} {sp : Sp} {p pos : Pos} {e : Expr} {es : List Expr} {t : TA} (hN : X.N[i]? = some x) (hv : Vis X.env.scope x) (hr : Room k X.A) (ha : PA X (e :: es) t)
    (hd : (x == ("__debug__" : Str)) = false := by decide) (hcd : (x == ("__classdict__" : Str)) = false := by decide) (he : starEach (e :: es) X.env = (false, eval e X.env) :: starEach es X.env := by rfl) (hpl : (backTo pos (starEach es X.env)).any (·.1) = false := by rfl) :
    PE X (.Call (.Name x p) (e :: es) [] pos) (tCallV X.prog X.w X.K X.mg X.base k n sp i t) := by
  intro pins s σ H Q I h
  obtain ⟨f, fd, hs, hf, h⟩ := h
  refine wpAny_Call_Name_kw (thn (pe_var (pos := p) hN hv hd hcd pins s σ H (fun v H' => v = .ref f ∧ H' = H) I ⟨.ref f, hs, rfl, rfl⟩) fun u s1 ⟨v, H1, I1, r1, e1, e2⟩ => ?_)
  subst e1 e2
  cases (show u = Value.ref f from r1)
  have at1 : ∀ {H2 : Hp} {s2 : Shared}, Inv X pins σ H2 s2 → H2 f = some (fnO fd f) → PySem.W.Frag.In [(f, { cls := .type "function", data := .func fd })] s2.heap := fun {H2 s2} I2 hf2 a o e => by
    simp only [List.lookup] at e
    split at e
    · rename_i q
      cases e
      rw [beq_iff_eq.mp q]
      exact (I2.hok f _ hf2).1
    · cases e
  refine PySem.W.callWith_K (K := [(f, { cls := .type "function", data := .func fd })]) (h₀ := s1.heap) (at1 I1 hf) (keep_one f fd) (thn (ha pos pins s1 σ H1 _ I1 h) fun us s2 ⟨vs, H2, I2, r, hf2, c, hl, q⟩ => ⟨at1 I2 hf2, ?_⟩) he hpl
  refine wpAny_call (codeAny_mono (c X.A X.stack s2 H2 us vs Q hr I2.env0 (Frz.refl _) r hl q) fun r s' hq => ?_)
  cases r with
  | error e => exact False.elim hq
  | ok fl =>
    cases fl with
    | ret u => exact I2.after hq
    | next => exact False.elim hq
    | brk => exact False.elim hq
    | cont => exact False.elim hq
def tDef (X : Cx) (P : Addr) (qs : List (Pos × Str)) (name qual : Str) (params : Arguments) (body : FuncBody) (scope : Scope) (j : Nat) : TS := fun D σ H => TabOk H P qs ∧ ∀ f H', Made X H H' name qual params body scope f → D.nx (σ.set j (some (.ref f))) H'
def tLam (X : Cx) (P : Addr) (qs : List (Pos × Str)) (name qual : Str) (params : Arguments) (body : FuncBody) (scope : Scope) : TE := fun σ H Q => TabOk H P qs ∧ ∀ f H', Made X H H' name qual params body scope f → Q (.ref f) H'
section
variable {X : Cx} {c P : Addr} {qs : List (Pos × Str)} {pos : Pos} {name qual : Str} {params : Arguments} {scope : Scope}
theorem pe_lambda {body : Expr} (hc : X.env.code = .ref c) (kc : KCode X.K c P) (kb : BltK X.base X.mg) (hfr : ∀ p ∈ scope.names, p.2 = .free → X.env.kindOf p.1 = some .cell ∨ X.env.kindOf p.1 = some .free)
    (hq : (pos, qual) ∈ qs) (hone : ∀ p ∈ qs, p.1.line = pos.line → p.1.col = pos.col → p.2 = qual) (hd : params.defaults = []) (hk : params.kw_defaults = []) (hqual : X.env.qual ++ "<lambda>" = qual) :
    PE X (.Lambda params body scope pos) (tLam X P qs "<lambda>" qual params (.expr body) scope) := by
  intro pins s σ H Q I h
  obtain ⟨T, h⟩ := h
  rw [arm_eval_Lambda]
  have hdo : defaultsOf params X.env = ([], []) := by rw [defaultsOf_eq, hd, hk]; rfl
  simp only [hdo]
  refine wpAny_bind (wpAny_pure (wpAny_bind (wpAny_holding (wpAny_pure ?_))))
  rw [hqual]
  exact make_fn I hc kc kb hfr trivial T hq hone fun f H' s' I' M => ⟨.ref f, H', I', rfl, h f H' M⟩
theorem ps_defn {j : Nat} {body : List Stmt} (hc : X.env.code = .ref c) (kc : KCode X.K c P) (kb : BltK X.base X.mg) (hfr : ∀ p ∈ scope.names, p.2 = .free → X.env.kindOf p.1 = some .cell ∨ X.env.kindOf p.1 = some .free) (nd : docOf body = none)
    (hq : (pos, qual) ∈ qs) (hone : ∀ p ∈ qs, p.1.line = pos.line → p.1.col = pos.col → p.2 = qual) (hd : params.defaults = []) (hk : params.kw_defaults = []) (ha : ∀ e, annTrees params none e = []) (hqual : qualnameIn X.env name name = qual)
    (hN : X.N.Nodup) (hj : X.N[j]? = some name) (hx : X.env.scope.names.lookup name = some .local) : PS X (.FunctionDef name params body [] none [] scope none name pos) (tDef X P qs name qual params (.stmts body) scope j) := by
  intro pins s σ H D I h
  obtain ⟨T, h⟩ := h
  rw [exec_def]
  have hdo : defaultsOf params X.env = ([], []) := by rw [defaultsOf_eq, hd, hk]; rfl
  simp only [hdo, ha, hqual]
  refine wpAny_bind (wpAny_standAt (wpAny_bind (wpAny_holding (wpAny_bind (wpAny_pure (wpAny_bind (wpAny_holding (wpAny_pure (wpAny_holding (wpAny_bind (wpAny_pure ?_)))))))))))
  refine make_fn I hc kc kb hfr nd T hq hone fun f H' s' I' M => wpAny_bind (wpAny_standAt (wpAny_bind (wpAny_bindName ?_)))
  exact store_ok I' hN hj (.inl hx) (v := .ref f) rfl (fun s2 I2 => wpAny_pure ⟨_, H', I2, h f H' M⟩) (.inr hx)
end
def CellOf (X : Cx) (b : Addr) : Prop := ∃ x, X.env.cells.lookup x = some b
def Adopted (X : Cx) (σ : St) (H Hq : Hp) : Prop := (∀ b, ¬ CellOf X b → Hq b = H b) ∧ (∀ b, CellOf X b → H b = none) ∧ (∀ x y c, X.env.cells.lookup x = some c → X.env.cells.lookup y = some c → x = y) ∧ ∀ x c, X.env.cells.lookup x = some c → ∃ o v, Hq c = some (.frz o (.own c)) ∧ o.data = .cell v ∧
  ∀ (i : Nat) y, X.N[i]? = some x → σ[i]? = some (some y) → (X.env.kindOf x = some .cell ∨ X.env.kindOf x = some .free) → ∃ u, RelV y u ∧ v = some u
open Classical in
noncomputable def dropX (X : Cx) (H : Hp) : Hp := fun b => if CellOf X b then none else H b
def tCallA (X : Cx) (sp : Sp) (t : TA) : TE := fun σ H Q => t σ H fun vs H1 => ∀ Hq, Adopted X σ H1 Hq → sp vs Hq (fun v H2 => Q v (dropX X H2)) E0
theorem pe_callA {X : Cx} {k : Nat} {f : Addr} {fd : FuncData} {ps : List Str} {sp : Sp} {x : Str} {p pos : Pos} {e : Expr} {es : List Expr} {t : TA} (F : FnOk X.prog X.w X.K X.mg X.base CX0 k f fd ps sp) (hr : Room k X.A) (hg : Gl X x) (hm : X.mg x = some (.ref f)) (hk : PySem.W.keepIn X.K (.ref f) = true) (hb : Binds X.K fd ps [])
    (hfn : ∀ x, X.fn x = true) (ha : PA X (e :: es) t) (hdb : (x == ("__debug__" : Str)) = false := by decide) (he : starEach (e :: es) X.env = (false, eval e X.env) :: starEach es X.env := by rfl) (hpl : (backTo pos (starEach es X.env)).any (·.1) = false := by rfl) :
    PE X (.Call (.Name x p) (e :: es) [] pos) (tCallA X sp t) := by
  classical
  intro pins s σ H Q I h
  refine wpAny_Call_Name_kw (ld_glob I hg hm ?_ hdb)
  refine PySem.W.callWith_K (h₀ := X.base) I.ok.mod.kin hk (thn (ha pos pins s σ H _ I h) fun us s1 ⟨vs, H1, I1, r, q⟩ => ⟨I1.kIn, ?_⟩) he hpl
  let Hq : Hp := fun b => if CellOf X b then (s1.heap.get? b).map fun o => .frz o (.own b) else H1 b
  have q1 : ∀ b, ¬ CellOf X b → Hq b = H1 b := fun b n => if_neg n
  have q2 : ∀ x c, X.env.cells.lookup x = some c → ∃ o v, s1.heap.get? c = some o ∧ o.data = .cell v ∧ Hq c = some (.frz o (.own c)) := fun x c e => by
    obtain ⟨v, o, ho, hd⟩ := I1.cell x c e
    exact ⟨o, v, ho, hd, by show (if CellOf X c then _ else _) = _; rw [if_pos ⟨x, e⟩, ho]; rfl⟩
  have tr : ∀ b u, H1 b = some u → ¬ CellOf X b := fun b u e ⟨x, z⟩ => by rw [I1.freeC x b z] at e; cases e
  have ad : Adopted X σ H1 Hq := ⟨q1, fun b ⟨x, z⟩ => I1.freeC x b z, I1.ok.inj, fun x c e => by
    obtain ⟨o, v, ho, hd, hq⟩ := q2 x c e
    refine ⟨o, v, hq, hd, fun i y e1 e2 e3 => ?_⟩
    obtain ⟨m, hn, hl⟩ := I1.loc
    obtain ⟨u, ru, l⟩ := hl i x y e1 e2 (by rcases e3 with z | z; exact .inr (.inl z); exact .inr (.inr z))
    rcases l with ⟨z, _⟩ | ⟨_, c', hc', o', ho', hd'⟩
    · rcases e3 with y' | y' <;> (rw [z] at y'; cases y')
    · rw [e] at hc'; cases hc'
      rw [ho] at ho'; cases ho'
      rw [hd] at hd'; cases hd'
      exact ⟨u, ru, rfl⟩⟩
  have low : ∀ b, CellOf X b → X.s₀.heap.objs.size ≤ b := fun b ⟨x, e⟩ => I1.ok.cab x b (hfn x) e
  have nfr : ∀ b ∈ frs X.stack, ¬ CellOf X b := fun b hb ⟨x, e⟩ => by
    rcases List.mem_cons.mp (I1.stkSub b hb) with z | z
    · exact I1.cne x b e z
    · obtain ⟨_, o, ho, _⟩ := I1.ok.funs.mem z
      exact absurd (Nat.lt_of_lt_of_le (Heap.lt_size ho) (low b ⟨x, e⟩)) (Nat.lt_irrefl _)
  have up : ∀ b u, H1 b = some u → Hq b = some u := fun b u e => by rw [q1 b (tr b u e)]; exact e
  have hokq : HOk X.prog X.w Hq s1.heap := fun b u e => by
    by_cases hc : CellOf X b
    · obtain ⟨x, ex⟩ := hc
      obtain ⟨o, v, ho, hd, hq⟩ := q2 x b ex
      rw [hq] at e; cases e
      exact ⟨ho, o, ho⟩
    · rw [q1 b hc] at e
      exact (I1.hok b u e).stay (fun _ _ _ z => z) (fun c z => up c _ z) (fun c _ _ _ _ z => up c _ z) fun c xs z => up c _ z
  have e0 := I1.env0
  have e0q : Env0 X.prog X.w X.K X.mg X.base X.A X.stack s1 Hq := ⟨e0.frames, e0.mod, fun b o e => ⟨(e0.bs b o e).1, by
    rw [q1 b fun hc => absurd (Nat.lt_of_lt_of_le (Heap.lt_size e) (Nat.le_trans I1.ok.bsz (low b hc))) (Nat.lt_irrefl _)]; exact (e0.bs b o e).2⟩, e0.bsz, e0.funs, fun b hb => by rw [q1 b (nfr b hb)]; exact e0.frf b hb, hokq, e0.bare⟩
  have hl : us.length = ps.length := by rw [← r.length]; exact F.len _ _ _ _ (q Hq ad)
  refine wpAny_call (codeAny_mono (F.run X.A X.stack s1 Hq ⟨us, []⟩ us vs _ E0 hr e0q (by have := hb s1 us I1.kIn (by rw [List.append_nil]; exact hl); rw [List.append_nil] at this; exact this) r (q Hq ad)) fun r s' hq => ?_)
  cases r with
  | error e => exact False.elim hq
  | ok fl =>
    cases fl with
    | next => exact False.elim hq
    | brk => exact False.elim hq
    | cont => exact False.elim hq
    | ret u =>
      obtain ⟨v, H2, os, bare, un, hok2, rv, qq⟩ := hq
      have c2 : ∀ x c, X.env.cells.lookup x = some c → ∃ o, s1.heap.get? c = some o ∧ H2 c = some (.frz o (.own c)) ∧ s'.heap.get? c = some o := fun x c e => by
        obtain ⟨o, v, ho, hd, hq⟩ := q2 x c e
        have z := un.frzs c o _ hq
        exact ⟨o, ho, z, (hok2 c _ z).1⟩
      have d1 : ∀ b, ¬ CellOf X b → dropX X H2 b = H2 b := fun b n => if_neg n
      have nmC : ∀ b o u q, CodeObj o q → H2 b = some (.frz o u) → ¬ CellOf X b := fun b o u q ⟨vs, t, hv, _⟩ e ⟨x, z⟩ => by
        obtain ⟨o', ho', z2, _⟩ := c2 x b z
        rw [z2] at e; cases e
        obtain ⟨v, o3, ho, hd⟩ := I1.cell x b z
        rw [ho'] at ho; cases ho
        rw [hv] at hd; cases hd
      have nm : ∀ b u, H2 b = some u → (∀ o a, u ≠ .frz o a) → ¬ CellOf X b := fun b u e n ⟨x, z⟩ => by
        obtain ⟨o, _, z2, _⟩ := c2 x b z
        rw [z2] at e; cases e
        exact n _ _ rfl
      refine I1.after ⟨v, dropX X H2, os, bare, ⟨fun b o e n hf hx => ?_, fun b o e n hf hx => ?_, fun b o e n hx => ?_, fun b o e hx => ?_, fun b xs e => ?_, fun b o a e => ?_, fun b qs ps e => ?_⟩, fun b u e => ?_, rv, qq⟩
      · by_cases hc : CellOf X b
        · obtain ⟨x, ex⟩ := hc
          obtain ⟨o', ho', _, z⟩ := c2 x b ex
          rw [e] at ho'; cases ho'
          exact z
        · exact un.keep b o e (by rw [q1 b hc]; exact n) hf hx
      · exact un.slot b o e (by rw [q1 b (nfr b hf)]; exact n) hf hx
      · by_cases hc : CellOf X b
        · exact if_pos hc
        · rw [d1 b hc]; exact un.free b o e (by rw [q1 b hc]; exact n) hx
      · exact un.there b o e hx
      · rw [d1 b (tr b _ e)]; exact un.tups b xs (up b _ e)
      · rw [d1 b (tr b _ e)]; exact un.frzs b o a (up b _ e)
      · rw [d1 b (tr b _ e)]; exact un.tbls b qs ps (up b _ e)
      · have hc : ¬ CellOf X b := fun hc => by
          have : dropX X H2 b = none := if_pos hc
          rw [this] at e; cases e
        rw [d1 b hc] at e
        exact (hok2 b u e).stay (fun _ _ _ z => z) (fun c z => by rw [d1 c (nm c _ z fun _ _ y => nomatch y)]; exact z) (fun c o a q co z => by rw [d1 c (nmC c o a q co z)]; exact z) fun c xs z => by rw [d1 c (nm c _ z fun _ _ y => nomatch y)]; exact z
theorem paired_len {α β : Type} {R : α → β → Prop} : ∀ {xs : List α} {ys : List β}, Paired R xs ys → xs.length = ys.length
  | _, _, .nil => rfl
  | _, _, .cons _ t => by rw [List.length_cons, List.length_cons, paired_len t]
theorem caps_at {α β : Type} {R : α → β → Prop} : ∀ {xs : List α} {ys : List β} {i : Nat} {x : α} {y : β}, Paired R xs ys → xs[i]? = some x → ys[i]? = some y → R x y
  | _, _, _, _, _, .nil, e, _ => by simp at e
  | _, _, 0, _, _, .cons r _, e1, e2 => by simp at e1 e2; subst e1 e2; exact r
  | _, _, i + 1, _, _, .cons _ t, e1, e2 => caps_at (i := i) t (by simpa using e1) (by simpa using e2)
theorem zip_keys : ∀ {ps : List Str} {us : List Value}, ps.Nodup → ((ps.zip us).map (·.1)).Nodup
  | [], _, _ => by simp
  | _ :: _, [], _ => by simp
  | p :: ps, u :: us, h => by
    rw [List.zip_cons_cons, List.map_cons]
    refine List.nodup_cons.mpr ⟨fun hm => ?_, zip_keys (List.nodup_cons.mp h).2⟩
    obtain ⟨q, hq, e⟩ := List.mem_map.mp hm
    have e' : q.1 = p := e
    exact (List.nodup_cons.mp h).1 (e' ▸ (List.of_mem_zip (show (q.1, q.2) ∈ ps.zip us from hq)).1)
theorem look_mem {x : Str} {u : Value} : ∀ {l : List (Str × Value)}, (l.map (·.1)).Nodup → (x, u) ∈ l → l.lookup x = some u
  | [], _, h => by simp at h
  | (y, v) :: l, nd, h => by
    rw [List.map_cons] at nd
    rw [List.lookup_cons]
    rcases List.mem_cons.mp h with e | h
    · cases e; simp
    · have : (x == y) = false := by
        rw [beq_eq_false_iff_ne]
        intro z
        exact (List.nodup_cons.mp nd).1 (z ▸ List.mem_map.mpr ⟨_, h, rfl⟩)
      rw [this]
      exact look_mem (List.nodup_cons.mp nd).2 h
theorem zip_look {ps : List Str} {us : List Value} {i : Nat} {x : Str} {u : Value} (nd : ps.Nodup) (h1 : ps[i]? = some x) (h2 : us[i]? = some u) : (ps.zip us).reverse.lookup x = some u := by
  refine look_mem ?_ (List.mem_reverse.mpr (List.mem_of_getElem? (i := i) (List.getElem?_zip_eq_some.mpr ⟨h1, h2⟩)))
  rw [List.map_reverse]
  exact (List.reverse_perm _).nodup_iff.mpr (zip_keys nd)
def envL (qual : Str) (scope : Scope) (cl : List (Str × Addr)) (L f : Addr) (cd : Value) : Env :=
  { scope := scope, locals := L, globals := mainGlobals, cells := cl, qual := qual ++ ".<locals>.", func := some f, code := cd, frame := some L, builtins := builtinsNs }
def InCl (cl : List (Str × Addr)) (b : Addr) : Prop := ∃ x, cl.lookup x = some b
open Classical in
noncomputable def dropL (cl : List (Str × Addr)) (H : Hp) : Hp := fun b => if InCl cl b then none else H b
open Classical in
noncomputable def mixL (cl : List (Str × Addr)) (H H2 : Hp) : Hp := fun b => if InCl cl b then H b else H2 b
noncomputable def cxL (P : Program) (w : World) (K : PySem.W.Frag) (mg : Str → Option Value) (base : Heap) (N : List Str) (qual : Str) (scope : Scope) (cl : List (Str × Addr)) (f : Addr) (cd : Value) (A : Around) (outer : List Env) (s : Shared) (H : Hp) : Cx where
  prog := P
  w := w
  K := K
  mg := mg
  base := base
  A := A.deeper (envL qual scope cl s.heap.objs.size f cd)
  N := N
  s₀ := s
  H₀ := dropL cl H
  env := envL qual scope cl s.heap.objs.size f cd
  outer := outer
  stack := envL qual scope cl s.heap.objs.size f cd :: outer
  ex := []
  calm := true
  fn := fun _ => false
  pn := []
  xe := fun _ _ => False
structure CloScope (own ps cap : List Str) (sc : Scope) : Prop where
  kind : sc.kind = .function
  co : sc.isCoroutine = false
  gen : sc.isGenerator = false
  nocell : ∀ y ∈ sc.names, y.2 ≠ .cell
  pre : own.take ps.length = ps
  nd : ps.Nodup
  par : ∀ x ∈ ps, sc.names.lookup x = some .local
  cap : ∀ x ∈ cap, sc.names.lookup x = some .free
def Caps (H : Hp) (cl : List (Str × Addr)) (cap : List Str) (cv : List V) : Prop := Paired (fun x v => ∃ c o u, cl.lookup x = some c ∧ H c = some (.frz o (.own c)) ∧ o.data = .cell (some u) ∧ RelV v u) cap cv
def stL (own : List Str) (vs cv : List V) : St := vs.map some ++ List.replicate (own.length - vs.length) none ++ cv.map some
section
variable {P : Program} {w : World} {K : PySem.W.Frag} {mg : Str → Option Value} {base : Heap} {A : Around} {outer : List Env} {s : Shared} {H : Hp} {own ps cap : List Str} {qual : Str} {scope : Scope} {cl : List (Str × Addr)} {f : Addr} {cd : Value} {vs cv : List V} {us : List Value}
theorem drop_cells {H : Hp} (hcl : ∀ x c, cl.lookup x = some c → ∃ o v, H c = some (.frz o (.own c)) ∧ o.data = .cell v) {b : Addr} {u : HO} (e : H b = some u) (n : ∀ o a, u ≠ .frz o a) : ¬ InCl cl b := fun ⟨x, z⟩ => by
  obtain ⟨o, v, z2, _⟩ := hcl x b z
  rw [z2] at e; cases e
  exact n _ _ rfl
theorem drop_code {H : Hp} (hcl : ∀ x c, cl.lookup x = some c → ∃ o v, H c = some (.frz o (.own c)) ∧ o.data = .cell v) {b : Addr} {o : Obj} {a : HO} {q : Str} (co : CodeObj o q) (e : H b = some (.frz o a)) : ¬ InCl cl b := fun ⟨x, z⟩ => by
  obtain ⟨o, v, z2, z3⟩ := hcl x b z
  rw [z2] at e; cases e
  obtain ⟨vs, t, hv, _⟩ := co
  rw [hv] at z3; cases z3
theorem inv_clo {h1 : Heap} {tk : Nat} (S : CloScope own ps cap scope) (hd : A.handled = none) (e0 : Env0 P w K mg base A outer s H) (hl : vs.length = ps.length) (hlo : ps.length ≤ own.length) (r : Vals vs us)
    (hcl : ∀ x c, cl.lookup x = some c → ∃ o v, H c = some (.frz o (.own c)) ∧ o.data = .cell v) (hfr : ∀ p ∈ scope.names, p.2 = .free → ∃ c, cl.lookup p.1 = some c) (inj : ∀ x y c, cl.lookup x = some c → cl.lookup y = some c → x = y) (hcap : Caps H cl cap cv)
    (hns : h1.Ns s.heap.objs.size (fun x => (ps.zip us).reverse.lookup x)) (hk : ∀ b o, s.heap.get? b = some o → h1.get? b = some o) :
    Inv (cxL P w K mg base (own ++ cap) qual scope cl f cd A outer s H) [] (stL own vs cv) (dropL cl H) { s with heap := h1, toks := tk } := by
  classical
  have d1 : ∀ b, ¬ InCl cl b → dropL cl H b = H b := fun b n => if_neg n
  have dn : ∀ b, H b = none → dropL cl H b = none := fun b e => by
    by_cases hc : InCl cl b
    · exact if_pos hc
    · rw [d1 b hc]; exact e
  have noA : ∀ b : Addr, b ∉ (cxL P w K mg base (own ++ cap) qual scope cl f cd A outer s H).ex := fun b z => absurd (show b ∈ ([] : List Addr) from z) (by simp)
  have at' : ∀ x c, cl.lookup x = some c → ∃ o v, s.heap.get? c = some o ∧ o.data = .cell v := fun x c e => by
    obtain ⟨o, v, z, zd⟩ := hcl x c e
    exact ⟨o, v, (e0.hok c _ z).1, zd⟩
  have hok0 : HOk P w (dropL cl H) s.heap := fun b u e => by
    have hc : ¬ InCl cl b := fun hc => by
      have : dropL cl H b = none := if_pos hc
      rw [this] at e; cases e
    rw [d1 b hc] at e
    exact (e0.hok b u e).stay (fun _ _ _ z => z) (fun c z => by rw [d1 c (drop_cells hcl z fun _ _ y => nomatch y)]; exact z) (fun c o a q co z => by rw [d1 c (drop_code hcl co z)]; exact z) fun c xs z => by rw [d1 c (drop_cells hcl z fun _ _ y => nomatch y)]; exact z
  refine ⟨⟨e0.mod, S.kind, rfl, rfl, Nat.le_refl _, inj, fun x hx => ?_, fun x c hx => (by cases hx), fun _ => hd, Around.frames_deeper e0.frames, .inr ⟨rfl, rfl⟩, fun b z => absurd z (noA b), fun b o e => ⟨(e0.bs b o e).1, dn b (e0.bs b o e).2⟩, e0.bsz, fun b _ _ => noA b, fun b z => absurd z (noA b), e0.funs, fun b hb => dn b (e0.frf b hb)⟩,
    rfl, e0.bare, Un.kept hk, ⟨_, hns, fun i x v e1 e2 e3 => ?_⟩, fun x c e => ?_, hok0.fresh (Nat.le_refl _), fun x c e => if_pos ⟨x, e⟩, fun p hp => absurd (show p ∈ ([] : List (Addr × Obj)) from hp) (by simp), hok0.kept hk, ?_⟩
  · have hx : scope.names.lookup x = some .cell ∨ scope.names.lookup x = some .free := hx
    rcases hx with z | z
    · exact absurd rfl (S.nocell _ (mem_of_lookup' z))
    · exact hfr (x, .free) (mem_of_lookup' z) rfl
  · have e1' : (own ++ cap)[i]? = some x := e1
    have e2' : (vs.map some ++ List.replicate (own.length - vs.length) none ++ cv.map some)[i]? = some (some v) := e2
    have lo : (vs.map some ++ List.replicate (own.length - vs.length) (none : Option V)).length = own.length := by rw [List.length_append, List.length_map, List.length_replicate]; omega
    by_cases hi : i < own.length
    · rw [List.getElem?_append_left (by omega)] at e2'
      by_cases hv : i < vs.length
      · rw [List.getElem?_append_left (by simpa using hv), List.getElem?_map] at e2'
        rw [List.getElem?_append_left hi] at e1'
        have ha : vs[i]? = some v := by
          cases q : vs[i]? with
          | none => rw [q] at e2'; cases e2'
          | some z => rw [q] at e2'; exact congrArg some (Option.some.inj (Option.some.inj e2'))
        obtain ⟨u, hu, ru⟩ := r.get ha
        have hp : ps[i]? = some x := by rw [← S.pre, List.getElem?_take_of_lt (by omega)]; exact e1'
        refine ⟨u, ru, .inl ⟨S.par x (List.mem_of_getElem? hp), ?_⟩⟩
        exact zip_look S.nd hp hu
      · rw [List.getElem?_append_right (by simpa using Nat.le_of_not_lt hv), List.getElem?_replicate] at e2'
        split at e2' <;> cases e2'
    · rw [List.getElem?_append_right (by omega), lo, List.getElem?_map] at e2'
      rw [List.getElem?_append_right (by omega)] at e1'
      have ha : cv[i - own.length]? = some v := by
        cases q : cv[i - own.length]? with
        | none => rw [q] at e2'; cases e2'
        | some z => rw [q] at e2'; exact congrArg some (Option.some.inj (Option.some.inj e2'))
      obtain ⟨c, o, u, hc, hz, hd', ru⟩ := caps_at hcap e1' ha
      exact ⟨u, ru, .inr ⟨.inr (S.cap x (List.mem_of_getElem? e1')), c, hc, o, hk c o (e0.hok c _ hz).1, hd'⟩⟩
  · obtain ⟨o, v, ho, hd'⟩ := at' x c e
    exact ⟨v, o, hk c o ho, hd'⟩
  · have := paired_len hcap
    show (vs.map some ++ List.replicate (own.length - vs.length) none ++ cv.map some).length = (own ++ cap).length
    rw [List.length_append, List.length_append, List.length_map, List.length_replicate, List.length_map, List.length_append]
    omega
theorem clo_fin {N : List Str} {pins : List (Addr × Obj)} {σ' : St} {H2 : Hp} {s' : Shared} {v : V} {u : Value} {Q : VK} (e0 : Env0 P w K mg base A outer s H) (hcl : ∀ x c, cl.lookup x = some c → ∃ o v, H c = some (.frz o (.own c)) ∧ o.data = .cell v)
    (J : Inv (cxL P w K mg base N qual scope cl f cd A outer s H) pins σ' H2 s') (rv : RelV v u) (q : (∀ b, InCl cl b → H2 b = none) → Q v (mixL cl H H2)) : CE outer P w H s Q u s' := by
  classical
  have d1 : ∀ b, ¬ InCl cl b → dropL cl H b = H b := fun b n => if_neg n
  have m1 : ∀ b, ¬ InCl cl b → mixL cl H H2 b = H2 b := fun b n => if_neg n
  have nc : ∀ b, H b = none → ¬ InCl cl b := fun b e ⟨x, z⟩ => by
    obtain ⟨o, v, z2, _⟩ := hcl x b z
    rw [z2] at e; cases e
  have un : Un (frs outer) [] (dropL cl H) H2 s.heap s'.heap := J.base
  have cellK : ∀ x c, cl.lookup x = some c → ∃ o, H c = some (.frz o (.own c)) ∧ s'.heap.get? c = some o ∧ H2 c = none := fun x c e => by
    obtain ⟨o, v, z, _⟩ := hcl x c e
    have ho := (e0.hok c _ z).1
    have dz : dropL cl H c = none := if_pos ⟨x, e⟩
    have nf : c ∉ frs outer := fun hb => by rw [e0.frf c hb] at z; cases z
    exact ⟨o, z, un.keep c o ho dz nf (by simp), un.free c o ho dz (by simp)⟩
  have nm : ∀ b u, H2 b = some u → ¬ InCl cl b := fun b u e ⟨x, z⟩ => by
    obtain ⟨_, _, _, z2⟩ := cellK x b z
    rw [z2] at e; cases e
  refine ⟨v, mixL cl H H2, J.os, J.bare, ⟨fun b o e n hf hx => un.keep b o e (by rw [d1 b (nc b n)]; exact n) hf hx, fun b o e n hf hx => un.slot b o e (by rw [d1 b (nc b n)]; exact n) hf hx, fun b o e n hx => by rw [m1 b (nc b n)]; exact un.free b o e (by rw [d1 b (nc b n)]; exact n) hx, un.there, fun b xs e => ?_, fun b o a e => ?_, fun b qs ps e => ?_⟩, fun b u e => ?_, rv, q fun b ⟨x, z⟩ => let ⟨_, _, _, z2⟩ := cellK x b z; z2⟩
  · have hc := drop_cells hcl e fun _ _ y => nomatch y
    rw [m1 b hc]; exact un.tups b xs (by rw [d1 b hc]; exact e)
  · by_cases hc : InCl cl b
    · show (if InCl cl b then H b else H2 b) = _
      rw [if_pos hc]; exact e
    · rw [m1 b hc]; exact un.frzs b o a (by rw [d1 b hc]; exact e)
  · have hc := drop_cells hcl e fun _ _ y => nomatch y
    rw [m1 b hc]; exact un.tbls b qs ps (by rw [d1 b hc]; exact e)
  · by_cases hc : InCl cl b
    · have e' : H b = some u := by rw [← e]; exact (if_pos hc).symm
      obtain ⟨x, z⟩ := hc
      obtain ⟨o, z1, z2, _⟩ := cellK x b z
      rw [z1] at e'; cases e'
      exact ⟨z2, o, z2⟩
    · rw [m1 b hc] at e
      exact (J.hok b u e).stay (fun _ _ _ z => z) (fun c z => by rw [m1 c (nm c _ z)]; exact z) (fun c _ _ _ _ z => by rw [m1 c (nm c _ z)]; exact z) fun c xs z => by rw [m1 c (nm c _ z)]; exact z
end
section
variable {prog : Program} {w : World} {A : Around} {R : Result → Shared → Prop} {s : Shared}
theorem codeAny_exprC {e : Expr} {env : Env} (h : wpAny (model prog w) (A.deeper env) (eval e env) (fun v s' => R (.ok (.ret v)) s') (fun e s' => wpAny (model prog w) (A.deeper env) (leaving env e) (fun _ s'' => R (.error e) s'') (fun e' s'' => R (.error e') s'') s') s) :
    codeAny (model prog w) A (.expr e env) R s := by
  refine codeAny_of_tree ?_
  show wpAny _ (A.deeper env) (do point; ret (← (eval e env).onRaise (leaving env))) _ _ s
  exact wpAny_bind (wpAny_point (wpAny_bind (wpAny_onRaise (wpAny_mono h (fun v s' h' => wpAny_pure h') fun _ _ h' => h'))))
theorem codeAny_call_exprC {a : Addr} {args : Args} {o : Obj} {fd : FuncData} {body : Expr} (hroom : A.depth < recursionLimit) (ho : s.heap.get? a = some o) (hd' : o.data = .func fd) (hco : fd.scope.isCoroutine = false) (hgen : fd.scope.isGenerator = false) (hbody : fd.body = .expr body) (hcd : s.heap.CodeRec fd.code fd.qualname)
    (h : wpAny (model prog w) A.in1 (bindArgs fd args) (fun binds s₁ =>
      wpAny (model prog w) A.in1 (newFunctionEnv fd.scope fd.globals fd.closure binds (fd.qualname ++ ".<locals>.") (some a) fd.code none fd.builtins)
        (fun env s₂ => s₂.heap.NoLimit ∧ codeAny (model prog w) A (.expr body env) R s₂) (fun e s' => R (.error e) s') s₁) (fun e s' => R (.error e) s') s) :
    codeAny (model prog w) A (.call (.ref a) args) R s := by
  refine codeAny_of_tree ?_
  show wpAny _ A.in1 (callAny (.ref a) args) _ _ s
  simp only [callAny]
  refine wpAny_bind (wpAny_load ho ?_)
  obtain ⟨c, oc, vs, tq, hc, hoc, hdc, hq⟩ := hcd
  simp only [hd', callFunction, hco, hgen, hbody, hc]
  rw [hc] at h
  refine wpAny_bind (m := field (.ref c) 1) (wpAny_field hoc hdc hq (wpAny_bind (wpAny_pure ?_)))
  exact wpAny_bind (wpAny_mono h (fun binds s₁ h₁ => wpAny_bind (wpAny_mono h₁ (fun env s₂ h₂ => wpAny_bind (wpAny_enterFrame h₂.1 hroom
    (wpAny_pure (And.intro rfl h₂.2)))) fun _ _ h' => h')) fun _ _ h' => h')
end
section
variable {P : Program} {w : World} {K : PySem.W.Frag} {mg : Str → Option Value} {base : Heap} {H : Hp} {own ps cap : List Str} {name qual : Str} {params : Arguments} {scope : Scope} {cl : List (Str × Addr)} {f c' : Addr} {oc : Obj} {ct pm : Value} {cv : List V} {k : Nat} {sp : Sp}
theorem Caps.frz {H H' : Hp} (g : Frz H H') : ∀ {cap : List Str} {cv : List V}, Caps H cl cap cv → Caps H' cl cap cv
  | _, _, .nil => .nil
  | _, _, .cons ⟨c, o, u, e1, e2, e3⟩ t => .cons ⟨c, o, u, e1, g _ _ _ e2, e3⟩ (Caps.frz g t)
theorem clo_expr {body : Expr} (S : CloScope own ps cap scope) (hlo : ps.length ≤ own.length) (hf : H f = some (fnO (cloFd name qual params (.expr body) scope cl ct (.ref c') pm) f)) (hcode : H c' = some (.frz oc (.own c'))) (co : CodeObj oc qual)
    (hcl : ∀ x c, cl.lookup x = some c → ∃ o v, H c = some (.frz o (.own c)) ∧ o.data = .cell v) (hfr : ∀ p ∈ scope.names, p.2 = .free → ∃ c, cl.lookup p.1 = some c) (inj : ∀ x y c, cl.lookup x = some c → cl.lookup y = some c → x = y) (hcap : Caps H cl cap cv)
    (hbind : ∀ us : List Value, us.length = ps.length → bindArgs (cloFd name qual params (.expr body) scope cl ct (.ref c') pm) ⟨us, []⟩ = pure (ps.zip us))
    (hbody : ∀ (A : Around) (outer : List Env) (s : Shared) (H' : Hp) (vs : List V) (Q : VK), Room k (A.deeper (envL qual scope cl s.heap.objs.size f (.ref c'))) → Frz H H' → vs.length = ps.length → sp vs H' Q E0 →
      ∃ t, PE (cxL P w K mg base (own ++ cap) qual scope cl f (.ref c') A outer s H') body t ∧ t (stL own vs cv) (dropL cl H') (fun v H2 => (∀ b, InCl cl b → H2 b = none) → Q v (mixL cl H' H2))) : CloH P w K mg base (k + 1) H f ps.length sp := by
  intro A outer s H' us vs Q hr e0 fz r hl hsp
  have KX : K.In s.heap := e0.mod.kin.keeps fun b o e => (e0.bs b o e).1
  have lim : s.heap.NoLimit := e0.mod.nolimit.keeps fun b o e => (e0.bs b o e).1
  have ho := (e0.hok f _ (fz _ _ _ hf)).1
  have hoc := (e0.hok c' _ (fz _ _ _ hcode)).1
  obtain ⟨ws, t', cd1, cd2⟩ := co
  have hlu : us.length = ps.length := by rw [← r.length]; exact hl
  have hcl' : ∀ x c, cl.lookup x = some c → ∃ o v, H' c = some (.frz o (.own c)) ∧ o.data = .cell v := fun x c e => let ⟨o, v, z, d⟩ := hcl x c e; ⟨o, v, fz _ _ _ z, d⟩
  refine codeAny_call_exprC hr.depth ho rfl S.co S.gen rfl ⟨c', oc, ws, t', rfl, hoc, cd1, cd2⟩ ?_
  rw [hbind us hlu]
  refine wpAny_pure (wpAny_newFunctionEnv S.nocell (fun y hy => S.par y.1 (List.of_mem_zip (show (y.1, y.2) ∈ ps.zip us from hy)).1) (fun h1 hns hsb => ?_) S.kind)
  have hk : ∀ b o, s.heap.get? b = some o → h1.get? b = some o := fun b o e => hsb.extBut b o (Nat.ne_of_lt (Heap.lt_size e)) (Heap.get?_push_of_some _ e)
  refine ⟨lim.keeps hk, codeAny_exprC ?_⟩
  obtain ⟨t, ht, hq⟩ := hbody A outer s H' vs Q (hr.deeper _) fz hl hsp
  have I := inv_clo (qual := qual) (f := f) (cd := .ref c') (tk := s.toks + (ps.zip us).length) S hr.hd e0 hl hlo r hcl' hfr inj (hcap.frz fz) hns hk
  exact wpAny_mono (ht [] _ _ _ _ I hq) (fun u s' ⟨v, H2, J, rv, q⟩ => clo_fin e0 hcl' J rv q) fun _ _ z => z.elim
theorem clo_stmts {body : List Stmt} (S : CloScope own ps cap scope) (hlo : ps.length ≤ own.length) (hf : H f = some (fnO (cloFd name qual params (.stmts body) scope cl ct (.ref c') pm) f)) (hcode : H c' = some (.frz oc (.own c'))) (co : CodeObj oc qual)
    (hcl : ∀ x c, cl.lookup x = some c → ∃ o v, H c = some (.frz o (.own c)) ∧ o.data = .cell v) (hfr : ∀ p ∈ scope.names, p.2 = .free → ∃ c, cl.lookup p.1 = some c) (inj : ∀ x y c, cl.lookup x = some c → cl.lookup y = some c → x = y) (hcap : Caps H cl cap cv)
    (hbind : ∀ us : List Value, us.length = ps.length → bindArgs (cloFd name qual params (.stmts body) scope cl ct (.ref c') pm) ⟨us, []⟩ = pure (ps.zip us))
    (hbody : ∀ (A : Around) (outer : List Env) (s : Shared) (H' : Hp) (vs : List V) (Q : VK), Room k (A.deeper (envL qual scope cl s.heap.objs.size f (.ref c'))) → Frz H H' → vs.length = ps.length → sp vs H' Q E0 →
      ∃ t, PSs (cxL P w K mg base (own ++ cap) qual scope cl f (.ref c') A outer s H') body t ∧ t { nx := fun _ H2 => (∀ b, InCl cl b → H2 b = none) → Q .non (mixL cl H' H2), rt := fun v H2 => (∀ b, InCl cl b → H2 b = none) → Q v (mixL cl H' H2) } (stL own vs cv) (dropL cl H')) : CloH P w K mg base (k + 1) H f ps.length sp := by
  intro A outer s H' us vs Q hr e0 fz r hl hsp
  have KX : K.In s.heap := e0.mod.kin.keeps fun b o e => (e0.bs b o e).1
  have lim : s.heap.NoLimit := e0.mod.nolimit.keeps fun b o e => (e0.bs b o e).1
  have ho := (e0.hok f _ (fz _ _ _ hf)).1
  have hoc := (e0.hok c' _ (fz _ _ _ hcode)).1
  obtain ⟨ws, t', cd1, cd2⟩ := co
  have hlu : us.length = ps.length := by rw [← r.length]; exact hl
  have hcl' : ∀ x c, cl.lookup x = some c → ∃ o v, H' c = some (.frz o (.own c)) ∧ o.data = .cell v := fun x c e => let ⟨o, v, z, d⟩ := hcl x c e; ⟨o, v, fz _ _ _ z, d⟩
  refine codeAny_call_function hr.depth ho rfl S.co S.gen rfl ⟨c', oc, ws, t', rfl, hoc, cd1, cd2⟩ ?_
  rw [hbind us hlu]
  refine wpAny_pure (wpAny_newFunctionEnv S.nocell (fun y hy => S.par y.1 (List.of_mem_zip (show (y.1, y.2) ∈ ps.zip us from hy)).1) (fun h1 hns hsb => ?_) S.kind)
  have hk : ∀ b o, s.heap.get? b = some o → h1.get? b = some o := fun b o e => hsb.extBut b o (Nat.ne_of_lt (Heap.lt_size e)) (Heap.get?_push_of_some _ e)
  refine ⟨lim.keeps hk, codeAny_func ?_⟩
  obtain ⟨t, ht, hq⟩ := hbody A outer s H' vs Q (hr.deeper _) fz hl hsp
  have I := inv_clo (qual := qual) (f := f) (cd := .ref c') (tk := s.toks + (ps.zip us).length) S hr.hd e0 hl hlo r hcl' hfr inj (hcap.frz fz) hns hk
  refine wpAny_mono (ht [] _ _ _ _ I hq) (fun fl s' hs => ?_) fun _ _ z => z.elim
  cases fl with
  | ret u =>
    obtain ⟨v, σ', H2, J, rv, q⟩ := hs
    exact clo_fin e0 hcl' J rv q
  | next =>
    obtain ⟨σ', H2, J, q⟩ := hs
    exact clo_fin (v := V.non) (u := Value.none) e0 hcl' J rfl q
  | brk =>
    obtain ⟨_, _, _, q⟩ := hs
    exact False.elim q
  | cont =>
    obtain ⟨_, _, _, q⟩ := hs
    exact False.elim q
end
structure FunC (K : PySem.W.Frag) (x : Str) (st : Stmt) (f : Addr) (fd : FuncData) (c : Addr) : Prop where
  ex : ∃ (oc : Value) (od : Option Addr) (kV doc pm : Value) (an : Option Addr) (ct : Value) (osl : Array (Option Value)),
    fd = PySem.W.fnOf x x (defArgs st) (defBody st) (defScope st) .none kV doc pm an (.ref c) ct ∧ K.lookup f = some ⟨oc, od, .func fd, osl⟩ ∧ PySem.W.codeIn K (.ref c) x = true
  kp : PySem.W.keepIn K (.ref f) = true
structure DfnC (K : PySem.W.Frag) (mg : Str → Option Value) (x : Str) (st : Stmt) (ps : List Str) (c P : Addr) : Prop where
  ex : ∃ f fd, FunC K x st f fd c ∧ Binds K fd ps [] ∧ mg x = some (.ref f)
  code : KCode K c P
theorem kcode_mk {K : PySem.W.Frag} {c P : Addr} {od : Option Addr} {vs : Array Value} {sl : Array (Option Value)} {file : Str} {tf tg tt : Tok} {flags text : Int} {inF : Bool} (l : K.lookup c = some ⟨.type "code", od, .fields vs, sl⟩)
    (e11 : vs[11]? = some (.ref P)) (e18 : vs[18]? = some (.str file tf)) (e7 : vs[7]? = some (.int flags tg)) (e9 : vs[9]? = some (.bool inF)) (e10 : vs[10]? = some (.int text tt)) (ne : c ≠ P) : KCode K c P := by
  have g : ∀ {i : Nat} {v : Value}, vs[i]? = some v → vs.getD i .none = v := fun {i v} e => by rw [Array.getD_eq_getD_getElem?, e]; rfl
  exact ⟨_, vs, file, tf, flags, tg, inF, text, tt, l, rfl, rfl, e11, g e11, g e18, g e7, g e9, g e10, ne⟩
theorem dfnc_mk {K : PySem.W.Frag} {h : Heap} {mg : Str → Option Value} {x : Str} {st : Stmt} {ps : List Str} {f c P : Addr} {oc : Value} {od an : Option Addr} {osl : Array (Option Value)} {kV doc pm ct : Value} (X : K.In h) (G : h.Ns mainGlobals mg)
    (a : PySem.W.nsIn K mainGlobals x = some (some (.ref f))) (l : K.lookup f = some ⟨oc, od, .func (PySem.W.fnOf x x (defArgs st) (defBody st) (defScope st) .none kV doc pm an (.ref c) ct), osl⟩)
    (cd : PySem.W.codeIn K (.ref c) x = true) (k : PySem.W.keepIn K (.ref f) = true) (kc : KCode K c P)
    (hb : ∀ (kV doc pm : Value) (an : Option Addr) (cdv ct : Value) (us : List Value), us.length = ps.length → bindArgs (PySem.W.fnOf x x (defArgs st) (defBody st) (defScope st) .none kV doc pm an cdv ct) ⟨us, []⟩ = pure (ps.zip us)) : DfnC K mg x st ps c P :=
  ⟨⟨f, _, ⟨⟨oc, od, kV, doc, pm, an, ct, osl, rfl, l, cd⟩, k⟩, (fun_mk l cd k).binds hb, PySem.W.mg_of X G a⟩, kc⟩
section
variable {P : Program} {w : World} {K : PySem.W.Frag} {mg : Str → Option Value} {base : Heap}
theorem DfnC.cal {x : Str} {st : Stmt} {N ps : List Str} {k : Nat} {sp : Sp} {c Pt : Addr} (d : DfnC K mg x st ps c Pt) (S : FnScope N ps (defScope st)) (len : ∀ vs H Q E, sp vs H Q E → vs.length = ps.length)
    (hbody : ∀ (f : Addr) (A : Around) (outer : List Env) (s : Shared) (H : Hp) (vs : List V) (Q : VK) (E : XK), Room k (A.deeper (envOfC x (defScope st) s.heap.objs.size f (.ref c))) → sp vs H Q E →
      ∃ t, PSs (cxOf CX0 P w K mg base N x (defScope st) f (.ref c) A outer s H E).nox (defBody st) t ∧ t { nx := fun _ H' => Q .non H', rt := Q } (start N vs) H) : Cal P w K mg base (k + 1) x ps sp := by
  obtain ⟨f, fd, F, b, m⟩ := d.ex
  obtain ⟨oc, od, kV, doc, pm, an, ct, osl, rfl, lk, hcd⟩ := F.ex
  refine ⟨f, _, fn_of lk hcd S len fun A outer s H vs Q E hr hsp => ?_, b, F.kp, m⟩
  obtain ⟨t, h, q⟩ := hbody f A outer s H vs Q E hr hsp
  exact ⟨t, h.nox, q⟩
end
def TabFor (q : Program) (K : PySem.W.Frag) (mg : Str → Option Value) (b : Addr) : Prop := ∃ d ∈ recsOf q, ∃ f oc od fd osl c, mg d.name = some (.ref f) ∧ K.lookup f = some ⟨oc, od, .func fd, osl⟩ ∧ fd.code = .ref c ∧ KCode K c b
theorem DfnC.tab {q : Program} {K : PySem.W.Frag} {mg : Str → Option Value} {x : Str} {st : Stmt} {ps : List Str} {c b : Addr} (d : DfnC K mg x st ps c b) (hx : ((recsOf q).any fun r => r.name == x) = true) : TabFor q K mg b := by
  obtain ⟨r, hr, e⟩ := List.any_eq_true.mp hx
  obtain ⟨f, fd, F, _, m⟩ := d.ex
  obtain ⟨oc, od, kV, doc, pm, an, ct, osl, rfl, lk, hcd⟩ := F.ex
  exact ⟨r, hr, f, oc, od, _, osl, c, by rw [beq_iff_eq.mp e]; exact m, lk, rfl, d.code⟩
def TabsOf (q : Program) (mg : Str → Option Value) (h : Heap) : Prop := ∀ d ∈ recsOf q, ∃ a o fd c P, mg d.name = some (.ref a) ∧ h.get? a = some o ∧ o.data = .func fd ∧ fd.code = .ref c ∧ h.IsCode c P #[] ∧ h.TableAt c P #[]
theorem TabFor.at {q : Program} {K : PySem.W.Frag} {mg : Str → Option Value} {h : Heap} {b : Addr} (t : TabFor q K mg b) (X : K.In h) (T : TabsOf q mg h) : ∃ c, h.TableAt c b #[] := by
  obtain ⟨d, hd, f, oc, od, fd, osl, c, m, lk, ec, kc⟩ := t
  obtain ⟨a, o, fd', c', P', m', ho, hf, hc, _, ta⟩ := T d hd
  rw [m] at m'; cases m'
  rw [X f _ lk] at ho; cases ho
  cases hf
  rw [ec] at hc; cases hc
  obtain ⟨o, vs, _, _, _, _, _, _, _, lk', _, hd', h11, _⟩ := kc
  obtain ⟨⟨o2, vs2, e1, e2, e3, e4⟩, e5⟩ := id ta
  rw [X c o lk'] at e1; cases e1
  rw [hd'] at e3; cases e3
  rw [h11] at e4; cases e4
  exact ⟨c, ta⟩
def OnlyT (ts : List (Addr × List (Pos × Str))) (H : Hp) : Prop := (∀ b, H b = none ∨ (∃ o xs, H b = some (.frz o (.lst xs))) ∨ ∃ qs, ts.lookup b = some qs ∧ H b = some (.tbl qs #[])) ∧ ∀ b qs, ts.lookup b = some qs → H b = some (.tbl qs #[])
theorem OnlyT.tab {ts : List (Addr × List (Pos × Str))} {H : Hp} (h : OnlyT ts H) {b : Addr} {qs : List (Pos × Str)} (e : ts.lookup b = some qs) : TabOk H b qs := ⟨#[], h.2 b qs e⟩
theorem law_callT {P : Program} {w : World} {K : PySem.W.Frag} {mg mb : Str → Option Value} {CX : CXT} {k : Nat} {fa a : Addr} {fd : FuncData} {x : Str} {sp : Sp} {s₁ : Shared} {vs : List Value} {ns : List Int} {ts : List (Addr × List (Pos × Str))}
    (KX : K.In s₁.heap) (hns : s₁.heap.Ns mainGlobals mg) (hb : s₁.heap.Ns builtinsNs mb) (hbb : ∀ x : Str, x ≠ "__name__" → mb x = bootBuiltins x) (hlim : s₁.heap.NoLimit) (hg : s₁.gens = #[])
    (ha : s₁.heap.get? a = some { cls := .type "list", data := .seq vs.toArray }) (hi : IntsAre vs ns) (hl : ns.length ≤ sizeLine) (hr : Room k callerA)
    (hbm : BltK s₁.heap mg) (hts : ∀ b qs, ts.lookup b = some qs → ∃ c, s₁.heap.TableAt c b #[]) (hKt : ∀ b qs, ts.lookup b = some qs → K.lookup b = none)
    (F : ∀ base : Heap, K.In base → base.Ns mainGlobals mg → BltK base mg → FnOk P w K mg base CX k fa fd [x] sp) (hbind : ∀ (s : Shared) (u : Value), BindsTo s fd ⟨[u], []⟩ [(x, u)])
    (hsp : ∀ H : Hp, OnlyT ts H → SqL K H a (ns.map V.int) → sp [.ref a] H (fun v _ => v = .bl true) fun _ _ _ => False)
    (hCX : ∀ H e s', CX [] H s₁ (fun _ _ _ => False) e s' → False) :
    codeAny (model P w) callerA (.call (.ref fa) ⟨[.ref a], []⟩) (fun r s' => r = .ok (.ret (.bool true)) ∧ OldK s₁.heap s'.heap ∧ s'.os = s₁.os ∧ AllBare s'.gens) s₁ := by
  have rv := vals_ints hi
  have lenV := hi.length
  have core : ∀ H : Hp, OnlyT ts H → SqL K H a (ns.map V.int) → HOk P w H s₁.heap → (∀ b, H b ≠ none → b = a ∨ ∃ qs, ts.lookup b = some qs) → (H a ≠ none → K.lookup a = none) →
      codeAny (model P w) callerA (.call (.ref fa) ⟨[.ref a], []⟩) (fun r s' => r = .ok (.ret (.bool true)) ∧ OldK s₁.heap s'.heap ∧ s'.os = s₁.os ∧ AllBare s'.gens) s₁ := by
    intro H hO hS hok hA hK
    have base_of : ∀ {b : Addr} {o : Obj}, s₁.heap.get? b = some o → H b = none → (hidT s₁.heap H).get? b = some o := fun e n => hidT_get e n
    have noT : ∀ {b : Addr} {o : Obj}, s₁.heap.get? b = some o → (∀ q n, o.data ≠ .seq q n) → (∀ ps, o.data ≠ .fields ps ∨ o.cls ≠ .none) → H b = none := fun {b o} e n1 n2 => by
      cases q : H b with
      | none => rfl
      | some u =>
        rcases hA b (by rw [q]; simp) with e' | ⟨qs, e'⟩
        · subst e'
          rw [ha] at e; cases e
          exact absurd rfl (n1 _ _)
        · obtain ⟨c, _, e5⟩ := hts b qs e'
          rw [e5] at e; cases e
          rcases n2 #[] with z | z
          · exact absurd rfl z
          · exact absurd rfl z
    have noA : ∀ {b : Addr} {o : Obj} {es : Array DictEntry} {ep : Nat}, s₁.heap.get? b = some o → o.data = .dict es ep → H b = none := fun {b o es ep} e d => noT e (fun q n z => by rw [d] at z; cases z) fun ps => .inl fun z => by rw [d] at z; cases z
    have nsK : ∀ {b : Addr} {m : Str → Option Value}, s₁.heap.Ns b m → (hidT s₁.heap H).Ns b m := fun {b m} ⟨o, es, ep, e, d, r⟩ => ⟨o, es, ep, base_of e (noA e d), d, r⟩
    have hKb : K.In (hidT s₁.heap H) := fun b o e => base_of (KX b o e) (by
      cases q : H b with
      | none => rfl
      | some u =>
        rcases hA b (by rw [q]; simp) with e' | ⟨qs, e'⟩
        · subst e'
          rw [hK (by rw [q]; simp)] at e; cases e
        · rw [hKt b qs e'] at e; cases e)
    have hBb : BltK (hidT s₁.heap H) mg := by
      obtain ⟨bm, o, b1, b2, b3, b4, b5, b6⟩ := hbm
      exact ⟨bm, o, b1, b2, base_of b3 (noT b3 (fun q n z => by rw [b6] at z; cases z) fun ps => .inl fun z => by rw [b6] at z; cases z), b4, b5, b6⟩
    have hM : Mod K mg (hidT s₁.heap H) := ⟨hKb, nsK hns, ⟨mb, nsK hb, hbb⟩, let ⟨mc, h1, h2⟩ := hlim; ⟨mc, nsK h1, h2⟩⟩
    have e0 : Env0 P w K mg (hidT s₁.heap H) callerA [] s₁ H := ⟨rfl, hM, fun b o e => of_hidT e, Nat.le_of_eq (hidT_size _ _), trivial, fun b hb => absurd (show b ∈ ([] : List Addr) from hb) (by simp), hok, .of_eq hg⟩
    refine codeAny_mono ((F _ hKb (nsK hns) hBb).run callerA [] s₁ H ⟨[.ref a], []⟩ [.ref a] [.ref a] _ _ hr e0 (hbind s₁ (.ref a)) (.cons rfl .nil) (hsp H hO hS)) fun r s' h => ?_
    cases r with
    | error e => exact (hCX H e s' h).elim
    | ok fl =>
      cases fl with
      | next => exact False.elim h
      | brk => exact False.elim h
      | cont => exact False.elim h
      | ret u =>
        obtain ⟨v, H', os, bare, un, hok', r', q⟩ := h
        have q' : v = .bl true := q
        subst q'
        obtain rfl : u = Value.bool true := r'
        have was : ∀ b o, s₁.heap.get? b = some o → asItWas s₁.heap s'.heap b o := fun b o e => by
          rcases hO.1 b with z | ⟨ob, xs, z⟩ | ⟨qs, l, z⟩
          · exact .inl (un.keep b o e z (by intro z; exact absurd (show b ∈ ([] : List Addr) from z) (by simp)) (by simp))
          · have z2 := un.frzs b ob _ z
            obtain ⟨e1, _⟩ := hok b _ z
            obtain ⟨e2, _⟩ := hok' b _ z2
            rw [e] at e1; cases e1
            exact .inl e2
          · have z2 := un.tbls b qs _ z
            obtain ⟨more, e2, _⟩ := hok' b _ z2
            obtain ⟨c, ta⟩ := hts b qs l
            have e5 := ta.2
            rw [e5] at e; cases e
            exact .inr (.inl ⟨ta.isCodeTable, rfl, #[], more, rfl, e2⟩)
        exact ⟨rfl, ⟨was, fun b o e => un.there b o e (by simp)⟩, os, bare⟩
  have neA : ∀ qs, ts.lookup a = some qs → False := fun qs e => by
    obtain ⟨c, _, e5⟩ := hts a qs e
    rw [e5] at ha; cases ha
  have tabOk : ∀ (H : Hp) b qs, ts.lookup b = some qs → ObjOk P w H s₁.heap b (.tbl qs #[]) := fun H b qs e => by
    obtain ⟨c, _, e5⟩ := hts b qs e
    exact ⟨#[], by simpa using e5, trivial, fun p hp v z => by simp [codeAmong] at z⟩
  let HT : Hp := fun b => (ts.lookup b).map fun qs => .tbl qs #[]
  have hT1 : ∀ b qs, ts.lookup b = some qs → HT b = some (.tbl qs #[]) := fun b qs e => by show (ts.lookup b).map _ = _; rw [e]; rfl
  have hT2 : ∀ b, ts.lookup b = none → HT b = none := fun b e => by show (ts.lookup b).map _ = _; rw [e]; rfl
  cases hk : K.lookup a with
  | some o =>
    have e := KX a o hk
    rw [ha] at e
    cases e
    refine core HT ⟨fun b => ?_, hT1⟩ (.inr ⟨_, vs.toArray, _, hk, rfl, rfl, rfl, by rw [List.size_toArray, lenV]; exact hl, by simpa using rv⟩) (fun b u z => ?_) (fun b z => ?_) fun z => ?_
    · cases e : ts.lookup b with
      | none => exact .inl (hT2 b e)
      | some qs => exact .inr (.inr ⟨qs, rfl, hT1 b qs e⟩)
    · cases e : ts.lookup b with
      | none => rw [hT2 b e] at z; cases z
      | some qs => rw [hT1 b qs e] at z; cases z; exact tabOk _ b qs e
    · cases e : ts.lookup b with
      | none => exact absurd (hT2 b e) z
      | some qs => exact .inr ⟨qs, rfl⟩
    · cases e : ts.lookup a with
      | none => exact absurd (hT2 a e) z
      | some qs => exact (neA qs e).elim
  | none =>
    let H1 : Hp := fun b => if b = a then some (.frz { cls := .type "list", data := .seq vs.toArray } (.lst (ns.map V.int))) else HT b
    have h1a : H1 a = some (.frz { cls := .type "list", data := .seq vs.toArray } (.lst (ns.map V.int))) := if_pos rfl
    have h1b : ∀ b, b ≠ a → H1 b = HT b := fun b e => if_neg e
    refine core H1 ⟨fun b => ?_, fun b qs e => ?_⟩ (.inl (.inr ⟨{ cls := .type "list", data := .seq vs.toArray }, h1a⟩)) (fun b u z => ?_) (fun b z => ?_) fun _ => hk
    · by_cases hb : b = a
      · subst hb; exact .inr (.inl ⟨_, _, h1a⟩)
      · rw [h1b b hb]
        cases e : ts.lookup b with
        | none => exact .inl (hT2 b e)
        | some qs => exact .inr (.inr ⟨qs, rfl, hT1 b qs e⟩)
    · rw [h1b b fun z => neA qs (z ▸ e)]; exact hT1 b qs e
    · by_cases hb : b = a
      · subst hb
        rw [h1a] at z; cases z
        exact ⟨ha, by rw [List.length_map]; exact hl, vs, _, rv, ha⟩
      · rw [h1b b hb] at z
        cases e : ts.lookup b with
        | none => rw [hT2 b e] at z; cases z
        | some qs => rw [hT1 b qs e] at z; cases z; exact tabOk _ b qs e
    · by_cases hb : b = a
      · exact .inl hb
      · rw [h1b b hb] at z
        cases e : ts.lookup b with
        | none => exact absurd (hT2 b e) z
        | some qs => exact .inr ⟨qs, rfl⟩
theorem walk_ofT {l : PySem.W.OpenLaw} {n k : Nat} {q : Program} {loose : List Str} {XP : (Str → Option Value) → Heap → Prop} {YP : World → Heap → Prop} {d : DefRec} {K : Params → PySem.W.Frag} {CX : CXT} {sp : PySem.W.Frag → List (Addr × List (Pos × Str)) → Sp} {x : Str}
    (hn : l.most = some n) (hn2 : n ≤ sizeLine) (hdf : d.params.defaults = []) (hr : Room k callerA)
    (hY : ∀ (w : World) (h : Heap), YP w h → (K w.params).In h)
    (F : ∀ (w : World) (mg : Str → Option Value) (fa : Addr) (h : Heap), (K w.params).In h → h.Ns mainGlobals mg → mg d.name = some (.ref fa) →
      ∃ (fd : FuncData) (ts : List (Addr × List (Pos × Str))), (∀ (s : Shared) (u : Value), BindsTo s fd ⟨[u], []⟩ [(x, u)]) ∧ (∀ b qs, ts.lookup b = some qs → TabFor q (K w.params) mg b ∧ (K w.params).lookup b = none) ∧
        ∀ base : Heap, (K w.params).In base → base.Ns mainGlobals mg → BltK base mg → FnOk l.prog w (K w.params) mg base CX k fa fd [x] (sp (K w.params) ts))
    (hsp : ∀ (K : PySem.W.Frag) (ts : List (Addr × List (Pos × Str))) (H : Hp) (a : Addr) (ns : List Int), ns.length ≤ n → OnlyT ts H → SqL K H a (ns.map V.int) → sp K ts [.ref a] H (fun v _ => v = .bl true) fun _ _ _ => False)
    (hCX : ∀ (H : Hp) (s : Shared) (e : Value) (s' : Shared), CX [] H s (fun _ _ _ => False) e s' → False) :
    PySem.W.WalkO q loose XP YP l.row.toRowW d [] (fun f vs => PySem.call f vs) := by
  refine Att.attach_call hn hdf fun w s₀ s₁ mg mb fa o pm cd doc a vs ns G Y ho hd hcd hmg hobj hints hlen hg => ?_
  have KX := hY w _ Y
  obtain ⟨fd, ts, hb, ht, hF⟩ := F w mg fa _ KX G.T.g hmg
  exact law_callT KX G.T.g G.T.b G.T.builtins G.T.nolimit hg hobj hints (Nat.le_trans hlen hn2) hr G.T.bmain (fun b qs e => (ht b qs e).1.at KX G.T.tab) (fun b qs e => (ht b qs e).2) hF hb (fun H hO hS => hsp (K w.params) ts H a ns hlen hO hS) fun H e s' => hCX H s₁ e s'
theorem lk_mem : ∀ {ts : List (Addr × List (Pos × Str))} {b : Addr} {qs : List (Pos × Str)}, ts.lookup b = some qs → (b, qs) ∈ ts
  | [], _, _, e => by simp at e
  | (a, q) :: ts, b, qs, e => by
    rw [List.lookup_cons] at e
    split at e
    · rename_i z
      cases e
      rw [show b = a from beq_iff_eq.mp z]; exact List.mem_cons_self
    · exact List.mem_cons_of_mem _ (lk_mem e)
theorem ts_all {ts : List (Addr × List (Pos × Str))} {R : Addr → Prop} (h : ∀ p ∈ ts, R p.1) : ∀ b qs, ts.lookup b = some qs → R b := fun b qs e => h (b, qs) (lk_mem e)
theorem pe_callAC {X : Cx} {n k : Nat} {x : Str} {ps : List Str} {sp : Sp} {p pos : Pos} {e : Expr} {es : List Expr} {t : TA} (C : Cal X.prog X.w X.K X.mg X.base n x ps sp) (hr : Room k X.A) (hle : n ≤ k) (hg : Gl X x) (hfn : ∀ x, X.fn x = true) (ha : PA X (e :: es) t) (hdb : (x == ("__debug__" : Str)) = false := by decide)
    (h1 : notStar e = true := by rfl) (h2 : es.all notStar = true := by rfl) : PE X (.Call (.Name x p) (e :: es) [] pos) (tCallA X sp t) := by
  obtain ⟨f, fd, F, b, kp, m⟩ := C.ex
  exact pe_callA F (hr.mono hle) hg m kp b hfn ha hdb (star_cons h1) (star_any h2)
theorem pe_callVC {X : Cx} {x : Str} (i k n : Nat) (sp : Sp) {m : Nat} {p pos : Pos} {e : Expr} {es : List Expr} {t : TA} (hr : Room m X.A) (hle : k ≤ m) (ha : PA X (e :: es) t) (hN : X.N[i]? = some x := by rfl) (hv : Vis X.env.scope x := by first | exact Or.inl rfl | exact Or.inr (Or.inl rfl) | exact Or.inr (Or.inr rfl))
    (hd : (x == ("__debug__" : Str)) = false := by decide) (hcd : (x == ("__classdict__" : Str)) = false := by decide) (h1 : notStar e = true := by rfl) (h2 : es.all notStar = true := by rfl) :
    PE X (.Call (.Name x p) (e :: es) [] pos) (tCallV X.prog X.w X.K X.mg X.base k n sp i t) := pe_callV hN hv (hr.mono hle) ha hd hcd (star_cons h1) (star_any h2)
def freeOk (env : Env) (sc : Scope) : Bool := sc.names.all fun p => p.2 != .free || (env.kindOf p.1 == some .cell || env.kindOf p.1 == some .free)
theorem freeOk.of {env : Env} {sc : Scope} (h : freeOk env sc = true) : ∀ p ∈ sc.names, p.2 = .free → env.kindOf p.1 = some .cell ∨ env.kindOf p.1 = some .free := fun p hp e => by
  have q := List.all_eq_true.mp h p hp
  rw [e] at q
  simpa using q
def oneOk (qs : List (Pos × Str)) (pos : Pos) (qual : Str) : Bool := qs.any (fun p => p.1.line == pos.line && p.1.col == pos.col && p.1.endLine == pos.endLine && p.1.endCol == pos.endCol && p.2 == qual) && qs.all fun p => p.1.line != pos.line || p.1.col != pos.col || p.2 == qual
theorem oneOk.one {qs : List (Pos × Str)} {pos : Pos} {qual : Str} (h : oneOk qs pos qual = true) : ∀ p ∈ qs, p.1.line = pos.line → p.1.col = pos.col → p.2 = qual := fun p hp e1 e2 => by
  have q := List.all_eq_true.mp (Bool.and_eq_true _ _ ▸ h : _ ∧ _).2 p hp
  rw [e1, e2] at q
  simpa using q
theorem oneOk.mem {qs : List (Pos × Str)} {pos : Pos} {qual : Str} (h : oneOk qs pos qual = true) : (pos, qual) ∈ qs := by
  obtain ⟨p, hp, e⟩ := List.any_eq_true.mp (Bool.and_eq_true _ _ ▸ h : _ ∧ _).1
  simp only [Bool.and_eq_true, beq_iff_eq] at e
  obtain ⟨⟨⟨⟨e1, e2⟩, e3⟩, e4⟩, e5⟩ := e
  have : p = (pos, qual) := by
    obtain ⟨⟨a, b, c, d⟩, z⟩ := p
    obtain ⟨a', b', c', d'⟩ := pos
    simp only at e1 e2 e3 e4 e5
    subst e1 e2 e3 e4 e5
    rfl
  rw [← this]; exact hp
section
variable {X : Cx} {c P : Addr} {qs : List (Pos × Str)} {pos : Pos} {params : Arguments} {scope : Scope}
theorem pe_lam (qual : Str) {body : Expr} (hc : X.env.code = .ref c) (kc : KCode X.K c P) (kb : BltK X.base X.mg) (hfr : freeOk X.env scope = true) (hq : oneOk qs pos qual = true) (hd : params.defaults = [] := by rfl) (hk : params.kw_defaults = [] := by rfl) (hqual : X.env.qual ++ "<lambda>" = qual := by rfl) :
    PE X (.Lambda params body scope pos) (tLam X P qs "<lambda>" qual params (.expr body) scope) := pe_lambda hc kc kb (freeOk.of hfr) (oneOk.mem hq) (oneOk.one hq) hd hk hqual
theorem ps_dfn (qual : Str) {name : Str} {j : Nat} {body : List Stmt} (hc : X.env.code = .ref c) (kc : KCode X.K c P) (kb : BltK X.base X.mg) (hfr : freeOk X.env scope = true) (hq : oneOk qs pos qual = true) (hN : X.N.Nodup) (hj : X.N[j]? = some name) (hx : X.env.scope.names.lookup name = some .local) (nd : docOf body = none := by rfl)
    (hd : params.defaults = [] := by rfl) (hk : params.kw_defaults = [] := by rfl) (ha : ∀ e, annTrees params none e = [] := by intro e; rfl) (hqual : qualnameIn X.env name name = qual := by rfl) :
    PS X (.FunctionDef name params body [] none [] scope none name pos) (tDef X P qs name qual params (.stmts body) scope j) := ps_defn hc kc kb (freeOk.of hfr) nd (oneOk.mem hq) (oneOk.one hq) hd hk ha hqual hN hj hx
end
open Classical
theorem Adopted.same {X : Cx} {σ : St} {H1 Hq H2 : Hp} (ad : Adopted X σ H1 Hq) (g : Same Hq H2) : Same H1 (dropX X H2) := fun b u e => by
  have hc : ¬ CellOf X b := fun hc => by rw [ad.2.1 b hc] at e; cases e
  show (if CellOf X b then none else H2 b) = some u
  rw [if_neg hc]
  exact g b u (by rw [ad.1 b hc]; exact e)
theorem Adopted.up {X : Cx} {σ : St} {H1 Hq : Hp} (ad : Adopted X σ H1 Hq) : Same H1 Hq := fun b u e => by
  have hc : ¬ CellOf X b := fun hc => by rw [ad.2.1 b hc] at e; cases e
  rw [ad.1 b hc]; exact e
theorem Adopted.keep {X : Cx} {σ : St} {H1 Hq H2 : Hp} (ad : Adopted X σ H1 Hq) (g : Same Hq H2) {b : Addr} {u : HO} (e : H2 b = some u) (n : ∀ o a, u ≠ .frz o a) : dropX X H2 b = some u := by
  have hc : ¬ CellOf X b := fun ⟨x, z⟩ => by
    obtain ⟨o, v, h1, _⟩ := ad.2.2.2 x b z
    rw [g _ _ h1] at e; cases e
    exact n _ _ rfl
  show (if CellOf X b then none else H2 b) = some u
  rw [if_neg hc]; exact e
def SameN (H H' : Hp) : Prop := ∀ b u, H b = some u → (∀ o a, u ≠ .frz o a) → H' b = some u
section
variable {cl : List (Str × Addr)} {H : Hp}
def ClOk (cl : List (Str × Addr)) (H : Hp) : Prop := ∀ x c, cl.lookup x = some c → ∃ o v, H c = some (.frz o (.own c)) ∧ o.data = .cell v
theorem ClOk.n (hcl : ClOk cl H) : SameN H (dropL cl H) := fun b u e n => by
  show (if InCl cl b then none else H b) = some u
  rw [if_neg (drop_cells hcl e n)]; exact e
theorem ClOk.fn (hcl : ClOk cl H) {f : Addr} {fd : FuncData} (e : H f = some (fnO fd f)) : dropL cl H f = some (fnO fd f) := by
  have nc : ¬ InCl cl f := fun ⟨x, z⟩ => by
    obtain ⟨o, v, z2, z3⟩ := hcl x f z
    rw [z2] at e; cases e
    cases z3
  exact (if_neg nc).trans e
theorem mix_same {H2 : Hp} (g : Same (dropL cl H) H2) : Same H (mixL cl H H2) := fun b u e => by
  show (if InCl cl b then H b else H2 b) = some u
  by_cases hc : InCl cl b
  · rw [if_pos hc]; exact e
  · rw [if_neg hc]
    exact g b u (by show (if InCl cl b then none else H b) = some u; rw [if_neg hc]; exact e)
theorem mix_up {H2 : Hp} (g : ∀ b, InCl cl b → H2 b = none) : Same H2 (mixL cl H H2) := fun b u e => by
  show (if InCl cl b then H b else H2 b) = some u
  rw [if_neg fun hc => by rw [g b hc] at e; cases e]; exact e
end
def CapAt (X : Cx) (σ : St) (cap : List Str) (cv : List V) : Prop := Paired (fun x v => ∃ i : Nat, X.N[i]? = some x ∧ σ[i]? = some (some v) ∧ (X.env.kindOf x = some .cell ∨ X.env.kindOf x = some .free)) cap cv
theorem caps_of {X : Cx} {σ : St} {H1 Hq : Hp} (ad : Adopted X σ H1 Hq) {cl : List (Str × Addr)} (h1 : ∀ x c, cl.lookup x = some c → X.env.cells.lookup x = some c) : ∀ {cap : List Str} {cv : List V}, (∀ x ∈ cap, ∃ c, cl.lookup x = some c) → CapAt X σ cap cv → Caps Hq cl cap cv
  | _, _, _, .nil => .nil
  | x :: _, _ :: _, hc, .cons ⟨i, e1, e2, e3⟩ t => by
    obtain ⟨c, lc⟩ := hc x List.mem_cons_self
    obtain ⟨o, v, z1, z2, z3⟩ := ad.2.2.2 x c (h1 x c lc)
    obtain ⟨u, ru, rfl⟩ := z3 i _ e1 e2 e3
    exact .cons ⟨c, o, u, lc, z1, z2, ru⟩ (caps_of ad h1 (fun y hy => hc y (List.mem_cons_of_mem _ hy)) t)
section
variable {X : Cx} {H H1 H1' Hq : Hp} {σ : St} {name qual : Str} {params : Arguments} {scope : Scope} {f : Addr} {own ps cap : List Str} {cv : List V} {k : Nat} {sp : Sp}
theorem Made.fn {body : FuncBody} (M : Made X H H1 name qual params body scope f) : ∃ fd, H1 f = some (fnO fd f) := by
  obtain ⟨cl, ct, c', oc, pm, _, _, _, _, h⟩ := M.ex
  exact ⟨_, h⟩
theorem frz_drop {cl : List (Str × Addr)} {H' : Hp} (ad : Adopted X σ H1' Hq) (l1 : ∀ x c, cl.lookup x = some c → X.env.cells.lookup x = some c) (fz : Frz Hq H') : Frz H1' (dropL cl H') := fun b o u e => by
  have nc : ¬ InCl cl b := fun ⟨x, z⟩ => by rw [ad.2.1 b ⟨x, l1 x b z⟩] at e; cases e
  show (if InCl cl b then none else H' b) = _
  rw [if_neg nc]
  exact fz _ _ _ (ad.up _ _ e)
theorem Made.clo_e {body : Expr} (M : Made X H H1 name qual params (.expr body) scope f) (g : Same H1 H1') (ad : Adopted X σ H1' Hq) (S : CloScope own ps cap scope) (hlo : ps.length ≤ own.length) (hcap : CapAt X σ cap cv)
    (hbind : ∀ (cl : List (Str × Addr)) (ct cd pm : Value) (us : List Value), us.length = ps.length → bindArgs (cloFd name qual params (.expr body) scope cl ct cd pm) ⟨us, []⟩ = pure (ps.zip us))
    (hbody : ∀ (cl : List (Str × Addr)) (c' : Addr) (A : Around) (outer : List Env) (s : Shared) (H' : Hp) (vs : List V) (Q : VK), Room k (A.deeper (envL qual scope cl s.heap.objs.size f (.ref c'))) → ClOk cl H' → Frz Hq H' → Frz H1' (dropL cl H') → vs.length = ps.length → sp vs H' Q E0 →
      ∃ t, PE (cxL X.prog X.w X.K X.mg X.base (own ++ cap) qual scope cl f (.ref c') A outer s H') body t ∧ t (stL own vs cv) (dropL cl H') (fun v H2 => (∀ b, InCl cl b → H2 b = none) → Q v (mixL cl H' H2))) : CloH X.prog X.w X.K X.mg X.base (k + 1) Hq f ps.length sp := by
  obtain ⟨cl, ct, c', oc, pm, l1, l2, l3, l4, l5⟩ := M.ex
  have hcl : ClOk cl Hq := fun x c e => let ⟨o, v, z1, z2, _⟩ := ad.2.2.2 x c (l1 x c e); ⟨o, v, z1, z2⟩
  have up := ad.up
  refine clo_expr S hlo (up _ _ (g _ _ l5)) (up _ _ (g _ _ l3)) l4 hcl l2 (fun x y c e1 e2 => ad.2.2.1 x y c (l1 x c e1) (l1 y c e2)) (caps_of ad l1 (fun x hx => l2 (x, .free) (mem_of_lookup' (S.cap x hx)) rfl) hcap) (hbind cl ct _ pm) fun A outer s H' vs Q hr fz hl hsp => ?_
  exact hbody cl c' A outer s H' vs Q hr (fun x c e => let ⟨o, v, z, d⟩ := hcl x c e; ⟨o, v, fz _ _ _ z, d⟩) fz (frz_drop ad l1 fz) hl hsp
theorem Made.clo_s {body : List Stmt} (M : Made X H H1 name qual params (.stmts body) scope f) (g : Same H1 H1') (ad : Adopted X σ H1' Hq) (S : CloScope own ps cap scope) (hlo : ps.length ≤ own.length) (hcap : CapAt X σ cap cv)
    (hbind : ∀ (cl : List (Str × Addr)) (ct cd pm : Value) (us : List Value), us.length = ps.length → bindArgs (cloFd name qual params (.stmts body) scope cl ct cd pm) ⟨us, []⟩ = pure (ps.zip us))
    (hbody : ∀ (cl : List (Str × Addr)) (c' : Addr) (A : Around) (outer : List Env) (s : Shared) (H' : Hp) (vs : List V) (Q : VK), Room k (A.deeper (envL qual scope cl s.heap.objs.size f (.ref c'))) → ClOk cl H' → Frz Hq H' → Frz H1' (dropL cl H') → vs.length = ps.length → sp vs H' Q E0 →
      ∃ t, PSs (cxL X.prog X.w X.K X.mg X.base (own ++ cap) qual scope cl f (.ref c') A outer s H') body t ∧ t { nx := fun _ H2 => (∀ b, InCl cl b → H2 b = none) → Q .non (mixL cl H' H2), rt := fun v H2 => (∀ b, InCl cl b → H2 b = none) → Q v (mixL cl H' H2) } (stL own vs cv) (dropL cl H')) : CloH X.prog X.w X.K X.mg X.base (k + 1) Hq f ps.length sp := by
  obtain ⟨cl, ct, c', oc, pm, l1, l2, l3, l4, l5⟩ := M.ex
  have hcl : ClOk cl Hq := fun x c e => let ⟨o, v, z1, z2, _⟩ := ad.2.2.2 x c (l1 x c e); ⟨o, v, z1, z2⟩
  have up := ad.up
  refine clo_stmts S hlo (up _ _ (g _ _ l5)) (up _ _ (g _ _ l3)) l4 hcl l2 (fun x y c e1 e2 => ad.2.2.1 x y c (l1 x c e1) (l1 y c e2)) (caps_of ad l1 (fun x hx => l2 (x, .free) (mem_of_lookup' (S.cap x hx)) rfl) hcap) (hbind cl ct _ pm) fun A outer s H' vs Q hr fz hl hsp => ?_
  exact hbody cl c' A outer s H' vs Q hr (fun x c e => let ⟨o, v, z, d⟩ := hcl x c e; ⟨o, v, fz _ _ _ z, d⟩) fz (frz_drop ad l1 fz) hl hsp
end
end L2
namespace SM
open PySem PySem.Spec PyProof.Rows L2 SS
theorem SameN.tups {H H' : Hp} (g : SameN H H') : TupS H H' := fun b xs e => g b _ e fun _ _ z => nomatch z
theorem rd_se {t : TE} {Q : VK} {H : Hp} {σ : L2.St} (σ' : L2.St) (e : σ = σ') (h : t σ' H Q) : t σ H Q := by rw [e]; exact h
theorem drop_none {cl : List (Str × Addr)} {H H2 : Hp} {D : Addr} {u : HO} (h : dropL cl H D = none) (e : H2 D = some u) (n : ∀ b, InCl cl b → H2 b = none) : H D = none := by
  classical
  have nc : ¬ InCl cl D := fun z => by rw [n D z] at e; cases e
  unfold dropL at h
  rw [if_neg nc] at h; exact h
def sp_part (R : Hp → Prop) (J : List Nat → Prop) (Nx : List Nat → List Nat → Prop) : Sp := fun vs H Q _ => ∃ (b : Addr) (ns : List Nat), vs = [.ref b] ∧ R H ∧ H b = some (.lst (ns.map nV)) ∧ J ns ∧
  ∀ D fs H', H D = none → Same H H' → H' D = some (.lst (fs.map nV)) → Nx ns fs → Q (.ref D) H'
def sp_sortsby (P : Program) (w : World) (K : PySem.W.Frag) (mg : Str → Option Value) (base : Heap) : Sp := fun vs H Q _ => ∃ (e f : Addr) (fd : FuncData) (bs : List Bool) (R : Hp → Prop) (J : List Nat → Prop) (Nx : List Nat → List Nat → Prop) (mu : List Nat → Nat),
  vs = [.ref e, .ref f] ∧ H e = some (.tup (bs.map V.bl)) ∧ bs.length ≤ 100 ∧ H f = some (fnO fd f) ∧ CloH P w K mg base 3 H f 1 (sp_part R J Nx) ∧ R H ∧ (∀ H1 H2, Same H1 H2 → R H1 → R H2) ∧ (∀ ns, Num bs ns → J ns) ∧
  (∀ ns, J ns → ns.length ≤ 100) ∧ (∀ ns fs, J ns → Nx ns fs → J fs ∧ (fs ≠ ns → mu fs < mu ns)) ∧ ∀ D ns H', Same H H' → H' D = some (.lst (ns.map nV)) → J ns → Nx ns ns → Q (.ref D) H'
def sp_reducedC (Pt : Addr) (qs : List (Pos × Str)) : Sp := fun vs H Q _ => ∃ (a : Addr) (m : Mc), vs = [.ref a] ∧ TabOk H Pt qs ∧ RepM H a m ∧ m.Ok ∧ ∀ p m' H', Same H H' → RepM H' p m' → Red m m' → Q (.ref p) H'
def sp_lawT (K : PySem.W.Frag) (ts : List (Addr × List (Pos × Str))) : Sp := fun vs H Q _ => ∃ (a : Addr) (ns : List Int), vs = [.ref a] ∧ SqL K H a (ns.map V.int) ∧ ns.length ≤ 63 ∧ OnlyT ts H ∧ ∀ H', Q (.bl true) H'
end SM
namespace L2
open PySem PySem.Spec PyProof.Rows
theorem pe_callVK {X : Cx} {x : Str} (P : Program) (w : World) (K : PySem.W.Frag) (mg : Str → Option Value) (base : Heap) (i k n : Nat) (sp : Sp) {m : Nat} {p pos : Pos} {e : Expr} {es : List Expr} {t : TA} (hr : Room m X.A) (hle : k ≤ m) (ha : PA X (e :: es) t) (e1 : X.prog = P := by rfl) (e2 : X.w = w := by rfl) (e3 : X.K = K := by rfl) (e4 : X.mg = mg := by rfl) (e5 : X.base = base := by rfl)
    (hN : X.N[i]? = some x := by rfl) (hv : Vis X.env.scope x := by first | exact Or.inl rfl | exact Or.inr (Or.inl rfl) | exact Or.inr (Or.inr rfl))
    (hd : (x == ("__debug__" : Str)) = false := by decide) (hcd : (x == ("__classdict__" : Str)) = false := by decide) (h1 : notStar e = true := by rfl) (h2 : es.all notStar = true := by rfl) :
    PE X (.Call (.Name x p) (e :: es) [] pos) (tCallV P w K mg base k n sp i t) := by
  subst e1 e2 e3 e4 e5
  exact pe_callVC i k n sp hr hle ha hN hv hd hcd h1 h2
end L2
namespace SM
structure Thg where
  w : Nat
  step : List Nat → List (List Nat)
  fin : List Nat → Bool
def Thg.run (T : Thg) (t : List Nat) (row : List Nat) : List Nat := row.foldl (fun t l => (T.step t).getD l []) t
theorem Thg.run_cons (T : Thg) (t : List Nat) (l : Nat) (row : List Nat) : T.run t (l :: row) = T.run ((T.step t).getD l []) row := rfl
structure Fnd (T : Thg) (G : List Nat → Prop) (first : List Nat) (fs : List (List Nat)) (at' : Nat) : Prop where
  nd : fs.Nodup
  hd : fs[0]? = some first
  good : ∀ t ∈ fs, G t
  le : at' ≤ fs.length
  clo : ∀ t ∈ fs.take at', ∀ u ∈ T.step t, u ∈ fs
def expl (T : Thg) (fs : List (List Nat)) : Mc := ⟨T.w, fs.map fun t => (T.step t).map (nOf fs), fs.map T.fin⟩
theorem Fnd.start {T : Thg} {G : List Nat → Prop} {first : List Nat} (h : G first) : Fnd T G first [first] 0 :=
  ⟨by simp, rfl, fun t ht => by rw [List.mem_singleton.mp ht]; exact h, Nat.zero_le _, fun t ht => by simp at ht⟩
theorem news_hd {α : Type} [DecidableEq α] {acc xs : List α} {i : Nat} {x : α} (h : acc[i]? = some x) : (news acc xs)[i]? = some x := by
  obtain ⟨t, e⟩ := news_pre xs acc
  rw [e, List.getElem?_append_left (List.getElem?_eq_some_iff.mp h).1]; exact h
theorem Fnd.next {T : Thg} {G : List Nat → Prop} {first : List Nat} {fs : List (List Nat)} {at' : Nat} {t : List Nat} (h : Fnd T G first fs at') (e : fs[at']? = some t) (hg : ∀ u ∈ T.step t, G u) : Fnd T G first (news fs (T.step t)) (at' + 1) := by
  have hlt := (List.getElem?_eq_some_iff.mp e).1
  obtain ⟨tl, ep⟩ := news_pre (T.step t) fs
  refine ⟨news_nd _ _ h.nd, news_hd h.hd, fun u hu => ?_, by rw [ep, List.length_append]; omega, fun u hu v hv => ?_⟩
  · rcases (news_mem _ _ _).mp hu with z | z
    · exact h.good u z
    · exact hg u z
  · rw [ep, List.take_append_of_le_length (by omega), List.take_add_one, e, Option.toList_some] at hu
    rcases List.mem_append.mp hu with z | z
    · exact (news_mem _ _ _).mpr (.inl (h.clo u z v hv))
    · rw [List.mem_singleton.mp z] at hv
      exact (news_mem _ _ _).mpr (.inr hv)
theorem nOf_news {α : Type} [DecidableEq α] {fs xs : List α} {u : α} (h : u ∈ fs) : nOf (news fs xs) u = nOf fs u := by
  obtain ⟨t, e⟩ := news_pre xs fs
  show List.idxOf u (news fs xs) = List.idxOf u fs
  rw [e]
  exact idx_app h
theorem ways_next {T : Thg} {G : List Nat → Prop} {first : List Nat} {fs : List (List Nat)} {at' : Nat} {t : List Nat} (h : Fnd T G first fs at') (e : fs[at']? = some t) :
    (((news fs (T.step t)).take (at' + 1)).map fun u => (T.step u).map (nOf (news fs (T.step t)))) = ((fs.take at').map fun u => (T.step u).map (nOf fs)) ++ [(T.step t).map (nOf (news fs (T.step t)))] := by
  have hlt := (List.getElem?_eq_some_iff.mp e).1
  obtain ⟨tl, ep⟩ := news_pre (T.step t) fs
  have e1 : (news fs (T.step t)).take (at' + 1) = fs.take at' ++ [t] := by rw [ep, List.take_append_of_le_length (by omega), List.take_add_one, e, Option.toList_some]
  rw [e1, List.map_append, List.map_cons, List.map_nil]
  congr 1
  refine List.map_congr_left fun u hu => List.map_congr_left fun v hv => nOf_news (h.clo u hu v hv)
section
variable {T : Thg} {G : List Nat → Prop} {first : List Nat} {fs : List (List Nat)}
theorem idx_of_mem {α : Type} [DecidableEq α] : ∀ {xs : List α} {x : α}, x ∈ xs → xs[nOf xs x]? = some x
  | y :: ys, x, h => by
    by_cases e : y = x
    · subst e; simp [nOf]
    · have h' : x ∈ ys := by
        rcases List.mem_cons.mp h with z | z
        · exact absurd z.symm e
        · exact z
      show (y :: ys)[List.idxOf x (y :: ys)]? = some x
      rw [List.idxOf_cons, show (y == x) = false by simp [e], cond_false, List.getElem?_cons_succ]
      exact idx_of_mem h'
theorem expl_ok (hw : T.w ≤ 4) (h : Fnd T G first fs fs.length) (hl : fs.length ≤ 100) (hs : ∀ t, G t → (T.step t).length = 2 ^ T.w) : (expl T fs).Ok := by
  have h0 : 0 < fs.length := (List.getElem?_eq_some_iff.mp h.hd).1
  have hc : ∀ t ∈ fs, ∀ u ∈ T.step t, u ∈ fs := fun t ht u hu => h.clo t (by rw [List.take_of_length_le (Nat.le_refl _)]; exact ht) u hu
  refine { pos := ?_, wid := hw, few := ?_, len := ?_, line := ?_, room := ?_ }
  · simpa [expl] using h0
  · simpa [expl] using hl
  · simp [expl]
  · intro line hm
    obtain ⟨t, ht, rfl⟩ := List.mem_map.mp hm
    rw [List.length_map]
    exact hs t (h.good t ht)
  · intro line hm r hr
    obtain ⟨t, ht, rfl⟩ := List.mem_map.mp hm
    obtain ⟨u, hu, rfl⟩ := List.mem_map.mp hr
    show nOf fs u < (fs.map T.fin).length
    rw [List.length_map]
    exact (List.getElem?_eq_some_iff.mp (idx_of_mem (hc t ht u hu))).1
theorem expl_fin {t : List Nat} (ht : t ∈ fs) : (expl T fs).fin (nOf fs t) = T.fin t := by
  show (fs.map T.fin).getD (nOf fs t) false = _
  rw [List.getD_eq_getElem?_getD, List.getElem?_map, idx_of_mem ht]; rfl
theorem expl_go (h : Fnd T G first fs fs.length) (hs : ∀ t, G t → (T.step t).length = 2 ^ T.w) {t : List Nat} (ht : t ∈ fs) {l : Nat} (hl : l < 2 ^ T.w) : (T.step t).getD l [] ∈ fs ∧ (expl T fs).go (nOf fs t) l = nOf fs ((T.step t).getD l []) := by
  have hll : l < (T.step t).length := by rw [hs t (h.good t ht)]; exact hl
  have eg : (T.step t).getD l [] = (T.step t)[l] := by rw [List.getD_eq_getElem?_getD, List.getElem?_eq_getElem hll]; rfl
  refine ⟨?_, ?_⟩
  · rw [eg]
    exact h.clo t (by rw [List.take_of_length_le (Nat.le_refl _)]; exact ht) _ (List.getElem_mem hll)
  · show ((fs.map fun t => (T.step t).map (nOf fs)).getD (nOf fs t) []).getD l 0 = _
    rw [List.getD_eq_getElem?_getD, List.getD_eq_getElem?_getD, List.getElem?_map, idx_of_mem ht, Option.map_some, Option.getD_some, List.getElem?_map, List.getElem?_eq_getElem hll, eg]; rfl
theorem expl_run (h : Fnd T G first fs fs.length) (hs : ∀ t, G t → (T.step t).length = 2 ^ T.w) : ∀ (row : List Nat) {t : List Nat}, t ∈ fs → (∀ l ∈ row, l < 2 ^ T.w) → T.run t row ∈ fs ∧ (expl T fs).run (nOf fs t) row = nOf fs (T.run t row)
  | [], t, ht, _ => ⟨ht, rfl⟩
  | l :: row, t, ht, hr => by
    obtain ⟨h1, h2⟩ := expl_go h hs ht (hr l List.mem_cons_self)
    rw [Mc.run_cons, Thg.run_cons, h2]
    exact expl_run h hs row h1 fun x hx => hr x (List.mem_cons_of_mem _ hx)
theorem expl_takes (h : Fnd T G first fs fs.length) (hs : ∀ t, G t → (T.step t).length = 2 ^ T.w) (row : List Nat) (hr : ∀ l ∈ row, l < 2 ^ T.w) : (expl T fs).fin ((expl T fs).run 0 row) = T.fin (T.run first row) := by
  have hm : first ∈ fs := List.mem_of_getElem? h.hd
  have h0 : nOf fs first = 0 := by
    have e := h.hd
    cases fs with
    | nil => simp at e
    | cons x r => simp at e; subst e; simp [nOf]
  obtain ⟨h1, h2⟩ := expl_run h hs row hm hr
  rw [h0] at h2
  rw [h2, expl_fin h1]
end
theorem news_snoc' {α : Type} [DecidableEq α] (acc xs : List α) (x : α) : news acc (xs ++ [x]) = nxt (news acc xs) x := news_snoc xs acc x
theorem news_takeA {α : Type} [DecidableEq α] {acc xs : List α} {i : Nat} {x : α} (h : xs[i]? = some x) : news acc (xs.take (i + 1)) = nxt (news acc (xs.take i)) x := by rw [List.take_add_one, h, Option.toList_some, news_snoc']
theorem nodup_in {α : Type} [DecidableEq α] : ∀ {xs ys : List α}, xs.Nodup → (∀ x ∈ xs, x ∈ ys) → xs.length ≤ ys.length
  | [], _, _, _ => Nat.zero_le _
  | x :: xs, ys, hn, h => by
    rw [List.nodup_cons] at hn
    have hx := h x List.mem_cons_self
    have := nodup_in (ys := ys.erase x) hn.2 fun y hy => (List.mem_erase_of_ne (fun e => hn.1 (by rw [← e]; exact hy))).mpr (h y (List.mem_cons_of_mem _ hy))
    rw [List.length_erase_of_mem hx] at this
    have := List.length_pos_of_mem hx
    rw [List.length_cons]; omega
def pairT (m1 m2 : Mc) (op : Bool → Bool → Bool) : Thg := ⟨m1.w, fun t => ((m1.ways.getD (ix t 0) []).zip (m2.ways.getD (ix t 1) [])).map fun p => [p.1, p.2], fun t => op (m1.fin (ix t 0)) (m2.fin (ix t 1))⟩
def PairG (m1 m2 : Mc) (t : List Nat) : Prop := ∃ a b, t = [a, b] ∧ a < m1.n ∧ b < m2.n
section
variable {m1 m2 : Mc} {op : Bool → Bool → Bool}
theorem ways_get {m : Mc} (ok : m.Ok) {r : Nat} (hr : r < m.n) : ∃ line, m.ways[r]? = some line ∧ m.ways.getD r [] = line ∧ line.length = 2 ^ m.w ∧ ∀ x ∈ line, x < m.n := by
  have h : r < m.ways.length := by rw [ok.len]; exact hr
  exact ⟨m.ways[r], List.getElem?_eq_getElem h, by rw [List.getD_eq_getElem?_getD, List.getElem?_eq_getElem h]; rfl, ok.line _ (List.getElem_mem h), ok.room _ (List.getElem_mem h)⟩
theorem pair_step (o1 : m1.Ok) (o2 : m2.Ok) (hw : m1.w = m2.w) {t : List Nat} (h : PairG m1 m2 t) : ((pairT m1 m2 op).step t).length = 2 ^ m1.w ∧ ∀ u ∈ (pairT m1 m2 op).step t, PairG m1 m2 u := by
  obtain ⟨a, b, rfl, ha, hb⟩ := h
  obtain ⟨l1, _, e1, n1, r1⟩ := ways_get o1 ha
  obtain ⟨l2, _, e2, n2, r2⟩ := ways_get o2 hb
  show (((m1.ways.getD a []).zip (m2.ways.getD b [])).map fun p => [p.1, p.2]).length = _ ∧ ∀ u ∈ ((m1.ways.getD a []).zip (m2.ways.getD b [])).map fun p => [p.1, p.2], _
  rw [e1, e2]
  refine ⟨by rw [List.length_map, List.length_zip, n1, n2, hw, Nat.min_self], fun u hu => ?_⟩
  obtain ⟨⟨x, y⟩, hp, rfl⟩ := List.mem_map.mp hu
  have := List.of_mem_zip hp
  exact ⟨x, y, rfl, r1 x this.1, r2 y this.2⟩
theorem pair_run (o1 : m1.Ok) (o2 : m2.Ok) (hw : m1.w = m2.w) : ∀ (row : List Nat) {a b : Nat}, a < m1.n → b < m2.n → (∀ l ∈ row, l < 2 ^ m1.w) → (pairT m1 m2 op).run [a, b] row = [m1.run a row, m2.run b row]
  | [], a, b, _, _, _ => rfl
  | l :: row, a, b, ha, hb, hr => by
    have hl := hr l List.mem_cons_self
    obtain ⟨l1, f1, e1, n1, r1⟩ := ways_get o1 ha
    obtain ⟨l2, f2, e2, n2, r2⟩ := ways_get o2 hb
    have h1 : l < l1.length := by rw [n1]; exact hl
    have h2 : l < l2.length := by rw [n2, ← hw]; exact hl
    have es : ((pairT m1 m2 op).step [a, b]).getD l [] = [m1.go a l, m2.go b l] := by
      show (((m1.ways.getD a []).zip (m2.ways.getD b [])).map fun p => [p.1, p.2]).getD l [] = [(m1.ways.getD a []).getD l 0, (m2.ways.getD b []).getD l 0]
      rw [e1, e2, List.getD_eq_getElem?_getD, List.getElem?_map, show (l1.zip l2)[l]? = some (l1[l], l2[l]) from List.getElem?_zip_eq_some.mpr ⟨List.getElem?_eq_getElem h1, List.getElem?_eq_getElem h2⟩]
      rw [List.getD_eq_getElem?_getD, List.getD_eq_getElem?_getD, List.getElem?_eq_getElem h1, List.getElem?_eq_getElem h2]; rfl
    rw [Thg.run_cons, es, Mc.run_cons, Mc.run_cons]
    exact pair_run o1 o2 hw row (o1.go_lt ha hl) (o2.go_lt hb (by rw [← hw]; exact hl)) fun x hx => hr x (List.mem_cons_of_mem _ hx)
end
end SM
namespace L2
open PySem PySem.Spec PyProof.Rows
section
variable {P : Program} {w : World} {A : Around} {E : Value → Shared → Prop} {s : Shared} {z ti ro j1 j2 t1 t2 : Addr} {i : Nat} {its1 its2 : Array Value}
theorem zp_item {x y : Value} {Q : Option Value → Shared → Prop} (D : ZipApart z ti ro j1 j2 t1 t2) (Z : ZipG s.heap z ti ro j1 j2 t1 t2 i) (p1 : s.heap.IsTuple t1 its1) (p2 : s.heap.IsTuple t2 its2) (hx : its1[i]? = some x) (hy : its2[i]? = some y)
    (q : ∀ h', ZipG h' z ti ro j1 j2 t1 t2 (i + 1) → IsPair h' s.heap.objs.size x y → h'.objs.size = s.heap.objs.size + 1 → (∀ c o, c ≠ z → c ≠ ro → c ≠ j1 → c ≠ j2 → s.heap.get? c = some o → h'.get? c = some o) →
      Q (some (.ref s.heap.objs.size)) { s with heap := h' }) : wpAny (model P w) A (pyNext (.ref z)) Q E s := by
  obtain ⟨f0, f1, zf, hf⟩ := Z.z
  have hT : s.TypeIs (.ref z) "zip" := ⟨_, zf, rfl⟩
  obtain ⟨a, b, hro⟩ := Z.ro
  unfold pyNext
  refine wpAny_bind (wpAny_attempt (wpAny_callSpecial?_slot (name := Str.ofString "__next__") hT F.slot_zip_next (wpAny_call_entry F.slot_zip_next hT F.entry_zip_next ?_ (F.args_zip_next_1 _))))
  show wpAny _ _ (field (.ref z) 2 >>= _) _ _ _
  refine wpAny_bind (wpAny_field zf rfl (x := .bool false) rfl ?_)
  show wpAny _ _ (field (.ref z) 3 >>= _) _ _ _
  refine wpAny_bind (wpAny_field zf rfl (x := .ref ti) rfl ?_)
  refine wpAny_bind (wpAny_seqItems Z.ti rfl ?_)
  show wpAny _ _ (Builtin.SmallTypes.ownedTupleIsFree (.ref z) >>= _) _ _ _
  refine wpAny_bind (owned_free zf hf fun free h0 g1 z0 s0 => ?_)
  cases free with
  | true =>
    rw [if_pos rfl]
    refine wpAny_bind (wpAny_rule ?_)
    refine wpAny_bind (wpAny_field z0 rfl (x := .ref ro) rfl ?_)
    refine wpAny_bind (wpAny_setField_rec z0 (by simp) fun ha hza hsa => ?_)
    replace hza : IsZipF ha z ti ro .ellipsis g1 := hza
    have hsa' : Heap.SameBut z s.heap ha := s0.trans hsa
    refine wpAny_bind ?_
    simp only [List.zipIdx_cons, List.zipIdx_nil, List.forIn_cons, List.forIn_nil]
    refine wpAny_bind (wpAny_bind (wpAny_onRaise ?_))
    show wpAny _ _ (Builtin.SmallTypes.nextOf (.ref j1) >>= _) _ _ _
    refine wpAny_bind (nx_tup_item (Z.j1.extBut hsa'.extBut D.i1z) (p1.extBut hsa'.extBut D.l1z) hx fun hb b1 hsb => wpAny_pure ?_)
    have rob : IsPair hb ro a b := hsb.extBut _ _ D.TOi1 (hsa'.extBut _ _ D.TOz hro)
    refine wpAny_bind (wpAny_seqItems rob rfl ?_)
    refine wpAny_bind (wpAny_updateSeq_pair rob fun hc roc hsc => ?_)
    replace roc : IsPair hc ro x b := roc
    refine wpAny_bind (wpAny_letGo (wpAny_pure ?_))
    refine wpAny_bind (wpAny_bind (wpAny_onRaise ?_))
    show wpAny _ _ (Builtin.SmallTypes.nextOf (.ref j2) >>= _) _ _ _
    refine wpAny_bind (nx_tup_item (((Z.j2.extBut hsa'.extBut D.i2z).extBut hsb.extBut D.i12.symm).extBut hsc.extBut D.TOi2.symm) (((p2.extBut hsa'.extBut D.l2z).extBut hsb.extBut D.l2i1).extBut hsc.extBut D.l2TO) hy fun hd d2 hsd => wpAny_pure ?_)
    have rod : IsPair hd ro x b := hsd.extBut _ _ D.TOi2 roc
    refine wpAny_bind (wpAny_seqItems rod rfl ?_)
    refine wpAny_bind (wpAny_updateSeq_pair rod fun he roe hse => ?_)
    replace roe : IsPair he ro x y := roe
    refine wpAny_bind (wpAny_letGo (wpAny_pure (wpAny_pure ?_)))
    refine wpAny_bind (wpAny_seqItems roe rfl ?_)
    refine wpAny_bind (wpAny_newTuple ?_)
    have sz : he.objs.size = s.heap.objs.size := by rw [hse.1, hsd.1, hsc.1, hsb.1, hsa'.1]
    have ze : IsZipF he z ti ro .ellipsis g1 := hse.extBut _ _ D.TOz.symm (hsd.extBut _ _ D.i2z.symm (hsc.extBut _ _ D.TOz.symm (hsb.extBut _ _ D.i1z.symm hza)))
    have ke : ∀ c o, c ≠ z → c ≠ ro → c ≠ j1 → c ≠ j2 → s.heap.get? c = some o → he.get? c = some o := fun c o c1 c2 c3 c4 e =>
      hse.extBut _ _ c2 (hsd.extBut _ _ c4 (hsc.extBut _ _ c2 (hsb.extBut _ _ c3 (hsa'.extBut _ _ c1 e))))
    have e1 : he.IsTupleIter j1 t1 (i + 1) := ((b1.extBut hsc.extBut D.TOi1.symm).extBut hsd.extBut D.i12).extBut hse.extBut D.TOi1.symm
    have e2 : he.IsTupleIter j2 t2 (i + 1) := d2.extBut hse.extBut D.TOi2.symm
    have zlt : z < he.objs.size := Heap.lt_size ze
    show wpAny _ _ (Builtin.SmallTypes.ownedTupleHandOut (.ref z) (.ref he.objs.size) >>= _) _ _ _
    refine wpAny_bind ?_
    unfold Builtin.SmallTypes.ownedTupleHandOut
    have zf' : IsZipF (he.push { cls := .type "tuple", data := .seq #[x, y] }) z ti ro .ellipsis g1 := Heap.get?_push_of_some _ ze
    refine wpAny_bind (wpAny_setField_rec zf' (by simp) fun hg zg hsg => ?_)
    replace zg : IsZipF hg z ti ro (rawInt he.objs.size) g1 := zg
    refine wpAny_setField_rec zg (by simp) fun hk zk hsk => ?_
    replace zk : IsZipF hk z ti ro (rawInt he.objs.size) (.bool false) := zk
    have up : ∀ c o, c ≠ z → he.get? c = some o → hk.get? c = some o := fun c o c1 e => hsk.extBut _ _ c1 (hsg.extBut _ _ c1 (Heap.get?_push_of_some _ e))
    have tk : IsPair hk he.objs.size x y := hsk.extBut _ _ (Nat.ne_of_gt zlt) (hsg.extBut _ _ (Nat.ne_of_gt zlt) (Heap.get?_push_size _ rfl))
    have zk8 : hk.objs.size = he.objs.size + 1 := by rw [hsk.1, hsg.1, Heap.size_push]
    rw [sz] at zk tk zk8
    refine wpAny_pure ⟨_, rfl, wpAny_pure ?_⟩
    show Q (some (.ref he.objs.size)) _
    rw [sz]
    exact q hk ⟨⟨_, _, zk, .inr ⟨_, rfl⟩⟩, up _ _ D.TIz (ke _ _ D.TIz D.TITO D.TIi1 D.TIi2 Z.ti), ⟨_, _, up _ _ D.TOz roe⟩, e1.at fun o e => up _ o D.i1z e, e2.at fun o e => up _ o D.i2z e⟩ tk zk8 fun c o c1 c2 c3 c4 e => up c o c1 (ke c o c1 c2 c3 c4 e)
  | false =>
    rw [if_neg Bool.false_ne_true]
    refine wpAny_bind ?_
    rw [← Array.forIn_toList]
    simp only [List.forIn_cons, List.forIn_nil]
    refine wpAny_bind (wpAny_bind (wpAny_holding ?_))
    show wpAny _ _ (Builtin.SmallTypes.nextOf (.ref j1) >>= _) _ _ _
    refine wpAny_bind (nx_tup_item (Z.j1.extBut s0.extBut D.i1z) (p1.extBut s0.extBut D.l1z) hx fun hb b1 hsb => wpAny_pure ?_)
    refine wpAny_pure ?_
    refine wpAny_bind (wpAny_bind (wpAny_holding ?_))
    show wpAny _ _ (Builtin.SmallTypes.nextOf (.ref j2) >>= _) _ _ _
    refine wpAny_bind (nx_tup_item ((Z.j2.extBut s0.extBut D.i2z).extBut hsb.extBut D.i12.symm) ((p2.extBut s0.extBut D.l2z).extBut hsb.extBut D.l2i1) hy fun hd d2 hsd => wpAny_pure ?_)
    refine wpAny_pure (wpAny_pure ?_)
    refine wpAny_bind (wpAny_newTuple ?_ (show (2 : Nat) ≤ sizeLine by decide))
    have sz : hd.objs.size = s.heap.objs.size := by rw [hsd.1, hsb.1, s0.1]
    have ke : ∀ c o, c ≠ z → c ≠ ro → c ≠ j1 → c ≠ j2 → s.heap.get? c = some o → hd.get? c = some o := fun c o c1 c2 c3 c4 e =>
      hsd.extBut _ _ c4 (hsb.extBut _ _ c3 (s0.extBut _ _ c1 e))
    have zd : IsZipF hd z ti ro f0 g1 := hsd.extBut _ _ D.i2z.symm (hsb.extBut _ _ D.i1z.symm z0)
    have tk : IsPair (hd.push { cls := .type "tuple", data := .seq #[x, y] }) hd.objs.size x y := Heap.get?_push_size _ rfl
    have zk8 : (hd.push { cls := .type "tuple", data := .seq #[x, y] }).objs.size = hd.objs.size + 1 := Heap.size_push ..
    rw [sz] at tk zk8
    refine wpAny_pure ⟨_, rfl, wpAny_pure ?_⟩
    show Q (some (.ref hd.objs.size)) _
    rw [sz]
    have rod : IsPair hd ro a b := hsd.extBut _ _ D.TOi2 (hsb.extBut _ _ D.TOi1 (s0.extBut _ _ D.TOz hro))
    have e1 : hd.IsTupleIter j1 t1 (i + 1) := b1.extBut hsd.extBut D.i12
    exact q _ ⟨⟨_, _, Heap.get?_push_of_some _ zd, hf⟩, Heap.get?_push_of_some _ (ke _ _ D.TIz D.TITO D.TIi1 D.TIi2 Z.ti), ⟨_, _, Heap.get?_push_of_some _ rod⟩, e1.at fun o e => Heap.get?_push_of_some _ e, d2.at fun o e => Heap.get?_push_of_some _ e⟩ tk zk8
      fun c o c1 c2 c3 c4 e => Heap.get?_push_of_some _ (ke c o c1 c2 c3 c4 e)
theorem zp_end {Q : Option Value → Shared → Prop} (hh : A.handled = none) (D : ZipApart z ti ro j1 j2 t1 t2) (Z : ZipG s.heap z ti ro j1 j2 t1 t2 i) (p1 : s.heap.IsTuple t1 its1) (p2 : s.heap.IsTuple t2 its2) (hx : its1[i]? = none)
    (q : ∀ h', (∀ c o, c ≠ z → c ≠ ro → c ≠ j1 → c ≠ j2 → s.heap.get? c = some o → h'.get? c = some o) → Q none { s with heap := h' }) : wpAny (model P w) A (pyNext (.ref z)) Q E s := by
  obtain ⟨f0, f1, zf, hf⟩ := Z.z
  have hT : s.TypeIs (.ref z) "zip" := ⟨_, zf, rfl⟩
  unfold pyNext
  refine wpAny_bind (wpAny_attempt (wpAny_callSpecial?_slot (name := Str.ofString "__next__") hT F.slot_zip_next (wpAny_call_entry F.slot_zip_next hT F.entry_zip_next ?_ (F.args_zip_next_1 _))))
  show wpAny _ _ (field (.ref z) 2 >>= _) _ _ _
  refine wpAny_bind (wpAny_field zf rfl (x := .bool false) rfl ?_)
  show wpAny _ _ (field (.ref z) 3 >>= _) _ _ _
  refine wpAny_bind (wpAny_field zf rfl (x := .ref ti) rfl ?_)
  refine wpAny_bind (wpAny_seqItems Z.ti rfl ?_)
  show wpAny _ _ (Builtin.SmallTypes.ownedTupleIsFree (.ref z) >>= _) _ _ _
  refine wpAny_bind (owned_free zf hf fun free h0 g1 z0 s0 => ?_)
  cases free with
  | true =>
    rw [if_pos rfl]
    refine wpAny_bind (wpAny_rule ?_)
    refine wpAny_bind (wpAny_field z0 rfl (x := .ref ro) rfl ?_)
    refine wpAny_bind (wpAny_setField_rec z0 (by simp) fun ha hza hsa => ?_)
    replace hza : IsZipF ha z ti ro .ellipsis g1 := hza
    have hsa' : Heap.SameBut z s.heap ha := s0.trans hsa
    refine wpAny_bind ?_
    simp only [List.zipIdx_cons, List.zipIdx_nil, List.forIn_cons, List.forIn_nil]
    refine wpAny_bind (wpAny_bind (wpAny_onRaise ?_))
    show wpAny _ _ (Builtin.SmallTypes.nextOf (.ref j1) >>= _) _ _ _
    refine wpAny_bind (nx_tup_end hh (Z.j1.extBut hsa'.extBut D.i1z) (p1.extBut hsa'.extBut D.l1z) hx fun hb e hsb ⟨oe, ge, ce⟩ => ?_)
    have zb : IsZipF hb z ti ro .ellipsis g1 := hsb _ _ D.i1z.symm hza
    have nez : e ≠ z := fun z' => by
      subst z'
      rw [zb] at ge
      cases ge
      simp at ce
    refine wpAny_setField_rec zb (by simp) fun hc _ hsc => ?_
    refine wpAny_bind (wpAny_isInstance (T := "StopIteration") (b := true) ⟨oe, hsc.extBut _ _ nez ge, ce⟩ isSubtype_stop ?_)
    exact wpAny_pure (q _ fun c o c1 _ c3 _ x => hsc.extBut _ _ c1 (hsb _ _ c3 (hsa'.extBut _ _ c1 x)))
  | false =>
    rw [if_neg Bool.false_ne_true]
    refine wpAny_bind ?_
    rw [← Array.forIn_toList]
    simp only [List.forIn_cons, List.forIn_nil]
    refine wpAny_bind (wpAny_bind (wpAny_holding ?_))
    show wpAny _ _ (Builtin.SmallTypes.nextOf (.ref j1) >>= _) _ _ _
    refine wpAny_bind (nx_tup_end hh (Z.j1.extBut s0.extBut D.i1z) (p1.extBut s0.extBut D.l1z) hx fun hb e hsb ex => ?_)
    obtain ⟨oe, ge, ce⟩ := ex
    refine wpAny_bind (wpAny_isInstance (T := "StopIteration") (b := true) ⟨oe, ge, ce⟩ isSubtype_stop ?_)
    exact wpAny_pure (q _ fun c o c1 _ c3 _ x => hsb _ _ c3 (s0.extBut _ _ c1 x))
end
section
variable {X : Cx} {pins : List (Addr × Obj)} {σ : St}
theorem ZipG.move {h h' : Heap} {z ti ro j1 j2 t1 t2 : Addr} {i : Nat} (Z : ZipG h z ti ro j1 j2 t1 t2 i) (k : ∀ c ∈ [z, ti, ro, j1, j2], ∀ o, h.get? c = some o → h'.get? c = some o) : ZipG h' z ti ro j1 j2 t1 t2 i := by
  obtain ⟨f0, f1, zf, hf⟩ := Z.z
  obtain ⟨u, v, hro⟩ := Z.ro
  exact ⟨⟨f0, f1, k z (by simp) _ zf, hf⟩, k ti (by simp) _ Z.ti, ⟨u, v, k ro (by simp) _ hro⟩, Z.j1.at fun o e => k j1 (by simp) o e, Z.j2.at fun o e => k j2 (by simp) o e⟩
theorem ZipG.there {h : Heap} {z ti ro j1 j2 t1 t2 : Addr} {i : Nat} (Z : ZipG h z ti ro j1 j2 t1 t2 i) : ∀ c ∈ [z, ti, ro, j1, j2], ∃ o, h.get? c = some o := fun c hc => by
  obtain ⟨f0, f1, zf, hf⟩ := Z.z
  obtain ⟨u, v, hro⟩ := Z.ro
  obtain ⟨o1, e1, _⟩ := Z.j1
  obtain ⟨o2, e2, _⟩ := Z.j2
  simp only [List.mem_cons, List.not_mem_nil, or_false] at hc
  rcases hc with rfl | rfl | rfl | rfl | rfl
  · exact ⟨_, zf⟩
  · exact ⟨_, Z.ti⟩
  · exact ⟨_, hro⟩
  · exact ⟨_, e1⟩
  · exact ⟨_, e2⟩
def PairsL (H : Hp) (xs ys : List V) (ps : List Addr) : Prop := ∀ (j : Nat) p, ps[j]? = some p → ∃ x y, xs[j]? = some x ∧ ys[j]? = some y ∧ H p = some (.tup [x, y])
abbrev LstAt (h : Heap) (S : Addr) (ps : List Addr) (c : Nat) : Prop := h.get? S = some { cls := .type "list", dict := none, data := .seq (ps.map Value.ref).toArray c, slots := #[] }
theorem zl_loop {S z ti ro j1 j2 a b : Addr} {xs ys : List V} (hne : xs.length = ys.length) (hn : xs.length ≤ 1000) (D : ZipApart z ti ro j1 j2 a b) (A : Around) (hh : A.in1.handled = none) (hS : S ∉ [z, ti, ro, j1, j2]) {R : Result → Shared → Prop} (res : Value) (H0 : Hp) :
    ∀ (k i : Nat) (s : Shared) (H : Hp) (c : Nat) (ps : List Addr), xs.length - i = k → i ≤ xs.length → Inv X pins σ H s → Same H0 H → (∀ c ∈ [S, z, ti, ro, j1, j2], FpOk X pins H c) → SqT X.K H a xs → SqT X.K H b ys → ZipG s.heap z ti ro j1 j2 a b i → LstAt s.heap S ps c → ps.length = i → PairsL H xs ys ps →
    (∀ s' H' ps' c', Inv X pins σ H' s' → Same H0 H' → FpOk X pins H' S → LstAt s'.heap S ps' c' → ps'.length = xs.length → PairsL H' xs ys ps' → R (.ok (.ret res)) s') →
    codeAny (model X.prog X.w) A (.builtin "list.extend.loop" ⟨[.ref S, .ref z, res], []⟩) R s := by
  intro k
  induction k with
  | zero =>
    intro i s H c ps hk hi I g hf ha hb Z hL hl hp hR
    have hin : i = xs.length := by omega
    obtain ⟨its1, r1, p1, _⟩ := I.tuple ha
    obtain ⟨its2, r2, p2, _⟩ := I.tuple hb
    have l1 := r1.length
    refine codeAny_builtin F.entry_extend_loop ?_
    rw [Around.under_plainId F.plain_extend_loop _]
    show wpAny _ A.in1 (pyNext (.ref z) >>= _) _ _ s
    refine wpAny_bind (zp_end hh D Z (show s.heap.IsTuple a its1.toArray from p1) (show s.heap.IsTuple b its2.toArray from p2) (by simp; omega) fun h' k' => ?_)
    have kk : ∀ c o, c ∉ [z, ti, ro, j1, j2] → s.heap.get? c = some o → h'.get? c = some o := fun c o hc e => k' c o (fun q => hc (by simp [q])) (fun q => hc (by simp [q])) (fun q => hc (by simp [q])) (fun q => hc (by simp [q])) e
    exact wpAny_pure (hR _ H ps c (I.turnedL (t' := s.toks) kk fun b hb => hf b (List.mem_cons_of_mem _ hb)) g (hf S (List.mem_cons_self ..)) (kk _ _ hS hL) (by omega) hp)
  | succ k ih =>
    intro i s H c ps hk hi I g hf ha hb Z hL hl hp hR
    have hlt : i < xs.length := by omega
    have hlt2 : i < ys.length := by omega
    obtain ⟨its1, r1, p1, _⟩ := I.tuple ha
    obtain ⟨its2, r2, p2, _⟩ := I.tuple hb
    obtain ⟨u, hu, ru⟩ := r1.get (List.getElem?_eq_getElem hlt)
    obtain ⟨v, hv, rv⟩ := r2.get (List.getElem?_eq_getElem hlt2)
    refine codeAny_builtin F.entry_extend_loop ?_
    rw [Around.under_plainId F.plain_extend_loop _]
    show wpAny _ A.in1 (pyNext (.ref z) >>= _) _ _ s
    refine wpAny_bind (zp_item D Z (show s.heap.IsTuple a its1.toArray from p1) (show s.heap.IsTuple b its2.toArray from p2) (x := u) (y := v) (by simpa using hu) (by simpa using hv) fun h1 Z1 q1 sz1 k1 => ?_)
    have kk : ∀ c o, c ∉ [z, ti, ro, j1, j2] → s.heap.get? c = some o → h1.get? c = some o := fun c o hc e => k1 c o (fun q => hc (by simp [q])) (fun q => hc (by simp [q])) (fun q => hc (by simp [q])) (fun q => hc (by simp [q])) e
    have hS' := kk _ _ hS hL
    have Slt : S < s.heap.objs.size := Heap.lt_size hL
    show wpAny _ A.in1 (updateSeq S (·.push (.ref s.heap.objs.size)) >>= _) _ _ _
    refine wpAny_bind ?_
    refine wpAny_updateSeq hS' rfl (wpAny_pure ⟨plainId_quiet F.plain_extend_loop _, ?_⟩) (by have := small1000 (n := ps.length) (by omega); simp; exact Nat.le_of_lt this) (by have := small1000 (n := ps.length) (by omega); simp; exact Nat.le_of_lt this)
    have oth : ∀ c o, c ≠ S → h1.get? c = some o → (h1.update S (Obj.mapSeq (·.push (.ref s.heap.objs.size)))).get? c = some o := fun c o hc e => (Heap.get?_update_other _ _ (Ne.symm hc)).trans e
    have hSn := Heap.get?_update_self (Obj.mapSeq (·.push (.ref s.heap.objs.size))) hS' rfl
    generalize h1.update S (Obj.mapSeq (·.push (.ref s.heap.objs.size))) = h2 at oth hSn
    have zS : ∀ c ∈ [z, ti, ro, j1, j2], c ≠ S := fun c hc e => hS (e ▸ hc)
    have tup2 : IsPair h2 s.heap.objs.size u v := oth _ _ (Nat.ne_of_gt Slt) q1
    have Z2 : ZipG h2 z ti ro j1 j2 a b (i + 1) := Z1.move fun c hc o e => oth c o (zS c hc) e
    have k2 : ∀ c o, c ∉ [S, z, ti, ro, j1, j2] → s.heap.get? c = some o → h2.get? c = some o := fun c o hc e => oth c o (fun q => hc (by simp [q])) (kk c o (fun q => hc (List.mem_cons_of_mem _ q)) e)
    have there : ∀ c ∈ [S, z, ti, ro, j1, j2], ∃ o, h2.get? c = some o := fun c hc => by
      rcases List.mem_cons.mp hc with rfl | hc
      · exact ⟨_, hSn⟩
      · exact Z2.there c hc
    have I2 : Inv X pins σ (upd H s.heap.objs.size (.tup [xs[i], ys[i]])) { s with heap := h2, toks := s.toks } := I.turnedNew k2 hf (Nat.le_refl _) ⟨small_line (by simp), [u, v], .cons ru (.cons rv .nil), ⟨_, tup2, rfl, _, rfl⟩⟩ there
    have hfr : H s.heap.objs.size = none := I.hok.fresh (Nat.le_refl _)
    have g2 : Same H (upd H s.heap.objs.size (.tup [xs[i], ys[i]])) := same_upd hfr _
    have hlt' : ∀ c ∈ [S, z, ti, ro, j1, j2], c ≠ s.heap.objs.size := fun c hc => by
      rcases List.mem_cons.mp hc with rfl | hc
      · exact Nat.ne_of_lt Slt
      · obtain ⟨o, e⟩ := Z.there c hc
        exact Nat.ne_of_lt (Heap.lt_size e)
    refine ih (i + 1) _ _ (c + 1) (ps ++ [s.heap.objs.size]) (by omega) (by omega) I2 (g.trans g2) (fun c hc => ?_) (g2.seqT ha) (g2.seqT hb) Z2 (by show h2.get? S = _; rw [hSn]; simp [Obj.mapSeq]) (by simp [hl]) (fun j p ej => ?_) hR
    · obtain ⟨f0, f1, f2, f3, f4, f5⟩ := hf c hc
      exact ⟨by rw [upd_ne (hlt' c hc)]; exact f0, f1, f2, f3, f4, f5⟩
    · by_cases hj : j < ps.length
      · rw [List.getElem?_append_left hj] at ej
        obtain ⟨x, y, e1, e2, e3⟩ := hp j p ej
        exact ⟨x, y, e1, e2, g2 _ _ e3⟩
      · have hj2 : j < (ps ++ [s.heap.objs.size]).length := (List.getElem?_eq_some_iff.mp ej).1
        rw [List.length_append, List.length_singleton] at hj2
        have e : j = ps.length := by omega
        subst e
        rw [List.getElem?_append_right (Nat.le_refl _), Nat.sub_self] at ej
        injection ej with ej
        subst ej
        rw [hl]
        exact ⟨_, _, List.getElem?_eq_getElem hlt, List.getElem?_eq_getElem hlt2, upd_same⟩
theorem Inv.take {H : Hp} {s : Shared} {a : Addr} {o : HO} (I : Inv X pins σ H s) (f : FpOk X pins H a) (h0 : X.s₀.heap.get? a = none) (new : ObjOk X.prog X.w (upd H a o) s.heap a o) : Inv X pins σ (upd H a o) s := by
  obtain ⟨ha, nL, _, _, nC, hp⟩ := f
  have up : ∀ b u, H b = some u → upd H a o b = some u := fun b u e => by rw [upd_ne (fun z => by rw [z, ha] at e; cases e)]; exact e
  refine ⟨I.ok, I.os, I.bare, ⟨I.base.keep, I.base.slot, fun b ob e k hx => ?_, I.base.there, fun b xs e => up _ _ (I.base.tups b xs e), fun b ob u e => up _ _ (I.base.frzs b ob u e), fun b qs ps e => up _ _ (I.base.tbls b qs ps e)⟩, I.loc, I.cell, by rw [upd_ne (Ne.symm nL)]; exact I.free, fun x c e => by rw [upd_ne (nC x c e)]; exact I.freeC x c e, fun p hpp => ?_, fun b u e => ?_, I.len⟩
  · rw [upd_ne (fun z => by rw [z, h0] at e; cases e)]
    exact I.base.free b ob e k hx
  · obtain ⟨e, k, r⟩ := I.pin p hpp
    exact ⟨e, by rw [upd_ne (hp p hpp)]; exact k, r⟩
  · by_cases hb : b = a
    · subst hb; rw [upd_same] at e; cases e; exact new
    · rw [upd_ne hb] at e
      exact (I.hok b u e).stay (fun _ _ _ q => q) (fun c q => up c _ q) (fun c _ _ _ _ q => up c _ q) fun c xs q => up c _ q
theorem zip_no_len : typeLookup (.type "zip") "__len__" = pure none := by rw [typeLookup_type, builtinLookup_eq_fast]; kernel_rfl
theorem zip_no_hint : typeLookup (.type "zip") "__length_hint__" = pure none := by rw [typeLookup_type, builtinLookup_eq_fast]; kernel_rfl
theorem refs_vals : ∀ (ps : List Addr), Vals (ps.map V.ref) (ps.map Value.ref)
  | [] => .nil
  | _ :: ps => .cons rfl (refs_vals ps)
theorem call_list_zip {s : Shared} {H : Hp} {z ti ro j1 j2 a b : Addr} {xs ys : List V} {Q : VK} (hc : X.calm = true) (hne : xs.length = ys.length) (hn : xs.length ≤ 1000) (D : ZipApart z ti ro j1 j2 a b) (I : Inv X pins σ H s) (hf : ∀ c ∈ [z, ti, ro, j1, j2], FpOk X pins H c) (ha : SqT X.K H a xs) (hb : SqT X.K H b ys)
    (Z : ZipT s.heap z ti ro j1 j2 a b .none 0) (q : ∀ L ps H', H L = none → Same H H' → H' L = some (.lst (ps.map V.ref)) → ps.length = xs.length → PairsL H' xs ys ps → Q (.ref L) H') :
    wpAny (model X.prog X.w) X.A (call (.type "list") [.ref z]) (EP X pins σ Q) X.xe s := by
  have hSf : s.heap.objs.size ∉ [z, ti, ro, j1, j2] := fun hm => by
    obtain ⟨u, v, hro⟩ := Z.ro
    obtain ⟨o1, e1, _⟩ := Z.j1
    obtain ⟨o2, e2, _⟩ := Z.j2
    have key : ∀ c o, s.heap.get? c = some o → c ≠ s.heap.objs.size := fun c o e => Nat.ne_of_lt (Heap.lt_size e)
    simp only [List.mem_cons, List.not_mem_nil, or_false] at hm
    rcases hm with e | e | e | e | e
    · exact key _ _ Z.z e.symm
    · exact key _ _ Z.ti e.symm
    · exact key _ _ hro e.symm
    · exact key _ _ e1 e.symm
    · exact key _ _ e2 e.symm
  refine callType_codes (Q₁ := fun obj s₁ => obj = .ref s.heap.objs.size ∧ s₁ = { s with heap := s.heap.push { cls := .type "list", data := .seq #[] } }) F.called_list (F.typeCall_list_1 _) F.entry_list_init
    (code_list_new _ ⟨rfl, rfl⟩) fun obj s₁ h₁ => ?_
  obtain ⟨rfl, rfl⟩ := h₁
  have hS : (s.heap.push { cls := .type "list", data := .seq #[] }).get? s.heap.objs.size = some { cls := .type "list", data := .seq #[] } := Heap.get?_push_size _ rfl
  have kp : ∀ c o, s.heap.get? c = some o → (s.heap.push { cls := .type "list", data := .seq #[] }).get? c = some o := fun c o e => Heap.get?_push_of_some _ e
  have h0 : X.s₀.heap.get? s.heap.objs.size = none := by
    cases e : X.s₀.heap.get? s.heap.objs.size with
    | none => rfl
    | some o => exact absurd (Heap.lt_size e) (Nat.not_lt.mpr I.sz)
  have fS : FpOk X pins H s.heap.objs.size := I.fpOk (Nat.le_refl _) (I.hok.fresh (Nat.le_refl _))
  generalize s.heap.objs.size = S at *
  generalize s.heap.push { cls := .type "list", data := .seq #[] } = hp at hS kp
  have I1 : Inv X pins σ H { s with heap := hp, toks := s.toks } := I.kept kp
  refine ⟨⟨_, hS, rfl⟩, F.args_list_init_2 _ _, ?_⟩
  show wpAny _ X.A.in1.in1 (do let old ← Builtin.List.listItems (.ref S); Builtin.List.listUpdate (.ref S) (fun _ => #[]); letGo old.toList.reverse; Builtin.List.listExtendWith (.ref S) (.ref z) .none) _ _ _
  have zS : z ≠ S := fun e => hSf (by simp [e])
  refine wpAny_bind ?_
  unfold Builtin.List.listItems
  refine wpAny_bind (wpAny_seqItems hS rfl (wpAny_pure ?_))
  show wpAny _ X.A.in1.in1 (updateSeq S (fun _ => #[]) >>= fun _ => letGo (#[] : Array Value).toList.reverse >>= fun _ => Builtin.List.listExtendWith (.ref S) (.ref z) .none) _ _ _
  refine wpAny_bind (wpAny_updateSeq hS rfl ?_)
  have hS₂ := Heap.get?_update_self (Obj.mapSeq (fun _ => (#[] : Array Value))) hS rfl
  have oth : ∀ b o, b ≠ S → hp.get? b = some o → (hp.update S (Obj.mapSeq (fun _ => (#[] : Array Value)))).get? b = some o := fun b o hb e => (Heap.get?_update_other _ _ (Ne.symm hb)).trans e
  refine wpAny_bind (wpAny_letGo ?_)
  generalize hp.update S (Obj.mapSeq (fun _ => (#[] : Array Value))) = h2 at hS₂ oth
  have z2 : IsZip h2 z ti ro .none := oth _ _ zS (kp _ _ Z.z)
  have hT : Shared.TypeIs { s with heap := h2 } (.ref z) "zip" := ⟨_, z2, rfl⟩
  unfold Builtin.List.listExtendWith
  refine wpAny_bind (wpAny_typeOf hT ?_)
  have e1 : Builtin.List.listSameRef (.ref S) (.ref z) = false := by simp [Builtin.List.listSameRef, Ne.symm zS]
  have e2 : (Value.type "zip" == Value.type "list") = false := by decide
  have e3 : (Value.type "zip" == Value.type "tuple") = false := by decide
  simp only [e1, e2, e3, Bool.or_false, Bool.false_eq_true, if_false]
  refine wpAny_bind (wpAny_pyIter_zip z2 ?_)
  refine wpAny_bind (wpAny_holding ?_)
  unfold Builtin.List.listLengthHint
  refine wpAny_bind (wpAny_specialOf hT zip_no_len ?_)
  show wpAny _ X.A.in1.in1 (specialOf (Value.ref z) (Str.ofString "__length_hint__") >>= _) _ _ _
  refine wpAny_bind (wpAny_specialOf hT zip_no_hint ?_)
  refine wpAny_pure ?_
  show wpAny _ X.A.in1.in1 (rule "list.extend.makes-room" >>= fun _ => Builtin.List.listTouch (.ref S) >>= fun _ =>
    again (.builtin "list.extend.loop" ⟨[.ref S, .ref z, .none], []⟩)) _ _ _
  refine wpAny_bind (wpAny_rule ?_)
  refine wpAny_bind ?_
  show wpAny _ X.A.in1.in1 (updateSeq S (·.push .none) >>= fun _ => updateSeq S (·.pop)) _ _ _
  refine wpAny_bind (wpAny_updateSeq hS₂ rfl ?_)
  have hS₃ := Heap.get?_update_self (Obj.mapSeq (·.push Value.none)) hS₂ rfl
  refine wpAny_updateSeq (hz := by seq_fits) hS₃ rfl ?_
  have hS₄ := Heap.get?_update_self (Obj.mapSeq (·.pop)) hS₃ rfl
  have oth2 : ∀ b o, b ≠ S → h2.get? b = some o → ((h2.update S (Obj.mapSeq (·.push Value.none))).update S (Obj.mapSeq (·.pop))).get? b = some o :=
    fun b o hb e => (Heap.get?_update_other _ _ (Ne.symm hb)).trans ((Heap.get?_update_other _ _ (Ne.symm hb)).trans e)
  generalize (h2.update S (Obj.mapSeq (·.push Value.none))).update S (Obj.mapSeq (·.pop)) = h3 at hS₄ oth2
  have keep : ∀ b o, b ≠ S → s.heap.get? b = some o → h3.get? b = some o := fun b o hb e => oth2 b o hb (oth b o hb (kp b o e))
  have I3 : Inv X pins σ H { s with heap := h3, toks := s.toks } := I.turnedL (L := [S]) (fun b o hb e => keep b o (fun z => hb (by simp [z])) e) fun b hb => by rw [List.mem_singleton.mp hb]; exact fS
  have Z3 : ZipG h3 z ti ro j1 j2 a b 0 := (show ZipG s.heap z ti ro j1 j2 a b 0 from ⟨⟨_, _, Z.z, .inl rfl⟩, Z.ti, Z.ro, Z.j1, Z.j2⟩).move fun c hc o e => keep c o (fun q => hSf (q ▸ hc)) e
  refine wpAny_pure ⟨plainId_quiet F.plain_extend_loop _, zl_loop hne hn D X.A.in1 (I.ok.hd hc) hSf .none H xs.length 0 _ H _ [] rfl (Nat.zero_le _) I3 (Same.refl _) (fun c hc => ?_) ha hb Z3 hS₄ rfl (fun j p e => by simp at e) fun s' H' ps' c' I' g' f' hL hl hp' => ?_⟩
  · rcases List.mem_cons.mp hc with rfl | hc
    · exact fS
    · exact hf c hc
  · refine ⟨rfl, .ref S, upd H' S (.lst (ps'.map V.ref)), I'.take f' h0 ⟨by rw [List.length_map]; exact small_line (by omega), _, c', refs_vals ps', hL⟩, rfl, ?_⟩
    have g2 : Same H' (upd H' S (.lst (ps'.map V.ref))) := same_upd f'.1 _
    exact q S ps' _ fS.1 (g'.trans g2) upd_same hl fun j p e => by
      obtain ⟨x, y, a1, a2, a3⟩ := hp' j p e
      exact ⟨x, y, a1, a2, g2 _ _ a3⟩
end
def tListZip (K : PySem.W.Frag) (ta : TA) : TE := fun σ H Q => ta σ H fun vs H1 => ∃ a b xs ys, vs = [.ref a, .ref b] ∧ SqT K H1 a xs ∧ SqT K H1 b ys ∧ xs.length = ys.length ∧ xs.length ≤ 1000 ∧
  ∀ L ps H', H1 L = none → Same H1 H' → H' L = some (.lst (ps.map V.ref)) → ps.length = xs.length → PairsL H' xs ys ps → Q (.ref L) H'
theorem pe_list_zip {X : Cx} {a b : Expr} {ta : TA} {p p2 pos pos2 : Pos} (hc : X.calm = true) (hgl : Gl X "list") (hml : X.mg "list" = none) (hgz : Gl X "zip") (hmz : X.mg "zip" = none) (ha : PA X [a, b] ta) (h1 : notStar a = true := by rfl) (h2 : notStar b = true := by rfl) :
    PE X (.Call (.Name "list" p) [.Call (.Name "zip" p2) [a, b] [] pos2] [] pos) (tListZip X.K ta) := by
  intro pins s σ H Q I h
  have hs2 : starEach [b] X.env = [(false, eval b X.env)] := by rw [star_cons h2, starEach.eq_def]
  have hs : starEach [a, b] X.env = [(false, eval a X.env), (false, eval b X.env)] := by rw [star_cons h1, hs2]
  have hz : starEach [.Call (.Name "zip" p2) [a, b] [] pos2] X.env = [(false, eval (.Call (.Name "zip" p2) [a, b] [] pos2) X.env)] := by rw [star_cons rfl, starEach.eq_def]
  refine Call_ (ld_blt I hgl hml boot_list (PyProof.Rows.callWith_type1 ?_ hz rfl))
  rw [hz]
  refine Calls.spliced_cons (wpAny_mono (Call_ (ld_blt I hgz hmz boot_zip (PyProof.Rows.callWith_type1 (thn (ha pos2 pins s σ H _ I h) fun us s1 ⟨vs, H1, I1, r1, q1⟩ => ?_) (by rw [hs, hs2]) (by rw [hs2]; rfl)))) (fun v s2 hq => Calls.spliced_nil hq) fun _ _ e => e)
  obtain ⟨p1, p3, xs, ys, e, hx, hy, hne, hn, q⟩ := q1
  subst e
  obtain ⟨u, v, rfl, ru, rv⟩ := vals2 r1
  cases (show u = Value.ref p1 from ru)
  cases (show v = Value.ref p3 from rv)
  obtain ⟨its1, _, t1, _⟩ := I1.tuple hx
  obtain ⟨its2, _, t2, _⟩ := I1.tuple hy
  have l1 : p1 < s1.heap.objs.size := by obtain ⟨_, e, _⟩ := t1; exact Heap.lt_size e
  have l2 : p3 < s1.heap.objs.size := by obtain ⟨_, e, _⟩ := t2; exact Heap.lt_size e
  refine zt_call (show s1.heap.IsTuple p1 its1.toArray from t1) (show s1.heap.IsTuple p3 its2.toArray from t2) fun h' Z sz k => ?_
  refine call_list_zip hc hne hn (zipApart_new l1 l2) (I1.kept (t' := s1.toks) k) (fun c hc => ?_) hx hy Z q
  have hle : s1.heap.objs.size ≤ c := by
    simp only [List.mem_cons, List.not_mem_nil, or_false] at hc
    rcases hc with rfl | rfl | rfl | rfl | rfl
    · exact Nat.le_add_right _ _
    · exact Nat.le_add_right _ _
    · exact Nat.le_add_right _ _
    · exact Nat.le_refl _
    · exact Nat.le_add_right _ _
  exact I1.fpOk hle (I1.hok.fresh hle)
end L2
namespace SM
open PySem PySem.Spec PyProof.Rows L2 SS
def sp_renamedP : Sp := fun vs H Q _ => ∃ (a b : Addr) (rs : List V) (ls fs : List (List Nat)), vs = [.ref a, .ref b] ∧ H a = some (.lst rs) ∧ Paired (Line H) rs ls ∧ ls.length ≤ 16 ∧ H b = some (.dT (tabF keyL 0 fs)) ∧ (∀ l ∈ ls, l ∈ fs) ∧ ∀ p H', Same H H' → H' p = some (.tup ((ls.map (nOf fs)).map nV)) → Q (.ref p) H'
def sp_comings (R : Hp → Prop) (T : Thg) (G : List Nat → Prop) : Sp := fun vs H Q _ => ∃ (a : Addr) (t : List Nat), vs = [.ref a] ∧ R H ∧ H a = some (.tup (t.map nV)) ∧ G t ∧ ∀ D rs H', H D = none → Same H H' → H' D = some (.lst rs) → Paired (Line H') rs (T.step t) → Q (.ref D) H'
def sp_isend (R : Hp → Prop) (T : Thg) (G : List Nat → Prop) : Sp := fun vs H Q _ => ∃ (a : Addr) (t : List Nat), vs = [.ref a] ∧ R H ∧ H a = some (.tup (t.map nV)) ∧ G t ∧ ∀ H', Same H H' → Q (.bl (T.fin t)) H'
def sp_bool2 (op : Bool → Bool → Bool) : Sp := fun vs H Q _ => ∃ a b : Bool, vs = [.bl a, .bl b] ∧ Q (.bl (op a b)) H
def ExQ (T : Thg) (t0 : List Nat) (H : Hp) (Q : VK) : Prop := ∀ p m' H', Same H H' → RepM H' p m' → m'.Ok → m'.w = T.w → Canon m' → (∀ row, (∀ l ∈ row, l < 2 ^ T.w) → m'.fin (m'.run 0 row) = T.fin (T.run t0 row)) → Q (.ref p) H'
def sp_explored (P : Program) (w : World) (K : PySem.W.Frag) (mg : Str → Option Value) (base : Heap) (Pt : Addr) (qs : List (Pos × Str)) : Sp := fun vs H Q _ => ∃ (a fc fe : Addr) (fd fd' : FuncData) (T : Thg) (G : List Nat → Prop) (R : Hp → Prop) (t0 : List Nat),
  vs = [nV T.w, .ref a, .ref fc, .ref fe] ∧ TabOk H Pt qs ∧ H a = some (.tup (t0.map nV)) ∧ H fc = some (fnO fd fc) ∧ H fe = some (fnO fd' fe) ∧ CloH P w K mg base 4 H fc 1 (sp_comings R T G) ∧ CloH P w K mg base 4 H fe 1 (sp_isend R T G) ∧ R H ∧ (∀ H1 H2, Same H1 H2 → R H1 → R H2) ∧ T.w ≤ 4 ∧ G t0 ∧
  (∀ t, G t → (T.step t).length = 2 ^ T.w ∧ ∀ u ∈ T.step t, G u) ∧ (∀ fs k, Fnd T G t0 fs k → fs.length ≤ 100) ∧ ExQ T t0 H Q
theorem red_canon {m m' : Mc} (r : Red m m') (ok : m.Ok) (c : Canon m) : m' = m := (canon_one r.w.symm ok r.ok c r.canon r.par).symm
def sprd (m : Mc) (f : Nat → Nat) (W : Nat) : Mc := ⟨W, m.ways.map fun line => (List.range (2 ^ W)).map fun l => line.getD (f l) 0, m.ends⟩
theorem sprd_go {m : Mc} {f : Nat → Nat} {W r l : Nat} (ok : m.Ok) (hr : r < m.n) (hl : l < 2 ^ W) : (sprd m f W).go r l = m.go r (f l) := by
  have h1 : r < m.ways.length := by rw [ok.len]; exact hr
  simp only [Mc.go, sprd, List.getD_eq_getElem?_getD, List.getElem?_map, List.getElem?_eq_getElem h1, Option.map_some, Option.getD_some, List.getElem?_range hl]
theorem sprd_ok {m : Mc} {f : Nat → Nat} {W : Nat} (ok : m.Ok) (hW : W ≤ 4) (hf : ∀ l, l < 2 ^ W → f l < 2 ^ m.w) : (sprd m f W).Ok := by
  refine ⟨hW, ok.pos, ok.few, ?_, fun ln hl => ?_, fun ln hl r hr => ?_⟩
  · show (m.ways.map _).length = m.ends.length
    rw [List.length_map]; exact ok.len
  · obtain ⟨line, _, rfl⟩ := List.mem_map.mp hl
    rw [List.length_map, List.length_range]
    rfl
  · obtain ⟨line, ml, rfl⟩ := List.mem_map.mp hl
    obtain ⟨l, h, rfl⟩ := List.mem_map.mp hr
    have h1 := hf l (List.mem_range.mp h)
    have h2 : f l < line.length := by rw [ok.line line ml]; exact h1
    show line.getD (f l) 0 < m.ends.length
    rw [List.getD_eq_getElem?_getD, List.getElem?_eq_getElem h2, Option.getD_some]
    exact ok.room line ml _ (List.getElem_mem h2)
theorem sprd_run {m : Mc} {f : Nat → Nat} {W : Nat} (ok : m.Ok) (hf : ∀ l, l < 2 ^ W → f l < 2 ^ m.w) : ∀ (row : List Nat) (r : Nat), r < m.n → (∀ l ∈ row, l < 2 ^ W) → (sprd m f W).run r row = m.run r (row.map f)
  | [], _, _, _ => rfl
  | l :: row, r, hr, h => by
    have hl := h l List.mem_cons_self
    rw [Mc.run_cons, List.map_cons, Mc.run_cons, sprd_go ok hr hl]
    exact sprd_run ok hf row _ (ok.go_lt hr (hf l hl)) fun x hx => h x (List.mem_cons_of_mem _ hx)
theorem sprd_fin (m : Mc) (f : Nat → Nat) (W r : Nat) : (sprd m f W).fin r = m.fin r := rfl
def loI (l : Int) : List Nat → Nat → Int
  | [], _ => 0
  | t :: ts, i => Builtin.bitAnd (l / 2 ^ t) 1 * 2 ^ i + loI l ts (i + 1)
def loL (l : Int) : List Nat → Nat → List Int
  | [], _ => []
  | t :: ts, i => Builtin.bitAnd (l / 2 ^ t) 1 * 2 ^ i :: loL l ts (i + 1)
theorem loL_sum (l : Int) : ∀ (ts : List Nat) (i : Nat), (loL l ts i).sum = loI l ts i
  | [], _ => rfl
  | t :: ts, i => by rw [loL, loI, List.sum_cons, loL_sum l ts]
theorem loL_at (l : Int) : ∀ (ts : List Nat) (i j : Nat), (loL l ts i)[j]? = ts[j]?.map fun t => Builtin.bitAnd (l / 2 ^ t) 1 * 2 ^ (i + j)
  | [], _, _ => by simp [loL]
  | t :: ts, i, 0 => by simp [loL]
  | t :: ts, i, j + 1 => by
    rw [loL, List.getElem?_cons_succ, loL_at l ts, List.getElem?_cons_succ]
    congr 1
    funext t
    rw [show i + 1 + j = i + (j + 1) by omega]
def others (w t : Nat) : List Nat := (List.range (w + 1)).filter fun k => k != t
def less (t l : Nat) : Nat := l % 2 ^ t + l / 2 ^ (t + 1) * 2 ^ t
def bitsOf (l n : Nat) : List Nat := (List.range n).map fun k => l / 2 ^ k % 2
theorem lo_less : ∀ w, w < 4 → ∀ t, t < w + 1 → ∀ l : Nat, l < 2 ^ (w + 1) → loI (l : Int) (others w t) 0 = (less t l : Int) ∧ less t l < 2 ^ w := by decide +kernel
theorem bit_small : ∀ l, l < 32 → ∀ t, t < 5 → (Builtin.bitAnd ((l : Nat) : Int) 1).natAbs < 2 ∧ (Builtin.bitAnd (((l : Nat) : Int) / 2 ^ t) 1).natAbs < 2 := by decide +kernel
theorem others_le {w t x : Nat} (h : x ∈ others w t) : x ≤ w := by
  have := List.mem_range.mp (List.mem_filter.mp h).1
  omega
theorem others_len (w t : Nat) : (others w t).length ≤ w + 1 := Nat.le_trans (List.length_filter_le _ _) (by rw [List.length_range]; exact Nat.le_refl _)
def sp_below : Sp := fun vs H Q _ => ∃ (r n : Int), vs = [.int r, .int n] ∧ 0 ≤ r ∧ r < n ∧ Q (.bl true) H
def sp_iswhole : Sp := fun vs H Q _ => ∃ (r : Int), vs = [.int r] ∧ Q (.bl true) H
def sp_renamedS : Sp := fun vs H Q _ => ∃ (a b : Addr) (l line : List Nat), vs = [.ref a, .ref b] ∧ H a = some (.lst (l.map nV)) ∧ l.length ≤ 32 ∧ H b = some (.tup (line.map nV)) ∧ (∀ x ∈ l, x < line.length) ∧
  ∀ p H', Same H H' → H' p = some (.tup ((l.map fun x => line.getD x 0).map nV)) → Q (.ref p) H'
def sp_letterof : Sp := fun vs H Q _ => ∃ (l : Nat) (a : Addr) (ts : List Nat), vs = [nV l, .ref a] ∧ l < 32 ∧ H a = some (.lst (ts.map nV)) ∧ ts.length ≤ 5 ∧ (∀ t ∈ ts, t ≤ 4) ∧ ∀ H', Same H H' → Q (.int (loI l ts 0)) H'
def sp_spread : Sp := fun vs H Q _ => ∃ (a b : Addr) (m : Mc) (ts : List Nat) (W : Nat) (f : Nat → Nat), vs = [.ref a, .ref b, nV W] ∧ RepM H a m ∧ m.Ok ∧ H b = some (.lst (ts.map nV)) ∧ ts.length ≤ 5 ∧ (∀ t ∈ ts, t ≤ 4) ∧ W ≤ 4 ∧
  (∀ l : Nat, l < 2 ^ W → loI (l : Int) ts 0 = (f l : Int) ∧ f l < 2 ^ m.w) ∧ ∀ p H', Same H H' → RepM H' p (sprd m f W) → Q (.ref p) H'
def sp_widened (Pt : Addr) (qs : List (Pos × Str)) : Sp := fun vs H Q _ => ∃ (a : Addr) (m : Mc) (t : Nat), vs = [.ref a, nV t] ∧ TabOk H Pt qs ∧ RepM H a m ∧ m.Ok ∧ m.w < 4 ∧ t < m.w + 1 ∧ ∀ p m' H', Same H H' → RepM H' p m' → Red (sprd m (less t) (m.w + 1)) m' → Q (.ref p) H'
def sp_bits : Sp := fun vs H Q _ => ∃ (l n : Nat), vs = [nV l, nV n] ∧ n ≤ 5 ∧ ∀ D H', H D = none → Same H H' → H' D = some (.lst ((bitsOf l n).map nV)) → Q (.ref D) H'
end SM
namespace PySem.F
theorem slot_revit_next : Slot "list_reverseiterator" "__next__" "list_reverseiterator.__next__" :=
  .of (owner := "list_reverseiterator") (n := "__next__") (by rw [typeLookup_type, builtinLookup_eq_fast]; kernel_rfl) (by decide +kernel) (by decide +kernel) (by decide +kernel)
    (by first | exact .inl (by decide +kernel) | exact .inr (by decide +kernel)) (by rw [isSubtype_type]; kernel_rfl)
theorem slot_revit_iter : Slot "list_reverseiterator" "__iter__" "list_reverseiterator.__iter__" :=
  .of (owner := "list_reverseiterator") (n := "__iter__") (by rw [typeLookup_type, builtinLookup_eq_fast]; kernel_rfl) (by decide +kernel) (by decide +kernel) (by decide +kernel)
    (by first | exact .inl (by decide +kernel) | exact .inr (by decide +kernel)) (by rw [isSubtype_type]; kernel_rfl)
theorem entry_revit_next : entryFor table "list_reverseiterator.__next__" = some Builtin.«list_reverseiterator.__next__» := entryFor_of_tree (by kernel_rfl)
theorem entry_revit_iter : entryFor table "list_reverseiterator.__iter__" = some Builtin.«dict_keyiterator.__iter__» :=
  entryFor_alias (id' := "dict_keyiterator.__iter__") (by kernel_rfl) (by first | rfl | decide +kernel | (unfold String.splitOn; simp +decide [String.splitOnAux])) (by decide +kernel) (by kernel_rfl)
theorem args_revit_next (a : Value) : argsOk "list_reverseiterator.__next__" ⟨[a], []⟩ := by unfold argsOk; kernel_rfl
theorem args_revit_iter (a : Value) : argsOk "list_reverseiterator.__iter__" ⟨[a], []⟩ := by unfold argsOk; kernel_rfl
theorem mro_reversedZ : mroOf (.type "reversed") = pure [.type "reversed", .type "object"] := by rw [mroOf_type]; kernel_rfl
theorem lookup_reversed_newZ : typeLookup (.type "reversed") "__new__" = pure (some (.builtin "reversed.__new__")) := by rw [typeLookup_type, builtinLookup_eq_fast]; kernel_rfl
theorem slot_reversed_initZ : Slot "reversed" "__init__" "object.__init__" :=
  .of (owner := "object") (n := "__init__") (by rw [typeLookup_type, builtinLookup_eq_fast]; kernel_rfl) (by decide +kernel) (by decide +kernel) (by decide +kernel)
    (by first | exact .inl (by decide +kernel) | exact .inr (by decide +kernel)) (by rw [isSubtype_type]; kernel_rfl)
theorem called_reversedZ : TypeCalled "reversed" "reversed.__new__" "object.__init__" :=
  ⟨by decide +kernel, by decide +kernel, ⟨_, _, mro_reversedZ⟩, madeBy_type mro_reversedZ lookup_reversed_newZ (by decide +kernel), by decide +kernel, by rw [isSubtype_type]; kernel_rfl, slot_reversed_initZ⟩
theorem typeCall_reversed_1Z (a : Value) : checkTypeCall "reversed" ⟨[a], []⟩ = pure () := by kernel_rfl
theorem newCall_reversed_1Z (a : Value) : checkBuiltinCall "reversed.__new__" ⟨[.type "reversed", a], []⟩ = pure () := by kernel_rfl
theorem entry_reversed_newZ : entryFor table "reversed.__new__" = some Builtin.«reversed.__new__» := entryFor_of_tree (by kernel_rfl)
theorem sub_reversedZ : isSubtype (.type "reversed") (.type "reversed") = pure true := by rw [isSubtype_type]; kernel_rfl
theorem sub_revit_reversedZ : isSubtype (.type "list_reverseiterator") (.type "reversed") = pure false := by rw [isSubtype_type]; kernel_rfl
end PySem.F
namespace L2
open PySem PySem.Spec PyProof.Rows
section
variable {prog : Program} {w : World} {A : Around} {E : Value → Shared → Prop} {s : Shared}
def IsRev (h : Heap) (it a : Addr) (i : Int) : Prop := h.get? it = some { cls := .type "list_reverseiterator", data := .fields #[.ref a, rawInt i] }
theorem IsRev.typeIs {it a : Addr} {i : Int} (x : IsRev s.heap it a i) : s.TypeIs (.ref it) "list_reverseiterator" := ⟨_, x, rfl⟩
theorem iter_rev {it a : Addr} {i : Int} {Q : Value → Shared → Prop} (x : IsRev s.heap it a i) (h : Q (.ref it) s) : wpAny (model prog w) A (pyIter (.ref it)) Q E s := by
  refine wpAny_pyIter_slot x.typeIs F.slot_revit_iter (wpAny_call_entry F.slot_revit_iter x.typeIs F.entry_revit_iter ?_ (F.args_revit_iter _))
  show wpAny _ _ (ret (.ref it)) _ _ s
  exact wpAny_pure ⟨_, rfl, "list_reverseiterator", _, x.typeIs, F.slot_revit_next.lookup, h⟩
theorem next_rev {it a : Addr} {i : Nat} {items : Array Value} {x : Value} {Q : Option Value → Shared → Prop} (hit : IsRev s.heap it a (i : Int)) (hl : s.heap.IsList a items) (hx : items[i]? = some x)
    (hQ : ∀ h', IsRev h' it a ((i : Int) - 1) → Heap.SameBut it s.heap h' → Q (some x) { s with heap := h' }) : wpAny (model prog w) A (pyNext (.ref it)) Q E s := by
  have ho : s.heap.get? it = some _ := hit
  obtain ⟨ol, hol, _, nl, hdl⟩ := hl
  unfold pyNext
  refine wpAny_bind (wpAny_attempt (wpAny_callSpecial?_slot (name := Str.ofString "__next__") hit.typeIs F.slot_revit_next
    (wpAny_call_entry F.slot_revit_next hit.typeIs F.entry_revit_next ?_ (F.args_revit_next _))))
  show wpAny _ _ (field (.ref it) 1 >>= _) _ _ s
  refine wpAny_bind (wpAny_field ho rfl (x := rawInt (i : Int)) rfl ?_)
  show wpAny _ _ (if ((i : Int) < 0) then _ else _) _ _ s
  rw [if_neg (show ¬ ((i : Int) < 0) by omega)]
  show wpAny _ _ (field (.ref it) 0 >>= _) _ _ s
  refine wpAny_bind (wpAny_field ho rfl (x := .ref a) rfl ?_)
  refine wpAny_bind (wpAny_seqItems hol hdl ?_)
  simp only [Int.toNat_natCast, hx]
  refine wpAny_bind (wpAny_setField ho rfl (by simp) (wpAny_pure ⟨x, rfl, wpAny_pure (hQ _ ?_ (Heap.SameBut.update ..))⟩))
  exact Heap.get?_update_self _ ho (Obj.isFreed_of_fields (Obj.data_mapFields rfl _))
theorem end_rev {it a : Addr} {Q : Option Value → Shared → Prop} (hh : A.handled = none) (hit : IsRev s.heap it a (-1)) (hQ : ∀ h', (∀ b o, s.heap.get? b = some o → h'.get? b = some o) → Q none { s with heap := h' }) :
    wpAny (model prog w) A (pyNext (.ref it)) Q E s := by
  have ho : s.heap.get? it = some _ := hit
  unfold pyNext
  refine wpAny_bind (wpAny_attempt (wpAny_callSpecial?_slot (name := Str.ofString "__next__") hit.typeIs F.slot_revit_next
    (wpAny_call_entry F.slot_revit_next hit.typeIs F.entry_revit_next ?_ (F.args_revit_next _))))
  show wpAny _ _ (field (.ref it) 1 >>= _) _ _ s
  refine wpAny_bind (wpAny_field ho rfl (x := rawInt (-1 : Int)) rfl ?_)
  show wpAny _ _ (if ((-1 : Int) < 0) then _ else _) _ _ s
  rw [if_pos (show ((-1 : Int) < 0) by omega)]
  refine wpAny_bind (wpAny_rule (wpAny_bind ?_))
  show wpAny _ _ (newExc (.type "StopIteration") [] >>= _) _ _ _
  refine wpAny_bind ?_
  simp only [newExc, newTuple]
  refine wpAny_bind (wpAny_newObj_type ?_ (by size_fits))
  refine wpAny_bind (m := firstArgMember _ _) (wpAny_of_eq (a := Value.none) (by first | rfl | (simp only [firstArgMember]; rfl)) ?_)
  refine wpAny_newObj_type ?_ (by size_fits)
  simp only [raiseNew]
  refine wpAny_bind (wpAny_handled ?_)
  rw [show A.in1.handled = none from hh]
  refine wpAny_bind (wpAny_pure (wpAny_throw ?_))
  refine wpAny_bind (wpAny_isInstance (T := "StopIteration") (b := true) ⟨_, Heap.get?_push_size _ rfl, rfl⟩ isSubtype_stop ?_)
  exact wpAny_pure (hQ _ fun b o e => Heap.get?_push_of_some _ (Heap.get?_push_of_some _ e))
theorem meets_reversed_new (l : Addr) (items : Array Value) (n : Nat) (dct : Option Addr) (sl : Array (Option Value)) :
    Meets (Builtin.«reversed.__new__» ⟨[.type "reversed", .ref l], []⟩) (fun _ R s => s.heap.get? l = some { cls := .type "list", dict := dct, data := .seq items n, slots := sl } ∧
      R (.ok (.ret (.ref s.heap.objs.size))) { s with heap := s.heap.push { cls := .type "list_reverseiterator", data := .fields #[.ref l, rawInt ((items.size : Int) - 1)] } }) :=
  .of_wp fun prog w A R s h => by
    obtain ⟨hp, g, d, tk, os⟩ := s; obtain ⟨hl, h⟩ := h
    have hsub := F.sub_reversedZ
    have hL : Heap.IsList (Shared.heap ⟨hp, g, d, tk, os⟩) l items := ⟨_, hl, rfl, n, rfl⟩
    have hT : Shared.TypeIs ⟨hp, g, d, tk, os⟩ (.ref l) "list" := ⟨_, hl, rfl⟩
    have hlk := F.slot_list_reversed.lookup
    have hbd := F.slot_list_reversed.bind (.ref l)
    wp_walk using AutoSeq1.wpAny_loadPart' hl
    refine codeAny_call_builtin F.slot_list_reversed.plain F.entry_list_reversed (F.slot_list_reversed.check _ _ _ _ _ _ _ _ hT (F.args_list_reversed_1 _) ?_)
    wp_walk using AutoSeq1.wpAny_loadPart' hl
    exact ⟨_, rfl, h⟩
theorem callType_other {T T' newId initId : String} {Bn : Builtin} {args : List Value} {S : PySem.Spec} {Q Q₁ : Value → Shared → Prop} (ft : TypeCalled T newId initId)
    (hct : checkTypeCall T ⟨args, []⟩ = pure ()) (hcn : checkBuiltinCall newId ⟨.type T :: args, []⟩ = pure ())
    (entryN : entryFor table newId = some Bn) (g : Meets (Bn ⟨.type T :: args, []⟩) S) (hno : isSubtype (.type T') (.type T) = pure false)
    (h : S A.in1 (wants Q₁ E) s) (hnext : ∀ obj s₁, Q₁ obj s₁ → s₁.TypeIs obj T' ∧ Q obj s₁) :
    wpAny (model prog w) A (call (.type T) args) Q E s := by
  obtain ⟨c, tl, hmro⟩ := ft.mro
  have hmade := ft.made
  have hsub := ft.sub
  refine wpAny_call (codeAny_of_tree ?_)
  show wpAny _ _ (callAny (.type T) _) _ _ _
  refine wpAny_pure ⟨Code.quiet_builtin _ (by decide +kernel), codeAny_builtin F.entry_type_call ?_⟩
  rw [Around.under_plain (weight_type_call_type T args []) (units_type_call_type T args [])]
  have h1 := ft.notType
  have h2 := ft.canCreate
  repeat (any_goals (first | assumption | wp_step))
  refine codeAny_mono (codeAny_call_builtin ft.plain entryN (wpAny_of_eq hcn (g prog w A.in1 _ s h))) fun r s₁ hr => ?_
  cases r with
  | error e => exact hr
  | ok fl =>
    cases fl with
    | ret obj =>
      obtain ⟨hT, hq⟩ := hnext _ _ hr
      repeat (any_goals (first | assumption | wp_step))
    | _ => exact hr.elim
theorem call_reversed {l : Addr} {items : Array Value} {Q : Value → Shared → Prop} (hL : s.heap.IsList l items)
    (h : ∀ h', IsRev h' s.heap.objs.size l ((items.size : Int) - 1) → (∀ b o, s.heap.get? b = some o → h'.get? b = some o) → Q (.ref s.heap.objs.size) { s with heap := h' }) :
    wpAny (model prog w) A (call (.type "reversed") [.ref l]) Q E s := by
  obtain ⟨⟨c, dct, dt, sl⟩, hl, hc, n, hd⟩ := hL
  replace hc : c = .type "list" := hc
  replace hd : dt = .seq items n := hd
  subst hc hd
  refine callType_other (Q₁ := fun v s₁ => v = .ref s.heap.objs.size ∧ s₁ = { s with heap := s.heap.push { cls := .type "list_reverseiterator", data := .fields #[.ref l, rawInt ((items.size : Int) - 1)] } }) F.called_reversedZ (F.typeCall_reversed_1Z _) (F.newCall_reversed_1Z _) F.entry_reversed_newZ (meets_reversed_new l items n dct sl) F.sub_revit_reversedZ ⟨hl, rfl, rfl⟩ ?_
  rintro obj s₁ ⟨rfl, rfl⟩
  exact ⟨⟨_, Heap.get?_push_size _ rfl, rfl⟩, h _ (Heap.get?_push_size _ rfl) fun b o e => Heap.get?_push_of_some _ e⟩
end
def Itv (K : PySem.W.Frag) (a : Addr) (n : Nat) : It :=
  ⟨fun i H => i < n ∧ ∃ xs x, SqL K H a xs ∧ xs[n - 1 - i]? = some x, fun i H x H' => H' = H ∧ ∀ xs, SqL K H a xs → xs[n - 1 - i]? = some x, fun i H => n = i⟩
theorem turn_rev {P : Program} {w : World} {K : PySem.W.Frag} {tg : Expr} (a it : Addr) (n : Nat) : Turn P w K tg (Itv K a n) [it] it (fun i h => IsRev h it a ((n : Int) - 1 - (i : Int))) where
  mem := by simp
  obj := fun i h st b hb => by
    have e : b = it := by simpa using hb
    subst e
    exact ⟨_, st, fun v z => by
      have z' : Data.fields _ = Data.cell v := z
      cases z'⟩
  keep := fun i h h' st k => k it (by simp) _ st
  item := by
    intro X hP hw hK hc i pins s σ H E I hf st hg
    subst hP hw hK
    obtain ⟨hi, xs, x, hq, hx⟩ := hg
    obtain ⟨its, rv, p, hz⟩ := I.list hq
    obtain ⟨u, hu, ru⟩ := rv.get hx
    obtain ⟨f0, f1, f2, f3, f4, f5⟩ := hf it (by simp)
    have e1 : (n : Int) - 1 - (i : Int) = ((n - 1 - i : Nat) : Int) := by omega
    rw [e1] at st
    refine next_rev st p.isList (x := u) (by simpa using hu) fun h' st' sb => ?_
    have I1 : Inv X pins σ H { s with heap := h' } := I.turned (t' := s.toks) (fun b o hb e => (sb.2 b hb).trans e) f0 f1 f3 f4 f5
    rw [show ((n - 1 - i : Nat) : Int) - 1 = (n : Int) - 1 - ((i + 1 : Nat) : Int) by omega] at st'
    exact ⟨u, rfl, go_of (s := { s with heap := h' }) (n := "list_reverseiterator") st' rfl rfl (by decide) ⟨x, H, I1, ru, ⟨rfl, fun ys hy => by rw [I.list_inj hy hq]; exact hx⟩, st', fun b hb => (hf b hb).1⟩⟩
  done := by
    intro X hP hw hK hc i pins s σ H E I hf st hg
    subst hP hw hK
    obtain ⟨f0, f1, f2, f3, f4, f5⟩ := hf it (by simp)
    have hg' : n = i := hg
    rw [show (n : Int) - 1 - (i : Int) = -1 by omega] at st
    exact end_rev (I.ok.hd hc) st fun h' k => ⟨rfl, I.kept (t' := s.toks) k⟩
  self := fun _ _ _ _ _ st h => iter_rev st h
def iRev (K : PySem.W.Frag) (ta : TA) : TI := fun σ H R => ta σ H fun vs H1 => ∃ a, vs = [.ref a] ∧ ∃ xs, SqL K H1 a xs ∧ R (Itv K a xs.length) H1
theorem boot_reversed : bootBuiltins "reversed" = some (.type "reversed") := by rfl
theorem pi_rev {X : Cx} {tg : Expr} {a : Expr} {ta : TA} {p pos : Pos} (hg : Gl X "reversed") (hm : X.mg "reversed" = none) (ha : PA X [a] ta) (h1 : notStar a = true := by rfl) : PI X tg (.Call (.Name "reversed" p) [a] [] pos) (iRev X.K ta) := by
  intro pins s σ H R I h
  have hs : starEach [a] X.env = [(false, eval a X.env)] := by rw [star_cons h1, starEach.eq_def]
  refine Call_ (ld_blt I hg hm boot_reversed (PyProof.Rows.callWith_type1 (thn (ha pos pins s σ H _ I h) fun us s1 ⟨vs, H1, I1, r1, q1⟩ => ?_) hs rfl))
  obtain ⟨p1, e, xs, hx, q⟩ := q1
  subst e
  obtain ⟨u, rfl, ru⟩ := vals1 r1
  cases (show u = Value.ref p1 from ru)
  obtain ⟨its, rv, t1, _⟩ := I1.list hx
  have hl := rv.length
  refine call_reversed t1.isList fun h' se k => iter_rev se ?_
  refine ⟨_, [s1.heap.objs.size], _, _, H1, rfl, I1.kept (t' := s1.toks) k, turn_rev p1 _ xs.length, ?_, fun c hc => ?_, q⟩
  · have e1 : (its.toArray.size : Int) - 1 = (xs.length : Int) - 1 - ((0 : Nat) : Int) := by rw [List.size_toArray, ← hl]; simp
    rw [e1] at se
    exact se
  · have e : c = s1.heap.objs.size := by simpa using hc
    subst e
    exact I1.fpOk (Nat.le_refl _) (I1.hok.fresh (Nat.le_refl _))
theorem pi_revK {X : Cx} (K : PySem.W.Frag) {tg : Expr} {a : Expr} {ta : TA} {p pos : Pos} (hg : Gl X "reversed") (hm : X.mg "reversed" = none) (ha : PA X [a] ta) (h : X.K = K := by rfl) (h1 : notStar a = true := by rfl) :
    PI X tg (.Call (.Name "reversed" p) [a] [] pos) (iRev K ta) := h ▸ pi_rev hg hm ha h1
theorem fb_rev {K : PySem.W.Frag} {a : Addr} {xs : List V} {g : TG} {tb : TS} {D : Ends} {σ0 : St} {H1 : Hp} (Pv : Nat → St → Hp → Prop) (h0 : Pv 0 σ0 H1) (hl : ∀ i σ H, i ≤ xs.length → Pv i σ H → SqL K H a xs)
    (hs : ∀ i x σ H, xs.reverse[i]? = some x → Pv i σ H → g x σ H fun σ2 H2 => tb { D with nx := Pv (i + 1), ct := Pv (i + 1), bk := D.nx } σ2 H2) (hd : ∀ σ H, Pv xs.length σ H → D.nx σ H) : fBody g tb D σ0 (Itv K a xs.length) H1 := by
  refine ⟨fun i m σ H => m = xs.length - i ∧ i ≤ xs.length ∧ Pv i σ H, ⟨xs.length, by simp, Nat.zero_le _, h0⟩, ?_⟩
  rintro i m σ H ⟨rfl, hi, p⟩
  have q1 := hl i σ H hi p
  by_cases hlt : i < xs.length
  · have hx : xs[xs.length - 1 - i]? = some (xs[xs.length - 1 - i]'(by omega)) := List.getElem?_eq_getElem (by omega)
    refine .inr ⟨⟨hlt, xs, _, q1, hx⟩, Pv (i + 1), fun σ' H' p' => ⟨xs.length - (i + 1), by omega, rfl, hlt, p'⟩, fun x H' y => ?_⟩
    obtain ⟨rfl, yx⟩ := y
    refine hs i x σ H' ?_ p
    rw [List.getElem?_reverse hlt]
    exact yx xs q1
  · have e : i = xs.length := by omega
    subst e
    exact .inl ⟨rfl, hd σ H p⟩
open PySem
abbrev Rise (xs : Array Nat) : Prop := xs.toList.Pairwise (· < ·)
theorem rise_lt {xs : Array Nat} (h : Rise xs) {i j : Nat} (hij : i < j) (hj : j < xs.size) : xs.getD i 0 < xs.getD j 0 := by
  have := List.pairwise_iff_getElem.mp h i j (by simpa using Nat.lt_trans hij hj) (by simpa using hj) hij
  simp only [Array.getElem_toList] at this
  rw [Array.getD, Array.getD, dif_pos (Nat.lt_trans hij hj), dif_pos hj]
  exact this
theorem below_go {xs : Array Nat} (h : Rise xs) (j : Nat) : ∀ (fuel lo hi : Nat), lo ≤ hi → hi ≤ xs.size → hi - lo ≤ fuel → (∀ i, i < lo → xs.getD i 0 < j) → (∀ i, hi ≤ i → i < xs.size → j ≤ xs.getD i 0) →
    SetTable.below.go xs j fuel lo hi ≤ xs.size ∧ (∀ i, i < SetTable.below.go xs j fuel lo hi → xs.getD i 0 < j) ∧ ∀ i, SetTable.below.go xs j fuel lo hi ≤ i → i < xs.size → j ≤ xs.getD i 0
  | 0, lo, hi, h1, h2, h3, h4, h5 => by
    have e : lo = hi := by omega
    unfold SetTable.below.go
    exact ⟨by omega, h4, fun i hi' => h5 i (by omega)⟩
  | fuel + 1, lo, hi, h1, h2, h3, h4, h5 => by
    unfold SetTable.below.go
    by_cases c : lo < hi
    · rw [if_pos c]
      have hm : (lo + hi) / 2 < xs.size := by omega
      have e : xs.getD ((lo + hi) / 2) j = xs.getD ((lo + hi) / 2) 0 := by rw [Array.getD, Array.getD, dif_pos hm, dif_pos hm]
      show _ ∧ _ ∧ _
      simp only
      by_cases c2 : xs.getD ((lo + hi) / 2) j < j
      · rw [if_pos c2]
        refine below_go h j fuel ((lo + hi) / 2 + 1) hi (by omega) h2 (by omega) (fun i hi' => ?_) h5
        by_cases c3 : i = (lo + hi) / 2
        · rw [c3, ← e]; exact c2
        · exact Nat.lt_trans (rise_lt h (j := (lo + hi) / 2) (by omega) hm) (by rw [← e]; exact c2)
      · rw [if_neg c2]
        refine below_go h j fuel lo ((lo + hi) / 2) (by omega) (by omega) (by omega) h4 fun i hi' hs => ?_
        by_cases c3 : i = (lo + hi) / 2
        · rw [c3, ← e]; omega
        · have := rise_lt h (i := (lo + hi) / 2) (j := i) (by omega) hs
          rw [e] at c2
          omega
    · rw [if_neg c]
      exact ⟨by omega, h4, fun i hi' => h5 i (by omega)⟩
theorem below_spec {xs : Array Nat} (h : Rise xs) (j : Nat) : SetTable.below xs j ≤ xs.size ∧ (∀ i, i < SetTable.below xs j → xs.getD i 0 < j) ∧ ∀ i, SetTable.below xs j ≤ i → i < xs.size → j ≤ xs.getD i 0 :=
  below_go h j xs.size 0 xs.size (Nat.zero_le _) (Nat.le_refl _) (by omega) (fun i hi => absurd hi (Nat.not_lt_zero _)) fun i h1 h2 => by omega
theorem below_next {xs : Array Nat} (h : Rise xs) {i : Nat} (hi : i < xs.size) : SetTable.below xs (xs.getD i 0 + 1) = i + 1 := by
  obtain ⟨h1, h2, h3⟩ := below_spec h (xs.getD i 0 + 1)
  by_cases c : SetTable.below xs (xs.getD i 0 + 1) ≤ i
  · have := h3 i c hi; omega
  · by_cases c2 : SetTable.below xs (xs.getD i 0 + 1) = i + 1
    · exact c2
    · have := h2 (i + 1) (by omega)
      have := rise_lt h (i := i) (j := i + 1) (by omega) (by omega)
      omega
theorem below_zero {xs : Array Nat} (h : Rise xs) : SetTable.below xs 0 = 0 := by
  obtain ⟨h1, h2, h3⟩ := below_spec h 0
  by_cases c : SetTable.below xs 0 = 0
  · exact c
  · have := h2 0 (by omega); omega
theorem insertAt_list {α : Type} (xs : Array α) (p : Nat) (x : α) : (SetTable.insertAt xs p x).toList = xs.toList.take p ++ x :: xs.toList.drop p := by
  unfold SetTable.insertAt
  rw [Array.toList_append, Array.toList_push, Array.toList_extract, Array.toList_extract]
  simp
  exact List.take_of_length_le (by simp)
theorem rise_insert {xs : Array Nat} (h : Rise xs) {j : Nat} (hj : xs[SetTable.below xs j]? ≠ some j) : Rise (SetTable.insertAt xs (SetTable.below xs j) j) := by
  obtain ⟨h1, h2, h3⟩ := below_spec h j
  show (SetTable.insertAt xs (SetTable.below xs j) j).toList.Pairwise (· < ·)
  rw [insertAt_list]
  generalize SetTable.below xs j = p at *
  have at' : ∀ i (hi : i < xs.size), xs.getD i 0 = xs.toList[i]'(by simpa using hi) := fun i hi => by rw [Array.getD, dif_pos hi]; simp
  have gt : ∀ i, p ≤ i → i < xs.size → j < xs.getD i 0 := fun i hp hi => by
    have hle := h3 i hp hi
    by_cases c : i = p
    · subst c
      have hne : xs.getD i 0 ≠ j := fun e => hj (by rw [Array.getElem?_eq_getElem hi, ← e, Array.getD, dif_pos hi]; rfl)
      omega
    · have h4 := h3 p (Nat.le_refl _) (by omega)
      have := rise_lt h (i := p) (j := i) (by omega) hi
      omega
  refine List.pairwise_append.mpr ⟨h.sublist (List.take_sublist _ _), List.pairwise_cons.mpr ⟨fun y hy => ?_, h.sublist (List.drop_sublist _ _)⟩, fun x hx y hy => ?_⟩
  · obtain ⟨i, hi, e⟩ := List.getElem_of_mem hy
    rw [List.getElem_drop] at e
    have hi' : p + i < xs.size := by rw [List.length_drop] at hi; simp at hi; omega
    rw [← e, ← at' _ hi']
    exact gt _ (by omega) hi'
  · have xlt : x < j := by
      obtain ⟨i, hi, e⟩ := List.getElem_of_mem hx
      rw [List.getElem_take] at e
      have hi' : i < p ∧ i < xs.size := by rw [List.length_take] at hi; simp at hi; omega
      rw [← e, ← at' _ hi'.2]
      exact h2 i hi'.1
    rcases List.mem_cons.mp hy with rfl | hy
    · exact xlt
    · obtain ⟨i, hi, e⟩ := List.getElem_of_mem hy
      rw [List.getElem_drop] at e
      have hi' : p + i < xs.size := by rw [List.length_drop] at hi; simp at hi; omega
      rw [← e, ← at' _ hi']
      have := gt (p + i) (by omega) hi'
      omega
structure Tb (led : Bool) (t : SetTable) : Prop where
  rise : Rise t.place
  led : t.led = led
  dum : t.dummies = #[]
theorem tb_fresh (f m : Nat) (led : Bool) : Tb led (.fresh f m led) := ⟨List.Pairwise.nil, rfl, rfl⟩
theorem tb_standIn {led : Bool} {t : SetTable} (h : Tb led t) (n : Nat) : Tb led (t.standIn n) := ⟨by
  show (Array.range n).toList.Pairwise (· < ·)
  rw [Array.toList_range]
  exact List.pairwise_lt_range, h.led, rfl⟩
theorem tb_or {led : Bool} {t : SetTable} (h : Tb led t) (n : Nat) : Tb led (t.orStandIn n) := by
  unfold SetTable.orStandIn
  split
  · exact h
  · exact tb_standIn h n
theorem no_dum {t : SetTable} (h : t.dummies = #[]) (j : Nat) : SetTable.has t.dummies j = false := by
  rw [h]
  unfold SetTable.has
  rfl
theorem probe_empty {t : SetTable} (hd : t.dummies = #[]) (hashAt : Nat → Int) (h : Int) : ∀ (fuel : Nat) (p : SetTable.Probe) (j : Nat) (d : Option Nat), p.dummy = none → SetTable.probe.go t hashAt h fuel p = some (.empty j d) → d = none ∧ t.slot j = .empty
  | 0, p, j, d, _, e => by unfold SetTable.probe.go at e; cases e
  | fuel + 1, p, j, d, hp, e => by
    unfold SetTable.probe.go at e
    have adv : ∀ q : SetTable.Probe, (t.advance q).dummy = q.dummy := fun q => by unfold SetTable.advance; split <;> rfl
    cases c : t.slot p.j with
    | empty =>
      rw [c] at e
      simp only [Option.some.injEq, SetTable.Met.empty.injEq] at e
      obtain ⟨rfl, rfl⟩ := e
      exact ⟨hp, c⟩
    | dummy =>
      exfalso
      unfold SetTable.slot at c
      simp only [no_dum hd] at c
      split at c <;> cases c
    | live i =>
      rw [c] at e
      simp only at e
      split at e
      · cases e
      · exact probe_empty hd hashAt h fuel _ j d (by rw [adv]; exact hp) e
theorem tb_put {led : Bool} {t : SetTable} (h : Tb led t) {j : Nat} (hj : t.slot j = .empty) : Tb led (t.put j).1 := by
  refine ⟨rise_insert h.rise fun e => ?_, h.led, ?_⟩
  · unfold SetTable.slot at hj
    simp only [e, beq_self_eq_true, if_true] at hj
    cases hj
  · show (if SetTable.has t.dummies j then _ else t.dummies) = #[]
    rw [no_dum h.dum]
    exact h.dum
theorem tb_layNew {led : Bool} {t : SetTable} (h : Tb led t) (es : Array (Int × Value)) (k : Int) (x : Value) : Tb led (layNew t es k x).2.1 ∧ (layNew t es k x).2.2.1 = false := by
  unfold layNew
  cases c : t.freeSlot k with
  | none => exact ⟨tb_standIn h _, rfl⟩
  | some p =>
    obtain ⟨slot, wd⟩ := p
    unfold SetTable.freeSlot at c
    cases c2 : t.probe (fun _ => k + 1) k (t.probeStart k) with
    | none => rw [c2] at c; cases c
    | some m =>
      rw [c2] at c
      cases m with
      | candidate j i nx => cases c
      | empty j d =>
        obtain ⟨rfl, he⟩ := probe_empty h.dum _ _ _ _ _ _ rfl c2
        simp only [Option.some.injEq, Prod.mk.injEq] at c
        obtain ⟨rfl, rfl⟩ := c
        exact ⟨tb_or (tb_put h he) _, rfl⟩
theorem laid_rise {mask finger moves : Nat} {led plain : Bool} {hs : Array Int} {t : SetTable} {o : Array Nat} (e : SetTable.laid mask finger moves led plain hs = some (t, o)) : Tb led t := by
  unfold SetTable.laid at e
  cases c : SetTable.layClean mask hs with
  | none => rw [c] at e; cases e
  | some owner =>
    rw [c] at e
    simp only [Option.bind_eq_bind, Option.bind_some, Option.pure_def, Option.some.injEq, Prod.mk.injEq] at e
    obtain ⟨rfl, rfl⟩ := e
    refine ⟨?_, rfl, rfl⟩
    show List.Pairwise (· < ·) (List.map (fun x : Nat × Nat => x.1) ((List.range (mask + 1)).filterMap fun j => (owner.getD j none).map (j, ·)))
    have : ∀ l : List Nat, ((l.filterMap fun j => (owner.getD j none).map (j, ·)).map (·.1)).Sublist l := fun l => by
      induction l with
      | nil => exact List.Sublist.refl _
      | cons a l ih =>
        rw [List.filterMap_cons]
        cases c3 : owner.getD a none with
        | none => exact .cons _ ih
        | some v => exact .cons_cons _ ih
    exact List.pairwise_lt_range.sublist (this _)
theorem tb_relay {led : Bool} {t : SetTable} (h : Tb led t) (es : Array (Int × Value)) (n : Nat) : Tb led (relayAll t es n).2.1 := by
  unfold relayAll
  cases c : t.relaid (es.map (·.1)) n with
  | none => exact tb_standIn h _
  | some p =>
    obtain ⟨t', o⟩ := p
    have := laid_rise c
    rw [h.led] at this
    simp only
    split
    · exact this
    · exact tb_standIn h _
theorem pick_go {α : Type} (next : Nat → Nat) : ∀ (fuel k : Nat) (left : List α) (out : Array α), left.length = fuel → (pickOrder.go next fuel k left out).toList.Perm (out.toList ++ left)
  | 0, k, left, out, h => by
    unfold pickOrder.go
    rw [List.length_eq_zero_iff.mp h, List.append_nil]
  | fuel + 1, k, left, out, h => by
    unfold pickOrder.go
    have hlt : next k % left.length < left.length := Nat.mod_lt _ (by omega)
    rw [List.getElem?_eq_getElem hlt]
    simp only
    refine (pick_go next fuel (k + 1) (left.eraseIdx (next k % left.length)) (out.push left[next k % left.length]) (by rw [List.length_eraseIdx_of_lt hlt]; omega)).trans ?_
    rw [Array.toList_push, List.append_assoc, List.singleton_append]
    refine List.Perm.append_left _ ?_
    generalize next k % left.length = i at hlt
    have e : left = left.take i ++ left[i] :: left.drop (i + 1) := by rw [List.getElem_cons_drop, List.take_append_drop]
    conv => rhs; rw [e]
    rw [List.eraseIdx_eq_take_drop_succ]
    exact (List.perm_middle).symm
theorem pick_perm {α : Type} (next : Nat → Nat) (xs : Array α) : (pickOrder next xs).toList.Perm xs.toList := by
  have := pick_go next xs.size 0 xs.toList #[] (by simp)
  rw [show (#[] : Array α).toList = [] from rfl, List.nil_append] at this
  exact this
section
variable {P : Program} {w : World} {T : Type} [DecidableEq T] {knd : KeyKind P w T} {A : Around} {E : Value → Shared → Prop} {s : Shared} {led : Bool}
def SetT (knd : KeyKind P w T) (led : Bool) (h : Heap) (a : Addr) (S : T → Bool) (n : Nat) : Prop :=
  ∃ o es ep t, h.get? a = some o ∧ o.ExactSet ∧ o.data = .set es ep t ∧ (ElemsOf knd es.toList ∧ ∀ k, S k = true ↔ ∃ e ∈ es.toList, knd.is k e.2 = true) ∧ (es.size < scanBound ∧ t.fits es.size = true ∧ es.size = n) ∧ Tb led t ∧ es.toList.Pairwise fun x y => ∀ k, knd.is k x.2 = true → knd.is k y.2 = false
theorem SetT.kept {h h' : Heap} {a : Addr} {S : T → Bool} {n : Nat} (x : SetT knd led h a S n) (k : ∀ o, h.get? a = some o → h'.get? a = some o) : SetT knd led h' a S n :=
  let ⟨o, es, ep, t, e, r⟩ := x; ⟨o, es, ep, t, k o e, r⟩
theorem SetT.congr {h : Heap} {a : Addr} {S S' : T → Bool} {n n' : Nat} (x : SetT knd led h a S n) (e : ∀ k, S k = S' k) (en : n = n') : SetT knd led h a S' n' := by
  have : S = S' := funext e
  subst this; subst en; exact x
theorem tb_plain {t : SetTable} (h : Tb led t) : Tb led { t with plain := false } := ⟨h.rise, h.led, h.dum⟩
theorem apart_perm {l l' : List (Int × Value)} (h : l.Pairwise fun x y => ∀ k, knd.is k x.2 = true → knd.is k y.2 = false) (p : l'.Perm l) : l'.Pairwise fun x y => ∀ k, knd.is k x.2 = true → knd.is k y.2 = false :=
  p.symm.pairwise h fun {x y} z k hk => by
    cases c : knd.is k x.2 with
    | false => rfl
    | true => rw [z k c] at hk; cases hk
theorem setT_put {h : Heap} {a : Addr} {o : Obj} {es : Array (Int × Value)} {ep : Nat} {t : SetTable} (ho : h.get? a = some o) (hx : o.ExactSet) (hd : o.data = .set es ep t) {fs : Array (Int × Value)} {u : SetTable} {S : T → Bool}
    (h1 : ElemsOf knd fs.toList) (h2 : ∀ k, S k = true ↔ ∃ e ∈ fs.toList, knd.is k e.2 = true) (h3 : fs.size < scanBound) (h4 : u.fits fs.size = true) (tb : Tb led u) (ap : fs.toList.Pairwise fun x y => ∀ k, knd.is k x.2 = true → knd.is k y.2 = false) :
    (h.update a (Obj.putSet fs u)).get? a = some { o with data := .set fs (ep + 1) u } ∧ SetT knd led (h.update a (Obj.putSet fs u)) a S fs.size :=
  let z := (SetOf_store (knd := knd) (S' := S) ho hx hd h1 h2 h3 h4).1
  ⟨z, _, fs, ep + 1, u, z, hx, rfl, ⟨h1, h2⟩, ⟨h3, h4, rfl⟩, tb, ap⟩
theorem set_tail {g : Bool → Sem Unit} (hg : ∀ (b : Bool) (s1 : Shared) (R : Unit → Shared → Prop), R () s1 → wpAny (model P w) A (g b) R E s1) {a : Addr} {o : Obj} {es : Array (Int × Value)} {ep : Nat} {t : SetTable}
    (ho : s.heap.get? a = some o) (hx : o.ExactSet) (hd : o.data = .set es ep t) {fs : Array (Int × Value)} {u : SetTable} {S : T → Bool} (h1 : ElemsOf knd fs.toList) (h2 : ∀ k, S k = true ↔ ∃ e ∈ fs.toList, knd.is k e.2 = true)
    (h3 : fs.size < scanBound) (h4 : u.fits fs.size = true) (tb : Tb led u) (ap : fs.toList.Pairwise fun x y => ∀ k, knd.is k x.2 = true → knd.is k y.2 = false) {wd : Bool} {R : Option Bool → Shared → Prop}
    (h : ∀ h', Heap.SameBut a s.heap h' → SetT knd led h' a S fs.size → R (some true) { s with heap := h' }) :
    wpAny (model P w) A (do
        storeSet a fs u
        if (!wd && u.tooFull) = true then do
            g (relayAll u fs (SetTable.grown fs.size)).2.2
            storeSet a (relayAll u fs (SetTable.grown fs.size)).1 (relayAll u fs (SetTable.grown fs.size)).2.1
            pure (some true)
          else pure (some true)) R E s := by
  refine wpAny_bind (wpAny_storeSet_of ho hd ?_ (fits_of_scanBound h3))
  obtain ⟨o1, x1⟩ := setT_put (S := S) ho hx hd h1 h2 h3 h4 tb ap
  have b1 := Heap.SameBut.update s.heap a (Obj.putSet fs u)
  split
  · have p := relayAll_perm u fs (SetTable.grown fs.size)
    have f := relayAll_fits u fs (SetTable.grown fs.size)
    have tb2 := tb_relay tb fs (SetTable.grown fs.size)
    generalize relayAll u fs (SetTable.grown fs.size) = Z at p f tb2 ⊢
    obtain ⟨gs, v, gave⟩ := Z
    dsimp only at p f tb2 ⊢
    have sz : gs.size = fs.size := by rw [← Array.length_toList, p.length_eq, Array.length_toList]
    have i3 : gs.size < scanBound := by rw [sz]; exact h3
    refine wpAny_bind (hg _ _ _ (wpAny_bind (wpAny_storeSet_of o1 rfl ?_ (fits_of_scanBound i3))))
    obtain ⟨_, x2⟩ := setT_put (knd := knd) (S := S) o1 hx rfl (h1.perm p) (fun k' => (h2 k').trans ⟨fun ⟨e, m, q⟩ => ⟨e, p.mem_iff.mpr m, q⟩, fun ⟨e, m, q⟩ => ⟨e, p.mem_iff.mp m, q⟩⟩) i3 f tb2 (apart_perm ap p)
    rw [sz] at x2
    exact wpAny_pure (h _ (b1.trans (Heap.SameBut.update _ a _)) x2)
  · exact wpAny_pure (h _ b1 x1)
theorem set_add {a : Addr} {S : T → Bool} {n : Nat} {k : T} {x : Value} {Q : Bool → Shared → Prop} (hk : knd.is k x = true) (hs : x.scannable = true) (x0 : SetT knd led s.heap a S n) (room : n + 1 < scanBound)
    (h : ∀ h', Heap.SameBut a s.heap h' → SetT knd led h' a (fun k' => S k' || decide (k' = k)) (if S k then n else n + 1) → Q (!S k) { s with heap := h' }) : wpAny (model P w) A (setAddHashed a x (knd.hash k)) Q E s := by
  obtain ⟨o, es, ep, t, ho, hx, hd, ⟨h1, h2⟩, ⟨h3, h4, hn⟩, tb, ap⟩ := id x0
  unfold setAddHashed setAddHashedIn
  refine wpAny_holding (wpAny_bind (wpAny_setState_of ho hd h4 ?_))
  dsimp only
  rw [byScan_of hs h3 h1]
  simp only [↓reduceIte]
  unfold setAddByScan
  refine wpAny_bind (wpAny_bind (wpAny_rule (wpAny_bind (wpAny_setScan_of hk ho hd h4 h1 ?_))))
  cases c : List.findIdx? (fun e => knd.is k e.2) es.toList with
  | some j =>
    dsimp only
    obtain ⟨hj, hp, _⟩ := List.findIdx?_eq_some_iff_getElem.mp c
    have sk : S k = true := (h2 k).mpr ⟨_, List.getElem_mem hj, hp⟩
    have z := h s.heap (Heap.SameBut.refl a s.heap) (x0.congr (fun k' => by
      cases e : S k' with
      | true => rfl
      | false => rw [Bool.false_or, eq_comm, decide_eq_false_iff_not]; intro q; rw [q, sk] at e; cases e) (by rw [sk]; rfl))
    rw [sk] at z
    refine wpAny_pure (wpAny_pure ?_)
    cases s; exact z
  | none =>
    dsimp only
    have no := List.findIdx?_eq_none_iff.mp c
    have sk : S k = false := Bool.eq_false_iff.mpr fun z => by
      obtain ⟨e, m, q⟩ := (h2 k).mp z
      rw [no e m] at q; cases q
    have lp := layNew_perm t es (knd.hash k) x
    have lf := layNew_fits t es (knd.hash k) x
    obtain ⟨lt, ld⟩ := tb_layNew tb es (knd.hash k) x
    generalize layNew t es (knd.hash k) x = Z at lp lf lt ld ⊢
    obtain ⟨fs, u, wd, gave⟩ := Z
    dsimp only at lp lf lt ld ⊢
    rw [Array.toList_push] at lp
    have i1 : ElemsOf knd fs.toList := (h1.push hk hs).perm lp
    have i2 : ∀ k', (S k' || decide (k' = k)) = true ↔ ∃ e ∈ fs.toList, knd.is k' e.2 = true := mem_push_iff hk h2 lp
    have sz : fs.size = n + 1 := by rw [← Array.length_toList, lp.length_eq, List.length_append, Array.length_toList, hn]; rfl
    have i3 : fs.size < scanBound := by rw [sz]; exact room
    have ip : fs.toList.Pairwise fun x y => ∀ k, knd.is k x.2 = true → knd.is k y.2 = false := by
      refine apart_perm (List.pairwise_append.mpr ⟨ap, List.pairwise_singleton _ _, fun y hy z hz k' hk' => ?_⟩) lp
      rw [List.mem_singleton.mp hz]
      cases q : knd.is k' x with
      | false => rfl
      | true =>
        have e := knd.inj x k' k q hk
        rw [e, no y hy] at hk'
        cases hk'
    have fin : ∀ h', Heap.SameBut a s.heap h' → SetT knd led h' a (fun k' => S k' || decide (k' = k)) fs.size → Q true { s with heap := h' } := fun h' b z => by
      have := h h' b
      rw [sk] at this
      rw [sz] at z
      exact this z
    refine wpAny_bind ?_
    have gw : ∀ (b : Bool) (s1 : Shared) (R : Unit → Shared → Prop), R () s1 → wpAny (model P w) A (match b with | true => rule "set.scan.the-table-gave-way" | false => pure ()) R E s1 := fun b s1 R q => by cases b <;> first | exact wpAny_pure q | exact wpAny_rule q
    refine gw _ _ _ ?_
    split
    · refine wpAny_bind ?_
      rw [hashByValue_scannable 8 hs]
      refine wpAny_pure (set_tail (led := led) gw ho hx hd i1 i2 i3 ?_ ?_ ip fun h' b z => ?_)
      · split
        · exact lf
        · exact SetTable.fits_plain_off lf
      · split
        · exact lt
        · exact tb_plain lt
      · dsimp only
        exact wpAny_pure (fin h' b z)
    · refine wpAny_bind (wpAny_pure ?_)
      simp only [↓reduceIte]
      refine set_tail (led := led) gw ho hx hd i1 i2 i3 lf lt ip fun h' b z => ?_
      dsimp only
      exact wpAny_pure (fin h' b z)
end
theorem slot_setit_next : Slot "set_iterator" "__next__" "set_iterator.__next__" :=
  .of (owner := "set_iterator") (n := "__next__") (by rw [typeLookup_type, builtinLookup_eq_fast]; kernel_rfl) (by decide +kernel) (by decide +kernel) (by decide +kernel) (by first | exact .inl (by decide +kernel) | exact .inr (by decide +kernel)) (by rw [isSubtype_type]; kernel_rfl)
theorem entry_setit_next : entryFor table "set_iterator.__next__" = some Builtin.«set_iterator.__next__» := entryFor_of_fast (by kernel_rfl)
theorem args_setit_next (v : Value) : argsOk "set_iterator.__next__" ⟨[v], []⟩ := by unfold argsOk; kernel_rfl
theorem entry_set_iter : entryFor table "set.__iter__" = some Builtin.«frozenset.__iter__» := entryFor_alias (id' := "frozenset.__iter__") (by kernel_rfl) rfl (by decide +kernel) (by kernel_rfl)
def byT (w : World) : Bool := w.params.followText "set-order"
inductive Way where
  | text
  | drawn (pt : Addr) (pl : List Nat)
  | place
def ordOf (w : World) (a : Addr) (es : Array (Int × Value)) (ep : Nat) : Way → List (Int × Value)
  | .text => (pickOrder (w.params.setOrder a ep) es).toList
  | .drawn _ pl => pl.filterMap fun i => es[i]?
  | .place => es.toList
def WayOk (w : World) (es : Array (Int × Value)) (t : SetTable) : Way → Prop
  | .text => byT w = true
  | .drawn _ pl => byT w = false ∧ (!t.plain && decide (es.size > 1)) = true ∧ pl.Perm (List.range es.size)
  | .place => byT w = false ∧ (!t.plain && decide (es.size > 1)) = false
def FirstIs (h : Heap) (t : SetTable) (i : Nat) (v : Value) : Way → Prop
  | .text => v = .int 0 0
  | .drawn pt pl => v = .ref pt ∧ ∃ o n, h.get? pt = some o ∧ o.data = .seq (pl.map fun j : Nat => rawInt j).toArray n
  | .place => ∃ j : Nat, v = .int j 0 ∧ SetTable.below t.place j = i
structure SetSt (w : World) (it a : Addr) (es : Array (Int × Value)) (ep : Nat) (t : SetTable) (y : Way) (i : Nat) (h : Heap) : Prop where
  st : ∃ o, h.get? a = some o ∧ o.data = .set es ep t
  it : ∃ o v, h.get? it = some o ∧ o.cls = .type "set_iterator" ∧ o.data = .fields #[v, .int i 0, .ref a, .int es.size 0, .int ep 0] ∧ FirstIs h t i v y
theorem fm_map {α β : Type} {f : α → Option β} {g : α → β} : ∀ (l : List α), (∀ x ∈ l, f x = some (g x)) → l.filterMap f = l.map g
  | [], _ => rfl
  | x :: l, h => by rw [List.filterMap_cons, h x List.mem_cons_self, List.map_cons, fm_map l fun y hy => h y (List.mem_cons_of_mem _ hy)]
section
variable {P : Program} {w : World} {A : Around} {E : Value → Shared → Prop} {s : Shared}
theorem ord_perm {a : Addr} {es : Array (Int × Value)} {ep : Nat} {t : SetTable} {y : Way} (h : WayOk w es t y) : (ordOf w a es ep y).Perm es.toList := by
  cases y with
  | text => exact pick_perm _ _
  | place => exact .refl _
  | drawn pt pl =>
    have e : es.toList = (List.range es.size).filterMap fun i => es[i]? := by
      refine List.ext_getElem? fun i => ?_
      have : ((List.range es.size).filterMap fun i => es[i]?) = (List.range es.size).map fun i => es.getD i default := by
        refine fm_map _ fun i hi => ?_
        rw [Array.getElem?_eq_getElem (List.mem_range.mp hi), Array.getD, dif_pos (List.mem_range.mp hi)]
        rfl
      rw [this, List.getElem?_map]
      by_cases hi : i < es.size
      · rw [List.getElem?_range hi, Array.getElem?_toList, Array.getElem?_eq_getElem hi, Option.map_some, Array.getD, dif_pos hi]
        rfl
      · rw [List.getElem?_eq_none (by simpa using hi), List.getElem?_eq_none (by simpa using hi)]
        rfl
    rw [e]
    exact h.2.2.filterMap _
theorem choose_any {M : Model} {A : Around} {src : Source} {n : Nat} {Q : Nat → Shared → Prop} {E : Value → Shared → Prop} {s : Shared} (hn : n ≠ 0) (h : ∀ i d, i < n → Q i { s with drawn := d }) : wpAny M A (choose src n) Q E s :=
  fun Γ p hΓ => ⟨hn, h _ _ (Nat.mod_lt _ (Nat.pos_of_ne_zero hn))⟩
theorem draw_any {M : Model} {A : Around} {α : Type} {E : Value → Shared → Prop} : ∀ (n : Nat) (xs : List α) (s : Shared) (Q : List α → Shared → Prop), xs.length = n → (∀ ys d, ys.Perm xs → Q ys { s with drawn := d }) → wpAny M A (drawOrder n xs) Q E s
  | 0, [], s, Q, _, h => by
    unfold drawOrder
    exact wpAny_pure (h [] s.drawn (.refl _))
  | n + 1, x :: xs, s, Q, hn, h => by
    unfold drawOrder
    refine wpAny_bind (choose_any (by simp) fun i d hi => ?_)
    rw [List.getElem?_eq_getElem hi]
    simp only
    refine wpAny_bind (draw_any n _ _ _ (by rw [List.length_eraseIdx_of_lt hi]; omega) fun ys d' p => ?_)
    refine wpAny_pure (h _ d' ?_)
    generalize hl : x :: xs = l at hi p ⊢
    have e : l = l.take i ++ l[i] :: l.drop (i + 1) := by rw [List.getElem_cons_drop, List.take_append_drop]
    rw [List.eraseIdx_eq_take_drop_succ] at p
    conv => rhs; rw [e]
    exact (List.Perm.cons _ p).trans List.perm_middle.symm
theorem SetSt.ty {it a : Addr} {es : Array (Int × Value)} {ep : Nat} {t : SetTable} {y : Way} {i : Nat} (x : SetSt w it a es ep t y i s.heap) : s.TypeIs (.ref it) "set_iterator" := let ⟨o, _, ho, hc, _⟩ := x.it; ⟨o, ho, hc⟩
theorem upd_fields {h : Heap} {a : Addr} {o : Obj} {vs : Array Value} (ho : h.get? a = some o) (hd : o.data = .fields vs) (i : Nat) (x : Value) : ∃ o', (h.update a (Obj.mapFields (·.setIfInBounds i x))).get? a = some o' ∧ o'.cls = o.cls ∧ o'.data = .fields (vs.setIfInBounds i x) :=
  ⟨_, Heap.get?_update_self _ ho (Obj.isFreed_of_fields (Obj.data_mapFields hd _)), Obj.cls_mapFields .., by rw [Obj.data_mapFields hd]⟩
theorem w_ite {M : Model} {α : Type} {c : Prop} [Decidable c] {x y : Sem α} {Q : α → Shared → Prop} (hc : c) (h : wpAny M A x Q E s) : wpAny M A (if c then x else y) Q E s := by rw [if_pos hc]; exact h
theorem w_nit {M : Model} {α : Type} {c : Prop} [Decidable c] {x y : Sem α} {Q : α → Shared → Prop} (hc : ¬ c) (h : wpAny M A y Q E s) : wpAny M A (if c then x else y) Q E s := by rw [if_neg hc]; exact h
theorem setNext_text {a : Addr} {o : Obj} {es : Array (Int × Value)} {ep j i : Nat} {t : SetTable} {Q : Option (Value × Nat) → Shared → Prop} (ho : s.heap.get? a = some o) (hd : o.data = .set es ep t) (hf : t.fits es.size = true) (hb : byT w = true)
    (q : Q (((ordOf w a es ep .text)[i]?).map fun e => (e.2, j)) s) : wpAny (model P w) A (setNext a j i ep) Q E s := by
  unfold setNext
  refine wpAny_bind (wpAny_setState_of ho hd hf ?_)
  dsimp only
  unfold setsByText
  refine wpAny_bind (wpAny_bind (wpAny_askSetting (wpAny_pure ?_)))
  refine w_ite hb (w_nit (by simp) ?_)
  unfold setWalk
  refine wpAny_bind (wpAny_bind (wpAny_setState_of ho hd hf ?_))
  dsimp only
  unfold setsByText
  refine wpAny_bind (wpAny_bind (wpAny_askSetting (wpAny_pure ?_)))
  refine w_ite hb ?_
  refine wpAny_bind (wpAny_askSetting (wpAny_pure (wpAny_pure ?_)))
  have e : (ordOf w a es ep .text)[i]? = (pickOrder (w.params.setOrder a ep) es)[i]? := by show (pickOrder (w.params.setOrder a ep) es).toList[i]? = _; rw [Array.getElem?_toList]
  rw [e] at q
  exact q
theorem setNext_place {a : Addr} {o : Obj} {es : Array (Int × Value)} {ep j i : Nat} {t : SetTable} {Q : Option (Value × Nat) → Shared → Prop} (ho : s.heap.get? a = some o) (hd : o.data = .set es ep t) (hf : t.fits es.size = true) (hb : byT w = false) (hp : (!t.plain && decide (es.size > 1)) = false) (tb : Tb (!byT w) t)
    (q : Q (match es[SetTable.below t.place j]?, t.place[SetTable.below t.place j]? with | some (_, x), some j => some (x, j + 1) | _, _ => none) s) : wpAny (model P w) A (setNext a j i ep) Q E s := by
  unfold setNext
  refine wpAny_bind (wpAny_setState_of ho hd hf ?_)
  dsimp only
  unfold setsByText
  refine wpAny_bind (wpAny_bind (wpAny_askSetting (wpAny_pure ?_)))
  refine w_nit (fun z => by rw [show byT w = true from z] at hb; cases hb) (w_nit (fun z => by rw [show (!t.plain && decide (es.size > 1)) = true from z] at hp; cases hp) ?_)
  have hl : t.led = true := by rw [tb.led, hb]; rfl
  refine wpAny_bind ?_
  refine w_nit (c := (!t.led && !es.isEmpty) = true) (by rw [hl]; simp) (wpAny_pure (wpAny_pure q))
theorem set_item {it a : Addr} {es : Array (Int × Value)} {ep : Nat} {t : SetTable} {y : Way} {i : Nat} {k : Int} {x : Value} {Q : Option Value → Shared → Prop} (hy : WayOk w es t y) (tb : Tb (!byT w) t) (hf : t.fits es.size = true) (st : SetSt w it a es ep t y i s.heap) (hne : a ≠ it) (hpt : ∀ pt pl, y = .drawn pt pl → pt ≠ it) (hx : (ordOf w a es ep y)[i]? = some (k, x))
    (q : ∀ h', SetSt w it a es ep t y (i + 1) h' → Heap.SameBut it s.heap h' → Q (some x) { s with heap := h' }) : wpAny (model P w) A (pyNext (.ref it)) Q E s := by
  have ty := st.ty
  obtain ⟨⟨oa, ha, da⟩, oi, v, hi, ci, di, fi⟩ := st
  unfold pyNext
  refine wpAny_bind (wpAny_attempt (wpAny_callSpecial?_slot (name := Str.ofString "__next__") ty slot_setit_next (wpAny_call_entry slot_setit_next ty entry_setit_next ?_ (args_setit_next _))))
  unfold Builtin.«set_iterator.__next__»
  refine wpAny_bind (wpAny_pure ?_)
  refine wpAny_bind (wpAny_fieldsOf hi di ?_)
  dsimp only
  refine wpAny_bind (wpAny_setEntries_of ha da hf ?_)
  rw [if_neg (by simp)]
  simp only [Int.toNat_natCast]
  cases y with
  | text =>
    have fv : v = .int 0 0 := fi
    subst fv
    dsimp only
    refine wpAny_bind (setNext_text ha da hf hy ?_)
    rw [hx]
    dsimp only [Option.map_some]
    refine wpAny_bind (wpAny_setField hi di (by simp) ?_)
    obtain ⟨o1, h1, c1, d1⟩ := upd_fields hi di 0 (rawInt ((0 : Int).toNat : Int))
    refine wpAny_bind (wpAny_setField h1 d1 (by simp) ?_)
    obtain ⟨o2, h2, c2, d2⟩ := upd_fields h1 d1 1 (rawInt ((i : Int) + 1))
    have sb := (Heap.SameBut.update s.heap it (Obj.mapFields (·.setIfInBounds 0 (rawInt ((0 : Int).toNat : Int))))).trans (Heap.SameBut.update _ it (Obj.mapFields (·.setIfInBounds 1 (rawInt ((i : Int) + 1)))))
    refine wpAny_pure ⟨x, rfl, wpAny_pure (q _ ⟨⟨oa, by rw [sb.2 a hne]; exact ha, da⟩, o2, .int 0 0, h2, by rw [c2, c1, ci], by rw [d2]; rfl, rfl⟩ sb)⟩
  | drawn pt pl =>
    obtain ⟨fv, op, n, hp, dp⟩ := fi
    subst fv
    dsimp only
    refine wpAny_bind (wpAny_seqItems hp dp ?_)
    dsimp only
    obtain ⟨j, hj, hjx⟩ : ∃ j, pl[i]? = some j ∧ es[j]? = some (k, x) := by
      have e : ordOf w a es ep (.drawn pt pl) = pl.map fun j => es.getD j default := fm_map _ fun j hj => by
        have := List.mem_range.mp (hy.2.2.mem_iff.mp hj)
        rw [Array.getElem?_eq_getElem this, Array.getD, dif_pos this]
        rfl
      rw [e, List.getElem?_map] at hx
      obtain ⟨j, hj, ej⟩ := Option.map_eq_some_iff.mp hx
      have hlt := List.mem_range.mp (hy.2.2.mem_iff.mp (List.mem_of_getElem? hj))
      refine ⟨j, hj, ?_⟩
      rw [Array.getElem?_eq_getElem hlt]
      rw [Array.getD, dif_pos hlt] at ej
      exact congrArg some ej
    have hj' : (pl.map fun j : Nat => rawInt j).toArray[i]? = some (.int j 0) := by
      rw [List.getElem?_toArray, List.getElem?_map, hj]
      rfl
    rw [hj']
    dsimp only
    unfold setNextDrawn
    refine wpAny_bind (wpAny_bind (wpAny_setState_of ha da hf ?_))
    dsimp only
    refine w_nit (by simp) ?_
    simp only [Int.toNat_natCast, hjx]
    refine wpAny_pure ?_
    refine wpAny_bind (wpAny_setField hi di (by simp) ?_)
    obtain ⟨o2, h2, c2, d2⟩ := upd_fields hi di 1 (rawInt ((i : Int) + 1))
    have sb := Heap.SameBut.update s.heap it (Obj.mapFields (·.setIfInBounds 1 (rawInt ((i : Int) + 1))))
    refine wpAny_pure ⟨x, rfl, wpAny_pure (q _ ⟨⟨oa, by rw [sb.2 a hne]; exact ha, da⟩, o2, .ref pt, h2, by rw [c2, ci], by rw [d2]; rfl, rfl, op, n, by rw [sb.2 pt (hpt pt pl rfl)]; exact hp, dp⟩ sb)⟩
  | place =>
    obtain ⟨j, fv, fb⟩ := fi
    subst fv
    dsimp only
    refine wpAny_bind (setNext_place ha da hf hy.1 hy.2 tb ?_)
    have hx' : es[i]? = some (k, x) := by
      have : es.toList[i]? = some (k, x) := hx
      rw [Array.getElem?_toList] at this
      exact this
    have hlt : i < es.size := (Array.getElem?_eq_some_iff.mp hx').1
    have hpz : t.place.size = es.size := by
      simp only [SetTable.fits, Bool.and_eq_true, beq_iff_eq] at hf
      exact hf.1
    have hpl : t.place[i]? = some (t.place.getD i 0) := by rw [Array.getElem?_eq_getElem (by omega), Array.getD, dif_pos (by omega)]; rfl
    rw [Int.toNat_natCast, fb, hx', hpl]
    dsimp only
    refine wpAny_bind (wpAny_setField hi di (by simp) ?_)
    obtain ⟨o1, h1, c1, d1⟩ := upd_fields hi di 0 (rawInt ((t.place.getD i 0 + 1 : Nat) : Int))
    refine wpAny_bind (wpAny_setField h1 d1 (by simp) ?_)
    obtain ⟨o2, h2, c2, d2⟩ := upd_fields h1 d1 1 (rawInt ((i : Int) + 1))
    have sb := (Heap.SameBut.update s.heap it (Obj.mapFields (·.setIfInBounds 0 (rawInt ((t.place.getD i 0 + 1 : Nat) : Int))))).trans (Heap.SameBut.update _ it (Obj.mapFields (·.setIfInBounds 1 (rawInt ((i : Int) + 1)))))
    refine wpAny_pure ⟨x, rfl, wpAny_pure (q _ ⟨⟨oa, by rw [sb.2 a hne]; exact ha, da⟩, o2, _, h2, by rw [c2, c1, ci], by rw [d2]; rfl, t.place.getD i 0 + 1, rfl, below_next tb.rise (by omega)⟩ sb)⟩
theorem set_stop {it : Addr} {h1 : Heap} {Q : Option Value → Shared → Prop} {R : Fin → Shared → Prop} (hh : A.handled = none) (e1 : Heap.ExtBut it s.heap h1) (q : ∀ h', Heap.ExtBut it s.heap h' → Q none { s with heap := h' }) :
    wpAny (model P w) A.in1 (newExc (.type "StopIteration") [] >>= raiseNew) R (fun e s' => wpAny (model P w) A (isInstance e (.type "StopIteration") >>= fun b => if b = true then pure none else throw e) Q E s') { s with heap := h1 } := by
  refine wpAny_bind ?_; simp only [newExc, newTuple]
  refine wpAny_bind (wpAny_newObj_type (wpAny_bind (m := firstArgMember _ _) (wpAny_of_eq (a := Value.none) (by first | rfl | (simp only [firstArgMember]; rfl)) (wpAny_newObj_type ?_ (by size_fits)))) (by size_fits))
  simp only [raiseNew]; refine wpAny_bind (wpAny_handled ?_)
  rw [show A.in1.handled = none from hh]; refine wpAny_bind (wpAny_pure (wpAny_throw ?_))
  refine wpAny_bind (wpAny_isInstance (s := { s with heap := _ }) (T := "StopIteration") (b := true) ⟨_, Heap.get?_push_size _ rfl, rfl⟩ isSubtype_stop ?_); exact wpAny_pure (q _ ((e1.push _).push _))
theorem set_end {it a : Addr} {es : Array (Int × Value)} {ep : Nat} {t : SetTable} {y : Way} {Q : Option Value → Shared → Prop} (hh : A.handled = none) (hy : WayOk w es t y) (tb : Tb (!byT w) t) (hf : t.fits es.size = true) (st : SetSt w it a es ep t y es.size s.heap)
    (q : ∀ h', Heap.ExtBut it s.heap h' → Q none { s with heap := h' }) : wpAny (model P w) A (pyNext (.ref it)) Q E s := by
  have ty := st.ty
  obtain ⟨⟨oa, ha, da⟩, oi, v, hi, ci, di, fi⟩ := st
  unfold pyNext
  refine wpAny_bind (wpAny_attempt (wpAny_callSpecial?_slot (name := Str.ofString "__next__") ty slot_setit_next (wpAny_call_entry slot_setit_next ty entry_setit_next ?_ (args_setit_next _))))
  unfold Builtin.«set_iterator.__next__»
  refine wpAny_bind (wpAny_pure ?_)
  refine wpAny_bind (wpAny_fieldsOf hi di ?_)
  dsimp only
  refine wpAny_bind (wpAny_setEntries_of ha da hf ?_)
  rw [if_neg (by simp)]
  simp only [Int.toNat_natCast]
  have hpz : t.place.size = es.size := by
    simp only [SetTable.fits, Bool.and_eq_true, beq_iff_eq] at hf
    exact hf.1
  cases y with
  | text =>
    have fv : v = .int 0 0 := fi
    subst fv
    dsimp only
    refine wpAny_bind (setNext_text ha da hf hy ?_)
    rw [List.getElem?_eq_none (by rw [(ord_perm (a := a) (ep := ep) hy).length_eq]; simp)]
    dsimp only [Option.map_none]
    exact wpAny_bind (wpAny_setField hi di (by simp) (set_stop hh (Heap.SameBut.update ..).extBut q))
  | drawn pt pl =>
    obtain ⟨fv, op, n, hp, dp⟩ := fi
    subst fv
    dsimp only
    refine wpAny_bind (wpAny_seqItems hp dp ?_)
    dsimp only
    rw [Array.getElem?_eq_none (by rw [List.size_toArray, List.length_map, hy.2.2.length_eq, List.length_range]; exact Nat.le_refl _)]
    dsimp only
    show wpAny _ _ (setField (.ref it) 0 (rawInt 0) >>= fun _ => setField (.ref it) 2 Value.none >>= fun _ => (newExc (.type "StopIteration") [] >>= raiseNew)) _ _ s
    obtain ⟨o1, h1, c1, d1⟩ := upd_fields hi di 0 (rawInt 0)
    refine wpAny_bind (wpAny_setField hi di (by simp) ?_)
    refine wpAny_bind (wpAny_setField h1 d1 (by simp) ?_)
    exact set_stop (s := s) hh ((Heap.SameBut.update s.heap it _).trans (Heap.SameBut.update _ it _)).extBut q
  | place =>
    obtain ⟨j, fv, fb⟩ := fi
    subst fv
    dsimp only
    refine wpAny_bind (setNext_place ha da hf hy.1 hy.2 tb ?_)
    rw [Int.toNat_natCast, fb, Array.getElem?_eq_none (Nat.le_refl _)]
    dsimp only
    exact wpAny_bind (wpAny_setField hi di (by simp) (set_stop hh (Heap.SameBut.update ..).extBut q))
theorem SetSt.kept {it a : Addr} {es : Array (Int × Value)} {ep : Nat} {t : SetTable} {y : Way} {i : Nat} {h h' : Heap} (x : SetSt w it a es ep t y i h) (k : ∀ b o, (b = it ∨ b = a ∨ ∃ pl, y = .drawn b pl) → h.get? b = some o → h'.get? b = some o) : SetSt w it a es ep t y i h' := by
  obtain ⟨⟨oa, ha, da⟩, oi, v, hi, ci, di, fi⟩ := x
  refine ⟨⟨oa, k a oa (.inr (.inl rfl)) ha, da⟩, oi, v, k it oi (.inl rfl) hi, ci, di, ?_⟩
  cases y with
  | text => exact fi
  | place => exact fi
  | drawn pt pl =>
    obtain ⟨fv, op, n, hp, dp⟩ := fi
    exact ⟨fv, op, n, k pt op (.inr (.inr ⟨pl, rfl⟩)) hp, dp⟩
def Way.fp : Way → List Addr
  | .drawn pt _ => [pt]
  | _ => []
theorem Way.mem_fp {y : Way} {b : Addr} : (∃ pl, y = .drawn b pl) ↔ b ∈ y.fp := by
  cases y with
  | text => exact ⟨fun ⟨_, h⟩ => (nomatch h), fun h => (nomatch h)⟩
  | place => exact ⟨fun ⟨_, h⟩ => (nomatch h), fun h => (nomatch h)⟩
  | drawn pt pl =>
    constructor
    · rintro ⟨pl', h⟩
      cases h
      exact List.mem_singleton.mpr rfl
    · intro h
      rw [List.mem_singleton.mp h]
      exact ⟨pl, rfl⟩
theorem Walks.set (hh : A.handled = none) {it a : Addr} {es : Array (Int × Value)} {ep : Nat} {t : SetTable} {y : Way} (hne : a ≠ it) (hpt : ∀ pt pl, y = .drawn pt pl → pt ≠ it) (hy : WayOk w es t y) (tb : Tb (!byT w) t) (hf : t.fits es.size = true) (hself : ∀ (s : Shared) (Q : Value → Shared → Prop) (E : Value → Shared → Prop), s.TypeIs (.ref it) "set_iterator" → Q (.ref it) s → wpAny (model P w) A (pyIter (.ref it)) Q E s) :
    Walks P w A it (it :: a :: y.fp) [it] es.size (fun i v => ∃ k, (ordOf w a es ep y)[i]? = some (k, v)) (fun i h => SetSt w it a es ep t y i h) where
  sub := fun b hb => by rw [List.mem_singleton.mp hb]; exact List.mem_cons_self
  frame := fun i h h' x k => x.kept fun b o hb e => k b (by
    rcases hb with rfl | rfl | hb
    · exact List.mem_cons_self
    · exact List.mem_cons_of_mem _ List.mem_cons_self
    · exact List.mem_cons_of_mem _ (List.mem_cons_of_mem _ (Way.mem_fp.mp hb))) o e
  item := fun i s Q E hi x q => by
    have hl : i < (ordOf w a es ep y).length := by rw [(ord_perm (a := a) (ep := ep) hy).length_eq]; simpa using hi
    refine set_item hy tb hf x hne hpt (List.getElem?_eq_getElem hl) fun h' x' sb => q _ h' s.toks ⟨_, List.getElem?_eq_getElem hl⟩ x' fun b o hb e => ?_
    rw [sb.2 b fun z => hb (by rw [z]; exact List.mem_singleton.mpr rfl)]
    exact e
  done := fun s Q E x q => set_end hh hy tb hf x fun h' e1 => q h' s.toks fun b o hb e => e1 b o (fun z => hb (by rw [z]; exact List.mem_singleton.mpr rfl)) e
  self := fun i s Q E x q => hself s Q E x.ty q
end
local instance (priority := 10000) : BEq Key := instBEqOfDecidableEq
section
variable {prog : Program} {w : World} {A : Around} {E : Value → Shared → Prop} {s : Shared}
theorem set_new_led (a : Value) {Q₁ : Value → Shared → Prop}
    (h : Q₁ (.ref s.heap.objs.size) { s with heap := s.heap.push { cls := .type "set", dict := none, data := .set #[] 0 (.fresh 0 0 (!byT w)) } }) :
    codeAny (model prog w) A (.call (.builtin "set.__new__") ⟨[.type "set", a], []⟩) (wants Q₁ E) s := by
  refine codeAny_of_tree ?_
  show wpAny _ A.in1 (do checkBuiltinCall "set.__new__" ⟨[.type "set", a], []⟩; again (.builtin "set.__new__" ⟨[.type "set", a], []⟩)) _ _ s
  refine wpAny_bind (wpAny_of_eq (F.newCall_set_1 a) (wpAny_pure ⟨plainId_quiet F.plain_set_new _, codeAny_builtin F.entry_set_new ?_⟩))
  rw [Around.under_plainId F.plain_set_new _]
  unfold Builtin.«set.__new__» Builtin.Frozenset.newClass
  have hsub := sub_set_self
  obtain ⟨hp, g, d, tk, os⟩ := s
  dsimp only
  wp_walk
  refine wpAny_askSetting (wpAny_pure ?_)
  dsimp only
  simp only [newObj]
  refine wpAny_bind (wpAny_alloc (wpAny_pure ?_))
  exact wpAny_pure h
end
section
variable {P : Program} {w : World} {A : Around} {R : Result → Shared → Prop} {it : Addr} {fp wr : List Addr} {G : Array GenState → Array GenState → Prop} {n : Nat} {Pv : Nat → Value → Prop} {St : Nat → Shared → Prop}
def SetTs (P : Program) (w : World) (h : Heap) (a : Addr) (ks : List Int) : Prop := ∃ n, n ≤ ks.length ∧ SetT (intKind P w) (!byT w) h a (fun k => decide (k ∈ ks)) n
theorem SetTs.kept {P : Program} {w : World} {h h' : Heap} {a : Addr} {ks : List Int} (x : SetTs P w h a ks) (k : ∀ o, h.get? a = some o → h'.get? a = some o) : SetTs P w h' a ks := let ⟨n, l, x⟩ := x; ⟨n, l, SetT.kept x k⟩
theorem scan_int {P : Program} {w : World} {k : Int} {v : Value} (h : (intKind P w).is k v = true) : v.scannable = true := by
  obtain ⟨t, rfl⟩ := Value.isInt_shape h
  rfl
theorem set_turnsT (W : WalksS P w A.in1 it fp wr G n Pv St) (a : Addr) (ha : a ∉ fp) (ks : List Int) (hn : ks.length = n) (hv : ∀ i v, Pv i v → ∀ k, ks[i]? = some k → (intKind P w).is k v = true) (hb : n + 1 < scanBound) :
    ∀ (m i : Nat) (s : Shared), n - i = m → i ≤ n → St i s → SetTs P w s.heap a (ks.take i) → (∀ s', Moved (a :: wr) G s s' → SetTs P w s'.heap a ks → R (.ok (.ret .none)) s') →
      codeAny (model P w) A (.builtin "set.update.loop" ⟨[.ref a, .ref it], []⟩) R s := by
  have haw : a ∉ wr := fun h => ha (W.sub _ h)
  have up : ∀ b ∈ wr, b ∈ a :: wr := fun b h => List.mem_cons_of_mem _ h
  intro m
  induction m with
  | zero =>
    intro i s hm hi st x q
    obtain rfl : i = n := by omega
    rw [List.take_of_length_le (Nat.le_of_eq hn)] at x
    refine codeAny_builtin F.entry_set_update_loop ?_
    rw [Around.under_plainId F.plain_set_update_loop _]
    refine wpAny_bind (W.done s _ _ st fun s' mv => wpAny_pure (q s' (mv.mono up) (x.kept fun o e => mv.heap a _ haw e)))
  | succ m ih =>
    intro i s hm hi st x q
    have lt : i < n := by omega
    have hk : ks[i]? = some ks[i] := by simp [hn, lt]
    refine codeAny_builtin F.entry_set_update_loop ?_
    rw [Around.under_plainId F.plain_set_update_loop _]
    refine wpAny_bind (W.item i s _ _ lt st fun v s' pv st' mv => ?_)
    have is := hv i v pv _ hk
    have x' := x.kept (h' := s'.heap) fun o e => mv.heap a _ haw e
    refine wpAny_bind (m := holding [v] (setAdd a v)) (wpAny_holding ?_)
    unfold setAdd
    refine wpAny_holding (wpAny_bind ((intKind P w).pyHash (k := ks[i]) is ?_))
    obtain ⟨nn, hnn, x'⟩ := x'
    have room : nn ≤ i := Nat.le_trans hnn (by rw [List.length_take]; omega)
    refine set_add (knd := intKind P w) (s := { s' with toks := s'.toks + 1 }) is (scan_int is) x' (by omega) fun h' sb x2 => ?_
    have x3 : SetTs P w h' a (ks.take (i + 1)) := by
      refine ⟨_, ?_, SetT.congr x2 (fun k' => ?_) rfl⟩
      · have el : (ks.take (i + 1)).length = i + 1 := by rw [List.length_take]; omega
        rw [el]
        split <;> omega
      · rw [List.take_add_one, hk, Option.toList_some]
        rw [Bool.eq_iff_iff]
        simp only [Bool.or_eq_true, decide_eq_true_eq, List.mem_append, List.mem_singleton]
    refine wpAny_pure ⟨plainId_quiet F.plain_set_update_loop _, ih (i + 1) _ (by omega) lt (W.frame _ s' _ _ st' (Nat.le_succ _) fun b hb o e => ?_) x3 fun s2 mv2 x4 => ?_⟩
    · rw [sb.2 b (fun h => ha (h ▸ hb))]; exact e
    · refine q s2 (Moved.trans W.gtrans ((mv.mono up).then_heap (Nat.le_succ _) fun b o hb e => ?_) mv2) x4
      rw [sb.2 b (fun h => hb (h ▸ List.mem_cons_self))]; exact e
end
section
variable {P : Program} {w : World} {A : Around} {E : Value → Shared → Prop} {s : Shared}
set_option maxHeartbeats 3200000 in
theorem set_of_listT {l : Addr} {its : Array Value} {ks : List Int} {Q : Value → Shared → Prop} (hh : A.handled = none) (hl : s.heap.IsList l its) (hk : ks.length = its.size) (hi : ∀ (i : Nat) v k, its[i]? = some v → ks[i]? = some k → (intKind P w).is k v = true)
    (hb : its.size + 1 < scanBound)
    (h : ∀ (h' : Heap) (tk : Nat), SetTs P w h' s.heap.objs.size ks → (∀ b o, b < s.heap.objs.size → s.heap.get? b = some o → h'.get? b = some o) → Q (.ref s.heap.objs.size) { s with heap := h', toks := tk }) :
    wpAny (model P w) A (call (.type "set") [.ref l]) Q E s := by
  obtain ⟨c, tl, hmro⟩ := F.called_set.mro
  have made := F.called_set.made
  have sub := F.called_set.sub
  refine wpAny_call (codeAny_of_tree (wpAny_pure ⟨Code.quiet_builtin _ (by decide +kernel), codeAny_builtin F.entry_type_call ?_⟩))
  rw [Around.under_plain (weight_type_call_type "set" [.ref l] []) rfl]
  have a1 := F.called_set.notType
  have a2 := F.called_set.canCreate
  have a3 := F.typeCall_set_1 (.ref l)
  repeat (any_goals (first | assumption | wp_step))
  refine codeAny_mono (set_new_led (.ref l) (E := E) (Q₁ := fun obj s1 => obj = .ref s.heap.objs.size ∧ s1 = { s with heap := s.heap.push { cls := .type "set", dict := none, data := .set #[] 0 (.fresh 0 0 (!byT w)) } }) ⟨rfl, rfl⟩) fun r s1 hr => ?_
  cases r with
  | error e => exact hr
  | ok fl =>
    cases fl with
    | ret obj =>
      obtain ⟨rfl, rfl⟩ := hr
      have at0 : (s.heap.push { cls := .type "set", dict := none, data := .set #[] 0 (.fresh 0 0 (!byT w)) }).get? s.heap.objs.size = some { cls := .type "set", dict := none, data := .set #[] 0 (.fresh 0 0 (!byT w)) } := Heap.get?_push_size _ rfl
      have ty : Shared.TypeIs { s with heap := s.heap.push { cls := .type "set", dict := none, data := .set #[] 0 (.fresh 0 0 (!byT w)) } } (.ref s.heap.objs.size) "set" := ⟨_, at0, rfl⟩
      have i1 := F.called_set.init.lookup
      have i2 := F.called_set.init.bind (.ref s.heap.objs.size)
      repeat (any_goals (first | assumption | wp_step))
      refine codeAny_mono (codeAny_call_builtin (R := wants (fun r s2 => r = .none ∧ ∃ h' tk, s2 = { s with heap := h', toks := tk } ∧ SetTs P w h' s.heap.objs.size ks ∧
          (∀ b o, b < s.heap.objs.size → s.heap.get? b = some o → h'.get? b = some o)) E) F.called_set.init.plain F.entry_set_init (check_set_init_1 ty ?_)) fun r2 s2 hr2 => ?_
      · obtain ⟨ol, ho, hc, nl, hd⟩ := hl
        obtain ⟨oc, od, oda, osl⟩ := ol
        simp only at hc hd
        subst hc; subst hd
        have ho' : (s.heap.push { cls := .type "set", dict := none, data := .set #[] 0 (.fresh 0 0 (!byT w)) }).get? l = some { cls := .type "list", dict := od, data := .seq its nl, slots := osl } := Heap.get?_push_of_some _ ho
        have b1 := F.sub_list_set
        have b2 := F.sub_list_frozenset
        have b3 : (Value.type "list" == Value.type "dict") = false := by decide
        have hl1 : (s.heap.push { cls := .type "set", dict := none, data := .set #[] 0 (.fresh 0 0 (!byT w)) }).IsList l its := ⟨_, ho', rfl, nl, rfl⟩
        unfold Builtin.«set.__init__» noKeywords Builtin.Frozenset.updateFrom
        generalize hPI : pyIter = PI
        wp_walk
        subst hPI
        refine wpAny_pyIter_list hl1 ?_
        refine wpAny_bind (wpAny_runValue ?_)
        have ll : l < s.heap.objs.size := Heap.lt_size ho
        have h3 : A.in1.in1.in1.handled = none := by simp [hh]
        have ne : l ≠ (s.heap.push { cls := .type "set", dict := none, data := .set #[] 0 (.fresh 0 0 (!byT w)) }).objs.size := by rw [Heap.size_push]; exact Nat.ne_of_lt (Nat.lt_succ_of_lt ll)
        have nf : s.heap.objs.size ∉ [(s.heap.push { cls := .type "set", dict := none, data := .set #[] 0 (.fresh 0 0 (!byT w)) }).objs.size, l] := by
          rw [Heap.size_push]
          intro z
          rcases List.mem_cons.mp z with z | z
          · exact absurd z (Nat.ne_of_lt (Nat.lt_succ_self _))
          · exact absurd (List.mem_singleton.mp z) (Nat.ne_of_gt ll)
        refine set_turnsT ((Walks.list h3 _ l ne its).toS) s.heap.objs.size nf ks hk (fun i v pv k e => hi i v k pv e) hb (its.size - 0) 0 _ (by omega) (Nat.zero_le _) ⟨⟨_, Heap.get?_push_size _ rfl, rfl, rfl⟩, (hl1.push _)⟩ ?x0 ?q0
        case x0 =>
          refine SetTs.kept (h := s.heap.push { cls := .type "set", dict := none, data := .set #[] 0 (.fresh 0 0 (!byT w)) }) ?_ fun o e => Heap.get?_push_of_some _ e
          rw [List.take_zero]
          obtain ⟨o, es, ep, t, ho, hx, hd, h12, h3⟩ := (setObjOf_fresh (knd := intKind P w) (!byT w)).setOf at0 (by unfold scanBound; omega)
          have eo : o = _ := (Option.some.inj (at0.symm.trans ho)).symm
          subst eo
          have hd' : Data.set #[] 0 (.fresh 0 0 (!byT w)) = Data.set es ep t := hd
          injection hd' with e1 e2 e3
          subst e1; subst e2; subst e3
          exact ⟨0, Nat.le_refl _, _, _, _, _, at0, hx, rfl, ⟨h12, fun k => by simp⟩, h3.2, tb_fresh _ _ _, .nil⟩
        case q0 =>
          intro s' mv x'
          obtain ⟨h', g', d', tk', os'⟩ := s'
          have eg : g' = s.gens := mv.gens
          have ed : d' = s.drawn := mv.drawn
          have eo : os' = s.os := mv.os
          subst eg; subst ed; subst eo
          refine wpAny_pure (wpAny_pure ⟨rfl, h', tk', rfl, x', fun b o hb e => mv.heap b o ?_ (Heap.get?_push_of_some _ (Heap.get?_push_of_some _ e))⟩)
          rw [Heap.size_push]
          intro z
          rcases List.mem_cons.mp z with z | z
          · exact absurd z (Nat.ne_of_lt hb)
          · exact absurd (List.mem_singleton.mp z) (Nat.ne_of_lt (Nat.lt_succ_of_lt hb))
      · cases r2 with
        | error e => exact hr2
        | ok f2 =>
          cases f2 with
          | ret r =>
            obtain ⟨rfl, h', tk, rfl, x', k'⟩ := hr2
            repeat (any_goals (first | assumption | wp_step))
            exact h _ _ x' k'
          | _ => exact hr2.elim
    | _ => exact hr.elim
end
section
variable {P : Program} {w : World} {A : Around} {E : Value → Shared → Prop} {s : Shared}
theorem args_set_iter (v : Value) : argsOk "set.__iter__" ⟨[v], []⟩ := by unfold argsOk; kernel_rfl
theorem pyIter_set {a : Addr} {o : Obj} {es : Array (Int × Value)} {ep : Nat} {t : SetTable} {Q : Value → Shared → Prop} (ho : s.heap.get? a = some o) (hx : o.ExactSet) (hc : o.cls = .type "set") (hd : o.data = .set es ep t) (hf : t.fits es.size = true) (tb : Tb (!byT w) t) (hn : es.size ≤ sizeLine)
    (q : ∀ (it : Addr) (y : Way) (h' : Heap) (d : Drawn), WayOk w es t y → a ≠ it → (∀ pt pl, y = .drawn pt pl → pt ≠ it ∧ s.heap.objs.size ≤ pt) → s.heap.objs.size ≤ it → SetSt w it a es ep t y 0 h' → (∀ b u, s.heap.get? b = some u → h'.get? b = some u) → Q (.ref it) { s with heap := h', drawn := d }) :
    wpAny (model P w) A (pyIter (.ref a)) Q E s := by
  have hT : s.TypeIs (.ref a) "set" := ⟨o, ho, hc⟩
  refine wpAny_pyIter_slot hT F.slot_set_iter (wpAny_call_entry F.slot_set_iter hT entry_set_iter ?_ (args_set_iter _))
  unfold Builtin.«frozenset.__iter__» Builtin.Frozenset.slot0 slotArgs
  refine wpAny_bind (wpAny_bind (wpAny_pure ?_))
  unfold Builtin.Frozenset.addrOf
  refine wpAny_pure ?_
  unfold Builtin.Frozenset.sizeOf
  refine wpAny_bind (wpAny_bind (wpAny_setEntries_of ho hd hf (wpAny_pure ?_)))
  unfold setDrawn
  refine wpAny_bind (wpAny_bind (wpAny_setState_of ho hd hf ?_))
  dsimp only
  unfold setsByText
  refine wpAny_bind (wpAny_bind (wpAny_askSetting (wpAny_pure (wpAny_pure ?_))))
  have fin : ∀ (s2 : Shared) (v : Value) (y : Way), WayOk w es t y → (∀ b u, s.heap.get? b = some u → s2.heap.get? b = some u) → s2 = { s with heap := s2.heap, drawn := s2.drawn } → s.heap.objs.size ≤ s2.heap.objs.size → FirstIs s2.heap t 0 v y → (∀ pt pl, y = .drawn pt pl → s.heap.objs.size ≤ pt ∧ pt < s2.heap.objs.size) →
      wpAny (model P w) A.in1 (do let e ← setEpoch a; let f ← newFields "set_iterator" [v, rawInt 0, .ref a, rawInt es.size, rawInt e]; ret f) (fun fin s' => ∃ v, fin = PySem.Fin.done (.ret v) ∧ ∃ T' r, s'.TypeIs v T' ∧ typeLookup (Value.type T') (Str.ofString "__next__") = pure (some r) ∧ Q v s') E s2 := by
    intro s2 v y hy hk es2 le hv hpt
    obtain ⟨h2, g2, d2, tk2, os2⟩ := s2
    have e1 : g2 = s.gens := congrArg Shared.gens es2
    have e2 : tk2 = s.toks := congrArg Shared.toks es2
    have e3 : os2 = s.os := congrArg Shared.os es2
    subst e1; subst e2; subst e3
    unfold setEpoch
    refine wpAny_bind (wpAny_bind (wpAny_setState_of (hk a o ho) hd hf (wpAny_pure ?_)))
    unfold newFields
    refine wpAny_bind (wpAny_newObj_type (wpAny_pure ⟨_, rfl, "set_iterator", _, ⟨_, Heap.get?_push_size _ rfl, rfl⟩, slot_setit_next.lookup, ?_⟩))
    have lt : a < h2.objs.size := Heap.lt_size (hk a o ho)
    have hk' : ∀ b u, h2.get? b = some u → (h2.push { cls := .type "set_iterator", data := .fields #[v, .int 0 0, .ref a, .int es.size 0, .int ep 0] }).get? b = some u := fun b u e => Heap.get?_push_of_some _ e
    refine q _ y _ d2 hy (Nat.ne_of_lt lt) (fun pt pl e => ⟨Nat.ne_of_lt (hpt pt pl e).2, (hpt pt pl e).1⟩) le ⟨⟨o, hk' a o (hk a o ho), hd⟩, ⟨_, v, Heap.get?_push_size _ rfl, rfl, rfl, ?_⟩⟩ fun b u e => hk' b u (hk b u e)
    cases y with
    | text => exact hv
    | place => exact hv
    | drawn pt pl =>
      obtain ⟨e, o2, n2, h1, h2'⟩ := hv
      exact ⟨e, o2, n2, hk' _ _ h1, h2'⟩
  show wpAny _ _ (if (!byT w && (!t.plain && decide (es.size > 1))) = true then _ else _) _ _ _
  cases hb : byT w with
  | true =>
    rw [if_neg (by simp)]
    refine wpAny_bind (wpAny_pure ?_)
    exact fin s _ .text hb (fun _ _ e => e) rfl (Nat.le_refl _) rfl (fun _ _ e => nomatch e)
  | false =>
    cases hp : (!t.plain && decide (es.size > 1)) with
    | false =>
      rw [if_neg (by simp)]
      refine wpAny_bind (wpAny_pure ?_)
      exact fin s _ .place ⟨hb, hp⟩ (fun _ _ e => e) rfl (Nat.le_refl _) ⟨0, rfl, below_zero tb.rise⟩ (fun _ _ e => nomatch e)
    | true =>
      rw [if_pos (by simp)]
      refine wpAny_bind (draw_any es.size (List.range es.size) s _ List.length_range fun ys d pm => ?_)
      have yl : ys.length = es.size := by rw [pm.length_eq, List.length_range]
      refine wpAny_bind (wpAny_newTuple ?_ (by rw [List.length_map, yl]; exact hn))
      refine fin _ _ (.drawn s.heap.objs.size ys) ⟨hb, hp, pm⟩ (fun _ _ e => Heap.get?_push_of_some _ e) rfl ?_ ⟨rfl, _, _, Heap.get?_push_size _ rfl, rfl⟩ fun pt pl e => ?_
      · show _ ≤ (Heap.push _ _).objs.size
        rw [Heap.size_push]; exact Nat.le_succ _
      · cases e
        refine ⟨Nat.le_refl _, ?_⟩
        show _ < (Heap.push _ _).objs.size
        rw [Heap.size_push]; exact Nat.lt_succ_self _
end
section
variable {P : Program} {w : World} {A : Around} {E : Value → Shared → Prop} {s : Shared}
theorem slot_setit_iter : Slot "set_iterator" "__iter__" "set_iterator.__iter__" :=
  .of (owner := "set_iterator") (n := "__iter__") (by rw [typeLookup_type, builtinLookup_eq_fast]; kernel_rfl) (by decide +kernel) (by decide +kernel) (by decide +kernel) (by first | exact .inl (by decide +kernel) | exact .inr (by decide +kernel)) (by rw [isSubtype_type]; kernel_rfl)
theorem entry_setit_iter : entryFor table "set_iterator.__iter__" = some Builtin.«dict_keyiterator.__iter__» :=
  entryFor_alias (id' := "dict_keyiterator.__iter__") (by kernel_rfl) rfl (by decide +kernel) (by kernel_rfl)
theorem args_setit_iter (v : Value) : argsOk "set_iterator.__iter__" ⟨[v], []⟩ := by unfold argsOk; kernel_rfl
theorem set_len_at : typeLookup (.type "set") (Str.ofString "__len__") = pure (some (.builtin "set.__len__")) := F.slot_set_len.lookup
theorem collect_set {a : Addr} {o : Obj} {es : Array (Int × Value)} {ep : Nat} {t : SetTable} {Q : List Value → Shared → Prop} (hh : A.handled = none) (ho : s.heap.get? a = some o) (hx : o.ExactSet) (hc : o.cls = .type "set") (hd : o.data = .set es ep t) (hf : t.fits es.size = true) (tb : Tb (!byT w) t) (hn : es.size ≤ sizeLine)
    (q : ∀ (vs : List Value) (h' : Heap) (d : Drawn) (tk : Nat), vs.Perm (es.toList.map (·.2)) → s.heap.objs.size ≤ h'.objs.size → s.toks ≤ tk → (∀ b u, s.heap.get? b = some u → h'.get? b = some u) → Q vs { s with heap := h', drawn := d, toks := tk }) :
    wpAny (model P w) A (collect (.ref a)) Q E s := by
  have la : a < s.heap.objs.size := Heap.lt_size ho
  unfold collect
  refine wpAny_bind (wpAny_runValue (codeAny_builtin F.entry_proto_collect ?_))
  rw [Around.under_plainId F.plain_proto_collect _]
  show wpAny _ A.in1 (newList [] >>= fun l => again (.builtin "list.__iadd__" ⟨[l, .ref a], []⟩)) _ _ s
  refine wpAny_bind (wpAny_newObj_type ?_)
  refine wpAny_pure ⟨plainId_quiet F.plain_list_iadd _, codeAny_builtin F.entry_list_iadd ?_⟩
  rw [Around.under_plainId F.plain_list_iadd _]
  have hS₁ : (s.heap.push { cls := .type "list", data := .seq ([] : List Value).toArray }).get? s.heap.objs.size = some { cls := .type "list", data := .seq ([] : List Value).toArray } := Heap.get?_push_size _ rfl
  have ha₁ : (s.heap.push { cls := .type "list", data := .seq ([] : List Value).toArray }).get? a = some o := Heap.get?_push_of_some _ ho
  have h1 : Builtin.List.listSameRef (.ref s.heap.objs.size) (.ref a) = false := by simp [Builtin.List.listSameRef, Nat.ne_of_gt la]
  show wpAny _ A.in1 (Builtin.List.listExtendWith (.ref s.heap.objs.size) (.ref a) (.ref s.heap.objs.size)) _ _ _
  unfold Builtin.List.listExtendWith
  have hT : Shared.TypeIs { s with heap := s.heap.push { cls := .type "list", data := .seq ([] : List Value).toArray } } (.ref a) "set" := ⟨o, ha₁, hc⟩
  refine wpAny_bind (wpAny_typeOf hT ?_)
  rw [if_neg (by rw [h1]; decide)]
  refine wpAny_bind (pyIter_set (s := { s with heap := s.heap.push { cls := .type "list", data := .seq ([] : List Value).toArray } }) ha₁ hx hc hd hf tb hn fun it y h2 d wo hne hpt hit st k2 => ?_)
  refine wpAny_bind (wpAny_holding ?_)
  have hT2 : Shared.TypeIs { s with heap := h2, drawn := d } (.ref a) "set" := ⟨o, k2 a o ha₁, hc⟩
  unfold Builtin.List.listLengthHint
  refine wpAny_bind (wpAny_specialOf hT2 set_len_at ?_)
  generalize hid : ("set.__len__" : String) = id0
  (fail_if_success (clear hid id0))
  wp_delta
  rw [show splitId id0 = some ("set", "__len__") from by subst hid; decide +kernel]
  subst hid
  refine wpAny_bind (wpAny_isInstance (b := true) hT2 (by rw [isSubtype_type]; kernel_rfl) ?_)
  rw [if_neg (by decide)]
  refine w_ite (by decide +kernel) ?_
  refine wpAny_bind (wpAny_typeOf hT2 (wpAny_pure ?_))
  show wpAny _ A.in1 (rule "list.extend.makes-room" >>= fun _ => Builtin.List.listTouch (.ref s.heap.objs.size) >>= fun _ =>
    again (.builtin "list.extend.loop" ⟨[.ref s.heap.objs.size, .ref it, .ref s.heap.objs.size], []⟩)) _ _ _
  refine wpAny_bind (wpAny_rule ?_)
  have hS2 := k2 _ _ hS₁
  refine wpAny_bind ?_
  show wpAny _ A.in1 (updateSeq s.heap.objs.size (·.push .none) >>= fun _ => updateSeq s.heap.objs.size (·.pop)) _ _ _
  refine wpAny_bind (wpAny_updateSeq hS2 rfl ?_)
  have hS₂ := Heap.get?_update_self (Obj.mapSeq (·.push Value.none)) hS2 rfl
  refine wpAny_updateSeq hS₂ rfl ?_
  have hS₃ := Heap.get?_update_self (Obj.mapSeq (·.pop)) hS₂ rfl
  have oth : ∀ b o, b ≠ s.heap.objs.size → h2.get? b = some o → ((h2.update s.heap.objs.size (Obj.mapSeq (·.push Value.none))).update s.heap.objs.size (Obj.mapSeq (·.pop))).get? b = some o :=
    fun b o hb e => (Heap.get?_update_other _ _ (Ne.symm hb)).trans ((Heap.get?_update_other _ _ (Ne.symm hb)).trans e)
  have hself : ∀ (s : Shared) (Q : Value → Shared → Prop) (E : Value → Shared → Prop), s.TypeIs (.ref it) "set_iterator" → Q (.ref it) s → wpAny (model P w) A.in1 (pyIter (.ref it)) Q E s := fun s Q E hT q => by
    refine wpAny_pyIter_slot hT slot_setit_iter (wpAny_call_entry slot_setit_iter hT entry_setit_iter ?_ (args_setit_iter _))
    show wpAny _ _ (ret (.ref it)) _ _ s
    exact wpAny_pure ⟨_, rfl, "set_iterator", _, hT, slot_setit_next.lookup, q⟩
  have sz1 : (s.heap.push { cls := .type "list", data := .seq ([] : List Value).toArray }).objs.size = s.heap.objs.size + 1 := Heap.size_push ..
  have hit' : s.heap.objs.size + 1 ≤ it := by rw [← sz1]; exact hit
  have ptne : ∀ b, b ∈ y.fp → b ≠ s.heap.objs.size := fun b hb => by
    obtain ⟨pl, e⟩ := Way.mem_fp.mpr hb
    have := (hpt b pl e).2
    have z : s.heap.objs.size + 1 ≤ b := by rw [← sz1]; exact this
    exact Nat.ne_of_gt z
  have W := (Walks.set (P := P) (A := A.in1) (ep := ep) hh hne (fun pt pl e => (hpt pt pl e).1) wo tb hf hself).toS
  have hSf : s.heap.objs.size ∉ it :: a :: y.fp := fun hm => by
    rcases List.mem_cons.mp hm with z | hm
    · exact Nat.ne_of_lt hit' z
    rcases List.mem_cons.mp hm with z | hm
    · exact Nat.ne_of_gt la z
    · exact ptne _ hm rfl
  refine wpAny_pure ⟨plainId_quiet F.plain_extend_loop _, codeAny_extend_loopS W hn _ hSf _ es.size 0 _ _ _ rfl (Nat.zero_le _) ?_ hS₃ (ItemsOf.nil _) fun s' acc' c' hm hS' hacc => ?_⟩
  · refine st.kept fun b u hb e => oth b u ?_ e
    rcases hb with rfl | rfl | hb
    · exact Nat.ne_of_gt hit'
    · exact Nat.ne_of_lt la
    · exact ptne b (Way.mem_fp.mp hb)
  show wpAny _ A (load s.heap.objs.size >>= _) _ _ s'
  refine wpAny_bind (wpAny_load hS' (wpAny_pure ?_))
  obtain ⟨h', g', d', tk', os'⟩ := s'
  have eg : g' = s.gens := hm.gens
  have ed : d' = d := hm.drawn
  have eo : os' = s.os := hm.os
  subst eg; subst ed; subst eo
  have op := ord_perm (a := a) (ep := ep) wo
  have ol : (ordOf w a es ep y).length = es.size := by rw [op.length_eq, Array.length_toList]
  have hacc' : acc'.toList = (ordOf w a es ep y).map (·.2) := by
    refine List.ext_getElem? fun j => ?_
    rw [List.getElem?_map, Array.getElem?_toList]
    cases e : acc'[j]? with
    | none =>
      have : acc'.size ≤ j := Array.getElem?_eq_none_iff.mp e
      rw [hacc.1] at this
      rw [List.getElem?_eq_none (by omega)]
      rfl
    | some v =>
      obtain ⟨k, hk⟩ := hacc.2 j v e
      rw [hk]
      rfl
  refine q _ h' d' tk' (by rw [hacc']; exact op.map _) (Nat.le_of_lt (Heap.lt_size hS')) hm.toks fun b u e => ?_
  have lb : b < s.heap.objs.size := Heap.lt_size e
  refine hm.heap b u (fun hb => ?_) (oth b u (Nat.ne_of_lt lb) (k2 b u (Heap.get?_push_of_some _ e)))
  rcases List.mem_cons.mp hb with z | z
  · exact Nat.ne_of_lt lb z
  · rw [List.mem_singleton.mp z] at lb
    exact absurd (Nat.lt_trans lb hit') (Nat.lt_irrefl _)
end
def iv : Value → Int
  | .int i _ => i
  | _ => 0
theorem ints_of : ∀ {l : List Value}, (∀ v ∈ l, ∃ i t, v = .int i t) → IntsAre l (l.map iv)
  | [], _ => .nil
  | v :: r, h => by
    obtain ⟨i, t, rfl⟩ := h v List.mem_cons_self
    exact .cons i t (ints_of fun v hv => h v (List.mem_cons_of_mem _ hv))
section
variable {P : Program} {w : World} {A : Around} {E : Value → Shared → Prop} {s : Shared}
theorem lt_of_le_nodup {l : List Int} (h1 : l.Pairwise (· ≤ ·)) (h2 : l.Nodup) : l.Pairwise (· < ·) := by
  have := List.Pairwise.and h1 h2
  exact this.imp fun ⟨a, b⟩ => by omega
theorem sorted_set {a : Addr} {ks : List Int} {Q : Value → Shared → Prop} (hh : A.handled = none) (x : SetTs P w s.heap a ks) (h64 : ks.length < 64)
    (q : ∀ (L : Addr) (vs : List Value) (ns : List Int) (n : Nat) (h' : Heap) (d : Drawn) (tk : Nat), IntsAre vs ns → ns.Pairwise (· < ·) → (∀ k, k ∈ ns ↔ k ∈ ks) → s.heap.objs.size ≤ L → h'.get? L = some (seqObj "list" vs.toArray n) → s.toks ≤ tk → (∀ b u, s.heap.get? b = some u → h'.get? b = some u) → Q (.ref L) { s with heap := h', drawn := d, toks := tk }) :
    wpAny (model P w) A (call (.builtin "sorted") [.ref a]) Q E s := by
  obtain ⟨n, hn, o, es, ep, t, ho, hx, hd, ⟨h1, h2⟩, ⟨h3, h4, hsz⟩, tb, ap⟩ := x
  refine Calls.call_function_entry kind_sorted plain_sorted entry_sorted (args_sorted1 _) ?_
  unfold Builtin.«sorted»
  refine wpAny_bind (m := checkCount "sorted" 1 1 _) (wpAny_pure ?_)
  refine wpAny_bind (collect_set hh ho hx hx.1 hd h4 tb (show es.size ≤ sizeLine by unfold sizeLine; omega) fun vs h' d tk pm le htk hk => ?_)
  have hint : ∀ v ∈ vs, ∃ i t, v = .int i t := fun v hv => by
    obtain ⟨e, he, rfl⟩ := List.mem_map.mp (pm.mem_iff.mp hv)
    obtain ⟨⟨k, hk, _⟩, _⟩ := h1 e he
    obtain ⟨t, e⟩ := Value.isInt_shape hk
    exact ⟨k, t, e⟩
  have hI := ints_of hint
  have vl : vs.length < 64 := by
    rw [pm.length_eq, List.length_map, Array.length_toList]; omega
  refine wpAny_bind (wpAny_newList ?_)
  have hoL : (h'.push (seqObj "list" vs.toArray 0)).get? h'.objs.size = some (seqObj "list" vs.toArray 0) := Heap.get?_push_size _ rfl
  show wpAny _ _ _ _ _ { s with heap := h'.push (seqObj "list" vs.toArray 0), drawn := d, toks := tk }
  refine wpAny_bind (wpAny_holding (wpAny_call_entry slot_list_sort ⟨_, hoL, rfl⟩ entry_list_sort (list_sort_tree hoL hI vl fun out ns' a1 a2 a3 => ⟨_, rfl, ?_⟩) (args_list_sort _)))
  have iv_is : ∀ e ∈ es.toList, (intKind P w).is (iv e.2) e.2 = true := fun e he => by
    obtain ⟨⟨k, hk, _⟩, _⟩ := h1 e he
    obtain ⟨t, e'⟩ := Value.isInt_shape hk
    rw [e'] at hk ⊢
    exact hk
  have pe : ns'.Perm (es.toList.map fun e => iv e.2) := by
    refine a2.trans ?_
    have := pm.map iv
    rwa [List.map_map] at this
  obtain ⟨ne, hat⟩ := sortedHeap_at (out := out) hoL
  refine wpAny_pure ⟨_, rfl, q _ out.toList ns' ne _ d tk a1 (lt_of_le_nodup a3 ?_) (fun k => ?_) le hat htk fun b u e => ?_⟩
  · refine pe.nodup_iff.mpr ?_
    rw [List.Nodup, List.pairwise_map]
    refine List.Pairwise.imp_of_mem (fun {x y} hx hy z e => ?_) ap
    have h := z _ (iv_is x hx)
    rw [e, iv_is y hy] at h
    cases h
  · rw [pe.mem_iff, List.mem_map]
    have := h2 k
    rw [decide_eq_true_eq] at this
    rw [this]
    constructor
    · rintro ⟨e, he, rfl⟩
      exact ⟨e, he, iv_is e he⟩
    · rintro ⟨e, he, hk⟩
      obtain ⟨t, e'⟩ := Value.isInt_shape hk
      exact ⟨e, he, by rw [e']; rfl⟩
  · have lb : b < h'.objs.size := Nat.lt_of_lt_of_le (Heap.lt_size e) le
    refine (sortedHeap_old (Nat.ne_of_lt lb) ?_).trans (Heap.get?_push_of_some _ (hk b u e))
    rw [Heap.size_push]; exact Nat.lt_succ_of_lt lb
end
theorem Inv.drew {X : Cx} {pins : List (Addr × Obj)} {σ : St} {H : Hp} {s : Shared} (I : Inv X pins σ H s) (d : Drawn) : Inv X pins σ H { s with drawn := d } := by
  obtain ⟨h1, h2, h3, h4, h5, h6, h7, h8, h9, h10, h11⟩ := I
  exact ⟨h1, h2, h3, h4, h5, h6, h7, h8, h9, h10, h11⟩
def setI (P : Program) (w : World) (a : Addr) (ns : List Int) : HO := .ext fun h => SetTs P w h a ns
theorem call_set_int {X : Cx} (hc : X.calm = true) : CallR X (.type "set") (fun xs H Q => ∃ (p : Addr) (ns : List Int), xs = [.ref p] ∧ SqL X.K H p (ns.map V.int) ∧ ns.length ≤ 1000 ∧ ∀ a, H a = none → Q (.ref a) (upd H a (setI X.prog X.w a ns))) := by
  intro pins s σ H xs us Q I r h
  obtain ⟨p, ks, rfl, hx, hz, q⟩ := h
  obtain ⟨u, rfl, rx⟩ := vals1 r
  cases (show u = Value.ref p from rx)
  obtain ⟨vs, rv, pl, _⟩ := I.list hx
  have lv := rv.length
  rw [List.length_map] at lv
  refine set_of_listT (ks := ks) (I.ok.hd hc) pl.isList (by rw [List.size_toArray]; exact lv) (fun i v k e1 e2 => ?_) (by rw [List.size_toArray]; unfold scanBound; omega) fun h' tk x k => ?_
  · have e1' : vs[i]? = some v := by simpa using e1
    obtain ⟨u, e, q⟩ := rv.get (i := i) (x := V.int k) (by rw [List.getElem?_map, e2]; rfl)
    rw [e1'] at e
    cases e
    obtain ⟨t, rfl⟩ := q
    show Value.isInt k (.int k t) = true
    unfold Value.isInt
    simp
  · refine ⟨.ref s.heap.objs.size, _, I.laid (t' := tk) (fun b u e => k b u (Heap.lt_size e) e) (Nat.le_refl _) ?_, rfl, q _ I.fresh⟩
    obtain ⟨n, hn, o, es, ep, t, ho, rest⟩ := id x
    exact ⟨x, ⟨o, ho⟩, fun h1 h2 x1 k1 => x1.kept k1⟩
theorem vals_intsT : ∀ {vs : List Value} {ns : List Int}, IntsAre vs ns → Vals (ns.map V.int) vs
  | _, _, .nil => .nil
  | _, _, .cons n t h => .cons ⟨t, rfl⟩ (vals_intsT h)
def rSortS (P : Program) (w : World) : List V → Hp → VK → Prop := fun xs H Q => ∃ (p : Addr) (ns : List Int), xs = [.ref p] ∧ H p = some (setI P w p ns) ∧ ns.length < 64 ∧ ∀ (ms : List Int), ms.Pairwise (· < ·) → (∀ k, k ∈ ms ↔ k ∈ ns) → ∀ L H', New H L (.lst (ms.map V.int)) H' → Q (.ref L) H'
theorem call_sorted_set {X : Cx} (hc : X.calm = true) : CallR X (.builtin "sorted") (rSortS X.prog X.w) := by
  intro pins s σ H xs us Q I r h
  obtain ⟨p, ns, rfl, hx, hz, q⟩ := h
  obtain ⟨u, rfl, rx⟩ := vals1 r
  cases (show u = Value.ref p from rx)
  obtain ⟨x, _⟩ := I.hok p _ hx
  refine sorted_set (I.ok.hd hc) x hz fun L vs ms n h' d tk a1 a2 a3 le hat htk k => ?_
  have vl : Vals (ms.map V.int) vs := vals_intsT a1
  have nf : H L = none := I.hok.fresh le
  refine ⟨.ref L, _, (I.laid (t' := tk) (o := .lst (ms.map V.int)) k le ⟨?_, vs, n, vl, hat⟩).drew d, rfl, q ms a2 a3 L _ (New.mk' nf _)⟩
  rw [List.length_map]
  have nd : ms.Nodup := a2.imp fun h => by omega
  have : ms.length ≤ ns.length := nd.length_le_of_subset fun y hy => (a3 y).mp hy
  exact small_line (by omega)
theorem cellsFrom_app : ∀ (ns : List (Str × NameKind)) (n : Nat) (cl : List (Str × Addr)), cellsFrom n ns cl = cellsFrom n ns [] ++ cl
  | [], _, _ => rfl
  | (x, k) :: r, n, cl => by
    unfold cellsFrom
    split
    · rw [cellsFrom_app r (n + 1) ((x, n) :: cl), cellsFrom_app r (n + 1) [(x, n)]]; simp
    · exact cellsFrom_app r n cl
theorem cellsFrom_kind : ∀ (ns : List (Str × NameKind)) (n : Nat) {x : Str} {c : Addr}, (x, c) ∈ cellsFrom n ns [] → (x, NameKind.cell) ∈ ns
  | [], _, _, _, h => nomatch h
  | (y, k) :: r, n, x, c, h => by
    unfold cellsFrom at h
    split at h
    · rename_i hk
      rw [cellsFrom_app] at h
      rcases List.mem_append.mp h with z | z
      · exact List.mem_cons_of_mem _ (cellsFrom_kind r (n + 1) z)
      · cases List.mem_singleton.mp z
        rw [beq_iff_eq.mp hk]; exact List.mem_cons_self
    · exact List.mem_cons_of_mem _ (cellsFrom_kind r n h)
theorem look_app {α : Type} {x : Str} : ∀ {a b : List (Str × α)}, (a ++ b).lookup x = (a.lookup x).or (b.lookup x)
  | [], _ => rfl
  | (y, v) :: r, b => by
    rw [List.cons_append, List.lookup_cons, List.lookup_cons]
    cases x == y with
    | true => rfl
    | false => exact look_app
section
variable {M : Model} {A : Around} {E : Value → Shared → Prop} {s₀ s : Shared} {m cm : Str → Option Value} {env : Env} {ow : List (Str × Addr)}
theorem putL {n : Str} {v : Value} {Q : Unit → Shared → Prop} (x : InCallC s₀ env.locals m ow cm s) (hk : env.scope.kind = .function) (hl : env.kindOf n = some .local)
    (q : ∀ t, InCallC s₀ env.locals (fun y => if y = n then some v else m y) ow cm t → Q () t) : wpAny M A (storeName env n v) Q E s := by
  obtain ⟨g0, t0, eS⟩ := x.toInCall.same
  refine wpAny_storeName_local hl x.toInCall.ns (fun g1 gn gs => q _ { toInCall := ⟨⟨g1, t0 + 1, by rw [eS]⟩, gn, fun b o e => ?_, x.toInCall.fresh⟩, cell := fun k c hc => ?_, apart := x.apart, above := x.above }) (by rw [hk]; rfl)
  · have lt := Heap.lt_size e
    have fr := x.toInCall.fresh
    exact gs.extBut b o (Nat.ne_of_lt (Nat.lt_of_lt_of_le lt fr)) (x.toInCall.keep b o e)
  · have ab := x.above k c (mem_of_lookup' hc)
    exact (x.cell k c hc).sameBut gs (Nat.ne_of_gt ab)
theorem putC {n : Str} {c : Addr} {v : Value} {Q : Unit → Shared → Prop} (x : InCallC s₀ env.locals m ow cm s) (hk : env.scope.kind = .function) (hl : env.kindOf n = some .cell) (ho : ow.lookup n = some c) (hc : env.cells.lookup n = some c)
    (q : ∀ t, InCallC s₀ env.locals m ow (fun y => if y = n then some v else cm y) t → Q () t) : wpAny M A (storeName env n v) Q E s := by
  have ab := x.above n c (mem_of_lookup' ho)
  obtain ⟨g0, t0, eS⟩ := x.toInCall.same
  refine wpAny_storeName_cell hk hl hc (x.cell n c ho) fun g1 gc gs => q _ { toInCall := ⟨⟨g1, t0, by rw [eS]⟩, x.toInCall.ns.sameBut gs (Nat.ne_of_lt ab), fun b o e => ?_, x.toInCall.fresh⟩, cell := fun k d hd => ?_, apart := x.apart, above := x.above }
  · have lt := Heap.lt_size e
    have fr := x.toInCall.fresh
    exact gs.extBut b o (Nat.ne_of_lt (Nat.lt_trans (Nat.lt_of_lt_of_le lt fr) ab)) (x.toInCall.keep b o e)
  · by_cases kn : k = n
    · rw [kn, ho] at hd
      cases hd
      rw [if_pos kn]; exact gc
    · rw [if_neg kn]
      refine (x.cell k d hd).sameBut gs fun e => kn ?_
      rw [e] at hd
      exact name_of_addr x.apart (mem_of_lookup' hd) (mem_of_lookup' ho)
theorem bindM (f : Str × Value → PUnit → Sem (ForInStep PUnit)) (hf : ∀ n v u, f (n, v) u = (do storeName env n v; pure (.yield ⟨⟩))) (hk : env.scope.kind = .function) (hsub : ∀ n c, ow.lookup n = some c → env.cells.lookup n = some c) :
    ∀ (bs : List (Str × Value)) (m cm : Str → Option Value) (s : Shared) (Q : PUnit → Shared → Prop), InCallC s₀ env.locals m ow cm s → (∀ y ∈ bs, env.kindOf y.1 = some .local ∨ (env.kindOf y.1 = some .cell ∧ ∃ c, ow.lookup y.1 = some c)) →
      (∀ t, InCallC s₀ env.locals (bindL env.kindOf bs m) ow (bindC env.kindOf bs cm) t → Q ⟨⟩ t) → wpAny M A (forIn bs ⟨⟩ f) Q E s
  | [], m, cm, s, Q, x, _, q => by rw [List.forIn_nil]; exact wpAny_pure (q s x)
  | (n, v) :: r, m, cm, s, Q, x, hb, q => by
    rw [List.forIn_cons, hf]
    have hb' := fun y hy => hb y (List.mem_cons_of_mem _ hy)
    rcases hb (n, v) List.mem_cons_self with z | ⟨z, c, hc⟩
    · refine wpAny_bind (wpAny_bind (putL x hk z fun t x1 => wpAny_pure (bindM f hf hk hsub r _ _ t Q x1 hb' fun t2 x2 => q t2 ?_)))
      rw [bindL, bindC, if_pos z, if_pos z]; exact x2
    · have nz : ¬ env.kindOf n = some .local := by rw [z]; decide
      refine wpAny_bind (wpAny_bind (putC x hk z hc (hsub n c hc) fun t x1 => wpAny_pure (bindM f hf hk hsub r _ _ t Q x1 hb' fun t2 x2 => q t2 ?_)))
      rw [bindL, bindC, if_neg nz, if_neg nz]; exact x2
theorem newEnvM {scope : Scope} {globals : Addr} {cl : List (Str × Addr)} {bs : List (Str × Value)} {qual : Str} {func : Option Addr} {code : Value} {builtins : Addr} {Q : Env → Shared → Prop} (hk : scope.kind = .function)
    (hb : ∀ y ∈ bs, scope.names.lookup y.1 = some .local ∨ scope.names.lookup y.1 = some .cell)
    (q : ∀ t, InCallC s s.heap.objs.size (bindL (fun x => scope.names.lookup x) bs fun _ => none) (cellsFrom (s.heap.objs.size + 1) scope.names []) (bindC (fun x => scope.names.lookup x) bs fun _ => none) t →
      Q (newEnv scope s.heap.objs.size globals (cellsFrom (s.heap.objs.size + 1) scope.names [] ++ cl) qual func code none builtins) t) : wpAny M A (newFunctionEnv scope globals cl bs qual func code none builtins) Q E s := by
  simp only [newFunctionEnv, Option.isSome_none, Bool.false_eq_true, if_false]
  refine wpAny_bind (wpAny_alloc (wpAny_bind (wpAny_layCells _ (fun name kind cells => by cases hkc : kind == NameKind.cell <;> simp [hkc]) _ _ _ _ ?_)))
  have c1 := cellsFrom_ok scope.names (s.heap.push { cls := .type "frame", data := .dict #[] }) (s.heap.objs.size + 1) [] ⟨fun _ _ z => (nomatch z), .nil⟩ (by rw [Heap.size_push]; exact Nat.le_refl _)
  rw [Heap.size_push] at c1
  rw [show ({ s with heap := s.heap.push { cls := .type "frame", data := .dict #[] } } : Shared).heap.objs.size = s.heap.objs.size + 1 from Heap.size_push .., cellsFrom_app]
  refine wpAny_bind (bindM (s₀ := s) (ow := cellsFrom (s.heap.objs.size + 1) scope.names []) (env := newEnv scope s.heap.objs.size globals (cellsFrom (s.heap.objs.size + 1) scope.names [] ++ cl) qual func code none builtins) _ (fun _ _ _ => rfl) hk (fun n c e => ?_) bs (fun _ => none) (fun _ => none) _ _ ?_ (fun y hy => ?_) fun t x => wpAny_pure (q t x))
  · show (cellsFrom (s.heap.objs.size + 1) scope.names [] ++ cl).lookup n = some c
    rw [look_app, e]; rfl
  · refine { toInCall := ⟨⟨_, _, rfl⟩, (Heap.Ns.new s.heap (.type "frame")).keeps (pushCells_keeps _ _), fun b o e => pushCells_keeps _ _ b o (Heap.get?_push_of_some _ e), Nat.le_refl _⟩, cell := fun n c e => (c1.empty n c (mem_of_lookup' e)).1, apart := c1.apart, above := fun n c e => ?_ }
    have := (c1.empty n c e).2
    exact this
  · rcases hb y hy with z | z
    · exact .inl z
    · exact .inr ⟨z, cell_has z⟩
end
def envM (qual : Str) (scope : Scope) (cl : List (Str × Addr)) (L f : Addr) (cd : Value) : Env :=
  { scope := scope, locals := L, globals := mainGlobals, cells := cellsFrom (L + 1) scope.names [] ++ cl, qual := qual ++ ".<locals>.", func := some f, code := cd, frame := some L, builtins := builtinsNs }
noncomputable def cxM (P : Program) (w : World) (K : PySem.W.Frag) (mg : Str → Option Value) (base : Heap) (N : List Str) (qual : Str) (scope : Scope) (cl : List (Str × Addr)) (f : Addr) (cd : Value) (A : Around) (outer : List Env) (s : Shared) (H : Hp) : Cx where
  prog := P
  w := w
  K := K
  mg := mg
  base := base
  A := A.deeper (envM qual scope cl s.heap.objs.size f cd)
  N := N
  s₀ := s
  H₀ := dropL cl H
  env := envM qual scope cl s.heap.objs.size f cd
  outer := outer
  stack := envM qual scope cl s.heap.objs.size f cd :: outer
  ex := []
  calm := true
  fn := fun x => scope.names.lookup x == some .cell
  pn := []
  xe := fun _ _ => False
structure CloScopeM (own ps cap : List Str) (sc : Scope) : Prop where
  kind : sc.kind = .function
  co : sc.isCoroutine = false
  gen : sc.isGenerator = false
  pre : own.take ps.length = ps
  nd : ps.Nodup
  par : ∀ x ∈ ps, sc.names.lookup x = some .local ∨ sc.names.lookup x = some .cell
  cap : ∀ x ∈ cap, sc.names.lookup x = some .free
  one : ∀ y ∈ sc.names, y.2 = .cell → sc.names.lookup y.1 = some .cell
section
variable {P : Program} {w : World} {K : PySem.W.Frag} {mg : Str → Option Value} {base : Heap} {A : Around} {outer : List Env} {s s1 : Shared} {H : Hp} {own ps cap : List Str} {qual : Str} {scope : Scope} {cl : List (Str × Addr)} {f : Addr} {cd : Value} {vs cv : List V} {us : List Value}
theorem inv_cloM (S : CloScopeM own ps cap scope) (hd : A.handled = none) (e0 : Env0 P w K mg base A outer s H) (hl : vs.length = ps.length) (hlo : ps.length ≤ own.length) (r : Vals vs us)
    (hcl : ∀ x c, cl.lookup x = some c → ∃ o v, H c = some (.frz o (.own c)) ∧ o.data = .cell v) (hfr : ∀ p ∈ scope.names, p.2 = .free → ∃ c, cl.lookup p.1 = some c) (inj : ∀ x y c, cl.lookup x = some c → cl.lookup y = some c → x = y) (hcap : Caps H cl cap cv)
    (xc : InCallC s s.heap.objs.size (bindL (fun x => scope.names.lookup x) (ps.zip us) fun _ => none) (cellsFrom (s.heap.objs.size + 1) scope.names []) (bindC (fun x => scope.names.lookup x) (ps.zip us) fun _ => none) s1) :
    Inv (cxM P w K mg base (own ++ cap) qual scope cl f cd A outer s H) [] (stL own vs cv) (dropL cl H) s1 := by
  classical
  obtain ⟨h1, tk, rfl, hk⟩ := xc.done
  have d1 : ∀ b, ¬ InCl cl b → dropL cl H b = H b := fun b n => if_neg n
  have dn : ∀ b, H b = none → dropL cl H b = none := fun b e => by
    by_cases hc : InCl cl b
    · exact if_pos hc
    · rw [d1 b hc]; exact e
  have noA : ∀ b : Addr, b ∉ (cxM P w K mg base (own ++ cap) qual scope cl f cd A outer s H).ex := fun b z => absurd (show b ∈ ([] : List Addr) from z) (by simp)
  have at' : ∀ x c, cl.lookup x = some c → ∃ o v, s.heap.get? c = some o ∧ o.data = .cell v := fun x c e => by
    obtain ⟨o, v, z, zd⟩ := hcl x c e
    exact ⟨o, v, (e0.hok c _ z).1, zd⟩
  have hok0 : HOk P w (dropL cl H) s.heap := fun b u e => by
    have hc : ¬ InCl cl b := fun hc => by
      have : dropL cl H b = none := if_pos hc
      rw [this] at e; cases e
    rw [d1 b hc] at e
    exact (e0.hok b u e).stay (fun _ _ _ z => z) (fun c z => by rw [d1 c (drop_cells hcl z fun _ _ y => nomatch y)]; exact z) (fun c o a q co z => by rw [d1 c (drop_code hcl co z)]; exact z) fun c xs z => by rw [d1 c (drop_cells hcl z fun _ _ y => nomatch y)]; exact z
  have two : ∀ x c, (cellsFrom (s.heap.objs.size + 1) scope.names [] ++ cl).lookup x = some c → ((cellsFrom (s.heap.objs.size + 1) scope.names []).lookup x = some c ∧ s.heap.objs.size < c) ∨ ((cellsFrom (s.heap.objs.size + 1) scope.names []).lookup x = none ∧ cl.lookup x = some c ∧ c < s.heap.objs.size) := fun x c e => by
    rw [look_app] at e
    cases z : (cellsFrom (s.heap.objs.size + 1) scope.names []).lookup x with
    | some y =>
      rw [z] at e
      cases e
      exact .inl ⟨rfl, xc.above x c (mem_of_lookup' z)⟩
    | none =>
      rw [z] at e
      have e' : cl.lookup x = some c := e
      obtain ⟨o, v, ho, _⟩ := at' x c e'
      exact .inr ⟨rfl, e', Heap.lt_size ho⟩
  have free' : ∀ x, scope.names.lookup x = some .free → (cellsFrom (s.heap.objs.size + 1) scope.names []).lookup x = none := fun x hx => by
    cases z : (cellsFrom (s.heap.objs.size + 1) scope.names []).lookup x with
    | none => rfl
    | some y =>
      have := S.one (x, .cell) (cellsFrom_kind _ _ (mem_of_lookup' z)) rfl
      rw [hx] at this; cases this
  refine ⟨⟨e0.mod, S.kind, rfl, rfl, Nat.le_refl _, fun x y c hx hy => ?_, fun x hx => ?_, fun x c hx hc => ?_, fun _ => hd, Around.frames_deeper e0.frames, .inr ⟨rfl, rfl⟩, fun b z => absurd z (noA b), fun b o e => ⟨(e0.bs b o e).1, dn b (e0.bs b o e).2⟩, e0.bsz, fun b _ _ => noA b, fun b z => absurd z (noA b), e0.funs, fun b hb => dn b (e0.frf b hb)⟩,
    rfl, e0.bare, Un.kept hk, ⟨_, xc.toInCall.ns, fun i x v e1 e2 e3 => ?_⟩, fun x c e => ?_, hok0.fresh (Nat.le_refl _), fun x c e => ?_, fun p hp => absurd (show p ∈ ([] : List (Addr × Obj)) from hp) (by simp), hok0.kept hk, ?_⟩
  · rcases two x c hx with ⟨z1, z2⟩ | ⟨_, z1, z2⟩ <;> rcases two y c hy with ⟨z3, z4⟩ | ⟨_, z3, z4⟩
    · exact name_of_addr xc.apart (mem_of_lookup' z1) (mem_of_lookup' z3)
    · exact absurd (Nat.lt_trans z2 z4) (Nat.lt_irrefl _)
    · exact absurd (Nat.lt_trans z4 z2) (Nat.lt_irrefl _)
    · exact inj x y c z1 z3
  · have hx : scope.names.lookup x = some .cell ∨ scope.names.lookup x = some .free := hx
    show ∃ c, (cellsFrom (s.heap.objs.size + 1) scope.names [] ++ cl).lookup x = some c
    rw [look_app]
    rcases hx with z | z
    · obtain ⟨c, e⟩ := cell_has (n := s.heap.objs.size + 1) z
      exact ⟨c, by rw [e]; rfl⟩
    · obtain ⟨c, e⟩ := hfr (x, .free) (mem_of_lookup' z) rfl
      exact ⟨c, by rw [free' x z]; exact e⟩
  · have hx' : scope.names.lookup x = some .cell := beq_iff_eq.mp hx
    obtain ⟨c', e⟩ := cell_has (n := s.heap.objs.size + 1) hx'
    rcases two x c hc with ⟨z1, z2⟩ | ⟨z1, _⟩
    · exact Nat.le_of_lt z2
    · rw [e] at z1; cases z1
  · have e1' : (own ++ cap)[i]? = some x := e1
    have e2' : (vs.map some ++ List.replicate (own.length - vs.length) none ++ cv.map some)[i]? = some (some v) := e2
    have lo : (vs.map some ++ List.replicate (own.length - vs.length) (none : Option V)).length = own.length := by rw [List.length_append, List.length_map, List.length_replicate]; omega
    by_cases hi : i < own.length
    · rw [List.getElem?_append_left (by omega)] at e2'
      by_cases hv : i < vs.length
      · rw [List.getElem?_append_left (by simpa using hv), List.getElem?_map] at e2'
        rw [List.getElem?_append_left hi] at e1'
        have ha : vs[i]? = some v := by
          cases q : vs[i]? with
          | none => rw [q] at e2'; cases e2'
          | some z => rw [q] at e2'; exact congrArg some (Option.some.inj (Option.some.inj e2'))
        obtain ⟨u, hu, ru⟩ := r.get ha
        have hp : ps[i]? = some x := by rw [← S.pre, List.getElem?_take_of_lt (by omega)]; exact e1'
        refine ⟨u, ru, ?_⟩
        rcases S.par x (List.mem_of_getElem? hp) with k | k
        · exact .inl ⟨k, bindL_get S.nd hp hu k⟩
        · obtain ⟨c, e⟩ := cell_has (n := s.heap.objs.size + 1) k
          have qc := xc.cell x c e
          rw [bindC_get S.nd hp hu (by show scope.names.lookup x ≠ _; rw [k]; decide)] at qc
          refine .inr ⟨.inl k, c, ?_, qc⟩
          show (cellsFrom (s.heap.objs.size + 1) scope.names [] ++ cl).lookup x = some c
          rw [look_app, e]; rfl
      · rw [List.getElem?_append_right (by simpa using Nat.le_of_not_lt hv), List.getElem?_replicate] at e2'
        split at e2' <;> cases e2'
    · rw [List.getElem?_append_right (by omega), lo, List.getElem?_map] at e2'
      rw [List.getElem?_append_right (by omega)] at e1'
      have ha : cv[i - own.length]? = some v := by
        cases q : cv[i - own.length]? with
        | none => rw [q] at e2'; cases e2'
        | some z => rw [q] at e2'; exact congrArg some (Option.some.inj (Option.some.inj e2'))
      obtain ⟨c, o, u, hc, hz, hd', ru⟩ := caps_at hcap e1' ha
      have hf' := S.cap x (List.mem_of_getElem? e1')
      refine ⟨u, ru, .inr ⟨.inr hf', c, ?_, o, hk c o (e0.hok c _ hz).1, hd'⟩⟩
      show (cellsFrom (s.heap.objs.size + 1) scope.names [] ++ cl).lookup x = some c
      rw [look_app, free' x hf']; exact hc
  · rcases two x c e with ⟨z1, z2⟩ | ⟨_, z1, z2⟩
    · exact ⟨_, xc.cell x c z1⟩
    · obtain ⟨o, v, ho, hd'⟩ := at' x c z1
      exact ⟨v, o, hk c o ho, hd'⟩
  · rcases two x c e with ⟨z1, z2⟩ | ⟨_, z1, z2⟩
    · exact hok0.fresh (Nat.le_of_lt z2)
    · exact if_pos ⟨x, z1⟩
  · have := paired_len hcap
    show (vs.map some ++ List.replicate (own.length - vs.length) none ++ cv.map some).length = (own ++ cap).length
    rw [List.length_append, List.length_append, List.length_map, List.length_replicate, List.length_map, List.length_append]
    omega
theorem clo_finM {N : List Str} {pins : List (Addr × Obj)} {σ' : St} {H2 : Hp} {s' : Shared} {v : V} {u : Value} {Q : VK} (e0 : Env0 P w K mg base A outer s H) (hcl : ∀ x c, cl.lookup x = some c → ∃ o v, H c = some (.frz o (.own c)) ∧ o.data = .cell v)
    (J : Inv (cxM P w K mg base N qual scope cl f cd A outer s H) pins σ' H2 s') (rv : RelV v u) (q : (∀ b, InCl cl b → H2 b = none) → Q v (mixL cl H H2)) : CE outer P w H s Q u s' := by
  classical
  have d1 : ∀ b, ¬ InCl cl b → dropL cl H b = H b := fun b n => if_neg n
  have m1 : ∀ b, ¬ InCl cl b → mixL cl H H2 b = H2 b := fun b n => if_neg n
  have nc : ∀ b, H b = none → ¬ InCl cl b := fun b e ⟨x, z⟩ => by
    obtain ⟨o, v, z2, _⟩ := hcl x b z
    rw [z2] at e; cases e
  have un : Un (frs outer) [] (dropL cl H) H2 s.heap s'.heap := J.base
  have cellK : ∀ x c, cl.lookup x = some c → ∃ o, H c = some (.frz o (.own c)) ∧ s'.heap.get? c = some o ∧ H2 c = none := fun x c e => by
    obtain ⟨o, v, z, _⟩ := hcl x c e
    have ho := (e0.hok c _ z).1
    have dz : dropL cl H c = none := if_pos ⟨x, e⟩
    have nf : c ∉ frs outer := fun hb => by rw [e0.frf c hb] at z; cases z
    exact ⟨o, z, un.keep c o ho dz nf (by simp), un.free c o ho dz (by simp)⟩
  have nm : ∀ b u, H2 b = some u → ¬ InCl cl b := fun b u e ⟨x, z⟩ => by
    obtain ⟨_, _, _, z2⟩ := cellK x b z
    rw [z2] at e; cases e
  refine ⟨v, mixL cl H H2, J.os, J.bare, ⟨fun b o e n hf hx => un.keep b o e (by rw [d1 b (nc b n)]; exact n) hf hx, fun b o e n hf hx => un.slot b o e (by rw [d1 b (nc b n)]; exact n) hf hx, fun b o e n hx => by rw [m1 b (nc b n)]; exact un.free b o e (by rw [d1 b (nc b n)]; exact n) hx, un.there, fun b xs e => ?_, fun b o a e => ?_, fun b qs ps e => ?_⟩, fun b u e => ?_, rv, q fun b ⟨x, z⟩ => let ⟨_, _, _, z2⟩ := cellK x b z; z2⟩
  · have hc := drop_cells hcl e fun _ _ y => nomatch y
    rw [m1 b hc]; exact un.tups b xs (by rw [d1 b hc]; exact e)
  · by_cases hc : InCl cl b
    · show (if InCl cl b then H b else H2 b) = _
      rw [if_pos hc]; exact e
    · rw [m1 b hc]; exact un.frzs b o a (by rw [d1 b hc]; exact e)
  · have hc := drop_cells hcl e fun _ _ y => nomatch y
    rw [m1 b hc]; exact un.tbls b qs ps (by rw [d1 b hc]; exact e)
  · by_cases hc : InCl cl b
    · have e' : H b = some u := by rw [← e]; exact (if_pos hc).symm
      obtain ⟨x, z⟩ := hc
      obtain ⟨o, z1, z2, _⟩ := cellK x b z
      rw [z1] at e'; cases e'
      exact ⟨z2, o, z2⟩
    · rw [m1 b hc] at e
      exact (J.hok b u e).stay (fun _ _ _ z => z) (fun c z => by rw [m1 c (nm c _ z)]; exact z) (fun c _ _ _ _ z => by rw [m1 c (nm c _ z)]; exact z) fun c xs z => by rw [m1 c (nm c _ z)]; exact z
end
section
variable {P : Program} {w : World} {K : PySem.W.Frag} {mg : Str → Option Value} {base : Heap} {H : Hp} {own ps cap : List Str} {name qual : Str} {params : Arguments} {scope : Scope} {cl : List (Str × Addr)} {f c' : Addr} {oc : Obj} {ct pm : Value} {cv : List V} {k : Nat} {sp : Sp}
theorem clo_exprM {body : Expr} (S : CloScopeM own ps cap scope) (hlo : ps.length ≤ own.length) (hf : H f = some (fnO (cloFd name qual params (.expr body) scope cl ct (.ref c') pm) f)) (hcode : H c' = some (.frz oc (.own c'))) (co : CodeObj oc qual)
    (hcl : ∀ x c, cl.lookup x = some c → ∃ o v, H c = some (.frz o (.own c)) ∧ o.data = .cell v) (hfr : ∀ p ∈ scope.names, p.2 = .free → ∃ c, cl.lookup p.1 = some c) (inj : ∀ x y c, cl.lookup x = some c → cl.lookup y = some c → x = y) (hcap : Caps H cl cap cv)
    (hbind : ∀ us : List Value, us.length = ps.length → bindArgs (cloFd name qual params (.expr body) scope cl ct (.ref c') pm) ⟨us, []⟩ = pure (ps.zip us))
    (hbody : ∀ (A : Around) (outer : List Env) (s : Shared) (H' : Hp) (vs : List V) (Q : VK), Room k (A.deeper (envM qual scope cl s.heap.objs.size f (.ref c'))) → Frz H H' → vs.length = ps.length → sp vs H' Q E0 →
      ∃ t, PE (cxM P w K mg base (own ++ cap) qual scope cl f (.ref c') A outer s H') body t ∧ t (stL own vs cv) (dropL cl H') (fun v H2 => (∀ b, InCl cl b → H2 b = none) → Q v (mixL cl H' H2))) : CloH P w K mg base (k + 1) H f ps.length sp := by
  intro A outer s H' us vs Q hr e0 fz r hl hsp
  have lim : s.heap.NoLimit := e0.mod.nolimit.keeps fun b o e => (e0.bs b o e).1
  have ho := (e0.hok f _ (fz _ _ _ hf)).1
  have hoc := (e0.hok c' _ (fz _ _ _ hcode)).1
  obtain ⟨ws, t', cd1, cd2⟩ := co
  have hlu : us.length = ps.length := by rw [← r.length]; exact hl
  have hcl' : ∀ x c, cl.lookup x = some c → ∃ o v, H' c = some (.frz o (.own c)) ∧ o.data = .cell v := fun x c e => let ⟨o, v, z, d⟩ := hcl x c e; ⟨o, v, fz _ _ _ z, d⟩
  refine codeAny_call_exprC hr.depth ho rfl S.co S.gen rfl ⟨c', oc, ws, t', rfl, hoc, cd1, cd2⟩ ?_
  rw [hbind us hlu]
  refine wpAny_pure (newEnvM S.kind (fun y hy => S.par y.1 (List.of_mem_zip (show (y.1, y.2) ∈ ps.zip us from hy)).1) fun s1 x => ?_)
  refine ⟨lim.keeps x.toInCall.keep, codeAny_exprC ?_⟩
  obtain ⟨t, ht, hq⟩ := hbody A outer s H' vs Q (hr.deeper _) fz hl hsp
  have I := inv_cloM (qual := qual) (f := f) (cd := .ref c') S hr.hd e0 hl hlo r hcl' hfr inj (hcap.frz fz) x
  exact wpAny_mono (ht [] _ _ _ _ I hq) (fun u s' ⟨v, H2, J, rv, q⟩ => clo_finM e0 hcl' J rv q) fun _ _ z => z.elim
theorem clo_stmtsM {body : List Stmt} (S : CloScopeM own ps cap scope) (hlo : ps.length ≤ own.length) (hf : H f = some (fnO (cloFd name qual params (.stmts body) scope cl ct (.ref c') pm) f)) (hcode : H c' = some (.frz oc (.own c'))) (co : CodeObj oc qual)
    (hcl : ∀ x c, cl.lookup x = some c → ∃ o v, H c = some (.frz o (.own c)) ∧ o.data = .cell v) (hfr : ∀ p ∈ scope.names, p.2 = .free → ∃ c, cl.lookup p.1 = some c) (inj : ∀ x y c, cl.lookup x = some c → cl.lookup y = some c → x = y) (hcap : Caps H cl cap cv)
    (hbind : ∀ us : List Value, us.length = ps.length → bindArgs (cloFd name qual params (.stmts body) scope cl ct (.ref c') pm) ⟨us, []⟩ = pure (ps.zip us))
    (hbody : ∀ (A : Around) (outer : List Env) (s : Shared) (H' : Hp) (vs : List V) (Q : VK), Room k (A.deeper (envM qual scope cl s.heap.objs.size f (.ref c'))) → Frz H H' → vs.length = ps.length → sp vs H' Q E0 →
      ∃ t, PSs (cxM P w K mg base (own ++ cap) qual scope cl f (.ref c') A outer s H') body t ∧ t { nx := fun _ H2 => (∀ b, InCl cl b → H2 b = none) → Q .non (mixL cl H' H2), rt := fun v H2 => (∀ b, InCl cl b → H2 b = none) → Q v (mixL cl H' H2) } (stL own vs cv) (dropL cl H')) : CloH P w K mg base (k + 1) H f ps.length sp := by
  intro A outer s H' us vs Q hr e0 fz r hl hsp
  have lim : s.heap.NoLimit := e0.mod.nolimit.keeps fun b o e => (e0.bs b o e).1
  have ho := (e0.hok f _ (fz _ _ _ hf)).1
  have hoc := (e0.hok c' _ (fz _ _ _ hcode)).1
  obtain ⟨ws, t', cd1, cd2⟩ := co
  have hlu : us.length = ps.length := by rw [← r.length]; exact hl
  have hcl' : ∀ x c, cl.lookup x = some c → ∃ o v, H' c = some (.frz o (.own c)) ∧ o.data = .cell v := fun x c e => let ⟨o, v, z, d⟩ := hcl x c e; ⟨o, v, fz _ _ _ z, d⟩
  refine codeAny_call_function hr.depth ho rfl S.co S.gen rfl ⟨c', oc, ws, t', rfl, hoc, cd1, cd2⟩ ?_
  rw [hbind us hlu]
  refine wpAny_pure (newEnvM S.kind (fun y hy => S.par y.1 (List.of_mem_zip (show (y.1, y.2) ∈ ps.zip us from hy)).1) fun s1 x => ?_)
  refine ⟨lim.keeps x.toInCall.keep, codeAny_func ?_⟩
  obtain ⟨t, ht, hq⟩ := hbody A outer s H' vs Q (hr.deeper _) fz hl hsp
  have I := inv_cloM (qual := qual) (f := f) (cd := .ref c') S hr.hd e0 hl hlo r hcl' hfr inj (hcap.frz fz) x
  refine wpAny_mono (ht [] _ _ _ _ I hq) (fun fl s' hs => ?_) fun _ _ z => z.elim
  cases fl with
  | ret u =>
    obtain ⟨v, σ', H2, J, rv, q⟩ := hs
    exact clo_finM e0 hcl' J rv q
  | next =>
    obtain ⟨σ', H2, J, q⟩ := hs
    exact clo_finM (v := V.non) (u := Value.none) e0 hcl' J rfl q
  | brk =>
    obtain ⟨_, _, _, q⟩ := hs
    exact False.elim q
  | cont =>
    obtain ⟨_, _, _, q⟩ := hs
    exact False.elim q
end
section
variable {X : Cx} {H H1 H1' Hq : Hp} {σ : St} {name qual : Str} {params : Arguments} {scope : Scope} {f : Addr} {own ps cap : List Str} {cv : List V} {k : Nat} {sp : Sp}
theorem Made.clo_eM {body : Expr} (M : Made X H H1 name qual params (.expr body) scope f) (g : Same H1 H1') (ad : Adopted X σ H1' Hq) (S : CloScopeM own ps cap scope) (hlo : ps.length ≤ own.length) (hcap : CapAt X σ cap cv)
    (hbind : ∀ (cl : List (Str × Addr)) (ct cd pm : Value) (us : List Value), us.length = ps.length → bindArgs (cloFd name qual params (.expr body) scope cl ct cd pm) ⟨us, []⟩ = pure (ps.zip us))
    (hbody : ∀ (cl : List (Str × Addr)) (c' : Addr) (A : Around) (outer : List Env) (s : Shared) (H' : Hp) (vs : List V) (Q : VK), Room k (A.deeper (envM qual scope cl s.heap.objs.size f (.ref c'))) → ClOk cl H' → Frz Hq H' → Frz H1' (dropL cl H') → vs.length = ps.length → sp vs H' Q E0 →
      ∃ t, PE (cxM X.prog X.w X.K X.mg X.base (own ++ cap) qual scope cl f (.ref c') A outer s H') body t ∧ t (stL own vs cv) (dropL cl H') (fun v H2 => (∀ b, InCl cl b → H2 b = none) → Q v (mixL cl H' H2))) : CloH X.prog X.w X.K X.mg X.base (k + 1) Hq f ps.length sp := by
  obtain ⟨cl, ct, c', oc, pm, l1, l2, l3, l4, l5⟩ := M.ex
  have hcl : ClOk cl Hq := fun x c e => let ⟨o, v, z1, z2, _⟩ := ad.2.2.2 x c (l1 x c e); ⟨o, v, z1, z2⟩
  have up := ad.up
  refine clo_exprM S hlo (up _ _ (g _ _ l5)) (up _ _ (g _ _ l3)) l4 hcl l2 (fun x y c e1 e2 => ad.2.2.1 x y c (l1 x c e1) (l1 y c e2)) (caps_of ad l1 (fun x hx => l2 (x, .free) (mem_of_lookup' (S.cap x hx)) rfl) hcap) (hbind cl ct _ pm) fun A outer s H' vs Q hr fz hl hsp => ?_
  exact hbody cl c' A outer s H' vs Q hr (fun x c e => let ⟨o, v, z, d⟩ := hcl x c e; ⟨o, v, fz _ _ _ z, d⟩) fz (frz_drop ad l1 fz) hl hsp
theorem Made.clo_sM {body : List Stmt} (M : Made X H H1 name qual params (.stmts body) scope f) (g : Same H1 H1') (ad : Adopted X σ H1' Hq) (S : CloScopeM own ps cap scope) (hlo : ps.length ≤ own.length) (hcap : CapAt X σ cap cv)
    (hbind : ∀ (cl : List (Str × Addr)) (ct cd pm : Value) (us : List Value), us.length = ps.length → bindArgs (cloFd name qual params (.stmts body) scope cl ct cd pm) ⟨us, []⟩ = pure (ps.zip us))
    (hbody : ∀ (cl : List (Str × Addr)) (c' : Addr) (A : Around) (outer : List Env) (s : Shared) (H' : Hp) (vs : List V) (Q : VK), Room k (A.deeper (envM qual scope cl s.heap.objs.size f (.ref c'))) → ClOk cl H' → Frz Hq H' → Frz H1' (dropL cl H') → vs.length = ps.length → sp vs H' Q E0 →
      ∃ t, PSs (cxM X.prog X.w X.K X.mg X.base (own ++ cap) qual scope cl f (.ref c') A outer s H') body t ∧ t { nx := fun _ H2 => (∀ b, InCl cl b → H2 b = none) → Q .non (mixL cl H' H2), rt := fun v H2 => (∀ b, InCl cl b → H2 b = none) → Q v (mixL cl H' H2) } (stL own vs cv) (dropL cl H')) : CloH X.prog X.w X.K X.mg X.base (k + 1) Hq f ps.length sp := by
  obtain ⟨cl, ct, c', oc, pm, l1, l2, l3, l4, l5⟩ := M.ex
  have hcl : ClOk cl Hq := fun x c e => let ⟨o, v, z1, z2, _⟩ := ad.2.2.2 x c (l1 x c e); ⟨o, v, z1, z2⟩
  have up := ad.up
  refine clo_stmtsM S hlo (up _ _ (g _ _ l5)) (up _ _ (g _ _ l3)) l4 hcl l2 (fun x y c e1 e2 => ad.2.2.1 x y c (l1 x c e1) (l1 y c e2)) (caps_of ad l1 (fun x hx => l2 (x, .free) (mem_of_lookup' (S.cap x hx)) rfl) hcap) (hbind cl ct _ pm) fun A outer s H' vs Q hr fz hl hsp => ?_
  exact hbody cl c' A outer s H' vs Q hr (fun x c e => let ⟨o, v, z, d⟩ := hcl x c e; ⟨o, v, fz _ _ _ z, d⟩) fz (frz_drop ad l1 fz) hl hsp
end
end L2
namespace SM
open PySem PySem.Spec PyProof.Rows L2 SS
def subs : Nat → List (List Nat)
  | 0 => [[]]
  | n + 1 => subs n ++ (subs n).map (· ++ [n])
theorem subs_len : ∀ n, (subs n).length = 2 ^ n
  | 0 => rfl
  | n + 1 => by rw [subs, List.length_append, List.length_map, subs_len n, Nat.pow_succ]; omega
def Rising (l : List Nat) : Prop := l.Pairwise (· < ·)
theorem subs_mem : ∀ (n : Nat) (l : List Nat), Rising l → (∀ x ∈ l, x < n) → l ∈ subs n
  | 0, l, _, h => by
    cases l with
    | nil => simp [subs]
    | cons x r => exact absurd (h x List.mem_cons_self) (Nat.not_lt_zero _)
  | n + 1, l, hl, h => by
    rw [subs, List.mem_append]
    rcases List.eq_nil_or_concat l with rfl | ⟨r, x, hr⟩
    · exact .inl (subs_mem n [] .nil (fun _ z => by cases z))
    · rw [List.concat_eq_append] at hr
      subst hr
      have hp := List.pairwise_append.mp hl
      have hx := h x (by simp)
      by_cases e : x = n
      · subst e
        exact .inr (List.mem_map.mpr ⟨r, subs_mem x r hp.1 (fun y hy => hp.2.2 y hy x (by simp)), rfl⟩)
      · refine .inl (subs_mem n _ hl fun y hy => ?_)
        rcases List.mem_append.mp hy with z | z
        · have := hp.2.2 y z x (by simp); omega
        · rw [List.mem_singleton.mp z]; omega
theorem rising_len {n : Nat} {l : List Nat} (hl : Rising l) (h : ∀ x ∈ l, x < n) : l.length ≤ n := by
  have nd : l.Nodup := hl.imp fun h => Nat.ne_of_lt h
  have := nodup_in (ys := List.range n) nd fun x hx => List.mem_range.mpr (h x hx)
  simpa using this
theorem rising_one : ∀ {a b : List Nat}, Rising a → Rising b → (∀ x, x ∈ a ↔ x ∈ b) → a = b
  | [], [], _, _, _ => rfl
  | [], y :: s, _, _, h => by have := (h y).mpr List.mem_cons_self; cases this
  | x :: r, [], _, _, h => by have := (h x).mp List.mem_cons_self; cases this
  | x :: r, y :: s, ha, hb, h => by
    have a1 := List.pairwise_cons.mp ha
    have b1 := List.pairwise_cons.mp hb
    have e : x = y := by
      rcases List.mem_cons.mp ((h x).mp List.mem_cons_self) with z | z
      · exact z
      · rcases List.mem_cons.mp ((h y).mpr List.mem_cons_self) with z' | z'
        · exact z'.symm
        · have := a1.1 y z'; have := b1.1 x z; omega
    subst e
    congr 1
    refine rising_one a1.2 b1.2 fun z => ⟨fun hz => ?_, fun hz => ?_⟩
    · rcases List.mem_cons.mp ((h z).mp (List.mem_cons_of_mem _ hz)) with q | q
      · have := a1.1 z hz; omega
      · exact q
    · rcases List.mem_cons.mp ((h z).mpr (List.mem_cons_of_mem _ hz)) with q | q
      · have := b1.1 z hz; omega
      · exact q
def comeL (m : Mc) (rs ls : List Nat) : List Nat := (List.range m.n).filter fun k => rs.any fun r => ls.any fun l => m.go r l == k
theorem comeL_rising {m : Mc} {rs ls : List Nat} : Rising (comeL m rs ls) := List.Pairwise.filter _ List.pairwise_lt_range
theorem comeL_lt {m : Mc} {rs ls : List Nat} {k : Nat} (h : k ∈ comeL m rs ls) : k < m.n := List.mem_range.mp (List.mem_filter.mp h).1
theorem comeL_mem {m : Mc} {rs ls : List Nat} {k : Nat} (hg : ∀ r ∈ rs, ∀ l ∈ ls, m.go r l < m.n) : k ∈ comeL m rs ls ↔ ∃ r ∈ rs, ∃ l ∈ ls, m.go r l = k := by
  unfold comeL
  rw [List.mem_filter, List.any_eq_true, List.mem_range]
  constructor
  · rintro ⟨_, r, hr, h⟩
    obtain ⟨l, hl, e⟩ := List.any_eq_true.mp h
    exact ⟨r, hr, l, hl, by simpa using e⟩
  · rintro ⟨r, hr, l, hl, rfl⟩
    exact ⟨hg r hr l hl, r, hr, List.any_eq_true.mpr ⟨l, hl, by simp⟩⟩
def put0 (l t : Nat) : Nat := l + l / 2 ^ t * 2 ^ t
theorem put_lt : ∀ w, w < 5 → ∀ t, t < w → ∀ l, l < 2 ^ (w - 1) → put0 l t + 2 ^ t < 2 ^ w := by decide +kernel
def dropT (m : Mc) (t : Nat) : Thg := ⟨m.w - 1, fun rs => (List.range (2 ^ (m.w - 1))).map fun l => comeL m rs [put0 l t, put0 l t + 2 ^ t], fun rs => rs.any m.fin⟩
def DropG (m : Mc) (rs : List Nat) : Prop := Rising rs ∧ ∀ r ∈ rs, r < m.n
theorem drop_step {m : Mc} {t : Nat} {rs : List Nat} : ((dropT m t).step rs).length = 2 ^ (dropT m t).w ∧ ∀ u ∈ (dropT m t).step rs, DropG m u := by
  refine ⟨by simp [dropT], fun u hu => ?_⟩
  obtain ⟨l, _, rfl⟩ := List.mem_map.mp hu
  exact ⟨comeL_rising, fun k hk => comeL_lt hk⟩
theorem drop_fnd {m : Mc} {t : Nat} {first : List Nat} {fs : List (List Nat)} {k : Nat} (h : Fnd (dropT m t) (DropG m) first fs k) (h5 : m.n ≤ 5) : fs.length ≤ 100 := by
  have a := nodup_in (ys := subs m.n) h.nd fun l hl => subs_mem _ _ (h.good l hl).1 (h.good l hl).2
  rw [subs_len] at a
  have : 2 ^ m.n ≤ 2 ^ 5 := Nat.pow_le_pow_right (by omega) h5
  omega
def sp_both : Sp := fun vs H Q _ => ∃ (l t : Nat), vs = [nV l, nV t] ∧ l < 16 ∧ t ≤ 4 ∧ ∀ p H', New H p (.tup [nV (put0 l t), nV (put0 l t + 2 ^ t)]) H' → Q (.ref p) H'
def sp_dropped (Pr : Addr) (qr : List (Pos × Str)) (Pd : Addr) (qd : List (Pos × Str)) : Sp := fun vs H Q _ => ∃ (a : Addr) (m : Mc) (t : Nat), vs = [.ref a, nV t] ∧ TabOk H Pr qr ∧ TabOk H Pd qd ∧ RepM H a m ∧ m.Ok ∧ m.n ≤ 5 ∧ t < m.w ∧
  ExQ (dropT m t) [0] H Q
def sp_belowB : Sp := fun vs H Q _ => ∃ (r n : Int), vs = [.int r, .int n] ∧ Q (.bl (decide (0 ≤ r ∧ r < n))) H
end SM
namespace L2
open PySem PySem.Spec PyProof.Rows
def rSortI (K : PySem.W.Frag) : List V → Hp → VK → Prop := fun xs H Q => ∃ (p : Addr) (ns : List Int), xs = [.ref p] ∧ SqL K H p (ns.map V.int) ∧ ns.length < 64 ∧ ∀ (ms : List Int), ms.Perm ns → ms.Pairwise (· ≤ ·) → ∀ L H', New H L (.lst (ms.map V.int)) H' → Q (.ref L) H'
theorem call_sorted_int {X : Cx} (K : PySem.W.Frag) (hK : X.K = K := by rfl) : CallR X (.builtin "sorted") (rSortI K) := by
  subst hK
  intro pins s σ H xs us Q I r h
  obtain ⟨p, ns, rfl, hq, hz, q⟩ := h
  obtain ⟨u, rfl, rx⟩ := vals1 r
  cases (show u = Value.ref p from rx)
  obtain ⟨its, r', pl, hz'⟩ := I.list hq
  have hI := intsAre_of r'
  have hl : its.length < 64 := by have := r'.length; rw [List.length_map] at this; omega
  refine sorted_ints pl.isList hI hl fun out ms a1 a2 a3 => ?_
  obtain ⟨e, he⟩ := sortedAll_at s.heap its out
  have vl : Vals (ms.map V.int) out.toList := vals_intsT a1
  have le : s.heap.objs.size ≤ s.heap.objs.size + 1 := Nat.le_succ _
  have nf : H (s.heap.objs.size + 1) = none := I.hok.fresh le
  refine ⟨.ref (s.heap.objs.size + 1), _, I.laid (t' := s.toks) (o := .lst (ms.map V.int)) (fun b u z => sortedAll_old z) le ⟨?_, out.toList, e, vl, he⟩, rfl, q ms a2 a3 _ _ (New.mk' nf _)⟩
  rw [List.length_map, a2.length_eq]
  exact small_line (by omega)
end L2
namespace SM
open PySem PySem.Spec PyProof.Rows L2 SS
def sp_coming12 : Sp := fun vs H Q _ => ∃ (a b c : Addr) (m : Mc) (rs ls : List Nat), vs = [.ref a, .ref b, .ref c] ∧ RepM H a m ∧ m.Ok ∧ H b = some (.tup (rs.map nV)) ∧ H c = some (.tup (ls.map nV)) ∧ (∀ r ∈ rs, r < m.n) ∧ (∀ l ∈ ls, l < 2 ^ m.w) ∧ rs.length ≤ 12 ∧ ls.length ≤ 2 ∧
  ∀ p (ms : List Nat) H', Same H H' → H' p = some (.tup (ms.map nV)) → ms.Pairwise (· < ·) → (∀ k, k ∈ ms ↔ ∃ r ∈ rs, ∃ l ∈ ls, m.go r l = k) → Q (.ref p) H'
theorem pair_at {m1 m2 : Mc} {op : Bool → Bool → Bool} (o1 : m1.Ok) (o2 : m2.Ok) (hw : m1.w = m2.w) {x y l : Nat} (hx : x < m1.n) (hy : y < m2.n) (hl : l < 2 ^ m1.w) : ((pairT m1 m2 op).step [x, y])[l]? = some [m1.go x l, m2.go y l] := by
  obtain ⟨l1, e1, f1, _⟩ := o1.at hx hl
  obtain ⟨l2, e2, f2, _⟩ := o2.at hy (by rw [← hw]; exact hl)
  show (((m1.ways.getD x []).zip (m2.ways.getD y [])).map fun p => [p.1, p.2])[l]? = _
  have z : (l1.zip l2)[l]? = some (m1.go x l, m2.go y l) := List.getElem?_zip_eq_some.mpr ⟨f1, f2⟩
  rw [List.getD_eq_getElem?_getD, List.getD_eq_getElem?_getD, e1, e2, List.getElem?_map, Option.getD_some, Option.getD_some, z]
  rfl
theorem news_nil_mem {α : Type} [DecidableEq α] (xs : List α) (x : α) : x ∈ news [] xs ↔ x ∈ xs := by
  rw [news_mem]; simp
theorem inV_nn (z : Nat) : ∀ l : List Nat, inV (nV z) (l.map nV) = decide (z ∈ l)
  | [] => rfl
  | y :: r => by
    have e : inV (nV z) ((y :: r).map nV) = (eqV (nV y) (nV z) || inV (nV z) (r.map nV)) := rfl
    have e2 : eqV (nV y) (nV z) = decide (y = z) := by
      show decide (((y : Nat) : Int) = ((z : Nat) : Int)) = _
      by_cases h : y = z
      · subst h; simp
      · rw [decide_eq_false h, decide_eq_false (by omega)]
    rw [e, e2, inV_nn z r]
    by_cases h : y = z
    · subst h; simp
    · have h' : ¬ z = y := fun e => h e.symm
      simp [h, h']
theorem sorted_is {ms : List Int} {W : List Nat} (hp : ms.Perm (W.map fun k : Nat => (k : Int))) (hs : ms.Pairwise (· ≤ ·)) (hn : W.Nodup) {L : List Nat} (hL : Rising L) (hm : ∀ k, k ∈ W ↔ k ∈ L) : ms.map V.int = L.map nV := by
  have mem : ∀ z ∈ ms, ∃ k ∈ W, z = (k : Int) := fun z hz => by
    obtain ⟨k, hk, e⟩ := List.mem_map.mp (hp.mem_iff.mp hz)
    exact ⟨k, hk, e.symm⟩
  have nd : ms.Nodup := by
    refine hp.nodup_iff.mpr ?_
    rw [List.Nodup, List.pairwise_map]
    exact hn.imp fun h e => h (by omega)
  have r1 : Rising (ms.map Int.toNat) := by
    rw [Rising, List.pairwise_map]
    refine List.Pairwise.imp_of_mem (fun {x y} hx hy z => ?_) (List.Pairwise.and hs nd)
    obtain ⟨x', _, rfl⟩ := mem x hx
    obtain ⟨y', _, rfl⟩ := mem y hy
    obtain ⟨z1, z2⟩ := z
    omega
  have e5 : ms.map Int.toNat = L := by
    refine rising_one r1 hL fun k => ?_
    rw [← hm k, List.mem_map]
    constructor
    · rintro ⟨z, hz, rfl⟩
      obtain ⟨k, hk, rfl⟩ := mem z hz
      exact hk
    · intro hk
      exact ⟨(k : Int), hp.mem_iff.mpr (List.mem_map.mpr ⟨k, hk, rfl⟩), rfl⟩
  rw [← e5, List.map_map]
  refine List.map_congr_left fun z hz => ?_
  obtain ⟨k, _, rfl⟩ := mem z hz
  rfl
def sp_heap25 : Sp := fun vs H Q _ => ∃ (a b c : Addr) (m : Mc) (rs ls : List Nat), vs = [.ref a, .ref b, .ref c] ∧ RepM H a m ∧ m.Ok ∧ H b = some (.tup (rs.map nV)) ∧ H c = some (.lst (ls.map nV)) ∧ (∀ r ∈ rs, r < m.n) ∧ (∀ l ∈ ls, l < 2 ^ m.w) ∧ rs.length ≤ 12 ∧ ls.length ≤ 2 ∧
  ∀ p H', Same H H' → H' p = some (.tup ((comeL m rs ls).map nV)) → Q (.ref p) H'
end SM
namespace L2
open PySem PySem.Spec PyProof.Rows
abbrev Key2 := Key ⊕ List Key
section
variable {prog : Program} {w : World}
def Is2 (prog : Program) (w : World) (h : Heap) : Key2 → Value → Prop
  | .inl k, v => (mixKind prog w).is k v = true
  | .inr l, v => ∃ b, v = .ref b ∧ IsTupleKey (mixKind prog w) h l b
inductive Its2 (prog : Program) (w : World) (h : Heap) : List Key2 → List Value → Prop
  | nil : Its2 prog w h [] []
  | cons {k : Key2} {v : Value} {ks : List Key2} {vs : List Value} : Is2 prog w h k v → Its2 prog w h ks vs → Its2 prog w h (k :: ks) (v :: vs)
def IsNest (prog : Program) (w : World) (h : Heap) (ks : List Key2) (a : Addr) : Prop := ∃ o items n, h.get? a = some o ∧ o.cls = .type "tuple" ∧ o.data = .seq items n ∧ Its2 prog w h ks items.toList
theorem by_value {k : Key} {v : Value} (h : (mixKind prog w).is k v = true) : carriedByValue v = true := (mixKind prog w).byValue _ _ h
theorem Is2.inj {h : Heap} {x y : Key2} {v : Value} (hx : Is2 prog w h x v) (hy : Is2 prog w h y v) : x = y := by
  cases x with
  | inl k =>
    cases y with
    | inl j => rw [(mixKind prog w).inj _ _ _ hx hy]
    | inr l =>
      obtain ⟨b, rfl, _⟩ := hy
      exact absurd (by_value hx) (by simp [carriedByValue])
  | inr l =>
    obtain ⟨b, rfl, hb⟩ := hx
    cases y with
    | inl j => exact absurd (by_value hy) (by simp [carriedByValue])
    | inr l' =>
      obtain ⟨b', e, hb'⟩ := hy
      cases e
      rw [hb.inj hb']
theorem Its2.inj {h : Heap} {vs : List Value} : ∀ {x y : List Key2}, Its2 prog w h x vs → Its2 prog w h y vs → x = y := by
  intro x y hx
  induction hx generalizing y with
  | nil => intro hy; cases hy; rfl
  | cons h1 _ ih =>
    intro hy
    cases hy with
    | cons h2 t2 => rw [h1.inj h2, ih t2]
theorem IsNest.ty {s : Shared} {ks : List Key2} {a : Addr} (x : IsNest prog w s.heap ks a) : s.TypeIs (.ref a) "tuple" := let ⟨o, _, _, ho, hc, _⟩ := x; ⟨o, ho, hc⟩
theorem IsNest.inj {h : Heap} {a : Addr} {x y : List Key2} (hx : IsNest prog w h x a) (hy : IsNest prog w h y a) : x = y := by
  obtain ⟨o, its, n, ho, _, hd, hi⟩ := hx
  obtain ⟨o', its', n', ho', _, hd', hi'⟩ := hy
  rw [ho] at ho'; cases ho'
  rw [hd] at hd'; cases hd'
  exact hi.inj hi'
theorem Is2.keeps {h h' : Heap} {d : Addr} {o : Obj} {es ep} {k : Key2} {v : Value} (x : Is2 prog w h k v) (ho : h.get? d = some o) (hd : o.data = .dict es ep) (hs : Heap.SameBut d h h') : Is2 prog w h' k v := by
  cases k with
  | inl k => exact x
  | inr l =>
    obtain ⟨b, e, hb⟩ := x
    exact ⟨b, e, hb.keeps ho hd hs⟩
theorem Its2.keeps {h h' : Heap} {d : Addr} {o : Obj} {es ep} (ho : h.get? d = some o) (hd : o.data = .dict es ep) (hs : Heap.SameBut d h h') {ks : List Key2} {vs : List Value} (x : Its2 prog w h ks vs) : Its2 prog w h' ks vs := by
  induction x with
  | nil => exact .nil
  | cons h1 _ ih => exact .cons (h1.keeps ho hd hs) ih
theorem IsNest.keeps {h h' : Heap} {ks : List Key2} {a d : Addr} {o : Obj} {es ep} (x : IsNest prog w h ks a) (ho : h.get? d = some o) (hd : o.data = .dict es ep) (hs : Heap.SameBut d h h') : IsNest prog w h' ks a := by
  obtain ⟨o', its, n, ho', hc, hd', hi⟩ := x
  have ne : a ≠ d := fun e => by
    subst e
    rw [ho] at ho'; cases ho'
    rw [hd] at hd'; cases hd'
  exact ⟨o', its, n, (hs.2 a ne).trans ho', hc, hd', hi.keeps ho hd hs⟩
def hash2 (prog : Program) (w : World) : Key2 → Int
  | .inl k => (mixKind prog w).hash k
  | .inr l => tupleKeyHash (mixKind prog w) l
def draws2 : Key2 → Nat
  | .inl _ => 1
  | .inr l => l.length + 1
def drawsN (ks : List Key2) : Nat := (ks.map draws2).foldr (· + ·) 0
theorem drawsN_snoc (ks : List Key2) (k : Key2) : drawsN (ks ++ [k]) = drawsN ks + draws2 k := by
  unfold drawsN
  induction ks with
  | nil => simp
  | cons x r ih =>
    rw [List.cons_append, List.map_cons, List.foldr_cons, ih, List.map_cons, List.foldr_cons]
    omega
variable {A : Around} {E : Value → Shared → Prop} {s : Shared}
theorem hash_item {k : Key2} {v : Value} {Q : Int → Shared → Prop} (hu : A.units < cLine) (x : Is2 prog w s.heap k v) (q : Q (hash2 prog w k) { s with toks := s.toks + draws2 k }) : wpAny (model prog w) A (pyHash v) Q E s := by
  cases k with
  | inl k => exact (mixKind prog w).pyHash x q
  | inr l =>
    obtain ⟨b, rfl, hb⟩ := x
    exact wpAny_pyHash_tuple hu hb q
def nestHash (prog : Program) (w : World) (ks : List Key2) : Int := reduceHash (Builtin.Tuple.tupleHashOf (ks.map (hash2 prog w)))
theorem hash_nest {ks : List Key2} {a : Addr} {Q : Int → Shared → Prop} (hu : A.units + 1 < cLine) (hk : IsNest prog w s.heap ks a) (q : Q (nestHash prog w ks) { s with toks := s.toks + (drawsN ks + 1) }) :
    wpAny (model prog w) A (pyHash (.ref a)) Q E s := by
  have ty := hk.ty
  obtain ⟨o, its, n, ho, _, hd, hi⟩ := hk
  unfold pyHash
  first | unfold pyHashByItsType | skip
  first | refine wpAny_bind (wpAny_cRoomFor_or (.inr (Nat.lt_of_succ_lt hu)) ?_) | skip
  refine wpAny_bind (wpAny_specialOf ty PySem.F.slot_tuple_hash.lookup ?_)
  show wpAny _ _ (if (some (Value.builtin "tuple.__hash__") == some Value.none) = true then _ else _) Q _ s
  rw [if_neg (by rw [beq_builtin_none]; exact fun z => nomatch z)]
  refine wpAny_bind (wpAny_specialOf ty PySem.F.slot_tuple_hash.lookup ?_)
  show wpAny _ _ (callSpecialIfBoundUnlessNone? (.ref a) "__hash__" _ >>= fun _ => _) Q _ s
  refine wpAny_bind (wpAny_callSpecialIfBoundUnlessNone?_slot ty PySem.F.slot_tuple_hash (wpAny_call_entry PySem.F.slot_tuple_hash ty PySem.F.entry_tuple_hash ?_ (PySem.F.args_tuple_hash_1 _)))
  show wpAny _ _ (Builtin.Tuple.tupleItemsOf (.ref a) >>= fun _ => _) _ _ s
  refine wpAny_bind (wpAny_tupleItemsOf ho hd (wpAny_bind ?_))
  rw [← Array.forIn_toList]
  refine wpAny_forIn_list _ (fun left (b : Array Int) s' => ∃ d l, ks = d ++ l ∧ Its2 prog w s.heap l left ∧ b.toList = d.map (hash2 prog w) ∧ s' = { s with toks := s.toks + drawsN d }) _ ?_ ?_ _ _ ⟨[], ks, rfl, hi, rfl, rfl⟩
  · rintro x left b s' ⟨d, l, rfl, hl, hb, rfl⟩
    cases hl with
    | @cons k _ l' _ h1 hl' =>
      refine wpAny_bind (hash_item (s := { s with toks := s.toks + drawsN d }) hu h1 ?_)
      have e1 : ({ s with toks := s.toks + drawsN d + draws2 k } : Shared) = { s with toks := s.toks + drawsN (d ++ [k]) } := by rw [drawsN_snoc, Nat.add_assoc]
      first
        | exact wpAny_pure ⟨d ++ [k], l', by simp, hl', by simp [hb], e1⟩
        | exact wpAny_bind (wpAny_pure (wpAny_pure ⟨d ++ [k], l', by simp, hl', by simp [hb], e1⟩))
  · rintro b s' ⟨d, l, rfl, hl, hb, rfl⟩
    cases hl
    rw [List.append_nil] at q
    show wpAny _ _ (retInt (Builtin.Tuple.tupleHashOf b.toList)) _ _ _
    rw [hb]
    refine wpAny_ret_mkInt ?_
    generalize hH : Builtin.Tuple.tupleHashOf (d.map (hash2 prog w)) = z
    unfold nestHash reduceHash at q
    rw [hH] at q
    show wpAny _ _ (if (decide (-(2 : Int) ^ 63 ≤ z) && decide (z < 2 ^ 63)) = true then _ else _) Q _ _
    by_cases hr : (decide (-(2 : Int) ^ 63 ≤ z) && decide (z < 2 ^ 63)) = true
    · rw [if_pos hr] at q ⊢
      exact wpAny_pure (by simpa [Nat.add_assoc] using q)
    · rw [if_neg hr] at q ⊢
      exact wpAny_bind (wpAny_rule (wpAny_pure (by simpa [Nat.add_assoc] using q)))
theorem dec_l {a b : Key} : decide ((Sum.inl a : Key2) = Sum.inl b) = decide (a = b) := by
  by_cases e : a = b
  · rw [e]; simp
  · rw [decide_eq_false e, decide_eq_false fun q => e (Sum.inl.inj q)]
theorem dec_r {a b : List Key} : decide ((Sum.inr a : Key2) = Sum.inr b) = decide (a = b) := by
  by_cases e : a = b
  · rw [e]; simp
  · rw [decide_eq_false e, decide_eq_false fun q => e (Sum.inr.inj q)]
theorem is_tuple {h : Heap} {l : List Key} {b : Addr} (x : IsTupleKey (mixKind prog w) h l b) : ∃ its, h.IsTuple b its := by
  obtain ⟨o, its, n, ho, hc, hd, _⟩ := x
  exact ⟨its, o, ho, hc, n, hd⟩
theorem eq_item {x y : Key2} {u v : Value} {Q : Bool → Shared → Prop} (hu : A.units < cLine) (hx : Is2 prog w s.heap x u) (hy : Is2 prog w s.heap y v) (q : Q (decide (x = y)) s) : wpAny (model prog w) A (eqBool u v) Q E s := by
  cases x with
  | inl k =>
    cases y with
    | inl j => rw [dec_l] at q; exact (mixKind prog w).eqBool hx hy q
    | inr l =>
      obtain ⟨b, rfl, hb⟩ := hy
      obtain ⟨its, tb⟩ := is_tuple hb
      rw [decide_eq_false (fun z => nomatch z)] at q
      rcases keyIs_shape hx with ⟨i, t, rfl, rfl⟩ | ⟨z, t, rfl, rfl⟩ | ⟨c, rfl, rfl⟩
      · exact SeqAt.EqAt.int_tuple i t tb hu prog w E Q q
      · exact SeqAt.EqAt.str_tuple z t tb hu prog w E Q q
      · exact SeqAt.EqAt.bool_tuple c tb hu prog w E Q q
  | inr l =>
    obtain ⟨b, rfl, hb⟩ := hx
    cases y with
    | inl j =>
      obtain ⟨its, tb⟩ := is_tuple hb
      rw [decide_eq_false (fun z => nomatch z)] at q
      rcases keyIs_shape hy with ⟨i, t, rfl, rfl⟩ | ⟨z, t, rfl, rfl⟩ | ⟨c, rfl, rfl⟩
      · exact SeqAt.EqAt.tuple_int i t tb hu prog w E Q q
      · exact SeqAt.EqAt.tuple_str z t tb hu prog w E Q q
      · exact SeqAt.EqAt.tuple_bool c tb hu prog w E Q q
    | inr l' =>
      obtain ⟨b', rfl, hb'⟩ := hy
      rw [dec_r] at q
      exact wpAny_eqBool_tuple hu hb hb' q
theorem nest_tree {x y : List Key2} {a b : Addr} {R : Fin → Shared → Prop} (hu : A.units < cLine) (hx : IsNest prog w s.heap x a) (hy : IsNest prog w s.heap y b) (q : R (.done (.ret (.bool (decide (x = y))))) s) :
    wpAny (model prog w) A (Builtin.«tuple.__eq__» ⟨[.ref a, .ref b], []⟩) R E s := by
  have tb := hy.ty
  obtain ⟨oa, xs, na, hoa, _, hda, hia⟩ := hx
  obtain ⟨ob, ys, nb, hob, _, hdb, hib⟩ := hy
  show wpAny _ _ (isInstance (.ref b) (.type "tuple") >>= fun _ => _) _ _ s
  refine wpAny_bind (wpAny_isInstance tb isSubtype_tuple_tuple ?_)
  simp only [if_false, Bool.false_eq_true, Bool.not_true]
  refine wpAny_bind (wpAny_tupleItemsOf hoa hda (wpAny_bind (wpAny_tupleItemsOf hob hdb (wpAny_bind ?_))))
  refine wpAny_forIn_list _ (fun left r s' => r.1 = none ∧ s' = s ∧ ∃ x' y' xs' ys', left = List.zip xs' ys' ∧ Its2 prog w s.heap x' xs' ∧ Its2 prog w s.heap y' ys' ∧ decide (x' = y') = decide (x = y) ∧ (xs'.length == ys'.length) = (xs.size == ys.size)) _ ?_ ?_ _ _
    ⟨rfl, rfl, x, y, xs.toList, ys.toList, rfl, hia, hib, rfl, by simp⟩
  · rintro ⟨u, v⟩ left r s' ⟨hr, rfl, x', y', xs', ys', hz, hx', hy', hdec, hlen⟩
    cases hx' with
    | nil => simp at hz
    | @cons k1 u' x2 xs2 h1 hx2 =>
      cases hy' with
      | nil => simp at hz
      | @cons k2 v' y2 ys2 h2 hy2 =>
        rw [List.zip_cons_cons] at hz
        cases hz
        refine wpAny_bind (eq_item hu h1 h2 ?_)
        by_cases hk : k1 = k2
        · subst hk
          rw [decide_eq_true rfl]
          simp only [if_false, Bool.false_eq_true, Bool.not_true]
          refine wpAny_pure ⟨rfl, rfl, x2, y2, xs2, ys2, rfl, hx2, hy2, ?_, by simpa using hlen⟩
          rw [← hdec]
          by_cases hxy : x2 = y2 <;> simp [hxy]
        · rw [decide_eq_false hk]
          simp only [if_true, Bool.not_false]
          have hf : decide (x = y) = false := by rw [← hdec]; simp [hk]
          rw [hf] at q
          exact wpAny_bind (wpAny_pure (wpAny_pure (wpAny_pure q)))
  · rintro ⟨r1, r2⟩ s' ⟨hr, rfl, x', y', xs', ys', hz, hx', hy', hdec, hlen⟩
    simp only at hr
    subst hr
    refine wpAny_pure ?_
    have e : (xs.size == ys.size) = decide (x = y) := by
      rw [← hdec, ← hlen]
      cases hx' with
      | nil => cases hy' <;> simp
      | cons _ _ =>
        cases hy' with
        | nil => simp
        | cons _ _ => simp at hz
    show R (.done (.ret (.bool (xs.size == ys.size)))) s'
    rw [e]; exact q
theorem eq_nest {x y : List Key2} {a b : Addr} {Q : Bool → Shared → Prop} (hu : A.units + 1 < cLine) (hx : IsNest prog w s.heap x a) (hy : IsNest prog w s.heap y b) (q : Q (decide (x = y)) s) : wpAny (model prog w) A (eqBool (.ref a) (.ref b)) Q E s := by
  unfold eqBool
  try with_reducible refine wpAny_holding ?_
  show wpAny _ _ (if (Value.ref a == Value.ref b) = true then _ else _) Q E s
  by_cases hab : (Value.ref a == Value.ref b) = true
  · rw [if_pos hab]
    cases eq_of_beq hab
    cases hx.inj hy
    exact wpAny_bind (wpAny_rule (wpAny_pure (by simpa using q)))
  · rw [if_neg hab]
    exact wpAny_bind (wpAny_richCompare_same_room (op := .Eq) hx.ty hy.ty PySem.F.slot_tuple_eq
      (wpAny_call_entry PySem.F.slot_tuple_eq hx.ty PySem.F.entry_tuple_eq (nest_tree hu hx hy ⟨_, rfl, (fun e => nomatch e), wpAny_truthy_bool q⟩) (PySem.F.args_tuple_eq_2 _ _)) (Nat.lt_of_succ_lt hu))
theorem quiet_key {n : Nat} {l : List Key} {a : Addr} {Q : Bool → Shared → Prop} (hk : IsTupleKey (mixKind prog w) s.heap l a) (q : Q true s) : wpAny (model prog w) A (eqIsQuiet (n + 1) (.ref a)) Q E s := by
  have ty := hk.typeIs
  obtain ⟨o, its, m, ho, _, hd, hi⟩ := hk
  unfold eqIsQuiet
  refine wpAny_bind (wpAny_specialOf ty PySem.F.slot_tuple_eq.lookup ?_)
  show wpAny _ _ (isInstance (.ref a) (.type "tuple") >>= fun _ => _) _ _ s
  refine wpAny_bind (wpAny_isInstance ty isSubtype_tuple_tuple ?_)
  simp only [if_false, Bool.false_eq_true, Bool.not_true]
  refine wpAny_bind (wpAny_seqItems ho hd (wpAny_bind ?_))
  show wpAny _ _ (forIn its _ _) _ _ s
  rw [← Array.forIn_toList]
  refine wpAny_forIn_list _ (fun left r s' => r.1 = none ∧ s' = s ∧ ∀ v ∈ left, carriedByValue v = true) _ ?_ ?_ _ _ ⟨rfl, rfl, hi.byValue⟩
  · rintro v left r s' ⟨hr, rfl, hall⟩
    rw [eqIsQuiet_byValue _ (hall v List.mem_cons_self)]
    refine wpAny_bind (wpAny_pure ?_)
    simp only [if_false, Bool.false_eq_true, Bool.not_true]
    exact wpAny_pure ⟨rfl, rfl, fun u hm => hall u (List.mem_cons_of_mem _ hm)⟩
  · rintro ⟨r1, r2⟩ s' ⟨hr, rfl, _⟩
    simp only at hr
    subst hr
    exact wpAny_pure q
theorem quiet_item {n : Nat} {k : Key2} {v : Value} {Q : Bool → Shared → Prop} (h : Is2 prog w s.heap k v) (q : Q true s) : wpAny (model prog w) A (eqIsQuiet (n + 1) v) Q E s := by
  cases k with
  | inl k =>
    rw [eqIsQuiet_byValue _ (by_value h)]
    exact wpAny_pure q
  | inr l =>
    obtain ⟨b, rfl, hb⟩ := h
    exact quiet_key hb q
theorem Its2.mem {h : Heap} {ks : List Key2} {vs : List Value} (x : Its2 prog w h ks vs) : ∀ v ∈ vs, ∃ k, Is2 prog w h k v := by
  induction x with
  | nil => intro v hv; cases hv
  | @cons k v' ks vs h1 _ ih =>
    intro v hv
    rcases List.mem_cons.mp hv with rfl | hv
    · exact ⟨k, h1⟩
    · exact ih v hv
theorem quiet_nest {ks : List Key2} {a : Addr} {Q : Bool → Shared → Prop} (hk : IsNest prog w s.heap ks a) (q : Q true s) : wpAny (model prog w) A (eqIsQuiet 8 (.ref a)) Q E s := by
  have ty := hk.ty
  obtain ⟨o, its, m, ho, _, hd, hi⟩ := hk
  unfold eqIsQuiet
  refine wpAny_bind (wpAny_specialOf ty PySem.F.slot_tuple_eq.lookup ?_)
  show wpAny _ _ (isInstance (.ref a) (.type "tuple") >>= fun _ => _) _ _ s
  refine wpAny_bind (wpAny_isInstance ty isSubtype_tuple_tuple ?_)
  simp only [if_false, Bool.false_eq_true, Bool.not_true]
  refine wpAny_bind (wpAny_seqItems ho hd (wpAny_bind ?_))
  show wpAny _ _ (forIn its _ _) _ _ s
  rw [← Array.forIn_toList]
  refine wpAny_forIn_list _ (fun left r s' => r.1 = none ∧ s' = s ∧ ∀ v ∈ left, ∃ k, Is2 prog w s.heap k v) _ ?_ ?_ _ _ ⟨rfl, rfl, hi.mem⟩
  · rintro v left r s' ⟨hr, rfl, hall⟩
    obtain ⟨k, h1⟩ := hall v List.mem_cons_self
    refine wpAny_bind (quiet_item h1 ?_)
    simp only [if_false, Bool.false_eq_true, Bool.not_true]
    exact wpAny_pure ⟨rfl, rfl, fun u hm => hall u (List.mem_cons_of_mem _ hm)⟩
  · rintro ⟨r1, r2⟩ s' ⟨hr, rfl, _⟩
    simp only at hr
    subst hr
    exact wpAny_pure q
end
def nestKind (prog : Program) (w : World) : HeapKind prog w (List Key2) where
  is := IsNest prog w
  hash := nestHash prog w
  draws := fun ks => drawsN ks + 1
  room := fun A => A.units + 1 < cLine
  inj := fun hx hy => hx.inj hy
  keeps := fun x ho hd hs => x.keeps ho hd hs
  pyHash := fun hu hk h => hash_nest hu hk h
  eqBool := fun hu hx hy h => eq_nest hu hx hy h
  quiet := fun hk h => quiet_nest hk h
abbrev NRow := List Key2 × Addr × V
def rowR (y : NRow) (x : List Key2 × Addr × Value) : Prop := y.1 = x.1 ∧ y.2.1 = x.2.1 ∧ RelV y.2.2 x.2.2
def dN (P : Program) (w : World) (a : Addr) (ys : List NRow) : HO := .ext fun h => (a == sysModules) = false ∧ ys.length ≤ sizeLine ∧ ∃ xs : List (List Key2 × Addr × Value), Paired rowR ys xs ∧
  ∃ o es ep, h.get? a = some o ∧ o.ExactDict ∧ o.data = .dict es ep ∧ es.toList = xs.map (entryOfKey (nestKind P w)) ∧ (xs.map (·.1)).Nodup
def N2 (H : Hp) (v : V) : Key2 → Prop
  | .inl k => v = kV k
  | .inr l => ∃ c, v = .ref c ∧ H c = some (.tup (l.map kV))
def NestAt (H : Hp) (b : Addr) (ks : List Key2) : Prop := ∃ vs, H b = some (.tup vs) ∧ Paired (N2 H) vs ks
def Keys (H : Hp) (ys : List NRow) : Prop := ∀ y ∈ ys, NestAt H y.2.1 y.1
theorem N2.ts {H H' : Hp} {v : V} {k : Key2} (ts : TupS H H') (x : N2 H v k) : N2 H' v k := by
  cases k with
  | inl k => exact x
  | inr l =>
    obtain ⟨c, e, hc⟩ := x
    exact ⟨c, e, ts _ _ hc⟩
theorem NestAt.ts {H H' : Hp} {b : Addr} {ks : List Key2} (x : NestAt H b ks) (ts : TupS H H') : NestAt H' b ks := by
  obtain ⟨vs, e, p⟩ := x
  exact ⟨vs, ts _ _ e, L2.Paired.mapP p fun _ _ z => z.ts ts⟩
theorem Keys.ts {H H' : Hp} {ys : List NRow} (x : Keys H ys) (ts : TupS H H') : Keys H' ys := fun y hy => (x y hy).ts ts
section
variable {P : Program} {w : World} {H : Hp} {h : Heap} {a b : Addr}
theorem NestAt.is {ks : List Key2} (ok : HOk P w H h) (x : NestAt H b ks) : IsNest P w h ks b := by
  obtain ⟨vs, e, p⟩ := x
  obtain ⟨_, its, r, o, h1, h2, n, h3⟩ := (show ObjOk P w H h b (.tup vs) from ok b _ e)
  refine ⟨o, its.toArray, n, h1, h2, h3, ?_⟩
  have all : ∀ {vs : List V} {ks : List Key2}, Paired (N2 H) vs ks → ∀ {us : List Value}, Vals vs us → Its2 P w h ks us := by
    intro vs ks q
    induction q with
    | nil => intro us r; cases r; exact .nil
    | @cons v k vs ks hv _ ih =>
      intro us r
      cases r with
      | cons rv rs =>
        refine .cons ?_ (ih rs)
        cases k with
        | inl k => cases (show v = kV k from hv); exact kV_is rv
        | inr l =>
          obtain ⟨c, rfl, hc⟩ := hv
          exact ⟨c, rv, key_of ok hc⟩
  simpa using all p r
theorem dn_of {ys : List NRow} (ok : HOk P w H h) (e : H a = some (dN P w a ys)) (kk : Keys H ys) : (a == sysModules) = false ∧ ys.length ≤ sizeLine ∧ ∃ xs, Paired rowR ys xs ∧ h.DictOfH (nestKind P w) a xs := by
  obtain ⟨⟨hd, hz, xs, rel, o, es, ep, h1, h2, h3, h4, h5⟩, _, _⟩ := (show ObjOk P w H h a (dN P w a ys) from ok a _ e)
  refine ⟨hd, hz, xs, rel, o, es, ep, h1, h2, h3, h4, fun x hx => ?_, h5⟩
  have all : ∀ {ys : List NRow} {xs : List (List Key2 × Addr × Value)}, Paired rowR ys xs → Keys H ys → ∀ x ∈ xs, (nestKind P w).is h x.1 x.2.1 := by
    intro ys xs q
    induction q with
    | nil => intro _ x hx; cases hx
    | @cons y x ys xs hq _ ih =>
      intro kk z hz
      rcases List.mem_cons.mp hz with e | hz
      · subst e
        have := (kk y List.mem_cons_self).is ok
        rw [hq.1, hq.2.1] at this
        exact this
      · exact ih (fun y hy => kk y (List.mem_cons_of_mem _ hy)) z hz
  exact all rel kk x hx
def valN (ys : List NRow) (k : List Key2) : Option V := (ys.find? fun y => decide (y.1 = k)).map (·.2.2)
theorem rows_val {ys : List NRow} {xs : List (List Key2 × Addr × Value)} (r : Paired rowR ys xs) (k : List Key2) : RelO (valN ys k) ((atKey xs k).map (·.2)) := by
  unfold valN atKey
  induction r with
  | nil => exact True.intro
  | @cons y x ys xs hq _ ih =>
    rw [List.find?_cons, List.find?_cons, ← hq.1]
    by_cases e : y.1 = k
    · rw [decide_eq_true e]; exact hq.2.2
    · rw [decide_eq_false e]; exact ih
theorem dn_new {H' : Hp} {h' : Heap} {ys : List NRow} {xs : List (List Key2 × Addr × Value)} (hd : (a == sysModules) = false) (hz : ys.length ≤ sizeLine) (r : Paired rowR ys xs) (dd : h'.DictOfH (nestKind P w) a xs) : ObjOk P w H' h' a (dN P w a ys) := by
  obtain ⟨o, es, ep, h1, h2, h3, h4, _, h5⟩ := dd
  refine ⟨⟨hd, hz, xs, r, o, es, ep, h1, h2, h3, h4, h5⟩, ⟨o, h1⟩, fun g1 g2 x kp => ?_⟩
  obtain ⟨q1, q2, xs', q3, o', es', ep', q4, q5⟩ := x
  exact ⟨q1, q2, xs', q3, o', es', ep', kp _ q4, q5⟩
theorem rows_snoc {ys : List NRow} {xs : List (List Key2 × Addr × Value)} {k : List Key2} {v : V} {u : Value} (r : Paired rowR ys xs) (rv : RelV v u) : Paired rowR (ys ++ [(k, b, v)]) (xs ++ [(k, b, u)]) := by
  induction r with
  | nil => exact .cons ⟨rfl, rfl, rv⟩ .nil
  | cons h _ ih => exact .cons h ih
end
section
variable {X : Cx}
def rNotInN (P : Program) (w : World) : R2 := fun y x H Q => ∃ a b ys k, x = .ref a ∧ y = .ref b ∧ H a = some (dN P w a ys) ∧ Keys H ys ∧ NestAt H b k ∧ Q (.bl (!(valN ys k).isSome)) H
theorem op_notinN (hu : X.A.units + 8 < cLine) : OpR X (compareOp .NotIn) (rNotInN X.prog X.w) := by
  intro pins s σ H y x v u Q I ry rx h
  obtain ⟨a, b, ys, k, rfl, rfl, e, kk, nb, q⟩ := h
  obtain rfl : u = Value.ref a := rx
  obtain rfl : v = Value.ref b := ry
  obtain ⟨hd, hz, xs, rel, dd⟩ := dn_of I.hok e kk
  refine wpAny_notIn_heap (knd := nestKind X.prog X.w) (show X.A.units + 1 + 1 < cLine by omega) (nb.is I.hok) hd dd ?_
  have z := (rows_val rel k).isSome_eq
  rw [Option.isSome_map] at z
  rw [← z]
  exact ⟨.bl (!(valN ys k).isSome), H, I.tok _, rfl, q⟩
def sDPutN (P : Program) (w : World) (td ty tv : TE) : TS := fun D σ H => tv σ H fun v H1 => td σ H1 fun x H2 => ty σ H2 fun y H3 => ∃ a b ys k, x = .ref a ∧ y = .ref b ∧ H3 a = some (dN P w a ys) ∧ Keys H3 ys ∧ NestAt H3 b k ∧ valN ys k = none ∧ ys.length < sizeLine ∧
  ∀ H4, H4 = upd H3 a (dN P w a (ys ++ [(k, b, v)])) → D.nx σ H4
theorem ps_dputN {o i value : Expr} {pos pos' : Pos} {td ty tv : TE} (hu : X.A.units + 8 < cLine) (ho : PE X o td) (hi : PE X i ty) (hv : PE X value tv) (hs : swapsWith value (some (.Subscript o i pos')) pos.line X.env = pure false) :
    PS X (.Assign [.Subscript o i pos'] value pos) (sDPutN X.prog X.w td ty tv) := by
  intro pins s σ H D I h
  refine wpAny_Assign_Subscript (thn (hv pins s σ H _ I h) fun r s1 ⟨v, H1, I1, rv, q1⟩ => thn (ho pins s1 σ H1 _ I1 q1) fun u s2 ⟨x, H2, I2, rx, q2⟩ => thn (hi pins s2 σ H2 _ I2 q2) fun iv s3 ⟨y, H3, I3, ry, a, b, ys, k, ex, ey, e, kk, nb, hn, hl, q3⟩ => ?_) hs
  subst ex ey
  obtain rfl : u = Value.ref a := rx
  obtain rfl : iv = Value.ref b := ry
  obtain ⟨hd, hz, xs, rel, dd⟩ := dn_of I3.hok e kk
  have hzx : xs.length ≤ sizeLine := by rw [← Paired.length rel]; exact hz
  refine wpAny_setItem_heap (knd := nestKind X.prog X.w) (hsz := hzx) (show X.A.units + 1 + 1 < cLine by omega) (nb.is I3.hok) dd fun h' dd' ss => ?_
  have z := (rows_val rel k).isSome_eq
  rw [hn, Option.isSome_map] at z
  have ek : atKey xs k = none := by
    cases q : atKey xs k with
    | none => rfl
    | some p => rw [q] at z; cases z
  rw [storedH_new ek] at dd'
  have dd2 := dd'
  obtain ⟨q, es, ep, hq, _⟩ := dd2
  refine ⟨σ, _, d_write I3 (by rw [e]; exact True.intro) ss ⟨q, hq⟩ (dn_new hd ?_ (rows_snoc rel rv) dd'), q3 _ rfl⟩
  rw [List.length_append, List.length_singleton]; omega
theorem dn_empty {P : Program} {w : World} {H : Hp} (h : Heap) (hb : sysModules < h.objs.size) : ObjOk P w H (h.push { cls := .type "dict", data := .dict #[] }) h.objs.size (dN P w h.objs.size []) := by
  refine dn_new (xs := []) (beq_eq_false_iff_ne.mpr (Nat.ne_of_gt hb)) (Nat.zero_le _) .nil ?_
  exact ⟨_, #[], _, Heap.get?_push_size _ rfl, ⟨rfl, rfl, rfl⟩, rfl, rfl, fun x hx => (nomatch hx), List.nodup_nil⟩
def tDisp1N (P : Program) (w : World) (tk tv : TE) : TE := fun σ H Q => ∀ p H1, New H p (dN P w p []) H1 → tk σ H1 fun y H2 => tv σ H2 fun z H3 => H3 p = some (dN P w p []) ∧ ∃ b k, y = .ref b ∧ NestAt H3 b k ∧ ∀ H4, H4 = upd H3 p (dN P w p [(k, b, z)]) → Q (.ref p) H4
theorem pe_disp1N {k v : Expr} {tk tv : TE} {pos : Pos} (hu : X.A.units + 8 < cLine) (hk : PE X k tk) (hv : PE X v tv) : PE X (.Dict [some k] [v] pos) (tDisp1N X.prog X.w tk tv) := by
  intro pins s σ H Q I q
  have I1 := I.laid (a := s.heap.objs.size) (o := dN X.prog X.w s.heap.objs.size []) (h' := s.heap.push { cls := .type "dict", data := .dict #[] }) (t' := s.toks) (fun _ _ q => Heap.get?_push_of_some _ q) (Nat.le_refl _) (dn_empty s.heap I.big)
  have e : (evalEachOpt [some k] X.env).zip ((evalEach [v] X.env).map fun v => do let x ← v; standAt pos; pure x) = [(eval k X.env, do let x ← eval v X.env; standAt pos; pure x)].map fun p => (some p.1, p.2) := rfl
  rw [arm_eval_Dict, e, dictDisplay_pairs _ (by simp) (by simp)]
  refine wpAny_bind (wpAny_standAt (wpAny_bind ?_))
  unfold subDict
  refine wpAny_bind (wpAny_alloc (wpAny_bind (wpAny_holding ?_)))
  rw [if_pos (by simp)]
  refine wpAny_bind (evalPairs_cons ?_)
  refine thn (hk pins _ σ _ _ I1 (q _ _ (.mk' I.fresh _))) fun kv s2 ⟨y, H2, I2, ry, q2⟩ => ?_
  refine wpAny_bind (thn (hv pins s2 σ H2 _ I2 q2) fun vv s3 ⟨z, H3, I3, rz, ep, b, ks, ey, nb, q3⟩ => ?_)
  subst ey
  obtain rfl : kv = Value.ref b := ry
  refine wpAny_bind (wpAny_standAt (wpAny_pure (evalPairs_nil (wpAny_holding ?_))))
  rw [List.forIn_cons]
  obtain ⟨hd, hz, xs, rel, dd⟩ := dn_of I3.hok ep (fun y hy => nomatch hy)
  cases rel
  refine wpAny_bind (wpAny_bind ?_)
  show wpAny _ _ (dictSet s.heap.objs.size (Value.ref b) vv >>= _) _ _ _
  refine wpAny_bind (wpAny_dictSet_heap (knd := nestKind X.prog X.w) (hsz := by rw [List.length_nil]; exact Nat.zero_le _) (show X.A.units + 1 < cLine by omega) (nb.is I3.hok) dd fun h' dd' hs => wpAny_pure ?_)
  dsimp only
  rw [List.forIn_nil]
  refine wpAny_pure (wpAny_pure (wpAny_pure (wpAny_pure ?_)))
  have dd2 := dd'
  obtain ⟨o, es, ep', hq, _⟩ := dd2
  exact ⟨.ref s.heap.objs.size, _, d_write I3 (by rw [ep]; exact True.intro) hs ⟨o, hq⟩ (dn_new hd (small_line (by simp)) (.cons ⟨rfl, rfl, rz⟩ .nil) dd'), rfl, q3 _ rfl⟩
end
def rInsert : V → List V → Hp → VK → Prop := fun x vs H Q => ∃ (l : Addr) (xs : List V) (i : Nat) (y : V), x = .ref l ∧ vs = [.int i, y] ∧ H l = some (.lst xs) ∧ i ≤ xs.length ∧ xs.length ≤ 1000 ∧ ∀ H', H' = upd H l (.lst (xs.take i ++ y :: xs.drop i)) → Q .non H'
theorem vals_put {y : V} {u : Value} (ry : RelV y u) (i : Nat) {xs : List V} {us : List Value} (r : Vals xs us) : Vals (xs.take i ++ y :: xs.drop i) (us.take i ++ u :: us.drop i) := (r.take i).append (.cons ry (r.drop i))
theorem mt_insert {X : Cx} : MtM X "list.insert" rInsert := by
  intro pins s σ H x vs v us Q I rx rv h
  obtain ⟨l, xs, i, y, rfl, rfl, hH, h1, h2, q⟩ := h
  cases rx
  obtain ⟨u1, u2, rfl, r1, r2⟩ := rv.two
  obtain ⟨t, rfl⟩ := r1
  obtain ⟨z, its, n, r, hl, e⟩ := I.lstM hH
  have il : i ≤ its.length := by omega
  have hf : Builtin.List.listFitsIndex ((i : Nat) : Int) = true := fitsIndex_both (by omega) (by omega)
  have hc : ¬(!Builtin.List.listFitsIndex ((i : Nat) : Int)) = true := by rw [hf]; exact fun z => nomatch z
  have hs : its.toArray.size ≤ sizeLine := by rw [List.size_toArray, ← hl]; exact z
  have M := @PySem.AutoListH.list_insert_list_int_val_1 l its.toArray n ((i : Nat) : Int) t u2 hc hs
  have hx : ∀ x : Int, x = ((i : Nat) : Int) → (if x < 0 then (x + ((its.toArray.size : Nat) : Int)).toNat else min x.toNat its.toArray.size) = i := fun x ex => by
    rw [ex, if_neg (by omega), Int.toNat_natCast, List.size_toArray, Nat.min_eq_left il]
  clear hf hc rv
  generalize ((i : Nat) : Int) = x at M hx ⊢
  refine call_meets (B := Builtin.«list.insert») (self := .ref l) (rest := [.int x t, u2]) PySem.F.slot_list_insert ⟨_, e, rfl⟩ PySem.F.entry_list_insert (PySem.F.args_list_insert_3 _ _ _) M ⟨e, ?_⟩
  refine ⟨.non, _, I.lset (its' := its.take i ++ u2 :: its.drop i) hH e ?_ (vals_put r2 i r) ?_, rfl, q _ rfl⟩
  · dsimp only
    rw [hx x rfl]
    simp
    exact List.take_of_length_le (by rw [List.length_drop]; exact Nat.le_refl _)
  · rw [List.length_append, List.length_cons, List.length_take, List.length_drop]
    have : min i xs.length + (xs.length - i + 1) ≤ 1001 := by rw [Nat.min_eq_left h1]; omega
    exact Nat.le_trans this (by decide)
end L2
namespace SM
open PySem PySem.Spec PyProof.Rows L2 SS
theorem back_more : ∀ w, w < 5 → ∀ t, t < w → ∀ l, l < 2 ^ (w - 1) → ∀ b, b < 2 → (((bitsOf l (w - 1)).take t ++ b :: (bitsOf l (w - 1)).drop t).reverse.foldl (fun f b => 2 * f + b) 0) = put0 l t + b * 2 ^ t := by decide +kernel
def sp_more : Sp := fun vs H Q _ => ∃ (l w t b : Nat), vs = [nV l, nV w, nV t, nV b] ∧ w < 5 ∧ t < w ∧ l < 2 ^ (w - 1) ∧ b < 2 ∧ ∀ H', Same H H' → Q (nV (put0 l t + b * 2 ^ t)) H'
structure ASnd (T : Thg) (m' : Mc) (ps : List (List Nat × Nat)) : Prop where
  nd : ps.Nodup
  by_ : ∀ p ∈ ps, ∃ row, (∀ l ∈ row, l < 2 ^ T.w) ∧ p = (T.run [0] row, m'.run 0 row)
theorem run_snoc (T : Thg) (t : List Nat) (row : List Nat) (l : Nat) : T.run t (row ++ [l]) = (T.step (T.run t row)).getD l [] := by unfold Thg.run; rw [List.foldl_append]; rfl
theorem ASnd.start {T : Thg} {m' : Mc} : ASnd T m' [([0], 0)] := ⟨by simp, fun p hp => ⟨[], (fun _ h => nomatch h), by rw [List.mem_singleton.mp hp]; rfl⟩⟩
theorem ASnd.new {T : Thg} {m' : Mc} {ps : List (List Nat × Nat)} {S : List Nat} {r l : Nat} (h : ASnd T m' ps) (hm : (S, r) ∈ ps) (hl : l < 2 ^ T.w) (hn : ¬ ((T.step S).getD l [], m'.go r l) ∈ ps) : ASnd T m' (ps ++ [((T.step S).getD l [], m'.go r l)]) := by
  refine ⟨List.nodup_append.mpr ⟨h.nd, by simp, fun a ha b hb => ?_⟩, fun p hp => ?_⟩
  · rw [List.mem_singleton.mp hb]; exact fun e => hn (e ▸ ha)
  · rcases List.mem_append.mp hp with z | z
    · exact h.by_ p z
    · obtain ⟨row, hr, e⟩ := h.by_ _ hm
      cases e
      refine ⟨row ++ [l], fun x hx => ?_, ?_⟩
      · rcases List.mem_append.mp hx with y | y
        · exact hr x y
        · rw [List.mem_singleton.mp y]; exact hl
      · rw [List.mem_singleton.mp z, run_snoc, Mc.run_snoc]
theorem drop_run_good {m : Mc} {t : Nat} (ok : m.Ok) : ∀ (row : List Nat) {S : List Nat}, DropG m S → (∀ l ∈ row, l < 2 ^ (dropT m t).w) → DropG m ((dropT m t).run S row)
  | [], _, h, _ => h
  | l :: row, S, h, hr => by
    rw [Thg.run_cons]
    refine drop_run_good ok row ?_ fun x hx => hr x (List.mem_cons_of_mem _ hx)
    have hl : l < ((dropT m t).step S).length := by rw [drop_step.1]; exact hr l List.mem_cons_self
    rw [List.getD_eq_getElem?_getD, List.getElem?_eq_getElem hl]
    exact (drop_step (m := m) (t := t) (rs := S)).2 _ (List.getElem_mem hl)
theorem go_lt {m : Mc} (ok : m.Ok) {r l : Nat} (hr : r < m.n) (hl : l < 2 ^ m.w) : m.go r l < m.n := (ok.at hr hl).choose_spec.2.2
theorem run_lt {m : Mc} (ok : m.Ok) : ∀ (row : List Nat) {r : Nat}, r < m.n → (∀ l ∈ row, l < 2 ^ m.w) → m.run r row < m.n
  | [], _, h, _ => h
  | l :: row, r, h, hr => by
    rw [Mc.run_cons]
    exact run_lt ok row (go_lt ok h (hr l List.mem_cons_self)) fun x hx => hr x (List.mem_cons_of_mem _ hx)
theorem ASnd.good {m m' : Mc} {t : Nat} {ps : List (List Nat × Nat)} (ok : m.Ok) (ok' : m'.Ok) (hw : m'.w = m.w - 1) (h : ASnd (dropT m t) m' ps) : ∀ p ∈ ps, DropG m p.1 ∧ p.2 < m'.n := fun p hp => by
  obtain ⟨row, hr, rfl⟩ := h.by_ p hp
  exact ⟨drop_run_good ok row ⟨by simp [Rising], fun r hr => by rw [List.mem_singleton.mp hr]; exact ok.pos⟩ hr, run_lt ok' row ok'.pos (by rw [hw]; exact hr)⟩
def allP (n n' : Nat) : List (List Nat × Nat) := (subs n).flatMap fun S => (List.range n').map fun r => (S, r)
theorem allP_len (n n' : Nat) : (allP n n').length = 2 ^ n * n' := by
  unfold allP
  rw [← subs_len n]
  induction subs n with
  | nil => simp
  | cons x r ih => rw [List.flatMap_cons, List.length_append, ih, List.length_map, List.length_range, List.length_cons, Nat.succ_mul, Nat.add_comm]
theorem ASnd.len {m m' : Mc} {t : Nat} {ps : List (List Nat × Nat)} (ok : m.Ok) (ok' : m'.Ok) (hw : m'.w = m.w - 1) (h5 : m.n ≤ 5) (h : ASnd (dropT m t) m' ps) : ps.length ≤ 3200 := by
  have a := nodup_in (ys := allP m.n m'.n) h.nd fun p hp => by
    obtain ⟨⟨g1, g2⟩, g3⟩ := h.good ok ok' hw p hp
    exact List.mem_flatMap.mpr ⟨p.1, subs_mem _ _ g1 g2, List.mem_map.mpr ⟨p.2, List.mem_range.mpr g3, rfl⟩⟩
  rw [allP_len] at a
  have h1 : 2 ^ m.n ≤ 2 ^ 5 := Nat.pow_le_pow_right (by omega) h5
  have h2 : m'.n ≤ 100 := ok'.few
  have := Nat.mul_le_mul h1 h2
  omega
theorem tups_wrN {P : Program} {w : World} {H : Hp} {a c : Addr} {ys : List NRow} (e : H a = some (dN P w c ys)) (o : HO) : TupS H (upd H a o) := fun b xs hb => by
  have ne : b ≠ a := fun z => by
    subst z
    rw [hb] at e
    have z : HO.tup xs = dN P w c ys := Option.some.inj e
    unfold dN at z
    cases z
  rw [upd_ne ne]; exact hb
def k2 (p : List Nat × Nat) : List Key2 := [.inr (keyL p.1), .inl (.inl (p.2 : Int))]
theorem k2_inj {p q : List Nat × Nat} (h : k2 p = k2 q) : p = q := by
  obtain ⟨S, r⟩ := p
  obtain ⟨S', r'⟩ := q
  simp only [k2, List.cons.injEq, Sum.inr.injEq, Sum.inl.injEq, and_true] at h
  rw [keyL_inj _ _ h.1, show r = r' by omega]
def PLine (H : Hp) (v : V) (p : List Nat × Nat) : Prop := ∃ c q, v = .ref c ∧ H c = some (.tup [.ref q, nV p.2]) ∧ H q = some (.tup (p.1.map nV))
theorem PLine.ts {H H' : Hp} {v : V} {p : List Nat × Nat} (x : PLine H v p) (ts : TupS H H') : PLine H' v p := by
  obtain ⟨c, q, e, h1, h2⟩ := x
  exact ⟨c, q, e, ts _ _ h1, ts _ _ h2⟩
theorem nest_of {H : Hp} {c q : Addr} {p : List Nat × Nat} (h1 : H c = some (.tup [.ref q, nV p.2])) (h2 : H q = some (.tup (p.1.map nV))) : NestAt H c (k2 p) :=
  ⟨_, h1, .cons ⟨q, rfl, by rw [keyL_V]; exact h2⟩ (.cons rfl .nil)⟩
theorem valN_k2 {ps : List (List Nat × Nat)} : ∀ {ys : List NRow}, ys.map (·.1) = ps.map k2 → ∀ p, (valN ys (k2 p)).isSome = decide (p ∈ ps) := by
  induction ps with
  | nil =>
    intro ys e p
    cases ys with
    | nil => rfl
    | cons y r => simp at e
  | cons q qs ih =>
    intro ys e p
    cases ys with
    | nil => simp at e
    | cons y r =>
      rw [List.map_cons, List.map_cons, List.cons.injEq] at e
      have z := ih e.2 p
      unfold valN at z ⊢
      rw [List.find?_cons, e.1]
      by_cases h : q = p
      · subst h; simp
      · rw [decide_eq_false (fun z => h (k2_inj z))]
        rw [z]
        by_cases h2 : p ∈ qs
        · simp [h2]
        · have h' : ¬ p = q := fun e => h e.symm
          simp [h2, h']
def sp_along24 : Sp := fun vs H Q _ => ∃ (a b : Addr) (m m' : Mc) (t : Nat), vs = [.ref a, .ref b, nV t] ∧ RepM H a m ∧ RepM H b m' ∧ m.Ok ∧ m'.Ok ∧ m.n ≤ 5 ∧ t < m.w ∧ m'.w = m.w - 1 ∧
  (∀ row, (∀ l ∈ row, l < 2 ^ (dropT m t).w) → m'.fin (m'.run 0 row) = (dropT m t).fin ((dropT m t).run [0] row)) ∧ ∀ H', Same H H' → Q (.bl true) H'
theorem less_put : ∀ w, w < 5 → ∀ t, t < w → ∀ l, l < 2 ^ w → less t l < 2 ^ (w - 1) ∧ (l = put0 (less t l) t ∨ l = put0 (less t l) t + 2 ^ t) := by decide +kernel
theorem run_in {m : Mc} {t : Nat} (ok : m.Ok) (ht : t < m.w) : ∀ (row : List Nat) {S : List Nat} {r : Nat}, DropG m S → r ∈ S → (∀ l ∈ row, l < 2 ^ m.w) → m.run r row ∈ (dropT m t).run S (row.map (less t))
  | [], _, _, _, h, _ => h
  | l :: row, S, r, hS, h, hr => by
    have hl := hr l List.mem_cons_self
    obtain ⟨h1, h2⟩ := less_put m.w (by have := ok.wid; omega) t ht l hl
    have est : ((dropT m t).step S).getD (less t l) [] = comeL m S [put0 (less t l) t, put0 (less t l) t + 2 ^ t] := by
      show ((List.range (2 ^ (m.w - 1))).map fun l => comeL m S [put0 l t, put0 l t + 2 ^ t]).getD (less t l) [] = _
      rw [List.getD_eq_getElem?_getD, List.getElem?_map, List.getElem?_range h1]
      rfl
    have hsg : ∀ z ∈ [put0 (less t l) t, put0 (less t l) t + 2 ^ t], z < 2 ^ m.w := fun z hz => by
      have := put_lt m.w (by have := ok.wid; omega) t ht _ h1
      simp only [List.mem_cons, List.not_mem_nil, or_false] at hz
      rcases hz with rfl | rfl
      · exact Nat.lt_of_le_of_lt (Nat.le_add_right _ _) this
      · exact this
    rw [Mc.run_cons, List.map_cons, Thg.run_cons, est]
    refine run_in ok ht row ⟨comeL_rising, fun k hk => comeL_lt hk⟩ ?_ fun x hx => hr x (List.mem_cons_of_mem _ hx)
    rw [comeL_mem fun r' hr' l' hl' => go_lt ok (hS.2 r' hr') (hsg l' hl')]
    refine ⟨r, h, l, ?_, rfl⟩
    rcases h2 with e | e
    · rw [← e]; simp
    · rw [← e]; simp
def allSel (n : Nat) : List (List Nat × Nat) := (subs n).flatMap fun S => S.map fun r => (S, r)
theorem allSel_len : ∀ n, n < 6 → (allSel n).length ≤ 100 := by decide +kernel
theorem nodup_rel {α β : Type} [DecidableEq β] {R : α → β → Prop} (one : ∀ p q s, R p s → R q s → p = q) : ∀ {xs : List α} {ys : List β}, xs.Nodup → (∀ x ∈ xs, ∃ y ∈ ys, R x y) → xs.length ≤ ys.length
  | [], _, _, _ => Nat.zero_le _
  | x :: xs, ys, hn, h => by
    rw [List.nodup_cons] at hn
    obtain ⟨y, hy, ry⟩ := h x List.mem_cons_self
    have := nodup_rel one (ys := ys.erase y) hn.2 fun z hz => by
      obtain ⟨y', hy', ry'⟩ := h z (List.mem_cons_of_mem _ hz)
      refine ⟨y', (List.mem_erase_of_ne fun e => ?_).mpr hy', ry'⟩
      subst e
      exact hn.1 (one _ _ _ ry ry' ▸ hz)
    rw [List.length_erase_of_mem hy] at this
    have := List.length_pos_of_mem hy
    rw [List.length_cons]; omega
theorem t_run_app (T : Thg) (t : List Nat) (a b : List Nat) : T.run t (a ++ b) = T.run (T.run t a) b := by unfold Thg.run; rw [List.foldl_append]
theorem m_run_app (m : Mc) (r : Nat) (a b : List Nat) : m.run r (a ++ b) = m.run (m.run r a) b := by unfold Mc.run; rw [List.foldl_append]
def AlongG (mw m : Mc) (p : List Nat) : Prop := ∃ row, (∀ l ∈ row, l < 2 ^ m.w) ∧ p = [mw.run 0 row, m.run 0 row]
theorem along_few {mw m : Mc} {t : Nat} (ok : m.Ok) (okw : mw.Ok) (cw : Canon mw) (hw : mw.w = m.w) (h5 : m.n ≤ 5) (ht : t < m.w) (lang : ∀ row, (∀ l ∈ row, l < 2 ^ m.w) → mw.fin (mw.run 0 row) = (dropT m t).fin ((dropT m t).run [0] (row.map (less t))))
    {fs : List (List Nat)} (nd : fs.Nodup) (hg : ∀ p ∈ fs, AlongG mw m p) : fs.length ≤ 100 := by
  have g0 : DropG m [0] := ⟨by simp [Rising], fun r hr => by rw [List.mem_singleton.mp hr]; exact ok.pos⟩
  have hle : ∀ row : List Nat, (∀ l ∈ row, l < 2 ^ m.w) → ∀ l ∈ row.map (less t), l < 2 ^ (dropT m t).w := fun row hr l hl => by
    obtain ⟨x, hx, rfl⟩ := List.mem_map.mp hl
    exact (less_put m.w (by have := ok.wid; omega) t ht x (hr x hx)).1
  refine Nat.le_trans (nodup_rel (R := fun (p : List Nat) (s : List Nat × Nat) => ∃ row, (∀ l ∈ row, l < 2 ^ m.w) ∧ p = [mw.run 0 row, m.run 0 row] ∧ s = ((dropT m t).run [0] (row.map (less t)), m.run 0 row)) ?_ (ys := allSel m.n) nd fun p hp => ?_) (allSel_len m.n (by omega))
  · rintro p q s ⟨a, ha, rfl, rfl⟩ ⟨b, hb, rfl, e⟩
    have e1 : (dropT m t).run [0] (a.map (less t)) = (dropT m t).run [0] (b.map (less t)) := congrArg Prod.fst e
    have e2 : m.run 0 a = m.run 0 b := congrArg Prod.snd e
    have e3 : mw.run 0 a = mw.run 0 b := by
      refine cw.dist _ _ (run_lt okw a okw.pos (by rw [hw]; exact ha)) (run_lt okw b okw.pos (by rw [hw]; exact hb)) fun row hr => ?_
      have hr' : ∀ l ∈ row, l < 2 ^ m.w := by rw [← hw]; exact hr
      have app : ∀ c : List Nat, (∀ l ∈ c, l < 2 ^ m.w) → mw.fin (mw.run (mw.run 0 c) row) = (dropT m t).fin ((dropT m t).run ((dropT m t).run [0] (c.map (less t))) (row.map (less t))) := fun c hc => by
        rw [← m_run_app, lang (c ++ row) fun l hl => (List.mem_append.mp hl).elim (hc l) (hr' l), List.map_append, t_run_app]
      rw [app a ha, app b hb, e1]
    rw [e2, e3]
  · obtain ⟨row, hr, rfl⟩ := hg p hp
    have gS := drop_run_good (t := t) ok (row.map (less t)) g0 (hle row hr)
    exact ⟨((dropT m t).run [0] (row.map (less t)), m.run 0 row), List.mem_flatMap.mpr ⟨_, subs_mem _ _ gS.1 gS.2, List.mem_map.mpr ⟨_, run_in ok ht row g0 (by simp) hr, rfl⟩⟩, row, hr, rfl, rfl⟩
def Few (m1 m2 : Mc) (op : Bool → Bool → Bool) (G : List Nat → Prop) : Prop := (∀ t, G t → PairG m1 m2 t) ∧ G [0, 0] ∧ (∀ t, G t → ∀ u ∈ (pairT m1 m2 op).step t, G u) ∧ ∀ fs k, Fnd (pairT m1 m2 op) G [0, 0] fs k → fs.length ≤ 100
def sp_pairedG (P : Program) (w : World) (K : PySem.W.Frag) (mg : Str → Option Value) (base : Heap) (Pr : Addr) (qr : List (Pos × Str)) (Pp : Addr) (qp : List (Pos × Str)) : Sp := fun vs H Q _ => ∃ (a b f : Addr) (fd : FuncData) (m1 m2 : Mc) (op : Bool → Bool → Bool) (G : List Nat → Prop),
  vs = [.ref a, .ref b, .ref f] ∧ TabOk H Pr qr ∧ TabOk H Pp qp ∧ RepM H a m1 ∧ RepM H b m2 ∧ m1.Ok ∧ m2.Ok ∧ m1.w = m2.w ∧ Few m1 m2 op G ∧ H f = some (fnO fd f) ∧ CloH P w K mg base 2 H f 2 (sp_bool2 op) ∧
  ∀ p m' H', Same H H' → RepM H' p m' → m'.Ok → m'.w = m1.w → Canon m' → (∀ row, m1.Row row → m'.fin (m'.run 0 row) = op (m1.fin (m1.run 0 row)) (m2.fin (m2.run 0 row))) → Q (.ref p) H'
def sp_metG (Pr : Addr) (qr : List (Pos × Str)) (Pp : Addr) (qp : List (Pos × Str)) (Pm : Addr) (qm : List (Pos × Str)) (op : Bool → Bool → Bool) : Sp := fun vs H Q _ => ∃ (a b : Addr) (m1 m2 : Mc) (G : List Nat → Prop),
  vs = [.ref a, .ref b] ∧ TabOk H Pr qr ∧ TabOk H Pp qp ∧ TabOk H Pm qm ∧ RepM H a m1 ∧ RepM H b m2 ∧ m1.Ok ∧ m2.Ok ∧ m1.w = m2.w ∧ Few m1 m2 op G ∧
  ∀ p m' H', Same H H' → RepM H' p m' → m'.Ok → m'.w = m1.w → Canon m' → (∀ row, m1.Row row → m'.fin (m'.run 0 row) = op (m1.fin (m1.run 0 row)) (m2.fin (m2.run 0 row))) → Q (.ref p) H'
theorem few_along {mw m : Mc} {t : Nat} {op : Bool → Bool → Bool} (ok : m.Ok) (okw : mw.Ok) (cw : Canon mw) (hw : mw.w = m.w) (h5 : m.n ≤ 5) (ht : t < m.w) (lang : ∀ row, (∀ l ∈ row, l < 2 ^ m.w) → mw.fin (mw.run 0 row) = (dropT m t).fin ((dropT m t).run [0] (row.map (less t)))) : Few mw m op (AlongG mw m) := by
  refine ⟨fun p hp => ?_, ⟨[], (fun _ h => nomatch h), rfl⟩, fun p hp u hu => ?_, fun fs k F => along_few ok okw cw hw h5 ht lang F.nd F.good⟩
  · obtain ⟨row, hr, rfl⟩ := hp
    exact ⟨_, _, rfl, run_lt okw row okw.pos (by rw [hw]; exact hr), run_lt ok row ok.pos hr⟩
  · obtain ⟨row, hr, rfl⟩ := hp
    have h1 := run_lt okw row okw.pos (by rw [hw]; exact hr)
    have h2 := run_lt ok row ok.pos hr
    obtain ⟨l, hl, e⟩ := List.mem_iff_getElem.mp hu
    have hsl := (pair_step (op := op) okw ok hw (t := [mw.run 0 row, m.run 0 row]) ⟨_, _, rfl, h1, h2⟩).1
    have hl' : l < 2 ^ mw.w := by rw [← hsl]; exact hl
    have z := pair_at (op := op) okw ok hw h1 h2 hl'
    rw [List.getElem?_eq_getElem hl, e] at z
    cases z
    refine ⟨row ++ [l], fun x hx => ?_, by rw [Mc.run_snoc, Mc.run_snoc]⟩
    rcases List.mem_append.mp hx with y | y
    · exact hr x y
    · rw [List.mem_singleton.mp y, ← hw]; exact hl'
end SM
set_option maxHeartbeats 4000000
namespace K24
open PySem PySem.Spec PyProof.Rows L2 SS SM
local macro_rules | `(tactic| trivial) => `(tactic| simp only [tLstN, tSeq, tC, gName, tAsg, tNil, tCons, tDisp, tPairs, List.set_cons_zero, List.set_cons_succ, rLen, tTest, tOp, tRet, rI0, tCB, rIxL, rIxT, iTup, rd_v0, rd_vS, rd_for, V.int.injEq, V.bl.injEq, V.ref.injEq, List.cons.injEq, and_true, exists_eq_left', exists_and_left, rInDc, sDPut, tIfS, tNext, tDrop, tBM, tyV, rAppend, true_and, if_true, ipI, tAug, Option.some.injEq, and_assoc, cxK, rd_comp, tDGet, tYes, tTupN, iList, tCall, List.append_nil, tDNewN, exists_eq', rLenD, tDNewTN, rLenT, iZipL, rCatTN, gNil, gCons, gTup, tCallV, rNeI, rDictOf, rMaxL, iEnum, tLam, tCallA, iRng1, rIndex, tDisp1T, tDef, rNe, tListZip, cxP, cxW, List.nil_append, List.cons_append, rI, tAndV, tNotV, tChain, V.ty.injEq, tB, tOr, tNot, rd_ii, rAll, rSum, rExtend, rSortS, rAny, rIn, rSortI, iRev, rInsert, tDisp1N, rNotInN, sDPutN, rSlLN, tPart, tSl, rNeM])
def top (i : Nat) : Stmt := PySem.Challenge.pw_setsays_k24_dropped.main.body.getD i (.Pass ⟨0, 0, 0, 0⟩)
structure Txt (mg : Str → Option Value) : Prop where
  b_isinstance : mg "isinstance" = none
  b_tuple : mg "tuple" = none
  b_list : mg "list" = none
  b_int : mg "int" = none
  b_bool : mg "bool" = none
  b_dict : mg "dict" = none
  b_len : mg "len" = none
  b_all : mg "all" = none
  b_any : mg "any" = none
  b_max : mg "max" = none
  b_sum : mg "sum" = none
  b_range : mg "range" = none
  b_reversed : mg "reversed" = none
  b_zip : mg "zip" = none
  b_enumerate : mg "enumerate" = none
  b_sorted : mg "sorted" = none
  b_set : mg "set" = none
  g_MOST_COME_TO : GlV mg "MOST_COME_TO" (.int 100)
  g_MOST_TRACKS : GlV mg "MOST_TRACKS" (.int 4)
seal PE PT PW PA PS PSs
section
variable {P : Program} {w : World} {K : PySem.W.Frag} {mg : Str → Option Value} {base : Heap}
abbrev s_reached : Stmt := top 5
theorem sc_reached : FnScope ["machine", "rooms", "known", "at", "here", "room"] ["machine"] (defScope s_reached) := ⟨rfl, rfl, rfl, by decide +kernel, rfl, by decide +kernel, by decide +kernel⟩
theorem ok_reached (T : Txt mg) (d : Dfn K mg "reached" s_reached ["machine"]) : Cal P w K mg base 1 "reached" ["machine"] sp_reached := by
  refine d.cal sc_reached (fun vs H Q E h => ?_) (fun f cdv A outer s H vs Q E hr h => ?_)
  · obtain ⟨a, m, rfl, _⟩ := h
    rfl
  obtain ⟨a, m, rfl, ⟨b, c, rs, ea, eb, pr, ec⟩, ok, q⟩ := h
  have hu := hu_at hr 8 (by decide)
  have hps := pow_small ok.wid
  have hf : m.n ≤ 100 := ok.few
  have at1 : atI [nV m.w, V.ref b, V.ref c] 1 = some (V.ref b) := atI_nat (j := 1) rfl
  refine ⟨_, (pss_cons (ps_set (i := 1) sc_reached.nd rfl (Or.inl rfl) (pe_lstN (pa_c pe_int pa_nil))) (pss_cons (ps_set (i := 2) sc_reached.nd rfl (Or.inl rfl) (pe_disp (pps_cons pe_int pe_bl pps_nil) rfl rfl (by simp) (by decide))) (pss_cons (ps_set (i := 3) sc_reached.nd rfl (Or.inl rfl) pe_int) (pss_cons (ps_while PassesOwn.never (pt_cmpR op_lt (pv 3) (pe_cB (call_len_seqK K) (by rfl) T.b_len boot_len (pa_c (pv 1) pa_nil)) (nomark _)) (pss_cons (ps_set (i := 4) sc_reached.nd rfl (Or.inl rfl) (pe_ix (ix_listK K) (pv 1) (pv 3) (fun _ _ => rfl))) (pss_cons (ps_for PassesOwn.never rfl (pi_tupK K (pe_ix (ix_tupK K) (pe_ix (ix_tupK K) (pv 0) pe_int (fun _ _ => rfl)) (pv 4) (fun _ _ => rfl))) (pg_name (i := 5) sc_reached.nd (by rfl) (Or.inl (by rfl))) (pss_one (ps_if (pt_cmpR (op_notin_d hu) (pv 5) (pv 2) (by with_unfolding_all rfl)) (pss_cons (ps_dputH hu (pv 2) (pv 5) pe_bl rfl) (pss_one (ps_expr (pe_bmK K PySem.F.plainAttrs_list PySem.F.slot_list_append PySem.F.type_list_append mt_append (pv 1) (pa_c (pv 5) pa_nil))))) pss_nil))) (pss_one (ps_aug (i := 3) sc_reached.nd rfl (Or.inl rfl) pe_int ip_add))))) (pss_one (ps_ret (pv 1))))))), ?_⟩
  refine rd_st [some (.ref a), none, none, none, none, none] rfl ?_
  trivial
  refine ⟨by decide, fun p H1 n1 kd nkd => ⟨upd_same, [((Sum.inl 0 : Key), V.bl true)], rfl, by decide, ?_⟩⟩
  have npk : p ≠ kd := ne_of_none n1.at' nkd
  refine ⟨fun mm σ H' => ∃ (rooms : List Nat) (at' : Nat) (v4 v5 : Option V), mm = m.n - at' ∧ Same H H' ∧ σ = [some (.ref a), some (.ref p), some (.ref kd), some (nV at'), v4, v5] ∧ H' p = some (.lst (rooms.map nV)) ∧ H' kd = some (.dK (knT rooms)) ∧ Come m rooms at' 0 ∧ at' ≤ rooms.length,
    ⟨m.n, [0], 0, none, none, rfl, ?_, rfl, ?_, ?_, Come.start ok.pos, Nat.zero_le _⟩, ?_⟩
  · exact ((n1.g.trans (same_upd nkd _)).wr (n1.g.free nkd) _)
  · rw [upd_ne npk, upd_ne npk]; exact n1.at'
  · rw [upd_same]; rfl
  rintro mm σ H' ⟨rooms, at', v4, v5, rfl, g, rfl, ep, ek, cm, ha⟩
  have hrl : rooms.length ≤ m.n := nodup_le cm.nd cm.lt
  trivial
  refine ⟨_, .inl (.of ep), ?_⟩
  rw [List.length_map]
  by_cases hlt : at' < rooms.length
  · rw [decide_eq_true (show (at' : Int) < (rooms.length : Int) by omega)]
    refine iteT ⟨fun σ' H'' => ∃ m', m' < m.n - at' ∧ _, fun σ' H'' z => z, ?_⟩
    have hlt2 := cm.lt _ (ix_mem hlt)
    have atr : (rooms.map nV)[at']? = some (nV (ix rooms at')) := by rw [List.getElem?_map, ix_at hlt]; rfl
    have hw1 : ix rooms at' < m.ways.length := by rw [ok.len]; exact hlt2
    obtain ⟨v, ev, a2, rfl, e4⟩ := Paired.at2 pr (List.getElem?_eq_getElem hw1)
    have hll := ok.line _ (List.getElem_mem hw1)
    refine ⟨_, .of ep, _, atI_nat atr, _, .of (g _ _ ea), _, at1, _, rfl, _, _, rfl, .of (g _ _ eb), _, atI_nat ev, _, rfl, ⟨_, .of (g _ _ e4)⟩, ?_⟩
    refine fb_tup (K := K) (a := a2) (xs := m.ways[ix rooms at'].map nV) (fun l σ H'' => Same H H'' ∧ ∃ (rooms' : List Nat) (v5 : Option V), σ = [some (.ref a), some (.ref p), some (.ref kd), some (nV at'), some (nV (ix rooms at')), v5] ∧ H'' p = some (.lst (rooms'.map nV)) ∧ H'' kd = some (.dK (knT rooms')) ∧ Come m rooms' at' l ∧ at' < rooms'.length ∧ ix rooms' at' = ix rooms at')
      ⟨g, rooms, _, rfl, ep, ek, cm, hlt, rfl⟩ (fun i σ H'' _ z => .of (z.1 _ _ e4)) ?_ ?_
    · rintro l y σ H'' hy ⟨g2, rooms', v5', rfl, ep2, ek2, cm2, ha2, ei⟩
      rw [List.getElem?_map] at hy
      obtain ⟨r, er, rfl⟩ := Option.map_eq_some_iff.mp hy
      have hl : l < 2 ^ m.w := by rw [← hll]; exact (List.getElem?_eq_some_iff.mp er).1
      obtain ⟨line, f1, f2, f3⟩ := ok.at hlt2 hl
      have egl : r = m.go (ix rooms' at') l := by
        rw [List.getElem?_eq_getElem hw1] at f1
        cases f1
        rw [er] at f2
        rw [ei]
        exact Option.some.inj f2
      have hrl2 : rooms'.length ≤ m.n := nodup_le cm2.nd cm2.lt
      have nn : p ≠ kd := ne_of ep2 ek2 (by intro z; cases z)
      trivial
      refine ⟨_, DGet.n ek2, ?_⟩
      rw [knT_val]
      by_cases hm : r ∈ rooms'
      · rw [if_pos hm]
        refine iteF ⟨g2, rooms', ep2, ek2, ?_, ha2, ei⟩
        exact cm2.old ha2 (by rw [← egl]; exact hm)
      · rw [if_neg hm]
        have hnk : H kd = none := n1.g.free nkd
        refine iteT ⟨_, DPut.n ek2 (by rw [knT_len]; exact small1000 (by omega)), .inl ⟨_, .of (by rw [upd_ne nn]; exact ep2)⟩, _, by rw [upd_ne nn]; exact ep2, by rw [List.length_map]; exact small1000 (by omega), ?_⟩
        refine ⟨(g2.wr hnk _).wr n1.nil _, rooms' ++ [r], ?_, ?_, ?_, by rw [List.length_append, List.length_singleton]; omega, by rw [ix_app ha2]; exact ei⟩
        · rw [upd_same, List.map_append]; rfl
        · rw [upd_ne (Ne.symm nn), upd_same, knT_put hm]
        · have z := cm2.new ha2 hl (by rw [ei]; exact f3) (by rw [← egl]; exact hm)
          rw [← egl] at z
          exact z
    · rintro σ H'' ⟨g2, rooms', v5', rfl, ep2, ek2, cm2, ha2, ei⟩
      rw [List.length_map, hll] at cm2
      have hrl2 : rooms'.length ≤ m.n := nodup_le cm2.nd cm2.lt
      trivial
      exact ⟨_, rfl, _, rfl, m.n - (at' + 1), by omega, rooms', at' + 1, rfl, g2, rfl, ep2, ek2, cm2.turn, by omega⟩
  · rw [decide_eq_false (show ¬ (at' : Int) < (rooms.length : Int) by omega)]
    have e : at' = rooms.length := by omega
    subst e
    refine iteF ?_
    exact q p rooms H' n1.nil g ep cm
abbrev s_renamed : Stmt := top 6
theorem sc_renamed : FnScope ["rooms", "numbers"] ["rooms", "numbers"] (defScope s_renamed) := ⟨rfl, rfl, rfl, by decide +kernel, rfl, by decide +kernel, by decide +kernel⟩
theorem ok_renamed (T : Txt mg) (d : Dfn K mg "renamed" s_renamed ["rooms", "numbers"]) : Cal P w K mg base 1 "renamed" ["rooms", "numbers"] sp_renamed := by
  refine d.cal sc_renamed (fun vs H Q E h => ?_) (fun f cdv A outer s H vs Q E hr h => ?_)
  · obtain ⟨a, b, l, g, rfl, _⟩ := h
    rfl
  obtain ⟨a, b, l, g, rfl, ea, h16, lk, q⟩ := h
  have hu := hu_at hr 8 (by decide)
  rcases lk with ⟨kvs, eb, hv⟩ | ⟨ns, eb, hv⟩
  · refine ⟨_, (pss_one (ps_ret (pe_cTy call_tuple_ofN (by rfl) T.b_tuple boot_tuple (pa_c (pe_lcomp ["room"] [(1, "numbers")] (CompOk.of rfl (by rfl) (by rfl)) (by rfl) (pi_tupK K (pv 0)) (fun _ _ _ _ _ => (pg_name (i := 0) (show List.Nodup (["room", "numbers"] : List Str) by decide +kernel) (by rfl) (Or.inl (by rfl)))) (fun _ _ _ _ _ => pf_nil) (fun _ _ _ _ _ => (pe_dgetH hu (pv 1) (pv 0) (fun _ _ => rfl)))) pa_nil)))), ?_⟩
    refine rd_st [some (.ref a), some (.ref b)] rfl ?_
    trivial
    refine ⟨⟨_, .of ea⟩, cm_tup (K := K) (a := a) (xs := l.map nV) (fun σ => ∃ v, σ = [v, some (.ref b)]) (fun y => match y with | .int z => nV (g z.toNat) | v => v) (by rw [List.length_map]; omega) (.of ea) ⟨_, rfl⟩ ?_ ?_⟩
    · rintro D i σ H' x hi hm hx gg hD hD' ⟨v, rfl⟩
      obtain ⟨r, mr, rfl⟩ := List.mem_map.mp hm
      have z := DGet.n (n := (r : Int)) (gg _ _ eb)
      rw [hv r mr] at z
      trivial
      exact ⟨_, z, cm_step (by rw [List.length_map]; omega) hx hD hD' gg ⟨_, rfl⟩ rfl⟩
    intro D H1 hD g1 eD
    have eD' : H1 D = some (.lst ((l.map g).map nV)) := by rw [eD, List.map_map, List.map_map]; rfl
    exact ⟨_, rfl, _, .inl ⟨.of eD', fun t H2 n2 => q t H2 (g1.trans n2.g) n2.at'⟩⟩
  · refine ⟨_, (pss_one (ps_ret (pe_cTy call_tuple_ofN (by rfl) T.b_tuple boot_tuple (pa_c (pe_lcomp ["room"] [(1, "numbers")] (CompOk.of rfl (by rfl) (by rfl)) (by rfl) (pi_tupK K (pv 0)) (fun _ _ _ _ _ => (pg_name (i := 0) (show List.Nodup (["room", "numbers"] : List Str) by decide +kernel) (by rfl) (Or.inl (by rfl)))) (fun _ _ _ _ _ => pf_nil) (fun _ _ _ _ _ => (pe_ix (ix_listK K) (pv 1) (pv 0) (fun _ _ => rfl)))) pa_nil)))), ?_⟩
    refine rd_st [some (.ref a), some (.ref b)] rfl ?_
    trivial
    refine ⟨⟨_, .of ea⟩, cm_tup (K := K) (a := a) (xs := l.map nV) (fun σ => ∃ v, σ = [v, some (.ref b)]) (fun y => match y with | .int z => nV (g z.toNat) | v => v) (by rw [List.length_map]; omega) (.of ea) ⟨_, rfl⟩ ?_ ?_⟩
    · rintro D i σ H' x hi hm hx gg hD hD' ⟨v, rfl⟩
      obtain ⟨r, mr, rfl⟩ := List.mem_map.mp hm
      have z : atI (ns.map nV) (r : Int) = some (nV (g r)) := atI_nat (by rw [List.getElem?_map, hv r mr]; rfl)
      trivial
      exact ⟨_, .of (gg _ _ eb), _, z, cm_step (by rw [List.length_map]; omega) hx hD hD' gg ⟨_, rfl⟩ rfl⟩
    intro D H1 hD g1 eD
    have eD' : H1 D = some (.lst ((l.map g).map nV)) := by rw [eD, List.map_map, List.map_map]; rfl
    exact ⟨_, rfl, _, .inl ⟨.of eD', fun t H2 n2 => q t H2 (g1.trans n2.g) n2.at'⟩⟩
abbrev s_picked : Stmt := top 7
theorem sc_picked : FnScope ["machine", "rooms", "numbers", "ways", "ends"] ["machine", "rooms", "numbers"] (defScope s_picked) := ⟨rfl, rfl, rfl, by decide +kernel, rfl, by decide +kernel, by decide +kernel⟩
theorem ok_picked (T : Txt mg) (d : Dfn K mg "picked" s_picked ["machine", "rooms", "numbers"]) (C_renamed : Cal P w K mg base 1 "renamed" ["rooms", "numbers"] sp_renamed) : Cal P w K mg base 2 "picked" ["machine", "rooms", "numbers"] sp_picked := by
  refine d.cal sc_picked (fun vs H Q E h => ?_) (fun f cdv A outer s H vs Q E hr h => ?_)
  · obtain ⟨a, b, c, m, rooms, g, rfl, _⟩ := h
    rfl
  obtain ⟨a, b, c, m, rooms, g, rfl, ⟨b1, c1, rs, ea, eb1, pr, ec1⟩, ok, eb, h100, hr', lk, q⟩ := h
  have hps := pow_small ok.wid
  refine ⟨_, (pss_cons (ps_setC (i := 3) sc_picked.nd rfl (Or.inl rfl) ["room"] [(2, "numbers"), (0, "machine")] (CompOk.of rfl (by rfl) (by rfl)) (by rfl) (pi_listK K (pv 1)) (fun _ _ _ _ _ => (pg_name (i := 0) (show List.Nodup (["room", "numbers", "machine"] : List Str) by decide +kernel) (by rfl) (Or.inl (by rfl)))) (fun _ _ _ _ _ => pf_nil) (fun _ _ _ _ _ => (pe_callC C_renamed hr (by omega) (by rfl) (pa_c (pe_ix (ix_tupK K) (pe_ix (ix_tupK K) (pv 2) pe_int (fun _ _ => rfl)) (pv 0) (fun _ _ => rfl)) (pa_c (pv 1) pa_nil))))) (pss_cons (ps_setC (i := 4) sc_picked.nd rfl (Or.inl rfl) ["room"] [(0, "machine")] (CompOk.of rfl (by rfl) (by rfl)) (by rfl) (pi_listK K (pv 1)) (fun _ _ _ _ _ => (pg_name (i := 0) (show List.Nodup (["room", "machine"] : List Str) by decide +kernel) (by rfl) (Or.inl (by rfl)))) (fun _ _ _ _ _ => pf_nil) (fun _ _ _ _ _ => (pe_ix (ix_tupK K) (pe_ix (ix_tupK K) (pv 1) pe_int (fun _ _ => rfl)) (pv 0) (fun _ _ => rfl)))) (pss_one (ps_ret (pe_tupN (pa_c (pe_ix (ix_tupK K) (pv 0) pe_int (fun _ _ => rfl)) (pa_c (pe_cTy call_tuple_ofN (by rfl) T.b_tuple boot_tuple (pa_c (pv 3) pa_nil)) (pa_c (pe_cTy call_tuple_ofN (by rfl) T.b_tuple boot_tuple (pa_c (pv 4) pa_nil)) pa_nil)))))))), ?_⟩
  refine rd_st [some (.ref a), some (.ref b), some (.ref c), none, none] rfl ?_
  trivial
  have wat : ∀ {i : Nat}, i < rooms.length → ∃ a2, rs[ix rooms i]? = some (.ref a2) ∧ H a2 = some (.tup ((m.ways.getD (ix rooms i) []).map nV)) ∧ (m.ways.getD (ix rooms i) []).length ≤ 16 := fun {i} hi => by
    have hw1 : ix rooms i < m.ways.length := by rw [ok.len]; exact hr' _ (ix_mem hi)
    obtain ⟨v2, ev, a2, rfl, e4⟩ := Paired.at2 pr (List.getElem?_eq_getElem hw1)
    have eg : m.ways.getD (ix rooms i) [] = m.ways[ix rooms i] := by rw [List.getD_eq_getElem?_getD, List.getElem?_eq_getElem hw1]; rfl
    rw [eg]
    refine ⟨a2, ev, e4, ?_⟩
    rw [ok.line _ (List.getElem_mem hw1)]
    omega
  refine ⟨⟨_, .of eb⟩, cg_by (n := rooms.length) (fun σ => ∃ v, σ = [v, some (.ref c), some (.ref a)]) (fun j y H => Line H y ((m.ways.getD (ix rooms j) []).map g)) (by omega) ⟨_, rfl⟩ (fun i H' hi gg => ⟨_, nV (ix rooms i), .of (gg _ _ eb), by rw [List.getElem?_map, ix_at hi]; rfl⟩) (fun H' gg => ⟨_, .of (gg _ _ eb), by rw [List.length_map]; exact Nat.le_refl _⟩) ?_ ?_⟩
  · rintro D i ys σ H1 x H1' hi gg hD hD' hl hy ⟨v, rfl⟩ ⟨rfl, yx⟩
    have ex := yx _ (.of (gg _ _ eb))
    rw [List.getElem?_map, ix_at hi] at ex
    cases ex
    obtain ⟨a2, ev, e4, h16⟩ := wat hi
    trivial
    exact ⟨_, .of (gg _ _ ea), _, atI_nat (j := 1) rfl, _, rfl, _, .of (gg _ _ eb1), _, atI_nat ev, a2, c, _, g, rfl, gg _ _ e4, h16, (lk _ (ix_mem hi)).same gg, fun p H2 g2 e2 => cg_step (fun j y H H' ts z => z.ts ts) (by omega) hi hD (g2 _ _ hD') hl hy g2.tups (gg.trans g2) ⟨_, rfl⟩ ⟨p, rfl, e2⟩⟩
  intro D1 ys H1 hD1 g1 eD1 hl1 hy1
  simp only [V.ref.injEq, exists_eq_left']
  refine ⟨⟨_, .of (g1 _ _ eb)⟩, cm_list (K := K) (a := b) (xs := rooms.map nV) (fun σ => ∃ v, σ = [v, some (.ref a)]) (fun y => match y with | .int z => .bl (m.fin z.toNat) | v => v) (by rw [List.length_map]; omega) (.of (g1 _ _ eb)) ⟨_, rfl⟩ ?_ ?_⟩
  · rintro D i σ H' x hi hm hx gg hD hD' ⟨v, rfl⟩
    obtain ⟨r, mr, rfl⟩ := List.mem_map.mp hm
    have at3 : (m.ends.map V.bl)[r]? = some (.bl (m.fin r)) := by rw [List.getElem?_map, Mc.fin_at (hr' r mr)]; rfl
    trivial
    exact ⟨_, .of ((g1.trans gg) _ _ ea), _, atI_nat (j := 2) rfl, _, rfl, _, .of ((g1.trans gg) _ _ ec1), _, atI_nat at3, cm_step (by rw [List.length_map]; omega) hx hD hD' gg ⟨_, rfl⟩ rfl⟩
  intro D2 H2 hD2 g2 eD2
  have eD2' : H2 D2 = some (.lst ((rooms.map m.fin).map V.bl)) := by rw [eD2, List.map_map, List.map_map]; rfl
  have g12 := g1.trans g2
  simp only [V.ref.injEq, exists_eq_left']
  refine ⟨_, .of (g12 _ _ ea), _, atI_0, _, .inl ⟨.of (g2 _ _ eD1), fun t1 H3 n3 => ⟨_, .inl ⟨.of (n3.g _ _ eD2'), fun t2 H4 n4 => ⟨small_line (by simp), fun t3 H5 n5 => ?_⟩⟩⟩⟩⟩
  have g25 : Same H2 H5 := n3.g.trans (n4.g.trans n5.g)
  refine q t3 H5 (g12.trans g25) ⟨t1, t2, ys, n5.at', (n4.g.trans n5.g) _ _ n3.at', paired_of (by rw [hl1]; exact (List.length_map _).symm) fun j y l e1 e2 => ?_, n5.g _ _ n4.at'⟩
  have hj : j < rooms.length := by rw [← hl1]; exact (List.getElem?_eq_some_iff.mp e1).1
  have e2' : some ((m.ways.getD (ix rooms j) []).map g) = some l := by rw [← e2]; show _ = (rooms.map fun r => (m.ways.getD r []).map g)[j]?; rw [List.getElem?_map, ix_at hj]; rfl
  cases e2'
  exact (hy1 j y e1).ts (g2.trans g25).tups
abbrev s_numbered : Stmt := top 8
theorem sc_numbered : FnScope ["marks", "numbers", "mark"] ["marks"] (defScope s_numbered) := ⟨rfl, rfl, rfl, by decide +kernel, rfl, by decide +kernel, by decide +kernel⟩
theorem ok_numbered (T : Txt mg) (d : Dfn K mg "numbered" s_numbered ["marks"]) : Cal P w K mg base 1 "numbered" ["marks"] sp_numbered := by
  refine d.cal sc_numbered (fun vs H Q E h => ?_) (fun f cdv A outer s H vs Q E hr h => ?_)
  · rcases h with ⟨a, bs, rfl, _⟩ | ⟨a, rs, ms, rfl, _⟩ <;> rfl
  have hu := hu_at hr 8 (by decide)
  rcases h with ⟨a, bs, rfl, ea, h100, q⟩ | ⟨a, rs, ms, rfl, ea, pr, h100, q⟩
  · refine ⟨_, (pss_cons (ps_set (i := 1) sc_numbered.nd rfl (Or.inr rfl) pe_dnewN) (pss_cons (ps_for PassesOwn.never rfl (pi_tupK K (pv 0)) (pg_name (i := 2) sc_numbered.nd (by rfl) (Or.inl (by rfl))) (pss_one (ps_if (pt_cmpR (op_notin_d hu) (pv 2) (pv 1) (by with_unfolding_all rfl)) (pss_one (ps_dputH hu (pv 1) (pv 2) (pe_cB call_lenDK (by rfl) T.b_len boot_len (pa_c (pv 1) pa_nil)) rfl)) pss_nil))) (pss_one (ps_ret (pe_lcomp ["mark"] [(1, "numbers")] (CompOk.of rfl (by rfl) (by rfl)) (by rfl) (pi_tupK K (pv 0)) (fun _ _ _ _ _ => (pg_name (i := 0) (show List.Nodup (["mark", "numbers"] : List Str) by decide +kernel) (by rfl) (Or.inl (by rfl)))) (fun _ _ _ _ _ => pf_nil) (fun _ _ _ _ _ => (pe_dgetH hu (pv 1) (pv 0) (fun _ _ => rfl)))))))), ?_⟩
    refine rd_st [some (.ref a), none, none] rfl ?_
    trivial
    refine fun p H1 n1 => ⟨⟨_, .of (n1.g _ _ ea)⟩, fb_tup (K := K) (a := a) (xs := bs.map V.bl) (fun i σ H' => Same H H' ∧ (∃ v2, σ = [some (.ref a), some (.ref p), v2]) ∧ H' p = some (.dK (tabF keyB 0 (news [] (bs.take i))))) ⟨n1.g, ⟨none, rfl⟩, n1.at'⟩ (fun i σ H' _ z => .of (z.1 _ _ ea)) ?_ ?_⟩
    · rintro i y σ H' hy ⟨g, ⟨v2, rfl⟩, ep⟩
      rw [List.getElem?_map] at hy
      obtain ⟨x, ex, rfl⟩ := Option.map_eq_some_iff.mp hy
      have en := news_take ex
      have hnl := news_len (bs.take i) []
      rw [List.length_take, List.length_nil] at hnl
      trivial
      refine ⟨_, DGet.b ep, ?_⟩
      by_cases hx : x ∈ news [] (bs.take i)
      · rw [show valV (tabF keyB 0 (news [] (bs.take i))) (.inl (blI x)) = _ from tabF_in keyB_inj hx]
        exact iteF ⟨g, by rw [en, nxt_in hx]; exact ep⟩
      · rw [show valV (tabF keyB 0 (news [] (bs.take i))) (.inl (blI x)) = _ from tabF_out keyB_inj hx]
        refine iteT ⟨_, ep, _, DPut.b ep (by rw [tabF_len]; exact small1000 (by omega)), g.wr n1.nil _, ?_⟩
        rw [upd_same, en, nxt_out hx]
        exact congrArg (fun z => some (HO.dK z)) (tabF_put keyB_inj hx)
    · rintro σ H' ⟨g, ⟨v2, rfl⟩, ep⟩
      rw [List.length_map, List.take_of_length_le (Nat.le_refl _)] at ep
      simp only [tRet, iTup, rd_v0, rd_comp, V.ref.injEq, exists_eq_left']
      refine ⟨⟨_, .of (g _ _ ea)⟩, cm_tup (K := K) (a := a) (xs := bs.map V.bl) (fun σ => ∃ v, σ = [v, some (.ref p)]) (fun y => match y with | .bl x => nV (nOf (news [] bs) x) | v => v) (by rw [List.length_map]; omega) (.of (g _ _ ea)) ⟨_, rfl⟩ ?_ ?_⟩
      · rintro D i σ H2 x hi hm hx gg hD hD' ⟨v, rfl⟩
        obtain ⟨r, mr, rfl⟩ := List.mem_map.mp hm
        have tv : valV (tabF keyB 0 (news [] bs)) (.inl (blI r)) = _ := tabF_in keyB_inj ((news_mem bs [] r).mpr (.inr mr))
        have z := DGet.b (b := r) (gg _ _ ep)
        rw [tv] at z
        trivial
        exact ⟨_, z, cm_step (by rw [List.length_map]; omega) hx hD hD' gg ⟨_, rfl⟩ rfl⟩
      intro D H3 hD g3 eD
      exact q D (bs.map (nOf (news [] bs))) H3 (g.free hD) (g.trans g3) (by rw [eD, List.map_map, List.map_map]; rfl) (num_of bs)
  · have hlr := SS.Paired.len pr
    refine ⟨_, (pss_cons (ps_set (i := 1) sc_numbered.nd rfl (Or.inr rfl) pe_dnewTN) (pss_cons (ps_for PassesOwn.never rfl (pi_listK K (pv 0)) (pg_name (i := 2) sc_numbered.nd (by rfl) (Or.inl (by rfl))) (pss_one (ps_if (pt_cmpR (op_notin_d hu) (pv 2) (pv 1) (by with_unfolding_all rfl)) (pss_one (ps_dputH hu (pv 1) (pv 2) (pe_cB call_lenT (by rfl) T.b_len boot_len (pa_c (pv 1) pa_nil)) rfl)) pss_nil))) (pss_one (ps_ret (pe_lcomp ["mark"] [(1, "numbers")] (CompOk.of rfl (by rfl) (by rfl)) (by rfl) (pi_listK K (pv 0)) (fun _ _ _ _ _ => (pg_name (i := 0) (show List.Nodup (["mark", "numbers"] : List Str) by decide +kernel) (by rfl) (Or.inl (by rfl)))) (fun _ _ _ _ _ => pf_nil) (fun _ _ _ _ _ => (pe_dgetH hu (pv 1) (pv 0) (fun _ _ => rfl)))))))), ?_⟩
    refine rd_st [some (.ref a), none, none] rfl ?_
    trivial
    refine fun p H1 n1 => ⟨⟨_, .of (n1.g _ _ ea)⟩, fb_list (K := K) (a := a) (xs := rs) (fun i σ H' => Same H H' ∧ (∃ v2, σ = [some (.ref a), some (.ref p), v2]) ∧ H' p = some (.dT (tabF keyL 0 (news [] (ms.take i))))) ⟨n1.g, ⟨none, rfl⟩, n1.at'⟩ (fun i σ H' _ z => .of (z.1 _ _ ea)) ?_ ?_⟩
    · rintro i y σ H' hy ⟨g, ⟨v2, rfl⟩, ep⟩
      obtain ⟨x, ex, t, rfl, et⟩ := SS.Paired.at pr hy
      have en := news_take ex
      have hnl := news_len (ms.take i) []
      rw [List.length_take, List.length_nil] at hnl
      have et' : H' t = some (.tup ((keyL x).map kV)) := by rw [keyL_V]; exact g _ _ et
      trivial
      refine ⟨_, DGet.t ep et', ?_⟩
      by_cases hx : x ∈ news [] (ms.take i)
      · rw [show valV (tabF keyL 0 (news [] (ms.take i))) (keyL x) = _ from tabF_in keyL_inj hx]
        exact iteF ⟨g, by rw [en, nxt_in hx]; exact ep⟩
      · rw [show valV (tabF keyL 0 (news [] (ms.take i))) (keyL x) = _ from tabF_out keyL_inj hx]
        refine iteT ⟨_, ep, _, DPut.t ep et' (by rw [tabF_len]; exact small1000 (by omega)), g.wr n1.nil _, ?_⟩
        rw [upd_same, en, nxt_out hx]
        exact congrArg (fun z => some (HO.dT z)) (tabF_put keyL_inj hx)
    · rintro σ H' ⟨g, ⟨v2, rfl⟩, ep⟩
      rw [List.take_of_length_le (by omega)] at ep
      simp only [tRet, iList, rd_v0, rd_comp, V.ref.injEq, exists_eq_left']
      refine ⟨⟨_, .of (g _ _ ea)⟩, ci_list (K := K) (a := a) (xs := rs) (fun σ => ∃ v, σ = [v, some (.ref p)]) (fun i => nV (nOf (news [] ms) (ms.getD i []))) (by omega) (.of (g _ _ ea)) ⟨_, rfl⟩ ?_ ?_⟩
      · rintro D i σ H2 x hi hx gg hD hD' ⟨v, rfl⟩
        obtain ⟨r, er, t, rfl, et⟩ := SS.Paired.at pr hx
        have tv : valV (tabF keyL 0 (news [] ms)) (keyL r) = _ := tabF_in keyL_inj ((news_mem ms [] r).mpr (.inr (List.mem_of_getElem? er)))
        have et' : H2 t = some (.tup ((keyL r).map kV)) := by rw [keyL_V]; exact gg _ _ (g _ _ et)
        have z := DGet.t (gg _ _ ep) et'
        rw [tv] at z
        trivial
        refine ⟨_, z, cstep (small_line (by omega)) hi hD' (by simp) ⟨gg.wr hD _, ⟨_, rfl⟩, ?_⟩⟩
        rw [List.range_succ, List.map_append, List.map_singleton, List.getD_eq_getElem?_getD, er, Option.getD_some]
      intro D H3 hD g3 eD
      refine q D (ms.map (nOf (news [] ms))) H3 (g.free hD) (g.trans g3) ?_ (num_of ms)
      rw [eD, hlr]
      congr 2
      refine List.ext_getElem (by simp) fun i h1 h2 => ?_
      simp only [List.length_map, List.length_range] at h1
      simp [List.getD_eq_getElem?_getD, List.getElem?_eq_getElem h1]
abbrev s_finer_sorts : Stmt := top 9
theorem sc_finer_sorts : FnScope ["machine", "sorts"] ["machine", "sorts"] (defScope s_finer_sorts) := ⟨rfl, rfl, rfl, by decide +kernel, rfl, by decide +kernel, by decide +kernel⟩
theorem ok_finer (T : Txt mg) (d : Dfn K mg "finer_sorts" s_finer_sorts ["machine", "sorts"]) (C_renamed : Cal P w K mg base 1 "renamed" ["rooms", "numbers"] sp_renamed) (C_numbered : Cal P w K mg base 1 "numbered" ["marks"] sp_numbered) : Cal P w K mg base 2 "finer_sorts" ["machine", "sorts"] sp_finer := by
  refine d.cal sc_finer_sorts (fun vs H Q E h => ?_) (fun f cdv A outer s H vs Q E hr h => ?_)
  · obtain ⟨a, b, m, ns, rfl, _⟩ := h
    rfl
  obtain ⟨a, b, m, ns, rfl, ⟨b1, c1, rs, ea, eb1, pr, ec1⟩, ok, eb, S, q⟩ := h
  have hps := pow_small ok.wid
  have hf : m.n ≤ 100 := ok.few
  have hsl : ns.length = m.n := S.len
  have hrs : rs.length = m.n := by rw [SS.Paired.len pr, ok.len]
  refine ⟨_, (pss_one (ps_ret (pe_callC C_numbered hr (by omega) (by rfl) (pa_c (pe_lcomp ["sort", "ways"] [(1, "sorts")] (CompOk.of rfl (by rfl) (by rfl)) (by rfl) (pi_zipLK K (by rfl) T.b_zip (pa_c (pv 1) (pa_c (pe_ix (ix_tupK K) (pv 0) pe_int (fun _ _ => rfl)) pa_nil))) (fun _ _ _ _ _ => (pg_tupK K (n := 2) rfl (pgs_cons (pg_name (i := 0) (show List.Nodup (["sort", "ways", "sorts"] : List Str) by decide +kernel) (by rfl) (Or.inl (by rfl))) (pgs_cons (pg_name (i := 1) (show List.Nodup (["sort", "ways", "sorts"] : List Str) by decide +kernel) (by rfl) (Or.inl (by rfl))) pgs_nil)))) (fun _ _ _ _ _ => pf_nil) (fun _ _ _ _ _ => (pe_op (op_catTNK K) (pe_tupN (pa_c (pv 0) pa_nil)) (pe_callC C_renamed hr (by omega) (by rfl) (pa_c (pv 1) (pa_c (pv 2) pa_nil)))))) pa_nil)))), ?_⟩
  refine rd_st [some (.ref a), some (.ref b)] rfl ?_
  trivial
  refine ⟨_, .of ea, _, atI_nat (j := 1) rfl, _, rfl, ⟨_, .of eb⟩, ⟨_, .of eb1⟩, cg_by (n := m.n) (fun σ => ∃ v v', σ = [v, v', some (.ref b)]) (fun j y H => Line H y (markOf m ns j)) (by omega) ⟨_, _, rfl⟩ (fun i H' hi gg => ?_) (fun H' gg => ⟨_, _, .of (gg _ _ eb), .of (gg _ _ eb1), by rw [List.length_map]; omega⟩) ?_ ?_⟩
  · obtain ⟨v2, ev, _⟩ := Paired.at2 pr (List.getElem?_eq_getElem (show i < m.ways.length by rw [ok.len]; exact hi))
    exact ⟨_, _, nV (ix ns i), v2, .of (gg _ _ eb), .of (gg _ _ eb1), by rw [List.getElem?_map, ix_at (by omega)]; rfl, ev⟩
  · rintro D i ys σ H1 x H1' hi gg hD hD' hl hy ⟨v, v', rfl⟩ yz
    obtain ⟨p, x1, y1, rfl, n1, ex, ey⟩ := yld_zipL (.of (gg _ _ eb)) (.of (gg _ _ eb1)) yz
    rw [List.getElem?_map, ix_at (by omega)] at ex
    cases ex
    have hw1 : i < m.ways.length := by rw [ok.len]; exact hi
    obtain ⟨v2, ev, a2, rfl, e4⟩ := Paired.at2 pr (List.getElem?_eq_getElem hw1)
    rw [ev] at ey
    cases ey
    have eg : m.ways.getD i [] = m.ways[i] := by rw [List.getD_eq_getElem?_getD, List.getElem?_eq_getElem hw1]; rfl
    have hll := ok.line _ (List.getElem_mem hw1)
    have g1 := gg.trans n1.g
    trivial
    refine ⟨_, .of n1.at', rfl, _, _, rfl, _, _, rfl, rfl, small_line (by simp), fun t H2 n2 => ⟨a2, b, m.ways[i], ix ns, rfl, n2.g _ _ (g1 _ _ e4), by omega, .inr ⟨ns, n2.g _ _ (g1 _ _ eb), fun r mr => ix_at (by rw [hsl]; exact ok.room _ (List.getElem_mem hw1) r mr)⟩, fun p3 H3 g3 e3 => ?_⟩⟩
    refine ⟨_, rfl, _, .of (g3 _ _ n2.at'), _, .of e3, by simp, ?_, ?_, fun p4 H4 n4 => ?_⟩
    · intro z
      have := congrArg List.length z
      rw [List.length_map, List.length_map, List.length_nil] at this
      omega
    · rw [List.length_map, List.length_map, List.length_singleton]; exact small_line (by omega)
    have g24 : Same H1' H4 := n2.g.trans (g3.trans n4.g)
    refine cg_step (fun j y H H' ts z => z.ts ts) (by omega) hi hD (g24 _ _ (n1.g _ _ hD')) hl hy (n1.g.trans g24).tups (g1.trans g24) ⟨_, _, rfl⟩ ⟨p4, rfl, ?_⟩
    rw [n4.at']
    unfold markOf
    rw [eg]
    rfl
  intro D ys H1 hD g1 eD hl hy
  refine .inr ⟨D, ys, (List.range m.n).map (markOf m ns), rfl, eD, paired_of (by rw [hl, List.length_map, List.length_range]) fun j y l e1 e2 => ?_, by rw [List.length_map, List.length_range]; omega, fun D2 fs H2 hD2 g2 e2 N => q D2 fs H2 (g1.free hD2) (g1.trans g2) e2 N⟩
  have hj : j < m.n := by rw [← hl]; exact (List.getElem?_eq_some_iff.mp e1).1
  rw [List.getElem?_map, List.getElem?_range hj] at e2
  cases e2
  exact hy j y e1
abbrev s_sorts_by : Stmt := top 10
theorem sc_sorts_by : FnScope ["ends", "part_further", "sorts", "finer"] ["ends", "part_further"] (defScope s_sorts_by) := ⟨rfl, rfl, rfl, by decide +kernel, rfl, by decide +kernel, by decide +kernel⟩
theorem ok_sortsby (T : Txt mg) (d : Dfn K mg "sorts_by" s_sorts_by ["ends", "part_further"]) (C_numbered : Cal P w K mg base 1 "numbered" ["marks"] sp_numbered) : Cal P w K mg base 4 "sorts_by" ["ends", "part_further"] (sp_sortsby P w K mg base) := by
  refine d.cal sc_sorts_by (fun vs H Q E h => ?_) (fun f cdv A outer s H vs Q E hr h => ?_)
  · obtain ⟨e, f, fd, bs, R, J, Nx, mu, rfl, _⟩ := h
    rfl
  obtain ⟨e, pf, fd, bs, R, J, Nx, mu, rfl, ee, hb, ef, cl, hR, hRs, hJ0, hJl, hnx, q⟩ := h
  have hu := hu_at hr 8 (by decide)
  refine ⟨_, (pss_cons (ps_set (i := 2) sc_sorts_by.nd rfl (Or.inl rfl) (pe_callC C_numbered hr (by omega) (by rfl) (pa_c (pv 0) pa_nil))) (pss_cons (ps_set (i := 3) sc_sorts_by.nd rfl (Or.inl rfl) (pe_callVK P w K mg base 1 3 1 (sp_part R J Nx) hr (by omega) (pa_c (pv 2) pa_nil))) (pss_cons (ps_while PassesOwn.never (pt_cmpR (op_neIK K hu) (pv 3) (pv 2) (nomark _)) (pss_cons (ps_set (i := 2) sc_sorts_by.nd rfl (Or.inl rfl) (pv 3)) (pss_one (ps_set (i := 3) sc_sorts_by.nd rfl (Or.inl rfl) (pe_callVK P w K mg base 1 3 1 (sp_part R J Nx) hr (by omega) (pa_c (pv 2) pa_nil)))))) (pss_one (ps_ret (pv 2)))))), ?_⟩
  refine rd_st [some (.ref e), some (.ref pf), none, none] rfl ?_
  trivial
  refine .inl ⟨e, bs, rfl, ee, hb, fun D1 ns H1 hD1 g1 e1 N1 => ?_⟩
  refine ⟨pf, rfl, fd, g1 _ _ ef, g1 _ _ ef, cl.mono g1.frz, rfl, D1, ns, rfl, hRs _ _ g1 hR, e1, hJ0 ns N1, fun D2 fs H2 hD2 g2 e2 N2 => ?_⟩
  refine ⟨fun mm σ H' => ∃ (ns fs : List Nat) (D1 D2 : Addr), mm = mu ns ∧ Same H H' ∧ σ = [some (.ref e), some (.ref pf), some (.ref D1), some (.ref D2)] ∧ H' D1 = some (.lst (ns.map nV)) ∧ H' D2 = some (.lst (fs.map nV)) ∧ J ns ∧ Nx ns fs,
    ⟨_, ns, fs, D1, D2, rfl, g1.trans g2, rfl, g2 _ _ e1, e2, hJ0 ns N1, N2⟩, ?_⟩
  rintro mm σ H' ⟨ns, fs, D1, D2, rfl, g, rfl, e1, e2, S, N⟩
  obtain ⟨S', dn⟩ := hnx ns fs S N
  trivial
  refine ⟨fs.map fun (n : Nat) => (n : Int), .of (by rw [← map_nV]; exact e2), ns.map fun (n : Nat) => (n : Int), .of (by rw [← map_nV]; exact e1), ?_⟩
  by_cases hn : fs = ns
  · rw [decide_eq_true (by rw [hn])]
    refine iteF ?_
    exact q D1 ns H' g e1 S (hn ▸ N)
  · rw [decide_eq_false (fun z => hn (map_cast_inj z))]
    refine iteT ⟨fun σ' H'' => ∃ m', m' < mu ns ∧ _, fun σ' H'' z => z, ?_⟩
    refine ⟨pf, rfl, fd, g _ _ ef, g _ _ ef, cl.mono g.frz, rfl, D2, fs, rfl, hRs _ _ g hR, e2, S', fun D3 fs' H3 hD3 g3 e3 N3 => ⟨mu fs, dn hn, fs, rfl, g.trans g3, fs', D2, D3, rfl, g3 _ _ e2, e3, S', N3⟩⟩
abbrev s_reduced : Stmt := top 11
theorem sc_reduced : FnScope ["machine", "rooms", "in_order", "sorts", "firsts"] ["machine"] (defScope s_reduced) := ⟨rfl, rfl, rfl, by decide +kernel, rfl, by decide +kernel, by decide +kernel⟩
abbrev qs_reduced : List (Pos × Str) := [(⟨45, 34, 45, 80⟩, "reduced.<locals>.<lambda>")]
theorem ok_reduced {c Pt : Addr} (T : Txt mg) (d : DfnC K mg "reduced" s_reduced ["machine"] c Pt) (kb : BltK base mg) (C_reached : Cal P w K mg base 1 "reached" ["machine"] sp_reached) (C_picked : Cal P w K mg base 2 "picked" ["machine", "rooms", "numbers"] sp_picked) (C_finer_sorts : Cal P w K mg base 2 "finer_sorts" ["machine", "sorts"] sp_finer) (C_sorts_by : Cal P w K mg base 4 "sorts_by" ["ends", "part_further"] (sp_sortsby P w K mg base)) : Cal P w K mg base 5 "reduced" ["machine"] (sp_reducedC Pt qs_reduced) := by
  refine d.cal sc_reduced (fun vs H Q E h => ?_) (fun f A outer s H vs Q E hr h => ?_)
  · obtain ⟨a, m, rfl, _⟩ := h
    rfl
  obtain ⟨a, m, rfl, tab, rm, ok, q⟩ := h
  have hf : m.n ≤ 100 := ok.few
  refine ⟨_, (pss_cons (ps_set (i := 1) sc_reduced.nd rfl (Or.inl rfl) (pe_callC C_reached hr (by omega) (by rfl) (pa_c (pv 0) pa_nil))) (pss_cons (ps_set (i := 2) sc_reduced.nd rfl (Or.inr rfl) (pe_callC C_picked hr (by omega) (by rfl) (pa_c (pv 0) (pa_c (pv 1) (pa_c (pe_cTy (call_dict_ofK K rfl) (by rfl) T.b_dict boot_dict (pa_c (pe_lcomp ["number", "room"] [] (CompOk.of rfl (by rfl) (by rfl)) (by rfl) (pi_enumK K (by rfl) T.b_enumerate (pa_c (pv 1) pa_nil)) (fun _ _ _ _ _ => (pg_tupK K (n := 2) rfl (pgs_cons (pg_name (i := 0) (show List.Nodup (["number", "room"] : List Str) by decide +kernel) (by rfl) (Or.inl (by rfl))) (pgs_cons (pg_name (i := 1) (show List.Nodup (["number", "room"] : List Str) by decide +kernel) (by rfl) (Or.inl (by rfl))) pgs_nil)))) (fun _ _ _ _ _ => pf_nil) (fun _ _ _ _ _ => (pe_tupN (pa_c (pv 1) (pa_c (pv 0) pa_nil))))) pa_nil)) pa_nil))))) (pss_cons (ps_set (i := 3) sc_reduced.nd rfl (Or.inr rfl) (pe_callAC C_sorts_by hr (by omega) (by rfl) (fun _ => rfl) (pa_c (pe_ix (ix_tupK K) (pv 2) pe_int (fun _ _ => rfl)) (pa_c (pe_lam (qs := qs_reduced) "reduced.<locals>.<lambda>" rfl d.code kb (by rfl) (by rfl)) pa_nil)))) (pss_cons (ps_setC (i := 4) sc_reduced.nd rfl (Or.inl rfl) ["sort"] [(3, "sorts")] (CompOk.of rfl (by rfl) (by rfl)) (by rfl) (pi_range1 (by rfl) T.b_range (pa_c (pe_op op_add (pe_cB (call_max_lK K rfl) (by rfl) T.b_max boot_max (pa_c (pv 3) pa_nil)) pe_int) pa_nil)) (fun _ _ _ _ _ => (pg_name (i := 0) (show List.Nodup (["sort", "sorts"] : List Str) by decide +kernel) (by rfl) (Or.inl (by rfl)))) (fun _ _ _ _ _ => pf_nil) (fun _ _ _ _ _ => (pe_bmK K PySem.F.plainAttrs_list PySem.F.slot_list_index PySem.F.type_list_index (mt_indexK K) (pv 1) (pa_c (pv 0) pa_nil)))) (pss_one (ps_ret (pe_callC C_picked hr (by omega) (by rfl) (pa_c (pv 2) (pa_c (pv 4) (pa_c (pv 3) pa_nil)))))))))), ?_⟩
  refine rd_st [some (.ref a), none, none, none, none] rfl ?_
  trivial
  refine ⟨a, m, rfl, rm, ok, fun D rooms H1 hD g1 eD cm => ?_⟩
  have hrl : rooms.length ≤ m.n := nodup_le cm.nd cm.lt
  refine ⟨_, rfl, ⟨_, .of eD⟩, cg_by (n := rooms.length) (fun σ => ∃ v v', σ = [v, v']) (fun j y H => ∃ t, y = .ref t ∧ H t = some (.tup [nV (ix rooms j), nV j])) (by omega) ⟨_, _, rfl⟩ (fun i H' hi gg => ⟨_, nV (ix rooms i), .of (gg _ _ eD), by rw [List.getElem?_map, ix_at hi]; rfl⟩) (fun H' gg => ⟨_, .of (gg _ _ eD), by rw [List.length_map]; exact Nat.le_refl _⟩) ?_ ?_⟩
  · rintro D' i ys σ H2 x H2' hi gg hD1 hD2 hl hy ⟨v, v', rfl⟩ yz
    obtain ⟨p, x1, rfl, n1, ex⟩ := yld_enum (.of (gg _ _ eD)) yz
    rw [List.getElem?_map, ix_at hi] at ex
    cases ex
    trivial
    refine ⟨_, .of n1.at', rfl, _, _, rfl, _, _, rfl, rfl, small_line (by simp), fun t H3 n3 => cg_step (fun j y H H' ts ⟨t, e, z⟩ => ⟨t, e, ts _ _ z⟩) (by omega) hi hD1 (n3.g _ _ (n1.g _ _ hD2)) hl hy (n1.g.trans n3.g).tups (gg.trans (n1.g.trans n3.g)) ⟨_, _, rfl⟩ ⟨t, rfl, n3.at'⟩⟩
  intro D2 ys H2 hD2 g2 eD2 hl2 hy2
  have hpo : ∀ j y (l : Key × V), ys[j]? = some y → ((List.range rooms.length).map fun i => ((Sum.inl ((ix rooms i : Nat) : Int) : Key), nV i))[j]? = some l → PairV H2 y l := fun j y l e1 e2 => by
    have hj : j < rooms.length := by rw [← hl2]; exact (List.getElem?_eq_some_iff.mp e1).1
    rw [List.getElem?_map, List.getElem?_range hj] at e2
    cases e2
    exact hy2 j y e1
  refine ⟨_, rfl, _, .of eD2, (List.range rooms.length).map fun i => ((Sum.inl ((ix rooms i : Nat) : Int) : Key), nV i), paired_of (by rw [hl2, List.length_map, List.length_range]) hpo, by rw [List.length_map, List.length_range]; omega, fun dd H3 n3 => ?_⟩
  have g13 : Same H1 H3 := g2.trans n3.g
  have hg : ∀ i, i < rooms.length → rooms.idxOf (ix rooms i) = i := fun i hi => by
    obtain ⟨h1, h2⟩ := idx_is (ix_mem hi)
    exact ix_inj cm.nd h1 hi h2
  have knd : (((List.range rooms.length).map fun i => ((Sum.inl ((ix rooms i : Nat) : Int) : Key), nV i)).map (·.1)).Nodup := by
    rw [List.map_map]
    refine SM.nodup_map_on (fun i hi j hj e => ?_) List.nodup_range
    exact ix_inj cm.nd (List.mem_range.mp hi) (List.mem_range.mp hj) (by have := Sum.inl.inj e; omega)
  have hlk : ∀ r ∈ rooms, Lk H3 dd (m.ways.getD r []) (fun x => rooms.idxOf x) := fun r mr => by
    refine .inl ⟨_, n3.at', fun x mx => merge_at _ [] _ _ knd ?_⟩
    have hx : x ∈ rooms := by
      obtain ⟨i, hi, rfl⟩ := ix_ex mr
      have hw1 : ix rooms i < m.ways.length := by rw [ok.len]; exact cm.lt _ mr
      rw [List.getD_eq_getElem?_getD, List.getElem?_eq_getElem hw1, Option.getD_some] at mx
      obtain ⟨l, hl, el⟩ := List.getElem_of_mem mx
      rw [ok.line _ (List.getElem_mem hw1)] at hl
      obtain ⟨line, f1, f2, _⟩ := ok.at (cm.lt _ mr) hl
      rw [List.getElem?_eq_getElem hw1] at f1
      cases f1
      rw [List.getElem?_eq_getElem (by rw [ok.line _ (List.getElem_mem hw1)]; exact hl), el] at f2
      obtain ⟨t, ht, et, _⟩ := cm.clos i l hi hl (.inl hi)
      rw [Option.some.inj f2, ← et]
      exact ix_mem ht
    obtain ⟨h1, h2⟩ := idx_is hx
    refine List.mem_map.mpr ⟨rooms.idxOf x, List.mem_range.mpr h1, ?_⟩
    rw [h2]
  obtain ⟨ok1, ord1, _, _⟩ := come_picked ok cm (g := fun x => rooms.idxOf x) hg
  refine ⟨a, D, dd, m, rooms, fun x => rooms.idxOf x, rfl, rm.same (g1.trans g13), ok, g13 _ _ eD, by omega, cm.lt, hlk, fun p1 H4 g4 rm1 => ?_⟩
  obtain ⟨b1, c1, rs1, ea1, eb1, pr1, ec1⟩ := id rm1
  refine ⟨p1, rfl, _, .of ea1, _, atI_nat (j := 2) rfl, tab.same (g1.trans (g13.trans g4)), fun fl H4a M => ?_⟩
  intro Hq ad
  have gq : Same H4 Hq := M.old.trans ad.up
  obtain ⟨fdl, efl⟩ := M.fn
  generalize epm : (picked m rooms fun x => rooms.idxOf x) = pm1 at ok1 ord1 rm1 ea1 pr1 ec1
  have cl : CloH P w K mg base 3 Hq fl 1 (sp_part (fun H => RepM H p1 pm1) (Sorts pm1) fun ns fs => Num ((List.range pm1.n).map (markOf pm1 ns)) fs) := by
    refine M.clo_e (own := ["coarser"]) (ps := ["coarser"]) (cap := ["in_order"]) (cv := [.ref p1]) (k := 2) (Same.refl _) ad ⟨rfl, rfl, rfl, by decide +kernel, rfl, by decide +kernel, by decide +kernel, by decide +kernel⟩ (Nat.le_refl _) (.cons ⟨2, rfl, rfl, .inl rfl⟩ .nil) (fun cl ct cd pm us hl => match us, hl with | [_], _ => rfl) ?_
    rintro clo c' A' outer' s' H' vs Q' hr hcl fz fz2 hl ⟨b, ns, rfl, hR, eb, S, q'⟩
    refine ⟨_, (pe_callC C_finer_sorts hr (by omega) (by rfl) (pa_c (pv 1) (pa_c (pv 0) pa_nil))), ?_⟩
    refine rd_se [some (.ref b), some (.ref p1)] rfl ?_
    simp only [tNil, tCons, tCall, rd_v0, rd_vS, List.append_nil]
    exact ⟨p1, b, pm1, ns, rfl, hR.ts (SameN.tups hcl.n), ok1, hcl.n _ _ eb (fun _ _ z => nomatch z), S, fun D5 fs H5 hD5 g5 eD5 N5 hnone => q' D5 fs (mixL clo H' H5) (mix_same (cl := clo) (H := H') g5 |> fun _ => by
      have := drop_none hD5 eD5 hnone
      exact this) (mix_same g5) (mix_up hnone _ _ eD5) N5⟩
  refine ⟨c1, fl, fdl, pm1.ends, (fun H => RepM H p1 pm1), Sorts pm1, _, (fun ns => pm1.n * pm1.n - ns.sum), rfl, gq _ _ ec1, ok1.few, ad.up _ _ efl, cl, rm1.same gq, (fun H1 H2 g z => z.same g), (fun ns N => sorts_first N), (fun ns S => by rw [S.len]; exact ok1.few), (fun ns fs S N => ?_), fun D5 ns H5' g5' eD5' S N5 => ?_⟩
  · obtain ⟨S', ref, _⟩ := sorts_next ok1 S N
    refine ⟨S', fun hn => ?_⟩
    obtain ⟨m1, m2⟩ := sorts_more S S' ref hn
    show pm1.n * pm1.n - fs.sum < pm1.n * pm1.n - ns.sum
    omega
  have st := (sorts_next ok1 S N5).2.2 rfl
  have g5 := M.old.trans (ad.same g5')
  have eD5 := ad.keep g5' eD5' (fun _ _ z => nomatch z)
  dsimp only
  generalize dropX _ H5' = H5 at g5 eD5 ⊢
  subst epm
  have hnl : ns.length = rooms.length := by rw [S.len, picked_n]
  refine ⟨_, rfl, ns.map fun (n : Nat) => (n : Int), .of (by rw [← map_nV]; exact eD5), by rw [List.length_map, hnl]; exact cm.pos, fun M mM hM => ?_⟩
  obtain ⟨Mn, mMn, rfl⟩ := List.mem_map.mp mM
  have hMl : ∀ x ∈ ns, x ≤ Mn := fun x mx => by have := hM _ (List.mem_map.mpr ⟨x, mx, rfl⟩); omega
  obtain ⟨F, mem⟩ := firsts_of S.srt mMn hMl
  have hMb : Mn < 100 := by
    obtain ⟨i, hi, ei⟩ := ix_ex mMn
    have := S.srt.le i hi
    omega
  have etn : ((Mn : Int) + 1 - 0).toNat = Mn + 1 := by omega
  refine ⟨by omega, by omega, ?_⟩
  rw [show ((Mn : Int) + 1).toNat = Mn + 1 by omega]
  refine cr_map (fun σ => ∃ v, σ = [v, some (.ref D5)]) (fun i => nV (ns.idxOf i)) (by omega) ⟨_, rfl⟩ ?_ ?_
  · rintro D6 i σ H6 hi gg hD6 hD6' ⟨v, rfl⟩
    trivial
    refine ⟨.inl ⟨_, .of (gg _ _ eD5)⟩, ns.map fun (n : Nat) => (n : Int), .of (by rw [← map_nV]; exact gg _ _ eD5), List.mem_map.mpr ⟨i, mem i (by omega), by omega⟩, by rw [List.length_map]; omega, ?_⟩
    refine cr_step (by omega) hi hD6 hD6' gg ⟨_, rfl⟩ ?_
    rw [show (0 : Int) + (i : Int) = ((i : Nat) : Int) by omega, idx_cast]
  intro D6 H6 hD6 g6 eD6
  have eD6' : H6 D6 = some (.lst (((List.range (Mn + 1)).map fun s => ns.idxOf s).map nV)) := by rw [eD6, List.map_map]; rfl
  have fl : ∀ r ∈ ((List.range (Mn + 1)).map fun s => ns.idxOf s), r < (picked m rooms fun x => rooms.idxOf x).n := fun r mr => by
    obtain ⟨s', hs, rfl⟩ := ix_ex mr
    rw [← S.len]
    exact F.lt s' hs
  refine ⟨p1, D6, D5, _, _, ix ns, rfl, rm1.same (g5.trans g6), ok1, eD6', by rw [List.length_map, List.length_range]; omega, fl, fun r mr => .inr ⟨ns, g6 _ _ eD5, fun x mx => ix_at ?_⟩, fun p2 H7 g7 rm2 => ?_⟩
  · rw [S.len]
    have hw1 : r < (picked m rooms fun x => rooms.idxOf x).ways.length := by rw [ok1.len]; exact fl r mr
    rw [List.getD_eq_getElem?_getD, List.getElem?_eq_getElem hw1, Option.getD_some] at mx
    exact ok1.room _ (List.getElem_mem hw1) x mx
  · exact q p2 _ H7 (g1.trans (g13.trans (g4.trans (g5.trans (g6.trans g7))))) rm2 (red_of ok cm hg S st F)
end
section
variable {P : Program} {w : World} {K : PySem.W.Frag} {mg : Str → Option Value} {base : Heap}
theorem ok_renamedP (T : Txt mg) (d : Dfn K mg "renamed" s_renamed ["rooms", "numbers"]) : Cal P w K mg base 1 "renamed" ["rooms", "numbers"] sp_renamedP := by
  refine d.cal sc_renamed (fun vs H Q E h => ?_) (fun f cdv A outer s H vs Q E hr h => ?_)
  · obtain ⟨a, b, rs, ls, fs, rfl, _⟩ := h
    rfl
  obtain ⟨a, b, rs, ls, fs, rfl, ea, pr, h16, eb, hin, q⟩ := h
  have hu := hu_at hr 8 (by decide)
  have hrl := SS.Paired.len pr
  refine ⟨_, (pss_one (ps_ret (pe_cTy call_tuple_ofN (by rfl) T.b_tuple boot_tuple (pa_c (pe_lcomp ["room"] [(1, "numbers")] (CompOk.of rfl (by rfl) (by rfl)) (by rfl) (pi_listK K (pv 0)) (fun _ _ _ _ _ => (pg_name (i := 0) (show List.Nodup (["room", "numbers"] : List Str) by decide +kernel) (by rfl) (Or.inl (by rfl)))) (fun _ _ _ _ _ => pf_nil) (fun _ _ _ _ _ => (pe_dgetH hu (pv 1) (pv 0) (fun _ _ => rfl)))) pa_nil)))), ?_⟩
  refine rd_st [some (.ref a), some (.ref b)] rfl ?_
  trivial
  refine ⟨⟨_, .of ea⟩, cg_by (n := ls.length) (fun σ => ∃ v, σ = [v, some (.ref b)]) (fun j y H => y = nV (nOf fs (ls.getD j []))) (by omega) ⟨_, rfl⟩ (fun i H' hi gg => ⟨_, rs[i]'(by omega), .of (gg _ _ ea), List.getElem?_eq_getElem _⟩) (fun H' gg => ⟨_, .of (gg _ _ ea), by omega⟩) ?_ ?_⟩
  · rintro D i ys σ H1 x H1' hi gg hD hD' hl hy ⟨v, rfl⟩ ⟨rfl, yx⟩
    have ex := yx _ (.of (gg _ _ ea))
    obtain ⟨l, el, t, rfl, et⟩ := SS.Paired.at pr ex
    have et2 := gg _ _ et
    rw [← keyL_V] at et2
    have z := DGet.t (gg _ _ eb) et2
    rw [tabF_in keyL_inj (hin l (List.mem_of_getElem? el))] at z
    trivial
    refine ⟨_, z, cg_step (fun j y H H' ts z => z) (by omega) hi hD hD' hl hy (Same.refl _).tups gg ⟨_, rfl⟩ ?_⟩
    rw [List.getD_eq_getElem?_getD, el]; rfl
  intro D ys H1 hD g1 eD hl hy
  have eD' : H1 D = some (.lst ((ls.map (nOf fs)).map nV)) := by
    rw [eD]
    congr 2
    refine List.ext_getElem? fun j => ?_
    by_cases hj : j < ls.length
    · rw [List.getElem?_eq_getElem (show j < ys.length by omega), hy j _ (List.getElem?_eq_getElem (show j < ys.length by omega)), List.getElem?_map, List.getElem?_map, List.getD_eq_getElem?_getD, List.getElem?_eq_getElem hj]
      rfl
    · rw [List.getElem?_eq_none (by omega), List.getElem?_eq_none (by rw [List.length_map, List.length_map]; omega)]
  exact ⟨_, rfl, _, .inl ⟨.of eD', fun t H2 n2 => q t H2 (g1.trans n2.g) n2.at'⟩⟩
abbrev s_explored : Stmt := top 18
theorem sc_explored : FnScope ["tracks", "first", "comings", "is_end", "numbers", "found", "ways", "coming_here", "thing"] ["tracks", "first", "comings", "is_end"] (defScope s_explored) := ⟨rfl, rfl, rfl, by decide +kernel, rfl, by decide +kernel, by decide +kernel⟩
theorem ok_explored {Pt : Addr} (T : Txt mg) (d : Dfn K mg "explored" s_explored ["tracks", "first", "comings", "is_end"]) (C_renamed : Cal P w K mg base 1 "renamed" ["rooms", "numbers"] sp_renamedP) (C_reduced : Cal P w K mg base 5 "reduced" ["machine"] (sp_reducedC Pt qs_reduced)) :
    Cal P w K mg base 6 "explored" ["tracks", "first", "comings", "is_end"] (sp_explored P w K mg base Pt qs_reduced) := by
  refine d.cal sc_explored (fun vs H Q E h => ?_) (fun f cdv A outer s H vs Q E hr h => ?_)
  · obtain ⟨a, fc, fe, fd, fd', Th, G, R, t0, rfl, _⟩ := h
    rfl
  obtain ⟨a, fc, fe, fdc, fde, Th, G, R, t0, rfl, tab, ea, efc, efe, clc, cle, hR, hRs, hw, hG0, hst, h100, q⟩ := h
  have hu := hu_at hr 8 (by decide)
  refine ⟨_, (pss_cons (ps_set (i := 4) sc_explored.nd rfl (Or.inl rfl) (pe_disp1T hu (pv 1) pe_int)) (pss_cons (ps_set (i := 5) sc_explored.nd rfl (Or.inl rfl) (pe_lstN (pa_c (pv 1) pa_nil))) (pss_cons (ps_set (i := 6) sc_explored.nd rfl (Or.inl rfl) (pe_lstN pa_nil)) (pss_cons (ps_while PassesOwn.never (pt_cmpR op_lt (pe_cB (call_len_seqK K) (by rfl) T.b_len boot_len (pa_c (pv 6) pa_nil)) (pe_cB (call_len_seqK K) (by rfl) T.b_len boot_len (pa_c (pv 5) pa_nil)) (nomark _)) (pss_cons (ps_set (i := 7) sc_explored.nd rfl (Or.inl rfl) (pe_callVK P w K mg base 2 4 1 (sp_comings R Th G) hr (by omega) (pa_c (pe_ix (ix_listK K) (pv 5) (pe_cB (call_len_seqK K) (by rfl) T.b_len boot_len (pa_c (pv 6) pa_nil)) (fun _ _ => rfl)) pa_nil))) (pss_cons (ps_for PassesOwn.never rfl (pi_listK K (pv 7)) (pg_name (i := 8) sc_explored.nd (by rfl) (Or.inl (by rfl))) (pss_one (ps_if (pt_cmpR (op_notin_d hu) (pv 8) (pv 4) (by with_unfolding_all rfl)) (pss_cons (ps_dputH hu (pv 4) (pv 8) (pe_cB (call_len_seqK K) (by rfl) T.b_len boot_len (pa_c (pv 5) pa_nil)) rfl) (pss_one (ps_expr (pe_bmK K PySem.F.plainAttrs_list PySem.F.slot_list_append PySem.F.type_list_append mt_append (pv 5) (pa_c (pv 8) pa_nil))))) pss_nil))) (pss_cons (ps_if (pt_cmpR op_gt (pe_cB (call_len_seqK K) (by rfl) T.b_len boot_len (pa_c (pv 5) pa_nil)) (pe_gl (by rfl) T.g_MOST_COME_TO) (nomark _)) (pss_one ps_never) pss_nil) (pss_one (ps_expr (pe_bmK K PySem.F.plainAttrs_list PySem.F.slot_list_append PySem.F.type_list_append mt_append (pv 6) (pa_c (pe_callC C_renamed hr (by omega) (by rfl) (pa_c (pv 7) (pa_c (pv 4) pa_nil))) pa_nil)))))))) (pss_one (ps_ret (pe_callC C_reduced hr (by omega) (by rfl) (pa_c (pe_tupN (pa_c (pv 0) (pa_c (pe_cTy call_tuple_ofN (by rfl) T.b_tuple boot_tuple (pa_c (pv 6) pa_nil)) (pa_c (pe_cTy call_tuple_ofN (by rfl) T.b_tuple boot_tuple (pa_c (pe_lcomp ["thing"] [(3, "is_end")] (CompOk.of rfl (by rfl) (by rfl)) (by rfl) (pi_listK K (pv 5)) (fun _ _ _ _ _ => (pg_name (i := 0) (show List.Nodup (["thing", "is_end"] : List Str) by decide +kernel) (by rfl) (Or.inl (by rfl)))) (fun _ _ _ _ _ => pf_nil) (fun _ _ _ _ _ => (pe_callVK P w K mg base 1 4 1 (sp_isend R Th G) hr (by omega) (pa_c (pv 0) pa_nil)))) pa_nil)) pa_nil)))) pa_nil)))))))), ?_⟩
  refine rd_st [some (nV Th.w), some (.ref a), some (.ref fc), some (.ref fe), none, none, none, none, none] rfl ?_
  trivial
  refine fun kd Hk nk => ⟨nk.at', keyL t0, by rw [keyL_V]; exact nk.g _ _ ea, small_line (by simp), fun pf H2 n2 => ⟨by decide, fun pw H3 n3 => ?_⟩⟩
  generalize eH : upd Hk kd (.dT [(keyL t0, V.int 0)]) = Hk2 at n2
  have gk : Same H Hk2 := by rw [← eH]; exact nk.g.wr nk.nil _
  have ek : Hk2 kd = some (.dT (tabF keyL 0 [t0])) := by rw [← eH, upd_same]; rfl
  have g3 : Same H H3 := gk.trans (n2.g.trans n3.g)
  have nfk : kd ≠ pf := ne_of_none ek n2.nil
  have nwk : kd ≠ pw := ne_of_none (n2.g _ _ ek) n3.nil
  have nfw : pf ≠ pw := ne_of_none n2.at' n3.nil
  have hkd : H kd = none := nk.nil
  have hpf : H pf = none := gk.free n2.nil
  have hpw : H pw = none := (gk.trans n2.g).free n3.nil
  have hps := pow_small hw
  refine ⟨fun mm σ H' => ∃ (k : Nat) (fs : List (List Nat)) (rs rw : List V) (v7 v8 : Option V), mm = 100 - k ∧ Same H H' ∧ σ = [some (nV Th.w), some (.ref a), some (.ref fc), some (.ref fe), some (.ref kd), some (.ref pf), some (.ref pw), v7, v8] ∧ H' kd = some (.dT (tabF keyL 0 fs)) ∧ H' pf = some (.lst rs) ∧ Paired (Line H') rs fs ∧ H' pw = some (.lst rw) ∧ Paired (Line H') rw ((fs.take k).map fun t => (Th.step t).map (nOf fs)) ∧ Fnd Th G t0 fs k,
    ⟨100, 0, [t0], [.ref a], [], none, none, rfl, g3, rfl, (n2.g.trans n3.g) _ _ ek, n3.g _ _ n2.at', .cons ⟨a, rfl, g3 _ _ ea⟩ .nil, n3.at', .nil, Fnd.start hG0⟩, ?_⟩
  rintro mm σ H' ⟨k, fs, rs, rw', v7, v8, rfl, g, rfl, ek', ef', pr, ew', pw', F⟩
  have hrl := SS.Paired.len pr
  have hwl := SS.Paired.len pw'
  rw [List.length_map, List.length_take, Nat.min_eq_left F.le] at hwl
  have h1 := h100 fs k F
  trivial
  refine ⟨_, .inl (.of ew'), _, .inl (.of ef'), ?_⟩
  by_cases hlt : k < fs.length
  · rw [decide_eq_true (by omega)]
    refine iteT ⟨fun σ' H'' => ∃ m', m' < 100 - k ∧ _, fun σ' H'' z => z, ?_⟩
    have et : fs[k]? = some fs[k] := List.getElem?_eq_getElem hlt
    obtain ⟨v, ev, ta, rfl, eta⟩ := Paired.at2 pr et
    have hGt := F.good _ (List.getElem_mem hlt)
    generalize fs[k] = t at et eta hGt
    obtain ⟨hsl, hsG⟩ := hst t hGt
    refine ⟨fc, rfl, fdc, g _ _ efc, _, .inl (.of ew'), _, .of ef', _, by rw [hwl]; exact atI_nat ev, g _ _ efc, clc.mono g.frz, rfl, ta, t, rfl, hRs _ _ g hR, eta, hGt, fun D rs' H1 hD g1 eD pr1 => ⟨D, rfl, ⟨_, .of eD⟩, ?_⟩⟩
    have nkD : kd ≠ D := ne_of_none ek' hD
    have nfD : pf ≠ D := ne_of_none ef' hD
    have hpl := SS.Paired.len pr1
    refine fb_list (K := K) (a := D) (xs := rs') (fun j σ H'' => Same H H'' ∧ TupS H1 H'' ∧ (∃ v8, σ = [some (nV Th.w), some (.ref a), some (.ref fc), some (.ref fe), some (.ref kd), some (.ref pf), some (.ref pw), some (.ref D), v8]) ∧ H'' D = some (.lst rs') ∧ H'' pw = some (.lst rw') ∧ ∃ rsj, H'' kd = some (.dT (tabF keyL 0 (news fs ((Th.step t).take j)))) ∧ H'' pf = some (.lst rsj) ∧ Paired (Line H'') rsj (news fs ((Th.step t).take j)))
      ⟨g.trans g1, TupS.refl _, ⟨_, rfl⟩, eD, g1 _ _ ew', rs, g1 _ _ ek', g1 _ _ ef', L2.Paired.mapP pr fun _ _ z => z.ts g1.tups⟩ (fun j σ H'' _ z => .of z.2.2.2.1) ?_ ?_
    · rintro j y σ H'' hy ⟨g2, ts, ⟨v8', rfl⟩, eD2, ew2, rsj, ek2, ef2, prj⟩
      obtain ⟨u, eu, tu, rfl, etu⟩ := SS.Paired.at pr1 hy
      have etu1 := ts _ _ etu
      have etu2 : H'' tu = some (.tup ((keyL u).map kV)) := by rw [keyL_V]; exact etu1
      have hjl := SS.Paired.len prj
      have hnl := news_len ((Th.step t).take j) fs
      rw [List.length_take] at hnl
      trivial
      refine ⟨_, DGet.t ek2 etu2, ?_⟩
      by_cases hin : u ∈ news fs ((Th.step t).take j)
      · rw [tabF_in keyL_inj hin]
        refine iteF ?_
        rw [news_takeA eu, nxt_in hin]
        exact ⟨g2, ts, eD2, ew2, ek2, rsj, ef2, prj⟩
      · rw [tabF_out keyL_inj hin]
        have ef3 : ∀ o, upd H'' kd o pf = some (.lst rsj) := fun o => by rw [upd_ne (Ne.symm nfk)]; exact ef2
        refine iteT ⟨_, .inl (.of ef2), _, DPut.t ek2 etu2 (by rw [tabF_len]; exact small1000 (by omega)), .inl ⟨_, .of (ef3 _)⟩, _, ef3 _, small1000 (by omega), ?_⟩
        rw [news_takeA eu, nxt_out hin]
        generalize news fs ((Th.step t).take j) = ds at hin ek2 prj hjl hnl
        have ep : putK (tabF keyL 0 ds) (keyL u) (V.int (rsj.length : Int)) = tabF keyL 0 (ds ++ [u]) := by
          rw [← tabF_put keyL_inj hin, tabF_len, hjl]
        have tsA : TupS H'' (upd (upd H'' kd (.dT (putK (tabF keyL 0 ds) (keyL u) (V.int (rsj.length : Int))))) pf (.lst (rsj ++ [.ref tu]))) := (TupS.wrT ek2 _).trans (TupS.wr (ef3 _) _)
        refine ⟨(g2.wr hkd _).wr hpf _, ts.trans tsA, by rw [upd_ne (Ne.symm nfD), upd_ne (Ne.symm nkD)]; exact eD2, by rw [upd_ne (Ne.symm nfw), upd_ne (Ne.symm nwk)]; exact ew2, by rw [upd_ne nfk, upd_same, ep], rsj ++ [.ref tu], upd_same, SM.Paired.snoc (L2.Paired.mapP prj fun _ _ z => z.ts tsA) ⟨tu, rfl, tsA _ _ etu1⟩⟩
    · rintro σ H'' ⟨g2, ts, ⟨v8', rfl⟩, eD2, ew2, rsj, ek2, ef2, prj⟩
      rw [hpl, List.take_of_length_le (Nat.le_refl _)] at ek2 prj
      have F' := F.next et hsG
      have h2 := h100 _ _ F'
      have hjl := SS.Paired.len prj
      trivial
      refine ⟨_, .inl (.of ef2), ?_⟩
      rw [decide_eq_false (by omega)]
      refine iteF ⟨.inl ⟨_, .of ew2⟩, D, kd, rs', Th.step t, news fs (Th.step t), rfl, eD2, L2.Paired.mapP pr1 (fun _ _ z => z.ts ts), by omega, ek2, (fun l hl => (news_mem _ _ _).mpr (.inr hl)), fun p H4 g4 ep => ⟨_, g4 _ _ ew2, small1000 (by omega), ?_⟩⟩
      have tsB : TupS H'' (upd H4 pw (.lst (rw' ++ [.ref p]))) := g4.tups.trans (TupS.wr (g4 _ _ ew2) _)
      refine ⟨100 - (k + 1), by omega, k + 1, rfl, (g2.trans g4).wr hpw _, news fs (Th.step t), by rw [upd_ne nwk]; exact g4 _ _ ek2, rsj, by rw [upd_ne nfw]; exact g4 _ _ ef2, L2.Paired.mapP prj (fun _ _ z => z.ts tsB), rw' ++ [.ref p], upd_same, ?_, F'⟩
      rw [ways_next F et]
      exact SM.Paired.snoc (L2.Paired.mapP pw' fun _ _ z => z.ts (g1.tups.trans (ts.trans tsB))) ⟨p, rfl, TupS.wr (g4 _ _ ew2) _ _ _ ep⟩
  · rw [decide_eq_false (by omega)]
    have hk : k = fs.length := by have := F.le; omega
    subst hk
    refine iteF ?_
    have hF : ∀ t ∈ fs, G t := F.good
    refine ⟨_, .inl ⟨.of ew', fun t1 H4 n4 => ⟨⟨_, .of (n4.g _ _ ef')⟩, ?_⟩⟩⟩
    refine cg_by (n := fs.length) (fun σ => ∃ v, σ = [v, some (.ref fe)]) (fun j y H => y = .bl (Th.fin (fs.getD j []))) (by omega) ⟨_, rfl⟩ (fun i H5 hi gg => ⟨_, rs[i]'(by omega), .of (gg _ _ (n4.g _ _ ef')), List.getElem?_eq_getElem _⟩) (fun H5 gg => ⟨_, .of (gg _ _ (n4.g _ _ ef')), by omega⟩) ?_ ?_
    · rintro D i ys σ H5 x H5' hi gg hD hD' hl hy ⟨v, rfl⟩ ⟨rfl, yx⟩
      have ex := yx _ (.of (gg _ _ (n4.g _ _ ef')))
      obtain ⟨l, el, tl, rfl, etl⟩ := SS.Paired.at pr ex
      have gg' := g.trans (n4.g.trans gg)
      simp only [tCallV, gName, tNil, tCons, tYes, rd_v0, List.set_cons_zero, exists_and_left, if_true]
      refine ⟨fe, rfl, fde, gg' _ _ efe, gg' _ _ efe, cle.mono gg'.frz, rfl, tl, l, rfl, hRs _ _ gg' hR, (n4.g.trans gg) _ _ etl, F.good l (List.mem_of_getElem? el), fun H6 g6 => cg_step (fun j y H H' ts z => z) (by omega) hi hD (g6 _ _ hD') hl hy g6.tups (gg.trans g6) ⟨_, rfl⟩ ?_⟩
      rw [List.getD_eq_getElem?_getD, el]; rfl
    intro D ys H5 hD g5 eD hl hy
    have eD' : H5 D = some (.lst ((fs.map Th.fin).map V.bl)) := by
      rw [eD]
      congr 2
      refine List.ext_getElem? fun j => ?_
      by_cases hj : j < fs.length
      · rw [List.getElem?_eq_getElem (show j < ys.length by omega), hy j _ (List.getElem?_eq_getElem (show j < ys.length by omega)), List.getElem?_map, List.getElem?_map, List.getD_eq_getElem?_getD, List.getElem?_eq_getElem hj]
        rfl
      · rw [List.getElem?_eq_none (by omega), List.getElem?_eq_none (by rw [List.length_map, List.length_map]; omega)]
    refine ⟨D, rfl, _, .inl ⟨.of eD', fun t2 H6 n6 => ⟨small_line (by simp), fun t3 H7 n7 => ?_⟩⟩⟩
    have gA := n4.g.trans (g5.trans (n6.g.trans n7.g))
    rw [List.take_of_length_le (Nat.le_refl _)] at pw'
    have rp : RepM H7 t3 (expl Th fs) := ⟨t1, t2, rw', n7.at', (g5.trans (n6.g.trans n7.g)) _ _ n4.at', L2.Paired.mapP pw' (fun _ _ z => z.ts gA.tups), n7.g _ _ n6.at'⟩
    refine ⟨t3, expl Th fs, rfl, tab.same (g.trans gA), rp, expl_ok hw F (by omega) (fun t h => (hst t h).1), fun p m' H8 g8 r8 Rd => q p m' H8 (g.trans (gA.trans g8)) r8 Rd.ok Rd.w Rd.canon fun row hr => ?_⟩
    rw [← Rd.par row hr, expl_takes F (fun t h => (hst t h).1) row hr]
abbrev s_paired : Stmt := top 19
theorem sc_paired : FnScope ["one", "other", "is_end", "comings"] ["one", "other", "is_end"] (defScope s_paired) := ⟨rfl, rfl, rfl, by decide +kernel, rfl, by decide +kernel, by decide +kernel⟩
abbrev qs_paired : List (Pos × Str) := [(⟨74, 4, 75, 60⟩, "paired.<locals>.comings"), (⟨76, 45, 76, 100⟩, "paired.<locals>.<lambda>")]
theorem ok_pairedG {c Pp Pt : Addr} (T : Txt mg) (d : DfnC K mg "paired" s_paired ["one", "other", "is_end"] c Pp) (kb : BltK base mg) (C_explored : Cal P w K mg base 6 "explored" ["tracks", "first", "comings", "is_end"] (sp_explored P w K mg base Pt qs_reduced)) :
    Cal P w K mg base 7 "paired" ["one", "other", "is_end"] (sp_pairedG P w K mg base Pt qs_reduced Pp qs_paired) := by
  refine d.cal sc_paired (fun vs H Q E h => ?_) (fun f A outer s H vs Q E hr h => ?_)
  · obtain ⟨a, b, pf, fd, m1, m2, op, G, rfl, _⟩ := h
    rfl
  obtain ⟨a, b, pf, fd, m1, m2, op, G, rfl, tr, tp, rm1, rm2, o1, o2, hw, ⟨hGP, hG0, hGs, h100⟩, ef, cl, q⟩ := h
  obtain ⟨b1, c1, rs1, ea, eb1, pr1, ec1⟩ := id rm1
  obtain ⟨b2, c2, rs2, eb, eb2, pr2, ec2⟩ := id rm2
  refine ⟨_, (pss_cons (ps_if (pt_cmpR op_ne (pe_ix (ix_tupK K) (pv 0) pe_int (fun _ _ => rfl)) (pe_ix (ix_tupK K) (pv 1) pe_int (fun _ _ => rfl)) (nomark _)) (pss_one ps_never) pss_nil) (pss_cons (ps_dfn (qs := qs_paired) "paired.<locals>.comings" (j := 3) rfl d.code kb (by rfl) (by rfl) sc_paired.nd rfl rfl) (pss_one (ps_ret (pe_callAC C_explored hr (by omega) (by rfl) (fun _ => rfl) (pa_c (pe_ix (ix_tupK K) (pv 0) pe_int (fun _ _ => rfl)) (pa_c (pe_tupN (pa_c pe_int (pa_c pe_int pa_nil))) (pa_c (pv 3) (pa_c (pe_lam (qs := qs_paired) "paired.<locals>.<lambda>" rfl d.code kb (by rfl) (by rfl)) pa_nil))))))))), ?_⟩
  refine rd_st [some (.ref a), some (.ref b), some (.ref pf), none] rfl ?_
  trivial
  refine ⟨_, .of ea, _, atI_0, _, .of eb, _, atI_0, rfl, ?_⟩
  rw [show (!decide (nV m1.w = nV m2.w)) = false by rw [hw]; simp]
  refine iteF ⟨tp, fun f1 H1 M1 => ⟨_, .of (M1.old _ _ ea), _, atI_0, small_line (by simp), fun t0 H2 n2 => ⟨tp.same (M1.old.trans n2.g), fun f2 H3 M2 Hq ad => ?_⟩⟩⟩
  have g3 : Same H H3 := M1.old.trans (n2.g.trans M2.old)
  have gq : Same H Hq := g3.trans ad.up
  obtain ⟨fd1, ef1⟩ := M1.fn
  obtain ⟨fd2, ef2⟩ := M2.fn
  have clc : CloH P w K mg base 4 Hq f1 1 (sp_comings (fun H => RepM H a m1 ∧ RepM H b m2) (pairT m1 m2 op) G) := by
    refine M1.clo_s (own := ["pair"]) (ps := ["pair"]) (cap := ["one", "other"]) (cv := [.ref a, .ref b]) (k := 3) (n2.g.trans M2.old) ad ⟨rfl, rfl, rfl, by decide +kernel, rfl, by decide +kernel, by decide +kernel, by decide +kernel⟩ (Nat.le_refl _) (.cons ⟨0, rfl, rfl, .inl rfl⟩ (.cons ⟨1, rfl, rfl, .inl rfl⟩ .nil)) (fun cl ct cd pm us hl => match us, hl with | [_], _ => rfl) ?_
    rintro clo c' A' outer' s' H' vs Q' hr hcl fz fz2 hl ⟨pa, t, rfl, ⟨hR1, hR2⟩, et, hGt, q'⟩
    obtain ⟨x, y, rfl, hx, hy⟩ := hGP t hGt
    refine ⟨_, (pss_one (ps_ret (pe_list_zip rfl (by rfl) T.b_list (by rfl) T.b_zip (pa_c (pe_ix (ix_tupK K) (pe_ix (ix_tupK K) (pv 1) pe_int (fun _ _ => rfl)) (pe_ix (ix_tupK K) (pv 0) pe_int (fun _ _ => rfl)) (fun _ _ => rfl)) (pa_c (pe_ix (ix_tupK K) (pe_ix (ix_tupK K) (pv 2) pe_int (fun _ _ => rfl)) (pe_ix (ix_tupK K) (pv 0) pe_int (fun _ _ => rfl)) (fun _ _ => rfl)) pa_nil))))), ?_⟩
    refine rd_st [some (.ref pa), some (.ref a), some (.ref b)] rfl ?_
    trivial
    obtain ⟨b1', c1', rs1', ea', eb1', pr1', ec1'⟩ := hR1.ts (SameN.tups hcl.n)
    obtain ⟨b2', c2', rs2', eb', eb2', pr2', ec2'⟩ := hR2.ts (SameN.tups hcl.n)
    have et' := hcl.n _ _ et (fun _ _ z => nomatch z)
    obtain ⟨l1, w1, e1, n1, r1⟩ := ways_get o1 hx
    obtain ⟨l2, w2, e2, n2', r2⟩ := ways_get o2 hy
    obtain ⟨v1, ev1, u1, rfl, eu1⟩ := Paired.at2 pr1' w1
    obtain ⟨v2, ev2, u2, rfl, eu2⟩ := Paired.at2 pr2' w2
    have hps := pow_small o1.wid
    refine ⟨_, .of ea', _, atI_nat (j := 1) rfl, _, .of et', _, atI_0, b1', rfl, _, _, rfl, .of eb1', _, atI_nat ev1, _, .of eb', _, atI_nat (j := 1) rfl, _, .of et', _, atI_nat (j := 1) rfl, b2', rfl, _, _, rfl, .of eb2', _, atI_nat ev2, u1, rfl, u2, rfl, _, .of eu1, _, .of eu2, by rw [List.length_map, List.length_map, n1, n2', hw], by rw [List.length_map, n1]; omega, fun L ps H5 hL g5 eL lps PL hn => q' L (ps.map V.ref) (mixL clo H' H5) (drop_none hL eL hn) (mix_same g5) (mix_up hn _ _ eL) ?_⟩
    show Paired _ _ (((m1.ways.getD x []).zip (m2.ways.getD y [])).map fun p => [p.1, p.2])
    rw [e1, e2]
    refine paired_of (by rw [List.length_map, List.length_map, List.length_zip, lps, List.length_map, n1, n2', ← hw, Nat.min_self]) fun j v l ev el => ?_
    rw [List.getElem?_map] at ev el
    obtain ⟨p, ep, rfl⟩ := Option.map_eq_some_iff.mp ev
    obtain ⟨⟨z1, z2⟩, ez, rfl⟩ := Option.map_eq_some_iff.mp el
    obtain ⟨x', y', h1, h2, h3⟩ := PL j p ep
    obtain ⟨hz1, hz2⟩ := List.getElem?_zip_eq_some.mp ez
    rw [List.getElem?_map, hz1] at h1
    rw [List.getElem?_map, hz2] at h2
    cases h1
    cases h2
    exact ⟨p, rfl, mix_up hn _ _ h3⟩
  have cle : CloH P w K mg base 4 Hq f2 1 (sp_isend (fun H => RepM H a m1 ∧ RepM H b m2) (pairT m1 m2 op) G) := by
    refine M2.clo_e (own := ["pair"]) (ps := ["pair"]) (cap := ["is_end", "one", "other"]) (cv := [.ref pf, .ref a, .ref b]) (k := 3) (Same.refl _) ad ⟨rfl, rfl, rfl, by decide +kernel, rfl, by decide +kernel, by decide +kernel, by decide +kernel⟩ (Nat.le_refl _) (.cons ⟨2, rfl, rfl, .inl rfl⟩ (.cons ⟨0, rfl, rfl, .inl rfl⟩ (.cons ⟨1, rfl, rfl, .inl rfl⟩ .nil))) (fun cl ct cd pm us hl => match us, hl with | [_], _ => rfl) ?_
    rintro clo c' A' outer' s' H' vs Q' hr hcl fz fz2 hl ⟨pa, t, rfl, ⟨hR1, hR2⟩, et, hGt, q'⟩
    obtain ⟨x, y, rfl, hx, hy⟩ := hGP t hGt
    refine ⟨_, (pe_callVK P w K mg base 1 2 2 (sp_bool2 op) hr (by omega) (pa_c (pe_ix (ix_tupK K) (pe_ix (ix_tupK K) (pv 2) pe_int (fun _ _ => rfl)) (pe_ix (ix_tupK K) (pv 0) pe_int (fun _ _ => rfl)) (fun _ _ => rfl)) (pa_c (pe_ix (ix_tupK K) (pe_ix (ix_tupK K) (pv 3) pe_int (fun _ _ => rfl)) (pe_ix (ix_tupK K) (pv 0) pe_int (fun _ _ => rfl)) (fun _ _ => rfl)) pa_nil))), ?_⟩
    refine rd_se [some (.ref pa), some (.ref pf), some (.ref a), some (.ref b)] rfl ?_
    trivial
    obtain ⟨b1', c1', rs1', ea', eb1', pr1', ec1'⟩ := hR1.ts (SameN.tups hcl.n)
    obtain ⟨b2', c2', rs2', eb', eb2', pr2', ec2'⟩ := hR2.ts (SameN.tups hcl.n)
    have et' := hcl.n _ _ et (fun _ _ z => nomatch z)
    exact ⟨pf, rfl, fd, fz2 _ _ _ (g3 _ _ ef), _, .of ea', _, atI_nat (j := 2) rfl, _, .of et', _, atI_0, c1', rfl, _, _, rfl, .of ec1', _, atI_nat (by rw [List.getElem?_map, Mc.fin_at hx]; rfl), _, .of eb', _, atI_nat (j := 2) rfl, _, .of et', _, atI_nat (j := 1) rfl, c2', rfl, _, _, rfl, .of ec2', _, atI_nat (by rw [List.getElem?_map, Mc.fin_at hy]; rfl), fz2 _ _ _ (g3 _ _ ef), cl.mono (g3.frz.trans fz2), rfl, _, _, rfl, fun hn => q' _ (mix_same (Same.refl _))⟩
  refine ⟨t0, f1, f2, fd1, fd2, pairT m1 m2 op, G, (fun H => RepM H a m1 ∧ RepM H b m2), [0, 0], rfl, tr.same gq, (M2.old.trans ad.up) _ _ n2.at', ((n2.g.trans M2.old).trans ad.up) _ _ ef1, ad.up _ _ ef2, clc, cle, ⟨rm1.same gq, rm2.same gq⟩, (fun H1 H2 g z => ⟨z.1.same g, z.2.same g⟩), o1.wid, hG0, (fun t h => ⟨(pair_step o1 o2 hw (hGP t h)).1, hGs t h⟩), h100, fun p m' H5 g5 rp ok' ew cn tk => ?_⟩
  exact q p m' _ (g3.trans (ad.same g5)) (rp.ts fun b xs e => ad.keep g5 e (fun _ _ z => nomatch z)) ok' ew cn fun row hr => by rw [tk row hr, pair_run o1 o2 hw row o1.pos o2.pos hr]; rfl
abbrev s_met : Stmt := top 20
theorem sc_met : FnScope ["one", "other"] ["one", "other"] (defScope s_met) := ⟨rfl, rfl, rfl, by decide +kernel, rfl, by decide +kernel, by decide +kernel⟩
abbrev qs_met : List (Pos × Str) := [(⟨78, 30, 78, 68⟩, "met.<locals>.<lambda>")]
theorem ok_metG {c Pm Pp Pt : Addr} (T : Txt mg) (d : DfnC K mg "met" s_met ["one", "other"] c Pm) (kb : BltK base mg) (C_paired : Cal P w K mg base 7 "paired" ["one", "other", "is_end"] (sp_pairedG P w K mg base Pt qs_reduced Pp qs_paired)) :
    Cal P w K mg base 8 "met" ["one", "other"] (sp_metG Pt qs_reduced Pp qs_paired Pm qs_met fun x y => x && y) := by
  refine d.cal sc_met (fun vs H Q E h => ?_) (fun f A outer s H vs Q E hr h => ?_)
  · obtain ⟨a, b, m1, m2, G, rfl, _⟩ := h
    rfl
  obtain ⟨a, b, m1, m2, G, rfl, tr, tp, tm, rm1, rm2, o1, o2, hw, h100, q⟩ := h
  refine ⟨_, (pss_one (ps_ret (pe_callAC C_paired hr (by omega) (by rfl) (fun _ => rfl) (pa_c (pv 0) (pa_c (pv 1) (pa_c (pe_lam (qs := qs_met) "met.<locals>.<lambda>" rfl d.code kb (by rfl) (by rfl)) pa_nil)))))), ?_⟩
  refine rd_st [some (.ref a), some (.ref b)] rfl ?_
  simp only [tLam, tCallA, tRet, tNil, tCons, rd_v0, rd_vS]
  refine ⟨tm, fun fl H1 M Hq ad => ?_⟩
  have gq : Same H Hq := M.old.trans ad.up
  obtain ⟨fdl, efl⟩ := M.fn
  have cl : CloH P w K mg base 2 Hq fl 2 (sp_bool2 fun x y => x && y) := by
    refine M.clo_e (own := ["first", "second"]) (ps := ["first", "second"]) (cap := []) (cv := []) (k := 1) (Same.refl _) ad ⟨rfl, rfl, rfl, by decide +kernel, rfl, by decide +kernel, by decide +kernel, by decide +kernel⟩ (Nat.le_refl _) .nil (fun cl ct cd pm us hl => match us, hl with | [_, _], _ => rfl) ?_
    rintro clo c' A' outer' s' H' vs Q' hr hcl fz fz2 hl ⟨x, y, rfl, q'⟩
    refine ⟨_, (pe_and (pv 0) (pe_one (pv 1))), ?_⟩
    refine rd_se [some (.bl x), some (.bl y)] rfl ?_
    simp only [tAndV, rd_v0, rd_vS, V.bl.injEq, exists_eq_left']
    have hm : mixL clo H' (dropL clo H') = H' := by
      classical
      funext b
      unfold mixL dropL
      by_cases hb : InCl clo b
      · rw [if_pos hb]
      · rw [if_neg hb, if_neg hb]
    rw [hm]
    cases x with
    | true => exact iteT fun _ => q'
    | false => exact iteF fun _ => q'
  exact ⟨a, b, fl, fdl, m1, m2, _, G, rfl, tr.same gq, tp.same gq, rm1.same gq, rm2.same gq, o1, o2, hw, h100, ad.up _ _ efl, cl, fun p m' H5 g5 rp ok' ew cn tk => q p m' _ (M.old.trans (ad.same g5)) (rp.ts fun b xs e => ad.keep g5 e (fun _ _ z => nomatch z)) ok' ew cn tk⟩
end
section
variable {P : Program} {w : World} {K : PySem.W.Frag} {mg : Str → Option Value} {base : Heap}
abbrev s_law_cell_at : Stmt := top 28
theorem sc_law_cell_at : FnScope ["_law_script", "_law_k"] ["_law_script", "_law_k"] (defScope s_law_cell_at) := ⟨rfl, rfl, rfl, by decide +kernel, rfl, by decide +kernel, by decide +kernel⟩
theorem ok_cell (T : Txt mg) (d : Dfn K mg "_law_cell_at" s_law_cell_at ["_law_script", "_law_k"]) : Cal P w K mg base 1 "_law_cell_at" ["_law_script", "_law_k"] (sp_cell K) := by
  refine d.cal sc_law_cell_at (fun vs H Q E h => ?_) (fun f cdv A outer s H vs Q E hr h => ?_)
  · obtain ⟨a, ns, k, rfl, _⟩ := h
    rfl
  obtain ⟨a, ns, k, rfl, hS, h0, q⟩ := h
  refine ⟨_, (pss_cons (ps_if (pt_cmpR op_lt (pv 1) (pe_cB (call_len_seqK K) (by rfl) T.b_len boot_len (pa_c (pv 0) pa_nil)) (nomark _)) (pss_one (ps_ret (pe_ix (ix_listK K) (pv 0) (pv 1) (fun _ _ => rfl)))) pss_nil) (pss_one (ps_ret pe_int))), ?_⟩
  refine rd_st [some (.ref a), some (.int k)] rfl ?_
  trivial
  refine ⟨_, .inl hS, ite2 (fun c => ?_) (fun _ => q 0)⟩
  have c' := of_decide_eq_true c
  rw [List.length_map] at c'
  have hk : k.toNat < ns.length := by omega
  have ek : k = ((k.toNat : Nat) : Int) := by omega
  have e : atI (ns.map V.int) ((k.toNat : Nat) : Int) = some (.int ns[k.toNat]) := atI_nat (by simp [hk])
  rw [← ek] at e
  exact ⟨_, hS, _, e, q _⟩
abbrev s_law_mix : Stmt := top 29
theorem sc_law_mix : FnScope ["_law_cells", "_law_k", "_law_salt", "_law_cell", "_law_mixed"] ["_law_cells", "_law_k", "_law_salt"] (defScope s_law_mix) := ⟨rfl, rfl, rfl, by decide +kernel, rfl, by decide +kernel, by decide +kernel⟩
theorem ok_mix (T : Txt mg) (d : Dfn K mg "_law_mix" s_law_mix ["_law_cells", "_law_k", "_law_salt"]) : Cal P w K mg base 1 "_law_mix" ["_law_cells", "_law_k", "_law_salt"] (sp_mix K) := by
  refine d.cal sc_law_mix (fun vs H Q E h => ?_) (fun f cdv A outer s H vs Q E hr h => ?_)
  · obtain ⟨a, ns, k, sl, rfl, _⟩ := h
    rfl
  obtain ⟨a, ns, k, sl, rfl, hS, hk0, hk, q⟩ := h
  refine ⟨_, (pss_cons (ps_set (i := 3) sc_law_mix.nd rfl (Or.inl rfl) pe_int) (pss_cut (ps_if (pt_cmpR op_gt (pe_cB (call_len_seqK K) (by rfl) T.b_len boot_len (pa_c (pv 0) pa_nil)) pe_int (nomark _)) (pss_one (ps_set (i := 3) sc_law_mix.nd rfl (Or.inl rfl) (pe_op op_mod (pe_ix (ix_listK K) (pv 0) (pe_op op_mod (pv 1) (pe_cB (call_len_seqK K) (by rfl) T.b_len boot_len (pa_c (pv 0) pa_nil))) (fun _ _ => rfl)) (pe_op op_pow pe_int pe_int)))) pss_nil) (pss_cons (ps_set (i := 4) sc_law_mix.nd rfl (Or.inl rfl) (pe_op op_mod (pe_op op_mul (pe_op op_add (pe_op op_add (pe_op op_add (pv 3) (pe_op op_mul (pe_op op_mul (pv 1) (pv 1)) pe_int)) (pe_op op_mul pe_int (pv 2))) (pv 1)) pe_int) pe_int)) (pss_one (ps_ret (pe_op op_fdiv (pe_op op_mod (pe_op op_mul (pv 4) (pv 4)) pe_int) pe_int)))))), ?_⟩
  refine rd_st [some (.ref a), some (.int k), some (.int sl), none, none] rfl ?_
  trivial
  refine cut_by (fun σ H' => H' = H ∧ ∃ c : Int, σ = [some (.ref a), some (.int k), some (.int sl), some (.int c), none]) ?_ ?_
  · trivial
    refine ⟨_, .inl hS, ite2 (fun c => ?_) fun _ => trivial⟩
    have c' := of_decide_eq_true c
    obtain ⟨v, hv, mv⟩ := atI_mod (i := k) (xs := ns.map V.int) (n := (ns.map V.int).length) rfl (by omega)
    obtain ⟨z, mz, rfl⟩ := List.mem_map.mp mv
    exact ⟨_, .inl hS, by omega, _, hS, _, hv, ⟨by decide, by decide, by decide⟩, z, rfl, by decide⟩
  rintro σ H' ⟨rfl, c, rfl⟩
  trivial
  have m0 := Int.emod_nonneg ((c + k * k * 7 + 31 * sl + k) * 48271) (show (2147483647 : Int) ≠ 0 by decide)
  have m1 := Int.emod_lt_of_pos ((c + k * k * 7 + 31 * sl + k) * 48271) (show (0 : Int) < 2147483647 by decide)
  refine ⟨.inl ⟨by omega, by omega⟩, .inr ⟨by decide, by decide⟩, .inl ⟨by decide, by decide⟩, .inr ⟨by decide, by decide⟩, by decide, .inl ⟨by omega, by omega⟩, by decide, ⟨by decide, by decide⟩, q _ ?_⟩
  exact Int.ediv_nonneg (Int.emod_nonneg _ (by decide)) (by decide)
abbrev s_law_machine : Stmt := top 30
theorem sc_law_machine : FnScope ["_law_cells", "_law_width", "_law_rooms", "_law_salt", "_law_ways", "_law_room", "_law_line", "_law_letter", "_law_ends"] ["_law_cells", "_law_width", "_law_rooms", "_law_salt"] (defScope s_law_machine) := ⟨rfl, rfl, rfl, by decide +kernel, rfl, by decide +kernel, by decide +kernel⟩
theorem ok_machine (T : Txt mg) (d : Dfn K mg "_law_machine" s_law_machine ["_law_cells", "_law_width", "_law_rooms", "_law_salt"]) (C_law_mix : Cal P w K mg base 1 "_law_mix" ["_law_cells", "_law_k", "_law_salt"] (sp_mix K)) : Cal P w K mg base 2 "_law_machine" ["_law_cells", "_law_width", "_law_rooms", "_law_salt"] (sp_machine K) := by
  refine d.cal sc_law_machine (fun vs H Q E h => ?_) (fun f cdv A outer s H vs Q E hr h => ?_)
  · obtain ⟨a, ns, wd, n, sl, rfl, _⟩ := h
    rfl
  obtain ⟨a, ns, wd, n, sl, rfl, hS, hw0, hw, hn1, hn, q⟩ := h
  have hp2 : (2 : Int) ^ wd.toNat = ((2 ^ wd.toNat : Nat) : Int) := pow_nat _
  have hps := pow_small (w := wd.toNat) (by omega)
  refine ⟨_, (pss_cons (ps_set (i := 4) sc_law_machine.nd rfl (Or.inl rfl) (pe_lstN pa_nil)) (pss_cons (ps_for PassesOwn.never rfl (pi_range1 (by rfl) T.b_range (pa_c (pv 2) pa_nil)) (pg_name (i := 5) sc_law_machine.nd (by rfl) (Or.inl (by rfl))) (pss_cons (ps_set (i := 6) sc_law_machine.nd rfl (Or.inl rfl) (pe_lstN pa_nil)) (pss_cons (ps_for PassesOwn.never rfl (pi_range1 (by rfl) T.b_range (pa_c (pe_op op_shl pe_int (pv 1)) pa_nil)) (pg_name (i := 7) sc_law_machine.nd (by rfl) (Or.inl (by rfl))) (pss_one (ps_expr (pe_bmK K PySem.F.plainAttrs_list PySem.F.slot_list_append PySem.F.type_list_append mt_append (pv 6) (pa_c (pe_op op_mod (pe_callC C_law_mix hr (by omega) (by rfl) (pa_c (pv 0) (pa_c (pe_op op_add (pe_op op_shl (pv 5) (pv 1)) (pv 7)) (pa_c (pv 3) pa_nil)))) (pv 2)) pa_nil))))) (pss_one (ps_expr (pe_bmK K PySem.F.plainAttrs_list PySem.F.slot_list_append PySem.F.type_list_append mt_append (pv 4) (pa_c (pe_cTy call_tuple_ofN (by rfl) T.b_tuple boot_tuple (pa_c (pv 6) pa_nil)) pa_nil))))))) (pss_cons (ps_setC (i := 8) sc_law_machine.nd rfl (Or.inl rfl) ["_law_room"] [(0, "_law_cells"), (3, "_law_salt")] (CompOk.of rfl (by rfl) (by rfl)) (by rfl) (pi_range1 (by rfl) T.b_range (pa_c (pv 2) pa_nil)) (fun _ _ _ _ _ => (pg_name (i := 0) (show List.Nodup (["_law_room", "_law_cells", "_law_salt"] : List Str) by decide +kernel) (by rfl) (Or.inl (by rfl)))) (fun _ _ _ _ _ => pf_nil) (fun _ _ _ _ _ => (pe_cmpR op_lt (pe_op op_mod (pe_callC C_law_mix hr (by omega) (by rfl) (pa_c (pv 1) (pa_c (pe_op op_add (pv 0) pe_int) (pa_c (pe_op op_add (pv 2) pe_int) pa_nil)))) pe_int) pe_int (nomark _)))) (pss_one (ps_ret (pe_tupN (pa_c (pv 1) (pa_c (pe_cTy call_tuple_ofN (by rfl) T.b_tuple boot_tuple (pa_c (pv 4) pa_nil)) (pa_c (pe_cTy call_tuple_ofN (by rfl) T.b_tuple boot_tuple (pa_c (pv 8) pa_nil)) pa_nil))))))))), ?_⟩
  refine rd_st [some (.ref a), some (.int wd), some (.int n), some (.int sl), none, none, none, none, none] rfl ?_
  trivial
  refine ⟨by decide, fun p H1 n1 => ⟨by omega, by omega, ?_⟩⟩
  refine fb_range (fun i σ H' => Same H H' ∧ (∃ v5 v6 v7, σ = [some (.ref a), some (.int wd), some (.int n), some (.int sl), some (.ref p), v5, v6, v7, none]) ∧
    ∃ rs lines, H' p = some (.lst rs) ∧ Paired (Line H') rs lines ∧ lines.length = i ∧ ∀ l ∈ lines, l.length = 2 ^ wd.toNat ∧ ∀ r ∈ l, r < n.toNat) ⟨n1.g, ⟨none, none, none, rfl⟩, [], [], n1.at', .nil, rfl, fun _ h => (nomatch h)⟩ ?_ ?_
  · rintro i σ H' hi ⟨g, ⟨v5, v6, v7, rfl⟩, rs, lines, ep, pr, ll, hg⟩
    trivial
    have hs1 := shl_small (i := 0 + (i : Int)) (wd := wd) (by omega) (by omega) hw
    refine ⟨by decide, fun p2 H2 n2 => ⟨⟨by omega, by omega, by decide⟩, by omega, by omega, ?_⟩⟩
    refine fb_range (fun j σ H'' => Same H H'' ∧ TupS H2 H'' ∧ (∃ v7, σ = [some (.ref a), some (.int wd), some (.int n), some (.int sl), some (.ref p), some (.int (0 + (i : Int))), some (.ref p2), v7, none]) ∧ H'' p = some (.lst rs) ∧
      ∃ ln : List Nat, H'' p2 = some (.lst (ln.map nV)) ∧ ln.length = j ∧ ∀ r ∈ ln, r < n.toNat) ⟨g.trans n2.g, TupS.refl _, ⟨_, rfl⟩, n2.g _ _ ep, [], n2.at', rfl, fun _ h => (nomatch h)⟩ ?_ ?_
    · rintro j σ H'' hj ⟨g2, ts, ⟨v7, rfl⟩, ep2, ln, e2, le, hr2⟩
      trivial
      refine ⟨.inl ⟨_, .of e2⟩, ⟨by omega, by omega, by omega⟩, a, ns, _, _, rfl, g2.seq hS, by omega, by omega, fun r hr0 => ⟨_, rfl, by omega, _, e2, by rw [List.length_map]; exact small1000 (by omega), ?_⟩⟩
      have r0 := Int.emod_nonneg r (show n ≠ 0 by omega)
      have r1 := Int.emod_lt_of_pos r (show 0 < n by omega)
      have ne2 : p ≠ p2 := ne_of_none ep n2.nil
      refine ⟨g2.wr (g.free n2.nil) _, ts.trans (TupS.wr e2 _), by rw [upd_ne ne2]; exact ep2, ln ++ [(r % n).toNat], ?_, by rw [List.length_append, List.length_singleton, le], fun x hx => ?_⟩
      · rw [upd_same, List.map_append]
        have er : r % n = (((r % n).toNat : Nat) : Int) := by omega
        rw [er]
        rfl
      · rcases List.mem_append.mp hx with h | h
        · exact hr2 x h
        · rw [List.mem_singleton.mp h]; omega
    · rintro σ H'' ⟨g2, ts, ⟨v7, rfl⟩, ep2, ln, e2, le, hr2⟩
      trivial
      refine ⟨.inl ⟨_, .of ep2⟩, _, .inl ⟨.of e2, fun t H3 n3 => ⟨_, n3.g _ _ ep2, ?_, ?_⟩⟩⟩
      · have := SS.Paired.len pr
        exact small1000 (by omega)
      have tsA : TupS H' (upd H3 p (.lst (rs ++ [.ref t]))) := (n2.g.tups.trans ts).trans (n3.g.tups.trans (TupS.wr (n3.g _ _ ep2) _))
      refine ⟨(g2.trans n3.g).wr n1.nil _, rs ++ [.ref t], upd_same, lines ++ [ln], SM.Paired.snoc (L2.Paired.mapP pr fun _ _ z => z.ts tsA) ⟨t, rfl, TupS.wr (n3.g _ _ ep2) _ _ _ n3.at'⟩, by rw [List.length_append, List.length_singleton, ll], fun l hl => ?_⟩
      rcases List.mem_append.mp hl with h | h
      · exact hg l h
      · rw [List.mem_singleton.mp h]
        exact ⟨by rw [le]; omega, hr2⟩
  · rintro σ H' ⟨g, ⟨v5, v6, v7, rfl⟩, rs, lines, ep, pr, ll, hg⟩
    trivial
    refine ⟨by omega, by omega, ca_range (fun σ => ∃ v, σ = [v, some (.ref a), some (.int sl)]) (fun y => ∃ b, y = V.bl b) (by omega) ⟨_, rfl⟩ ?_ ?_⟩
    · rintro D i ys σ H'' hi g2 hD hD' hl hy ⟨v, rfl⟩
      trivial
      exact ⟨a, ns, _, _, rfl, (g.trans g2).seq hS, by omega, by omega, fun r hr0 => ⟨_, rfl, by decide, ca_step (by omega) hi hD hD' hl hy g2 ⟨_, rfl⟩ ⟨_, rfl⟩⟩⟩
    intro D ys H3 hD g3 eD hl hy
    obtain ⟨bs, rfl⟩ := all_bl hy
    rw [List.length_map] at hl
    simp only [V.ref.injEq, exists_eq_left']
    refine ⟨_, .inl ⟨.of (g3 _ _ ep), fun t1 H4 n4 => ⟨_, .inl ⟨.of (n4.g _ _ eD), fun t2 H5 n5 => ⟨small_line (by simp), fun t3 H6 n6 => ?_⟩⟩⟩⟩⟩
    have gA : Same H3 H6 := n4.g.trans (n5.g.trans n6.g)
    refine q t3 ⟨wd.toNat, lines, bs⟩ H6 (g.trans (g3.trans gA)) ⟨t1, t2, rs, ?_, (n5.g.trans n6.g) _ _ n4.at', L2.Paired.mapP pr fun _ _ z => z.ts (g3.trans gA).tups, n6.g _ _ n5.at'⟩ ⟨?_, ?_, ?_, ?_, fun l h => (hg l h).1, fun l h r hr => ?_⟩ ?_ ?_
    · rw [n6.at']
      have ew : wd = ((wd.toNat : Nat) : Int) := by omega
      show some (HO.tup [V.int wd, .ref t1, .ref t2]) = some (HO.tup [V.int ((wd.toNat : Nat) : Int), .ref t1, .ref t2])
      rw [← ew]
    · show wd.toNat ≤ 4; omega
    · show 0 < bs.length; omega
    · show bs.length ≤ 100; omega
    · show lines.length = bs.length; omega
    · have := (hg l h).2 r hr
      show r < bs.length; omega
    · show ((wd.toNat : Nat) : Int) = wd; omega
    · show ((bs.length : Nat) : Int) = n; omega
abbrev s_law_whole : Stmt := top 31
theorem sc_law_whole : FnScope ["_law_found", "_law_most"] ["_law_found", "_law_most"] (defScope s_law_whole) := ⟨rfl, rfl, rfl, by decide +kernel, rfl, by decide +kernel, by decide +kernel⟩
theorem ok_whole (T : Txt mg) (d : Dfn K mg "_law_whole" s_law_whole ["_law_found", "_law_most"]) : Cal P w K mg base 1 "_law_whole" ["_law_found", "_law_most"] sp_whole := by
  refine d.cal sc_law_whole (fun vs H Q E h => ?_) (fun f cdv A outer s H vs Q E hr h => ?_)
  · obtain ⟨r, n, rfl, _⟩ := h
    rfl
  obtain ⟨r, n, rfl, h0, h1, q⟩ := h
  refine ⟨_, (pss_one (ps_ret (pe_and (pe_cB call_isk (by rfl) T.b_isinstance boot_isinstance (pa_c (pv 0) (pa_c (pe_bltn (v := .ty "int") (by rfl) T.b_int boot_int (by rfl)) pa_nil))) (pe_and (pe_not (pe_cB call_isk (by rfl) T.b_isinstance boot_isinstance (pa_c (pv 0) (pa_c (pe_bltn (v := .ty "bool") (by rfl) T.b_bool boot_bool (by rfl)) pa_nil)))) (pe_one (pe_chain op_le op_lt pe_int (pv 0) (pv 1))))))), ?_⟩
  refine rd_st [some (.int r), some (.int n)] rfl ?_
  trivial
  refine ⟨_, .int r, by decide, iteT ⟨_, .int r, by decide, iteT ?_⟩⟩
  rw [decide_eq_true h0, decide_eq_true h1]
  exact iteT q
abbrev s_law_is_machine : Stmt := top 32
theorem sc_law_is_machine : FnScope ["_law_found", "_law_width", "_law_line", "_law_room"] ["_law_found", "_law_width"] (defScope s_law_is_machine) := ⟨rfl, rfl, rfl, by decide +kernel, rfl, by decide +kernel, by decide +kernel⟩
theorem ok_ismach (T : Txt mg) (d : Dfn K mg "_law_is_machine" s_law_is_machine ["_law_found", "_law_width"]) (C_law_whole : Cal P w K mg base 1 "_law_whole" ["_law_found", "_law_most"] sp_whole) : Cal P w K mg base 2 "_law_is_machine" ["_law_found", "_law_width"] sp_ismach := by
  refine d.cal sc_law_is_machine (fun vs H Q E h => ?_) (fun f cdv A outer s H vs Q E hr h => ?_)
  · obtain ⟨a, m, wd, rfl, _⟩ := h
    rfl
  obtain ⟨a, m, wd, rfl, ⟨b, c, rs, ea, eb, pr, ec⟩, ok, ew, q⟩ := h
  have hw := ok.wid
  have hf := ok.few
  have hps := pow_small hw
  have hrl : rs.length = m.ends.length := by rw [SS.Paired.len pr, ok.len]
  have hp2 : (1 : Int) * 2 ^ wd.toNat = ((2 ^ m.w : Nat) : Int) := by rw [Int.one_mul, pow_nat, ← ew]; rfl
  have at0 : atI [nV m.w, V.ref b, V.ref c] 0 = some (nV m.w) := atI_0
  have at1 : atI [nV m.w, V.ref b, V.ref c] 1 = some (V.ref b) := atI_nat (j := 1) rfl
  have at2 : atI [nV m.w, V.ref b, V.ref c] 2 = some (V.ref c) := atI_nat (j := 2) rfl
  refine ⟨_, (pss_cons (ps_if (PW.pt (pw_or (pt_not (pt_val (pe_cB call_isk (by rfl) T.b_isinstance boot_isinstance (pa_c (pv 0) (pa_c (pe_bltn (v := .ty "tuple") (by rfl) T.b_tuple boot_tuple (by rfl)) pa_nil))))) (pw_or (pt_cmpR op_ne (pe_cB (call_len_seqK K) (by rfl) T.b_len boot_len (pa_c (pv 0) pa_nil)) pe_int (nomark _)) (pw_or (pt_not (pt_val (pe_callC C_law_whole hr (by omega) (by rfl) (pa_c (pe_ix (ix_tupK K) (pv 0) pe_int (fun _ _ => rfl)) (pa_c pe_int pa_nil))))) (pw_or1 (pt_cmpR op_ne (pe_ix (ix_tupK K) (pv 0) pe_int (fun _ _ => rfl)) (pv 1) (nomark _))))))) (pss_one (ps_ret pe_bl)) pss_nil) (pss_cons (ps_if (PW.pt (pw_or (pt_not (pt_val (pe_cB call_isk (by rfl) T.b_isinstance boot_isinstance (pa_c (pe_ix (ix_tupK K) (pv 0) pe_int (fun _ _ => rfl)) (pa_c (pe_bltn (v := .ty "tuple") (by rfl) T.b_tuple boot_tuple (by rfl)) pa_nil))))) (pw_or (pt_not (pt_val (pe_cB call_isk (by rfl) T.b_isinstance boot_isinstance (pa_c (pe_ix (ix_tupK K) (pv 0) pe_int (fun _ _ => rfl)) (pa_c (pe_bltn (v := .ty "tuple") (by rfl) T.b_tuple boot_tuple (by rfl)) pa_nil))))) (pw_or1 (pt_cmpR op_ne (pe_cB (call_len_seqK K) (by rfl) T.b_len boot_len (pa_c (pe_ix (ix_tupK K) (pv 0) pe_int (fun _ _ => rfl)) pa_nil)) (pe_cB (call_len_seqK K) (by rfl) T.b_len boot_len (pa_c (pe_ix (ix_tupK K) (pv 0) pe_int (fun _ _ => rfl)) pa_nil)) (nomark _)))))) (pss_one (ps_ret pe_bl)) pss_nil) (pss_cons (ps_for PassesOwn.never rfl (pi_tupK K (pe_ix (ix_tupK K) (pv 0) pe_int (fun _ _ => rfl))) (pg_name (i := 2) sc_law_is_machine.nd (by rfl) (Or.inl (by rfl))) (pss_cons (ps_if (PW.pt (pw_or (pt_not (pt_val (pe_cB call_isk (by rfl) T.b_isinstance boot_isinstance (pa_c (pv 2) (pa_c (pe_bltn (v := .ty "tuple") (by rfl) T.b_tuple boot_tuple (by rfl)) pa_nil))))) (pw_or1 (pt_cmpR op_ne (pe_cB (call_len_seqK K) (by rfl) T.b_len boot_len (pa_c (pv 2) pa_nil)) (pe_op op_shl pe_int (pv 1)) (nomark _))))) (pss_one (ps_ret pe_bl)) pss_nil) (pss_one (ps_for PassesOwn.never rfl (pi_tupK K (pv 2)) (pg_name (i := 3) sc_law_is_machine.nd (by rfl) (Or.inl (by rfl))) (pss_one (ps_if (pt_not (pt_val (pe_callC C_law_whole hr (by omega) (by rfl) (pa_c (pv 3) (pa_c (pe_cB (call_len_seqK K) (by rfl) T.b_len boot_len (pa_c (pe_ix (ix_tupK K) (pv 0) pe_int (fun _ _ => rfl)) pa_nil)) pa_nil))))) (pss_one (ps_ret pe_bl)) pss_nil)))))) (pss_one (ps_ret (pe_and (pe_cmpR op_gt (pe_cB (call_len_seqK K) (by rfl) T.b_len boot_len (pa_c (pe_ix (ix_tupK K) (pv 0) pe_int (fun _ _ => rfl)) pa_nil)) pe_int (nomark _)) (pe_one (pe_cB (call_all_blK K rfl) (by rfl) T.b_all boot_all (pa_c (pe_lcomp ["_law_end"] [] (CompOk.of rfl (by rfl) (by rfl)) (by rfl) (pi_tupK K (pe_ix (ix_tupK K) (pv 0) pe_int (fun _ _ => rfl))) (fun _ _ _ _ _ => (pg_name (i := 0) (show List.Nodup (["_law_end"] : List Str) by decide +kernel) (by rfl) (Or.inl (by rfl)))) (fun _ _ _ _ _ => pf_nil) (fun _ _ _ _ _ => (pe_cB call_isk (by rfl) T.b_isinstance boot_isinstance (pa_c (pv 0) (pa_c (pe_bltn (v := .ty "bool") (by rfl) T.b_bool boot_bool (by rfl)) pa_nil))))) pa_nil))))))))), ?_⟩
  refine rd_st [some (.ref a), some (.int wd), none, none] rfl ?_
  trivial
  refine ⟨_, .tup ea, by decide, iteF ⟨_, .inr (.of ea), ?_⟩⟩
  rw [show (!decide (((([nV m.w, V.ref b, V.ref c] : List V).length : Nat) : Int) = 3)) = false by simp]
  refine iteF ⟨_, .of ea, _, at0, _, 5, rfl, by omega, by omega, _, rfl, iteF ⟨_, .of ea, _, at0, rfl, ?_⟩⟩
  rw [show (!decide (nV m.w = V.int wd)) = false by rw [← ew]; simp]
  refine iteF ⟨_, .of ea, _, at1, _, .tup eb, by decide, iteF ⟨_, .of ea, _, at2, _, .tup ec, by decide, iteF ⟨_, .of ea, _, at1, _, rfl, _, .inr (.of eb), _, .of ea, _, at2, _, rfl, _, .inr (.of ec), ?_⟩⟩⟩
  rw [show (!decide (((rs.length : Nat) : Int) = (((m.ends.map V.bl).length : Nat) : Int))) = false by rw [hrl, List.length_map]; simp]
  refine iteF ⟨_, .of ea, _, at1, _, rfl, ⟨_, .of eb⟩, fb_tup (K := K) (a := b) (xs := rs) (fun i σ H' => H = H' ∧ ∃ v2 v3, σ = [some (.ref a), some (.int wd), v2, v3]) ⟨rfl, _, _, rfl⟩ (fun i σ H' _ ⟨e, _⟩ => by subst e; exact .of eb) ?_ ?_⟩
  · rintro i y σ H' hy ⟨rfl, v2, v3, rfl⟩
    obtain ⟨l, el, a2, rfl, e2⟩ := SS.Paired.at pr hy
    have ml := List.mem_of_getElem? el
    have hl := ok.line l ml
    trivial
    refine ⟨_, .tup e2, by decide, iteF ⟨_, .inr (.of e2), ⟨by omega, by omega, by decide⟩, ?_⟩⟩
    rw [hp2, List.length_map, hl, show (!decide (((2 ^ m.w : Nat) : Int) = ((2 ^ m.w : Nat) : Int))) = false by simp]
    refine iteF ⟨⟨_, .of e2⟩, fb_tup (K := K) (a := a2) (xs := l.map nV) (fun j σ H' => H = H' ∧ ∃ v3, σ = [some (.ref a), some (.int wd), some (.ref a2), v3]) ⟨rfl, _, rfl⟩ (fun i σ H' _ ⟨e, _⟩ => by subst e; exact .of e2) ?_ ?_⟩
    · rintro j y σ H' hy ⟨rfl, v3, rfl⟩
      rw [List.getElem?_map] at hy
      obtain ⟨r, er, rfl⟩ := Option.map_eq_some_iff.mp hy
      have hr' := ok.room l ml r (List.mem_of_getElem? er)
      trivial
      exact ⟨_, .of ea, _, at2, _, rfl, _, .inr (.of ec), _, _, rfl, by omega, by rw [List.length_map]; omega, _, rfl, iteF rfl⟩
    · rintro σ H' ⟨rfl, v3, rfl⟩
      exact ⟨rfl, _, _, rfl⟩
  · rintro σ H' ⟨rfl, v2, v3, rfl⟩
    trivial
    refine ⟨_, .of ea, _, at2, _, rfl, _, .inr (.of ec), ?_⟩
    rw [decide_eq_true (show (0 : Int) < (((m.ends.map V.bl).length : Nat) : Int) by rw [List.length_map]; have := ok.pos; omega)]
    refine iteT ⟨_, .of ea, _, at2, _, rfl, ⟨_, .of ec⟩, cm_tup (K := K) (a := c) (xs := m.ends.map V.bl) (fun σ => ∃ v, σ = [v]) (fun _ => .bl true) (by rw [List.length_map]; omega) (.of ec) ⟨_, rfl⟩ ?_ ?_⟩
    · rintro D i σ H' x hi hm hx g hD hD' ⟨v, rfl⟩
      obtain ⟨z, mz, rfl⟩ := List.mem_map.mp hm
      trivial
      exact ⟨_, .bl z, by decide, cm_step (by rw [List.length_map]; omega) hx hD hD' g ⟨_, rfl⟩ rfl⟩
    intro D H5 hD g5 e5
    have e5' : H5 D = some (.lst ((m.ends.map fun _ => true).map V.bl)) := by rw [e5, List.map_map, List.map_map]; rfl
    refine ⟨D, rfl, _, .of e5', ?_⟩
    rw [show (m.ends.map fun _ => true).all id = true by rw [List.all_map]; simp]
    exact q H5 g5
end
section
variable {P : Program} {w : World} {K : PySem.W.Frag} {mg : Str → Option Value} {base : Heap}
abbrev s_is_whole : Stmt := top 13
theorem sc_is_whole : FnScope ["thing"] ["thing"] (defScope s_is_whole) := ⟨rfl, rfl, rfl, by decide +kernel, rfl, by decide +kernel, by decide +kernel⟩
theorem ok_iswhole (T : Txt mg) (d : Dfn K mg "is_whole" s_is_whole ["thing"]) : Cal P w K mg base 1 "is_whole" ["thing"] sp_iswhole := by
  refine d.cal sc_is_whole (fun vs H Q E h => ?_) (fun f cdv A outer s H vs Q E hr h => ?_)
  · obtain ⟨r, rfl, _⟩ := h
    rfl
  obtain ⟨r, rfl, q⟩ := h
  refine ⟨_, (pss_one (ps_ret (pe_and (pe_cB call_isk (by rfl) T.b_isinstance boot_isinstance (pa_c (pv 0) (pa_c (pe_bltn (v := .ty "int") (by rfl) T.b_int boot_int (by rfl)) pa_nil))) (pe_one (pe_not (pe_cB call_isk (by rfl) T.b_isinstance boot_isinstance (pa_c (pv 0) (pa_c (pe_bltn (v := .ty "bool") (by rfl) T.b_bool boot_bool (by rfl)) pa_nil)))))))), ?_⟩
  refine rd_st [some (.int r)] rfl ?_
  trivial
  exact ⟨_, .int r, by decide, iteT ⟨_, .int r, by decide, q⟩⟩
abbrev s_is_below : Stmt := top 14
theorem sc_is_below : FnScope ["thing", "bound"] ["thing", "bound"] (defScope s_is_below) := ⟨rfl, rfl, rfl, by decide +kernel, rfl, by decide +kernel, by decide +kernel⟩
theorem ok_below (T : Txt mg) (d : Dfn K mg "is_below" s_is_below ["thing", "bound"]) (C_is_whole : Cal P w K mg base 1 "is_whole" ["thing"] sp_iswhole) : Cal P w K mg base 2 "is_below" ["thing", "bound"] sp_below := by
  refine d.cal sc_is_below (fun vs H Q E h => ?_) (fun f cdv A outer s H vs Q E hr h => ?_)
  · obtain ⟨r, n, rfl, _⟩ := h
    rfl
  obtain ⟨r, n, rfl, h0, h1, q⟩ := h
  refine ⟨_, (pss_one (ps_ret (pe_and (pe_callC C_is_whole hr (by omega) (by rfl) (pa_c (pv 0) pa_nil)) (pe_one (pe_chain op_le op_lt pe_int (pv 0) (pv 1)))))), ?_⟩
  refine rd_st [some (.int r), some (.int n)] rfl ?_
  trivial
  refine ⟨r, rfl, _, rfl, iteT ?_⟩
  rw [decide_eq_true h0, decide_eq_true h1]
  exact iteT q
theorem ok_renamedS (T : Txt mg) (d : Dfn K mg "renamed" s_renamed ["rooms", "numbers"]) : Cal P w K mg base 1 "renamed" ["rooms", "numbers"] sp_renamedS := by
  refine d.cal sc_renamed (fun vs H Q E h => ?_) (fun f cdv A outer s H vs Q E hr h => ?_)
  · obtain ⟨a, b, l, line, rfl, _⟩ := h
    rfl
  obtain ⟨a, b, l, line, rfl, ea, h32, eb, hb, q⟩ := h
  refine ⟨_, (pss_one (ps_ret (pe_cTy call_tuple_ofN (by rfl) T.b_tuple boot_tuple (pa_c (pe_lcomp ["room"] [(1, "numbers")] (CompOk.of rfl (by rfl) (by rfl)) (by rfl) (pi_listK K (pv 0)) (fun _ _ _ _ _ => (pg_name (i := 0) (show List.Nodup (["room", "numbers"] : List Str) by decide +kernel) (by rfl) (Or.inl (by rfl)))) (fun _ _ _ _ _ => pf_nil) (fun _ _ _ _ _ => (pe_ix (ix_tupK K) (pv 1) (pv 0) (fun _ _ => rfl)))) pa_nil)))), ?_⟩
  refine rd_st [some (.ref a), some (.ref b)] rfl ?_
  trivial
  refine ⟨⟨_, .of ea⟩, cm_list (K := K) (a := a) (xs := l.map nV) (fun σ => ∃ v, σ = [v, some (.ref b)]) (fun y => match y with | .int z => nV (line.getD z.toNat 0) | v => v) (by rw [List.length_map]; omega) (.of ea) ⟨_, rfl⟩ ?_ ?_⟩
  · rintro D i σ H' x hi hm hx gg hD hD' ⟨v, rfl⟩
    obtain ⟨r, mr, rfl⟩ := List.mem_map.mp hm
    have z : atI (line.map nV) (r : Int) = some (nV (line.getD r 0)) := atI_nat (by rw [List.getElem?_map, List.getD_eq_getElem?_getD, List.getElem?_eq_getElem (hb r mr)]; rfl)
    trivial
    exact ⟨_, .of (gg _ _ eb), _, z, cm_step (by rw [List.length_map]; omega) hx hD hD' gg ⟨_, rfl⟩ rfl⟩
  intro D H1 hD g1 eD
  have eD' : H1 D = some (.lst ((l.map fun x => line.getD x 0).map nV)) := by rw [eD, List.map_map, List.map_map]; rfl
  exact ⟨_, rfl, _, .inl ⟨.of eD', fun t H2 n2 => q t H2 (g1.trans n2.g) n2.at'⟩⟩
abbrev s_letter_of : Stmt := top 21
theorem sc_letter_of : FnScope ["letter", "tracks"] ["letter", "tracks"] (defScope s_letter_of) := ⟨rfl, rfl, rfl, by decide +kernel, rfl, by decide +kernel, by decide +kernel⟩
theorem ok_letterof (T : Txt mg) (d : Dfn K mg "letter_of" s_letter_of ["letter", "tracks"]) : Cal P w K mg base 1 "letter_of" ["letter", "tracks"] sp_letterof := by
  refine d.cal sc_letter_of (fun vs H Q E h => ?_) (fun f cdv A outer s H vs Q E hr h => ?_)
  · obtain ⟨l, a, ts, rfl, _⟩ := h
    rfl
  obtain ⟨l, a, ts, rfl, h32, ea, h5, h4, q⟩ := h
  refine ⟨_, (pss_one (ps_ret (pe_cB (call_sum_intK K rfl) (by rfl) T.b_sum boot_sum (pa_c (pe_lcomp ["number", "track"] [(0, "letter")] (CompOk.of rfl (by rfl) (by rfl)) (by rfl) (pi_enumK K (by rfl) T.b_enumerate (pa_c (pv 1) pa_nil)) (fun _ _ _ _ _ => (pg_tupK K (n := 2) rfl (pgs_cons (pg_name (i := 0) (show List.Nodup (["number", "track", "letter"] : List Str) by decide +kernel) (by rfl) (Or.inl (by rfl))) (pgs_cons (pg_name (i := 1) (show List.Nodup (["number", "track", "letter"] : List Str) by decide +kernel) (by rfl) (Or.inl (by rfl))) pgs_nil)))) (fun _ _ _ _ _ => pf_nil) (fun _ _ _ _ _ => (pe_op op_shl (pe_op op_and (pe_op op_shr (pv 2) (pv 1)) pe_int) (pv 0)))) pa_nil)))), ?_⟩
  refine rd_st [some (nV l), some (.ref a)] rfl ?_
  trivial
  refine ⟨⟨_, .of ea⟩, cg_by (n := ts.length) (fun σ => ∃ v v', σ = [v, v', some (nV l)]) (fun j y H => ∃ t, ts[j]? = some t ∧ y = .int (Builtin.bitAnd ((l : Int) / 2 ^ t) 1 * 2 ^ j)) (by omega) ⟨_, _, rfl⟩ (fun i H' hi gg => ⟨_, nV (ix ts i), .of (gg _ _ ea), by rw [List.getElem?_map, ix_at hi]; rfl⟩) (fun H' gg => ⟨_, .of (gg _ _ ea), by rw [List.length_map]; exact Nat.le_refl _⟩) ?_ ?_⟩
  · rintro D' i ys σ H2 x H2' hi gg hD1 hD2 hl hy ⟨v, v', rfl⟩ yz
    obtain ⟨p, x1, rfl, n1, ex⟩ := yld_enum (.of (gg _ _ ea)) yz
    rw [List.getElem?_map, ix_at hi] at ex
    cases ex
    have h4' := h4 _ (ix_mem hi)
    trivial
    have hbs := (bit_small l h32 (ix ts i) (by omega)).2
    refine ⟨_, .of n1.at', rfl, _, _, rfl, _, _, rfl, rfl, _, rfl, by omega, _, rfl, ⟨by omega, by omega, Nat.lt_trans hbs (by decide)⟩, ?_⟩
    exact cg_step (G := fun j y H => ∃ t, ts[j]? = some t ∧ y = .int (Builtin.bitAnd ((l : Int) / 2 ^ t) 1 * 2 ^ j)) (fun j y H H' _ z => z) (by omega) hi hD1 (n1.g _ _ hD2) hl hy n1.g.tups (gg.trans n1.g) ⟨_, _, rfl⟩ ⟨ix ts i, ix_at hi, rfl⟩
  intro D2 ys H2 hD2 g2 eD2 hl2 hy2
  have ey : ys = (loL (l : Int) ts 0).map V.int := by
    refine List.ext_getElem? fun j => ?_
    rw [List.getElem?_map, loL_at]
    by_cases hj : j < ys.length
    · obtain ⟨t, et, e⟩ := hy2 j _ (List.getElem?_eq_getElem hj)
      rw [List.getElem?_eq_getElem hj, e, et, Nat.zero_add]
      rfl
    · rw [List.getElem?_eq_none (by omega), List.getElem?_eq_none (by omega)]
      rfl
  subst ey
  rw [← loL_sum] at q
  exact ⟨_, rfl, _, .of eD2, q H2 g2⟩
abbrev s_spread : Stmt := top 22
theorem sc_spread : FnScope ["machine", "tracks", "width", "seen"] ["machine", "tracks", "width"] (defScope s_spread) := ⟨rfl, rfl, rfl, by decide +kernel, rfl, by decide +kernel, by decide +kernel⟩
theorem ok_spread (T : Txt mg) (d : Dfn K mg "spread" s_spread ["machine", "tracks", "width"]) (C_letter_of : Cal P w K mg base 1 "letter_of" ["letter", "tracks"] sp_letterof) (C_renamed : Cal P w K mg base 1 "renamed" ["rooms", "numbers"] sp_renamedS) : Cal P w K mg base 2 "spread" ["machine", "tracks", "width"] sp_spread := by
  refine d.cal sc_spread (fun vs H Q E h => ?_) (fun f cdv A outer s H vs Q E hr h => ?_)
  · obtain ⟨a, b, m, ts, W, f, rfl, _⟩ := h
    rfl
  obtain ⟨a, b, m, ts, W, f, rfl, ⟨b1, c1, rs, ea, eb1, pr, ec1⟩, ok, eb, h5, h4, hW, hf, q⟩ := h
  have hps := pow_small hW
  have hp2 : (1 : Int) * 2 ^ ((W : Nat) : Int).toNat = ((2 ^ W : Nat) : Int) := by rw [Int.one_mul, pow_nat]; rfl
  have hfew := ok.few
  refine ⟨_, (pss_cons (ps_set (i := 3) sc_spread.nd rfl (Or.inr rfl) (pe_lcomp ["letter"] [(1, "tracks")] (CompOk.of rfl (by rfl) (by rfl)) (by rfl) (pi_range1 (by rfl) T.b_range (pa_c (pe_op op_shl pe_int (pv 2)) pa_nil)) (fun _ _ _ _ _ => (pg_name (i := 0) (show List.Nodup (["letter", "tracks"] : List Str) by decide +kernel) (by rfl) (Or.inl (by rfl)))) (fun _ _ _ _ _ => pf_nil) (fun _ _ _ _ _ => (pe_callC C_letter_of hr (by omega) (by rfl) (pa_c (pv 0) (pa_c (pv 1) pa_nil)))))) (pss_one (ps_ret (pe_tupN (pa_c (pv 2) (pa_c (pe_cTy call_tuple_ofN (by rfl) T.b_tuple boot_tuple (pa_c (pe_lcomp ["ways"] [(3, "seen")] (CompOk.of rfl (by rfl) (by rfl)) (by rfl) (pi_tupK K (pe_ix (ix_tupK K) (pv 0) pe_int (fun _ _ => rfl))) (fun _ _ _ _ _ => (pg_name (i := 0) (show List.Nodup (["ways", "seen"] : List Str) by decide +kernel) (by rfl) (Or.inl (by rfl)))) (fun _ _ _ _ _ => pf_nil) (fun _ _ _ _ _ => (pe_callC C_renamed hr (by omega) (by rfl) (pa_c (pv 1) (pa_c (pv 0) pa_nil))))) pa_nil)) (pa_c (pe_ix (ix_tupK K) (pv 0) pe_int (fun _ _ => rfl)) pa_nil))))))), ?_⟩
  refine rd_st [some (.ref a), some (.ref b), some (nV W), none] rfl ?_
  trivial
  refine ⟨⟨by omega, by omega, by decide⟩, by rw [hp2]; omega, by rw [hp2]; omega, ?_⟩
  rw [hp2, show ((2 ^ W : Nat) : Int).toNat = 2 ^ W from rfl]
  refine cr_map (fun σ => ∃ v, σ = [v, some (.ref b)]) (fun i => nV (f i)) (by omega) ⟨_, rfl⟩ ?_ ?_
  · rintro D i σ H' hi gg hD hD' ⟨v, rfl⟩
    simp only [gName, tNil, tCons, tCall, tYes, rd_v0, rd_vS, List.set_cons_zero, List.append_nil, if_true]
    refine ⟨i, b, ts, by rw [Int.zero_add], by omega, gg _ _ eb, h5, h4, fun H2 g2 => cr_step (by omega) hi hD (g2 _ _ hD') (gg.trans g2) ⟨_, rfl⟩ ?_⟩
    rw [(hf i hi).1]
  intro D1 H1 hD1 g1 eD1
  have eD1' : H1 D1 = some (.lst (((List.range (2 ^ W)).map f).map nV)) := by rw [eD1, List.map_map]; rfl
  have hl1 : rs.length = m.ways.length := SS.Paired.len pr
  have hwl := ok.len
  refine ⟨_, .of (g1 _ _ ea), _, atI_nat (j := 1) rfl, _, rfl, ⟨_, .of (g1 _ _ eb1)⟩, cg_by (n := rs.length) (fun σ => ∃ v, σ = [v, some (.ref D1)]) (fun j y H => Line H y ((List.range (2 ^ W)).map fun l => (m.ways.getD j []).getD (f l) 0)) (by omega) ⟨_, rfl⟩ (fun i H' hi gg => ⟨_, _, .of (gg _ _ (g1 _ _ eb1)), List.getElem?_eq_getElem hi⟩) (fun H' gg => ⟨_, .of (gg _ _ (g1 _ _ eb1)), Nat.le_refl _⟩) ?_ ?_⟩
  · rintro D i ys σ H2 x H2' hi gg hD hD' hl hy ⟨v, rfl⟩ ⟨rfl, yx⟩
    have ex := yx _ (.of (gg _ _ (g1 _ _ eb1)))
    have hi' : i < m.ways.length := by omega
    obtain ⟨v2, ev, a2, rfl, e4⟩ := Paired.at2 pr (List.getElem?_eq_getElem hi')
    rw [ev] at ex
    cases ex
    have hll := ok.line _ (List.getElem_mem hi')
    have eg : m.ways.getD i [] = m.ways[i] := by rw [List.getD_eq_getElem?_getD, List.getElem?_eq_getElem hi']; rfl
    simp only [gName, tNil, tCons, tCall, tYes, rd_v0, rd_vS, List.set_cons_zero, List.append_nil, if_true]
    refine ⟨D1, a2, (List.range (2 ^ W)).map f, m.ways[i], rfl, gg _ _ eD1', by rw [List.length_map, List.length_range]; omega, (g1.trans gg) _ _ e4, fun x hx => ?_, fun p H3 g3 e3 => ?_⟩
    · obtain ⟨l, hl, rfl⟩ := List.mem_map.mp hx
      rw [hll]
      exact (hf l (List.mem_range.mp hl)).2
    refine cg_step (fun j y H H' ts z => z.ts ts) (by omega) hi hD (g3 _ _ hD') hl hy g3.tups (gg.trans g3) ⟨_, rfl⟩ ⟨p, rfl, ?_⟩
    rw [e3, eg]
    simp only [List.map_map]
    rfl
  intro D2 ys H2 hD2 g2 eD2 hl2 hy2
  refine ⟨_, rfl, _, .inl ⟨.of eD2, fun t1 H3 n3 => ⟨_, .of ((g1.trans (g2.trans n3.g)) _ _ ea), _, atI_nat (j := 2) rfl, small_line (by simp), fun t2 H4 n4 => ?_⟩⟩⟩
  have g24 : Same H2 H4 := n3.g.trans n4.g
  have g04 : Same H H4 := g1.trans (g2.trans g24)
  refine q t2 H4 g04 ⟨t1, c1, ys, n4.at', n4.g _ _ n3.at', paired_of (by rw [hl2, hl1]; exact (List.length_map _).symm) fun j y l e1 e2 => ?_, g04 _ _ ec1⟩
  have hj : j < m.ways.length := by rw [← hl1, ← hl2]; exact (List.getElem?_eq_some_iff.mp e1).1
  have e2' : some ((List.range (2 ^ W)).map fun l => (m.ways.getD j []).getD (f l) 0) = some l := by
    rw [← e2]
    show _ = (m.ways.map fun line => (List.range (2 ^ W)).map fun l => line.getD (f l) 0)[j]?
    rw [List.getElem?_map, List.getElem?_eq_getElem hj, List.getD_eq_getElem?_getD, List.getElem?_eq_getElem hj]
    rfl
  cases e2'
  exact (hy2 j y e1).ts g24.tups
abbrev s_widened : Stmt := top 23
theorem sc_widened : FnScope ["machine", "track", "others"] ["machine", "track"] (defScope s_widened) := ⟨rfl, rfl, rfl, by decide +kernel, rfl, by decide +kernel, by decide +kernel⟩
theorem ok_widened {Pt : Addr} (T : Txt mg) (d : Dfn K mg "widened" s_widened ["machine", "track"]) (C_is_below : Cal P w K mg base 2 "is_below" ["thing", "bound"] sp_below) (C_spread : Cal P w K mg base 2 "spread" ["machine", "tracks", "width"] sp_spread) (C_reduced : Cal P w K mg base 5 "reduced" ["machine"] (sp_reducedC Pt qs_reduced)) : Cal P w K mg base 6 "widened" ["machine", "track"] (sp_widened Pt qs_reduced) := by
  refine d.cal sc_widened (fun vs H Q E h => ?_) (fun f cdv A outer s H vs Q E hr h => ?_)
  · obtain ⟨a, m, t, rfl, _⟩ := h
    rfl
  obtain ⟨a, m, t, rfl, tab, rm, ok, hw4, ht, q⟩ := h
  obtain ⟨b1, c1, rs, ea, eb1, pr, ec1⟩ := id rm
  refine ⟨_, (pss_cons (ps_if (PW.pt (pw_or (pt_cmpR op_ge (pe_ix (ix_tupK K) (pv 0) pe_int (fun _ _ => rfl)) (pe_gl (by rfl) T.g_MOST_TRACKS) (nomark _)) (pw_or1 (pt_not (pt_val (pe_callC C_is_below hr (by omega) (by rfl) (pa_c (pv 1) (pa_c (pe_op op_add (pe_ix (ix_tupK K) (pv 0) pe_int (fun _ _ => rfl)) pe_int) pa_nil)))))))) (pss_one ps_never) pss_nil) (pss_cons (ps_setC (i := 2) sc_widened.nd rfl (Or.inl rfl) ["number"] [(1, "track")] (CompOk.of rfl (by rfl) (by rfl)) (by rfl) (pi_range1 (by rfl) T.b_range (pa_c (pe_op op_add (pe_ix (ix_tupK K) (pv 0) pe_int (fun _ _ => rfl)) pe_int) pa_nil)) (fun _ _ _ _ _ => (pg_name (i := 0) (show List.Nodup (["number", "track"] : List Str) by decide +kernel) (by rfl) (Or.inl (by rfl)))) (fun _ _ _ _ _ => (pf_one (pt_cmpR op_ne (pv 0) (pv 1) (nomark _)))) (fun _ _ _ _ _ => (pv 0))) (pss_one (ps_ret (pe_callC C_reduced hr (by omega) (by rfl) (pa_c (pe_callC C_spread hr (by omega) (by rfl) (pa_c (pv 0) (pa_c (pv 2) (pa_c (pe_op op_add (pe_ix (ix_tupK K) (pv 0) pe_int (fun _ _ => rfl)) pe_int) pa_nil)))) pa_nil)))))), ?_⟩
  refine rd_st [some (.ref a), some (nV t), none] rfl ?_
  trivial
  refine ⟨_, .of ea, _, atI_0, _, rfl, ?_⟩
  rw [decide_eq_false (show ¬ ((m.w : Nat) : Int) ≥ 4 by omega)]
  refine iteF ⟨_, .of ea, _, atI_0, _, rfl, _, _, rfl, by omega, by omega, _, rfl, iteF ⟨_, .of ea, _, atI_0, _, rfl, by omega, by omega, ?_⟩⟩
  rw [show (((m.w : Nat) : Int) + 1).toNat = m.w + 1 by omega]
  refine crf_map (fun σ => ∃ v, σ = [v, some (nV t)]) (fun k => k != t) (fun k => nV k) (by omega) ⟨_, rfl⟩ ?_ ?_
  · rintro D i σ H' hi gg hD hD' ⟨v, rfl⟩
    trivial
    rw [Int.zero_add]
    by_cases he : i = t
    · rw [show (!decide ((i : Int) = (t : Int))) = false by simp [he]]
      exact iteF (crf_skip hi (by simp [he]) hD' gg ⟨_, rfl⟩)
    · rw [show (!decide ((i : Int) = (t : Int))) = true by simp; omega]
      exact iteT (crf_step (by omega) hi (by simp [he]) hD hD' gg ⟨_, rfl⟩ rfl)
  intro D1 H1 hD1 g1 eD1
  have eD1' : H1 D1 = some (.lst ((others m.w t).map nV)) := eD1
  have hf : ∀ l : Nat, l < 2 ^ (m.w + 1) → loI (l : Int) (others m.w t) 0 = (less t l : Int) ∧ less t l < 2 ^ m.w := lo_less m.w hw4 t ht
  refine ⟨_, .of (g1 _ _ ea), _, atI_0, _, rfl, a, D1, m, others m.w t, m.w + 1, less t, ?_, rm.same g1, ok, eD1', by have := others_len m.w t; omega, fun x hx => by have := others_le hx; omega, by omega, hf, fun p H2 g2 r2 => ?_⟩
  · simp
  exact ⟨p, _, rfl, tab.same (g1.trans g2), r2, sprd_ok ok (by omega) fun l hl => (hf l hl).2, fun p' m' H3 g3 r3 R => q p' m' H3 (g1.trans (g2.trans g3)) r3 R⟩
theorem flat_two {m : Mc} {ls : List Nat} (h2 : ls.length ≤ 2) : ∀ l : List Nat, l.length ≤ 12 → (l.flatMap fun r => ls.map fun l => m.go r l).length ≤ 24 := fun l hl => by
  have : (l.flatMap fun r => ls.map fun l => m.go r l).length ≤ l.length * 2 := by
    clear hl
    induction l with
    | nil => simp
    | cons x r ih =>
      rw [List.flatMap_cons, List.length_append, List.length_map, List.length_cons]
      omega
  omega
abbrev s_coming_rooms : Stmt := top 25
theorem sc_coming_rooms : FnScope ["machine", "rooms", "letters", "found", "room"] ["machine", "rooms", "letters"] (defScope s_coming_rooms) := ⟨rfl, rfl, rfl, by decide +kernel, rfl, by decide +kernel, by decide +kernel⟩
theorem ok_coming12 (T : Txt mg) (d : Dfn K mg "coming_rooms" s_coming_rooms ["machine", "rooms", "letters"]) : Cal P w K mg base 1 "coming_rooms" ["machine", "rooms", "letters"] sp_coming12 := by
  refine d.cal sc_coming_rooms (fun vs H Q E h => ?_) (fun f cdv A outer s H vs Q E hr h => ?_)
  · obtain ⟨a, b, c, m, rs, ls, rfl, _⟩ := h
    rfl
  obtain ⟨a, b, c, m, rs, ls, rfl, rm, ok, eb, ec, hrs, hls, r5, l2, q⟩ := h
  refine ⟨_, (pss_cons (ps_set (i := 3) sc_coming_rooms.nd rfl (Or.inl rfl) (pe_lstN pa_nil)) (pss_cons (ps_for PassesOwn.never rfl (pi_tupK K (pv 1)) (pg_name (i := 4) sc_coming_rooms.nd (by rfl) (Or.inr (by rfl))) (pss_one (ps_expr (pe_bmK K PySem.F.plainAttrs_list PySem.F.slot_list_extend PySem.F.type_list_extend mt_extend (pv 3) (pa_c (pe_lcomp ["letter"] [(4, "room"), (0, "machine")] (CompOk.of rfl (by rfl) (by rfl)) (by rfl) (pi_tupK K (pv 2)) (fun _ _ _ _ _ => (pg_name (i := 0) (show List.Nodup (["letter", "room", "machine"] : List Str) by decide +kernel) (by rfl) (Or.inl (by rfl)))) (fun _ _ _ _ _ => pf_nil) (fun _ _ _ _ _ => (pe_ix (ix_tupK K) (pe_ix (ix_tupK K) (pe_ix (ix_tupK K) (pv 2) pe_int (fun _ _ => rfl)) (pv 1) (fun _ _ => rfl)) (pv 0) (fun _ _ => rfl)))) pa_nil))))) (pss_one (ps_ret (pe_cTy call_tuple_ofN (by rfl) T.b_tuple boot_tuple (pa_c (pe_cB (call_sorted_set rfl) (by rfl) T.b_sorted (by rfl) (pa_c (pe_cTy (call_set_int rfl) (by rfl) T.b_set (by rfl) (pa_c (pv 3) pa_nil)) pa_nil)) pa_nil)))))), ?_⟩
  refine rd_st [some (.ref a), some (.ref b), some (.ref c), none, none] rfl ?_
  trivial
  refine ⟨small_line (by simp), fun p0 H0 n0 => ⟨⟨_, .of (n0.g _ _ eb)⟩, ?_⟩⟩
  refine fb_tup (K := K) (a := b) (xs := rs.map nV) (fun i σ H' => Same H H' ∧ ∃ v4 : Option V, σ = [some (.ref a), some (.ref b), some (.ref c), some (.ref p0), v4] ∧ H' p0 = some (.lst (((rs.take i).flatMap fun r => ls.map fun l => m.go r l).map nV))) ⟨n0.g, none, rfl, n0.at'⟩ (fun i σ H' _ z => .of (z.1 _ _ eb)) ?_ ?_
  · rintro i y σ H' hy ⟨g, v4, rfl, e0⟩
    rw [List.getElem?_map] at hy
    obtain ⟨r, er, rfl⟩ := Option.map_eq_some_iff.mp hy
    have mr := List.mem_of_getElem? er
    trivial
    refine ⟨.inl ⟨_, .of e0⟩, ⟨_, .of (g _ _ ec)⟩, ?_⟩
    refine cm_tup (K := K) (a := c) (xs := ls.map nV) (fun σ => ∃ v, σ = [v, some (nV r), some (.ref a)]) (fun x => match x with | .int l => nV (m.go r l.toNat) | _ => .non) (by rw [List.length_map]; omega) (.of (g _ _ ec)) ⟨_, rfl⟩ ?_ ?_
    · rintro D j σ H2 x hj mx hx gg hD hD' ⟨v, rfl⟩
      obtain ⟨l, ml, rfl⟩ := List.mem_map.mp mx
      trivial
      have gH := g.trans gg
      obtain ⟨b1, c1, ws, ea1, eb1, pr, _⟩ := id rm
      obtain ⟨line, f1, f2, f3⟩ := ok.at (hrs r mr) (hls l ml)
      obtain ⟨v, ev1, u1, rfl, e41⟩ := Paired.at2 pr f1
      have ati : atI (line.map nV) (l : Int) = some (nV (m.go r l)) := atI_nat (by rw [List.getElem?_map, f2]; rfl)
      exact ⟨_, .of (gH _ _ ea1), _, atI_nat (j := 1) rfl, _, rfl, _, .of (gH _ _ eb1), _, atI_nat ev1, _, rfl, _, .of (gH _ _ e41), _, ati, cm_step (by rw [List.length_map]; omega) hx hD hD' gg ⟨_, rfl⟩ rfl⟩
    intro D H3 hD g3 e3
    simp only [V.ref.injEq, exists_eq_left']
    have fl : ∀ l : List Nat, l.length ≤ 12 → (l.flatMap fun r => ls.map fun l => m.go r l).length ≤ 24 := flat_two l2
    refine ⟨_, g3 _ _ e0, _, e3, small_line ?_, (g.trans g3).wr n0.nil _, ?_⟩
    · rw [List.length_map, List.length_map, List.length_map]
      have := fl (rs.take i) (by rw [List.length_take]; omega)
      omega
    · rw [upd_same, List.take_add_one, er, Option.toList_some, List.flatMap_append, List.map_append, List.map_map]
      simp only [List.flatMap_cons, List.flatMap_nil, List.append_nil, List.map_map]
      rfl
  · rintro σ H' ⟨g, v4, rfl, e0⟩
    trivial
    rw [List.length_map, List.take_of_length_le (Nat.le_refl _)] at e0
    have fl : ((rs.flatMap fun r => ls.map fun l => m.go r l)).length ≤ 24 := flat_two l2 rs r5
    generalize hF : (rs.flatMap fun r => ls.map fun l => m.go r l) = F at e0 fl
    refine ⟨F.map fun k : Nat => (k : Int), .of (by rw [e0, List.map_map]; rfl), by rw [List.length_map]; omega, fun S hS => ⟨_, upd_same, by rw [List.length_map]; omega, fun ms h1 h2 L H3 n3 => ⟨_, .inl ⟨.of n3.at', fun t H4 n4 => ?_⟩⟩⟩⟩
    have e4 : (ms.map V.int) = ((ms.map Int.toNat).map nV) := by
      rw [List.map_map]
      refine List.map_congr_left fun k hk => ?_
      obtain ⟨k', _, rfl⟩ := List.mem_map.mp ((h2 k).mp hk)
      rfl
    refine q t (ms.map Int.toNat) H4 (g.trans ((same_upd hS _).trans (n3.g.trans n4.g))) (by rw [← e4]; exact n4.at') ?_ fun k => ?_
    · rw [List.pairwise_map]
      refine List.Pairwise.imp_of_mem (fun {x y} hx hy hxy => ?_) h1
      obtain ⟨x', _, rfl⟩ := List.mem_map.mp ((h2 x).mp hx)
      obtain ⟨y', _, rfl⟩ := List.mem_map.mp ((h2 y).mp hy)
      omega
    · rw [List.mem_map]
      have hk : (∃ a, a ∈ ms ∧ Int.toNat a = k) ↔ k ∈ F := by
        constructor
        · rintro ⟨z, hz, rfl⟩
          obtain ⟨k', hk', rfl⟩ := List.mem_map.mp ((h2 z).mp hz)
          exact hk'
        · intro hk
          exact ⟨(k : Int), (h2 _).mpr (List.mem_map.mpr ⟨k, hk, rfl⟩), rfl⟩
      rw [hk, ← hF, List.mem_flatMap]
      simp only [List.mem_map]
abbrev s_both_letters : Stmt := top 24
theorem sc_both_letters : FnScope ["letter", "track", "above", "without"] ["letter", "track"] (defScope s_both_letters) := ⟨rfl, rfl, rfl, by decide +kernel, rfl, by decide +kernel, by decide +kernel⟩
theorem ok_both (T : Txt mg) (d : Dfn K mg "both_letters" s_both_letters ["letter", "track"]) : Cal P w K mg base 1 "both_letters" ["letter", "track"] sp_both := by
  refine d.cal sc_both_letters (fun vs H Q E h => ?_) (fun f cdv A outer s H vs Q E hr h => ?_)
  · obtain ⟨l, t, rfl, _⟩ := h
    rfl
  obtain ⟨l, t, rfl, hl, ht, q⟩ := h
  refine ⟨_, (pss_cons (ps_set (i := 2) sc_both_letters.nd rfl (Or.inl rfl) (pe_op op_shr (pv 0) (pv 1))) (pss_cons (ps_set (i := 3) sc_both_letters.nd rfl (Or.inl rfl) (pe_op op_add (pv 0) (pe_op op_shl (pv 2) (pv 1)))) (pss_one (ps_ret (pe_tupN (pa_c (pv 3) (pa_c (pe_op op_add (pv 3) (pe_op op_shl pe_int (pv 1))) pa_nil))))))), ?_⟩
  refine rd_st [some (nV l), some (nV t), none, none] rfl ?_
  trivial
  rw [Int.toNat_natCast]
  have ep : ((2 : Int) ^ t) = ((2 ^ t : Nat) : Int) := by push_cast; rfl
  have ed : (l : Int) / (2 : Int) ^ t = ((l / 2 ^ t : Nat) : Int) := by rw [ep]; rfl
  have le : l / 2 ^ t ≤ l := Nat.div_le_self _ _
  have e1 : (l : Int) + (l : Int) / (2 : Int) ^ t * (2 : Int) ^ t = ((put0 l t : Nat) : Int) := by
    rw [ed, ep]; unfold put0; push_cast; rfl
  have e2 : (l : Int) + (l : Int) / (2 : Int) ^ t * (2 : Int) ^ t + 1 * (2 : Int) ^ t = ((put0 l t + 2 ^ t : Nat) : Int) := by
    rw [e1, ep, Int.one_mul]; push_cast; rfl
  refine ⟨by omega, ⟨by omega, by omega, ?_⟩, ⟨by omega, by omega, by decide⟩, small_line (by simp), fun p H' n => ?_⟩
  · rw [ed]
    show (l / 2 ^ t : Nat) < 2 ^ 64
    exact Nat.lt_of_le_of_lt le (Nat.lt_trans hl (by decide))
  · rw [e2, e1] at n
    exact q p H' n
end
section
variable {P : Program} {w : World} {K : PySem.W.Frag} {mg : Str → Option Value} {base : Heap}
theorem ok_belowB (T : Txt mg) (d : Dfn K mg "is_below" s_is_below ["thing", "bound"]) (C_is_whole : Cal P w K mg base 1 "is_whole" ["thing"] sp_iswhole) : Cal P w K mg base 2 "is_below" ["thing", "bound"] sp_belowB := by
  refine d.cal sc_is_below (fun vs H Q E h => ?_) (fun f cdv A outer s H vs Q E hr h => ?_)
  · obtain ⟨r, n, rfl, _⟩ := h
    rfl
  obtain ⟨r, n, rfl, q⟩ := h
  refine ⟨_, (pss_one (ps_ret (pe_and (pe_callC C_is_whole hr (by omega) (by rfl) (pa_c (pv 0) pa_nil)) (pe_one (pe_chain op_le op_lt pe_int (pv 0) (pv 1)))))), ?_⟩
  refine rd_st [some (.int r), some (.int n)] rfl ?_
  trivial
  refine ⟨r, rfl, _, rfl, iteT ?_⟩
  by_cases h0 : 0 ≤ r
  · rw [decide_eq_true h0]
    refine iteT ?_
    rw [show decide (r < n) = decide (0 ≤ r ∧ r < n) by simp [h0]]
    exact q
  · rw [decide_eq_false h0]
    refine iteF ?_
    rw [show decide (0 ≤ r ∧ r < n) = false by simp [h0]] at q
    exact q
abbrev s_dropped : Stmt := top 26
theorem sc_dropped : FnScope ["machine", "track", "letters", "comings"] ["machine", "track"] (defScope s_dropped) := ⟨rfl, rfl, rfl, by decide +kernel, rfl, by decide +kernel, by decide +kernel⟩
abbrev qs_dropped : List (Pos × Str) := [(⟨103, 4, 104, 71⟩, "dropped.<locals>.comings"), (⟨105, 51, 105, 106⟩, "dropped.<locals>.<lambda>")]
theorem ok_dropped {c Pd Pt : Addr} (T : Txt mg) (d : DfnC K mg "dropped" s_dropped ["machine", "track"] c Pd) (kb : BltK base mg) (C_is_below : Cal P w K mg base 2 "is_below" ["thing", "bound"] sp_belowB) (C_both_letters : Cal P w K mg base 1 "both_letters" ["letter", "track"] sp_both) (C_coming_rooms : Cal P w K mg base 1 "coming_rooms" ["machine", "rooms", "letters"] sp_coming12) (C_explored : Cal P w K mg base 6 "explored" ["tracks", "first", "comings", "is_end"] (sp_explored P w K mg base Pt qs_reduced)) :
    Cal P w K mg base 7 "dropped" ["machine", "track"] (sp_dropped Pt qs_reduced Pd qs_dropped) := by
  refine d.cal sc_dropped (fun vs H Q E h => ?_) (fun f A outer s H vs Q E hr h => ?_)
  · obtain ⟨a, m, t, rfl, _⟩ := h
    rfl
  obtain ⟨a, m, t, rfl, tr, td, rm, ok, h5, ht, q⟩ := h
  obtain ⟨b1, c1, rs, ea, eb1, pr, ec1⟩ := id rm
  have hw4 := ok.wid
  refine ⟨_, (pss_cons (ps_if (pt_not (pt_val (pe_callC C_is_below hr (by omega) (by rfl) (pa_c (pv 1) (pa_c (pe_ix (ix_tupK K) (pv 0) pe_int (fun _ _ => rfl)) pa_nil))))) (pss_one ps_never) pss_nil) (pss_cons (ps_set (i := 2) sc_dropped.nd rfl (Or.inr rfl) (pe_lcomp ["letter"] [(1, "track")] (CompOk.of rfl (by rfl) (by rfl)) (by rfl) (pi_range1 (by rfl) T.b_range (pa_c (pe_op op_shl pe_int (pe_op op_sub (pe_ix (ix_tupK K) (pv 0) pe_int (fun _ _ => rfl)) pe_int)) pa_nil)) (fun _ _ _ _ _ => (pg_name (i := 0) (show List.Nodup (["letter", "track"] : List Str) by decide +kernel) (by rfl) (Or.inl (by rfl)))) (fun _ _ _ _ _ => pf_nil) (fun _ _ _ _ _ => (pe_callC C_both_letters hr (by omega) (by rfl) (pa_c (pv 0) (pa_c (pv 1) pa_nil)))))) (pss_cons (ps_dfn (qs := qs_dropped) "dropped.<locals>.comings" (j := 3) rfl d.code kb (by rfl) (by rfl) sc_dropped.nd rfl rfl) (pss_one (ps_ret (pe_callAC C_explored hr (by omega) (by rfl) (fun _ => rfl) (pa_c (pe_op op_sub (pe_ix (ix_tupK K) (pv 0) pe_int (fun _ _ => rfl)) pe_int) (pa_c (pe_tupN (pa_c pe_int pa_nil)) (pa_c (pv 3) (pa_c (pe_lam (qs := qs_dropped) "dropped.<locals>.<lambda>" rfl d.code kb (by rfl) (by rfl)) pa_nil)))))))))), ?_⟩
  refine rd_st [some (.ref a), some (nV t), none, none] rfl ?_
  trivial
  refine ⟨_, .of ea, _, atI_0, _, _, rfl, _, rfl, ?_⟩
  rw [decide_eq_true (show 0 ≤ ((t : Nat) : Int) ∧ ((t : Nat) : Int) < ((m.w : Nat) : Int) by omega)]
  have hw1 : 1 ≤ m.w := by omega
  have hps := pow_small (w := m.w - 1) (by omega)
  have hz : ((1 : Int) * 2 ^ (((m.w : Nat) : Int) - 1).toNat) = ((2 ^ (m.w - 1) : Nat) : Int) := by
    rw [Int.one_mul, show (((m.w : Nat) : Int) - 1).toNat = m.w - 1 by omega]; exact pow_nat _
  refine iteF ⟨_, .of ea, _, atI_0, _, rfl, ⟨by omega, by omega, by decide⟩, by rw [hz]; omega, by rw [hz]; omega, ?_⟩
  rw [hz, Int.toNat_natCast]
  refine cg_by (n := 2 ^ (m.w - 1)) (fun σ => ∃ v, σ = [v, some (nV t)]) (fun j y H => Line H y [put0 j t, put0 j t + 2 ^ t]) (by omega) ⟨none, by simp [stB]⟩ (fun i H' hi gg => hi) (fun H' gg => Nat.le_refl _) ?_ ?_
  · rintro D i ys σ H1 x H1' hi gg hD hD' hll hy ⟨v, rfl⟩ ⟨rfl, rfl⟩
    simp only [gName, tNil, tCons, tCall, tYes, rd_v0, rd_vS, List.set_cons_zero, List.append_nil, if_true]
    refine ⟨i, t, by simp, by omega, by omega, fun p H2 n2 => cg_step (fun j y H H' ts z => z.ts ts) (by omega) hi hD (n2.g _ _ hD') hll hy n2.g.tups (gg.trans n2.g) ⟨_, rfl⟩ ⟨p, rfl, n2.at'⟩⟩
  intro D ys H1 hD g1 eD hll hy
  refine ⟨td.same g1, fun f1 H2 M1 => ?_⟩
  have g2 : Same H H2 := g1.trans M1.old
  refine ⟨_, .of (g2 _ _ ea), _, atI_0, _, rfl, small_line (by simp), fun t0 H3 n3 => ⟨td.same (g2.trans n3.g), fun f2 H4 M2 Hq ad => ?_⟩⟩
  have g4 : Same H H4 := g2.trans (n3.g.trans M2.old)
  have g14 : Same H1 H4 := M1.old.trans (n3.g.trans M2.old)
  have gq : Same H Hq := g4.trans ad.up
  have g1q : Same H1 Hq := g14.trans ad.up
  obtain ⟨fd1, ef1⟩ := M1.fn
  obtain ⟨fd2, ef2⟩ := M2.fn
  have pl : Paired (Line H1) ys ((List.range (2 ^ (m.w - 1))).map fun l => [put0 l t, put0 l t + 2 ^ t]) := by
    refine paired_of (by rw [hll, List.length_map, List.length_range]) fun j v l e1 e2 => ?_
    have hj : j < 2 ^ (m.w - 1) := by have := (List.getElem?_eq_some_iff.mp e1).1; omega
    rw [List.getElem?_map, List.getElem?_range hj] at e2
    cases e2
    exact hy j v e1
  have clc : CloH P w K mg base 4 Hq f1 1 (sp_comings (fun H => RepM H a m ∧ H D = some (.lst ys) ∧ Paired (Line H) ys ((List.range (2 ^ (m.w - 1))).map fun l => [put0 l t, put0 l t + 2 ^ t])) (dropT m t) (DropG m)) := by
    refine M1.clo_sM (own := ["rooms"]) (ps := ["rooms"]) (cap := ["machine", "letters"]) (cv := [.ref a, .ref D]) (k := 3) (n3.g.trans M2.old) ad ⟨rfl, rfl, rfl, rfl, by decide +kernel, by decide +kernel, by decide +kernel, by decide +kernel⟩ (Nat.le_refl _) (.cons ⟨0, rfl, rfl, .inl rfl⟩ (.cons ⟨2, rfl, rfl, .inl rfl⟩ .nil)) (fun cl ct cd pm us hl => match us, hl with | [_], _ => rfl) ?_
    rintro clo c' A' outer' s' H' vs Q' hr hcl fz fz2 hl ⟨pa, rs', rfl, ⟨hR1, hR2, hR3⟩, et, ⟨hri, hrn⟩, q'⟩
    refine ⟨_, (pss_one (ps_ret (pe_lcomp ["both"] [(1, "machine"), (0, "rooms")] (CompOk.of rfl (by rfl) (by rfl)) (by rfl) (pi_listK K (pv 2)) (fun _ _ _ _ _ => (pg_name (i := 0) (show List.Nodup (["both", "machine", "rooms"] : List Str) by decide +kernel) (by rfl) (Or.inl (by rfl)))) (fun _ _ _ _ _ => pf_nil) (fun _ _ _ _ _ => (pe_callC C_coming_rooms hr (by omega) (by rfl) (pa_c (pv 1) (pa_c (pv 2) (pa_c (pv 0) pa_nil)))))))), ?_⟩
    refine rd_st [some (.ref pa), some (.ref a), some (.ref D)] rfl ?_
    trivial
    have hR1' := hR1.ts (SameN.tups hcl.n)
    have eD' := hcl.n _ _ hR2 (fun _ _ z => nomatch z)
    have pl' := L2.Paired.mapP hR3 (fun _ _ z => z.ts (SameN.tups hcl.n))
    have et' := hcl.n _ _ et (fun _ _ z => nomatch z)
    refine ⟨⟨_, .of eD'⟩, cg_by (n := 2 ^ (m.w - 1)) (fun σ => ∃ v, σ = [v, some (.ref a), some (.ref pa)]) (fun j y H => Line H y (comeL m rs' [put0 j t, put0 j t + 2 ^ t])) (by omega) ⟨_, rfl⟩ (fun i H5 hi gg => ⟨_, ys[i]'(by omega), .of (gg _ _ eD'), List.getElem?_eq_getElem _⟩) (fun H5 gg => ⟨_, .of (gg _ _ eD'), by omega⟩) ?_ ?_⟩
    · rintro D2 i zs σ H5 y H5' hi gg hD hD' hll2 hy2 ⟨v, rfl⟩ ⟨rfl, yx⟩
      have ex := yx _ (.of (gg _ _ eD'))
      obtain ⟨l, el, p, rfl, ep⟩ := SS.Paired.at pl' ex
      rw [List.getElem?_map, List.getElem?_range hi] at el
      cases el
      have hlt := put_lt m.w (by omega) t ht i hi
      have hls : ∀ l ∈ [put0 i t, put0 i t + 2 ^ t], l < 2 ^ m.w := fun l hl => by
        simp only [List.mem_cons, List.not_mem_nil, or_false] at hl
        rcases hl with rfl | rfl
        · exact Nat.lt_of_le_of_lt (Nat.le_add_right _ _) hlt
        · exact hlt
      simp only [gName, tNil, tCons, tCall, tYes, rd_v0, rd_vS, List.set_cons_zero, List.append_nil, if_true]
      refine ⟨a, pa, p, m, rs', _, rfl, hR1'.same gg, ok, gg _ _ et', gg _ _ ep, hrn, hls, (by have := rising_len hri hrn; omega), by simp, fun p' ms H6 g6 e6 h1 h2 => cg_step (fun j y H H' ts z => z.ts ts) (by omega) hi hD (g6 _ _ hD') hll2 hy2 g6.tups (gg.trans g6) ⟨_, rfl⟩ ⟨p', rfl, ?_⟩⟩
      rw [e6, rising_one h1 comeL_rising fun k => (h2 k).trans (comeL_mem fun r hr l hl => (ok.at (hrn r hr) (hls l hl)).choose_spec.2.2).symm]
    intro D2 zs H5 hD2 g5 eD2 hll2 hy2 hn
    refine q' D2 zs (mixL clo H' H5) (drop_none hD2 eD2 hn) (mix_same g5) (mix_up hn _ _ eD2) ?_
    refine paired_of (by rw [hll2]; simp [dropT]) fun j v l e1 e2 => ?_
    have hj : j < 2 ^ (m.w - 1) := by have := (List.getElem?_eq_some_iff.mp e1).1; omega
    have e2' : ((List.range (2 ^ (m.w - 1))).map fun l => comeL m rs' [put0 l t, put0 l t + 2 ^ t])[j]? = some l := e2
    rw [List.getElem?_map, List.getElem?_range hj] at e2'
    cases e2'
    obtain ⟨p, rfl, ep⟩ := hy2 j v e1
    exact ⟨p, rfl, mix_up hn _ _ ep⟩
  have cle : CloH P w K mg base 4 Hq f2 1 (sp_isend (fun H => RepM H a m ∧ H D = some (.lst ys) ∧ Paired (Line H) ys ((List.range (2 ^ (m.w - 1))).map fun l => [put0 l t, put0 l t + 2 ^ t])) (dropT m t) (DropG m)) := by
    refine M2.clo_e (own := ["rooms"]) (ps := ["rooms"]) (cap := ["machine"]) (cv := [.ref a]) (k := 3) (Same.refl _) ad ⟨rfl, rfl, rfl, by decide +kernel, rfl, by decide +kernel, by decide +kernel, by decide +kernel⟩ (Nat.le_refl _) (.cons ⟨0, rfl, rfl, .inl rfl⟩ .nil) (fun cl ct cd pm us hl => match us, hl with | [_], _ => rfl) ?_
    rintro clo c' A' outer' s' H' vs Q' hr hcl fz fz2 hl ⟨pa, rs', rfl, ⟨hR1, hR2, hR3⟩, et, ⟨hri, hrn⟩, q'⟩
    refine ⟨_, (pe_cB (call_any_blK K rfl) (by rfl) T.b_any boot_any (pa_c (pe_lcomp ["room"] [(1, "machine")] (CompOk.of rfl (by rfl) (by rfl)) (by rfl) (pi_tupK K (pv 0)) (fun _ _ _ _ _ => (pg_name (i := 0) (show List.Nodup (["room", "machine"] : List Str) by decide +kernel) (by rfl) (Or.inl (by rfl)))) (fun _ _ _ _ _ => pf_nil) (fun _ _ _ _ _ => (pe_ix (ix_tupK K) (pe_ix (ix_tupK K) (pv 1) pe_int (fun _ _ => rfl)) (pv 0) (fun _ _ => rfl)))) pa_nil)), ?_⟩
    refine rd_se [some (.ref pa), some (.ref a)] rfl ?_
    trivial
    have hR1' := hR1.ts (SameN.tups hcl.n)
    have et' := hcl.n _ _ et (fun _ _ z => nomatch z)
    obtain ⟨b1', c1', rs1', ea', eb1', pr', ec1'⟩ := id hR1'
    refine ⟨⟨_, .of et'⟩, cm_tup (K := K) (a := pa) (xs := rs'.map nV) (fun σ => ∃ v, σ = [v, some (.ref a)]) (fun x => match x with | .int r => V.bl (m.fin r.toNat) | _ => .non) (by rw [List.length_map]; have := rising_len hri hrn; omega) (.of et') ⟨_, rfl⟩ ?_ ?_⟩
    · rintro D2 j σ H5 x hj mx hx gg hD hD' ⟨v, rfl⟩
      obtain ⟨r, mr, rfl⟩ := List.mem_map.mp mx
      trivial
      exact ⟨_, .of (gg _ _ ea'), _, atI_nat (j := 2) rfl, _, rfl, _, .of (gg _ _ ec1'), _, atI_nat (by rw [List.getElem?_map, Mc.fin_at (hrn r mr)]; rfl), cm_step (by rw [List.length_map]; have := rising_len hri hrn; omega) hx hD hD' gg ⟨_, rfl⟩ rfl⟩
    intro D2 H5 hD2 g5 eD2
    refine ⟨_, rfl, rs'.map m.fin, .of (by rw [eD2, List.map_map, List.map_map]; rfl), fun hn => ?_⟩
    have := q' (mixL clo H' H5) (mix_same g5)
    rw [List.any_map]
    exact this
  refine ⟨t0, f1, f2, fd1, fd2, dropT m t, DropG m, (fun H => RepM H a m ∧ H D = some (.lst ys) ∧ Paired (Line H) ys ((List.range (2 ^ (m.w - 1))).map fun l => [put0 l t, put0 l t + 2 ^ t])), [0], ?_, tr.same gq, (M2.old.trans ad.up) _ _ n3.at', ((n3.g.trans M2.old).trans ad.up) _ _ ef1, ad.up _ _ ef2, clc, cle, ⟨rm.same gq, g1q _ _ eD, L2.Paired.mapP pl fun _ _ z => z.ts g1q.tups⟩, (fun H5 H6 g z => ⟨z.1.same g, g _ _ z.2.1, L2.Paired.mapP z.2.2 fun _ _ y => y.ts g.tups⟩), by show m.w - 1 ≤ 4; omega, ⟨by simp [Rising], fun r hr => by rw [List.mem_singleton.mp hr]; exact ok.pos⟩, (fun rs' _ => drop_step), (fun fs k F => drop_fnd F h5), fun p m' H5 g5 rp ok' ew cn tk => ?_⟩
  · show [V.int (((m.w : Nat) : Int) - 1), V.ref t0, V.ref f1, V.ref f2] = [V.int (((m.w - 1 : Nat)) : Int), V.ref t0, V.ref f1, V.ref f2]
    rw [show (((m.w - 1 : Nat)) : Int) = ((m.w : Nat) : Int) - 1 by omega]
  · exact q p m' _ (g4.trans (ad.same g5)) (rp.ts fun b xs e => ad.keep g5 e (fun _ _ z => nomatch z)) ok' ew cn tk
end
section
variable {P : Program} {w : World} {K : PySem.W.Frag} {mg : Str → Option Value} {base : Heap}
abbrev s_law_ahead : Stmt := top 35
theorem sc_law_ahead : FnScope ["_law_machine_here", "_law_heap", "_law_letters", "_law_rooms", "_law_room", "_law_letter"] ["_law_machine_here", "_law_heap", "_law_letters"] (defScope s_law_ahead) := ⟨rfl, rfl, rfl, by decide +kernel, rfl, by decide +kernel, by decide +kernel⟩
theorem ok_ahead24 (T : Txt mg) (d : Dfn K mg "_law_ahead" s_law_ahead ["_law_machine_here", "_law_heap", "_law_letters"]) : Cal P w K mg base 1 "_law_ahead" ["_law_machine_here", "_law_heap", "_law_letters"] sp_heap25 := by
  refine d.cal sc_law_ahead (fun vs H Q E h => ?_) (fun f cdv A outer s H vs Q E hr h => ?_)
  · obtain ⟨a, b, c, m, rs, ls, rfl, _⟩ := h
    rfl
  obtain ⟨a, b, c, m, rs, ls, rfl, rm, ok, eb, ec, hrs, hls, r12, l2, q⟩ := h
  have hu := hu_at hr 8 (by decide)
  obtain ⟨b1, c1, ws, ea1, eb1, pr, _⟩ := id rm
  have fl : ∀ l : List Nat, l.length ≤ 12 → (l.flatMap fun r => ls.map fun l => m.go r l).length ≤ 24 := flat_two l2
  refine ⟨_, (pss_cons (ps_set (i := 3) sc_law_ahead.nd rfl (Or.inl rfl) (pe_lstN pa_nil)) (pss_cons (ps_for PassesOwn.never rfl (pi_tupK K (pv 1)) (pg_name (i := 4) sc_law_ahead.nd (by rfl) (Or.inl (by rfl))) (pss_one (ps_for PassesOwn.never rfl (pi_listK K (pv 2)) (pg_name (i := 5) sc_law_ahead.nd (by rfl) (Or.inl (by rfl))) (pss_one (ps_if (pt_cmpR (op_notIn_seqK K) (pe_ix (ix_tupK K) (pe_ix (ix_tupK K) (pe_ix (ix_tupK K) (pv 0) pe_int (fun _ _ => rfl)) (pv 4) (fun _ _ => rfl)) (pv 5) (fun _ _ => rfl)) (pv 3) (by with_unfolding_all rfl)) (pss_one (ps_expr (pe_bmK K PySem.F.plainAttrs_list PySem.F.slot_list_append PySem.F.type_list_append mt_append (pv 3) (pa_c (pe_ix (ix_tupK K) (pe_ix (ix_tupK K) (pe_ix (ix_tupK K) (pv 0) pe_int (fun _ _ => rfl)) (pv 4) (fun _ _ => rfl)) (pv 5) (fun _ _ => rfl)) pa_nil)))) pss_nil))))) (pss_one (ps_ret (pe_cTy call_tuple_ofN (by rfl) T.b_tuple boot_tuple (pa_c (pe_cB (call_sorted_int K) (by rfl) T.b_sorted (by rfl) (pa_c (pv 3) pa_nil)) pa_nil)))))), ?_⟩
  refine rd_st [some (.ref a), some (.ref b), some (.ref c), none, none, none] rfl ?_
  trivial
  refine ⟨by decide, fun p H0 n0 => ⟨⟨_, .of (n0.g _ _ eb)⟩, ?_⟩⟩
  refine fb_tup (K := K) (a := b) (xs := rs.map nV) (fun i σ H' => Same H H' ∧ (∃ v4 v5 : Option V, σ = [some (.ref a), some (.ref b), some (.ref c), some (.ref p), v4, v5]) ∧ H' p = some (.lst ((news [] ((rs.take i).flatMap fun r => ls.map fun l => m.go r l)).map nV))) ⟨n0.g, ⟨none, none, rfl⟩, n0.at'⟩ (fun i σ H' _ z => .of (z.1 _ _ eb)) ?_ ?_
  · rintro i y σ H' hy ⟨g, ⟨v4, v5, rfl⟩, e0⟩
    rw [List.getElem?_map] at hy
    obtain ⟨r, er, rfl⟩ := Option.map_eq_some_iff.mp hy
    have mr := List.mem_of_getElem? er
    trivial
    refine ⟨⟨_, .of (g _ _ ec)⟩, ?_⟩
    have hrt : (rs.take i).length + 1 ≤ 12 := by have := (List.getElem?_eq_some_iff.mp er).1; rw [List.length_take]; omega
    refine fb_list (K := K) (a := c) (xs := ls.map nV) (fun j σ H' => Same H H' ∧ (∃ v5 : Option V, σ = [some (.ref a), some (.ref b), some (.ref c), some (.ref p), some (nV r), v5]) ∧ H' p = some (.lst ((news [] (((rs.take i).flatMap fun r => ls.map fun l => m.go r l) ++ (ls.take j).map fun l => m.go r l)).map nV))) ⟨g, ⟨_, rfl⟩, by rw [List.take_zero, List.map_nil, List.append_nil]; exact e0⟩ (fun j σ H' _ z => .of (z.1 _ _ ec)) ?_ ?_
    · rintro j y σ H2 hy ⟨g2, ⟨v5', rfl⟩, e2⟩
      rw [List.getElem?_map] at hy
      obtain ⟨l, el, rfl⟩ := Option.map_eq_some_iff.mp hy
      have ml := List.mem_of_getElem? el
      trivial
      obtain ⟨line, f1, f2, f3⟩ := ok.at (hrs r mr) (hls l ml)
      obtain ⟨v, ev1, u1, rfl, e41⟩ := Paired.at2 pr f1
      have ati : atI (line.map nV) (l : Int) = some (nV (m.go r l)) := atI_nat (by rw [List.getElem?_map, f2]; rfl)
      have enx : ((rs.take i).flatMap fun r => ls.map fun l => m.go r l) ++ ((ls.take (j + 1)).map fun l => m.go r l) = (((rs.take i).flatMap fun r => ls.map fun l => m.go r l) ++ (ls.take j).map fun l => m.go r l) ++ [m.go r l] := by
        rw [List.take_add_one, el, Option.toList_some, List.map_append, List.append_assoc]; rfl
      have hlen := news_len (((rs.take i).flatMap fun r => ls.map fun l => m.go r l) ++ (ls.take j).map fun l => m.go r l) ([] : List Nat)
      rw [List.length_append, List.length_map, List.length_take] at hlen
      have hf := fl (rs.take i) (by omega)
      rw [enx, news_nxt]
      generalize news [] (((rs.take i).flatMap fun r => ls.map fun l => m.go r l) ++ (ls.take j).map fun l => m.go r l) = W at e2 hlen
      have fl' : (W.map nV).all flatV = true := by rw [List.all_map]; exact List.all_eq_true.mpr fun _ _ => rfl
      refine ⟨_, .of (g2 _ _ ea1), _, atI_nat (j := 1) rfl, _, rfl, _, .of (g2 _ _ eb1), _, atI_nat ev1, _, rfl, _, .of (g2 _ _ e41), _, ati, _, .inl (.of e2), rfl, fl', ?_⟩
      rw [inV_nn]
      by_cases hin : m.go r l ∈ W
      · rw [decide_eq_true hin, nxt_in hin]
        exact iteF ⟨g2, e2⟩
      · rw [decide_eq_false hin, nxt_out hin]
        exact iteT ⟨.inl ⟨_, .of e2⟩, _, .of (g2 _ _ ea1), _, atI_nat (j := 1) rfl, _, rfl, _, .of (g2 _ _ eb1), _, atI_nat ev1, _, rfl, _, .of (g2 _ _ e41), _, ati, _, e2, by rw [List.length_map]; exact small1000 (by simp only [List.length_nil] at hlen; omega), g2.wr n0.nil _, by rw [upd_same, List.map_append]; rfl⟩
    · rintro σ H2 ⟨g2, ⟨v5', rfl⟩, e2⟩
      trivial
      rw [List.length_map, List.take_of_length_le (Nat.le_refl _)] at e2
      refine ⟨g2, ?_⟩
      rw [e2, List.take_add_one, er, Option.toList_some, List.flatMap_append, List.flatMap_cons, List.flatMap_nil, List.append_nil]
  · rintro σ H' ⟨g, ⟨v4, v5, rfl⟩, e0⟩
    trivial
    rw [List.length_map, List.take_of_length_le (Nat.le_refl _)] at e0
    have hlen := news_len (rs.flatMap fun r => ls.map fun l => m.go r l) ([] : List Nat)
    have hf := fl rs r12
    have nd : (news [] (rs.flatMap fun r => ls.map fun l => m.go r l)).Nodup := news_nd _ _ List.nodup_nil
    have hm : ∀ k, k ∈ news [] (rs.flatMap fun r => ls.map fun l => m.go r l) ↔ k ∈ comeL m rs ls := fun k => by
      rw [news_nil_mem, comeL_mem fun r hr l hl => (ok.at (hrs r hr) (hls l hl)).choose_spec.2.2, List.mem_flatMap]
      simp only [List.mem_map]
    generalize news [] (rs.flatMap fun r => ls.map fun l => m.go r l) = W at e0 hlen nd hm
    refine ⟨W.map fun k : Nat => (k : Int), .of (by rw [e0, List.map_map]; rfl), by rw [List.length_map]; simp only [List.length_nil] at hlen; omega, fun ms hp hs L H1 n1 => ⟨_, .inl ⟨.of n1.at', fun t H2 n2 => ?_⟩⟩⟩
    refine q t H2 (g.trans (n1.g.trans n2.g)) ?_
    rw [n2.at', sorted_is hp hs nd comeL_rising hm]
abbrev s_law_bits : Stmt := top 33
theorem sc_law_bits : FnScope ["_law_letter", "_law_many", "_law_bits_here", "_law_k"] ["_law_letter", "_law_many"] (defScope s_law_bits) := ⟨rfl, rfl, rfl, by decide +kernel, rfl, by decide +kernel, by decide +kernel⟩
theorem ok_bits (T : Txt mg) (d : Dfn K mg "_law_bits" s_law_bits ["_law_letter", "_law_many"]) : Cal P w K mg base 1 "_law_bits" ["_law_letter", "_law_many"] sp_bits := by
  refine d.cal sc_law_bits (fun vs H Q E h => ?_) (fun f cdv A outer s H vs Q E hr h => ?_)
  · obtain ⟨l, n, rfl, _⟩ := h
    rfl
  obtain ⟨l, n, rfl, h5, q⟩ := h
  refine ⟨_, (pss_cons (ps_set (i := 2) sc_law_bits.nd rfl (Or.inl rfl) (pe_lstN pa_nil)) (pss_cons (ps_for PassesOwn.never rfl (pi_range1 (by rfl) T.b_range (pa_c (pv 1) pa_nil)) (pg_name (i := 3) sc_law_bits.nd (by rfl) (Or.inl (by rfl))) (pss_cons (ps_expr (pe_bmK K PySem.F.plainAttrs_list PySem.F.slot_list_append PySem.F.type_list_append mt_append (pv 2) (pa_c (pe_op op_mod (pv 0) pe_int) pa_nil))) (pss_one (ps_set (i := 0) sc_law_bits.nd rfl (Or.inl rfl) (pe_op op_fdiv (pv 0) pe_int))))) (pss_one (ps_ret (pv 2))))), ?_⟩
  refine rd_st [some (nV l), some (nV n), none, none] rfl ?_
  trivial
  refine ⟨small_line (by simp), fun D H1 n1 => ⟨by omega, by omega, ?_⟩⟩
  rw [show ((n : Nat) : Int).toNat = n from rfl]
  refine fb_range (fun i σ H' => Same H H' ∧ ∃ v, σ = [some (nV (l / 2 ^ i)), some (nV n), some (.ref D), v] ∧ H' D = some (.lst ((bitsOf l i).map nV))) ⟨n1.g, _, by rw [Nat.pow_zero, Nat.div_one], n1.at'⟩ ?_ ?_
  · rintro i σ H' hi ⟨g, v, rfl, eD⟩
    have e1 : ((l / 2 ^ i : Nat) : Int) % 2 = ((l / 2 ^ i % 2 : Nat) : Int) := by omega
    have e2 : ((l / 2 ^ i : Nat) : Int) / 2 = ((l / 2 ^ (i + 1) : Nat) : Int) := by rw [Nat.pow_succ, ← Nat.div_div_eq_div_mul]; omega
    have hbl : (bitsOf l i).length = i := by rw [bitsOf, List.length_map, List.length_range]
    trivial
    refine ⟨.inl ⟨_, .of eD⟩, by decide, _, eD, by rw [List.length_map]; exact small1000 (by omega), ⟨by decide, by decide⟩, ?_⟩
    rw [e1, e2]
    refine ⟨g.wr n1.nil _, ?_⟩
    rw [upd_same, bitsOf, bitsOf, List.range_succ, List.map_append, List.map_append]
    exact ⟨rfl, rfl⟩
  · rintro σ H' ⟨g, v, rfl, eD⟩
    simp only [tRet, rd_v0, rd_vS]
    exact q D H' n1.nil g eD
abbrev s_law_more : Stmt := top 34
theorem sc_law_more : FnScope ["_law_letter", "_law_width", "_law_track", "_law_bit", "_law_bits_here", "_law_found", "_law_one"] ["_law_letter", "_law_width", "_law_track", "_law_bit"] (defScope s_law_more) := ⟨rfl, rfl, rfl, by decide +kernel, rfl, by decide +kernel, by decide +kernel⟩
theorem ok_more (T : Txt mg) (d : Dfn K mg "_law_more" s_law_more ["_law_letter", "_law_width", "_law_track", "_law_bit"]) (C_law_bits : Cal P w K mg base 1 "_law_bits" ["_law_letter", "_law_many"] sp_bits) : Cal P w K mg base 2 "_law_more" ["_law_letter", "_law_width", "_law_track", "_law_bit"] sp_more := by
  refine d.cal sc_law_more (fun vs H Q E h => ?_) (fun f cdv A outer s H vs Q E hr h => ?_)
  · obtain ⟨l, w, t, b, rfl, _⟩ := h
    rfl
  obtain ⟨l, w, t, b, rfl, hw, ht, hl, hb, q⟩ := h
  refine ⟨_, (pss_cons (ps_set (i := 4) sc_law_more.nd rfl (Or.inl rfl) (pe_callC C_law_bits hr (by omega) (by rfl) (pa_c (pv 0) (pa_c (pe_op op_sub (pv 1) pe_int) pa_nil)))) (pss_cons (ps_expr (pe_bmK K PySem.F.plainAttrs_list PySem.F.slot_list_insert PySem.F.type_list_insert mt_insert (pv 4) (pa_c (pv 2) (pa_c (pv 3) pa_nil)))) (pss_cons (ps_set (i := 5) sc_law_more.nd rfl (Or.inl rfl) pe_int) (pss_cons (ps_for PassesOwn.never rfl (pi_revK K (by rfl) T.b_reversed (pa_c (pv 4) pa_nil)) (pg_name (i := 6) sc_law_more.nd (by rfl) (Or.inl (by rfl))) (pss_one (ps_set (i := 5) sc_law_more.nd rfl (Or.inl rfl) (pe_op op_add (pe_op op_mul pe_int (pv 5)) (pv 6))))) (pss_one (ps_ret (pv 5))))))), ?_⟩
  refine rd_st [some (nV l), some (nV w), some (nV t), some (nV b), none, none, none] rfl ?_
  trivial
  refine ⟨l, w - 1, by rw [show nV (w - 1) = V.int ((w : Int) - 1) from congrArg V.int (by omega)], by omega, fun D H1 hD g1 eD => ?_⟩
  have hbl : (bitsOf l (w - 1)).length = w - 1 := by rw [bitsOf, List.length_map, List.length_range]
  refine ⟨.inl ⟨_, .of eD⟩, D, rfl, _, t, rfl, eD, by rw [List.length_map]; omega, by rw [List.length_map]; omega, fun H2 eH2 => ?_⟩
  have ee : ((bitsOf l (w - 1)).map nV).take t ++ nV b :: ((bitsOf l (w - 1)).map nV).drop t = ((bitsOf l (w - 1)).take t ++ b :: (bitsOf l (w - 1)).drop t).map nV := by rw [List.map_append, List.map_take, List.map_cons, List.map_drop]
  rw [ee] at eH2
  have hbk := back_more w hw t ht l hl b hb
  generalize (bitsOf l (w - 1)).take t ++ b :: (bitsOf l (w - 1)).drop t = bs at eH2 hbk
  replace eH2 := eH2.symm
  have g2 : Same H H2 := by rw [← eH2]; exact g1.wr hD _
  have eD2 : H2 D = some (.lst (bs.map nV)) := by rw [← eH2, upd_same]
  refine ⟨_, rfl, _, .of eD2, ?_⟩
  refine fb_rev (K := K) (a := D) (xs := bs.map nV) (fun i σ H' => H' = H2 ∧ ∃ v, σ = [some (nV l), some (nV w), some (nV t), some (nV b), some (.ref D), some (nV ((bs.reverse.take i).foldl (fun f b => 2 * f + b) 0)), v]) ⟨rfl, _, rfl⟩ (fun i σ H' _ z => by rw [z.1]; exact .of eD2) ?_ ?_
  · rintro i x σ H' hx ⟨rfl, v, rfl⟩
    rw [← List.map_reverse, List.getElem?_map] at hx
    obtain ⟨b', eb, rfl⟩ := Option.map_eq_some_iff.mp hx
    trivial
    refine ⟨.inl ⟨by decide, by decide⟩, ?_⟩
    rw [List.take_add_one, eb, Option.toList_some, List.foldl_append]
    simp
  · rintro σ H' ⟨rfl, v, rfl⟩
    simp only [tRet, rd_v0, rd_vS]
    rw [List.length_map, List.take_of_length_le (by rw [List.length_reverse]; exact Nat.le_refl _), show bs.reverse.foldl (fun f b => 2 * f + b) 0 = put0 l t + b * 2 ^ t from hbk]
    exact q H' g2
end
section
variable {P : Program} {w : World} {K : PySem.W.Frag} {mg : Str → Option Value} {base : Heap}
abbrev s_law_along : Stmt := top 36
theorem sc_law_along : FnScope ["_law_machine_here", "_law_less", "_law_track", "_law_order", "_law_seen", "_law_at", "_law_heap", "_law_mine", "_law_letter", "_law_letters", "_law_ahead_here"] ["_law_machine_here", "_law_less", "_law_track"] (defScope s_law_along) := ⟨rfl, rfl, rfl, by decide +kernel, rfl, by decide +kernel, by decide +kernel⟩
theorem ok_along24 (T : Txt mg) (d : Dfn K mg "_law_along" s_law_along ["_law_machine_here", "_law_less", "_law_track"]) (C_law_more : Cal P w K mg base 2 "_law_more" ["_law_letter", "_law_width", "_law_track", "_law_bit"] sp_more) (C_law_ahead : Cal P w K mg base 1 "_law_ahead" ["_law_machine_here", "_law_heap", "_law_letters"] sp_heap25) : Cal P w K mg base 3 "_law_along" ["_law_machine_here", "_law_less", "_law_track"] sp_along24 := by
  refine d.cal sc_law_along (fun vs H Q E h => ?_) (fun f cdv A outer s H vs Q E hr h => ?_)
  · obtain ⟨a, b, m, m', t, rfl, _⟩ := h
    rfl
  obtain ⟨a, b, m, m', t, rfl, rm, rm', ok, ok', h5, ht, hw, lang, q⟩ := h
  obtain ⟨b1, c1, rs1, ea, eb1, pr1, ec1⟩ := id rm
  obtain ⟨b2, c2, rs2, eb, eb2, pr2, ec2⟩ := id rm'
  have hu := hu_at hr 8 (by decide)
  have hw4 := ok.wid
  have hps := pow_small (w := m.w - 1) (by omega)
  refine ⟨_, (pss_cons (ps_set (i := 3) sc_law_along.nd rfl (Or.inl rfl) (pe_lstN (pa_c (pe_tupN (pa_c (pe_tupN (pa_c pe_int pa_nil)) (pa_c pe_int pa_nil))) pa_nil))) (pss_cons (ps_set (i := 4) sc_law_along.nd rfl (Or.inl rfl) (pe_disp1N hu (pe_tupN (pa_c (pe_tupN (pa_c pe_int pa_nil)) (pa_c pe_int pa_nil))) pe_bl)) (pss_cons (ps_set (i := 5) sc_law_along.nd rfl (Or.inl rfl) pe_int) (pss_cons (ps_while PassesOwn.never (pt_cmpR op_lt (pv 5) (pe_cB (call_len_seqK K) (by rfl) T.b_len boot_len (pa_c (pv 3) pa_nil)) (nomark _)) (pss_cons (ps_asg (pe_ix (ix_listK K) (pv 3) (pv 5) (fun _ _ => rfl)) (pg_tupK K (n := 2) rfl (pgs_cons (pg_name (i := 6) sc_law_along.nd (by rfl) (Or.inl (by rfl))) (pgs_cons (pg_name (i := 7) sc_law_along.nd (by rfl) (Or.inl (by rfl))) pgs_nil)))) (pss_cons (ps_if (pt_cmpR op_ne (pe_ix (ix_tupK K) (pe_ix (ix_tupK K) (pv 1) pe_int (fun _ _ => rfl)) (pv 7) (fun _ _ => rfl)) (pe_cB (call_any_blK K rfl) (by rfl) T.b_any boot_any (pa_c (pe_lcomp ["_law_room"] [(0, "_law_machine_here")] (CompOk.of rfl (by rfl) (by rfl)) (by rfl) (pi_tupK K (pv 6)) (fun _ _ _ _ _ => (pg_name (i := 0) (show List.Nodup (["_law_room", "_law_machine_here"] : List Str) by decide +kernel) (by rfl) (Or.inl (by rfl)))) (fun _ _ _ _ _ => pf_nil) (fun _ _ _ _ _ => (pe_ix (ix_tupK K) (pe_ix (ix_tupK K) (pv 1) pe_int (fun _ _ => rfl)) (pv 0) (fun _ _ => rfl)))) pa_nil)) (nomark _)) (pss_one (ps_ret pe_bl)) pss_nil) (pss_cons (ps_for PassesOwn.never rfl (pi_range1 (by rfl) T.b_range (pa_c (pe_op op_shl pe_int (pe_ix (ix_tupK K) (pv 1) pe_int (fun _ _ => rfl))) pa_nil)) (pg_name (i := 8) sc_law_along.nd (by rfl) (Or.inr (by rfl))) (pss_cons (ps_setC (i := 9) sc_law_along.nd rfl (Or.inl rfl) ["_law_bit"] [(8, "_law_letter"), (2, "_law_track"), (0, "_law_machine_here")] (CompOk.of rfl (by rfl) (by rfl)) (by rfl) (pi_range1 (by rfl) T.b_range (pa_c pe_int pa_nil)) (fun _ _ _ _ _ => (pg_name (i := 0) (show List.Nodup (["_law_bit", "_law_letter", "_law_track", "_law_machine_here"] : List Str) by decide +kernel) (by rfl) (Or.inl (by rfl)))) (fun _ _ _ _ _ => pf_nil) (fun _ _ _ _ _ => (pe_callC C_law_more hr (by omega) (by rfl) (pa_c (pv 1) (pa_c (pe_ix (ix_tupK K) (pv 3) pe_int (fun _ _ => rfl)) (pa_c (pv 2) (pa_c (pv 0) pa_nil))))))) (pss_cons (ps_set (i := 10) sc_law_along.nd rfl (Or.inl rfl) (pe_tupN (pa_c (pe_callC C_law_ahead hr (by omega) (by rfl) (pa_c (pv 0) (pa_c (pv 6) (pa_c (pv 9) pa_nil)))) (pa_c (pe_ix (ix_tupK K) (pe_ix (ix_tupK K) (pe_ix (ix_tupK K) (pv 1) pe_int (fun _ _ => rfl)) (pv 7) (fun _ _ => rfl)) (pv 8) (fun _ _ => rfl)) pa_nil)))) (pss_one (ps_if (pt_cmpR (op_notinN hu) (pv 10) (pv 4) (by with_unfolding_all rfl)) (pss_cons (ps_dputN hu (pv 4) (pv 10) pe_bl rfl) (pss_one (ps_expr (pe_bmK K PySem.F.plainAttrs_list PySem.F.slot_list_append PySem.F.type_list_append mt_append (pv 3) (pa_c (pv 10) pa_nil))))) pss_nil))))) (pss_one (ps_aug (i := 5) sc_law_along.nd rfl (Or.inl rfl) pe_int ip_add)))))) (pss_one (ps_ret pe_bl)))))), ?_⟩
  refine rd_st [some (.ref a), some (.ref b), some (nV t), none, none, none, none, none, none, none, none] rfl ?_
  trivial
  refine ⟨small_line (by simp), fun q0 G0 n0 => ⟨small_line (by simp), fun t0 G1 n1 => ⟨small_line (by simp), fun p G2 n2 kd G3 n3 => ⟨small_line (by simp), fun q1 G4 n4 => ⟨small_line (by simp), fun t1 G5 n5 => ⟨(n4.g.trans n5.g) _ _ n3.at', k2 ([0], 0), nest_of (p := ([0], 0)) n5.at' (n5.g _ _ n4.at'), fun H4 eH4 => ?_⟩⟩⟩⟩⟩⟩
  have g35 : Same G2 G5 := n3.g.trans (n4.g.trans n5.g)
  have g05 : Same H G5 := n0.g.trans (n1.g.trans (n2.g.trans g35))
  have npk : p ≠ kd := ne_of_none n2.at' n3.nil
  have hkd : H kd = none := (n0.g.trans (n1.g.trans n2.g)).free n3.nil
  have hpn : H p = none := (n0.g.trans n1.g).free n2.nil
  have g4 : Same H H4 := by rw [eH4]; exact g05.wr hkd _
  have ts4 : TupS G5 H4 := by rw [eH4]; exact tups_wrN ((n4.g.trans n5.g) _ _ n3.at') _
  have ep4 : H4 p = some (.lst [.ref t0]) := by rw [eH4, upd_ne npk]; exact g35 _ _ n2.at'
  have ek4 : H4 kd = some (dN P w kd [(k2 ([0], 0), t1, .bl true)]) := by rw [eH4]; exact upd_same
  have pl4 : PLine H4 (.ref t0) ([0], 0) := ⟨t0, q0, rfl, ts4 _ _ ((n2.g.trans g35) _ _ n1.at'), ts4 _ _ ((n1.g.trans (n2.g.trans g35)) _ _ n0.at')⟩
  have kk4 : Keys H4 [(k2 ([0], 0), t1, V.bl true)] := fun y hy => by
    rw [List.mem_singleton.mp hy]
    exact (nest_of (p := ([0], 0)) n5.at' (n5.g _ _ n4.at')).ts ts4
  clear eH4
  refine ⟨fun mm σ H' => ∃ (i : Nat) (v6 v7 v8 v9 v10 : Option V) (rs : List V) (ps : List (List Nat × Nat)) (ys : List NRow), mm = 3300 - i ∧ Same H H' ∧ σ = [some (.ref a), some (.ref b), some (nV t), some (.ref p), some (.ref kd), some (nV i), v6, v7, v8, v9, v10] ∧ H' p = some (.lst rs) ∧ Paired (PLine H') rs ps ∧ H' kd = some (dN P w kd ys) ∧ Keys H' ys ∧ ys.map (·.1) = ps.map k2 ∧ ASnd (dropT m t) m' ps,
    ⟨3300, 0, none, none, none, none, none, [.ref t0], [([0], 0)], _, rfl, g4, rfl, ep4, .cons pl4 .nil, ek4, kk4, rfl, ASnd.start⟩, ?_⟩
  rintro mm σ H' ⟨i, v6, v7, v8, v9, v10, rs, ps, ys, rfl, g, rfl, ep, pr, ek, kk, eys, sn⟩
  have hll := sn.len ok ok' hw h5
  have hrl := SS.Paired.len pr
  trivial
  refine ⟨_, .inl (.of ep), ?_⟩
  by_cases hlt : i < ps.length
  · rw [decide_eq_true (by omega)]
    refine iteT ⟨fun σ' H'' => ∃ m', m' < 3300 - i ∧ _, fun σ' H'' z => z, ?_⟩
    have eli : ps[i]? = some ps[i] := List.getElem?_eq_getElem hlt
    generalize ps[i] = pp at eli
    obtain ⟨S, r⟩ := pp
    have mem := List.mem_of_getElem? eli
    obtain ⟨⟨hri, hrn⟩, hr'⟩ := sn.good ok ok' hw _ mem
    obtain ⟨v, ev, c, qq, rfl, hc, hq⟩ := Paired.at2 pr eli
    have hS5 : S.length ≤ m.n := rising_len hri hrn
    refine ⟨_, .of ep, _, atI_nat ev, _, rfl, _, .of hc, rfl, _, _, rfl, _, _, rfl, rfl, _, .of (g _ _ eb), _, atI_nat (j := 2) rfl, c2, rfl, _, _, rfl, .of (g _ _ ec2), _, atI_nat (by rw [List.getElem?_map, Mc.fin_at hr']; rfl), ?_⟩
    dsimp only
    refine ⟨qq, rfl, ⟨_, .of hq⟩, cm_tup (K := K) (a := qq) (xs := S.map nV) (fun σ => ∃ v, σ = [v, some (.ref a)]) (fun x => match x with | .int r => V.bl (m.fin r.toNat) | _ => .non) (by rw [List.length_map]; omega) (.of hq) ⟨_, rfl⟩ ?_ ?_⟩
    · rintro D2 j σ H5 x hj mx hx gg hD hD' ⟨v, rfl⟩
      obtain ⟨r2, mr, rfl⟩ := List.mem_map.mp mx
      trivial
      exact ⟨_, .of ((g.trans gg) _ _ ea), _, atI_nat (j := 2) rfl, _, rfl, _, .of ((g.trans gg) _ _ ec1), _, atI_nat (by rw [List.getElem?_map, Mc.fin_at (hrn r2 mr)]; rfl), cm_step (by rw [List.length_map]; omega) hx hD hD' gg ⟨_, rfl⟩ rfl⟩
    intro D2 H5 hD2 g5 eD2
    have efin : m'.fin r = (S.map m.fin).any id := by
      obtain ⟨row, hrow, e⟩ := sn.by_ _ mem
      have e1 : S = (dropT m t).run [0] row := congrArg Prod.fst e
      have e2 : r = m'.run 0 row := congrArg Prod.snd e
      rw [e2, lang row hrow, ← e1, List.any_map]
      rfl
    refine ⟨_, rfl, S.map m.fin, .of (by rw [eD2, List.map_map, List.map_map]; rfl), rfl, ?_⟩
    rw [show (!decide (V.bl (m'.fin r) = V.bl ((S.map m.fin).any id))) = false by rw [efin]; simp]
    have g05' := g.trans g5
    have hz : ((1 : Int) * 2 ^ ((m'.w : Nat) : Int).toNat) = ((2 ^ m'.w : Nat) : Int) := by rw [Int.toNat_natCast, Int.one_mul]; exact pow_nat _
    have hp' : 2 ^ m'.w = 2 ^ (m.w - 1) := by rw [hw]
    refine iteF ⟨_, .of (g05' _ _ eb), _, atI_0, _, rfl, ⟨by omega, by omega, by decide⟩, by rw [hz]; omega, by rw [hz]; omega, ?_⟩
    rw [hz, Int.toNat_natCast]
    refine fb_range (fun l σ H'' => Same H H'' ∧ (∃ v8 v9 v10, σ = [some (.ref a), some (.ref b), some (nV t), some (.ref p), some (.ref kd), some (nV i), some (.ref qq), some (nV r), v8, v9, v10]) ∧ H'' qq = some (.tup (S.map nV)) ∧ ∃ rs ps ys, H'' p = some (.lst rs) ∧ Paired (PLine H'') rs ps ∧ H'' kd = some (dN P w kd ys) ∧ Keys H'' ys ∧ ys.map (·.1) = ps.map k2 ∧ ASnd (dropT m t) m' ps ∧ ps[i]? = some (S, r))
      ⟨g05', ⟨_, _, _, rfl⟩, g5 _ _ hq, rs, ps, ys, g5 _ _ ep, L2.Paired.mapP pr (fun _ _ z => z.ts g5.tups), g5 _ _ ek, kk.ts g5.tups, eys, sn, eli⟩ ?_ ?_
    · rintro l σ H6 hl ⟨g6, ⟨v8', v9', v10', rfl⟩, hq6, rs', ps', ys', ep6, pr6, ek6, kk6, eys6, sn6, eli6⟩
      have hll6 := sn6.len ok ok' hw h5
      have hrl6 := SS.Paired.len pr6
      have hyl : ys'.length = ps'.length := by have := congrArg List.length eys6; rwa [List.length_map, List.length_map] at this
      have hl1 : l < 2 ^ (m.w - 1) := by rw [← hp']; exact hl
      have hlt' := put_lt m.w (by omega) t ht l hl1
      trivial
      refine ⟨by decide, by decide, cg_by (n := 2) (fun σ => ∃ v, σ = [v, some (V.int (0 + (l : Int))), some (nV t), some (.ref a)]) (fun j y H => y = nV (put0 l t + j * 2 ^ t)) (by decide) ⟨_, rfl⟩ (fun i H hi gg => hi) (fun H gg => Nat.le_refl _) ?_ ?_⟩
      · rintro D3 j zs σ H7 x H7' hj gg hD hD' hll2 hy2 ⟨v, rfl⟩ ⟨rfl, rfl⟩
        trivial
        exact ⟨_, .of ((g6.trans gg) _ _ ea), _, atI_0, l, m.w, t, j, by simp, by omega, ht, hl1, hj, fun H8 g8 => cg_step (fun j y H H' ts z => z) (by decide) hj hD (g8 _ _ hD') hll2 hy2 g8.tups (gg.trans g8) ⟨_, rfl⟩ rfl⟩
      intro D3 zs H7 hD3 g7 eD3 hll2 hy2
      have ez : zs = [put0 l t, put0 l t + 2 ^ t].map nV := by
        match zs, hll2 with
        | [z0, z1], _ => rw [hy2 0 z0 rfl, hy2 1 z1 rfl]; simp
      rw [ez] at eD3
      have hsg : ∀ z ∈ [put0 l t, put0 l t + 2 ^ t], z < 2 ^ m.w := fun z hz => by
        simp only [List.mem_cons, List.not_mem_nil, or_false] at hz
        rcases hz with rfl | rfl
        · exact Nat.lt_of_le_of_lt (Nat.le_add_right _ _) hlt'
        · exact hlt'
      refine ⟨a, qq, D3, m, S, _, rfl, rm.same (g6.trans g7), ok, g7 _ _ hq6, eD3, hrn, hsg, by omega, by simp, fun t2 H8 g8 e8 => ?_⟩
      obtain ⟨ln2, f1, f2, f3⟩ := ok'.at hr' hl
      obtain ⟨v, ev2, u2, rfl, eu2⟩ := Paired.at2 pr2 f1
      have gA : Same H H8 := g6.trans (g7.trans g8)
      have at2 : atI (ln2.map nV) (0 + (l : Int)) = some (nV (m'.go r l)) := by rw [Int.zero_add]; exact atI_nat (by rw [List.getElem?_map, f2]; rfl)
      refine ⟨_, .of (gA _ _ eb), _, atI_nat (j := 1) rfl, _, rfl, _, .of (gA _ _ eb2), _, atI_nat ev2, _, rfl, _, .of (gA _ _ eu2), _, at2, small_line (by simp), fun t3 H9 n9 => ?_⟩
      have g69 : Same H6 H9 := g7.trans (g8.trans n9.g)
      have g09 := g6.trans g69
      have est : ((dropT m t).step S).getD l [] = comeL m S [put0 l t, put0 l t + 2 ^ t] := by
        show ((List.range (2 ^ (m.w - 1))).map fun l => comeL m S [put0 l t, put0 l t + 2 ^ t]).getD l [] = _
        rw [List.getD_eq_getElem?_getD, List.getElem?_map, List.getElem?_range hl1]
        rfl
      have snN : ¬ (comeL m S [put0 l t, put0 l t + 2 ^ t], m'.go r l) ∈ ps' → ASnd (dropT m t) m' (ps' ++ [(comeL m S [put0 l t, put0 l t + 2 ^ t], m'.go r l)]) := fun h => by
        have z := sn6.new (List.mem_of_getElem? eli6) (show l < 2 ^ (dropT m t).w from hl1) (by rw [est]; exact h)
        rwa [est] at z
      have en9 := n9.at'
      have eq9 := n9.g _ _ e8
      generalize comeL m S [put0 l t, put0 l t + 2 ^ t] = cl at snN eq9
      generalize m'.go r l = rn at snN en9
      have en : NestAt H9 t3 (k2 (cl, rn)) := nest_of (p := (cl, rn)) en9 eq9
      have vk := valN_k2 eys6 (cl, rn)
      refine ⟨ys', g69 _ _ ek6, kk6.ts g69.tups, _, en, ?_⟩
      by_cases hx' : (cl, rn) ∈ ps'
      · rw [vk, decide_eq_true hx']
        exact iteF ⟨g09, g69 _ _ hq6, rs', g69 _ _ ep6, ps', L2.Paired.mapP pr6 (fun _ _ z => z.ts g69.tups), ys', g69 _ _ ek6, kk6.ts g69.tups, eys6, sn6, eli6⟩
      · rw [vk, decide_eq_false hx']
        rw [decide_eq_false hx'] at vk
        have vn : valN ys' (k2 (cl, rn)) = none := by
          cases z : valN ys' (k2 (cl, rn)) with
          | none => rfl
          | some v => rw [z] at vk; cases vk
        have hsz : ∀ k : Nat, k ≤ 10000 → k < sizeLine := fun k h => Nat.lt_of_le_of_lt h (by decide)
        refine iteT ⟨ys', g69 _ _ ek6, kk6.ts g69.tups, _, en, vn, hsz _ (by omega), fun H10 eH10 => ?_⟩
        have ep10 : H10 p = some (.lst rs') := by rw [eH10, upd_ne npk]; exact g69 _ _ ep6
        have g10 : Same H H10 := by rw [eH10]; exact g09.wr hkd _
        have tsA : TupS H9 H10 := by rw [eH10]; exact tups_wrN (g69 _ _ ek6) _
        have ek10 : H10 kd = some (dN P w kd (ys' ++ [(k2 (cl, rn), t3, V.bl true)])) := by rw [eH10]; exact upd_same
        have tsB : TupS H9 (upd H10 p (.lst (rs' ++ [.ref t3]))) := tsA.trans (TupS.wr ep10 _)
        have tsC := g69.tups.trans tsB
        refine ⟨.inl ⟨_, .of ep10⟩, _, ep10, hsz _ (by omega), g10.wr hpn _, tsC _ _ hq6, rs' ++ [.ref t3], upd_same, ps' ++ [(cl, rn)], SM.Paired.snoc (L2.Paired.mapP pr6 fun _ _ z => z.ts tsC) ⟨t3, t2, rfl, tsB _ _ en9, tsB _ _ eq9⟩, ys' ++ [(k2 (cl, rn), t3, V.bl true)], by rw [upd_ne (Ne.symm npk)]; exact ek10, fun y hy => ?_, ?_, snN hx', ?_⟩
        · rcases List.mem_append.mp hy with z | z
          · exact (kk6 y z).ts tsC
          · rw [List.mem_singleton.mp z]; exact en.ts tsB
        · rw [List.map_append, List.map_append, eys6]; rfl
        · rw [List.getElem?_append_left (List.getElem?_eq_some_iff.mp eli6).1]; exact eli6
    · rintro σ H6 ⟨g6, ⟨v8', v9', v10', rfl⟩, hq6, rs', ps', ys', ep6, pr6, ek6, kk6, eys6, sn6, eli6⟩
      trivial
      exact ⟨_, rfl, _, rfl, 3300 - (i + 1), by omega, i + 1, rfl, g6, by omega, rs', ep6, ps', pr6, ys', ek6, kk6, eys6, sn6⟩
  · rw [decide_eq_false (by omega)]
    exact iteF (q H' g)
end
theorem lk_skip {ts : List (Addr × List (Pos × Str))} {a b : Addr} {q : List (Pos × Str)} (h : b ≠ a) : ((a, q) :: ts).lookup b = ts.lookup b := by rw [List.lookup_cons, show (b == a) = false from beq_eq_false_iff_ne.mpr h]
theorem lk_hit {ts : List (Addr × List (Pos × Str))} {a : Addr} {q : List (Pos × Str)} : ((a, q) :: ts).lookup a = some q := by simp [List.lookup]
section
variable {P : Program} {w : World} {K : PySem.W.Frag} {mg : Str → Option Value} {base : Heap}
abbrev s_law : Stmt := top 37
theorem sc_law : FnScope ["_law_script", "_law_head", "_law_width", "_law_machine_here", "_law_track", "_law_found"] ["_law_script"] (defScope s_law) := ⟨rfl, rfl, rfl, by decide +kernel, rfl, by decide +kernel, by decide +kernel⟩
theorem ok_law {f Pt Pp Pm Pd : Addr} {fd : FuncData} (T : Txt mg) (n1 : Pp ≠ Pt) (n2 : Pm ≠ Pt) (n3 : Pm ≠ Pp) (n4 : Pd ≠ Pt) (n5 : Pd ≠ Pp) (n6 : Pd ≠ Pm) (F : Fun K "law" "law" s_law f fd) (C_law_cell_at : Cal P w K mg base 1 "_law_cell_at" ["_law_script", "_law_k"] (sp_cell K)) (C_law_machine : Cal P w K mg base 2 "_law_machine" ["_law_cells", "_law_width", "_law_rooms", "_law_salt"] (sp_machine K))
    (C_law_is_machine : Cal P w K mg base 2 "_law_is_machine" ["_law_found", "_law_width"] sp_ismach) (C_law_along : Cal P w K mg base 3 "_law_along" ["_law_machine_here", "_law_less", "_law_track"] sp_along24) (C_reduced : Cal P w K mg base 5 "reduced" ["machine"] (sp_reducedC Pt qs_reduced)) (C_dropped : Cal P w K mg base 7 "dropped" ["machine", "track"] (sp_dropped Pt qs_reduced Pd qs_dropped))
    (C_widened : Cal P w K mg base 6 "widened" ["machine", "track"] (sp_widened Pt qs_reduced)) (C_met : Cal P w K mg base 8 "met" ["one", "other"] (sp_metG Pt qs_reduced Pp qs_paired Pm qs_met fun x y => x && y)) : FnOk P w K mg base CX0 9 f fd ["_law_script"] (sp_lawT K [(Pt, qs_reduced), (Pp, qs_paired), (Pm, qs_met), (Pd, qs_dropped)]) := by
  refine F.ok sc_law (fun vs H Q E h => ?_) (fun cdv A outer s H vs Q E hr h => ?_)
  · obtain ⟨a, ns, rfl, _⟩ := h
    rfl
  obtain ⟨a, ns, rfl, hS, h63, hO, q⟩ := h
  have tr : TabOk H Pt qs_reduced := hO.tab lk_hit
  have tp : TabOk H Pp qs_paired := hO.tab (by rw [lk_skip n1]; exact lk_hit)
  have tm : TabOk H Pm qs_met := hO.tab (by rw [lk_skip n2, lk_skip n3]; exact lk_hit)
  have td : TabOk H Pd qs_dropped := hO.tab (by rw [lk_skip n4, lk_skip n5, lk_skip n6]; exact lk_hit)
  have hu := hu_at hr 8 (by decide)
  refine ⟨_, (pss_cons (ps_set (i := 1) sc_law.nd rfl (Or.inl rfl) (pe_op op_mod (pe_callC C_law_cell_at hr (by omega) (by rfl) (pa_c (pv 0) (pa_c pe_int pa_nil))) (pe_op op_pow pe_int pe_int))) (pss_cons (ps_set (i := 2) sc_law.nd rfl (Or.inl rfl) (pe_op op_add pe_int (pe_op op_mod (pv 1) pe_int))) (pss_cons (ps_set (i := 3) sc_law.nd rfl (Or.inl rfl) (pe_callC C_law_machine hr (by omega) (by rfl) (pa_c (pe_slice (sl_listNK K) (pv 0) (po_some pe_int) (po_some pe_int)) (pa_c (pv 2) (pa_c (pe_op op_add pe_int (pe_op op_mod (pe_op op_fdiv (pv 1) pe_int) pe_int)) (pa_c pe_int pa_nil)))))) (pss_cons (ps_for PassesOwn.never rfl (pi_range1 (by rfl) T.b_range (pa_c (pv 2) pa_nil)) (pg_name (i := 4) sc_law.nd (by rfl) (Or.inl (by rfl))) (pss_cons (ps_set (i := 5) sc_law.nd rfl (Or.inl rfl) (pe_callC C_dropped hr (by omega) (by rfl) (pa_c (pv 3) (pa_c (pv 4) pa_nil)))) (pss_cons (ps_if (PW.pt (pw_or (pt_not (pt_val (pe_callC C_law_is_machine hr (by omega) (by rfl) (pa_c (pv 5) (pa_c (pe_op op_sub (pv 2) pe_int) pa_nil))))) (pw_or1 (pt_not (pt_val (pe_callC C_law_along hr (by omega) (by rfl) (pa_c (pv 3) (pa_c (pv 5) (pa_c (pv 4) pa_nil))))))))) (pss_one (ps_ret pe_bl)) pss_nil) (pss_one (ps_if (PW.pt (pw_or (pt_cmpR (op_neM hu) (pe_callC C_reduced hr (by omega) (by rfl) (pa_c (pv 5) pa_nil)) (pv 5) (nomark _)) (pw_or1 (pt_cmpR (op_neM hu) (pe_callC C_met hr (by omega) (by rfl) (pa_c (pe_callC C_widened hr (by omega) (by rfl) (pa_c (pv 5) (pa_c (pv 4) pa_nil))) (pa_c (pv 3) pa_nil))) (pe_callC C_reduced hr (by omega) (by rfl) (pa_c (pv 3) pa_nil)) (nomark _))))) (pss_one (ps_ret pe_bl)) pss_nil))))) (pss_one (ps_ret pe_bl)))))), ?_⟩
  refine rd_st [some (.ref a), none, none, none, none, none] rfl ?_
  trivial
  refine ⟨a, ns, 0, rfl, hS, by decide, fun c => ⟨⟨by decide, by decide, by decide⟩, _, rfl, by decide, by decide, ?_⟩⟩
  have hh := Int.emod_nonneg c (show (10 : Int) ^ Int.toNat 30 ≠ 0 by decide)
  generalize c % (10 : Int) ^ Int.toNat 30 = hd at hh
  have w0 := Int.emod_nonneg hd (show (3 : Int) ≠ 0 by decide)
  have w1 := Int.emod_lt_of_pos hd (show (0 : Int) < 3 by decide)
  have r0 := Int.emod_nonneg (hd / 3) (show (5 : Int) ≠ 0 by decide)
  have r1 := Int.emod_lt_of_pos (hd / 3) (show (0 : Int) < 5 by decide)
  refine ⟨_, hS, fun p1 H1 m1' => ⟨⟨by decide, by decide⟩, by decide, ?_⟩⟩
  rw [cutL_map] at m1'
  refine ⟨p1, _, 1 + hd % 3, _, 3, rfl, m1'.lst, by omega, by omega, by omega, by omega, fun pa m H2 g2 ra ok ew en => ?_⟩
  have hn5 : m.n ≤ 5 := by show m.ends.length ≤ 5; omega
  have g02 : Same H H2 := m1'.g.trans g2
  have hmw : m.w = (1 + hd % 3).toNat := by omega
  dsimp only
  refine ⟨by omega, by omega, ?_⟩
  refine fb_range (fun i σ H' => Same H H' ∧ RepM H' pa m ∧ ∃ v4 v5, σ = [some (.ref a), some (.int hd), some (.int (1 + hd % 3)), some (.ref pa), v4, v5]) ⟨g02, ra, none, none, rfl⟩ ?_ ?_
  · rintro t σ H3 hi ⟨g3, r3, v4, v5, rfl⟩
    have ht : t < m.w := by omega
    trivial
    refine ⟨pa, m, t, by simp, tr.same g3, td.same g3, r3, ok, hn5, ht, fun pf m' H4 g4 r4 ok4 ew4 cn4 lang => ?_⟩
    have g04 := g3.trans g4
    have ew4' : m'.w = m.w - 1 := ew4
    refine ⟨pf, m', _, rfl, r4, ok4, by omega, fun H5 g5 => ⟨_, rfl, iteF ⟨pa, pf, m, m', t, by simp, r3.same (g4.trans g5), r4.same g5, ok, ok4, hn5, ht, ew4', lang, fun H6 g6 => ⟨_, rfl, iteF ?_⟩⟩⟩⟩
    have g46 := g5.trans g6
    have g06 := g04.trans g46
    refine ⟨pf, m', rfl, tr.same g06, r4.same g46, ok4, fun p7 m7 H7 g7 r7 Rd7 => ?_⟩
    have q7 : m7 = m' := red_canon Rd7 ok4 cn4
    rw [q7] at r7
    have g47 := g46.trans g7
    have g07 := g04.trans g47
    refine ⟨false, ne_mach r7 (r4.same g47), iteF ?_⟩
    refine ⟨pf, m', t, by simp, tr.same g07, r4.same g47, ok4, by have := ok.wid; omega, by omega, fun p8 mw H8 g8 r8 Rd8 => ?_⟩
    have g08 := g07.trans g8
    have g38 := g4.trans (g47.trans g8)
    have eW : m'.w + 1 = m.w := by omega
    have hww : mw.w = m.w := by rw [Rd8.w]; exact eW
    have hle : ∀ l, l < 2 ^ m.w → less t l < 2 ^ m'.w := fun l hl => by rw [ew4']; exact (less_put m.w (by have := ok.wid; omega) t ht l hl).1
    have langw : ∀ row, (∀ l ∈ row, l < 2 ^ m.w) → mw.fin (mw.run 0 row) = (dropT m t).fin ((dropT m t).run [0] (row.map (less t))) := fun row hr => by
      have z := Rd8.par row (fun l hl => by show l < 2 ^ (m'.w + 1); rw [eW]; exact hr l hl)
      rw [← z, sprd_run ok4 (fun l hl => hle l (by rw [← eW]; exact hl)) row 0 ok4.pos (by rw [eW]; exact hr), sprd_fin, lang (row.map (less t)) fun l hl => ?_]
      obtain ⟨x, hx, rfl⟩ := List.mem_map.mp hl
      have y := hle x (hr x hx)
      rw [ew4'] at y
      exact y
    refine ⟨p8, pa, mw, m, AlongG mw m, rfl, tr.same g08, tp.same g08, tm.same g08, r8, r3.same g38, Rd8.ok, ok, hww, few_along ok Rd8.ok Rd8.canon hww hn5 ht langw, fun p9 m9 H9 g9 r9 ok9 ew9 cn9 k9 => ?_⟩
    have g39 := g38.trans g9
    have g09 := g08.trans g9
    refine ⟨pa, m, rfl, tr.same g09, r3.same g39, ok, fun p10 m10 H10 g10 r10 Rd10 => ?_⟩
    have g0 : DropG m [0] := ⟨by simp [Rising], fun r hr => by rw [List.mem_singleton.mp hr]; exact ok.pos⟩
    have q9 : m9 = m10 := canon_one (by rw [ew9, Rd10.w]; exact hww) ok9 Rd10.ok cn9 Rd10.canon fun row hr => by
      have hr' : ∀ l ∈ row, l < 2 ^ m.w := fun l hl => by have := hr l hl; rwa [ew9, hww] at this
      rw [k9 row (fun l hl => by show l < 2 ^ mw.w; rw [hww]; exact hr' l hl), langw row hr', ← Rd10.par row hr']
      cases z : m.fin (m.run 0 row) with
      | false => exact Bool.and_false _
      | true =>
        refine (Bool.and_true _).trans ?_
        exact List.any_eq_true.mpr ⟨_, run_in ok ht row g0 (by simp) hr', z⟩
    rw [q9] at r9
    refine ⟨false, ne_mach (r9.same g10) r10, iteF ⟨g09.trans g10, r3.same (g39.trans g10)⟩⟩
  · rintro σ H3 ⟨g3, r3, v4, v5, rfl⟩
    simp only [tC, tRet]
    exact q H3
end
abbrev sp_law := sp_lawT
section
variable {P : Program} {w : World} {K : PySem.W.Frag} {mg : Str → Option Value} {base : Heap} {f : Addr} {fd : FuncData}
theorem all (T : Txt mg) (d_reached : Dfn K mg "reached" s_reached ["machine"]) (d_renamed : Dfn K mg "renamed" s_renamed ["rooms", "numbers"]) (d_picked : Dfn K mg "picked" s_picked ["machine", "rooms", "numbers"]) (d_numbered : Dfn K mg "numbered" s_numbered ["marks"]) (d_finer_sorts : Dfn K mg "finer_sorts" s_finer_sorts ["machine", "sorts"]) (d_sorts_by : Dfn K mg "sorts_by" s_sorts_by ["ends", "part_further"]) {c_reduced t_reduced : Addr} (d_reduced : DfnC K mg "reduced" s_reduced ["machine"] c_reduced t_reduced) (d_is_whole : Dfn K mg "is_whole" s_is_whole ["thing"]) (d_is_below : Dfn K mg "is_below" s_is_below ["thing", "bound"]) (d_explored : Dfn K mg "explored" s_explored ["tracks", "first", "comings", "is_end"]) {c_paired t_paired : Addr} (d_paired : DfnC K mg "paired" s_paired ["one", "other", "is_end"] c_paired t_paired) {c_met t_met : Addr} (d_met : DfnC K mg "met" s_met ["one", "other"] c_met t_met) (d_letter_of : Dfn K mg "letter_of" s_letter_of ["letter", "tracks"]) (d_spread : Dfn K mg "spread" s_spread ["machine", "tracks", "width"]) (d_widened : Dfn K mg "widened" s_widened ["machine", "track"]) (d_both_letters : Dfn K mg "both_letters" s_both_letters ["letter", "track"]) (d_coming_rooms : Dfn K mg "coming_rooms" s_coming_rooms ["machine", "rooms", "letters"]) {c_dropped t_dropped : Addr} (d_dropped : DfnC K mg "dropped" s_dropped ["machine", "track"] c_dropped t_dropped) (d_law_cell_at : Dfn K mg "_law_cell_at" s_law_cell_at ["_law_script", "_law_k"]) (d_law_mix : Dfn K mg "_law_mix" s_law_mix ["_law_cells", "_law_k", "_law_salt"]) (d_law_machine : Dfn K mg "_law_machine" s_law_machine ["_law_cells", "_law_width", "_law_rooms", "_law_salt"]) (d_law_whole : Dfn K mg "_law_whole" s_law_whole ["_law_found", "_law_most"]) (d_law_is_machine : Dfn K mg "_law_is_machine" s_law_is_machine ["_law_found", "_law_width"]) (d_law_bits : Dfn K mg "_law_bits" s_law_bits ["_law_letter", "_law_many"]) (d_law_more : Dfn K mg "_law_more" s_law_more ["_law_letter", "_law_width", "_law_track", "_law_bit"]) (d_law_ahead : Dfn K mg "_law_ahead" s_law_ahead ["_law_machine_here", "_law_heap", "_law_letters"]) (d_law_along : Dfn K mg "_law_along" s_law_along ["_law_machine_here", "_law_less", "_law_track"]) (n1 : t_paired ≠ t_reduced) (n2 : t_met ≠ t_reduced) (n3 : t_met ≠ t_paired) (n4 : t_dropped ≠ t_reduced) (n5 : t_dropped ≠ t_paired) (n6 : t_dropped ≠ t_met) (kb : BltK base mg) (F : Fun K "law" "law" s_law f fd) :
    FnOk P w K mg base CX0 9 f fd ["_law_script"] (sp_law K [(t_reduced, qs_reduced), (t_paired, qs_paired), (t_met, qs_met), (t_dropped, qs_dropped)]) := by
  have c1 := ok_reached (P := P) (w := w) (base := base) T d_reached
  have c2 := ok_renamed (P := P) (w := w) (base := base) T d_renamed
  have c3 := ok_picked T d_picked c2
  have c4 := ok_numbered (P := P) (w := w) (base := base) T d_numbered
  have c5 := ok_finer T d_finer_sorts c2 c4
  have c6 := ok_sortsby T d_sorts_by c4
  have c7 := ok_reduced T d_reduced kb c1 c3 c5 c6
  have e1 := ok_renamedP (P := P) (w := w) (base := base) T d_renamed
  have e2 := ok_explored T d_explored e1 c7
  have e3 := ok_pairedG T d_paired kb e2
  have e4 := ok_metG T d_met kb e3
  have b1 := ok_iswhole (P := P) (w := w) (base := base) T d_is_whole
  have b2 := ok_below T d_is_below b1
  have b3 := ok_belowB T d_is_below b1
  have r1 := ok_renamedS (P := P) (w := w) (base := base) T d_renamed
  have r2 := ok_letterof (P := P) (w := w) (base := base) T d_letter_of
  have r3 := ok_spread T d_spread r2 r1
  have r4 := ok_widened T d_widened b2 r3 c7
  have s1 := ok_coming12 (P := P) (w := w) (base := base) T d_coming_rooms
  have s2 := ok_both (P := P) (w := w) (base := base) T d_both_letters
  have s3 := ok_dropped T d_dropped kb b3 s2 s1 e2
  have l1 := ok_cell (P := P) (w := w) (base := base) T d_law_cell_at
  have l2 := ok_mix (P := P) (w := w) (base := base) T d_law_mix
  have l3 := ok_machine T d_law_machine l2
  have l4 := ok_whole (P := P) (w := w) (base := base) T d_law_whole
  have l5 := ok_ismach T d_law_is_machine l4
  have u1 := ok_bits (P := P) (w := w) (base := base) T d_law_bits
  have u2 := ok_more T d_law_more u1
  have u3 := ok_ahead24 (P := P) (w := w) (base := base) T d_law_ahead
  have u4 := ok_along24 T d_law_along u2 u3
  exact ok_law T n1 n2 n3 n4 n5 n6 F l1 l3 l5 u4 c7 s3 r4 e4
end
end K24
open PySem PySem.W PyProof.Rows
namespace PySem.W.Fast
theorem tw5330775264038094153 : True := trivial
theorem tw1320712789883235867 : True := trivial
theorem tw17282645308893663076 : True := trivial
theorem tw14446735708640822873 : True := trivial
theorem tw1151937477006578146 : True := trivial
theorem tw732834444852720381 : True := trivial
theorem tw14153129119758781128 : True := trivial
theorem tw2951666520156937535 : True := trivial
theorem tw9878319955323499890 : True := trivial
theorem tw17792409946725881344 : True := trivial
theorem tw6806432418549936862 : True := trivial
theorem tw16013975406023039412 : True := trivial
theorem tw7748040256193538426 : True := trivial
theorem tw12941000670290337180 : True := trivial
theorem tw696394801856459620 : True := trivial
theorem tw10684958324404323387 : True := trivial
theorem tw9959669641653628689 : True := trivial
theorem tw6825685281027528924 : True := trivial
theorem tw4460069725984732869 : True := trivial
theorem tw7228475405254657686 : True := trivial
theorem tw17311932709361646529 : True := trivial
theorem tw2149973677934499737 : True := trivial
theorem tw5155369548753959289 : True := trivial
theorem tw9310153390582540596 : True := trivial
theorem tw11459015322951680420 : True := trivial
theorem tw4758245390639820371 : True := trivial
theorem tw8065877099564407595 : True := trivial
theorem tw16947134788613695185 : True := trivial
theorem tw4172462949270296075 : True := trivial
theorem tw5244451852159844847 : True := trivial
theorem tw1109112478340652921 : True := trivial
theorem tw1586991304141978537 : True := trivial
theorem tw4102550431273863290 : True := trivial
theorem tw17201235696820026541 : True := trivial
theorem tw13875701163332025439 : True := trivial
theorem tw3925363528642378394 : True := trivial
theorem tw9441494036986311775 : True := trivial
theorem tw7881274984865847357 : True := trivial
theorem tw8470224611006043284 : True := trivial
theorem tw984029905376350208 : True := trivial
theorem tw3397621059836931021 : True := trivial
theorem tw6804905651564464093 : True := trivial
theorem tw2126054218447428843 : True := trivial
theorem tw15333568689011927509 : True := trivial
theorem tw1975236269611795477 : True := trivial
theorem tw11872129586226929073 : True := trivial
theorem tw3379988297861471687 : True := trivial
theorem tw11984271383678545382 : True := trivial
theorem tw16435936732158544416 : True := trivial
theorem tw15436108270918882763 : True := trivial
theorem tw10947847986849623417 : True := trivial
theorem tw17009838148585872340 : True := trivial
theorem tw11553087006743942426 : True := trivial
end PySem.W.Fast
set_option maxRecDepth 100000 in
set_option maxHeartbeats 0 in
theorem PySem.Challenge.cw_setsays_k24_dropped_holds : PySem.Challenge.rw_setsays_k24_dropped.Holds := by
  w_on; o_law; k_head; (case hw => w_witness2)
  k_fill
  refine L2.walk_ofT (l := PySem.Challenge.rw_setsays_k24_dropped) (n := 63) (k := 9) (x := "_law_script") (CX := L2.CX0) (sp := K24.sp_law) rfl (by decide) rfl ⟨rfl, by decide, by decide⟩ (fun w h Y => PySem.W.km_in_of Y) ?F (fun _ _ _ a ns hl hO hS => ⟨a, ns, rfl, hS, hl, hO, fun _ => rfl⟩) fun _ _ _ _ z => z
  case F =>
    intro w mg fa h KX G hmg
    have T : K24.Txt mg := by
      refine' ⟨PySem.W.mg_none_of KX G ?t0, PySem.W.mg_none_of KX G ?t1, PySem.W.mg_none_of KX G ?t2, PySem.W.mg_none_of KX G ?t3, PySem.W.mg_none_of KX G ?t4, PySem.W.mg_none_of KX G ?t5, PySem.W.mg_none_of KX G ?t6, PySem.W.mg_none_of KX G ?t7, PySem.W.mg_none_of KX G ?t8, PySem.W.mg_none_of KX G ?t9, PySem.W.mg_none_of KX G ?t10, PySem.W.mg_none_of KX G ?t11, PySem.W.mg_none_of KX G ?t12, PySem.W.mg_none_of KX G ?t13, PySem.W.mg_none_of KX G ?t14, PySem.W.mg_none_of KX G ?t15, PySem.W.mg_none_of KX G ?t16, L2.glv_mk KX G ?t17 ?r17, L2.glv_mk KX G ?t18 ?r18⟩
      (case t0 => k_is)
      (case t1 => k_is)
      (case t2 => k_is)
      (case t3 => k_is)
      (case t4 => k_is)
      (case t5 => k_is)
      (case t6 => k_is)
      (case t7 => k_is)
      (case t8 => k_is)
      (case t9 => k_is)
      (case t10 => k_is)
      (case t11 => k_is)
      (case t12 => k_is)
      (case t13 => k_is)
      (case t14 => k_is)
      (case t15 => k_is)
      (case t16 => k_is)
      (case t17 => k_is); (case r17 => exact ⟨_, rfl⟩)
      (case t18 => k_is); (case r18 => exact ⟨_, rfl⟩)
    obtain ⟨c_reduced, t_reduced, c_paired, t_paired, c_met, t_met, c_dropped, t_dropped, d_reduced, d_paired, d_met, d_dropped, n_reduced, n_paired, n_met, n_dropped, ne_paired_reduced, ne_met_reduced, ne_met_paired, ne_dropped_reduced, ne_dropped_paired, ne_dropped_met⟩ : ∃ c_reduced t_reduced c_paired t_paired c_met t_met c_dropped t_dropped, L2.DfnC (L2.KOf KX) mg "reduced" K24.s_reduced ["machine"] c_reduced t_reduced ∧ L2.DfnC (L2.KOf KX) mg "paired" K24.s_paired ["one", "other", "is_end"] c_paired t_paired ∧ L2.DfnC (L2.KOf KX) mg "met" K24.s_met ["one", "other"] c_met t_met ∧ L2.DfnC (L2.KOf KX) mg "dropped" K24.s_dropped ["machine", "track"] c_dropped t_dropped ∧ (L2.KOf KX).lookup t_reduced = none ∧ (L2.KOf KX).lookup t_paired = none ∧ (L2.KOf KX).lookup t_met = none ∧ (L2.KOf KX).lookup t_dropped = none ∧ t_paired ≠ t_reduced ∧ t_met ≠ t_reduced ∧ t_met ≠ t_paired ∧ t_dropped ≠ t_reduced ∧ t_dropped ≠ t_paired ∧ t_dropped ≠ t_met := by
      dsimp only [L2.KOf]
      refine' ⟨_, _, _, _, _, _, _, _, L2.dfnc_mk KX G ?a0 ?l0 ?c0 ?k0 (L2.kcode_mk ?m0 ?x0 ?y0 ?z0 ?u0 ?v0 ?w0) (fun _ _ _ _ _ _ us hl => match us, hl with | [_], _ => rfl), L2.dfnc_mk KX G ?a1 ?l1 ?c1 ?k1 (L2.kcode_mk ?m1 ?x1 ?y1 ?z1 ?u1 ?v1 ?w1) (fun _ _ _ _ _ _ us hl => match us, hl with | [_, _, _], _ => rfl), L2.dfnc_mk KX G ?a2 ?l2 ?c2 ?k2 (L2.kcode_mk ?m2 ?x2 ?y2 ?z2 ?u2 ?v2 ?w2) (fun _ _ _ _ _ _ us hl => match us, hl with | [_, _], _ => rfl), L2.dfnc_mk KX G ?a3 ?l3 ?c3 ?k3 (L2.kcode_mk ?m3 ?x3 ?y3 ?z3 ?u3 ?v3 ?w3) (fun _ _ _ _ _ _ us hl => match us, hl with | [_, _], _ => rfl), ?n0, ?n1, ?n2, ?n3, ?e0, ?e1, ?e2, ?e3, ?e4, ?e5⟩
      (case a0 => k_is); (case l0 => k_is); (case c0 => k_is); (case k0 => k_is); (case m0 => k_is); (case x0 => rfl); (case y0 => rfl); (case z0 => rfl); (case u0 => rfl); (case v0 => rfl); (case w0 => decide)
      (case a1 => k_is); (case l1 => k_is); (case c1 => k_is); (case k1 => k_is); (case m1 => k_is); (case x1 => rfl); (case y1 => rfl); (case z1 => rfl); (case u1 => rfl); (case v1 => rfl); (case w1 => decide)
      (case a2 => k_is); (case l2 => k_is); (case c2 => k_is); (case k2 => k_is); (case m2 => k_is); (case x2 => rfl); (case y2 => rfl); (case z2 => rfl); (case u2 => rfl); (case v2 => rfl); (case w2 => decide)
      (case a3 => k_is); (case l3 => k_is); (case c3 => k_is); (case k3 => k_is); (case m3 => k_is); (case x3 => rfl); (case y3 => rfl); (case z3 => rfl); (case u3 => rfl); (case v3 => rfl); (case w3 => decide)
      (case n0 => first | k_is | kernel_rfl)
      (case n1 => first | k_is | kernel_rfl)
      (case n2 => first | k_is | kernel_rfl)
      (case n3 => first | k_is | kernel_rfl)
      (case e0 => decide)
      (case e1 => decide)
      (case e2 => decide)
      (case e3 => decide)
      (case e4 => decide)
      (case e5 => decide)
    have d_reached : L2.Dfn (L2.KOf KX) mg "reached" K24.s_reached ["machine"] := by
      dsimp only [L2.KOf]
      refine' L2.dfn_mk KX G ?a ?l ?c ?k (fun _ _ _ _ _ _ us hl => match us, hl with | [_], _ => rfl)
      (case a => k_is); (case l => k_is); (case c => k_is); (case k => k_is)
    have d_renamed : L2.Dfn (L2.KOf KX) mg "renamed" K24.s_renamed ["rooms", "numbers"] := by
      dsimp only [L2.KOf]
      refine' L2.dfn_mk KX G ?a ?l ?c ?k (fun _ _ _ _ _ _ us hl => match us, hl with | [_, _], _ => rfl)
      (case a => k_is); (case l => k_is); (case c => k_is); (case k => k_is)
    have d_picked : L2.Dfn (L2.KOf KX) mg "picked" K24.s_picked ["machine", "rooms", "numbers"] := by
      dsimp only [L2.KOf]
      refine' L2.dfn_mk KX G ?a ?l ?c ?k (fun _ _ _ _ _ _ us hl => match us, hl with | [_, _, _], _ => rfl)
      (case a => k_is); (case l => k_is); (case c => k_is); (case k => k_is)
    have d_numbered : L2.Dfn (L2.KOf KX) mg "numbered" K24.s_numbered ["marks"] := by
      dsimp only [L2.KOf]
      refine' L2.dfn_mk KX G ?a ?l ?c ?k (fun _ _ _ _ _ _ us hl => match us, hl with | [_], _ => rfl)
      (case a => k_is); (case l => k_is); (case c => k_is); (case k => k_is)
    have d_finer_sorts : L2.Dfn (L2.KOf KX) mg "finer_sorts" K24.s_finer_sorts ["machine", "sorts"] := by
      dsimp only [L2.KOf]
      refine' L2.dfn_mk KX G ?a ?l ?c ?k (fun _ _ _ _ _ _ us hl => match us, hl with | [_, _], _ => rfl)
      (case a => k_is); (case l => k_is); (case c => k_is); (case k => k_is)
    have d_sorts_by : L2.Dfn (L2.KOf KX) mg "sorts_by" K24.s_sorts_by ["ends", "part_further"] := by
      dsimp only [L2.KOf]
      refine' L2.dfn_mk KX G ?a ?l ?c ?k (fun _ _ _ _ _ _ us hl => match us, hl with | [_, _], _ => rfl)
      (case a => k_is); (case l => k_is); (case c => k_is); (case k => k_is)
    have d_is_whole : L2.Dfn (L2.KOf KX) mg "is_whole" K24.s_is_whole ["thing"] := by
      dsimp only [L2.KOf]
      refine' L2.dfn_mk KX G ?a ?l ?c ?k (fun _ _ _ _ _ _ us hl => match us, hl with | [_], _ => rfl)
      (case a => k_is); (case l => k_is); (case c => k_is); (case k => k_is)
    have d_is_below : L2.Dfn (L2.KOf KX) mg "is_below" K24.s_is_below ["thing", "bound"] := by
      dsimp only [L2.KOf]
      refine' L2.dfn_mk KX G ?a ?l ?c ?k (fun _ _ _ _ _ _ us hl => match us, hl with | [_, _], _ => rfl)
      (case a => k_is); (case l => k_is); (case c => k_is); (case k => k_is)
    have d_explored : L2.Dfn (L2.KOf KX) mg "explored" K24.s_explored ["tracks", "first", "comings", "is_end"] := by
      dsimp only [L2.KOf]
      refine' L2.dfn_mk KX G ?a ?l ?c ?k (fun _ _ _ _ _ _ us hl => match us, hl with | [_, _, _, _], _ => rfl)
      (case a => k_is); (case l => k_is); (case c => k_is); (case k => k_is)
    have d_letter_of : L2.Dfn (L2.KOf KX) mg "letter_of" K24.s_letter_of ["letter", "tracks"] := by
      dsimp only [L2.KOf]
      refine' L2.dfn_mk KX G ?a ?l ?c ?k (fun _ _ _ _ _ _ us hl => match us, hl with | [_, _], _ => rfl)
      (case a => k_is); (case l => k_is); (case c => k_is); (case k => k_is)
    have d_spread : L2.Dfn (L2.KOf KX) mg "spread" K24.s_spread ["machine", "tracks", "width"] := by
      dsimp only [L2.KOf]
      refine' L2.dfn_mk KX G ?a ?l ?c ?k (fun _ _ _ _ _ _ us hl => match us, hl with | [_, _, _], _ => rfl)
      (case a => k_is); (case l => k_is); (case c => k_is); (case k => k_is)
    have d_widened : L2.Dfn (L2.KOf KX) mg "widened" K24.s_widened ["machine", "track"] := by
      dsimp only [L2.KOf]
      refine' L2.dfn_mk KX G ?a ?l ?c ?k (fun _ _ _ _ _ _ us hl => match us, hl with | [_, _], _ => rfl)
      (case a => k_is); (case l => k_is); (case c => k_is); (case k => k_is)
    have d_both_letters : L2.Dfn (L2.KOf KX) mg "both_letters" K24.s_both_letters ["letter", "track"] := by
      dsimp only [L2.KOf]
      refine' L2.dfn_mk KX G ?a ?l ?c ?k (fun _ _ _ _ _ _ us hl => match us, hl with | [_, _], _ => rfl)
      (case a => k_is); (case l => k_is); (case c => k_is); (case k => k_is)
    have d_coming_rooms : L2.Dfn (L2.KOf KX) mg "coming_rooms" K24.s_coming_rooms ["machine", "rooms", "letters"] := by
      dsimp only [L2.KOf]
      refine' L2.dfn_mk KX G ?a ?l ?c ?k (fun _ _ _ _ _ _ us hl => match us, hl with | [_, _, _], _ => rfl)
      (case a => k_is); (case l => k_is); (case c => k_is); (case k => k_is)
    have d_law_cell_at : L2.Dfn (L2.KOf KX) mg "_law_cell_at" K24.s_law_cell_at ["_law_script", "_law_k"] := by
      dsimp only [L2.KOf]
      refine' L2.dfn_mk KX G ?a ?l ?c ?k (fun _ _ _ _ _ _ us hl => match us, hl with | [_, _], _ => rfl)
      (case a => k_is); (case l => k_is); (case c => k_is); (case k => k_is)
    have d_law_mix : L2.Dfn (L2.KOf KX) mg "_law_mix" K24.s_law_mix ["_law_cells", "_law_k", "_law_salt"] := by
      dsimp only [L2.KOf]
      refine' L2.dfn_mk KX G ?a ?l ?c ?k (fun _ _ _ _ _ _ us hl => match us, hl with | [_, _, _], _ => rfl)
      (case a => k_is); (case l => k_is); (case c => k_is); (case k => k_is)
    have d_law_machine : L2.Dfn (L2.KOf KX) mg "_law_machine" K24.s_law_machine ["_law_cells", "_law_width", "_law_rooms", "_law_salt"] := by
      dsimp only [L2.KOf]
      refine' L2.dfn_mk KX G ?a ?l ?c ?k (fun _ _ _ _ _ _ us hl => match us, hl with | [_, _, _, _], _ => rfl)
      (case a => k_is); (case l => k_is); (case c => k_is); (case k => k_is)
    have d_law_whole : L2.Dfn (L2.KOf KX) mg "_law_whole" K24.s_law_whole ["_law_found", "_law_most"] := by
      dsimp only [L2.KOf]
      refine' L2.dfn_mk KX G ?a ?l ?c ?k (fun _ _ _ _ _ _ us hl => match us, hl with | [_, _], _ => rfl)
      (case a => k_is); (case l => k_is); (case c => k_is); (case k => k_is)
    have d_law_is_machine : L2.Dfn (L2.KOf KX) mg "_law_is_machine" K24.s_law_is_machine ["_law_found", "_law_width"] := by
      dsimp only [L2.KOf]
      refine' L2.dfn_mk KX G ?a ?l ?c ?k (fun _ _ _ _ _ _ us hl => match us, hl with | [_, _], _ => rfl)
      (case a => k_is); (case l => k_is); (case c => k_is); (case k => k_is)
    have d_law_bits : L2.Dfn (L2.KOf KX) mg "_law_bits" K24.s_law_bits ["_law_letter", "_law_many"] := by
      dsimp only [L2.KOf]
      refine' L2.dfn_mk KX G ?a ?l ?c ?k (fun _ _ _ _ _ _ us hl => match us, hl with | [_, _], _ => rfl)
      (case a => k_is); (case l => k_is); (case c => k_is); (case k => k_is)
    have d_law_more : L2.Dfn (L2.KOf KX) mg "_law_more" K24.s_law_more ["_law_letter", "_law_width", "_law_track", "_law_bit"] := by
      dsimp only [L2.KOf]
      refine' L2.dfn_mk KX G ?a ?l ?c ?k (fun _ _ _ _ _ _ us hl => match us, hl with | [_, _, _, _], _ => rfl)
      (case a => k_is); (case l => k_is); (case c => k_is); (case k => k_is)
    have d_law_ahead : L2.Dfn (L2.KOf KX) mg "_law_ahead" K24.s_law_ahead ["_law_machine_here", "_law_heap", "_law_letters"] := by
      dsimp only [L2.KOf]
      refine' L2.dfn_mk KX G ?a ?l ?c ?k (fun _ _ _ _ _ _ us hl => match us, hl with | [_, _, _], _ => rfl)
      (case a => k_is); (case l => k_is); (case c => k_is); (case k => k_is)
    have d_law_along : L2.Dfn (L2.KOf KX) mg "_law_along" K24.s_law_along ["_law_machine_here", "_law_less", "_law_track"] := by
      dsimp only [L2.KOf]
      refine' L2.dfn_mk KX G ?a ?l ?c ?k (fun _ _ _ _ _ _ us hl => match us, hl with | [_, _, _], _ => rfl)
      (case a => k_is); (case l => k_is); (case c => k_is); (case k => k_is)
    have L : ∃ fd : FuncData, (∀ (s : Shared) (v : Value), BindsTo s fd ⟨[v], []⟩ [("_law_script", v)]) ∧ L2.Fun (L2.KOf KX) "law" "law" K24.s_law fa fd := by
      dsimp only [L2.KOf]
      refine' L2.law_mk KX G hmg ?a ?l ?c ?k ?b
      (case a => k_is); (case l => k_is); (case c => k_is); (case k => k_is)
      exact fun s u => .of_eq rfl
    obtain ⟨fd, hb, F⟩ := L
    exact ⟨fd, [(t_reduced, K24.qs_reduced), (t_paired, K24.qs_paired), (t_met, K24.qs_met), (t_dropped, K24.qs_dropped)], hb, L2.ts_all (List.forall_mem_cons.mpr ⟨⟨d_reduced.tab (by decide +kernel), n_reduced⟩, (List.forall_mem_cons.mpr ⟨⟨d_paired.tab (by decide +kernel), n_paired⟩, (List.forall_mem_cons.mpr ⟨⟨d_met.tab (by decide +kernel), n_met⟩, (List.forall_mem_cons.mpr ⟨⟨d_dropped.tab (by decide +kernel), n_dropped⟩, fun _ z => nomatch z⟩)⟩)⟩)⟩), fun base _ _ kb => K24.all T d_reached d_renamed d_picked d_numbered d_finer_sorts d_sorts_by d_reduced d_is_whole d_is_below d_explored d_paired d_met d_letter_of d_spread d_widened d_both_letters d_coming_rooms d_dropped d_law_cell_at d_law_mix d_law_machine d_law_whole d_law_is_machine d_law_bits d_law_more d_law_ahead d_law_along ne_paired_reduced ne_met_reduced ne_met_paired ne_dropped_reduced ne_dropped_paired ne_dropped_met kb F⟩
#print axioms PySem.Challenge.cw_setsays_k24_dropped_holds
