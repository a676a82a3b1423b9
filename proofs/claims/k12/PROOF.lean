import PyProof.Rows.All
import Wide.All
import OpenK.AllK
import Wide.FinOn
import Lean
import PyProof.EqAt
import PyProof.EqKinds
import PyProof.TupleCall
import PyProof.CodeObjX
import PyProof.NeKinds
import PyProof.ZipIter
import PyProof.EnumStmt
import PyProof.EnumMake
import KE.KDictOf
import PyProof.AttrMissHeap
import PyProof.Rows.SeqMore2
import PyProof.Rows.MinMaxN
import PyProof.DefMake
import PyProof.DefStmt
import PyProof.RaisesMany
import PyProof.ExcClass2
import PyProof.Rows.Own
import PyProof.Rows.CatchOwn
import PyProof.RulesDel
import KE.KIsAll
import PyProof.IsiH_list
import PyProof.ExcArgsOwn
import OpenK.KOwn
import PyProof.ExcBaseAll.ValueError
import PyProof.FString5
import PyProof.ListMulRoad
import PyProof.FactsAll.tuple_2
import PyProof.Rows.Range3
import PySem.SetOps
import PyProof.ListNew
import PyProof.AutoListH
import PySem.Challenge.RW_setsays_k12_holds_refused
set_option Elab.async false
set_option maxRecDepth 100000
namespace L2
open PySem PySem.Spec PyProof.Rows
abbrev Key := Sum Int Str
def blI (b : Bool) : Int := if b = true then 1 else 0
def isBl (k : Int) : Value → Bool
  | .bool b => k == blI b
  | _ => false
def keyIs : Key → Value → Bool
  | .inl k, v => Value.isInt k v || isBl k v
  | .inr x, v => Value.isStrOf x v
def keyH (w : World) : Key → Int
  | .inl k => hashInt k
  | .inr x => hashStr w x
theorem zjq {k : Int} : ∀ {v : Value}, isBl k v = true → ∃ b, k = blI b ∧ v = Value.bool b := by
  intro v h
  cases v
  case bool b => exact ⟨b, eq_of_beq h, rfl⟩
  all_goals exact absurd h Bool.false_ne_true
theorem zav : ∀ {k : Key} {v : Value}, keyIs k v = true → (∃ i t, k = Sum.inl i ∧ v = Value.int i t) ∨ (∃ x t, k = Sum.inr x ∧ v = Value.str x t) ∨ ∃ b, k = Sum.inl (blI b) ∧ v = Value.bool b
  | .inl i, v, h => by
    rcases (Bool.or_eq_true _ _).mp (show (Value.isInt i v || isBl i v) = true from h) with h | h
    · obtain ⟨t, e⟩ := Value.isInt_shape (k := i) (v := v) h
      exact .inl ⟨i, t, rfl, e⟩
    · obtain ⟨b, e, e'⟩ := zjq h
      exact .inr (.inr ⟨b, by rw [e], e'⟩)
  | .inr x, v, h => by
    obtain ⟨t, e⟩ := Value.isStrOf_shape (x := x) (v := v) h
    exact .inr (.inl ⟨x, t, rfl, e⟩)
theorem zly (i : Int) (t : Tok) : keyIs (.inl i) (.int i t) = true := by simp [keyIs, Value.isInt]
theorem zoc (b : Bool) : keyIs (.inl (blI b)) (.bool b) = true := by simp [keyIs, isBl]
theorem zqt {prog : Program} {w : World} {A : Around} {E : Value → Shared → Prop} {s : Shared} {b : Bool} {Q : Int → Shared → Prop} (h : Q (hashInt (blI b)) { s with toks := s.toks + 1 }) : wpAny (model prog w) A (pyHash (.bool b)) Q E s := by
  have hT : s.TypeIs (.bool b) "bool" := rfl
  have hr := rawHash_range (blI b)
  unfold pyHash
  refine wpAny_bind ?_
  rw [cRoomFor, if_neg (show ¬ [Value.bool b].any Value.onHeap = true from Bool.false_ne_true)]
  refine wpAny_pure (wpAny_bind (wpAny_specialOf hT PySem.F.slot_bool_hash.lookup ?_))
  show wpAny _ _ (if (some (Value.builtin "int.__hash__") == some Value.none) = true then _ else _) Q E s
  rw [if_neg (show ¬ (some (Value.builtin "int.__hash__") == some Value.none) = true from Bool.false_ne_true)]
  refine wpAny_bind (wpAny_specialOf hT PySem.F.slot_bool_hash.lookup ?_)
  show wpAny _ _ (callSpecialIfBoundUnlessNone? (.bool b) "__hash__" _ >>= _) Q E s
  refine wpAny_bind (wpAny_callSpecialIfBoundUnlessNone?_slot hT PySem.F.slot_bool_hash (wpAny_call_entry PySem.F.slot_bool_hash hT PySem.F.entry_int_hash ?_ (PySem.F.args_int_hash_1 _)))
  refine (show wpAny _ _ (do ret (← mkInt (rawHash (blI b)))) _ _ s from wpAny_ret_mkInt ?_)
  show wpAny _ _ (if (decide (-(2 : Int) ^ 63 ≤ rawHash (blI b)) && decide (rawHash (blI b) < 2 ^ 63)) = true then _ else _) Q E _
  rw [if_pos (by rw [decide_eq_true hr.1, decide_eq_true hr.2]; rfl)]
  exact wpAny_pure h
theorem zlx (x : Str) (t : Tok) : keyIs (.inr x) (.str x t) = true := by simp [keyIs, Value.isStrOf]
theorem zix (a b : Int) : decide ((Sum.inl a : Key) = Sum.inl b) = (a == b) := by
  by_cases e : a = b
  · subst e; simp
  · have h : ¬ (Sum.inl a : Key) = Sum.inl b := fun q => e (Sum.inl.inj q)
    rw [decide_eq_false h]
    exact (beq_eq_false_iff_ne.mpr e).symm
theorem zr8 (a b : Str) : decide ((Sum.inr a : Key) = Sum.inr b) = decide (a = b) := by
  by_cases e : a = b
  · subst e; simp
  · have h : ¬ (Sum.inr a : Key) = Sum.inr b := fun q => e (Sum.inr.inj q)
    rw [decide_eq_false h, decide_eq_false e]
theorem zo4 (a : Int) (b : Str) : decide ((Sum.inl a : Key) = Sum.inr b) = false := decide_eq_false (fun q => nomatch q)
theorem zo3 (a : Str) (b : Int) : decide ((Sum.inr a : Key) = Sum.inl b) = false := decide_eq_false (fun q => nomatch q)
def mixKind (prog : Program) (w : World) : PySem.KeyKind prog w Key where
  is := keyIs
  hash := keyH w
  inj := fun v a b ha hb => by
    rcases zav ha with ⟨i, t, rfl, rfl⟩ | ⟨x, t, rfl, rfl⟩ | ⟨c, rfl, rfl⟩
    · rcases zav hb with ⟨j, u, rfl, e⟩ | ⟨y, u, rfl, e⟩ | ⟨d, rfl, e⟩
      · injection e with e1 _; rw [e1]
      · exact nomatch e
      · exact nomatch e
    · rcases zav hb with ⟨j, u, rfl, e⟩ | ⟨y, u, rfl, e⟩ | ⟨d, rfl, e⟩
      · exact nomatch e
      · injection e with e1 _; rw [e1]
      · exact nomatch e
    · rcases zav hb with ⟨j, u, rfl, e⟩ | ⟨y, u, rfl, e⟩ | ⟨d, rfl, e⟩
      · exact nomatch e
      · exact nomatch e
      · injection e with e1; rw [e1]
  byValue := fun k v h => by
    rcases zav h with ⟨i, t, rfl, rfl⟩ | ⟨x, t, rfl, rfl⟩ | ⟨c, rfl, rfl⟩ <;> rfl
  pyHash := fun hv h => by
    rcases zav hv with ⟨i, t, rfl, rfl⟩ | ⟨x, t, rfl, rfl⟩ | ⟨c, rfl, rfl⟩
    · exact wpAny_pyHash_int h
    · exact wpAny_pyHash_str h
    · exact zqt h
  eqBool := fun hu hv h => by
    rcases zav hu with ⟨i, t, rfl, rfl⟩ | ⟨x, t, rfl, rfl⟩ | ⟨c, rfl, rfl⟩
    · rcases zav hv with ⟨j, u, rfl, rfl⟩ | ⟨y, u, rfl, rfl⟩ | ⟨d, rfl, rfl⟩
      · rw [zix] at h; exact wpAny_eqBool_int h
      · rw [zo4] at h; exact SeqAt.EqAt.int_str i t y u _ _ _ _ h
      · rw [zix] at h; exact SeqAt.EqAt.int_bool i t d _ _ _ _ h
    · rcases zav hv with ⟨j, u, rfl, rfl⟩ | ⟨y, u, rfl, rfl⟩ | ⟨d, rfl, rfl⟩
      · rw [zo3] at h; exact SeqAt.EqAt.str_int x t j u _ _ _ _ h
      · rw [zr8] at h; exact wpAny_eqBool_str h
      · rw [zo3] at h; exact SeqAt.EqAt.str_bool x t d _ _ _ _ h
    · rcases zav hv with ⟨j, u, rfl, rfl⟩ | ⟨y, u, rfl, rfl⟩ | ⟨d, rfl, rfl⟩
      · rw [zix] at h; exact SeqAt.EqAt.bool_int c j u _ _ _ _ h
      · rw [zo4] at h; exact SeqAt.EqAt.bool_str c y u _ _ _ _ h
      · rw [zix, show (blI c == blI d) = (c == d) by cases c <;> cases d <;> rfl] at h
        exact SeqAt.EqAt.bool_bool c d _ _ _ _ h
  «strs» := fun k x t v h => by
    rcases zav h with ⟨i, u, rfl, e⟩ | ⟨y, u, rfl, e⟩ | ⟨d, rfl, e⟩
    · exact nomatch e
    · injection e with e1 _
      subst e1
      cases v <;> rfl
    · exact nomatch e
theorem zhp (prog : Program) (w : World) (i : Int) (t : Tok) : (mixKind prog w).is (.inl i) (.int i t) = true := zly i t
theorem zho (prog : Program) (w : World) (x : Str) (t : Tok) : (mixKind prog w).is (.inr x) (.str x t) = true := zlx x t
inductive V where
  | non | bl (b : Bool) | int (i : Int) | str (x : Str) | byt (b : Array UInt8) | flt (b : UInt64) | ref (a : Addr) | ty (n : String)
  deriving DecidableEq
def RelV : V → Value → Prop
  | .non, u => u = Value.none
  | .bl b, u => u = Value.bool b
  | .int i, u => ∃ t, u = Value.int i t
  | .str x, u => ∃ t, u = Value.str x t
  | .byt b, u => ∃ t, u = Value.bytes b t
  | .flt b, u => ∃ t, u = Value.float b t
  | .ref a, u => u = Value.ref a
  | .ty n, u => u = Value.type n
abbrev Vals : List V → List Value → Prop := Paired RelV
theorem Vals.length {xs : List V} {us : List Value} (r : Vals xs us) : xs.length = us.length := Paired.length r
theorem Vals.get : ∀ {xs : List V} {us : List Value} {i : Nat} {x : V}, Vals xs us → xs[i]? = some x → ∃ u, us[i]? = some u ∧ RelV x u
  | _, _, _, _, .nil, e => by simp at e
  | _, _, 0, _, .cons r _, e => by simp at e; subst e; exact ⟨_, rfl, r⟩
  | _, _, i + 1, x, .cons _ t, e => by
    obtain ⟨u, h1, h2⟩ := Vals.get (i := i) (x := x) t (by simpa using e)
    exact ⟨u, by simpa using h1, h2⟩
theorem Vals.append : ∀ {xs ys : List V} {us ws : List Value}, Vals xs us → Vals ys ws → Vals (xs ++ ys) (us ++ ws)
  | _, _, _, _, .nil, s => s
  | _, _, _, _, .cons r t, s => .cons r (Vals.append t s)
theorem Vals.take : ∀ {xs : List V} {us : List Value} (n : Nat), Vals xs us → Vals (xs.take n) (us.take n)
  | _, _, 0, _ => .nil
  | _, _, _ + 1, .nil => .nil
  | _, _, n + 1, .cons r t => .cons r (Vals.take n t)
theorem Vals.drop : ∀ {xs : List V} {us : List Value} (n : Nat), Vals xs us → Vals (xs.drop n) (us.drop n)
  | _, _, 0, r => r
  | _, _, _ + 1, .nil => .nil
  | _, _, n + 1, .cons _ t => Vals.drop n t
def RelO : Option V → Option Value → Prop
  | some v, some u => RelV v u
  | none, none => True
  | _, _ => False
def KV {κ : Type} : List (κ × V) → List (κ × Value) → Prop := Paired fun (p : κ × V) (q : κ × Value) => p.1 = q.1 ∧ RelV p.2 q.2
def kV : Key → V
  | .inl i => .int i
  | .inr x => .str x
inductive HO where
    | lst (xs : List V)
    | tup (xs : List V)
    | dK (kvs : List (Key × V)) | dT (kvs : List (List Key × V))
    | set (S : Int → Bool) (n : Nat)
    | ins (C dx : Addr) (fs : List (Str × V))
    | own (x : Addr)
    | xd (fs : List (Str × V))
    | met (f x : Addr)
    | rng (lo hi : Int)
    | frz (o : Obj) (u : HO)
    | tbl (qs : List (Pos × Str)) (ps : Array Value)
    | ext (φ : Heap → Prop)
abbrev Hp := Addr → Option HO
def upd (H : Hp) (a : Addr) (o : HO) : Hp := fun b => if b = a then some o else H b
theorem zau {H : Hp} {a : Addr} {o : HO} : upd H a o a = some o := by unfold upd; rw [if_pos rfl]
theorem zan {H : Hp} {a b : Addr} {o : HO} (h : b ≠ a) : upd H a o b = H b := by unfold upd; rw [if_neg h]
theorem zpi {H : Hp} {a : Addr} {o u : HO} : upd (upd H a o) a u = upd H a u := by
  funext b; unfold upd; split <;> rfl
theorem zdz {H : Hp} {a b : Addr} {o u : HO} (h : H a = some o) (h' : H b = some u) (d : o ≠ u) : a ≠ b := by
  intro e; subst e; rw [h] at h'; exact d (Option.some.inj h')
theorem zat {H : Hp} {a b : Addr} {o : HO} (h : H a = some o) (h' : H b = none) : a ≠ b := by
  intro e; subst e; rw [h] at h'; cases h'
section
variable (P : Program) (w : World)
def CodeObj (o : Obj) (q : Str) : Prop := ∃ vs t, o.data = .fields vs ∧ vs[1]? = some (.str q t)
def ObjOk (H : Hp) (h : Heap) (a : Addr) : HO → Prop
  | .lst xs => xs.length ≤ sizeLine ∧ ∃ (its : List Value) (n : Nat), Vals xs its ∧ h.get? a = some { cls := .type "list", data := .seq its.toArray n }
  | .tup xs => xs.length ≤ sizeLine ∧ ∃ its : List Value, Vals xs its ∧ IsTup h a its.toArray
  | .dK kvs => kvs.length ≤ sizeLine ∧ (a == sysModules) = false ∧ ∃ vs, KV kvs vs ∧ h.DictOf (mixKind P w) a vs
  | .dT kvs => kvs.length ≤ sizeLine ∧ (a == sysModules) = false ∧ ∃ xs : List (List Key × Addr × Value),
      Paired (fun (p : List Key × V) (q : List Key × Addr × Value) => p.1 = q.1 ∧ H q.2.1 = some (.tup (p.1.map kV)) ∧ RelV p.2 q.2.2) kvs xs ∧
      ∃ o es ep, h.get? a = some o ∧ o.ExactDict ∧ o.data = .dict es ep ∧ es.toList = xs.map (entryOfKey (tupleKind (mixKind P w))) ∧ (xs.map (·.1)).Nodup
  | .set S n => h.SetOf (intKind P w) a S n
  | .ins C dx fs => H dx = some (.own a) ∧ fs.length ≤ 1000 ∧ dx ≠ a ∧ h.get? a = some (PySem.W.instObj C dx) ∧
      ∃ mA, h.Ns1 dx mA ∧ (∀ f, RelO (fs.lookup f) (mA f)) ∧ PySem.Within mA (fs.map (·.1))
  | .own _ => ∃ o, h.get? a = some o
  | .xd fs => ∃ mA, h.Ns1 a mA ∧ ∀ f, RelO (fs.lookup f) (mA f)
  | .rng lo hi => ∃ t u v, h.get? a = some { cls := .type "range", data := .fields #[.int lo t, .int hi u, .int 1 v] }
  | .frz o u => h.get? a = some o ∧ ObjOk H h a u
  | .tbl qs ps => ∃ more : Array Value, h.get? a = some { cls := .none, data := .fields (ps ++ more) } ∧ TriplesOk (ps ++ more).toList ∧ ∀ p ∈ qs, ∀ v, codeAmong p.1 (ps ++ more).toList = some v → ∃ c o, v = .ref c ∧ H c = some (.frz o (.own c)) ∧ CodeObj o p.2
  | .met f x => h.get? a = some (PySem.W.methodObj (.ref f) (.ref x))
  | .ext φ => φ h ∧ (∃ o, h.get? a = some o) ∧ ∀ h1 h2 : Heap, φ h1 → (∀ o, h1.get? a = some o → h2.get? a = some o) → φ h2
def HOk (H : Hp) (h : Heap) : Prop := ∀ a o, H a = some o → ObjOk P w H h a o
end
section
variable {P : Program} {w : World} {H H' : Hp} {h h' : Heap} {a : Addr} {o : HO}
theorem ObjOk.lt (x : ObjOk P w H h a o) : a < h.objs.size := by
  cases o with
  | lst xs => obtain ⟨_, _, _, _, e⟩ := x; exact Heap.lt_size e
  | tup xs => obtain ⟨_, _, _, p⟩ := x; exact p.lt
  | dK kvs => obtain ⟨_, _, _, _, o, _, _, e, _⟩ := x; exact Heap.lt_size e
  | dT kvs => obtain ⟨_, _, _, _, o, _, _, e, _⟩ := x; exact Heap.lt_size e
  | set S n => obtain ⟨o, _, _, _, e, _⟩ := x; exact Heap.lt_size e
  | ins C dx fs => obtain ⟨_, _, _, e, _⟩ := x; exact Heap.lt_size e
  | own y => obtain ⟨_, e⟩ := x; exact Heap.lt_size e
  | xd fs => obtain ⟨_, ⟨_, _, _, e, _⟩, _⟩ := x; exact Heap.lt_size e
  | rng lo hi => obtain ⟨_, _, _, e⟩ := x; exact Heap.lt_size e
  | frz ob u => obtain ⟨e, _⟩ := x; exact Heap.lt_size e
  | tbl qs ps => obtain ⟨_, e, _⟩ := x; exact Heap.lt_size e
  | met f y => exact Heap.lt_size (show h.get? a = some _ from x)
  | ext φ => obtain ⟨_, ⟨_, e⟩, _⟩ := x; exact Heap.lt_size e
theorem Paired.mapP {α β : Type} {F G : α → β → Prop} : ∀ {l₁ : List α} {l₂ : List β}, Paired F l₁ l₂ → (∀ a b, F a b → G a b) → Paired G l₁ l₂
  | _, _, .nil, _ => .nil
  | _, _, .cons r t, f => .cons (f _ _ r) (Paired.mapP t f)
theorem ObjOk.stay (x : ObjOk P w H h a o) (k : ∀ b u, (b = a ∨ H b = some (.own a)) → h.get? b = some u → h'.get? b = some u)
    (ho : ∀ b, H b = some (.own a) → H' b = some (.own a)) (hf : ∀ b o u q, CodeObj o q → H b = some (.frz o u) → H' b = some (.frz o u)) (ht : ∀ b xs, H b = some (.tup xs) → H' b = some (.tup xs)) : ObjOk P w H' h' a o := by
  induction o with
  | lst xs => obtain ⟨z, its, n, r, e⟩ := x; exact ⟨z, its, n, r, k _ _ (.inl rfl) e⟩
  | tup xs => obtain ⟨z, its, r, ob, e, c⟩ := x; exact ⟨z, its, r, ob, k _ _ (.inl rfl) e, c⟩
  | dK kvs => obtain ⟨z, y, vs, r, ob, es, ep, e, c⟩ := x; exact ⟨z, y, vs, r, ob, es, ep, k _ _ (.inl rfl) e, c⟩
  | dT kvs =>
    obtain ⟨z, y, xs, r, ob, es, ep, e, c⟩ := x
    exact ⟨z, y, xs, Paired.mapP r fun p q z => ⟨z.1, ht _ _ z.2.1, z.2.2⟩, ob, es, ep, k _ _ (.inl rfl) e, c⟩
  | set S n => obtain ⟨ob, es, ep, t, e, c⟩ := x; exact ⟨ob, es, ep, t, k _ _ (.inl rfl) e, c⟩
  | ins C dx fs =>
    obtain ⟨d, z, ne, e, mA, ⟨od, es, ep, e2, c⟩, r⟩ := x
    exact ⟨ho _ d, z, ne, k _ _ (.inl rfl) e, mA, ⟨od, es, ep, k _ _ (.inr d) e2, c⟩, r⟩
  | own y => obtain ⟨ob, e⟩ := x; exact ⟨ob, k _ _ (.inl rfl) e⟩
  | xd fs => obtain ⟨mA, ⟨od, es, ep, e, c⟩, r⟩ := x; exact ⟨mA, ⟨od, es, ep, k _ _ (.inl rfl) e, c⟩, r⟩
  | rng lo hi => obtain ⟨t, u, v, e⟩ := x; exact ⟨t, u, v, k _ _ (.inl rfl) e⟩
  | frz ob u ih => obtain ⟨e, q⟩ := x; exact ⟨k _ _ (.inl rfl) e, ih q⟩
  | tbl qs ps => obtain ⟨more, e, t, c⟩ := x; exact ⟨more, k _ _ (.inl rfl) e, t, fun p hp v q => let ⟨c1, o, r, z, co⟩ := c p hp v q; ⟨c1, o, r, hf _ _ _ _ co z, co⟩⟩
  | met f y =>
    have e : h.get? a = some (PySem.W.methodObj (.ref f) (.ref y)) := x
    show h'.get? a = some (PySem.W.methodObj (.ref f) (.ref y))
    exact k a _ (.inl rfl) e
  | ext φ => obtain ⟨p, ⟨o, e⟩, st⟩ := x; exact ⟨st _ _ p fun o q => k _ _ (.inl rfl) q, ⟨o, k _ _ (.inl rfl) e⟩, st⟩
theorem HOk.lt (x : HOk P w H h) (e : H a = some o) : a < h.objs.size := (x a o e).lt
theorem HOk.fresh (x : HOk P w H h) (e : h.objs.size ≤ a) : H a = none := by
  cases q : H a with
  | none => rfl
  | some u => exact absurd (Nat.lt_of_lt_of_le (x.lt q) e) (Nat.lt_irrefl _)
theorem HOk.kept (x : HOk P w H h) (k : ∀ b u, h.get? b = some u → h'.get? b = some u) : HOk P w H h' := fun a o e =>
  (x a o e).stay (fun b u _ q => k b u q) (fun _ q => q) (fun _ _ _ _ _ q => q) fun _ _ q => q
theorem HOk.laid (x : HOk P w H h) (k : ∀ b u, h.get? b = some u → h'.get? b = some u) (hp : h.objs.size ≤ a) (new : ObjOk P w (upd H a o) h' a o) : HOk P w (upd H a o) h' := fun b u e => by
  have hn := x.fresh hp
  by_cases hb : b = a
  · subst hb; rw [zau] at e; cases e; exact new
  · rw [zan hb] at e
    exact (x b u e).stay (fun c v _ q => k c v q) (fun c q => by rw [zan (zat q hn)]; exact q) (fun c _ _ _ _ q => by rw [zan (zat q hn)]; exact q) fun c xs q => by rw [zan (zat q hn)]; exact q
end
def Rd (H : Hp) (a : Addr) (u : HO) : Prop := H a = some u ∨ ∃ o, H a = some (.frz o u)
theorem Rd.ok {P : Program} {w : World} {H : Hp} {h : Heap} {a : Addr} {u : HO} (r : Rd H a u) (x : HOk P w H h) : ObjOk P w H h a u := by
  rcases r with r | ⟨o, r⟩
  · exact x a u r
  · obtain ⟨_, q⟩ := x a _ r
    exact q
def Mut : Option HO → Prop
  | some (.lst _) => True
  | some (.dK _) => True
  | some (.dT _) => True
  | some (.set _ _) => True
  | some (.ins _ _ _) => True
  | some (.ext _) => True
  | _ => False
section
variable {P : Program} {w : World} {H : Hp} {h h' : Heap} {x e : Addr} {o' : HO}
theorem HOk.write (ok : HOk P w H h) (mu : Mut (H x)) (he : e = x ∨ H e = some (.own x)) (k : ∀ b u, b ≠ e → h.get? b = some u → h'.get? b = some u) (heo : ∃ u, h'.get? e = some u)
    (new : ObjOk P w (upd H x o') h' x o') : HOk P w (upd H x o') h' := fun b u q => by
  have nown : ∀ c y, H c = some (.own y) → c ≠ x := fun c y r z => by subst z; rw [r] at mu; exact mu
  have ntup : ∀ c xs, H c = some (.tup xs) → c ≠ x := fun c xs r z => by subst z; rw [r] at mu; exact mu
  have nfrz : ∀ c o y, H c = some (.frz o y) → c ≠ x := fun c o y r z => by subst z; rw [r] at mu; exact mu
  by_cases hb : b = x
  · subst hb; rw [zau] at q; cases q; exact new
  · rw [zan hb] at q
    by_cases hbe : b = e
    · have q' : H b = some (.own x) := by
        rcases he with z | z
        · exact absurd (hbe.trans z) hb
        · rw [hbe]; exact z
      rw [q] at q'; cases q'
      obtain ⟨v, hv⟩ := heo
      exact ⟨v, by rw [hbe]; exact hv⟩
    · refine (ok b u q).stay (fun c v hc r => k c v ?_ r) (fun c r => by rw [zan (nown c b r)]; exact r) (fun c o y _ _ r => by rw [zan (nfrz c o y r)]; exact r) fun c xs r => by rw [zan (ntup c xs r)]; exact r
      rcases hc with rfl | hc
      · exact hbe
      · rintro rfl
        rcases he with z | z
        · exact nown c b hc z
        · rw [hc] at z; cases z; exact hb rfl
end
structure Un (fs ex : List Addr) (H H' : Hp) (h h' : Heap) : Prop where
  keep : ∀ b o, h.get? b = some o → H b = none → b ∉ fs → b ∉ ex → h'.get? b = some o
  slot : ∀ b o, h.get? b = some o → H b = none → b ∈ fs → b ∉ ex → ∃ sl, h'.get? b = some { o with slots := sl }
  free : ∀ b o, h.get? b = some o → H b = none → b ∉ ex → H' b = none
  there : ∀ b o, h.get? b = some o → b ∉ ex → ∃ o', h'.get? b = some o'
  tups : ∀ b xs, H b = some (.tup xs) → H' b = some (.tup xs)
  frzs : ∀ b o u, H b = some (.frz o u) → H' b = some (.frz o u)
  tbls : ∀ b qs ps, H b = some (.tbl qs ps) → H' b = some (.tbl qs ps)
section
variable {fs fs' ex ex' : List Addr} {H H1 H2 : Hp} {h h1 h2 h' : Heap} {a x e : Addr} {o : HO}
theorem Un.any (u : Un fs ex H H1 h h1) {b : Addr} {ob : Obj} (q : h.get? b = some ob) (n : H b = none) (hx : b ∉ ex) : ∃ sl, h1.get? b = some { ob with slots := sl } := by
  by_cases hb : b ∈ fs
  · exact u.slot b ob q n hb hx
  · exact ⟨ob.slots, u.keep b ob q n hb hx⟩
theorem Un.kept (k : ∀ b u, h.get? b = some u → h'.get? b = some u) : Un fs ex H H h h' :=
  ⟨fun b ob q _ _ _ => k b ob q, fun b ob q _ _ _ => ⟨ob.slots, k b ob q⟩, fun _ _ _ n _ => n, fun b ob q _ => ⟨ob, k b ob q⟩, fun _ _ q => q, fun _ _ _ q => q, fun _ _ _ q => q⟩
theorem Un.refl : Un fs ex H H h h := Un.kept fun _ _ q => q
theorem Un.laid (k : ∀ b u, h.get? b = some u → h'.get? b = some u) (hp : h.objs.size ≤ a) (hn : H a = none) : Un fs ex H (upd H a o) h h' where
  keep := fun b u q _ _ _ => k b u q
  slot := fun b u q _ _ _ => ⟨u.slots, k b u q⟩
  free := fun b u q n _ => by rw [zan (Nat.ne_of_lt (Nat.lt_of_lt_of_le (Heap.lt_size q) hp))]; exact n
  there := fun b u q _ => ⟨u, k b u q⟩
  tups := fun b xs q => by rw [zan (zat q hn)]; exact q
  frzs := fun b u xs q => by rw [zan (zat q hn)]; exact q
  tbls := fun b qs ps q => by rw [zan (zat q hn)]; exact q
theorem Un.write (mu : Mut (H x)) (he : e = x ∨ H e = some (.own x)) (k : ∀ b u, b ≠ e → h.get? b = some u → h'.get? b = some u) (heo : ∃ u, h'.get? e = some u) : Un fs ex H (upd H x o) h h' := by
  have hx : ∀ b, H b = none → b ≠ x := fun b n z => by subst z; rw [n] at mu; exact mu
  have hb : ∀ b, H b = none → b ≠ e := fun b n z => by
    subst z
    rcases he with r | r
    · exact hx b n r
    · rw [n] at r; cases r
  have hm : ∀ b u, H b = some u → ¬ Mut (some u) → b ≠ x := fun b u q nm z => by subst z; rw [q] at mu; exact nm mu
  refine ⟨fun b u q n _ _ => k b u (hb b n) q, fun b u q n _ _ => ⟨u.slots, k b u (hb b n) q⟩, fun b u q n _ => by rw [zan (hx b n)]; exact n, fun b u q _ => ?_,
    fun b xs q => by rw [zan (hm b _ q fun z => z)]; exact q, fun b u xs q => by rw [zan (hm b _ q fun z => z)]; exact q, fun b qs ps q => by rw [zan (hm b _ q fun z => z)]; exact q⟩
  by_cases hbe : b = e
  · subst hbe; exact heo
  · exact ⟨u, k b u hbe q⟩
end
def trk (h : Heap) (H : Hp) : List Addr := (List.range h.objs.size).filter fun a => (H a).isSome
def hidT (h : Heap) (H : Hp) : Heap := PySem.W.hideAll h (trk h H)
theorem zl5 (h : Heap) (H : Hp) : (hidT h H).objs.size = h.objs.size := PySem.W.hideAll_size _ _
theorem zod {h : Heap} {H : Hp} {b : Addr} {o : Obj} (e : h.get? b = some o) (n : H b = none) : (hidT h H).get? b = some o :=
  PySem.W.hideAll_get _ e fun hm => by
    have q : (H b).isSome = true := (List.mem_filter.mp hm).2
    rw [n] at q; simp at q
theorem zqo {h : Heap} {H : Hp} {b : Addr} {o : Obj} (e : (hidT h H).get? b = some o) : h.get? b = some o ∧ H b = none := by
  have e' : h.get? b = some o := PySem.W.of_hideAll (trk h H) e
  refine ⟨e', ?_⟩
  cases q : H b with
  | none => rfl
  | some x =>
    have hm : b ∈ trk h H := List.mem_filter.mpr ⟨List.mem_range.mpr (Heap.lt_size e'), by simp [q]⟩
    have z : (hidT h H).get? b = none := PySem.W.hideAll_none (trk h H) hm
    rw [z] at e; cases e
def allNews (g h : Heap) (L : Addr) : List (Addr × Obj) := (List.range h.objs.size).filterMap fun a => if a = L ∨ (g.get? a).isSome = true then none else (h.get? a).map fun o => (a, o)
def rest (g h : Heap) (L d : Addr) : List (Addr × Obj) := (allNews g h L).filter fun p => decide (p.1 ≠ d)
structure Mod (K : PySem.W.Frag) (mg : Str → Option Value) (base : Heap) : Prop where
  kin : K.In base
  glob : base.Ns mainGlobals mg
  blt : ∃ mb, base.Ns builtinsNs mb ∧ ∀ x : Str, x ≠ "__name__" → mb x = bootBuiltins x
  nolimit : base.NoLimit
structure Cx where
  prog : Program
  w : World
  K : PySem.W.Frag
  mg : Str → Option Value
  base : Heap
  A : Around
  N : List Str
  s₀ : Shared
  H₀ : Hp
  env : Env
  outer : List Env
  stack : List Env
  ex : List Addr
  fn : Str → Bool
  calm : Bool
  pn : List (Addr × Obj)
  xe : Value → Shared → Prop
def frs (l : List Env) : List Addr := l.filterMap (·.frame)
abbrev Cx.fs (X : Cx) : List Addr := frs X.outer
def Vis (sc : Scope) (x : Str) : Prop := sc.names.lookup x = some .local ∨ sc.names.lookup x = some .cell ∨ sc.names.lookup x = some .free
def Loc (sc : Scope) (x : Str) : Prop := sc.names.lookup x = some .local ∨ sc.names.lookup x = some .cell
def Look (env : Env) (h : Heap) (m : Str → Option Value) (x : Str) (u : Value) : Prop :=
  (env.kindOf x = some .local ∧ m x = some u) ∨ ((env.kindOf x = some .cell ∨ env.kindOf x = some .free) ∧ ∃ c, env.cells.lookup x = some c ∧ h.IsCell c (some u))
structure Cx.Ok (X : Cx) : Prop where
  mod : Mod X.K X.mg X.base
  kind : X.env.scope.kind = .function
  glob : X.env.globals = mainGlobals
  blt : X.env.builtins = builtinsNs
  above : X.s₀.heap.objs.size ≤ X.env.locals
  inj : ∀ x y c, X.env.cells.lookup x = some c → X.env.cells.lookup y = some c → x = y
  has : ∀ x, (X.env.kindOf x = some .cell ∨ X.env.kindOf x = some .free) → ∃ c, X.env.cells.lookup x = some c
  cab : ∀ x c, X.fn x = true → X.env.cells.lookup x = some c → X.s₀.heap.objs.size ≤ c
  hd : X.calm = true → X.A.handled = none
  frames : X.A.frames = some X.stack
  stk : X.stack = X.outer ∨ (X.stack = X.env :: X.outer ∧ X.env.frame = some X.env.locals)
  exf : ∀ b ∈ X.ex, b ≠ X.env.locals ∧ ∀ x c, X.env.cells.lookup x = some c → c ≠ b
  bs : ∀ b o, X.base.get? b = some o → X.s₀.heap.get? b = some o ∧ X.H₀ b = none
  bsz : X.base.objs.size ≤ X.s₀.heap.objs.size
  noex : ∀ b o, X.base.get? b = some o → b ∉ X.ex
  exfs : ∀ b ∈ X.ex, b ∉ X.fs
  funs : X.s₀.heap.FunFrames X.base X.outer
  frf : ∀ b ∈ X.fs, X.H₀ b = none
structure Inv (X : Cx) (pins : List (Addr × Obj)) (σ : List (Option V)) (H : Hp) (s : Shared) : Prop where
  ok : X.Ok
  os : s.os = X.s₀.os
  bare : AllBare s.gens
  base : Un X.fs X.ex X.H₀ H X.s₀.heap s.heap
  loc : ∃ m, s.heap.Ns X.env.locals m ∧ ∀ (i : Nat) (x : Str) (v : V), X.N[i]? = some x → σ[i]? = some (some v) → Vis X.env.scope x → ∃ u, RelV v u ∧ Look X.env s.heap m x u
  cell : ∀ x c, X.env.cells.lookup x = some c → ∃ v, s.heap.IsCell c v
  free : H X.env.locals = none
  freeC : ∀ x c, X.env.cells.lookup x = some c → H c = none
  pin : ∀ p ∈ X.pn ++ pins, s.heap.get? p.1 = some p.2 ∧ H p.1 = none ∧ p.1 ≠ X.env.locals ∧ p.1 ∉ X.fs ∧ ∀ v, p.2.data ≠ .cell v
  hok : HOk X.prog X.w H s.heap
  len : σ.length = X.N.length
section
variable {X : Cx} {pins : List (Addr × Obj)} {σ : List (Option V)} {H H' : Hp} {s : Shared} {h' : Heap}
theorem Cx.Ok.nofr (ok : X.Ok) {b : Addr} {o : Obj} (e : X.base.get? b = some o) : b ∉ X.fs := fun hb => by
  have := (ok.funs.mem hb).1
  rw [e] at this; cases this
theorem Inv.bs (I : Inv X pins σ H s) : ∀ b o, X.base.get? b = some o → s.heap.get? b = some o ∧ H b = none := fun b o e =>
  ⟨I.base.keep b o (I.ok.bs b o e).1 (I.ok.bs b o e).2 (I.ok.nofr e) (I.ok.noex b o e), I.base.free b o (I.ok.bs b o e).1 (I.ok.bs b o e).2 (I.ok.noex b o e)⟩
theorem Inv.bk (I : Inv X pins σ H s) : ∀ b o, X.base.get? b = some o → s.heap.get? b = some o := fun b o e => (I.bs b o e).1
theorem Inv.mod (I : Inv X pins σ H s) : Mod X.K X.mg X.base := I.ok.mod
theorem Inv.kIn (I : Inv X pins σ H s) : X.K.In s.heap := I.ok.mod.kin.keeps I.bk
theorem Inv.lt (I : Inv X pins σ H s) : X.env.locals < s.heap.objs.size := let ⟨_, hn, _⟩ := I.loc; hn.lt
theorem Inv.sz (I : Inv X pins σ H s) : X.s₀.heap.objs.size ≤ s.heap.objs.size := Nat.le_trans I.ok.above (Nat.le_of_lt I.lt)
theorem Inv.nofs (I : Inv X pins σ H s) {a : Addr} (h : s.heap.objs.size ≤ a) : a ∉ X.fs := fun hb => by
  obtain ⟨_, o, ho, _⟩ := I.ok.funs.mem hb
  exact absurd (Nat.lt_of_lt_of_le (Heap.lt_size ho) (Nat.le_trans I.sz h)) (Nat.lt_irrefl _)
theorem Inv.cne (I : Inv X pins σ H s) : ∀ x c, X.env.cells.lookup x = some c → c ≠ X.env.locals := fun x c e z => by
  obtain ⟨v, o, ho, hd⟩ := I.cell x c e
  obtain ⟨m, ⟨o', es, ep, ho', hd', _⟩, _⟩ := I.loc
  rw [z, ho'] at ho; cases ho; rw [hd'] at hd; cases hd
theorem Inv.funs (I : Inv X pins σ H s) : s.heap.FunFrames X.base X.outer := by
  have all : ∀ (l : List Env), (∀ b ∈ frs l, b ∈ X.fs) → X.s₀.heap.FunFrames X.base l → s.heap.FunFrames X.base l := by
    intro l
    induction l with
    | nil => intro _ _; trivial
    | cons env r ih =>
      intro hs hl
      obtain ⟨hk, ⟨L, o, hf, hn, ho, hd⟩, hr⟩ := hl
      have hL : L ∈ X.fs := hs L (by unfold frs; rw [List.filterMap_cons, hf]; exact List.mem_cons_self)
      obtain ⟨sl, e⟩ := I.base.slot L o ho (I.ok.frf L hL) hL fun z => I.ok.exfs L z hL
      exact ⟨hk, ⟨L, _, hf, hn, e, hd⟩, ih (fun b hb => hs b (by unfold frs; rw [List.filterMap_cons, hf]; exact List.mem_cons_of_mem _ hb)) hr⟩
  exact all X.outer (fun _ hb => hb) I.ok.funs
theorem Inv.stack (I : Inv X pins σ H s) : s.heap.FunFrames X.base X.stack := by
  rcases I.ok.stk with e | ⟨e, hf⟩
  · rw [e]; exact I.funs
  · rw [e]
    obtain ⟨m, hn, _⟩ := I.loc
    refine .cons (by rw [I.ok.kind]; decide) hf hn ?_ I.funs
    exact Heap.get?_none_of_le (Nat.le_trans I.ok.bsz I.ok.above)
theorem Inv.stkSub (I : Inv X pins σ H s) : ∀ b ∈ frs X.stack, b ∈ X.env.locals :: X.fs := fun b hb => by
  rcases I.ok.stk with e | ⟨e, hf⟩
  · rw [e] at hb; exact List.mem_cons_of_mem _ hb
  · rw [e] at hb
    unfold frs at hb
    rw [List.filterMap_cons, hf] at hb
    exact hb
theorem Inv.stkFree (I : Inv X pins σ H s) : ∀ b ∈ frs X.stack, H b = none := fun b hb => by
  rcases List.mem_cons.mp (I.stkSub b hb) with e | hb
  · rw [e]; exact I.free
  · obtain ⟨_, o, ho, _⟩ := I.ok.funs.mem hb
    exact I.base.free b o ho (I.ok.frf b hb) fun z => I.ok.exfs b z hb
theorem Inv.step {g' : Array GenState} {t' : Nat} {d' : Drawn} {ch : List Addr} (I : Inv X pins σ H s)
    (hch : ∀ b ∈ ch, (b ∈ X.ex ∨ X.s₀.heap.objs.size ≤ b) ∧ b ≠ X.env.locals ∧ (∀ x c, X.env.cells.lookup x = some c → c ≠ b) ∧ ∀ p ∈ X.pn ++ pins, p.1 ≠ b)
    (keep : ∀ b o, b ≠ X.env.locals → b ∉ X.fs → b ∉ ch → s.heap.get? b = some o → H b = none → h'.get? b = some o)
    (slot : ∀ b o, b ≠ X.env.locals → b ∈ X.fs → b ∉ ch → s.heap.get? b = some o → H b = none → ∃ sl, h'.get? b = some { o with slots := sl }) (free : ∀ b o, b ∉ ch → s.heap.get? b = some o → H b = none → H' b = none)
    (there : ∀ b o, b ∉ ch → s.heap.get? b = some o → ∃ o', h'.get? b = some o')
    (tups : ∀ b xs, H b = some (.tup xs) → H' b = some (.tup xs)) (frzs : ∀ b o u, H b = some (.frz o u) → H' b = some (.frz o u)) (tbls : ∀ b qs ps, H b = some (.tbl qs ps) → H' b = some (.tbl qs ps))
    (ns : ∀ m, s.heap.Ns X.env.locals m → h'.Ns X.env.locals m) (hok : HOk X.prog X.w H' h') (hg : AllBare g') :
    Inv X pins σ H' { s with heap := h', gens := g', drawn := d', toks := t' } := by
  have neL : ∀ b o, X.s₀.heap.get? b = some o → b ≠ X.env.locals := fun b o e => Nat.ne_of_lt (Nat.lt_of_lt_of_le (Heap.lt_size e) I.ok.above)
  have neC : ∀ b o, X.s₀.heap.get? b = some o → b ∉ X.ex → b ∉ ch := fun b o e hx hb => by
    rcases (hch b hb).1 with z | z
    · exact hx z
    · exact absurd (Nat.lt_of_lt_of_le (Heap.lt_size e) z) (Nat.lt_irrefl _)
  have cellK : ∀ x c, X.env.cells.lookup x = some c → ∀ v, s.heap.IsCell c v → h'.IsCell c v := fun x c e v ⟨o, ho, hd⟩ => by
    have nch : c ∉ ch := fun z => (hch c z).2.2.1 x c e rfl
    by_cases hc : c ∈ X.fs
    · obtain ⟨sl, q⟩ := slot c o (I.cne x c e) hc nch ho (I.freeC x c e)
      exact ⟨_, q, hd⟩
    · exact ⟨o, keep c o (I.cne x c e) hc nch ho (I.freeC x c e), hd⟩
  refine ⟨I.ok, I.os, hg, ⟨fun b o e n hb hx => ?_, fun b o e n hb hx => ?_, fun b o e n hx => ?_, fun b o e hx => ?_, fun b xs e => tups b xs (I.base.tups b xs e), fun b o xs e => frzs b o xs (I.base.frzs b o xs e), fun b qs ps e => tbls b qs ps (I.base.tbls b qs ps e)⟩, ?_, fun x c e => ?_, ?_, fun x c e => ?_, fun p hp => ?_, hok, I.len⟩
  · exact keep b o (neL b o e) hb (neC b o e hx) (I.base.keep b o e n hb hx) (I.base.free b o e n hx)
  · obtain ⟨sl, e1⟩ := I.base.slot b o e n hb hx
    obtain ⟨sl', e2⟩ := slot b _ (neL b o e) hb (neC b o e hx) e1 (I.base.free b o e n hx)
    exact ⟨sl', e2⟩
  · obtain ⟨o', e1⟩ := I.base.there b o e hx
    exact free b o' (neC b o e hx) e1 (I.base.free b o e n hx)
  · obtain ⟨o', e1⟩ := I.base.there b o e hx
    exact there b o' (neC b o e hx) e1
  · obtain ⟨m, hn, hl⟩ := I.loc
    refine ⟨m, ns m hn, fun i x v e1 e2 e3 => ?_⟩
    obtain ⟨u, r, l⟩ := hl i x v e1 e2 e3
    refine ⟨u, r, ?_⟩
    rcases l with l | ⟨k, c, e, z⟩
    · exact .inl l
    · exact .inr ⟨k, c, e, cellK x c e _ z⟩
  · obtain ⟨v, z⟩ := I.cell x c e
    exact ⟨v, cellK x c e v z⟩
  · obtain ⟨m, ⟨o, _, _, ho, _⟩, _⟩ := I.loc
    exact free _ o (fun z => (hch _ z).2.1 rfl) ho I.free
  · obtain ⟨v, o, ho, hd⟩ := I.cell x c e
    exact free c o (fun z => (hch c z).2.2.1 x c e rfl) ho (I.freeC x c e)
  · obtain ⟨e, n, ne, nf, d⟩ := I.pin p hp
    have nch : p.1 ∉ ch := fun z => (hch p.1 z).2.2.2 p hp rfl
    exact ⟨keep p.1 p.2 ne nf nch e n, free p.1 p.2 nch e n, ne, nf, d⟩
theorem Inv.un {t' : Nat} (I : Inv X pins σ H s) (u : Un X.fs [] H H' s.heap h') (hok : HOk X.prog X.w H' h') : Inv X pins σ H' { s with heap := h', toks := t' } := by
  obtain ⟨m, ⟨o, es, ep, ho, r⟩, _⟩ := id I.loc
  obtain ⟨sl, hL⟩ := u.any ho I.free (by simp)
  exact I.step (g' := s.gens) (d' := s.drawn) (ch := []) (fun _ z => nomatch z) (fun b o _ hb _ e n => u.keep b o e n hb (by simp)) (fun b o _ hb _ e n => u.slot b o e n hb (by simp)) (fun b o _ e n => u.free b o e n (by simp)) (fun b o _ e => u.there b o e (by simp)) u.tups u.frzs u.tbls (fun m' hm => by
    obtain ⟨o', es', ep', ho', r'⟩ := hm
    rw [ho] at ho'; cases ho'
    exact ⟨_, es', ep', hL, r'⟩) hok I.bare
theorem Inv.call {g' : Array GenState} {t' : Nat} {d' : Drawn} {ch : List Addr} (I : Inv X pins σ H s) (u : Un (frs X.stack) ch H H' s.heap h') (hok : HOk X.prog X.w H' h') (hg : AllBare g')
    (hch : ∀ b ∈ ch, (b ∈ X.ex ∨ X.s₀.heap.objs.size ≤ b) ∧ b ≠ X.env.locals ∧ (∀ x c, X.env.cells.lookup x = some c → c ≠ b) ∧ ∀ p ∈ X.pn ++ pins, p.1 ≠ b) :
    Inv X pins σ H' { s with heap := h', gens := g', drawn := d', toks := t' } := by
  obtain ⟨m, ⟨o, es, ep, ho, r⟩, _⟩ := id I.loc
  obtain ⟨sl, hL⟩ := u.any ho I.free fun z => (hch _ z).2.1 rfl
  exact I.step (ch := ch) hch (fun b o hL hb hc e n => u.keep b o e n (fun z => (List.mem_cons.mp (I.stkSub b z)).elim hL hb) hc) (fun b o _ _ hc e n => u.any e n hc) (fun b o hc e n => u.free b o e n hc) (fun b o hc e => u.there b o e hc) u.tups u.frzs u.tbls (fun m' hm => by
    obtain ⟨o', es', ep', ho', r'⟩ := hm
    rw [ho] at ho'; cases ho'
    exact ⟨_, es', ep', hL, r'⟩) hok hg
theorem Inv.turned {t' : Nat} {it : Addr} (I : Inv X pins σ H s) (k : ∀ b o, b ≠ it → s.heap.get? b = some o → h'.get? b = some o) (hn : H it = none) (hL : it ≠ X.env.locals)
    (h1 : it ∈ X.ex ∨ X.s₀.heap.objs.size ≤ it) (h2 : ∀ x c, X.env.cells.lookup x = some c → c ≠ it) (h3 : ∀ p ∈ X.pn ++ pins, p.1 ≠ it) : Inv X pins σ H { s with heap := h', toks := t' } := by
  have nit : ∀ b u, H b = some u → b ≠ it := fun b u e z => by rw [z, hn] at e; cases e
  refine I.step (g' := s.gens) (d' := s.drawn) (ch := [it]) (fun b hb => ?_) (fun b o _ _ hc e _ => k b o (fun z => hc (by simp [z])) e) (fun b o _ _ hc e _ => ⟨o.slots, k b o (fun z => hc (by simp [z])) e⟩) (fun _ _ _ _ n => n)
    (fun b o hc e => ⟨o, k b o (fun z => hc (by simp [z])) e⟩) (fun _ _ e => e) (fun _ _ _ e => e) (fun _ _ _ e => e) (fun m hm => ?_) (fun b u e => ?_) I.bare
  · have e : b = it := by simpa using hb
    subst e
    exact ⟨h1, hL, h2, h3⟩
  · obtain ⟨o, es, ep, ho, r⟩ := hm
    exact ⟨o, es, ep, k _ o (Ne.symm hL) ho, r⟩
  · refine (I.hok b u e).stay (fun c v hc q => k c v ?_ q) (fun _ q => q) (fun _ _ _ _ _ q => q) fun _ _ q => q
    rcases hc with z | z
    · rw [z]; exact nit b u e
    · exact nit c _ z
theorem Inv.tok (I : Inv X pins σ H s) (t : Nat) : Inv X pins σ H { s with toks := t } := I.un (h' := s.heap) (t' := t) Un.refl I.hok
theorem Inv.kept {t' : Nat} (I : Inv X pins σ H s) (k : ∀ b u, s.heap.get? b = some u → h'.get? b = some u) : Inv X pins σ H { s with heap := h', toks := t' } := I.un (Un.kept k) (I.hok.kept k)
theorem Inv.laid {a : Addr} {o : HO} {t' : Nat} (I : Inv X pins σ H s) (k : ∀ b u, s.heap.get? b = some u → h'.get? b = some u) (hp : s.heap.objs.size ≤ a) (new : ObjOk X.prog X.w (upd H a o) h' a o) :
    Inv X pins σ (upd H a o) { s with heap := h', toks := t' } := I.un (Un.laid k hp (I.hok.fresh hp)) (I.hok.laid k hp new)
theorem Inv.write {x e : Addr} {o : HO} {t' : Nat} (I : Inv X pins σ H s) (mu : Mut (H x)) (he : e = x ∨ H e = some (.own x)) (k : ∀ b u, b ≠ e → s.heap.get? b = some u → h'.get? b = some u) (heo : ∃ u, h'.get? e = some u)
    (new : ObjOk X.prog X.w (upd H x o) h' x o) : Inv X pins σ (upd H x o) { s with heap := h', toks := t' } := I.un (Un.write mu he k heo) (I.hok.write mu he k heo new)
theorem Inv.pins_of {pins' : List (Addr × Obj)} (I : Inv X pins σ H s) (h : ∀ p ∈ pins', s.heap.get? p.1 = some p.2 ∧ H p.1 = none ∧ p.1 ≠ X.env.locals ∧ p.1 ∉ X.fs ∧ ∀ v, p.2.data ≠ .cell v) : Inv X pins' σ H s :=
  ⟨I.ok, I.os, I.bare, I.base, I.loc, I.cell, I.free, I.freeC, fun p hp => (List.mem_append.mp hp).elim (fun z => I.pin p (List.mem_append_left _ z)) (h p), I.hok, I.len⟩
theorem zfj {N : List Str} (hN : N.Nodup) {i j : Nat} {x : Str} (a : N[i]? = some x) (b : N[j]? = some x) : i = j := by
  obtain ⟨h1, e1⟩ := List.getElem?_eq_some_iff.mp a
  obtain ⟨h2, e2⟩ := List.getElem?_eq_some_iff.mp b
  exact (List.getElem_inj hN).mp (e1.trans e2.symm)
theorem zfz {M : Model} {A : Around} {E : Value → Shared → Prop} {i : Nat} {x : Str} {v : V} {u : Value} {Q : Unit → Shared → Prop} (I : Inv X pins σ H s) (hN : X.N.Nodup) (hi : X.N[i]? = some x) (hx : Loc X.env.scope x) (r : RelV v u)
    (h : ∀ s', Inv X pins (σ.set i (some v)) H s' → (∃ a, Heap.SameBut a s.heap s'.heap ∧ (a = X.env.locals ∨ X.env.cells.lookup x = some a)) → Q () s') (hf : X.fn x = true ∨ X.env.scope.names.lookup x = some .local := by first | exact .inl rfl | exact .inr rfl | assumption) : wpAny M A (storeName X.env x u) Q E s := by
  obtain ⟨m, hn, hl⟩ := id I.loc
  have hcls : (X.env.scope.kind == .class || (X.env.scope.kind == .module && X.env.locals != X.env.globals)) = false := by rw [I.ok.kind]; rfl
  have hiσ : i < σ.length := by rw [I.len]; exact (List.getElem?_eq_some_iff.mp hi).1
  have cne := I.cne
  have tracked : ∀ {a : Addr} {h' : Heap}, (∃ o, s.heap.get? a = some o ∧ H a = none) → Heap.SameBut a s.heap h' → HOk X.prog X.w H h' := fun {a h'} ha hs b ob e => by
    obtain ⟨_, _, hfree⟩ := ha
    refine (I.hok b ob e).stay (fun c w' hc q => (hs.2 c ?_).trans q) (fun _ q => q) (fun _ _ _ _ _ q => q) fun _ _ q => q
    rintro rfl
    rcases hc with rfl | hc
    · rw [hfree] at e; cases e
    · rw [hfree] at hc; cases hc
  rcases hx with hk | hk
  · refine wpAny_storeName_local hk hn (fun h' hn' hs => ?_) hcls
    obtain ⟨oL, _, _, hoL, _⟩ := id hn
    refine h _ ⟨I.ok, I.os, I.bare, ⟨fun b o e n hb hx => ?_, fun b o e n hb hx => ?_, I.base.free, fun b o e hx => ?_, I.base.tups, I.base.frzs, I.base.tbls⟩, ⟨_, hn', fun j y v' e1 e2 e3 => ?_⟩, fun y c e => ?_, I.free, I.freeC, fun p hp => ?_, tracked ⟨oL, hoL, I.free⟩ hs, by simpa using I.len⟩ ⟨_, hs, .inl rfl⟩
    · exact (hs.2 b (Nat.ne_of_lt (Nat.lt_of_lt_of_le (Heap.lt_size e) I.ok.above))).trans (I.base.keep b o e n hb hx)
    · obtain ⟨sl, e1⟩ := I.base.slot b o e n hb hx
      exact ⟨sl, (hs.2 b (Nat.ne_of_lt (Nat.lt_of_lt_of_le (Heap.lt_size e) I.ok.above))).trans e1⟩
    · obtain ⟨o', e1⟩ := I.base.there b o e hx
      exact ⟨o', (hs.2 b (Nat.ne_of_lt (Nat.lt_of_lt_of_le (Heap.lt_size e) I.ok.above))).trans e1⟩
    · by_cases hj : j = i
      · subst hj
        rw [hi] at e1; cases e1
        rw [List.getElem?_set_self hiσ] at e2
        cases e2
        exact ⟨u, r, .inl ⟨hk, by simp⟩⟩
      · rw [List.getElem?_set_ne (Ne.symm hj)] at e2
        obtain ⟨u', r', q⟩ := hl j y v' e1 e2 e3
        refine ⟨u', r', ?_⟩
        rcases q with ⟨k, e⟩ | ⟨k, c, e, z⟩
        · refine .inl ⟨k, ?_⟩
          have : y ≠ x := fun e => hj (zfj hN e1 (e ▸ hi))
          simp [this, e]
        · exact .inr ⟨k, c, e, z.sameBut hs (cne y c e)⟩
    · obtain ⟨w', z⟩ := I.cell y c e
      exact ⟨w', z.sameBut hs (cne y c e)⟩
    · obtain ⟨e, n, ne, nf, d⟩ := I.pin p hp
      exact ⟨(hs.2 p.1 ne).trans e, n, ne, nf, d⟩
  · have hfn : X.fn x = true := by
      rcases hf with z | z
      · exact z
      · rw [z] at hk; cases hk
    obtain ⟨c, hc⟩ := I.ok.has x (.inl hk)
    obtain ⟨w', z⟩ := I.cell x c hc
    refine wpAny_storeName_cell I.ok.kind hk hc z (fun h' hc' hs => ?_)
    obtain ⟨oc, hoc, hocd⟩ := id z
    refine h { s with heap := h' } ⟨I.ok, I.os, I.bare, ⟨fun b o e n hb hx => ?_, fun b o e n hb hx => ?_, I.base.free, fun b o e hx => ?_, I.base.tups, I.base.frzs, I.base.tbls⟩, ⟨m, hn.sameBut hs (Ne.symm (cne x c hc)), fun j y v' e1 e2 e3 => ?_⟩, fun y c' e => ?_, I.free, I.freeC, fun p hp => ?_, tracked ⟨oc, hoc, I.freeC x c hc⟩ hs, by simpa using I.len⟩ ⟨c, hs, .inr hc⟩
    · exact (hs.2 b (Nat.ne_of_lt (Nat.lt_of_lt_of_le (Heap.lt_size e) (I.ok.cab x c hfn hc)))).trans (I.base.keep b o e n hb hx)
    · obtain ⟨sl, e1⟩ := I.base.slot b o e n hb hx
      exact ⟨sl, (hs.2 b (Nat.ne_of_lt (Nat.lt_of_lt_of_le (Heap.lt_size e) (I.ok.cab x c hfn hc)))).trans e1⟩
    · obtain ⟨o', e1⟩ := I.base.there b o e hx
      exact ⟨o', (hs.2 b (Nat.ne_of_lt (Nat.lt_of_lt_of_le (Heap.lt_size e) (I.ok.cab x c hfn hc)))).trans e1⟩
    · by_cases hj : j = i
      · subst hj
        rw [hi] at e1; cases e1
        rw [List.getElem?_set_self hiσ] at e2
        cases e2
        exact ⟨u, r, .inr ⟨.inl hk, c, hc, hc'⟩⟩
      · rw [List.getElem?_set_ne (Ne.symm hj)] at e2
        obtain ⟨u', r', q⟩ := hl j y v' e1 e2 e3
        refine ⟨u', r', ?_⟩
        rcases q with q | ⟨k, c', e, z'⟩
        · exact .inl q
        · refine .inr ⟨k, c', e, z'.sameBut hs ?_⟩
          rintro rfl
          exact hj (zfj hN e1 (I.ok.inj _ _ _ e hc ▸ hi))
    · by_cases hcc : c' = c
      · subst hcc; exact ⟨_, hc'⟩
      · obtain ⟨w2, z2⟩ := I.cell y c' e
        exact ⟨w2, z2.sameBut hs hcc⟩
    · obtain ⟨e, n, ne, nf, d⟩ := I.pin p hp
      refine ⟨(hs.2 p.1 ?_).trans e, n, ne, nf, d⟩
      intro q
      rw [q, hoc] at e
      have q' : oc = p.2 := Option.some.inj e
      exact d w' (by rw [← q']; exact hocd)
theorem zcr {M : Model} {A : Around} {E : Value → Shared → Prop} {i : Nat} {x : Str} {v : V} {u : Value} {Q : Unit → Shared → Prop} (I : Inv X pins σ H s) (hN : X.N.Nodup) (hi : X.N[i]? = some x) (hx : Loc X.env.scope x) (r : RelV v u)
    (h : ∀ s', Inv X pins (σ.set i (some v)) H s' → Q () s') (hf : X.fn x = true ∨ X.env.scope.names.lookup x = some .local := by first | exact .inl rfl | exact .inr rfl | assumption) : wpAny M A (storeName X.env x u) Q E s :=
  zfz I hN hi hx r (fun s' I' _ => h s' I') hf
theorem Inv.call' {s' : Shared} {ch : List Addr} (I : Inv X pins σ H s) (ho : s'.os = s.os) (u : Un (frs X.stack) ch H H' s.heap s'.heap) (hok : HOk X.prog X.w H' s'.heap) (hg : AllBare s'.gens)
    (hch : ∀ b ∈ ch, (b ∈ X.ex ∨ X.s₀.heap.objs.size ≤ b) ∧ b ≠ X.env.locals ∧ (∀ x c, X.env.cells.lookup x = some c → c ≠ b) ∧ ∀ p ∈ X.pn ++ pins, p.1 ≠ b) : Inv X pins σ H' s' := by
  obtain ⟨h', g', d', t', o'⟩ := s'
  have e : o' = s.os := ho
  subst e
  exact I.call (g' := g') (t' := t') (d' := d') u hok hg hch
end
abbrev XK := Value → Option Addr → Hp → Prop
abbrev St := List (Option V)
abbrev VK := V → Hp → Prop
abbrev TE := St → Hp → VK → Prop
abbrev TT := St → Hp → (Bool → Hp → Prop) → Prop
abbrev TA := St → Hp → (List V → Hp → Prop) → Prop
structure Ends where
  nx : St → Hp → Prop
  rt : VK
  bk : St → Hp → Prop := fun _ _ => False
  ct : St → Hp → Prop := fun _ _ => False
abbrev TS := Ends → St → Hp → Prop
def EP (X : Cx) (pins : List (Addr × Obj)) (σ : St) (Q : VK) (u : Value) (s' : Shared) : Prop := ∃ v H', Inv X pins σ H' s' ∧ RelV v u ∧ Q v H'
def TP (X : Cx) (pins : List (Addr × Obj)) (σ : St) (Q : Bool → Hp → Prop) (b : Bool) (s' : Shared) : Prop := ∃ H', Inv X pins σ H' s' ∧ Q b H'
def AP (X : Cx) (pins : List (Addr × Obj)) (σ : St) (Q : List V → Hp → Prop) (us : List Value) (s' : Shared) : Prop := ∃ vs H', Inv X pins σ H' s' ∧ Vals vs us ∧ Q vs H'
def SP (X : Cx) (pins : List (Addr × Obj)) (D : Ends) (f : Flow) (s' : Shared) : Prop :=
  match f with
  | .next => ∃ σ' H', Inv X pins σ' H' s' ∧ D.nx σ' H'
  | .brk => ∃ σ' H', Inv X pins σ' H' s' ∧ D.bk σ' H'
  | .cont => ∃ σ' H', Inv X pins σ' H' s' ∧ D.ct σ' H'
  | .ret u => ∃ v σ' H', Inv X pins σ' H' s' ∧ RelV v u ∧ D.rt v H'
def PE (X : Cx) (e : Expr) (t : TE) : Prop :=
  ∀ (pins : List (Addr × Obj)) (s : Shared) (σ : St) (H : Hp) (Q : VK), Inv X pins σ H s → t σ H Q → wpAny (model X.prog X.w) X.A (eval e X.env) (EP X pins σ Q) X.xe s
def PT (X : Cx) (e : Expr) (t : TT) : Prop :=
  ∀ (pins : List (Addr × Obj)) (s : Shared) (σ : St) (H : Hp) (Q : Bool → Hp → Prop), Inv X pins σ H s → t σ H Q → wpAny (model X.prog X.w) X.A (isTrue e X.env (eval e X.env)) (TP X pins σ Q) X.xe s
def PW (X : Cx) (e : Expr) (t : TT) : Prop :=
  ∀ (whole : Sem Value) (pins : List (Addr × Obj)) (s : Shared) (σ : St) (H : Hp) (Q : Bool → Hp → Prop), Inv X pins σ H s → t σ H Q → wpAny (model X.prog X.w) X.A (isTrue e X.env whole) (TP X pins σ Q) X.xe s
theorem PW.pt {X : Cx} {e : Expr} {t : TT} (h : PW X e t) : PT X e t := h _
def PA (X : Cx) (es : List Expr) (t : TA) : Prop :=
  ∀ (pos : Pos) (pins : List (Addr × Obj)) (s : Shared) (σ : St) (H : Hp) (Q : List V → Hp → Prop), Inv X pins σ H s → t σ H Q → wpAny (model X.prog X.w) X.A (spliced (backTo pos (starEach es X.env))) (AP X pins σ Q) X.xe s
def PS (X : Cx) (st : Stmt) (t : TS) : Prop :=
  ∀ (pins : List (Addr × Obj)) (s : Shared) (σ : St) (H : Hp) (D : Ends), Inv X pins σ H s → t D σ H → wpAny (model X.prog X.w) X.A (exec st X.env) (SP X pins D) X.xe s
def PSs (X : Cx) (st : List Stmt) (t : TS) : Prop :=
  ∀ (pins : List (Addr × Obj)) (s : Shared) (σ : St) (H : Hp) (D : Ends), Inv X pins σ H s → t D σ H → wpAny (model X.prog X.w) X.A (execs st X.env) (SP X pins D) X.xe s
theorem thn {α : Type} {t : Sem α} {Q Q' : α → Shared → Prop} {M : Model} {A : Around} {E : Value → Shared → Prop} {s : Shared} (h : wpAny M A t Q E s) (hQ : ∀ a s, Q a s → Q' a s) : wpAny M A t Q' E s := wpAny_mono h hQ fun _ _ x => x
section
variable {X : Cx}
def tVar (i : Nat) : TE := fun σ H Q => ∃ v, σ[i]? = some (some v) ∧ Q v H
def tC (v : V) : TE := fun _ H Q => Q v H
theorem zrp {i : Nat} {x : Str} {pos : Pos} (hN : X.N[i]? = some x) (hv : Vis X.env.scope x) (hd : (x == ("__debug__" : Str)) = false := by decide) (hcd : (x == ("__classdict__" : Str)) = false := by decide) : PE X (.Name x pos) (tVar i) := by
  intro pins s σ H Q I h
  obtain ⟨v, e, h⟩ := h
  obtain ⟨m, hn, hl⟩ := I.loc
  obtain ⟨u, r, l⟩ := hl i x v hN e hv
  have fin : EP X pins σ Q u s := ⟨v, H, I, r, h⟩
  rcases l with ⟨hk, hm⟩ | ⟨hk, c, hc, hcell⟩
  · exact wpAny_Name (wpAny_loadName_local I.ok.kind hk hn hm fin) hd
  · rcases hk with hk | hk
    · exact wpAny_Name (wpAny_loadName_cell I.ok.kind hk hc hcell fin) hd
    · exact wpAny_Name (wpAny_loadName_free I.ok.kind hk hc hcell fin hcd) hd
theorem zae {i j pos} : PE X (.Constant (.int i) j pos) (tC (.int i)) := fun _ _ _ H _ I h => wpAny_Constant_int ⟨.int i, H, I.tok _, ⟨_, rfl⟩, h⟩
theorem zhk {b j pos} : PE X (.Constant (.bool b) j pos) (tC (.bl b)) := fun _ _ _ H _ I h => Constant_bool ⟨.bl b, H, I, rfl, h⟩
theorem zda {j pos} : PE X (.Constant .none j pos) (tC .non) := fun _ _ _ H _ I h => Constant_none ⟨.non, H, I, rfl, h⟩
theorem zad {x j pos} : PE X (.Constant (.str x) j pos) (tC (.str x)) := fun _ _ _ H _ I h => Calls.Constant_str ⟨.str x, H, I.tok _, ⟨_, rfl⟩, h⟩
def Gl (X : Cx) (x : Str) : Prop := X.env.kindOf x = some .globalImplicit
theorem zd2 {E : Value → Shared → Prop} {pins : List (Addr × Obj)} {s : Shared} {σ : St} {H : Hp} {x : Str} {u : Value} {pos : Pos} {Q : Value → Shared → Prop} (I : Inv X pins σ H s) (hg : Gl X x) (hm : X.mg x = some u) (h : Q u s)
    (hd : (x == ("__debug__" : Str)) = false := by decide) : wpAny (model X.prog X.w) X.A (eval (.Name x pos) X.env) Q E s :=
  Calls.Name_function_global I.ok.kind hg (Calls.loadGlobal_global (by rw [I.ok.glob]; exact I.mod.glob.keeps I.bk) hm h) hd
theorem zgk {E : Value → Shared → Prop} {pins : List (Addr × Obj)} {s : Shared} {σ : St} {H : Hp} {x : Str} {u : Value} {pos : Pos} {Q : Value → Shared → Prop} (I : Inv X pins σ H s) (hg : Gl X x) (hm : X.mg x = none) (hv : bootBuiltins x = some u) (h : Q u s)
    (hn : x ≠ "__name__" := by decide) (hd : (x == ("__debug__" : Str)) = false := by decide) : wpAny (model X.prog X.w) X.A (eval (.Name x pos) X.env) Q E s := by
  obtain ⟨mb, h1, h2⟩ := I.mod.blt
  exact Calls.Name_function_global I.ok.kind hg (Calls.loadGlobal_builtin (by rw [I.ok.glob]; exact I.mod.glob.keeps I.bk) hm (by rw [I.ok.blt]; exact h1.keeps I.bk) ((h2 x hn).trans hv) h) hd
theorem zk6 {x : Str} {v : V} {u : Value} {pos : Pos} (hg : Gl X x) (hm : X.mg x = some u) (r : RelV v u) (hd : (x == ("__debug__" : Str)) = false := by decide) : PE X (.Name x pos) (tC v) :=
  fun _ _ _ H _ I h => zd2 I hg hm ⟨v, H, I, r, h⟩ hd
theorem zbv {x : Str} {v : V} {u : Value} {pos : Pos} (hg : Gl X x) (hm : X.mg x = none) (hv : bootBuiltins x = some u) (r : RelV v u) (hn : x ≠ "__name__" := by decide) (hd : (x == ("__debug__" : Str)) = false := by decide) : PE X (.Name x pos) (tC v) :=
  fun _ _ _ H _ I h => zgk I hg hm hv ⟨v, H, I, r, h⟩ hn hd
variable {a b : Expr} {ta tb : TE} {pos : Pos}
def tB (t : TE) : TT := fun σ H Q => t σ H fun x H1 => ∃ c, x = .bl c ∧ Q c H1
theorem zbe {e : Expr} {t : TE} (h : PE X e t) (he : ∀ whole, isTrue e X.env whole = (do let v ← whole; standAt e.pos; holding [v] (truthy v)) := by intro _; rfl) : PT X e (tB t) := by
  intro pins s σ H Q I hw
  refine isTrue_plain (thn (h pins s σ H _ I hw) fun v s1 ⟨x, H1, I1, r1, q1⟩ => ?_) (he _)
  obtain ⟨d, rfl, q⟩ := q1
  cases r1
  exact wpAny_truthy_bool ⟨H1, I1, q⟩
variable {tA tB' : TT} {rest : List Expr}
def tAnd (t u : TT) : TT := fun σ H Q => t σ H fun c H1 => if c = true then u σ H1 Q else Q false H1
def tOr (t u : TT) : TT := fun σ H Q => t σ H fun c H1 => if c = true then Q true H1 else u σ H1 Q
def tNot (t : TT) : TT := fun σ H Q => t σ H fun c H1 => Q (!c) H1
theorem zff (ha : PT X a tA) : PW X (.BoolOp .And [a] pos) tA := by
  intro wh pins s σ H Q I h
  refine isTrue_and (thn (ha pins s σ H Q I h) fun c s1 e => ?_)
  cases c with
  | true => exact isTrue_and_nil e
  | false => exact e
theorem zc9 (ha : PT X a tA) : PW X (.BoolOp .Or [a] pos) tA := by
  intro wh pins s σ H Q I h
  refine isTrue_or (thn (ha pins s σ H Q I h) fun c s1 e => ?_)
  cases c with
  | false => exact isTrue_or_nil e
  | true => exact e
theorem zin (ha : PT X a tA) (hb : PW X (.BoolOp .And (b :: rest) pos) tB') : PW X (.BoolOp .And (a :: b :: rest) pos) (tAnd tA tB') := by
  intro wh pins s σ H Q I h
  refine isTrue_and (thn (ha pins s σ H _ I h) fun c s1 ⟨H1, I1, q1⟩ => ?_)
  cases c with
  | true => exact hb wh pins s1 σ H1 Q I1 q1
  | false => exact ⟨H1, I1, q1⟩
theorem zej (ha : PT X a tA) (hb : PW X (.BoolOp .Or (b :: rest) pos) tB') : PW X (.BoolOp .Or (a :: b :: rest) pos) (tOr tA tB') := by
  intro wh pins s σ H Q I h
  refine isTrue_or (thn (ha pins s σ H _ I h) fun c s1 ⟨H1, I1, q1⟩ => ?_)
  cases c with
  | true => exact ⟨H1, I1, q1⟩
  | false => exact hb wh pins s1 σ H1 Q I1 q1
theorem zb4 (ha : PT X a tA) : PT X (.UnaryOp .Not a pos) (tNot tA) := by
  intro pins s σ H Q I h
  exact isTrue_not (ha pins s σ H (fun c H1 => Q (!c) H1) I h)
def tAndV (ta tb : TE) : TE := fun σ H Q => ta σ H fun x H1 => ∃ c, x = .bl c ∧ if c = true then tb σ H1 Q else Q (.bl false) H1
def tOrV (ta tb : TE) : TE := fun σ H Q => ta σ H fun x H1 => ∃ c, x = .bl c ∧ if c = true then Q (.bl true) H1 else tb σ H1 Q
def tNotV (ta : TE) : TE := fun σ H Q => ta σ H fun x H1 => ∃ c, x = .bl c ∧ Q (.bl (!c)) H1
theorem zcm {op} {t : TE} (h : PE X a t) : PE X (.BoolOp op [a] pos) t := fun pins s σ H Q I hw => BoolOp_one (h pins s σ H Q I hw)
theorem zcn (ha : PE X a ta) (hb : PE X (.BoolOp .And (b :: rest) pos) tb) : PE X (.BoolOp .And (a :: b :: rest) pos) (tAndV ta tb) := by
  intro pins s σ H Q I h
  refine BoolOp_and (thn (ha pins s σ H _ I h) fun v s1 ⟨x, H1, I1, r1, q1⟩ => ?_)
  obtain ⟨c, rfl, q1⟩ := q1
  cases r1
  refine wpAny_truthy_bool ?_
  cases c with
  | true => exact hb pins s1 σ H1 Q I1 q1
  | false => exact ⟨.bl false, H1, I1, rfl, q1⟩
theorem zso (ha : PE X a ta) (hb : PE X (.BoolOp .Or (b :: rest) pos) tb) : PE X (.BoolOp .Or (a :: b :: rest) pos) (tOrV ta tb) := by
  intro pins s σ H Q I h
  refine BoolOp_or (thn (ha pins s σ H _ I h) fun v s1 ⟨x, H1, I1, r1, q1⟩ => ?_)
  obtain ⟨c, rfl, q1⟩ := q1
  cases r1
  refine wpAny_truthy_bool ?_
  cases c with
  | false => exact hb pins s1 σ H1 Q I1 q1
  | true => exact ⟨.bl true, H1, I1, rfl, q1⟩
theorem zk5 (ha : PE X a ta) : PE X (.UnaryOp .Not a pos) (tNotV ta) := by
  intro pins s σ H Q I h
  refine UnaryOp_ (thn (ha pins s σ H _ I h) fun v s1 ⟨x, H1, I1, r1, q1⟩ => ?_)
  obtain ⟨c, rfl, q1⟩ := q1
  cases r1
  exact not_of (wpAny_truthy_bool ⟨.bl (!c), H1, I1, rfl, q1⟩)
def tIf (t : TT) (ta tb : TE) : TE := fun σ H Q => t σ H fun c H1 => if c = true then ta σ H1 Q else tb σ H1 Q
theorem zch {c : Expr} (hc : PT X c tA) (ha : PE X a ta) (hb : PE X b tb) : PE X (.IfExp c a b pos) (tIf tA ta tb) := by
  intro pins s σ H Q I h
  refine wpAny_IfExp (thn (hc pins s σ H _ I h) fun d s1 ⟨H1, I1, q1⟩ => ?_)
  cases d with
  | true => exact ha pins s1 σ H1 Q I1 q1
  | false => exact hb pins s1 σ H1 Q I1 q1
end
def SqL (K : PySem.W.Frag) (H : Hp) (a : Addr) (xs : List V) : Prop :=
  Rd H a (.lst xs) ∨
    ∃ (o : Obj) (its : Array Value) (n : Nat), K.lookup a = some o ∧ o.cls = .type "list" ∧ o.dict = none ∧ o.data = .seq its n ∧ its.size ≤ sizeLine ∧ Vals xs its.toList
def SqT (K : PySem.W.Frag) (H : Hp) (a : Addr) (xs : List V) : Prop :=
  Rd H a (.tup xs) ∨
    ∃ (o : Obj) (its : Array Value) (n : Nat), K.lookup a = some o ∧ o.cls = .type "tuple" ∧ o.data = .seq its n ∧ its.size ≤ sizeLine ∧ Vals xs its.toList
def absV : Value → Option V
  | .none => some .non
  | .bool b => some (.bl b)
  | .int i _ => some (.int i)
  | .str x _ => some (.str x)
  | .bytes b _ => some (.byt b)
  | .float b _ => some (.flt b)
  | .ref a => some (.ref a)
  | .type n => some (.ty n)
  | _ => none
theorem RelV.abs {x : V} {u : Value} (r : RelV x u) : absV u = some x := by
  cases x with
  | non => cases r; rfl
  | bl _ => cases r; rfl
  | int _ => obtain ⟨t, rfl⟩ := r; rfl
  | str _ => obtain ⟨t, rfl⟩ := r; rfl
  | byt _ => obtain ⟨t, rfl⟩ := r; rfl
  | flt _ => obtain ⟨t, rfl⟩ := r; rfl
  | ref _ => cases r; rfl
  | ty _ => cases r; rfl
theorem RelV.inj {x y : V} {u : Value} (r : RelV x u) (q : RelV y u) : x = y := Option.some.inj (r.abs.symm.trans q.abs)
theorem Vals.inj : ∀ {xs ys : List V} {us : List Value}, Vals xs us → Vals ys us → xs = ys
  | _, _, _, .nil, .nil => rfl
  | _, _, _, .cons r t, .cons r' t' => by rw [r.inj r', Vals.inj t t']
section
variable {X : Cx} {pins : List (Addr × Obj)} {σ : St} {H : Hp} {s : Shared} {a : Addr} {xs ys : List V}
theorem SqL.of {K : PySem.W.Frag} (h : H a = some (.lst xs)) : SqL K H a xs := .inl (.inl h)
theorem SqT.of {K : PySem.W.Frag} (h : H a = some (.tup xs)) : SqT K H a xs := .inl (.inl h)
theorem Inv.list (I : Inv X pins σ H s) (h : SqL X.K H a xs) : ∃ its : List Value, Vals xs its ∧ PlainL s.heap a its.toArray ∧ xs.length ≤ sizeLine := by
  rcases h with h | ⟨o, its, n, hk, hc, hd, hs, hz, r⟩
  · obtain ⟨z, its, n, r, e⟩ := h.ok I.hok
    exact ⟨its, r, ⟨_, n, e, rfl, rfl, rfl⟩, z⟩
  · refine ⟨its.toList, r, ⟨o, n, I.kIn a o hk, hc, hd, by simpa using hs⟩, ?_⟩
    have e := r.length
    simp only [Array.length_toList] at e
    omega
theorem Inv.tuple (I : Inv X pins σ H s) (h : SqT X.K H a xs) : ∃ its : List Value, Vals xs its ∧ IsTup s.heap a its.toArray ∧ xs.length ≤ sizeLine := by
  rcases h with h | ⟨o, its, n, hk, hc, hs, hz, r⟩
  · obtain ⟨z, its, r, p⟩ := h.ok I.hok
    exact ⟨its, r, p, z⟩
  · refine ⟨its.toList, r, ⟨o, I.kIn a o hk, hc, n, by simpa using hs⟩, ?_⟩
    have e := r.length
    simp only [Array.length_toList] at e
    omega
theorem Inv.list_inj (I : Inv X pins σ H s) (h : SqL X.K H a xs) (h' : SqL X.K H a ys) : xs = ys := by
  obtain ⟨its, r, ⟨o, n, e, _, _, d⟩, _⟩ := I.list h
  obtain ⟨its', r', ⟨o', n', e', _, _, d'⟩, _⟩ := I.list h'
  rw [e] at e'; cases e'
  rw [d] at d'
  injection d' with d1 _
  have : its = its' := by simpa using congrArg Array.toList d1
  subst this
  exact r.inj r'
theorem Inv.tuple_inj (I : Inv X pins σ H s) (h : SqT X.K H a xs) (h' : SqT X.K H a ys) : xs = ys := by
  obtain ⟨its, r, ⟨o, e, _, n, d⟩, _⟩ := I.tuple h
  obtain ⟨its', r', ⟨o', e', _, n', d'⟩, _⟩ := I.tuple h'
  rw [e] at e'; cases e'
  rw [d] at d'
  injection d' with d1 _
  have : its = its' := by simpa using congrArg Array.toList d1
  subst this
  exact r.inj r'
end
abbrev Cx.wish (X : Cx) (E : Value → Shared → Prop) : Cx := { X with xe := E }
abbrev Cx.nox (X : Cx) : Cx := X.wish fun _ _ => False
theorem Cx.Ok.wish {X : Cx} (ok : X.Ok) (E : Value → Shared → Prop) : (X.wish E).Ok :=
  ⟨ok.mod, ok.kind, ok.glob, ok.blt, ok.above, ok.inj, ok.has, ok.cab, ok.hd, ok.frames, ok.stk, ok.exf, ok.bs, ok.bsz, ok.noex, ok.exfs, ok.funs, ok.frf⟩
theorem Cx.Ok.unwish {X : Cx} {E : Value → Shared → Prop} (ok : (X.wish E).Ok) : X.Ok :=
  ⟨ok.mod, ok.kind, ok.glob, ok.blt, ok.above, ok.inj, ok.has, ok.cab, ok.hd, ok.frames, ok.stk, ok.exf, ok.bs, ok.bsz, ok.noex, ok.exfs, ok.funs, ok.frf⟩
section
variable {X : Cx} {pins : List (Addr × Obj)} {σ : St} {H : Hp} {s : Shared} {E : Value → Shared → Prop}
theorem Inv.wish (I : Inv X pins σ H s) (E : Value → Shared → Prop) : Inv (X.wish E) pins σ H s := ⟨I.ok.wish E, I.os, I.bare, I.base, I.loc, I.cell, I.free, I.freeC, I.pin, I.hok, I.len⟩
theorem Inv.unwish (I : Inv (X.wish E) pins σ H s) : Inv X pins σ H s := ⟨I.ok.unwish, I.os, I.bare, I.base, I.loc, I.cell, I.free, I.freeC, I.pin, I.hok, I.len⟩
theorem SP.unwish {D : Ends} {f : Flow} {s' : Shared} (h : SP (X.wish E) pins D f s') : SP X pins D f s' := by
  cases f with
  | next => obtain ⟨σ', H', I, q⟩ := h; exact ⟨σ', H', I.unwish, q⟩
  | brk => obtain ⟨σ', H', I, q⟩ := h; exact ⟨σ', H', I.unwish, q⟩
  | cont => obtain ⟨σ', H', I, q⟩ := h; exact ⟨σ', H', I.unwish, q⟩
  | ret u => obtain ⟨v, σ', H', I, r, q⟩ := h; exact ⟨v, σ', H', I.unwish, r, q⟩
theorem PSs.nox {st : List Stmt} {t : TS} (h : PSs X.nox st t) : PSs X st t := fun pins s σ H D I hw =>
  wpAny_mono (h pins s σ H D (I.wish _) hw) (fun _ _ q => q.unwish) fun _ _ z => False.elim z
end
section
variable {X : Cx} {st : Stmt} {rest : List Stmt} {t u : TS} {e : Expr} {te : TE} {pos : Pos}
def tNext : TS := fun D σ H => D.nx σ H
def tSeq (t u : TS) : TS := fun D σ H => t { D with nx := u D } σ H
theorem zak : PSs X [] tNext := fun _ _ σ H _ I h => wpAny_execs_nil ⟨σ, H, I, h⟩
theorem zac (h1 : PS X st t) (h2 : PSs X rest u) : PSs X (st :: rest) (tSeq t u) := by
  intro pins s σ H D I h
  refine wpAny_execs_cons (thn (h1 pins s σ H { D with nx := u D } I h) fun f s1 q => ?_)
  cases f with
  | next =>
    obtain ⟨σ', H', I', q⟩ := q
    exact h2 pins s1 σ' H' D I' q
  | ret v => exact q
  | brk => exact q
  | cont => exact q
theorem zaf (h1 : PS X st t) : PSs X [st] t := by
  intro pins s σ H D I h
  refine wpAny_execs_cons (thn (h1 pins s σ H D I h) fun f s1 q => ?_)
  cases f with
  | next => exact wpAny_execs_nil q
  | ret v => exact q
  | brk => exact q
  | cont => exact q
def tBreak : TS := fun D σ H => D.bk σ H
def tCont : TS := fun D σ H => D.ct σ H
theorem Inv.quiet {pins : List (Addr × Obj)} {σ : St} {H : Hp} {s : Shared} (I : Inv X pins σ H s) : interactive X.env = false := by simp [interactive, I.ok.kind]
def tDrop (te : TE) : TS := fun D σ H => te σ H fun _ H1 => D.nx σ H1
theorem zc0 (he : PE X e te) (hs : swapsWith e none pos.line X.env = pure false := by rfl) : PS X (.Expr e pos) (tDrop te) := by
  intro pins s σ H D I h
  exact wpAny_Expr_any (thn (he pins s σ H _ I h) fun v s1 ⟨x, H1, I1, r1, q1⟩ => ⟨σ, H1, I1, q1⟩) I.quiet hs
def tRet (te : TE) : TS := fun D σ H => te σ H D.rt
theorem zai (he : PE X e te) : PS X (.Return (some e) pos) (tRet te) := by
  intro pins s σ H D I h
  exact wpAny_Return_some (thn (he pins s σ H _ I h) fun v s1 ⟨x, H1, I1, r1, q1⟩ => ⟨x, σ, H1, I1, r1, q1⟩)
def tRetN : TS := fun D _ H => D.rt .non H
def tIfS (c : TT) (t u : TS) : TS := fun D σ H => c σ H fun b H1 => if b = true then t D σ H1 else u D σ H1
theorem zax {c : Expr} {a b : List Stmt} {tc : TT} (hc : PT X c tc) (ha : PSs X a t) (hb : PSs X b u) : PS X (.If c a b pos) (tIfS tc t u) := by
  intro pins s σ H D I h
  refine wpAny_If (thn (hc pins s σ H _ I h) fun d s1 ⟨H1, I1, q1⟩ => ?_)
  cases d with
  | true => exact ha pins s1 σ H1 D I1 q1
  | false => exact hb pins s1 σ H1 D I1 q1
def tNever : TS := fun _ _ _ => False
theorem za2 {sts : List Stmt} : PSs X sts tNever := fun _ _ _ _ _ _ h => h.elim
end
abbrev TG := V → St → Hp → (St → Hp → Prop) → Prop
abbrev TGs := List V → St → Hp → (St → Hp → Prop) → Prop
def PG (X : Cx) (target : Expr) (t : TG) : Prop :=
  ∀ (pins : List (Addr × Obj)) (s : Shared) (σ : St) (H : Hp) (v : V) (u : Value) (Q : St → Hp → Prop), Inv X pins σ H s → RelV v u → t v σ H Q →
    wpAny (model X.prog X.w) X.A (assign target X.env u) (fun _ s' => ∃ σ' H', Inv X pins σ' H' s' ∧ Q σ' H') X.xe s
def PGs (X : Cx) (ts : List Expr) (t : TGs) : Prop :=
  ∀ (pins : List (Addr × Obj)) (s : Shared) (σ : St) (H : Hp) (vs : List V) (us : List Value) (Q : St → Hp → Prop), Inv X pins σ H s → Vals vs us → t vs σ H Q →
    wpAny (model X.prog X.w) X.A (assignInOrder ((assignEach ts X.env).map (·.2)) us) (fun _ s' => ∃ σ' H', Inv X pins σ' H' s' ∧ Q σ' H') X.xe s
abbrev TSet := V → V → V → Hp → (Hp → Prop) → Prop
abbrev TIp := V → V → Hp → VK → Prop
section
variable {X : Cx} {pos : Pos}
def gName (i : Nat) : TG := fun v σ H Q => Q (σ.set i (some v)) H
theorem za9 {i : Nat} {x : Str} (hN : X.N.Nodup) (hi : X.N[i]? = some x) (hx : Loc X.env.scope x) (hf : X.fn x = true ∨ X.env.scope.names.lookup x = some .local := by first | exact .inl rfl | exact .inr rfl | assumption) : PG X (.Name x pos) (gName i) := by
  intro pins s σ H v u Q I r h
  exact wpAny_assign_Name (zcr I hN hi hx r (fun s' I' => ⟨_, H, I', h⟩) hf)
def gNil : TGs := fun vs σ H Q => vs = [] ∧ Q σ H
def gCons (t : TG) (u : TGs) : TGs := fun vs σ H Q => ∃ v r, vs = v :: r ∧ t v σ H fun σ' H' => u r σ' H' Q
theorem zhi : PGs X [] gNil := by
  intro pins s σ H vs us Q I r h
  obtain ⟨e, h⟩ := h
  subst e
  cases r
  exact assignInOrder_nil ⟨σ, H, I, h⟩
theorem zcg {e : Expr} {es : List Expr} {t : TG} {u : TGs} (h1 : PG X e t) (h2 : PGs X es u)
    (hs : (assignEach (e :: es) X.env).map (·.2) = assign e X.env :: (assignEach es X.env).map (·.2) := by rfl) : PGs X (e :: es) (gCons t u) := by
  intro pins s σ H vs us Q I r h
  obtain ⟨v, vr, e1, h⟩ := h
  subst e1
  cases r with
  | cons r rr =>
    rw [hs]
    refine assignInOrder_cons (thn (h1 pins s σ H _ _ _ I r h) fun _ s1 ⟨σ1, H1, I1, q1⟩ => ?_)
    exact h2 pins s1 σ1 H1 _ _ Q I1 rr q1
def gTup (K : PySem.W.Frag) (n : Nat) (t : TGs) : TG := fun v σ H Q => ∃ a xs, v = .ref a ∧ SqT K H a xs ∧ xs.length = n ∧ t xs σ H Q
theorem zro {es : List Expr} {k : Nat} {t : TGs} {n : Nat} (hc : X.calm = true) (h : PGs X es t)
    (hn : (assignEach es X.env).length = n := by rfl) (hst : (assignEach es X.env).findIdx? (·.1) = none := by rfl) : PG X (.Tuple es k pos) (gTup X.K n t) := by
  intro pins s σ H v u Q I r hw
  obtain ⟨a, xs, e1, hq, hl, hw⟩ := hw
  subst e1
  cases r
  obtain ⟨its, rv, ht, hz⟩ := I.tuple hq
  refine assign_Tuple_tuple (I.ok.hd hc) ht (by simp [hn, ← hl, rv.length]) hst fun h' hx => ?_
  have I1 : Inv X pins σ H { s with heap := h' } := I.kept (t' := s.toks) fun b o e => hx b o (Nat.ne_of_lt (Heap.lt_size e)) e
  exact h pins _ σ H xs _ Q I1 (by simpa using rv) hw
def gSub (to ti : TE) (t : TSet) : TG := fun v σ H Q => to σ H fun o H1 => ti σ H1 fun i H2 => t o i v H2 fun H3 => Q σ H3
def tAsg (te : TE) (g : TG) : TS := fun D σ H => te σ H fun x H1 => g x σ H1 D.nx
theorem zas {i : Nat} {x : Str} {e : Expr} {te : TE} {pos' : Pos} (hN : X.N.Nodup) (hi : X.N[i]? = some x) (hx : Loc X.env.scope x) (he : PE X e te) (hs : swapsWith e (some (.Name x pos')) pos.line X.env = pure false := by rfl) (hf : X.fn x = true ∨ X.env.scope.names.lookup x = some .local := by first | exact .inl rfl | exact .inr rfl | assumption) :
    PS X (.Assign [.Name x pos'] e pos) (tAsg te (gName i)) := by
  intro pins s σ H D I h
  refine wpAny_Assign_Name (thn (he pins s σ H _ I h) fun v s1 ⟨y, H1, I1, r1, q1⟩ => ?_) hs
  exact zcr I1 hN hi hx r1 (fun s2 I2 => ⟨_, H1, I2, q1⟩) hf
def tPar (i j : Nat) (ta : TA) : TS := fun D σ H => ta σ H fun vs H1 => ∃ v w, vs = [v, w] ∧ D.nx ((σ.set i (some v)).set j (some w)) H1
def tAug (i : Nat) (te : TE) (ti : TIp) : TS := fun D σ H => ∃ x, σ[i]? = some (some x) ∧ te σ H fun y H1 => ti x y H1 fun z H2 => D.nx (σ.set i (some z)) H2
def ipI (f : Int → Int → Int) : TIp := fun x y H Q => ∃ i j, x = .int i ∧ y = .int j ∧ Q (.int (f i j)) H
end
structure It where
  go : Nat → Hp → Prop
  yld : Nat → Hp → V → Hp → Prop
  stop : Nat → Hp → Prop
def FpOk (X : Cx) (pins : List (Addr × Obj)) (H : Hp) (b : Addr) : Prop :=
  H b = none ∧ b ≠ X.env.locals ∧ b ∉ X.fs ∧ (b ∈ X.ex ∨ X.s₀.heap.objs.size ≤ b) ∧ (∀ x c, X.env.cells.lookup x = some c → c ≠ b) ∧ ∀ p ∈ X.pn ++ pins, p.1 ≠ b
theorem Inv.fpOk {X : Cx} {pins : List (Addr × Obj)} {σ : St} {H H' : Hp} {s : Shared} {b : Addr} (I : Inv X pins σ H s) (hb : s.heap.objs.size ≤ b) (hn : H' b = none) : FpOk X pins H' b := by
  refine ⟨hn, Nat.ne_of_gt (Nat.lt_of_lt_of_le I.lt hb), I.nofs hb, .inr (Nat.le_trans I.sz hb), fun x c e z => ?_, fun p hp z => ?_⟩
  · obtain ⟨v, q⟩ := I.cell x c e
    exact absurd (Nat.lt_of_lt_of_le q.lt (by rw [z]; exact hb)) (Nat.lt_irrefl _)
  · exact absurd (Nat.lt_of_lt_of_le (Heap.lt_size (I.pin p hp).1) (by rw [z]; exact hb)) (Nat.lt_irrefl _)
structure Turn (P : Program) (w : World) (K : PySem.W.Frag) (tg : Expr) (J : It) (fp : List Addr) (it : Addr) (tn : Nat → Heap → Prop) : Prop where
  mem : it ∈ fp
  obj : ∀ i h, tn i h → ∀ b ∈ fp, ∃ o, h.get? b = some o ∧ ∀ v, o.data ≠ .cell v
  keep : ∀ i h h', tn i h → (∀ b ∈ fp, ∀ o, h.get? b = some o → h'.get? b = some o) → tn i h'
  item : ∀ (X : Cx), X.prog = P → X.w = w → X.K = K → X.calm = true → ∀ (i : Nat) (pins : List (Addr × Obj)) (s : Shared) (σ : St) (H : Hp) (E : Value → Shared → Prop), Inv X pins σ H s → (∀ b ∈ fp, FpOk X pins H b) → tn i s.heap → J.go i H →
    wpAny (model P w) X.A (pyNext (.ref it)) (fun r s1 => ∃ u, r = some u ∧
      wpAny (model P w) X.A (letOwnedTupleGo tg (.ref it) u) (fun _ s2 => ∃ x H', Inv X pins σ H' s2 ∧ RelV x u ∧ J.yld i H x H' ∧ tn (i + 1) s2.heap ∧ ∀ b ∈ fp, H' b = none) E s1) E s
  done : ∀ (X : Cx), X.prog = P → X.w = w → X.K = K → X.calm = true → ∀ (i : Nat) (pins : List (Addr × Obj)) (s : Shared) (σ : St) (H : Hp) (E : Value → Shared → Prop), Inv X pins σ H s → (∀ b ∈ fp, FpOk X pins H b) → tn i s.heap → J.stop i H →
    wpAny (model P w) X.A (pyNext (.ref it)) (fun r s1 => r = none ∧ Inv X pins σ H s1) E s
  self : ∀ (A : Around) (i : Nat) (s : Shared) (Q : Value → Shared → Prop) (E : Value → Shared → Prop), tn i s.heap → Q (.ref it) s → wpAny (model P w) A (pyIter (.ref it)) Q E s
abbrev TI := St → Hp → (It → Hp → Prop) → Prop
def PIE (X : Cx) (pins : List (Addr × Obj)) (σ : St) (tg : Expr) (R : It → Hp → Prop) (itv : Value) (s2 : Shared) : Prop :=
  ∃ (it : Addr) (fp : List Addr) (tn : Nat → Heap → Prop) (J : It) (H' : Hp), itv = .ref it ∧ Inv X pins σ H' s2 ∧ Turn X.prog X.w X.K tg J fp it tn ∧ tn 0 s2.heap ∧ (∀ b ∈ fp, FpOk X pins H' b) ∧ R J H'
def PI (X : Cx) (tg iter : Expr) (wi : TI) : Prop :=
  ∀ (pins : List (Addr × Obj)) (s : Shared) (σ : St) (H : Hp) (R : It → Hp → Prop), Inv X pins σ H s → wi σ H R →
    wpAny (model X.prog X.w) X.A (eval iter X.env) (fun v s1 => wpAny (model X.prog X.w) X.A (pyIter v) (PIE X pins σ tg R) X.xe s1) X.xe s
theorem zqu {M : Model} {A : Around} {E : Value → Shared → Prop} {s : Shared} {tg : Expr} {it : Addr} {u : Value} {o : Obj} {n : String} {vs : Array Value} {Q : Unit → Shared → Prop} (ho : s.heap.get? it = some o) (hc : o.cls = .type n) (hd : o.data = .fields vs)
    (hn : ["enumerate", "zip", "dict_itemiterator", "dict_reverseitemiterator", "odict_iterator", "itertools.zip_longest", "itertools.pairwise"].contains n = false) (hQ : Q () s) : wpAny M A (letOwnedTupleGo tg (.ref it) u) Q E s := by
  unfold letOwnedTupleGo
  cases tg <;> first
    | exact wpAny_pure hQ
    | (cases u <;> first
        | exact wpAny_pure hQ
        | (refine wpAny_bind (wpAny_load ho ?_)
           rw [hc, hd]
           show wpAny M A (if (["enumerate", "zip", "dict_itemiterator", "dict_reverseitemiterator", "odict_iterator", "itertools.zip_longest", "itertools.pairwise"].contains n && vs[0]? == some (rawInt _)) = true then _ else _) Q E s
           rw [if_neg (by intro h; rw [hn, Bool.false_and] at h; cases h)]
           exact wpAny_pure hQ))
def Itl (K : PySem.W.Frag) (a : Addr) : It :=
  ⟨fun i H => ∃ xs x, SqL K H a xs ∧ xs[i]? = some x, fun i H x H' => H' = H ∧ ∀ xs, SqL K H a xs → xs[i]? = some x, fun i H => ∃ xs, SqL K H a xs ∧ xs.length ≤ i⟩
def Itt (K : PySem.W.Frag) (a : Addr) : It :=
  ⟨fun i H => ∃ xs x, SqT K H a xs ∧ xs[i]? = some x, fun i H x H' => H' = H ∧ ∀ xs, SqT K H a xs → xs[i]? = some x, fun i H => ∃ xs, SqT K H a xs ∧ xs.length ≤ i⟩
def Itr (lo : Int) (n : Nat) : It := ⟨fun i _ => i < n, fun i H x H' => H' = H ∧ x = .int (lo + i), fun i _ => n ≤ i⟩
theorem zj7 {P : Program} {w : World} {K : PySem.W.Frag} {tg : Expr} (a it : Addr) : Turn P w K tg (Itl K a) [it] it (fun i h => h.IsListIter it a i) where
  mem := by simp
  obj := fun i h st b hb => by
    have e : b = it := by simpa using hb
    subst e
    obtain ⟨o, e, c, d⟩ := st
    exact ⟨o, e, fun v z => by rw [d] at z; cases z⟩
  keep := fun i h h' st k => st.at fun o e => k it (by simp) o e
  item := by
    intro X hP hw hK hc i pins s σ H E I hf st hg
    subst hP hw hK
    obtain ⟨xs, x, hq, hx⟩ := hg
    obtain ⟨its, rv, p, hz⟩ := I.list hq
    obtain ⟨u, hu, ru⟩ := rv.get hx
    obtain ⟨f0, f1, f2, f3, f4, f5⟩ := hf it (by simp)
    refine wpAny_pyNext_list_item st p.isList (x := u) (by simpa using hu) fun h' st' sb => ?_
    have I1 : Inv X pins σ H { s with heap := h' } := I.turned (t' := s.toks) (fun b o hb e => (sb.2 b hb).trans e) f0 f1 f3 f4 f5
    obtain ⟨o, e, c, d⟩ := id st'
    exact ⟨u, rfl, zqu (s := { s with heap := h' }) e c d (by decide) ⟨x, H, I1, ru, ⟨rfl, fun ys hy => by rw [I.list_inj hy hq]; exact hx⟩, st', fun b hb => (hf b hb).1⟩⟩
  done := by
    intro X hP hw hK hc i pins s σ H E I hf st hg
    subst hP hw hK
    obtain ⟨xs, hq, hx⟩ := hg
    obtain ⟨its, rv, p, hz⟩ := I.list hq
    obtain ⟨f0, f1, f2, f3, f4, f5⟩ := hf it (by simp)
    have hl := rv.length
    exact wpAny_pyNext_list_end (I.ok.hd hc) st p.isList (by simp; omega) fun h' eb => ⟨rfl, I.turned (t' := s.toks) (fun b o hb e => eb b o hb e) f0 f1 f3 f4 f5⟩
  self := fun _ _ _ _ _ st h => wpAny_pyIter_listiter st h
theorem zi4 {P : Program} {w : World} {K : PySem.W.Frag} {tg : Expr} (a it : Addr) : Turn P w K tg (Itt K a) [it] it (fun i h => h.IsTupleIter it a i) where
  mem := by simp
  obj := fun i h st b hb => by
    have e : b = it := by simpa using hb
    subst e
    obtain ⟨o, e, c, d⟩ := st
    exact ⟨o, e, fun v z => by rw [d] at z; cases z⟩
  keep := fun i h h' st k => st.at fun o e => k it (by simp) o e
  item := by
    intro X hP hw hK hc i pins s σ H E I hf st hg
    subst hP hw hK
    obtain ⟨xs, x, hq, hx⟩ := hg
    obtain ⟨its, rv, p, hz⟩ := I.tuple hq
    obtain ⟨u, hu, ru⟩ := rv.get hx
    obtain ⟨f0, f1, f2, f3, f4, f5⟩ := hf it (by simp)
    refine wpAny_pyNext_tuple_item st (show s.heap.IsTuple a its.toArray from p) (x := u) (by simpa using hu) fun h' st' sb => ?_
    have I1 : Inv X pins σ H { s with heap := h' } := I.turned (t' := s.toks) (fun b o hb e => (sb.2 b hb).trans e) f0 f1 f3 f4 f5
    obtain ⟨o, e, c, d⟩ := id st'
    exact ⟨u, rfl, zqu (s := { s with heap := h' }) e c d (by decide) ⟨x, H, I1, ru, ⟨rfl, fun ys hy => by rw [I.tuple_inj hy hq]; exact hx⟩, st', fun b hb => (hf b hb).1⟩⟩
  done := by
    intro X hP hw hK hc i pins s σ H E I hf st hg
    subst hP hw hK
    obtain ⟨xs, hq, hx⟩ := hg
    obtain ⟨its, rv, p, hz⟩ := I.tuple hq
    obtain ⟨f0, f1, f2, f3, f4, f5⟩ := hf it (by simp)
    have hl := rv.length
    exact wpAny_pyNext_tuple_end (I.ok.hd hc) st (show s.heap.IsTuple a its.toArray from p) (by simp; omega) fun h' eb => ⟨rfl, I.turned (t' := s.toks) (fun b o hb e => eb b o hb e) f0 f1 f3 f4 f5⟩
  self := fun _ _ _ _ _ st h => wpAny_pyIter_tupleiter st h
section
variable {X : Cx} {tg : Expr}
def iList (K : PySem.W.Frag) (tl : TE) : TI := fun σ H R => tl σ H fun x H1 => ∃ a, x = .ref a ∧ (∃ xs, SqL K H1 a xs) ∧ R (Itl K a) H1
def iTup (K : PySem.W.Frag) (tl : TE) : TI := fun σ H R => tl σ H fun x H1 => ∃ a, x = .ref a ∧ (∃ xs, SqT K H1 a xs) ∧ R (Itt K a) H1
theorem zp8 {l : Expr} {tl : TE} (hl : PE X l tl) : PI X tg l (iList X.K tl) := by
  intro pins s σ H R I h
  refine thn (hl pins s σ H _ I h) fun v s1 ⟨x, H1, I1, r1, q1⟩ => ?_
  obtain ⟨a, e, ⟨xs, hq⟩, q⟩ := q1
  subst e
  cases r1
  obtain ⟨its, rv, p, hz⟩ := I1.list hq
  refine wpAny_pyIter_list p.isList ?_
  refine ⟨s1.heap.objs.size, [s1.heap.objs.size], _, _, H1, rfl, I1.kept (t' := s1.toks) fun b o e => Heap.get?_push_of_some _ e, zj7 a _, ⟨_, Heap.get?_push_size _ rfl, rfl, rfl⟩, fun b hb => ?_, q⟩
  have e : b = s1.heap.objs.size := by simpa using hb
  subst e
  exact I1.fpOk (Nat.le_refl _) (I1.hok.fresh (Nat.le_refl _))
theorem zrm {l : Expr} {tl : TE} (hl : PE X l tl) : PI X tg l (iTup X.K tl) := by
  intro pins s σ H R I h
  refine thn (hl pins s σ H _ I h) fun v s1 ⟨x, H1, I1, r1, q1⟩ => ?_
  obtain ⟨a, e, ⟨xs, hq⟩, q⟩ := q1
  subst e
  cases r1
  obtain ⟨its, rv, p, hz⟩ := I1.tuple hq
  refine wpAny_pyIter_tuple (show s1.heap.IsTuple a its.toArray from p) ?_
  refine ⟨s1.heap.objs.size, [s1.heap.objs.size], _, _, H1, rfl, I1.kept (t' := s1.toks) fun b o e => Heap.get?_push_of_some _ e, zi4 a _, ⟨_, Heap.get?_push_size _ rfl, rfl, rfl⟩, fun b hb => ?_, q⟩
  have e : b = s1.heap.objs.size := by simpa using hb
  subst e
  exact I1.fpOk (Nat.le_refl _) (I1.hok.fresh (Nat.le_refl _))
def iRng1 (ta : TA) : TI := fun σ H R => ta σ H fun vs H1 => ∃ j : Int, vs = [.int j] ∧ -(2 ^ 62) ≤ j ∧ j < 2 ^ 62 ∧ R (Itr 0 j.toNat) H1
def iRng2 (ta : TA) : TI := fun σ H R => ta σ H fun vs H1 => ∃ i j : Int, vs = [.int i, .int j] ∧ (-(2 ^ 62) ≤ i ∧ i < 2 ^ 62 ∧ -(2 ^ 62) ≤ j ∧ j < 2 ^ 62) ∧ R (Itr i (j - i).toNat) H1
def tFor (wi : TI) (g : TG) (tb : TS) : TS := fun D σ H => wi σ H fun J H1 => ∃ W : Nat → Nat → St → Hp → Prop, (∃ m, W 0 m σ H1) ∧ ∀ i m σ H, W i m σ H →
  (J.stop i H ∧ D.nx σ H) ∨ (J.go i H ∧ ∃ N : St → Hp → Prop, (∀ σ' H', N σ' H' → ∃ m', m' < m ∧ W (i + 1) m' σ' H') ∧ ∀ x H', J.yld i H x H' → g x σ H' fun σ2 H2 => tb { D with nx := N, ct := N, bk := D.nx } σ2 H2)
def pinsAt (fp : List Addr) (h : Heap) : List (Addr × Obj) := fp.filterMap fun b => (h.get? b).map fun o => (b, o)
theorem zci {fp : List Addr} {h : Heap} {b : Addr} {o : Obj} (hb : b ∈ fp) (e : h.get? b = some o) : (b, o) ∈ pinsAt fp h := List.mem_filterMap.mpr ⟨b, hb, by rw [e]; rfl⟩
theorem zlo {fp : List Addr} {h : Heap} {p : Addr × Obj} (hp : p ∈ pinsAt fp h) : p.1 ∈ fp ∧ h.get? p.1 = some p.2 := by
  obtain ⟨b, hb, e⟩ := List.mem_filterMap.mp hp
  cases q : h.get? b with
  | none => rw [q] at e; cases e
  | some o =>
    rw [q] at e
    have e' : (b, o) = p := Option.some.inj e
    subst e'
    exact ⟨hb, q⟩
theorem Inv.pinned {pins : List (Addr × Obj)} {σ : St} {H : Hp} {s : Shared} {fp : List Addr} (I : Inv X pins σ H s) (hf : ∀ b ∈ fp, FpOk X pins H b) (ho : ∀ b ∈ fp, ∃ o, s.heap.get? b = some o ∧ ∀ v, o.data ≠ .cell v) : Inv X (pins ++ pinsAt fp s.heap) σ H s :=
  I.pins_of fun p hp => (List.mem_append.mp hp).elim (fun z => I.pin p (List.mem_append_right _ z)) fun z => by
    obtain ⟨hb, e⟩ := zlo z
    obtain ⟨f0, f1, f2, _⟩ := hf p.1 hb
    obtain ⟨o, e', d⟩ := ho p.1 hb
    rw [e] at e'; cases e'
    exact ⟨e, f0, f1, f2, d⟩
theorem Inv.unpinned {pins pl : List (Addr × Obj)} {σ : St} {H : Hp} {s : Shared} (I : Inv X (pins ++ pl) σ H s) : Inv X pins σ H s := I.pins_of fun p hp => I.pin p (List.mem_append_right _ (List.mem_append_left _ hp))
theorem zrk {iter : Expr} {body : List Stmt} {wi : TI} {g : TG} {tb : TS} {pos : Pos} (hp : PassesOwn (model X.prog X.w) X.A X.env X.xe) (hc : X.calm = true) (hi : PI X tg iter wi) (hg : PG X tg g) (hb : PSs X body tb)
    (hs : ∀ x, foldedSetIterable iter X.env x = pure x := by intro _; rfl) : PS X (.For tg iter body [] pos) (tFor wi g tb) := by
  intro pins s σ H D I h
  refine wpAny_For (thn (hi pins s σ H _ I h) fun v s1 h1 => thn h1 fun itv s2 h2 => ?_) hs
  obtain ⟨it, fp, tn, J, H2, e, I2, T, st2, f2, W, ⟨m0, w0⟩, turn⟩ := h2
  subst e
  have stat : ∀ {H' : Hp}, (∀ b ∈ fp, H' b = none) → ∀ b ∈ fp, FpOk X pins H' b := fun hn b hb => ⟨hn b hb, (f2 b hb).2⟩
  refine codeAny_forLoop_any (fun n s' => ∃ i σ' H', Inv X pins σ' H' s' ∧ tn i s'.heap ∧ (∀ b ∈ fp, H' b = none) ∧ W i n σ' H') ?_ m0 ⟨0, σ, H2, I2, st2, fun b hb => (f2 b hb).1, w0⟩
  rintro n s3 ⟨i, σ3, H3, I3, st3, fr3, w3⟩
  rcases turn i n σ3 H3 w3 with ⟨stop, qn⟩ | ⟨go, N, hN, step⟩
  · refine wpAny_passesOwn hp (thn (T.done X rfl rfl rfl hc i pins s3 σ3 H3 X.xe I3 (stat fr3) st3 stop) fun r s4 ⟨hr, I4⟩ => ?_)
    subst hr
    exact wpAny_execs_nil ⟨σ3, H3, I4, qn⟩
  · refine wpAny_passesOwn hp (thn (T.item X rfl rfl rfl hc i pins s3 σ3 H3 X.xe I3 (stat fr3) st3 go) fun r s4 ⟨u, hr, h4⟩ => ?_)
    subst hr
    refine wpAny_passesOwn hp (thn h4 fun _ s5 ⟨x, H5, I5, r5, y5, st5, fr5⟩ => ?_)
    have I5' := I5.pinned (stat fr5) (T.obj _ _ st5)
    refine wpAny_passesOwn hp (thn (hg _ s5 σ3 H5 x u _ I5' r5 (step x H5 y5)) fun _ s6 ⟨σ6, H6, I6, q6⟩ => ?_)
    refine wpAny_passesOwn hp (thn (hb _ s6 σ6 H6 _ I6 q6) fun f s7 q7 => ?_)
    have again : ∀ {σ7 : St} {H7 : Hp}, Inv X (pins ++ pinsAt fp s5.heap) σ7 H7 s7 → N σ7 H7 → ∃ m, m < n ∧ ∃ i σ' H', Inv X pins σ' H' s7 ∧ tn i s7.heap ∧ (∀ b ∈ fp, H' b = none) ∧ W i m σ' H' := fun {σ7 H7} I7 n7 => by
      obtain ⟨m', hm, w7⟩ := hN σ7 H7 n7
      refine ⟨m', hm, i + 1, σ7, H7, I7.unpinned, T.keep _ _ _ st5 fun b hb o e => (I7.pin (b, o) (List.mem_append_right _ (List.mem_append_right _ (zci hb e)))).1, fun b hb => ?_, w7⟩
      obtain ⟨o, e, d⟩ := T.obj _ _ st5 b hb
      exact (I7.pin (b, o) (List.mem_append_right _ (List.mem_append_right _ (zci hb e)))).2.1
    cases f with
    | next => obtain ⟨σ7, H7, I7, n7⟩ := q7; exact again I7 n7
    | cont => obtain ⟨σ7, H7, I7, n7⟩ := q7; exact again I7 n7
    | brk => obtain ⟨σ7, H7, I7, q7⟩ := q7; exact ⟨σ7, H7, I7.unpinned, q7⟩
    | ret v => obtain ⟨x7, σ7, H7, I7, r7, q7⟩ := q7; exact ⟨x7, σ7, H7, I7.unpinned, r7, q7⟩
end
theorem zoh {K : PySem.W.Frag} {a : Addr} {xs : List V} {g : TG} {tb : TS} {D : Ends} {σ : St} {H : Hp} (Pv : Nat → St → Hp → Prop) (h0 : Pv 0 σ H) (hl : ∀ i σ H, i ≤ xs.length → Pv i σ H → SqL K H a xs)
    (hs : ∀ i x σ H, xs[i]? = some x → Pv i σ H → g x σ H fun σ2 H2 => tb { D with nx := Pv (i + 1), ct := Pv (i + 1), bk := D.nx } σ2 H2) (hd : ∀ σ H, Pv xs.length σ H → D.nx σ H) :
    ∃ W : Nat → Nat → St → Hp → Prop, (∃ m, W 0 m σ H) ∧ ∀ i m σ H, W i m σ H →
      ((Itl K a).stop i H ∧ D.nx σ H) ∨ ((Itl K a).go i H ∧ ∃ N : St → Hp → Prop, (∀ σ' H', N σ' H' → ∃ m', m' < m ∧ W (i + 1) m' σ' H') ∧ ∀ x H', (Itl K a).yld i H x H' → g x σ H' fun σ2 H2 => tb { D with nx := N, ct := N, bk := D.nx } σ2 H2) := by
  refine ⟨fun i m σ H => m = xs.length - i ∧ i ≤ xs.length ∧ Pv i σ H, ⟨xs.length, by simp, Nat.zero_le _, h0⟩, ?_⟩
  rintro i m σ H ⟨rfl, hi, p⟩
  have q := hl i σ H hi p
  by_cases hlt : i < xs.length
  · refine .inr ⟨⟨xs, xs[i], q, by simp [hlt]⟩, Pv (i + 1), fun σ' H' p' => ⟨xs.length - (i + 1), by omega, rfl, hlt, p'⟩, fun x H' y => ?_⟩
    obtain ⟨e, y⟩ := y
    subst e
    exact hs i x σ _ (y xs q) p
  · have e : i = xs.length := by omega
    subst e
    exact .inl ⟨⟨xs, q, Nat.le_refl _⟩, hd σ H p⟩
abbrev R2 := V → V → Hp → VK → Prop
def OpR (X : Cx) (f : Value → Value → Sem Value) (r : R2) : Prop :=
  ∀ (pins : List (Addr × Obj)) (s : Shared) (σ : St) (H : Hp) (x y : V) (v u : Value) (Q : VK), Inv X pins σ H s → RelV x v → RelV y u → r x y H Q →
    wpAny (model X.prog X.w) X.A (f v u) (EP X pins σ Q) X.xe s
def UnR (X : Cx) (f : Value → Sem Value) (r : V → Hp → VK → Prop) : Prop :=
  ∀ (pins : List (Addr × Obj)) (s : Shared) (σ : St) (H : Hp) (x : V) (v : Value) (Q : VK), Inv X pins σ H s → RelV x v → r x H Q →
    wpAny (model X.prog X.w) X.A (f v) (EP X pins σ Q) X.xe s
def CallR (X : Cx) (f : Value) (r : List V → Hp → VK → Prop) : Prop :=
  ∀ (pins : List (Addr × Obj)) (s : Shared) (σ : St) (H : Hp) (xs : List V) (us : List Value) (Q : VK), Inv X pins σ H s → Vals xs us → r xs H Q →
    wpAny (model X.prog X.w) X.A (call f us) (EP X pins σ Q) X.xe s
def TruR (X : Cx) (r : V → Hp → (Bool → Hp → Prop) → Prop) : Prop :=
  ∀ (pins : List (Addr × Obj)) (s : Shared) (σ : St) (H : Hp) (x : V) (v : Value) (Q : Bool → Hp → Prop), Inv X pins σ H s → RelV x v → r x H Q →
    wpAny (model X.prog X.w) X.A (truthy v) (TP X pins σ Q) X.xe s
def tOp (r : R2) (ta tb : TE) : TE := fun σ H Q => ta σ H fun x H1 => tb σ H1 fun y H2 => r x y H2 Q
def tUn (r : V → Hp → VK → Prop) (ta : TE) : TE := fun σ H Q => ta σ H fun x H1 => r x H1 Q
def rI (C : Int → Int → Prop) (g : Int → Int → V) : R2 := fun x y H Q => ∃ i j, x = .int i ∧ y = .int j ∧ C i j ∧ Q (g i j) H
def rI0 (g : Int → Int → V) : R2 := fun x y H Q => ∃ i j, x = .int i ∧ y = .int j ∧ Q (g i j) H
def rU (g : Int → V) : V → Hp → VK → Prop := fun x H Q => ∃ i, x = .int i ∧ Q (g i) H
section
variable {X : Cx} {a b c : Expr} {ta tb tc : TE} {pos : Pos}
theorem binT (ha : PE X a ta) (hb : PE X b tb) {pins : List (Addr × Obj)} {s : Shared} {σ : St} {H : Hp} {R : V → V → Hp → Prop} (I : Inv X pins σ H s)
    (h : ta σ H fun x H1 => tb σ H1 fun y H2 => R x y H2) {Q : Value → Shared → Prop} {f : Value → Value → Sem Value}
    (hf : ∀ v u s2 x y H2, Inv X pins σ H2 s2 → RelV x v → RelV y u → R x y H2 → wpAny (model X.prog X.w) X.A (f v u) Q X.xe s2) :
    wpAny (model X.prog X.w) X.A (eval a X.env) (fun v s₁ => wpAny (model X.prog X.w) X.A (eval b X.env) (fun u s₂ => wpAny (model X.prog X.w) X.A (f v u) Q X.xe s₂) X.xe s₁) X.xe s := by
  refine thn (ha pins s σ H _ I h) fun v s1 ⟨x, H1, I1, r1, q1⟩ => ?_
  refine thn (hb pins s1 σ H1 _ I1 q1) fun u s2 ⟨y, H2, I2, r2, q2⟩ => ?_
  exact hf v u s2 x y H2 I2 r1 r2 q2
theorem zay {op : Operator} {r : R2} (ho : OpR X (binaryOp op) r) (ha : PE X a ta) (hb : PE X b tb) : PE X (.BinOp a op b pos) (tOp r ta tb) := by
  intro pins s σ H Q I h
  exact wpAny_BinOp (binT ha hb I h fun v u s2 x y H2 I2 rx ry q => ho pins s2 σ H2 x y v u Q I2 rx ry q)
theorem zsn {op : UnaryOp} {r : V → Hp → VK → Prop} (ho : UnR X (unaryOp op) r) (ha : PE X a ta) : PE X (.UnaryOp op a pos) (tUn r ta) := by
  intro pins s σ H Q I h
  exact UnaryOp_ (thn (ha pins s σ H _ I h) fun v s1 ⟨x, H1, I1, r1, q1⟩ => ho pins s1 σ H1 x v Q I1 r1 q1)
theorem opI {f : Value → Value → Sem Value} {C : Int → Int → Prop} {g : Int → Int → Int}
    (rule : ∀ (i j : Int) (t u : Tok) (s : Shared) (Q : Value → Shared → Prop) (E : Value → Shared → Prop), C i j → Q (.int (g i j) s.toks) { s with toks := s.toks + 1 } → wpAny (model X.prog X.w) X.A (f (.int i t) (.int j u)) Q E s) :
    OpR X f (rI C fun i j => .int (g i j)) := by
  intro pins s σ H x y v u Q I rx ry h
  obtain ⟨i, j, rfl, rfl, hc, q⟩ := h
  obtain ⟨t, rfl⟩ := rx
  obtain ⟨t', rfl⟩ := ry
  exact rule i j t t' s _ _ hc ⟨.int (g i j), H, I.tok _, ⟨_, rfl⟩, q⟩
theorem opI0 {f : Value → Value → Sem Value} {g : Int → Int → Int}
    (rule : ∀ (i j : Int) (t u : Tok) (s : Shared) (Q : Value → Shared → Prop) (E : Value → Shared → Prop), Q (.int (g i j) s.toks) { s with toks := s.toks + 1 } → wpAny (model X.prog X.w) X.A (f (.int i t) (.int j u)) Q E s) :
    OpR X f (rI0 fun i j => .int (g i j)) := by
  intro pins s σ H x y v u Q I rx ry h
  obtain ⟨i, j, rfl, rfl, q⟩ := h
  obtain ⟨t, rfl⟩ := rx
  obtain ⟨t', rfl⟩ := ry
  exact rule i j t t' s _ _ ⟨.int (g i j), H, I.tok _, ⟨_, rfl⟩, q⟩
theorem opB0 {f : Value → Value → Sem Value} {g : Int → Int → Bool}
    (rule : ∀ (i j : Int) (t u : Tok) (s : Shared) (Q : Value → Shared → Prop) (E : Value → Shared → Prop), Q (.bool (g i j)) s → wpAny (model X.prog X.w) X.A (f (.int i t) (.int j u)) Q E s) :
    OpR X f (rI0 fun i j => .bl (g i j)) := by
  intro pins s σ H x y v u Q I rx ry h
  obtain ⟨i, j, rfl, rfl, q⟩ := h
  obtain ⟨t, rfl⟩ := rx
  obtain ⟨t', rfl⟩ := ry
  exact rule i j t t' s _ _ ⟨.bl (g i j), H, I, rfl, q⟩
def CDiv (i j : Int) : Prop := 0 < j ∧ j < 1073741824
def CPow (i j : Int) : Prop := 0 ≤ j ∧ j ≤ 1000000 ∧ i.natAbs < 2 ^ 64
def CMul (i j : Int) : Prop := (-(2 ^ 64) < i ∧ i < 2 ^ 64) ∨ (-(2 ^ 64) < j ∧ j < 2 ^ 64)
theorem CMul.ok {i j : Int} (h : CMul i j) : IntMulOk i j := by
  rcases h with ⟨h1, h2⟩ | ⟨h1, h2⟩
  · exact .of_left (intBits_le_64 h1 h2)
  · exact .of_right (intBits_le_64 h1 h2)
theorem zi3 (k : Nat) : (0 : Int) ≤ 2 ^ k := by
  rw [two_pow_cast]
  exact Int.natCast_nonneg _
theorem ziu : OpR X (binaryOp .Add) (rI0 fun i j => .int (i + j)) := opI0 fun _ _ _ _ _ _ _ q => add_int q
theorem zit : OpR X (binaryOp .Sub) (rI0 fun i j => .int (i - j)) := opI0 fun _ _ _ _ _ _ _ q => sub_int q
theorem zrs : OpR X (binaryOp .Mult) (rI CMul fun i j => .int (i * j)) := opI fun _ _ _ _ _ _ _ hc q => mul_int q hc.ok
theorem zcq : OpR X (binaryOp .FloorDiv) (rI CDiv fun i j => .int (i / j)) := opI fun i j _ _ _ _ _ hc q => by
  have h1 : (0 : Int) < j := hc.1
  have h2 : j < 1073741824 := hc.2
  exact floordiv_int (by omega) (by rw [Int.fdiv_eq_ediv_of_nonneg i (by omega)]; exact q) (.inl (PyProof.noPylong_small (by omega)))
theorem zbw : OpR X (binaryOp .Mod) (rI (fun _ j => 0 < j) fun i j => .int (i % j)) := opI fun i j _ _ _ _ _ hc q => by
  have h1 : (0 : Int) < j := hc
  exact mod_int' (by omega) (by rw [Int.fmod_eq_emod_of_nonneg i (by omega)]; exact q)
theorem zox : OpR X (binaryOp .Pow) (rI CPow fun i j => .int (i ^ j.toNat)) := opI fun _ _ _ _ _ _ _ hc q => pow_int_small hc.1 hc.2.1 hc.2.2 q
theorem zlb : OpR X (binaryOp .LShift) (rI CPow fun i j => .int (i * 2 ^ j.toNat)) := opI fun _ _ _ _ _ _ _ hc q => lshift_int_small hc.1 hc.2.1 hc.2.2 q
theorem zrq : OpR X (binaryOp .RShift) (rI (fun _ j => 0 ≤ j) fun i j => .int (i / 2 ^ j.toNat)) := opI fun i j _ _ _ _ _ hc q =>
  rshift_int hc (by rw [Int.fdiv_eq_ediv_of_nonneg i (zi3 _)]; exact q)
theorem zgj : OpR X (binaryOp .BitAnd) (rI0 fun i j => .int (Builtin.bitAnd i j)) := opI0 fun _ _ _ _ _ _ _ q => and_int q
theorem zsr : OpR X (binaryOp .BitOr) (rI0 fun i j => .int (Builtin.bitOr i j)) := opI0 fun _ _ _ _ _ _ _ q => or_int q
theorem unI {f : Value → Sem Value} {g : Int → Int}
    (rule : ∀ (i : Int) (t : Tok) (s : Shared) (Q : Value → Shared → Prop) (E : Value → Shared → Prop), Q (.int (g i) s.toks) { s with toks := s.toks + 1 } → wpAny (model X.prog X.w) X.A (f (.int i t)) Q E s) :
    UnR X f (rU fun i => .int (g i)) := by
  intro pins s σ H x v Q I rx h
  obtain ⟨i, rfl, q⟩ := h
  obtain ⟨t, rfl⟩ := rx
  exact rule i t s _ _ ⟨.int (g i), H, I.tok _, ⟨_, rfl⟩, q⟩
theorem zrb : UnR X (unaryOp .USub) (rU fun i => .int (-i)) := unI fun _ _ _ _ _ q => neg_int q
end
def scal : V → V → Bool
  | .non, .non => true | .non, .int _ => true | .int _, .non => true | .non, .bl _ => true | .bl _, .non => true | .non, .str _ => true | .str _, .non => true
  | .int _, .int _ => true | .bl _, .bl _ => true | .str _, .str _ => true | .byt _, .byt _ => true
  | .int _, .str _ => true | .str _, .int _ => true | .bl _, .str _ => true | .str _, .bl _ => true
  | _, _ => false
def rEq : R2 := fun x y H Q => scal x y = true ∧ Q (.bl (decide (x = y))) H
def rNe : R2 := fun x y H Q => scal x y = true ∧ Q (.bl (!decide (x = y))) H
theorem zmg {i j : Int} : decide (V.int i = V.int j) = (i == j) := by
  rw [Bool.eq_iff_iff]
  simp
theorem zpb {i j : Bool} : decide (V.bl i = V.bl j) = (i == j) := by
  rw [Bool.eq_iff_iff]
  simp
theorem zmf {i j : Str} : decide (V.str i = V.str j) = (i == j) := by
  rw [Bool.eq_iff_iff]
  simp
theorem zmh {i j : Array UInt8} : decide (V.byt i = V.byt j) = (i.toList == j.toList) := by
  rw [Bool.eq_iff_iff]
  cases i
  cases j
  simp
section
variable {X : Cx} {a b c : Expr} {ta tb tc : TE} {pos : Pos}
theorem za1 {pins : List (Addr × Obj)} {σ : St} {H : Hp} {s : Shared} {Q : VK} {k k' : Bool} (I : Inv X pins σ H s) (q : Q (.bl k) H) (e : k = k') : EP X pins σ Q (.bool k') s := by
  subst e
  exact ⟨.bl k, H, I, rfl, q⟩
theorem za7 : OpR X (compareOp .Eq) rEq := by
  intro pins s σ H x y v u Q I rx ry h
  obtain ⟨hs, q⟩ := h
  cases x with
  | non =>
    cases rx
    cases y with
    | non => cases ry; exact PySem.EqNone.eq_none_none (za1 I q (by simp))
    | bl j => cases ry; exact PySem.EqNone.eq_none_bool (za1 I q (by simp))
    | int j => obtain ⟨t', rfl⟩ := ry; exact PySem.EqNone.eq_none_int (za1 I q (by simp))
    | str j => obtain ⟨t', rfl⟩ := ry; exact PySem.EqNone.eq_none_str (za1 I q (by simp))
    | _ => exact absurd (show false = true from hs) Bool.false_ne_true
  | bl i =>
    cases rx
    cases y with
    | non => cases ry; exact PySem.EqNone.eq_bool_none (za1 I q (by simp))
    | bl j => cases ry; exact eq_bool (za1 I q zpb)
    | str j => obtain ⟨t', rfl⟩ := ry; exact PySem.EqMixed.eq_bool_str (za1 I q (by simp))
    | _ => exact absurd (show false = true from hs) Bool.false_ne_true
  | int i =>
    obtain ⟨t, rfl⟩ := rx
    cases y with
    | non => cases ry; exact PySem.EqNone.eq_int_none (za1 I q (by simp))
    | int j => obtain ⟨t', rfl⟩ := ry; exact eq_int (za1 I q zmg)
    | str j => obtain ⟨t', rfl⟩ := ry; exact PySem.EqMixed.eq_int_str (za1 I q (by simp))
    | _ => exact absurd (show false = true from hs) Bool.false_ne_true
  | str i =>
    obtain ⟨t, rfl⟩ := rx
    cases y with
    | non => cases ry; exact PySem.EqNone.eq_str_none (za1 I q (by simp))
    | bl j => cases ry; exact PySem.EqMixed.eq_str_bool (za1 I q (by simp))
    | int j => obtain ⟨t', rfl⟩ := ry; exact PySem.EqMixed.eq_str_int (za1 I q (by simp))
    | str j => obtain ⟨t', rfl⟩ := ry; exact eq_str (za1 I q zmf)
    | _ => exact absurd (show false = true from hs) Bool.false_ne_true
  | byt i =>
    obtain ⟨t, rfl⟩ := rx
    cases y with
    | byt j => obtain ⟨t', rfl⟩ := ry; exact PySem.W.eq_bytes (za1 I q zmh)
    | _ => exact absurd (show false = true from hs) Bool.false_ne_true
  | _ => cases y <;> exact absurd (show false = true from hs) Bool.false_ne_true
theorem zhl : OpR X (compareOp .NotEq) rNe := by
  intro pins s σ H x y v u Q I rx ry h
  obtain ⟨hs, q⟩ := h
  cases x with
  | non =>
    cases rx
    cases y with
    | non => cases ry; exact PySem.EqNone.ne_none_none (za1 I q (by simp))
    | bl j => cases ry; exact PySem.EqNone.ne_none_bool (za1 I q (by simp))
    | int j => obtain ⟨t', rfl⟩ := ry; exact PySem.EqNone.ne_none_int (za1 I q (by simp))
    | str j => obtain ⟨t', rfl⟩ := ry; exact PySem.EqNone.ne_none_str (za1 I q (by simp))
    | _ => exact absurd (show false = true from hs) Bool.false_ne_true
  | bl i =>
    cases rx
    cases y with
    | non => cases ry; exact PySem.EqNone.ne_bool_none (za1 I q (by simp))
    | bl j => cases ry; exact ne_bool (za1 I q (congrArg not zpb))
    | str j => obtain ⟨t', rfl⟩ := ry; exact PySem.EqMixed.ne_bool_str (za1 I q (by simp))
    | _ => exact absurd (show false = true from hs) Bool.false_ne_true
  | int i =>
    obtain ⟨t, rfl⟩ := rx
    cases y with
    | non => cases ry; exact PySem.EqNone.ne_int_none (za1 I q (by simp))
    | int j => obtain ⟨t', rfl⟩ := ry; exact ne_int (za1 I q (congrArg not zmg))
    | str j => obtain ⟨t', rfl⟩ := ry; exact PySem.EqMixed.ne_int_str (za1 I q (by simp))
    | _ => exact absurd (show false = true from hs) Bool.false_ne_true
  | str i =>
    obtain ⟨t, rfl⟩ := rx
    cases y with
    | non => cases ry; exact PySem.EqNone.ne_str_none (za1 I q (by simp))
    | bl j => cases ry; exact PySem.EqMixed.ne_str_bool (za1 I q (by simp))
    | int j => obtain ⟨t', rfl⟩ := ry; exact PySem.EqMixed.ne_str_int (za1 I q (by simp))
    | str j => obtain ⟨t', rfl⟩ := ry; exact ne_str (za1 I q (congrArg not zmf))
    | _ => exact absurd (show false = true from hs) Bool.false_ne_true
  | byt i =>
    obtain ⟨t, rfl⟩ := rx
    cases y with
    | byt j => obtain ⟨t', rfl⟩ := ry; exact PySem.W.ne_bytes (za1 I q (congrArg not zmh))
    | _ => exact absurd (show false = true from hs) Bool.false_ne_true
  | _ => cases y <;> exact absurd (show false = true from hs) Bool.false_ne_true
theorem zrt : OpR X (compareOp .Lt) (rI0 fun i j => .bl (decide (i < j))) := opB0 fun _ _ _ _ _ _ _ q => lt_int q
theorem zru : OpR X (compareOp .LtE) (rI0 fun i j => .bl (decide (i ≤ j))) := opB0 fun _ _ _ _ _ _ _ q => le_int q
theorem znq : OpR X (compareOp .Gt) (rI0 fun i j => .bl (decide (j < i))) := opB0 fun _ _ _ _ _ _ _ q => gt_int q
theorem zgi : OpR X (compareOp .In) (fun x y H Q => ∃ i j, x = .str i ∧ y = .str j ∧ Q (.bl (!(Builtin.Str.occurrences j i 0 j.length 1).isEmpty)) H) := by
  intro pins s σ H x y v u Q I rx ry h
  obtain ⟨i, j, rfl, rfl, q⟩ := h
  obtain ⟨t, rfl⟩ := rx
  obtain ⟨t', rfl⟩ := ry
  exact in_str (za1 I q rfl)
theorem zrv : OpR X (compareOp .Is) (fun x y H Q => y = .non ∧ Q (.bl (decide (x = .non))) H) := by
  intro pins s σ H x y v u Q I rx ry h
  obtain ⟨rfl, q⟩ := h
  cases ry
  refine is_none_gen (za1 I q ?_)
  cases x <;> first
    | (cases rx; rfl)
    | (obtain ⟨t, rfl⟩ := rx; rfl)
theorem nomark (b : Expr) {op : CmpOp} (h : op ≠ .In := by decide) (h2 : op ≠ .NotIn := by decide) : behindInMarks op b = false := by
  have e1 : (op == CmpOp.In) = false := by cases op <;> first | rfl | exact absurd rfl h
  have e2 : (op == CmpOp.NotIn) = false := by cases op <;> first | rfl | exact absurd rfl h2
  cases b <;> simp [behindInMarks, e1, e2]
theorem zbg {op : CmpOp} {r : R2} (ho : OpR X (compareOp op) r) (ha : PE X a ta) (hb : PE X b tb) (hm : behindInMarks op b = false) : PE X (.Compare a [op] [b] pos) (tOp r ta tb) := by
  intro pins s σ H Q I h
  exact wpAny_Compare1 (binT ha hb I h fun v u s2 x y H2 I2 rx ry q => ho pins s2 σ H2 x y v u Q I2 rx ry q) hm
def tTest (t : TE) : TT := fun σ H Q => t σ H fun x H' => ∃ k, x = .bl k ∧ Q k H'
theorem zaj {op : CmpOp} {r : R2} (ho : OpR X (compareOp op) r) (ha : PE X a ta) (hb : PE X b tb) (hm : behindInMarks op b = false) : PT X (.Compare a [op] [b] pos) (tTest (tOp r ta tb)) := by
  intro pins s σ H Q I h
  refine wpAny_isTrue_Compare1 (thn (ha pins s σ H _ I h) fun v s1 ⟨x, H1, I1, r1, q1⟩ => thn (hb pins s1 σ H1 _ I1 q1) fun u s2 ⟨y, H2, I2, r2, q2⟩ =>
    thn (ho pins s2 σ H2 x y v u _ I2 r1 r2 q2) fun c s3 ⟨z, H3, I3, r3, k, e, q3⟩ => ?_) hm
  subst e
  cases r3
  exact wpAny_truthy_bool ⟨H3, I3, q3⟩
def tChain (r r' : R2) (ta tb tc : TE) : TE := fun σ H Q => ta σ H fun x H1 => tb σ H1 fun y H2 => r x y H2 fun z H3 => ∃ k, z = .bl k ∧
  (if k = true then tc σ H3 fun w' H4 => r' y w' H4 Q else Q (.bl false) H3)
theorem zno {op op' : CmpOp} {r r' : R2} (ho : OpR X (compareOp op) r) (ho' : OpR X (compareOp op') r') (ha : PE X a ta) (hb : PE X b tb) (hc : PE X c tc)
    (hm : lastMarks [op, op'] [b, c] = false := by with_unfolding_all rfl) : PE X (.Compare a [op, op'] [b, c] pos) (tChain r r' ta tb tc) := by
  intro pins s σ H Q I h
  refine Compare_chain (thn (ha pins s σ H _ I h) fun v s1 ⟨x, H1, I1, r1, q1⟩ => chain_link (thn (hb pins s1 σ H1 _ I1 q1) fun u s2 ⟨y, H2, I2, r2, q2⟩ =>
    thn (ho pins s2 σ H2 x y v u _ I2 r1 r2 q2) fun d s3 ⟨z, H3, I3, r3, k, e, q3⟩ => ?_)) hm
  subst e
  cases r3
  refine wpAny_truthy_bool ?_
  cases k with
  | false => exact ite_ff ⟨.bl false, H3, I3, rfl, q3⟩
  | true => exact ite_tt (chain_last (thn (hc pins s3 σ H3 _ I3 q3) fun w' s4 ⟨z', H4, I4, r4, q4⟩ => ho' pins s4 σ H4 y z' u w' Q I4 r2 r4 q4))
def TruV (K : PySem.W.Frag) (x : V) (H : Hp) (k : Bool) : Prop :=
  match x with
  | .non => k = false
  | .bl b => k = b
  | .int i => k = (i != 0)
  | .str y => y.length ≤ sizeLine ∧ k = ((y.length : Int) != 0)
  | .byt y => y.size ≤ sizeLine ∧ k = ((y.size : Int) != 0)
  | .ref p => (∃ xs, SqL K H p xs ∧ k = !xs.isEmpty) ∨ (∃ xs, SqT K H p xs ∧ k = !xs.isEmpty) ∨ ∃ kvs, H p = some (.dK kvs) ∧ k = !kvs.isEmpty
  | _ => False
theorem zjp {κ : Type} {kvs : List (κ × V)} {vs : List (κ × Value)} (r : KV kvs vs) : (!vs.isEmpty) = !kvs.isEmpty := by
  cases r <;> rfl
theorem ze0 {xs : List V} {its : List Value} (r : Vals xs its) : (!its.toArray.isEmpty) = !xs.isEmpty := by
  cases r <;> simp
theorem line63 : (sizeLine : Nat) < 2 ^ 63 := by rw [sizeLine_eq]; decide
theorem zrd : TruR X (fun x H Q => ∃ k, TruV X.K x H k ∧ Q k H) := by
  intro pins s σ H x v Q I rx h
  obtain ⟨k, e, q⟩ := h
  have hl := line63
  have hs : sizeLine = 16777216 := sizeLine_eq
  cases x with
  | non =>
    cases rx
    have e' : k = false := e
    subst e'
    exact truthy_none ⟨H, I, q⟩
  | bl b =>
    cases rx
    have e' : k = b := e
    subst e'
    exact wpAny_truthy_bool ⟨H, I, q⟩
  | int i =>
    obtain ⟨t, rfl⟩ := rx
    have e' : k = (i != 0) := e
    subst e'
    exact PySem.P.truthy_int ⟨H, I, q⟩
  | str y =>
    obtain ⟨t, rfl⟩ := rx
    obtain ⟨hy, e'⟩ : y.length ≤ sizeLine ∧ k = ((y.length : Int) != 0) := e
    subst e'
    exact PySem.P.truthy_str (by omega) ⟨H, I.tok _, q⟩
  | byt y =>
    obtain ⟨t, rfl⟩ := rx
    obtain ⟨hy, e'⟩ : y.size ≤ sizeLine ∧ k = ((y.size : Int) != 0) := e
    subst e'
    exact PySem.W.truthy_bytes (by omega) ⟨H, I.tok _, q⟩
  | ref p =>
    cases rx
    have e' : (∃ xs, SqL X.K H p xs ∧ k = !xs.isEmpty) ∨ (∃ xs, SqT X.K H p xs ∧ k = !xs.isEmpty) ∨ ∃ kvs, H p = some (.dK kvs) ∧ k = !kvs.isEmpty := e
    rcases e' with ⟨xs, hx, e'⟩ | ⟨xs, hx, e'⟩ | ⟨kvs, hx, e'⟩
    · subst e'
      obtain ⟨its, r, pl, hz⟩ := I.list hx
      have hlen := r.length
      exact wpAny_truthy_list pl.isList (by simp only [List.size_toArray]; omega) ⟨H, I.tok _, by rw [ze0 r]; exact q⟩
    · subst e'
      obtain ⟨its, r, pl, hz⟩ := I.tuple hx
      have hlen := r.length
      exact truthy_tuple pl (by simp only [List.size_toArray]; omega) ⟨H, I.tok _, by rw [ze0 r]; exact q⟩
    · subst e'
      obtain ⟨hz, hS, vs, r, m⟩ : kvs.length ≤ sizeLine ∧ (p == sysModules) = false ∧ ∃ vs, KV kvs vs ∧ s.heap.DictOf (mixKind X.prog X.w) p vs := I.hok p _ hx
      have hlen : kvs.length = vs.length := Paired.length r
      exact wpAny_truthy_dict hS m (by omega) ⟨H, I.tok _, by rw [zjp r]; exact q⟩
  | _ => exact (show False from e).elim
theorem znb (ha : PE X a ta) (he : ∀ whole, isTrue a X.env whole = (do let v ← whole; standAt a.pos; holding [v] (truthy v))) :
    PT X a (fun σ H Q => ta σ H fun x H' => ∃ k, TruV X.K x H' k ∧ Q k H') := by
  intro pins s σ H Q I h
  exact isTrue_plain (thn (ha pins s σ H _ I h) fun v s1 ⟨x, H1, I1, r1, q1⟩ => zrd pins s1 σ H1 x v Q I1 r1 q1) (he _)
theorem vals1 {x : V} {us : List Value} (r : Vals [x] us) : ∃ u, us = [u] ∧ RelV x u := by
  cases r with
  | cons r1 r2 => cases r2; exact ⟨_, rfl, r1⟩
theorem vals2 {x y : V} {us : List Value} (r : Vals [x, y] us) : ∃ u w', us = [u, w'] ∧ RelV x u ∧ RelV y w' := by
  cases r with
  | cons r1 r2 =>
    cases r2 with
    | cons r3 r4 => cases r4; exact ⟨_, _, rfl, r1, r3⟩
end
structure ObjM (h : Heap) (x dx C : Addr) (mA : Str → Option Value) : Prop where
  obj : h.get? x = some (PySem.W.instObj C dx)
  ns : h.Ns1 dx mA
  ne : dx ≠ x
theorem zlv {h : Heap} {dx : Addr} {mA : Str → Option Value} (n : h.Ns1 dx mA) : ∃ od, h.get? dx = some od ∧ ∀ name, PySem.W.lookIn name od = some (mA name) := by
  obtain ⟨o, es, ep, ho, hd, hk, _, hm⟩ := n
  refine ⟨o, ho, fun name => ?_⟩
  have e := hm name
  unfold nsFind findBy at e
  rw [← Array.find?_toList] at e
  unfold PySem.W.lookIn
  rw [hd]
  dsimp only
  split
  · rename_i y q
    rw [q] at e
    exact congrArg some e
  · rename_i q
    rw [q] at e
    have a : es.toList.any (·.refKey) = false := by
      rw [List.any_eq_false]
      intro y hy
      obtain ⟨z, t, hkey⟩ := hk y (Array.mem_toList_iff.mp hy)
      simp [DictEntry.refKey, hkey]
    have a' : ¬ es.toList.any (·.refKey) = true := by rw [a]; exact Bool.false_ne_true
    rw [if_neg a']
    exact congrArg some e
theorem ObjM.look {h : Heap} {x dx C : Addr} {mA : Str → Option Value} (I : ObjM h x dx C mA) : ∃ od, PySem.W.InstAt h x (PySem.W.instObj C dx) C (some od) ∧ ∀ name, PySem.W.lookIn name od = some (mA name) :=
  let ⟨od, ho, hl⟩ := zlv I.ns
  ⟨od, ⟨I.obj, rfl, rfl, ho⟩, hl⟩
section
variable {prog : Program} {w : World} {A : Around} {E : Value → Shared → Prop} {s : Shared} {K : PySem.W.Frag} {x dx C f : Addr} {mA : Str → Option Value} {name : Str} {v : Value}
theorem zqv {expr : Bool} {Q : Value → Shared → Prop} (X : K.In s.heap) (I : ObjM s.heap x dx C mA) (hg : PySem.W.plainGet K C name = true) (hh : PySem.W.hasDictIn K C = true)
    (ha : PySem.W.findIn K (.ref C) name = some none) (hv : mA name = some v) (hv' : PySem.W.handedIn v = true) (h : Q v { s with toks := s.toks + 1 }) :
    wpAny (model prog w) A (getAttr (.ref x) name expr) Q E s := by
  obtain ⟨od, J, hl⟩ := I.look
  exact PySem.W.get_value X J (PySem.W.plainGet_of hg).1 (PySem.W.findObj_own hh ha rfl (by rw [hl, hv])) hv' h
theorem zof {pl : Sem Bool} {Q : Value × List Value → Shared → Prop} (X : K.In s.heap) (I : ObjM s.heap x dx C mA) (hg : PySem.W.plainGet K C name = true)
    (hf : PySem.W.findIn K (.ref C) name = some (some (.ref f))) (ht : PySem.W.isFn K (.ref f) = true) (hv : mA name = none) (h : Q (.ref f, [.ref x]) s) :
    wpAny (model prog w) A (getMethod (.ref x) name pl) Q E s := by
  obtain ⟨od, J, hl⟩ := I.look
  exact PySem.W.method_fn X J (PySem.W.plainGet_of hg).1 (PySem.W.plainGet_of hg).2 hf (beq_iff_eq.mp ht) (by show (PySem.W.lookIn name od).map (·.isSome) = some false; rw [hl, hv]; rfl) h
theorem zpp {ns : List Str} {Q : Unit → Shared → Prop} (X : K.In s.heap) (I : ObjM s.heap x dx C mA)
    (hs : PySem.W.findIn K (.ref C) "__setattr__" = some (some (.builtin "object.__setattr__"))) (hp : PySem.W.plainOver K C = true) (ht : PySem.W.takerIn K C name = some none) (hh : PySem.W.hasDictIn K C = true)
    (hw : PySem.Within mA ns) (hsz : ns.length ≤ sizeLine)
    (h : ∀ h', ObjM h' x dx C (fun y => if y = name then some v else mA y) → Heap.SameBut dx s.heap h' → Q () { s with heap := h', toks := s.toks + 2 }) :
    wpAny (model prog w) A (setAttr (.ref x) name v) Q E s := by
  obtain ⟨od, J, hl⟩ := I.look
  refine PySem.W.set_plain X J hs (PySem.W.osa_open (s := { s with toks := s.toks + 1 }) (r := none) X J hp ht fun b => ?_)
  obtain ⟨cd, hc, hd'⟩ := PySem.W.any_some hh
  have hx : s.heap.get? x = some ⟨.ref C, some dx, .plain, #[]⟩ := I.obj
  refine wpAny_bind (wpAny_pure (wpAny_bind (wpAny_bind (wpAny_loadPart hx (wpAny_bind (PySem.W.Looks.here (s := { s with toks := s.toks + 1 }) (PySem.W.looks_clsIn X hc) ?_))))))
  rw [hd']
  refine wpAny_pure (a := some dx) (wpAny_bind (wpAny_pure (wpAny_bind ?_)))
  refine wpAny_nsSet1 (s := { s with toks := s.toks + 1 }) I.ns fun h' hn2 hs2 => ?_
  obtain ⟨oD, esD, epD, hoD, hdD, hcD⟩ := hn2.count (PySem.Within.cons name v hw)
  refine wpAny_bind (wpAny_lookBehind hoD (by rw [hdD]; exact pastItsLine_dict (Nat.le_trans hcD (by rw [List.length_cons]; omega))) ?_)
  exact wpAny_pure (h _ ⟨(hs2.2 _ (Ne.symm I.ne)).trans I.obj, hn2, I.ne⟩ hs2)
theorem zoa {R : Result → Shared → Prop} {vs : List Value} {kw : List (Str × Value)} (X : K.In s.heap) (hm : PySem.W.makesIn K C = true)
    (hi : PySem.W.findIn K (.ref C) "__init__" = some (some (.ref f))) (hf : PySem.W.typeIn K (.ref f) = some (.type "function"))
    (h : codeAny (model prog w) (A.under (.builtin "type.__call__" ⟨.ref C :: vs, kw⟩)) (.call (.ref f) ⟨.ref (s.heap.objs.size + 1) :: vs, kw⟩) (PySem.W.InitBack (s.heap.objs.size + 1) R)
      { s with heap := (s.heap.push PySem.W.emptyDict).push (PySem.W.instObj C s.heap.objs.size) }) :
    codeAny (model prog w) A (.call (.ref C) ⟨vs, kw⟩) R s := by
  obtain ⟨hh, g, d, t, os⟩ := s
  exact PySem.W.make_core (PySem.W.makes_of X hm) (PySem.W.looks_findIn X hi) (fun self => PySem.W.bind_fn X self hf) (.inl rfl) h
end
def putF (f : Str) (v : V) : List (Str × V) → List (Str × V)
  | [] => [(f, v)]
  | (g, x) :: r => if g = f then (g, v) :: r else (g, x) :: putF f v r
theorem zd1 (f g : Str) (v : V) : ∀ fs : List (Str × V), (putF f v fs).lookup g = if g = f then some v else fs.lookup g
  | [] => by
    show List.lookup g [(f, v)] = _
    by_cases h : g = f
    · have hb : (g == f) = true := beq_iff_eq.mpr h
      simp only [List.lookup, hb, if_pos h]
    · have hb : (g == f) = false := beq_eq_false_iff_ne.mpr h
      simp only [List.lookup, hb, if_neg h]
  | (k, x) :: r => by
    have ih := zd1 f g v r
    rw [show putF f v ((k, x) :: r) = (if k = f then (k, v) :: r else (k, x) :: putF f v r) from rfl]
    by_cases hk : k = f
    · rw [if_pos hk]
      by_cases h : g = k
      · have hb : (g == k) = true := beq_iff_eq.mpr h
        simp only [List.lookup, hb, if_pos (h.trans hk)]
      · have hb : (g == k) = false := beq_eq_false_iff_ne.mpr h
        simp only [List.lookup, hb, if_neg (fun e : g = f => h (e.trans hk.symm))]
    · rw [if_neg hk]
      by_cases h : g = k
      · have hb : (g == k) = true := beq_iff_eq.mpr h
        simp only [List.lookup, hb, if_neg (fun e : g = f => hk (h.symm.trans e))]
      · have hb : (g == k) = false := beq_eq_false_iff_ne.mpr h
        simp only [List.lookup, hb]
        exact ih
theorem zd3 (f : Str) (v : V) : ∀ fs : List (Str × V), f ∈ (putF f v fs).map (·.1) ∧ ∀ g, g ∈ fs.map (·.1) → g ∈ (putF f v fs).map (·.1)
  | [] => ⟨by simp [putF], fun g h => by simp at h⟩
  | (k, x) :: r => by
    obtain ⟨i1, i2⟩ := zd3 f v r
    rw [show putF f v ((k, x) :: r) = (if k = f then (k, v) :: r else (k, x) :: putF f v r) from rfl]
    by_cases hk : k = f
    · rw [if_pos hk]
      subst hk
      exact ⟨by simp, fun g h => by simpa using h⟩
    · rw [if_neg hk]
      refine ⟨?_, fun g h => ?_⟩
      · rw [List.map_cons]
        exact List.mem_cons_of_mem _ i1
      · rw [List.map_cons] at h ⊢
        rcases List.mem_cons.mp h with e | e
        · exact List.mem_cons.mpr (.inl e)
        · exact List.mem_cons_of_mem _ (i2 g e)
theorem zb1 (f : Str) (v : V) : ∀ fs : List (Str × V), (putF f v fs).length ≤ fs.length + 1
  | [] => by simp [putF]
  | (k, x) :: r => by
    have ih := zb1 f v r
    rw [show putF f v ((k, x) :: r) = (if k = f then (k, v) :: r else (k, x) :: putF f v r) from rfl]
    by_cases hk : k = f
    · rw [if_pos hk, List.length_cons, List.length_cons]; omega
    · rw [if_neg hk, List.length_cons, List.length_cons]; omega
theorem RelO.some_of {v : V} {o : Option Value} (r : RelO (some v) o) : ∃ u, o = some u ∧ RelV v u := by
  cases o with
  | none => exact (show False from r).elim
  | some u => exact ⟨u, rfl, r⟩
theorem RelO.none_of {o : Option Value} (r : RelO none o) : o = none := by
  cases o with
  | none => rfl
  | some u => exact (show False from r).elim
theorem zl9 {v : V} {u : Value} (r : RelV v u) : PySem.W.handedIn u = true := by
  cases v with
  | non => cases (show u = Value.none from r); rfl
  | bl b => cases (show u = Value.bool b from r); rfl
  | int i => obtain ⟨t, e⟩ := (show ∃ t, u = Value.int i t from r); cases e; rfl
  | str x => obtain ⟨t, e⟩ := (show ∃ t, u = Value.str x t from r); cases e; rfl
  | byt b => obtain ⟨t, e⟩ := (show ∃ t, u = Value.bytes b t from r); cases e; rfl
  | flt b => obtain ⟨t, e⟩ := (show ∃ t, u = Value.float b t from r); cases e; rfl
  | ref a => cases (show u = Value.ref a from r); rfl
  | ty n => cases (show u = Value.type n from r); rfl
section
variable {P : Program} {w : World} {H H' : Hp} {h h' : Heap} {a C dx : Addr} {fs fs' : List (Str × V)}
theorem zfl (hok : HOk P w H h) (e : H a = some (.ins C dx fs)) : ∃ mA, ObjM h a dx C mA ∧ (∀ f, RelO (fs.lookup f) (mA f)) ∧ PySem.Within mA (fs.map (·.1)) ∧ fs.length ≤ 1000 ∧ H dx = some (.own a) := by
  obtain ⟨d, z, ne, ob, mA, n, r, q⟩ := (show ObjOk P w H h a (.ins C dx fs) from hok a _ e)
  exact ⟨mA, ⟨ob, n, ne⟩, r, q, z, d⟩
end
structure Cls (K : PySem.W.Frag) (C : Addr) : Prop where
  pg : PySem.W.plainGet K C Str.empty = true
  hd : PySem.W.hasDictIn K C = true
  po : PySem.W.plainOver K C = true
  sa : PySem.W.findIn K (.ref C) "__setattr__" = some (some (.builtin "object.__setattr__"))
theorem Cls.get {K : PySem.W.Frag} {C : Addr} (c : Cls K C) (f : Str) : PySem.W.plainGet K C f = true := c.pg
def NoAttr (K : PySem.W.Frag) (C : Addr) (f : Str) : Prop := PySem.W.findIn K (.ref C) f = some none
theorem NoAttr.taker {K : PySem.W.Frag} {C : Addr} {f : Str} (n : NoAttr K C f) : PySem.W.takerIn K C f = some none := by
  unfold PySem.W.takerIn
  rw [show PySem.W.findIn K (.ref C) f = some none from n]
  rfl
structure Meth (K : PySem.W.Frag) (C : Addr) (m : Str) (f : Addr) : Prop where
  at_ : PySem.W.findIn K (.ref C) m = some (some (.ref f))
  fn : PySem.W.isFn K (.ref f) = true
  kp : PySem.W.keepIn K (.ref f) = true
section
variable {X : Cx} {pins : List (Addr × Obj)} {σ : St} {H : Hp} {s : Shared} {a C dx : Addr} {fs : List (Str × V)} {f : Str} {v : V} {A : Around} {E : Value → Shared → Prop}
theorem zju {b : Bool} {Q : Value → Shared → Prop} (I : Inv X pins σ H s) (e : H a = some (.ins C dx fs)) (c : Cls X.K C) (n : NoAttr X.K C f) (l : fs.lookup f = some v)
    (h : ∀ u s', Inv X pins σ H s' → RelV v u → Q u s') : wpAny (model X.prog X.w) A (getAttr (.ref a) f b) Q E s := by
  obtain ⟨mA, O, r, _, _, _⟩ := zfl I.hok e
  obtain ⟨u, hu, ru⟩ := RelO.some_of (v := v) (o := mA f) (by rw [← l]; exact r f)
  exact zqv I.kIn O (c.get f) c.hd n hu (zl9 ru) (h u _ (I.tok _) ru)
theorem zjt {m : Str} {g : Addr} {pl : Sem Bool} {Q : Value × List Value → Shared → Prop} (I : Inv X pins σ H s) (e : H a = some (.ins C dx fs)) (c : Cls X.K C) (k : Meth X.K C m g) (l : fs.lookup m = none)
    (h : Q (.ref g, [.ref a]) s) : wpAny (model X.prog X.w) A (getMethod (.ref a) m pl) Q E s := by
  obtain ⟨mA, O, r, _, _, _⟩ := zfl I.hok e
  have hn : mA m = none := RelO.none_of (by rw [← l]; exact r m)
  exact zof I.kIn O (c.get m) k.at_ k.fn hn h
theorem zi7 {y : V} {u : Value} {Q : Unit → Shared → Prop} (I : Inv X pins σ H s) (e : H a = some (.ins C dx fs)) (c : Cls X.K C) (n : NoAttr X.K C f) (hl : fs.length < 1000) (ry : RelV y u)
    (h : ∀ s', Inv X pins σ (upd H a (.ins C dx (putF f y fs))) s' → Q () s') : wpAny (model X.prog X.w) A (setAttr (.ref a) f u) Q E s := by
  obtain ⟨mA, O, r, wi, _, ho⟩ := zfl I.hok e
  have hz : (fs.map (·.1)).length ≤ sizeLine := by rw [List.length_map, sizeLine_eq]; omega
  refine zpp I.kIn O c.sa c.po n.taker c.hd wi hz fun h' O' sb => h _ ?_
  have hd : ∃ o, h'.get? dx = some o := let ⟨o, _, _, e', _⟩ := O'.ns; ⟨o, e'⟩
  refine I.write (x := a) (e := dx) (by rw [e]; exact True.intro) (.inr ho) (fun b q hb z => (sb.2 b hb).trans z) hd ?_
  refine ⟨by rw [zan O.ne]; exact ho, ?_, O.ne, O'.obj, _, O'.ns, fun g => ?_, fun g hg => ?_⟩
  · have := zb1 f y fs; omega
  · show RelO ((putF f y fs).lookup g) (if g = f then some u else mA g)
    rw [zd1]
    by_cases q : g = f
    · rw [if_pos q, if_pos q]; exact ry
    · rw [if_neg q, if_neg q]; exact r g
  · by_cases q : g = f
    · rw [q]; exact (zd3 f y fs).1
    · refine (zd3 f y fs).2 g (wi g fun z => hg ?_)
      show (if g = f then some u else mA g) = none
      rw [if_neg q]; exact z
theorem Inv.made (I : Inv X pins σ H s) : Inv X pins σ (upd (upd H s.heap.objs.size (.own (s.heap.objs.size + 1))) (s.heap.objs.size + 1) (.ins C s.heap.objs.size []))
    { s with heap := (s.heap.push PySem.W.emptyDict).push (PySem.W.instObj C s.heap.objs.size) } := by
  have e1 : (s.heap.push PySem.W.emptyDict).get? s.heap.objs.size = some PySem.W.emptyDict := Heap.get?_push_size s.heap rfl
  have e2 : ((s.heap.push PySem.W.emptyDict).push (PySem.W.instObj C s.heap.objs.size)).get? (s.heap.objs.size + 1) = some (PySem.W.instObj C s.heap.objs.size) := by
    have := Heap.get?_push_size (s.heap.push PySem.W.emptyDict) (o := PySem.W.instObj C s.heap.objs.size) rfl
    rwa [Heap.size_push] at this
  have e3 : (s.heap.push PySem.W.emptyDict).Ns s.heap.objs.size (fun _ => none) := ⟨PySem.W.emptyDict, #[], _, e1, rfl, (fun e he => absurd he (by simp)), fun _ => rfl⟩
  have I1 := I.laid (a := s.heap.objs.size) (o := .own (s.heap.objs.size + 1)) (h' := s.heap.push PySem.W.emptyDict) (t' := s.toks) (fun b u q => Heap.get?_push_of_some _ q) (Nat.le_refl _) ⟨_, e1⟩
  refine I1.laid (a := s.heap.objs.size + 1) (o := .ins C s.heap.objs.size []) (t' := s.toks) (fun b u q => Heap.get?_push_of_some _ q) (Nat.le_of_eq (Heap.size_push _ _)) ?_
  have ne : s.heap.objs.size ≠ s.heap.objs.size + 1 := Nat.ne_of_lt (Nat.lt_succ_self _)
  refine ⟨by rw [zan ne, zau], Nat.zero_le _, ne, e2, fun _ => none, (Heap.Ns1.of_empty e3).at fun o q => Heap.get?_push_of_some _ q, fun _ => True.intro, fun y hy => absurd rfl hy⟩
theorem zq8 {prog : Program} {w : World} {env : Env} {e : Expr} {f : Str} {pos : Pos} {s : Shared} {Q : Value → Shared → Prop} (hb : attributeBase e f env (eval e env) = eval e env)
    (h : wpAny (model prog w) A (eval e env) (fun o s₁ => wpAny (model prog w) A (getAttr o f true) Q E s₁) E s) : wpAny (model prog w) A (eval (.Attribute e f pos) env) Q E s :=
  Attribute_any_ h (by rw [arm_eval_Attribute, hb])
end
def tFld (K : PySem.W.Frag) (ta : TE) (f : Str) : TE := fun σ H Q => ta σ H fun x H1 => ∃ a C dx fs v, x = .ref a ∧ H1 a = some (.ins C dx fs) ∧ Cls K C ∧ NoAttr K C f ∧ fs.lookup f = some v ∧ Q v H1
def sFld (K : PySem.W.Frag) (ta tv : TE) (f : Str) : TS := fun D σ H => tv σ H fun y H1 => ta σ H1 fun x H2 => ∃ a C dx fs, x = .ref a ∧ H2 a = some (.ins C dx fs) ∧ Cls K C ∧ NoAttr K C f ∧ fs.length < 1000 ∧
  D.nx σ (upd H2 a (.ins C dx (putF f y fs)))
section
variable {X : Cx} {o e value : Expr} {f : Str} {pos pos' tpos : Pos} {ta tv : TE}
theorem zbt (he : PE X e ta) (hb : attributeBase e f X.env (eval e X.env) = eval e X.env) : PE X (.Attribute e f pos) (tFld X.K ta f) := by
  intro pins s σ H Q I h
  refine zq8 hb (thn (he pins s σ H _ I h) fun u s1 ⟨x, H1, I1, rx, a, C, dx, fs, v, ex, ea, c, n, l, q⟩ => ?_)
  subst ex
  obtain rfl : u = Value.ref a := rx
  exact zju I1 ea c n l fun u' s2 I2 ru => ⟨v, H1, I2, ru, q⟩
theorem zk0 (ha : PE X o ta) (hv : PE X value tv) (hs : swapsWith value (some (.Attribute o f pos')) pos.line X.env = pure false) : PS X (.Assign [.Attribute o f pos'] value pos) (sFld X.K ta tv f) := by
  intro pins s σ H D I h
  refine plainObj_wpAny_Assign_Attribute (thn (hv pins s σ H _ I h) fun u s1 ⟨y, H1, I1, ry, q⟩ => thn (ha pins s1 σ H1 _ I1 q) fun ov s2 ⟨x, H2, I2, rx, a, C, dx, fs, ex, ea, c, n, l, q2⟩ => ?_) hs
  subst ex
  obtain rfl : ov = Value.ref a := rx
  exact zi7 I2 ea c n l ry fun s3 I3 => ⟨σ, _, I3, q2⟩
end
section
variable {X : Cx} {pins : List (Addr × Obj)} {σ : St} {H : Hp} {s : Shared} {A : Around} {E : Value → Shared → Prop} {Q : Value → Shared → Prop} {c : Value} {b : Bool}
inductive TyOf (K : PySem.W.Frag) (H : Hp) : V → Value → Prop where
  | non : TyOf K H .non (.type "NoneType")
  | bl (x : Bool) : TyOf K H (.bl x) (.type "bool")
  | int (i : Int) : TyOf K H (.int i) (.type "int")
  | str (x : Str) : TyOf K H (.str x) (.type "str")
  | flt (x : UInt64) : TyOf K H (.flt x) (.type "float")
  | lst {a : Addr} {xs : List V} (e : H a = some (.lst xs)) : TyOf K H (.ref a) (.type "list")
  | frz {a : Addr} {o : Obj} {xs : List V} (e : H a = some (.frz o (.lst xs))) : TyOf K H (.ref a) (.type "list")
  | tup {a : Addr} {xs : List V} (e : H a = some (.tup xs)) : TyOf K H (.ref a) (.type "tuple")
  | dK {a : Addr} {kvs : List (Key × V)} (e : H a = some (.dK kvs)) : TyOf K H (.ref a) (.type "dict")
  | dT {a : Addr} {kvs : List (List Key × V)} (e : H a = some (.dT kvs)) : TyOf K H (.ref a) (.type "dict")
  | ins {a C dx : Addr} {fs : List (Str × V)} (e : H a = some (.ins C dx fs)) (cl : Cls K C) (ha : PySem.W.findIn K (.ref C) "__class__" = some (some (.builtin "object.__class__")))
      (hn : PySem.W.specialIn K (.builtin "object.__class__") "__get__" = some (some (.builtin "getset_descriptor.__get__"))) (htk : PySem.W.takesIn K (.builtin "object.__class__") = some true)
      (hm : PySem.W.mroIn K C (.type "object") = some true) : TyOf K H (.ref a) (.ref C)
theorem zl2 {x : V} {u t : Value} (I : Inv X pins σ H s) (rx : RelV x u) (ty : TyOf X.K H x t) (e : PySem.W.kitOne X.K t c = some b) (h : ∀ tk, Q (.bool b) { s with toks := tk }) :
    wpAny (model X.prog X.w) A (call (.builtin "isinstance") [u, c]) Q E s := by
  cases ty with
  | non => cases (show u = Value.none from rx); exact PySem.W.kia_one PySem.W.kitx_none I.kIn True.intro e (fun z => nomatch z) h
  | bl y => cases (show u = Value.bool y from rx); exact PySem.W.kia_one PySem.W.kitx_bool I.kIn True.intro e (fun z => nomatch z) h
  | int i => obtain ⟨t, q⟩ := (show ∃ t, u = Value.int i t from rx); cases q; exact PySem.W.kia_one PySem.W.kitx_int I.kIn True.intro e (fun z => nomatch z) h
  | str y => obtain ⟨t, q⟩ := (show ∃ t, u = Value.str y t from rx); cases q; exact PySem.W.kia_one PySem.W.kitx_str I.kIn True.intro e (fun z => nomatch z) h
  | flt y => obtain ⟨t, q⟩ := (show ∃ t, u = Value.float y t from rx); cases q; exact PySem.W.kia_one PySem.W.kitx_float I.kIn True.intro e (fun z => nomatch z) h
  | @lst a xs ea =>
    cases (show u = Value.ref a from rx)
    obtain ⟨_, _, n, _, h1⟩ := (show ObjOk X.prog X.w H s.heap a (.lst xs) from I.hok a _ ea)
    exact PySem.W.kia_one PySem.W.kitx_list I.kIn ⟨_, h1, rfl⟩ e (fun z => nomatch z) h
  | @frz a ob xs ea =>
    cases (show u = Value.ref a from rx)
    obtain ⟨_, _, _, n, _, h1⟩ := (show ObjOk X.prog X.w H s.heap a (.frz ob (.lst xs)) from I.hok a _ ea)
    exact PySem.W.kia_one PySem.W.kitx_list I.kIn ⟨_, h1, rfl⟩ e (fun z => nomatch z) h
  | @tup a xs ea =>
    cases (show u = Value.ref a from rx)
    obtain ⟨_, _, _, p⟩ := (show ObjOk X.prog X.w H s.heap a (.tup xs) from I.hok a _ ea)
    obtain ⟨o, h1, h2, _⟩ := p
    exact PySem.W.kia_one PySem.W.kitx_tuple I.kIn ⟨o, h1, h2⟩ e (fun z => nomatch z) h
  | @dK a kvs ea =>
    cases (show u = Value.ref a from rx)
    obtain ⟨_, _, vs, _, p⟩ := (show ObjOk X.prog X.w H s.heap a (.dK kvs) from I.hok a _ ea)
    obtain ⟨o, es, ep, h1, h2, _⟩ := p
    exact PySem.W.kia_one PySem.W.kitx_dict I.kIn ⟨o, h1, h2.1⟩ e (fun z => nomatch z) h
  | @dT a kvs ea =>
    cases (show u = Value.ref a from rx)
    obtain ⟨_, _, xs, _, o, es, ep, h1, h2, _⟩ := (show ObjOk X.prog X.w H s.heap a (.dT kvs) from I.hok a _ ea)
    exact PySem.W.kia_one PySem.W.kitx_dict I.kIn ⟨o, h1, h2.1⟩ e (fun z => nomatch z) h
  | @ins a C dx fs ea cl ha hn htk hm =>
    cases (show u = Value.ref a from rx)
    obtain ⟨mA, O, _⟩ := zfl I.hok ea
    obtain ⟨od, J, _⟩ := O.look
    exact PySem.W.kia_one (PySem.W.kitx_own (cl.get _) cl.hd ha hn htk hm) I.kIn J e (fun z => nomatch z) h
end
structure Room (k : Nat) (A : Around) : Prop where
  hd : A.handled = none
  dp : A.depth + 3 * k + 5 < recursionLimit
  un : A.units + 16 * k + 200 < cLine
theorem Room.mono {j k : Nat} {A : Around} (r : Room k A) (h : j ≤ k) : Room j A := ⟨r.hd, by have := r.dp; omega, by have := r.un; omega⟩
theorem Room.deeper {k : Nat} {A : Around} (r : Room (k + 1) A) (env : Env) : Room k (A.deeper env) :=
  ⟨r.hd, by have := r.dp; show A.depth + 1 + 3 * k + 5 < _; omega, by have := r.un; show A.units + 3 + 16 * k + 200 < _; omega⟩
theorem zjm {A : Around} {C : Addr} {us : List Value} {kw : List (Str × Value)} : (A.under (.builtin "type.__call__" ⟨.ref C :: us, kw⟩)).depth = A.depth + 1 := by
  first | rfl | simp [Around.under, Code.weight, Code.isCreation, Code.isGuard, Code.isCaller, Code.frames, Code.isFrame, guardIds]
theorem zjl {A : Around} {C : Addr} {us : List Value} {kw : List (Str × Value)} : (A.under (.builtin "type.__call__" ⟨.ref C :: us, kw⟩)).units = A.units + 1 := by
  first | rfl | simp [Around.under, Code.cUnits, Code.frames, Code.isFrame]
theorem Room.make {k : Nat} {A : Around} (r : Room (k + 1) A) (C : Addr) (us : List Value) (kw : List (Str × Value)) : Room k (A.under (.builtin "type.__call__" ⟨.ref C :: us, kw⟩)) :=
  ⟨r.hd, by have := r.dp; rw [zjm]; omega, by have := r.un; rw [zjl]; omega⟩
theorem Room.depth {k : Nat} {A : Around} (r : Room k A) : A.depth < recursionLimit := by have := r.dp; omega
theorem Room.units {k : Nat} {A : Around} (r : Room k A) : A.units + 64 < cLine := by have := r.un; omega
def tNil : TA := fun _ H Q => Q [] H
def tCons (ta : TE) (tr : TA) : TA := fun σ H Q => ta σ H fun x H1 => tr σ H1 fun xs H2 => Q (x :: xs) H2
section
variable {X : Cx} {e : Expr} {es : List Expr} {te : TE} {t : TA} {pos : Pos}
theorem zab : PA X [] tNil := fun _ _ _ _ H Q I h => Calls.spliced_nil ⟨[], H, I, .nil, h⟩
theorem zqd (ha : PE X e te) (hr : PA X es t) (hs : starEach (e :: es) X.env = (false, eval e X.env) :: starEach es X.env := by rfl) : PA X (e :: es) (tCons te t) := by
  intro pos pins s σ H Q I h
  rw [hs]
  show wpAny _ _ (spliced ((false, eval e X.env) :: backTo pos (starEach es X.env))) _ _ s
  refine Calls.spliced_cons (thn (ha pins s σ H _ I h) fun u s1 ⟨x, H1, I1, r1, q1⟩ => ?_)
  exact thn (hr pos pins s1 σ H1 _ I1 q1) fun us s2 ⟨xs, H2, I2, r2, q2⟩ => ⟨x :: xs, H2, I2, .cons r1 r2, q2⟩
def tTup (t : TA) : TE := fun σ H Q => t σ H fun xs H1 => xs.length ≤ sizeLine ∧ ∀ p, H1 p = none → Q (.ref p) (upd H1 p (.tup xs))
def tLst (t : TA) : TE := fun σ H Q => t σ H fun xs H1 => xs.length ≤ sizeLine ∧ ∀ p, H1 p = none → Q (.ref p) (upd H1 p (.lst xs))
end
abbrev Sp := List V → Hp → VK → XK → Prop
abbrev CXT := List Env → Hp → Shared → XK → Value → Shared → Prop
structure Env0 (P : Program) (w : World) (K : PySem.W.Frag) (mg : Str → Option Value) (base : Heap) (A : Around) (outer : List Env) (s : Shared) (H : Hp) : Prop where
  frames : A.frames = some outer
  mod : Mod K mg base
  bs : ∀ b o, base.get? b = some o → s.heap.get? b = some o ∧ H b = none
  bsz : base.objs.size ≤ s.heap.objs.size
  funs : s.heap.FunFrames base outer
  frf : ∀ b ∈ frs outer, H b = none
  hok : HOk P w H s.heap
  bare : AllBare s.gens
def CE (outer : List Env) (P : Program) (w : World) (H : Hp) (s : Shared) (Q : VK) (u : Value) (s' : Shared) : Prop :=
  ∃ v H', s'.os = s.os ∧ AllBare s'.gens ∧ Un (frs outer) [] H H' s.heap s'.heap ∧ HOk P w H' s'.heap ∧ RelV v u ∧ Q v H'
def CR (CX : CXT) (outer : List Env) (P : Program) (w : World) (H : Hp) (s : Shared) (Q : VK) (E : XK) (r : Result) (s' : Shared) : Prop :=
  match r with
  | .ok (.ret u) => CE outer P w H s Q u s'
  | .ok _ => False
  | .error e => CX outer H s E e s'
structure FnOk (P : Program) (w : World) (K : PySem.W.Frag) (mg : Str → Option Value) (base : Heap) (CX : CXT) (k : Nat) (f : Addr) (fd : FuncData) (ps : List Str) (sp : Sp) : Prop where
  len : ∀ vs H Q E, sp vs H Q E → vs.length = ps.length
  run : ∀ (A : Around) (outer : List Env) (s : Shared) (H : Hp) (args : Args) (us : List Value) (vs : List V) (Q : VK) (E : XK), Room k A → Env0 P w K mg base A outer s H → BindsTo s fd args (ps.zip us) → Vals vs us → sp vs H Q E →
    codeAny (model P w) A (.call (.ref f) args) (CR CX outer P w H s Q E) s
theorem FnOk.mono {P : Program} {w : World} {K : PySem.W.Frag} {mg : Str → Option Value} {base : Heap} {CX : CXT} {j k : Nat} {f : Addr} {fd : FuncData} {ps : List Str} {sp : Sp} (F : FnOk P w K mg base CX j f fd ps sp) (h : j ≤ k) :
    FnOk P w K mg base CX k f fd ps sp := ⟨F.len, fun A outer s H args us vs Q E hr => F.run A outer s H args us vs Q E (hr.mono h)⟩
theorem Env0.make {P : Program} {w : World} {K : PySem.W.Frag} {mg : Str → Option Value} {base : Heap} {A : Around} {outer : List Env} {s : Shared} {H : Hp} (e : Env0 P w K mg base A outer s H) (C : Addr) (us : List Value) (kw : List (Str × Value)) :
    Env0 P w K mg base (A.under (.builtin "type.__call__" ⟨.ref C :: us, kw⟩)) outer s H := ⟨by first | exact e.frames | (simpa [Around.under, Code.envs, Code.isFrame, pushEnvs] using e.frames), e.mod, e.bs, e.bsz, e.funs, e.frf, e.hok, e.bare⟩
section
variable {X : Cx} {pins : List (Addr × Obj)} {σ : St} {H : Hp} {s s' : Shared}
theorem Inv.env0 (I : Inv X pins σ H s) : Env0 X.prog X.w X.K X.mg X.base X.A X.stack s H :=
  ⟨I.ok.frames, I.ok.mod, I.bs, Nat.le_trans I.ok.bsz I.sz, I.stack, I.stkFree, I.hok, I.bare⟩
theorem Inv.after {Q : VK} {u : Value} (I : Inv X pins σ H s) (h : CE X.stack X.prog X.w H s Q u s') : EP X pins σ Q u s' := by
  obtain ⟨v, H', os, bare, un, hok, r, q⟩ := h
  obtain ⟨hh, g, d, t, os'⟩ := s'
  obtain rfl : os' = s.os := os
  exact ⟨v, H', I.call (h' := hh) (g' := g) (d' := d) (t' := t) (ch := []) un hok bare (fun b z => absurd z (by simp)), r, q⟩
end
def tCall (sp : Sp) (dvs : List V) (E : XK) (t : TA) : TE := fun σ H Q => t σ H fun vs H1 => sp (vs ++ dvs) H1 Q E
def tMeth (C : Addr) (m : Str) (sp : Sp) (dvs : List V) (E : XK) (ta : TE) (t : TA) : TE := fun σ H Q => ta σ H fun x H1 => ∃ a dx fs, x = .ref a ∧ H1 a = some (.ins C dx fs) ∧ fs.lookup m = none ∧
  t σ H1 fun vs H2 => sp (x :: (vs ++ dvs)) H2 Q E
def tMake (C : Addr) (sp : Sp) (dvs : List V) (E : XK) (t : TA) : TE := fun σ H Q => t σ H fun vs H1 => ∀ x dx, H1 x = none → H1 dx = none → dx ≠ x →
  sp (.ref x :: (vs ++ dvs)) (upd (upd H1 dx (.own x)) x (.ins C dx [])) (fun v H2 => v = .non ∧ Q (.ref x) H2) E
def Binds (K : PySem.W.Frag) (fd : FuncData) (ps : List Str) (ds : List Value) : Prop :=
  ∀ (s : Shared) (us : List Value), K.In s.heap → (us ++ ds).length = ps.length → BindsTo s fd ⟨us, []⟩ (ps.zip (us ++ ds))
theorem Binds.all {K : PySem.W.Frag} {fd : FuncData} {ps : List Str} (h : ∀ us : List Value, us.length = ps.length → bindArgs fd ⟨us, []⟩ = pure (ps.zip us)) : Binds K fd ps [] := fun s us _ hl => by
  rw [List.append_nil] at hl ⊢
  exact .of_eq (h us hl)
def Passes (CX : CXT) (X : Cx) (E : XK) : Prop := ∀ (pins : List (Addr × Obj)) (σ : St) (H : Hp) (s : Shared) (e : Value) (s' : Shared), Inv X pins σ H s → CX X.stack H s E e s' → X.xe e s'
section
variable {X : Cx} {CX : CXT} {k : Nat} {f C : Addr} {fd : FuncData} {ps : List Str} {sp : Sp} {dvs : List V} {ds : List Value} {E : XK} {x m : Str} {p pos apos : Pos} {e o : Expr} {es : List Expr} {ta : TE} {t : TA}
theorem zow {pins : List (Addr × Obj)} {σ : St} {H : Hp} {s : Shared} {Q : VK} {us : List Value} {vs : List V} (F : FnOk X.prog X.w X.K X.mg X.base CX k f fd ps sp) (hr : Room k X.A) (hb : Binds X.K fd ps ds) (hd : Vals dvs ds) (hx : Passes CX X E)
    (I : Inv X pins σ H s) (r : Vals vs us) (h : sp (vs ++ dvs) H Q E) : wpAny (model X.prog X.w) X.A (call (.ref f) us) (EP X pins σ Q) X.xe s := by
  have r2 : Vals (vs ++ dvs) (us ++ ds) := r.append hd
  have hl : (us ++ ds).length = ps.length := by rw [← r2.length]; exact F.len _ _ _ _ h
  refine wpAny_call (codeAny_mono (F.run X.A X.stack s H ⟨us, []⟩ (us ++ ds) (vs ++ dvs) Q E hr I.env0 (hb s us I.kIn hl) r2 h) fun r s' hq => ?_)
  cases r with
  | error e => exact hx pins σ H s e s' I hq
  | ok fl =>
    cases fl with
    | ret u => exact I.after hq
    | next => exact False.elim hq
    | brk => exact False.elim hq
    | cont => exact False.elim hq
theorem zla (F : FnOk X.prog X.w X.K X.mg X.base CX k f fd ps sp) (hr : Room k X.A) (hg : Gl X x) (hm : X.mg x = some (.ref f)) (hk : PySem.W.keepIn X.K (.ref f) = true) (hb : Binds X.K fd ps ds) (hd : Vals dvs ds) (hx : Passes CX X E)
    (ha : PA X (e :: es) t) (hdb : (x == ("__debug__" : Str)) = false := by decide) (he : starEach (e :: es) X.env = (false, eval e X.env) :: starEach es X.env := by rfl) (hpl : (backTo pos (starEach es X.env)).any (·.1) = false := by rfl) :
    PE X (.Call (.Name x p) (e :: es) [] pos) (tCall sp dvs E t) := by
  intro pins s σ H Q I h
  refine wpAny_Call_Name_kw (zd2 I hg hm ?_ hdb)
  refine PySem.W.callWith_K (h₀ := X.base) I.ok.mod.kin hk (thn (ha pos pins s σ H _ I h) fun us s1 ⟨vs, H1, I1, r, q⟩ => ⟨I1.kIn, ?_⟩) he hpl
  exact zow F hr hb hd hx I1 r q
theorem zqa {pl : Sem Bool} (he : PE X o ta) (c : Cls X.K C) (hm : Meth X.K C m f) (F : FnOk X.prog X.w X.K X.mg X.base CX k f fd ps sp) (hr : Room k X.A) (hb : Binds X.K fd ps ds) (hd : Vals dvs ds) (hx : Passes CX X E) (ha : PA X (e :: es) t)
    (hst : starEach (e :: es) X.env = (false, eval e X.env) :: starEach es X.env := by rfl) (hpl : (backTo pos (starEach es X.env)).any (·.1) = false := by rfl)
    (ht : eval (.Call (.Attribute o m apos) (e :: es) [] pos) X.env = (do
      let ov ← eval o X.env
      standAt apos.atName
      let (f, first) ← holding [ov] (getMethod ov m pl)
      callWith pos f first (backTo pos (starEach (e :: es) X.env)) (backToKw pos (keywordEach [] X.env))) := by rfl) :
    PE X (.Call (.Attribute o m apos) (e :: es) [] pos) (tMeth C m sp dvs E ta t) := by
  intro pins s σ H Q I h
  refine PySem.W.methodCall_KW (pl := pl) (thn (he pins s σ H _ I h) fun u s1 ⟨x, H1, I1, rx, a, dx, fs, ex, ea, l, q⟩ => ?_) ht
  subst ex
  obtain rfl : u = Value.ref a := rx
  refine zjt I1 ea c hm l ?_
  refine PySem.W.callWith_K (first := [.ref a]) (h₀ := X.base) I.ok.mod.kin hm.kp (thn (ha pos pins s1 σ H1 _ I1 q) fun us s2 ⟨vs, H2, I2, r, q2⟩ => ⟨I2.kIn, ?_⟩) hst hpl
  exact zow (us := .ref a :: us) (vs := .ref a :: vs) F hr hb hd hx I2 (.cons rfl r) q2
structure Mk (K : PySem.W.Frag) (C f : Addr) : Prop where
  makes : PySem.W.makesIn K C = true
  init : PySem.W.findIn K (.ref C) "__init__" = some (some (.ref f))
  fn : PySem.W.isFn K (.ref f) = true
  kp : PySem.W.keepIn K (.ref C) = true
theorem zm9 {pins : List (Addr × Obj)} {σ : St} {H : Hp} {s : Shared} {Q : VK} {us : List Value} {vs : List V} (M : Mk X.K C f) (F : FnOk X.prog X.w X.K X.mg X.base CX k f fd ps sp) (hr : Room (k + 1) X.A) (hb : Binds X.K fd ps ds) (hd : Vals dvs ds)
    (hx : Passes CX X E) (I : Inv X pins σ H s) (r : Vals vs us)
    (h : ∀ x dx, H x = none → H dx = none → dx ≠ x → sp (.ref x :: (vs ++ dvs)) (upd (upd H dx (.own x)) x (.ins C dx [])) (fun v H2 => v = .non ∧ Q (.ref x) H2) E) :
    wpAny (model X.prog X.w) X.A (call (.ref C) us) (EP X pins σ Q) X.xe s := by
  have hq := h (s.heap.objs.size + 1) s.heap.objs.size (I.hok.fresh (Nat.le_succ _)) (I.hok.fresh (Nat.le_refl _)) (Nat.ne_of_lt (Nat.lt_succ_self _))
  have I2 := Inv.made (C := C) I
  have r2 : Vals (V.ref (s.heap.objs.size + 1) :: (vs ++ dvs)) (Value.ref (s.heap.objs.size + 1) :: (us ++ ds)) := .cons rfl (r.append hd)
  have hl : (Value.ref (s.heap.objs.size + 1) :: us ++ ds).length = ps.length := by
    have e := r2.length
    rw [F.len _ _ _ _ hq] at e
    exact e.symm
  refine wpAny_call (zoa (f := f) I.kIn M.makes M.init (beq_iff_eq.mp M.fn) (codeAny_mono (F.run _ X.stack _ _ ⟨Value.ref (s.heap.objs.size + 1) :: us, []⟩ (Value.ref (s.heap.objs.size + 1) :: (us ++ ds)) _ _ E (hr.make C us [])
    (I2.env0.make C us []) (hb _ (Value.ref (s.heap.objs.size + 1) :: us) I2.kIn hl) r2 hq) fun r s' hq' => ?_))
  cases r with
  | error e => exact hx pins σ _ _ e s' I2 hq'
  | ok fl =>
    cases fl with
    | ret u =>
      obtain ⟨v, H', I3, rv, ev, q3⟩ := I2.after hq'
      subst ev
      exact ⟨rv, ⟨V.ref (s.heap.objs.size + 1), H', I3, rfl, q3⟩⟩
    | next => exact False.elim hq'
    | brk => exact False.elim hq'
    | cont => exact False.elim hq'
theorem znj (M : Mk X.K C f) (F : FnOk X.prog X.w X.K X.mg X.base CX k f fd ps sp) (hr : Room (k + 1) X.A) (hg : Gl X x) (hm : X.mg x = some (.ref C)) (hb : Binds X.K fd ps ds) (hd : Vals dvs ds) (hx : Passes CX X E)
    (hdb : (x == ("__debug__" : Str)) = false := by decide) : PE X (.Call (.Name x p) [] [] pos) (tMake C sp dvs E tNil) := by
  intro pins s σ H Q I h
  refine wpAny_Call_Name_kw (zd2 I hg hm ?_ hdb)
  exact PySem.W.callWith_K0 I.kIn M.kp (zm9 (us := []) M F hr hb hd hx I .nil h)
end
structure FnScope (N P : List Str) (sc : Scope) : Prop where
  kind : sc.kind = .function
  co : sc.isCoroutine = false
  gen : sc.isGenerator = false
  nd : N.Nodup
  pre : N.take P.length = P
  par : ∀ x ∈ P, sc.names.lookup x = some .local ∨ sc.names.lookup x = some .cell
  nofree : ∀ y ∈ sc.names, y.2 ≠ .free
theorem zg0 {kindOf : Str → Option NameKind} {x : Str} : ∀ {binds : List (Str × Value)} {m : Str → Option Value}, (∀ v, (x, v) ∉ binds) → bindL kindOf binds m x = m x
  | [], _, _ => rfl
  | (n, v) :: r, m, h => by
    unfold bindL
    rw [zg0 fun w hw => h w (List.mem_cons_of_mem _ hw)]
    split
    · have : x ≠ n := by rintro rfl; exact h v List.mem_cons_self
      simp [this]
    · rfl
theorem zg2 {kindOf : Str → Option NameKind} {x : Str} : ∀ {binds : List (Str × Value)} {m : Str → Option Value}, (∀ v, (x, v) ∉ binds) → bindC kindOf binds m x = m x
  | [], _, _ => rfl
  | (n, v) :: r, m, h => by
    unfold bindC
    rw [zg2 fun w hw => h w (List.mem_cons_of_mem _ hw)]
    split
    · rfl
    · have : x ≠ n := by rintro rfl; exact h v List.mem_cons_self
      simp [this]
theorem zg1 {kindOf : Str → Option NameKind} {x : Str} {v : Value} : ∀ {P : List Str} {vs : List Value} {i : Nat} {m : Str → Option Value}, P.Nodup → P[i]? = some x → vs[i]? = some v → kindOf x = some .local →
    bindL kindOf (P.zip vs) m x = some v
  | [], _, _, _, _, h, _, _ => by simp at h
  | _ :: _, [], _, _, _, _, h, _ => by simp at h
  | p :: P, w :: vs, 0, m, nd, h1, h2, hk => by
    simp at h1 h2; subst h1; subst h2
    show bindL kindOf ((p, w) :: P.zip vs) m p = _
    unfold bindL
    rw [zg0 fun v hv => (List.nodup_cons.mp nd).1 (List.of_mem_zip hv).1, if_pos hk]
    simp
  | p :: P, w :: vs, i + 1, m, nd, h1, h2, hk => by
    show bindL kindOf ((p, w) :: P.zip vs) m x = _
    unfold bindL
    exact zg1 (i := i) (List.nodup_cons.mp nd).2 (by simpa using h1) (by simpa using h2) hk
theorem zg3 {kindOf : Str → Option NameKind} {x : Str} {v : Value} : ∀ {P : List Str} {vs : List Value} {i : Nat} {m : Str → Option Value}, P.Nodup → P[i]? = some x → vs[i]? = some v → kindOf x ≠ some .local →
    bindC kindOf (P.zip vs) m x = some v
  | [], _, _, _, _, h, _, _ => by simp at h
  | _ :: _, [], _, _, _, _, h, _ => by simp at h
  | p :: P, w :: vs, 0, m, nd, h1, h2, hk => by
    simp at h1 h2; subst h1; subst h2
    show bindC kindOf ((p, w) :: P.zip vs) m p = _
    unfold bindC
    rw [zg2 fun v hv => (List.nodup_cons.mp nd).1 (List.of_mem_zip hv).1, if_neg hk]
    simp
  | p :: P, w :: vs, i + 1, m, nd, h1, h2, hk => by
    show bindC kindOf ((p, w) :: P.zip vs) m x = _
    unfold bindC
    exact zg3 (i := i) (List.nodup_cons.mp nd).2 (by simpa using h1) (by simpa using h2) hk
def start (N : List Str) (vs : List V) : St := vs.map some ++ List.replicate (N.length - vs.length) none
def cxOf (CX : CXT) (P : Program) (w : World) (K : PySem.W.Frag) (mg : Str → Option Value) (base : Heap) (N : List Str) (qual : Str) (scope : Scope) (f : Addr) (cd : Value) (A : Around) (outer : List Env) (s : Shared) (H : Hp) (E : XK) : Cx where
  prog := P
  w := w
  K := K
  mg := mg
  base := base
  A := A.deeper (envOfC qual scope s.heap.objs.size f cd)
  N := N
  s₀ := s
  H₀ := H
  env := envOfC qual scope s.heap.objs.size f cd
  outer := outer
  stack := envOfC qual scope s.heap.objs.size f cd :: outer
  ex := []
  calm := true
  fn := fun _ => true
  pn := []
  xe := fun e s' => wpAny (model P w) (A.deeper (envOfC qual scope s.heap.objs.size f cd)) (leaving (envOfC qual scope s.heap.objs.size f cd) e) (fun _ s'' => CX outer H s E e s'') (fun e' s'' => CX outer H s E e' s'') s'
theorem zi0 {sc : Scope} {n : Nat} {x : Str} (h : sc.names.lookup x = some .cell) : ∃ c, (cellsFrom n sc.names []).lookup x = some c := by
  have q := PySem.W.cellsFrom_some sc.names n [] (.inl h)
  exact Option.isSome_iff_exists.mp q
theorem zl3 {CX : CXT} {P : Program} {w : World} {K : PySem.W.Frag} {mg : Str → Option Value} {base : Heap} {N ps : List Str} {qual : Str} {scope : Scope} {f : Addr} {cd : Value} {A : Around} {outer : List Env} {s s1 : Shared} {H : Hp} {E : XK} {us : List Value} {vs : List V}
    (S : FnScope N ps scope) (hd : A.handled = none) (e0 : Env0 P w K mg base A outer s H) (hl : vs.length = ps.length) (r : Vals vs us)
    (x : InCallC s s.heap.objs.size (bindL (envOfC qual scope s.heap.objs.size f cd).kindOf (ps.zip us) fun _ => none) (cellsFrom (s.heap.objs.size + 1) scope.names []) (bindC (envOfC qual scope s.heap.objs.size f cd).kindOf (ps.zip us) fun _ => none) s1) :
    Inv (cxOf CX P w K mg base N qual scope f cd A outer s H E) [] (start N vs) H s1 := by
  have hpl : ps.length ≤ N.length := by have := congrArg List.length S.pre; rw [List.length_take] at this; omega
  obtain ⟨h1, tk, rfl, hk⟩ := x.done
  have noA : ∀ b : Addr, b ∉ (cxOf CX P w K mg base N qual scope f cd A outer s H E).ex := fun b z => absurd (show b ∈ ([] : List Addr) from z) (by simp)
  refine ⟨⟨e0.mod, S.kind, rfl, rfl, Nat.le_refl _, fun y z c h1 h2 => ?_, fun y hy => ?_, fun y c _ h => ?_, fun _ => hd, Around.frames_deeper e0.frames, .inr ⟨rfl, rfl⟩, fun b z => absurd z (noA b), e0.bs, e0.bsz, fun b _ _ => noA b, fun b z => absurd z (noA b), e0.funs, e0.frf⟩,
    rfl, e0.bare, Un.kept hk, ⟨_, x.toInCall.ns, fun i y v h1 h2 h3 => ?_⟩, fun y c h => ⟨_, x.cell y c h⟩, e0.hok.fresh (Nat.le_refl _), fun y c h => ?_, fun p hp => absurd (show p ∈ ([] : List (Addr × Obj)) from hp) (by simp), e0.hok.kept hk, ?_⟩
  · exact name_of_addr x.apart (PySem.mem_of_lookup h1) (PySem.mem_of_lookup h2)
  · have hy : scope.names.lookup y = some .cell ∨ scope.names.lookup y = some .free := hy
    rcases hy with hy | hy
    · exact zi0 hy
    · exact absurd rfl (S.nofree _ (PySem.mem_of_lookup hy))
  · exact Nat.le_of_lt (x.above y c (PySem.mem_of_lookup h))
  · have hi : i < vs.length := by
      unfold start at h2
      by_cases hi : i < vs.length
      · exact hi
      · rw [List.getElem?_append_right (by simpa using hi)] at h2
        rw [List.getElem?_replicate] at h2
        split at h2 <;> cases h2
    have ha : vs[i]? = some v := by
      unfold start at h2
      rw [List.getElem?_append_left (by simpa using hi), List.getElem?_map] at h2
      cases e : vs[i]? with
      | none => rw [e] at h2; cases h2
      | some a => rw [e] at h2; cases h2; rfl
    obtain ⟨u, hu, rv⟩ := r.get ha
    have hp : ps[i]? = some y := by
      rw [← S.pre, List.getElem?_take_of_lt (by omega)]; exact h1
    have ndP : ps.Nodup := by rw [← S.pre]; exact S.nd.sublist (List.take_sublist _ _)
    refine ⟨u, rv, ?_⟩
    rcases S.par y (List.mem_of_getElem? hp) with k | k
    · exact .inl ⟨k, zg1 ndP hp hu k⟩
    · obtain ⟨c, e⟩ := zi0 (n := s.heap.objs.size + 1) k
      refine .inr ⟨.inl k, c, e, ?_⟩
      have q := x.cell y c e
      rw [zg3 ndP hp hu (by show scope.names.lookup y ≠ _; rw [k]; decide)] at q
      exact q
  · exact e0.hok.fresh (Nat.le_of_lt (x.above y c (PySem.mem_of_lookup h)))
  · unfold start
    show _ = N.length
    rw [List.length_append, List.length_map, List.length_replicate]
    omega
theorem zse {CX : CXT} {P : Program} {w : World} {K : PySem.W.Frag} {mg : Str → Option Value} {base : Heap} {k : Nat} {f : Addr} {name qual : Str} {params : Arguments} {body : List Stmt} {scope : Scope} {dV kV doc pm cdv ct oc : Value} {an od : Option Addr}
    {osl : Array (Option Value)} {N ps : List Str} {sp : Sp} (lk : K.lookup f = some ⟨oc, od, .func (PySem.W.fnOf name qual params body scope dV kV doc pm an cdv ct), osl⟩) (hcd : PySem.W.codeIn K cdv qual = true) (S : FnScope N ps scope)
    (len : ∀ vs H Q E, sp vs H Q E → vs.length = ps.length)
    (hbody : ∀ (A : Around) (outer : List Env) (s : Shared) (H : Hp) (vs : List V) (Q : VK) (E : XK), Room k (A.deeper (envOfC qual scope s.heap.objs.size f cdv)) → sp vs H Q E →
      ∃ t, PSs (cxOf CX P w K mg base N qual scope f cdv A outer s H E) body t ∧ t { nx := fun _ H' => Q .non H', rt := Q } (start N vs) H) :
    FnOk P w K mg base CX (k + 1) f (PySem.W.fnOf name qual params body scope dV kV doc pm an cdv ct) ps sp := by
  refine ⟨len, fun A outer s H args us vs Q E hr e0 hb r hsp => ?_⟩
  have hl := len _ _ _ _ hsp
  have KX : K.In s.heap := e0.mod.kin.keeps fun b o e => (e0.bs b o e).1
  have lim : s.heap.NoLimit := e0.mod.nolimit.keeps fun b o e => (e0.bs b o e).1
  have hkind : ∀ y ∈ ps.zip us, scope.names.lookup y.1 = some .local ∨ (scope.names.lookup y.1 = some .cell ∧ ((cellsFrom (s.heap.objs.size + 1) scope.names []).lookup y.1).isSome = true) := fun ⟨n, v⟩ hy => by
    rcases S.par n (List.of_mem_zip hy).1 with q | q
    · exact .inl q
    · exact .inr ⟨q, PySem.W.cellsFrom_some _ _ _ (.inl q)⟩
  refine codeAny_call_function hr.depth (KX _ _ lk) rfl S.co S.gen rfl (PySem.W.codeRec_of KX hcd) (hb _ _ _ _ ?_)
  refine wpAny_newFunctionEnv_cells S.kind hkind fun env he s1 x => ?_
  subst he
  refine ⟨lim.keeps x.toInCall.keep, codeAny_func ?_⟩
  obtain ⟨t, ht, hq⟩ := hbody A outer s H vs Q E (hr.deeper _) hsp
  have I : Inv (cxOf CX P w K mg base N qual scope f cdv A outer s H E) [] (start N vs) H s1 := zl3 S hr.hd e0 hl r x
  refine wpAny_mono (ht [] s1 (start N vs) H _ I hq) (fun fl s' hs => ?_) fun e s' hs => hs
  have fin : ∀ {σ' : St} {H' : Hp} {v : V} {u : Value}, Inv (cxOf CX P w K mg base N qual scope f cdv A outer s H E) [] σ' H' s' → RelV v u → Q v H' → CE outer P w H s Q u s' :=
    fun {σ' H' v u} J rv q => ⟨v, H', J.os, J.bare, J.base, J.hok, rv, q⟩
  cases fl with
  | ret u =>
    obtain ⟨v, σ', H', J, rv, q⟩ := hs
    exact fin J rv q
  | next =>
    obtain ⟨σ', H', J, q⟩ := hs
    exact fin (v := V.non) (u := Value.none) J rfl q
  | brk =>
    obtain ⟨_, _, _, q⟩ := hs
    exact False.elim q
  | cont =>
    obtain ⟨_, _, _, q⟩ := hs
    exact False.elim q
section
variable {X : Cx} {x : Str} {p pos : Pos} {e : Expr} {es : List Expr} {t : TA} {id T : String} {r : List V → Hp → VK → Prop}
def tCB (r : List V → Hp → VK → Prop) (t : TA) : TE := fun σ H Q => t σ H fun vs H1 => r vs H1 Q
theorem znp (hc : CallR X (.builtin id) r) (hg : Gl X x) (hm : X.mg x = none) (hv : bootBuiltins x = some (.builtin id)) (ha : PA X (e :: es) t) (hn : x ≠ "__name__" := by decide) (hdb : (x == ("__debug__" : Str)) = false := by decide)
    (he : starEach (e :: es) X.env = (false, eval e X.env) :: starEach es X.env := by rfl) (hpl : (backTo pos (starEach es X.env)).any (·.1) = false := by rfl) : PE X (.Call (.Name x p) (e :: es) [] pos) (tCB r t) := by
  intro pins s σ H Q I h
  refine wpAny_Call_Name_kw (zgk I hg hm hv ?_ hn hdb)
  exact PyProof.Rows.callWith_builtin1 (thn (ha pos pins s σ H _ I h) fun us s1 ⟨vs, H1, I1, r1, q1⟩ => hc pins s1 σ H1 vs us Q I1 r1 q1) he hpl
theorem zk9 (hc : CallR X (.type T) r) (hg : Gl X x) (hm : X.mg x = none) (hv : bootBuiltins x = some (.type T)) (ha : PA X (e :: es) t) (hn : x ≠ "__name__" := by decide) (hdb : (x == ("__debug__" : Str)) = false := by decide)
    (he : starEach (e :: es) X.env = (false, eval e X.env) :: starEach es X.env := by rfl) (hpl : (backTo pos (starEach es X.env)).any (·.1) = false := by rfl) : PE X (.Call (.Name x p) (e :: es) [] pos) (tCB r t) := by
  intro pins s σ H Q I h
  refine wpAny_Call_Name_kw (zgk I hg hm hv ?_ hn hdb)
  exact PyProof.Rows.callWith_type1 (thn (ha pos pins s σ H _ I h) fun us s1 ⟨vs, H1, I1, r1, q1⟩ => hc pins s1 σ H1 vs us Q I1 r1 q1) he hpl
end
end L2
namespace HT
open PySem PyProof.Rows
section
open PySem.SeqAt
open PySem.AutoSeq1 (wpAny_loadPart')
open PySem.MeetsSeq PySem.MeetsSeq2 PySem.MeetsSeq3
end
section
variable {prog : Program} {w : World} {A : Around} {E : Value → Shared → Prop} {s : Shared}
def sIx (n d : Nat) : Option Int → Nat
  | none => d
  | some v => if v < 0 then (v + (n : Int)).toNat else min v.toNat n
theorem sIx_none (n d : Nat) : sIx n d none = d := rfl
theorem sIx_nat (n d k : Nat) : sIx n d (some (k : Int)) = min k n := by
  show (if (k : Int) < 0 then ((k : Int) + (n : Int)).toNat else min (k : Int).toNat n) = min k n
  rw [if_neg (by omega), Int.toNat_natCast]
theorem sIx_le (n d : Nat) (hd : d ≤ n) (o : Option Int) : sIx n d o ≤ n := by
  cases o with
  | none => exact hd
  | some v =>
    show (if v < 0 then (v + (n : Int)).toNat else min v.toNat n) ≤ n
    by_cases hv : v < 0
    · rw [if_pos hv]; omega
    · rw [if_neg hv]; exact Nat.min_le_right _ _
theorem clip_eq (v : Int) (n d : Nat) : (if v < 0 then max (v + (n : Int)) 0 else min v (n : Int)) = ((sIx n d (some v) : Nat) : Int) := by
  show (if v < 0 then max (v + (n : Int)) 0 else min v (n : Int)) = (((if v < 0 then (v + (n : Int)).toNat else min v.toNat n) : Nat) : Int)
  by_cases hv : v < 0
  · simp only [if_pos hv]; omega
  · simp only [if_neg hv]; omega
theorem zj4 (lo hi : Option Int) (n : Nat) : Builtin.Slice.sliceAdjust lo hi 1 (n : Int) = (((sIx n 0 lo : Nat) : Int), ((sIx n n hi : Nat) : Int)) := by
  have h1 : ¬ ((1 : Int) < 0) := by omega
  unfold Builtin.Slice.sliceAdjust
  simp only [h1, if_false]
  refine Prod.ext ?_ ?_
  · cases lo with
    | none => rfl
    | some v => exact clip_eq v n 0
  · cases hi with
    | none => rfl
    | some v => exact clip_eq v n n
theorem zjf (i j : Nat) : Builtin.Slice.slicePlaces (i : Int) (j : Int) 1 = j - i := by
  unfold Builtin.Slice.slicePlaces
  have h1 : (1 : Int) > 0 := by omega
  simp only [h1, if_true, Int.ediv_one]
  split <;> omega
theorem zet {v : Value} {o : Option Int} {Q : Option Int → Shared → Prop} (p : IsPart v o) (h : Q o s) : wpAny (model prog w) A (Builtin.Slice.slicePartIndex v) Q E s := by
  cases p with
  | none => exact slicePart_none h
  | int i t => exact slicePart_int h
theorem zdc {sl : Addr} {vl vu : Value} {lo hi : Option Int} {n : Nat} {Q : Int × Int × Nat → Shared → Prop} (hs : s.heap.IsSliceOf sl vl vu .none) (pl : IsPart vl lo) (pu : IsPart vu hi)
    (h : Q (((sIx n 0 lo : Nat) : Int), 1, sIx n n hi - sIx n 0 lo) s) : wpAny (model prog w) A (Builtin.Slice.sliceApplied (.ref sl) (pure (n : Int))) Q E s := by
  obtain ⟨os, hos, hcs, hds⟩ := id hs
  unfold Builtin.Slice.sliceApplied Builtin.Slice.sliceFields
  refine wpAny_bind (wpAny_bind (wpAny_field hos hds (x := vl) rfl (wpAny_bind (wpAny_field hos hds (x := vu) rfl (wpAny_bind (wpAny_field hos hds (x := .none) rfl (wpAny_pure ?_)))))))
  refine wpAny_bind (slicePart_none ?_)
  show wpAny _ _ (if ((1 : Int) == 0) = true then _ else _) _ _ s
  rw [if_neg (by decide)]
  refine wpAny_bind (zet pl (wpAny_bind (zet pu (wpAny_bind (wpAny_pure ?_)))))
  show wpAny _ _ (match Builtin.Slice.sliceAdjust lo hi 1 (n : Int) with | (lo, hi) => pure (lo, (1 : Int), Builtin.Slice.slicePlaces lo hi 1)) _ _ s
  rw [zj4 lo hi n]
  show wpAny _ _ (pure (((sIx n 0 lo : Nat) : Int), (1 : Int), Builtin.Slice.slicePlaces ((sIx n 0 lo : Nat) : Int) ((sIx n n hi : Nat) : Int) 1)) _ _ s
  rw [zjf]
  exact wpAny_pure h
theorem zng (xs : Array Value) (i k : Nat) : ((List.range k).filterMap fun (m : Nat) => xs[((i : Int) + (m : Int) * 1).toNat]?).toArray = ((xs.toList.drop i).take k).toArray := by
  have e : (fun (m : Nat) => xs[((i : Int) + (m : Int) * 1).toNat]?) = fun m => xs[i + m]? := by
    funext m
    have : ((i : Int) + (m : Int) * 1).toNat = i + m := by omega
    rw [this]
  rw [e]
  have := pick_run xs i k
  rw [List.filterMap_map] at this
  have e2 : ((fun x => xs[x]?) ∘ fun x => i + x) = fun m => xs[i + m]? := rfl
  rw [e2] at this
  rw [this]
theorem getItem_tuple_cut {t sl : Addr} {items : Array Value} {vl vu : Value} {lo hi : Option Int} {Q : Value → Shared → Prop} (ht : IsTup s.heap t items) (hs : s.heap.IsSliceOf sl vl vu .none) (pl : IsPart vl lo) (pu : IsPart vu hi)
    (hw : ¬ (sIx items.size 0 lo = 0 ∧ sIx items.size items.size hi = items.size))
    (h : Q (.ref s.heap.objs.size) { s with heap := s.heap.push { cls := .type "tuple", data := .seq ((items.toList.drop (sIx items.size 0 lo)).take (sIx items.size items.size hi - sIx items.size 0 lo)).toArray } })
    (hsz : items.size ≤ sizeLine) : wpAny (model prog w) A (getItem (.ref t) (.ref sl)) Q E s := by
  have htake : sizeOk (.seq ((items.toList.drop (sIx items.size 0 lo)).take (sIx items.size items.size hi - sIx items.size 0 lo)).toArray) := by
    show ((items.toList.drop (sIx items.size 0 lo)).take (sIx items.size items.size hi - sIx items.size 0 lo)).toArray.size ≤ sizeLine
    rw [List.size_toArray, List.length_take, List.length_drop, Array.length_toList]
    omega
  have hj : sIx items.size items.size hi ≤ items.size := sIx_le _ _ (Nat.le_refl _) hi
  obtain ⟨os, hos, hcs, hds⟩ := id hs
  have hTs : s.TypeIs (.ref sl) "slice" := ⟨os, hos, hcs⟩
  unfold getItem
  try with_reducible refine wpAny_holding ?_
  first | refine wpAny_bind (wpAny_pure ?_) | skip
  refine wpAny_bind (wpAny_sequenceKey ht.typeIs (by decide) ?_)
  refine wpAny_bind (wpAny_callSpecial?_slot (name := Str.ofString "__getitem__") ht.typeIs PyProof.Rows.slot_tuple_getitem
    (wpAny_call_entry PyProof.Rows.slot_tuple_getitem ht.typeIs entry_tuple_getitem ?_ (args_tuple_getitem _ _)))
  show wpAny _ _ (Builtin.Tuple.tupleItemsOf (.ref t) >>= _) _ _ s
  refine wpAny_bind (tupleItemsOf_ ht ?_)
  refine wpAny_bind (wpAny_typeOf hTs ?_)
  rw [if_pos (by decide)]
  refine wpAny_bind (zdc hs pl pu ?_)
  have hno : ¬ ((((sIx items.size 0 lo : Nat) : Int) == 0 && (1 : Int) == 1 && (sIx items.size items.size hi - sIx items.size 0 lo) == items.size) = true) := by
    intro q
    rw [Bool.and_eq_true, Bool.and_eq_true] at q
    have q1 : ((sIx items.size 0 lo : Nat) : Int) = 0 := eq_of_beq q.1.1
    have q2 : sIx items.size items.size hi - sIx items.size 0 lo = items.size := eq_of_beq q.2
    exact hw ⟨by omega, by omega⟩
  show wpAny _ _ (if (((sIx items.size 0 lo : Nat) : Int) == 0 && (1 : Int) == 1 && (sIx items.size items.size hi - sIx items.size 0 lo) == items.size) = true then _ else _) _ _ s
  rw [if_neg hno, zng]
  first
    | exact wpAny_bind (m := Builtin.Tuple.tupleExact _) (wpAny_newObj_type (wpAny_pure ⟨_, rfl, wpAny_pure h⟩) htake)
    | exact wpAny_bind (m := Builtin.Tuple.tupleExact _) (wpAny_newObj_type (wpAny_bind (wpAny_pure (wpAny_pure ⟨_, rfl, wpAny_pure h⟩))) htake)
    | exact wpAny_bind (wpAny_bind (m := Builtin.Tuple.tupleExact _) (wpAny_newObj_type (wpAny_pure (wpAny_pure ⟨_, rfl, wpAny_pure h⟩)) htake))
    | exact wpAny_bind (wpAny_bind (m := Builtin.Tuple.tupleExact _) (wpAny_newObj_type (wpAny_pure ⟨_, rfl, wpAny_pure h⟩) htake))
end
end HT
namespace L2
open PySem PySem.Spec PyProof.Rows
abbrev TO := St → Hp → (Option Int → Hp → Prop) → Prop
def PO (X : Cx) (e : Option Expr) (t : TO) : Prop :=
  ∀ (pins : List (Addr × Obj)) (s : Shared) (σ : St) (H : Hp) (Q : Option Int → Hp → Prop), Inv X pins σ H s → t σ H Q →
    wpAny (model X.prog X.w) X.A (evalPart e X.env) (fun u s' => ∃ o H', Inv X pins σ H' s' ∧ IsPart u o ∧ Q o H') X.xe s
def tNoPart : TO := fun _ H Q => Q none H
def tPart (t : TE) : TO := fun σ H Q => t σ H fun x H1 => ∃ i, x = .int i ∧ Q (some i) H1
theorem zjr {ns : List Int} : ∀ {us : List Value}, Vals (ns.map V.int) us → IntsAre us ns := by
  induction ns with
  | nil => intro us r; rw [List.map_nil] at r; cases r; exact .nil
  | cons n ns ih =>
    intro us r
    rw [List.map_cons] at r
    cases r with
    | cons r1 r2 =>
      obtain ⟨t, e⟩ := r1
      subst e
      exact .cons n t (ih r2)
section
variable {X : Cx} {e : Expr} {te : TE} {lo hi : Option Expr} {tl th : TO} {pos p2 : Pos}
theorem zhh : PO X none tNoPart := by
  intro pins s σ H Q I h
  rw [evalPart_none]
  exact wpAny_pure ⟨none, H, I, .none, h⟩
theorem zdv (h : PE X e te) : PO X (some e) (tPart te) := by
  intro pins s σ H Q I hw
  rw [evalPart_some]
  refine thn (h pins s σ H _ I hw) fun u s1 ⟨x, H1, I1, r1, q1⟩ => ?_
  obtain ⟨i, rfl, q⟩ := q1
  obtain ⟨t, rfl⟩ := r1
  exact ⟨some i, H1, I1, .int i t, q⟩
def SlR (X : Cx) (r : V → Option Int → Option Int → Hp → VK → Prop) : Prop :=
  ∀ (pins : List (Addr × Obj)) (s : Shared) (σ : St) (H : Hp) (x : V) (v vl vu : Value) (lo hi : Option Int) (sl : Addr) (Q : VK), Inv X pins σ H s → RelV x v → s.heap.IsSliceOf sl vl vu .none → IsPart vl lo → IsPart vu hi → r x lo hi H Q →
    ∃ T id, typeLookup (.type T) "__getitem__" = pure (some (.builtin id)) ∧ s.TypeIs v T ∧ wpAny (model X.prog X.w) X.A (getItem v (.ref sl)) (EP X pins σ Q) X.xe s
def tSl (r : V → Option Int → Option Int → Hp → VK → Prop) (te : TE) (tl th : TO) : TE := fun σ H Q => te σ H fun x H1 => tl σ H1 fun l H2 => th σ H2 fun u H3 => r x l u H3 Q
theorem zdk {r : V → Option Int → Option Int → Hp → VK → Prop} (hr : SlR X r) (he : PE X e te) (hl : PO X lo tl) (hu : PO X hi th) : PE X (.Subscript e (.Slice lo hi none p2) pos) (tSl r te tl th) := by
  intro pins s σ H Q I h
  refine Subscript_ (thn (he pins s σ H _ I h) fun v s1 ⟨x, H1, I1, r1, q1⟩ => ?_)
  refine wpAny_Slice (thn (hl pins s1 σ H1 _ I1 q1) fun vl s2 ⟨l, H2, I2, pl, q2⟩ => thn (hu pins s2 σ H2 _ I2 q2) fun vu s3 ⟨u, H3, I3, pu, q3⟩ => ?_)
  rw [evalPart_none]
  refine wpAny_pure ?_
  have I4 : Inv X pins σ H3 { s3 with heap := s3.heap.push { cls := .type "slice", data := .fields #[vl, vu, .none] } } := I3.kept (t' := s3.toks) fun b ob q => Heap.get?_push_of_some _ q
  obtain ⟨T, id, hT, ht, hg⟩ := hr pins { s3 with heap := s3.heap.push { cls := .type "slice", data := .fields #[vl, vu, .none] } } σ H3 x v vl vu l u s3.heap.objs.size Q I4 r1 (Heap.IsSliceOf.new ..) pl pu q3
  show wpAny (model X.prog X.w) X.A (subscriptTail e (.Slice lo hi none p2) v (.ref s3.heap.objs.size)) (EP X pins σ Q) X.xe { s3 with heap := s3.heap.push { cls := .type "slice", data := .fields #[vl, vu, .none] } }
  exact tail_any (ops := [.ref s3.heap.objs.size, v]) ht hT hg (by with_unfolding_all rfl)
def cutV (xs : List V) (lo hi : Option Int) : List V := (xs.drop (HT.sIx xs.length 0 lo)).take (HT.sIx xs.length xs.length hi - HT.sIx xs.length 0 lo)
theorem zd8 (xs : List V) (lo hi : Option Int) : (cutV xs lo hi).length ≤ xs.length := by
  unfold cutV
  rw [List.length_take, List.length_drop]
  omega
def rSlT (K : PySem.W.Frag) : V → Option Int → Option Int → Hp → VK → Prop := fun x lo hi H Q => ∃ a xs, x = .ref a ∧ SqT K H a xs ∧
  ¬ (HT.sIx xs.length 0 lo = 0 ∧ HT.sIx xs.length xs.length hi = xs.length) ∧ ∀ p, H p = none → Q (.ref p) (upd H p (.tup (cutV xs lo hi)))
theorem zrg : SlR X (rSlT X.K) := by
  intro pins s σ H x v vl vu lo hi sl Q I rx hs pl pu h
  obtain ⟨a, xs, rfl, hx, hw, q⟩ := h
  cases rx
  obtain ⟨its, r, ht, hz⟩ := I.tuple hx
  have hlen : its.toArray.size = xs.length := by rw [List.size_toArray]; exact r.length.symm
  refine ⟨"tuple", _, PyProof.Rows.slot_tuple_getitem.lookup, ht.typeIs, ?_⟩
  refine HT.getItem_tuple_cut ht hs pl pu (by rw [hlen]; exact hw) ?_ (by rw [hlen]; exact hz)
  rw [hlen]
  refine ⟨.ref s.heap.objs.size, _, I.laid (t' := s.toks) (o := .tup (cutV xs lo hi)) (fun b ob q => Heap.get?_push_of_some _ q) (Nat.le_refl _) ?_, rfl, q _ (I.hok.fresh (Nat.le_refl _))⟩
  exact ⟨Nat.le_trans (zd8 xs lo hi) hz, _, (r.drop (HT.sIx xs.length 0 lo)).take (HT.sIx xs.length xs.length hi - HT.sIx xs.length 0 lo), IsTup.new _ _⟩
end
def ixN (n : Nat) (i : Int) : Option Nat := if 0 ≤ i then (if i < n then some i.toNat else none) else if -(n : Int) ≤ i then some (i + n).toNat else none
def atI {α : Type} (xs : List α) (i : Int) : Option α := (ixN xs.length i).bind fun j => xs[j]?
theorem zqs {n : Nat} {i : Int} {j : Nat} (h : ixN n i = some j) : seqIndex? i n = some j ∧ j < n ∧ -(n : Int) ≤ i ∧ i < n := by
  unfold ixN at h
  by_cases h0 : 0 ≤ i
  · rw [if_pos h0] at h
    by_cases h1 : i < n
    · rw [if_pos h1] at h
      have e : i.toNat = j := Option.some.inj h
      exact ⟨by rw [seqIndex_of h0 h1, e], by omega, by omega, h1⟩
    · rw [if_neg h1] at h; cases h
  · rw [if_neg h0] at h
    by_cases h1 : -(n : Int) ≤ i
    · rw [if_pos h1] at h
      have e : (i + n).toNat = j := Option.some.inj h
      exact ⟨by rw [seqIndex_neg (by omega) h1, e], by omega, h1, by omega⟩
    · rw [if_neg h1] at h; cases h
theorem zh5 {α : Type} {xs : List α} {i : Int} {v : α} (h : atI xs i = some v) : ∃ j, seqIndex? i xs.length = some j ∧ xs[j]? = some v ∧ j < xs.length ∧ -(xs.length : Int) ≤ i ∧ i < xs.length := by
  unfold atI at h
  cases e : ixN xs.length i with
  | none => rw [e] at h; cases h
  | some j =>
    rw [e] at h
    obtain ⟨h1, h2, h3, h4⟩ := zqs e
    exact ⟨j, h1, h, h2, h3, h4⟩
theorem zal {α : Type} {xs : List α} {j : Nat} {v : α} (h : xs[j]? = some v) : atI xs (j : Int) = some v := by
  have hj : j < xs.length := (List.getElem?_eq_some_iff.mp h).1
  have e : ixN xs.length (j : Int) = some j := by
    unfold ixN
    rw [if_pos (by omega), if_pos (by omega)]; simp
  unfold atI; rw [e]; exact h
def PlainIx (b : Expr) : Prop := ∀ o i, subscripted b false o i = operate [o, i] (getItem o i)
def IxR (X : Cx) (r : R2) : Prop :=
  ∀ (value slice : Expr) (pins : List (Addr × Obj)) (s : Shared) (σ : St) (H : Hp) (x y : V) (v u : Value) (Q : VK), Inv X pins σ H s → RelV x v → RelV y u → r x y H Q →
    subscripted slice false v u = operate [v, u] (getItem v u) → wpAny (model X.prog X.w) X.A (subscriptTail value slice v u) (EP X pins σ Q) X.xe s
def MtR (X : Cx) (id : String) (r : V → List V → Hp → VK → Prop) : Prop :=
  ∀ (pins : List (Addr × Obj)) (s : Shared) (σ : St) (H : Hp) (x : V) (xs : List V) (v : Value) (us : List Value) (Q : VK), Inv X pins σ H s → RelV x v → Vals xs us → r x xs H Q →
    wpAny (model X.prog X.w) X.A (call (.builtin id) (v :: us)) (EP X pins σ Q) X.xe s
section
variable {X : Cx} {a b : Expr} {ta tb : TE} {pos : Pos}
theorem zap {r : R2} (hr : IxR X r) (ha : PE X a ta) (hb : PE X b tb) (hs : PlainIx b) : PE X (.Subscript a b pos) (tOp r ta tb) := by
  intro pins s σ H Q I h
  exact Subscript_ (binT ha hb I h fun v u s2 x y H2 I2 rx ry q => hr a b pins s2 σ H2 x y v u Q I2 rx ry q (hs _ _))
def rIxL (K : PySem.W.Frag) : R2 := fun x y H Q => ∃ p xs i v, x = .ref p ∧ y = .int i ∧ SqL K H p xs ∧ atI xs i = some v ∧ Q v H
def rIxT (K : PySem.W.Frag) : R2 := fun x y H Q => ∃ p xs i v, x = .ref p ∧ y = .int i ∧ SqT K H p xs ∧ atI xs i = some v ∧ Q v H
def rIxS : R2 := fun x y H Q => ∃ z i c, x = .str z ∧ y = .int i ∧ z.length ≤ sizeLine ∧ atI z.cps.toList i = some c ∧ Q (.str ⟨#[c]⟩) H
theorem zqr : IxR X (rIxL X.K) := by
  intro value slice pins s σ H x y v u Q I rx ry h hs
  obtain ⟨p, xs, i, z, rfl, rfl, hq, he, q⟩ := h
  cases rx
  obtain ⟨t, rfl⟩ := ry
  obtain ⟨its, r, pl, hz⟩ := I.list hq
  obtain ⟨j, h1, h2, h3, h4, h5⟩ := zh5 he
  obtain ⟨w, ew, rw'⟩ := r.get h2
  have hl := r.length
  have hn := line63
  have fin : EP X pins σ Q w s := ⟨z, H, I, rw', q⟩
  by_cases h0 : 0 ≤ i
  · have hj : i.toNat = j := by
      rw [seqIndex_of h0 h5] at h1
      exact Option.some.inj h1
    exact item_listR pl.isList h0 (by omega) (by rw [hj]; simpa using ew) fin hs
  · have hj : (i + (its.toArray.size : Int)).toNat = j := by
      rw [seqIndex_neg (by omega) h4] at h1
      rw [List.size_toArray, ← hl]
      exact Option.some.inj h1
    exact subscriptTail_builtinR (x := w) pl.isList.typeIs slot_list_getitem.lookup
      (wpAny_getItem_list_neg (Q := fun r s' => r = w ∧ EP X pins σ Q r s') pl.isList (by omega) (by rw [List.size_toArray] <;> omega) (by omega) (by rw [hj]; simpa using ew) ⟨rfl, fin⟩) hs
theorem zsa : IxR X (rIxT X.K) := by
  intro value slice pins s σ H x y v u Q I rx ry h hs
  obtain ⟨p, xs, i, z, rfl, rfl, hq, he, q⟩ := h
  cases rx
  obtain ⟨t, rfl⟩ := ry
  obtain ⟨its, r, pl, hz⟩ := I.tuple hq
  obtain ⟨j, h1, h2, h3, h4, h5⟩ := zh5 he
  obtain ⟨w, ew, rw'⟩ := r.get h2
  have hl := r.length
  have hn := line63
  have fin : EP X pins σ Q w s := ⟨z, H, I, rw', q⟩
  exact subscriptTail_builtinR (x := w) pl.typeIs slot_tuple_getitem.lookup
    (getItem_tuple (j := j) (Q := fun r s' => r = w ∧ EP X pins σ Q r s') pl (by omega) (by omega) (by rw [List.size_toArray, ← hl]; exact h1) (by simpa using ew) ⟨rfl, fin⟩) hs
theorem zsb : IxR X rIxS := by
  intro value slice pins s σ H x y v u Q I rx ry h hs
  obtain ⟨z, i, c, rfl, rfl, hz, he, q⟩ := h
  obtain ⟨t, rfl⟩ := rx
  obtain ⟨t', rfl⟩ := ry
  obtain ⟨j, h1, h2, h3, h4, h5⟩ := zh5 he
  have hl : z.cps.toList.length = z.length := by simp [Str.length]
  rw [hl] at h1 h4 h5
  have hn := line63
  exact tail_any (typeIs_str s z t) slot_str_getitem.lookup (getItem_str (c := c) (by
    have e1 : decide (i < -(2 ^ 63 : Int)) = false := decide_eq_false (by omega)
    have e2 : decide (i ≥ 2 ^ 63) = false := decide_eq_false (by omega)
    rw [e1, e2, Bool.or_false]) (by rw [h1]; simpa using h2) ⟨.str ⟨#[c]⟩, H, I.tok _, ⟨_, rfl⟩, q⟩) hs
def rSetL : V → V → V → Hp → (Hp → Prop) → Prop := fun o i v H Q => ∃ p xs k j, o = .ref p ∧ i = .int k ∧ H p = some (.lst xs) ∧ ixN xs.length k = some j ∧ Q (upd H p (.lst (xs.set j v)))
theorem zf8 (lo hi : Option Int) (n : Nat) : (sliceBounds lo hi none n).1 = ((HT.sIx n 0 lo : Nat) : Int) ∧ (sliceBounds lo hi none n).2.1 = ((HT.sIx n n hi : Nat) : Int) ∧ (sliceBounds lo hi none n).2.2 = 1 := by
  refine ⟨?_, ?_, rfl⟩
  · cases lo with
    | none => simp [sliceBounds, HT.sIx]
    | some i =>
      simp only [sliceBounds, HT.sIx, Option.getD_none, show (1 : Int) > 0 by decide, if_true]
      by_cases h : i < 0
      · simp only [h, if_true] <;> omega
      · simp only [h, if_false] <;> omega
  · cases hi with
    | none => simp [sliceBounds, HT.sIx]
    | some i =>
      simp only [sliceBounds, HT.sIx, Option.getD_none, show (1 : Int) > 0 by decide, if_true]
      by_cases h : i < 0
      · simp only [h, if_true] <;> omega
      · simp only [h, if_false] <;> omega
theorem ze6 (its : List Value) (lo hi : Option Int) : slicePick its.toArray lo hi none = ((its.drop (HT.sIx its.length 0 lo)).take (HT.sIx its.length its.length hi - HT.sIx its.length 0 lo)).toArray := by
  obtain ⟨h1, h2, h3⟩ := zf8 lo hi its.toArray.size
  unfold slicePick
  rw [h1, h2, h3]
  simp only [sliceRange_one, pick_run, List.size_toArray] <;> rfl
def rSlL (K : PySem.W.Frag) : V → Option Int → Option Int → Hp → VK → Prop := fun x lo hi H Q => ∃ a xs, x = .ref a ∧ SqL K H a xs ∧ ∀ p, H p = none → Q (.ref p) (upd H p (.lst (cutV xs lo hi)))
theorem zpo : SlR X (rSlL X.K) := by
  intro pins s σ H x v vl vu lo hi sl Q I rx hs pl pu h
  obtain ⟨a, xs, rfl, hx, q⟩ := h
  cases rx
  obtain ⟨its, r, ht, hz⟩ := I.list hx
  have hlen := r.length
  refine ⟨"list", _, slot_list_getitem.lookup, ht.isList.typeIs, ?_⟩
  refine wpAny_getItem_list_slice ht.isList hs pl pu .none (by simp) ?_ (by rw [List.size_toArray] <;> omega)
  rw [ze6, ← hlen]
  refine ⟨.ref s.heap.objs.size, _, I.laid (t' := s.toks) (o := .lst (cutV xs lo hi)) (fun b ob q => Heap.get?_push_of_some _ q) (Nat.le_refl _) ?_, rfl, q _ (I.hok.fresh (Nat.le_refl _))⟩
  exact ⟨Nat.le_trans (zd8 xs lo hi) hz, _, 0, (r.drop (HT.sIx xs.length 0 lo)).take (HT.sIx xs.length xs.length hi - HT.sIx xs.length 0 lo), Heap.get?_push_size _ rfl⟩
def flatV : V → Bool
  | .non => true
  | .bl _ => true
  | .int _ => true
  | .str _ => true
  | _ => false
def eqV : V → V → Bool
  | .non, .non => true
  | .bl a, .bl b => a == b
  | .bl a, .int b => (if a then 1 else 0) == b
  | .int a, .bl b => a == (if b then 1 else 0)
  | .int a, .int b => a == b
  | .str a, .str b => a == b
  | _, _ => false
theorem zme {A : Around} {s : Shared} {y x : V} {u v : Value} (ry : RelV y u) (rx : RelV x v) (fy : flatV y = true) (fx : flatV x = true) : SeqAt.EqAt A s u v (eqV y x) := by
  cases y with
  | non =>
    cases ry
    cases x with
    | non => cases rx; exact SeqAt.EqAt.same _
    | bl b => cases rx; exact SeqAt.EqAt.none_bool b
    | int b => obtain ⟨t, rfl⟩ := rx; exact SeqAt.EqAt.none_int b t
    | str b => obtain ⟨t, rfl⟩ := rx; exact SeqAt.EqAt.none_str b t
    | _ => exact absurd (show false = true from fx) Bool.false_ne_true
  | bl a =>
    cases ry
    cases x with
    | non => cases rx; exact SeqAt.EqAt.bool_none a
    | bl b => cases rx; exact SeqAt.EqAt.bool_bool a b
    | int b => obtain ⟨t, rfl⟩ := rx; exact SeqAt.EqAt.bool_int a b t
    | str b => obtain ⟨t, rfl⟩ := rx; exact SeqAt.EqAt.bool_str a b t
    | _ => exact absurd (show false = true from fx) Bool.false_ne_true
  | int a =>
    obtain ⟨t', rfl⟩ := ry
    cases x with
    | non => cases rx; exact SeqAt.EqAt.int_none a t'
    | bl b => cases rx; exact SeqAt.EqAt.int_bool a t' b
    | int b => obtain ⟨t, rfl⟩ := rx; exact SeqAt.EqAt.int_int a t' b t
    | str b => obtain ⟨t, rfl⟩ := rx; exact SeqAt.EqAt.int_str a t' b t
    | _ => exact absurd (show false = true from fx) Bool.false_ne_true
  | str a =>
    obtain ⟨t', rfl⟩ := ry
    cases x with
    | non => cases rx; exact SeqAt.EqAt.str_none a t'
    | bl b => cases rx; exact SeqAt.EqAt.str_bool a t' b
    | int b => obtain ⟨t, rfl⟩ := rx; exact SeqAt.EqAt.str_int a t' b t
    | str b => obtain ⟨t, rfl⟩ := rx; exact SeqAt.EqAt.str_str a t' b t
    | _ => exact absurd (show false = true from fx) Bool.false_ne_true
  | _ => exact absurd (show false = true from fy) Bool.false_ne_true
def eqU (x : V) (u : Value) : Bool := match u with
  | .none => eqV .non x
  | .bool b => eqV (.bl b) x
  | .int i _ => eqV (.int i) x
  | .str z _ => eqV (.str z) x
  | _ => false
theorem zo8 {x y : V} {u : Value} (r : RelV y u) (f : flatV y = true) : eqU x u = eqV y x := by
  cases y with
  | non => cases r; rfl
  | bl b => cases r; rfl
  | int i => obtain ⟨t, rfl⟩ := r; rfl
  | str z => obtain ⟨t, rfl⟩ := r; rfl
  | _ => exact absurd (show false = true from f) Bool.false_ne_true
theorem zee {x : V} : ∀ {xs : List V} {us : List Value}, Vals xs us → xs.all flatV = true → us.any (eqU x) = xs.any fun y => eqV y x
  | _, _, .nil, _ => rfl
  | y :: xs, u :: us, .cons r t, f => by
    rw [List.all_cons, Bool.and_eq_true] at f
    rw [List.any_cons, List.any_cons, zo8 r f.1, zee t f.2]
theorem zcv {A : Around} {s : Shared} {x : V} {v : Value} (rx : RelV x v) (fx : flatV x = true) : ∀ {xs : List V} {us : List Value}, Vals xs us → xs.all flatV = true → ∀ u ∈ us, SeqAt.EqAt A s u v (eqU x u)
  | _, _, .nil, _ => fun u hu => by cases hu
  | y :: xs, u :: us, .cons r t, f => fun u' hu => by
    rw [List.all_cons, Bool.and_eq_true] at f
    rcases List.mem_cons.mp hu with rfl | hu
    · rw [zo8 r f.1]; exact zme r rx f.1 fx
    · exact zcv rx fx t f.2 u' hu
def inV (x : V) (xs : List V) : Bool := xs.any fun y => eqV y x
def rIn (K : PySem.W.Frag) (neg : Bool) : R2 := fun x y H Q => ∃ p xs, y = .ref p ∧ (SqL K H p xs ∨ SqT K H p xs) ∧ flatV x = true ∧ xs.all flatV = true ∧ Q (.bl (if neg then !inV x xs else inV x xs)) H
theorem zld : OpR X (compareOp .In) (rIn X.K false) := by
  intro pins s σ H x y v u Q I rx ry h
  obtain ⟨p, xs, rfl, hq, fx, fs, q⟩ := h
  cases ry
  rcases hq with hq | hq
  · obtain ⟨its, r, pl, hz⟩ := I.list hq
    refine SeqAt.in_listAt (eqU x) pl.isList (fun w hw => zcv rx fx r fs w (by simpa using hw)) ⟨.bl _, H, I, rfl, ?_⟩
    rw [show its.toArray.any (eqU x) = its.any (eqU x) by simp, zee r fs]
    exact q
  · obtain ⟨its, r, pl, hz⟩ := I.tuple hq
    refine SeqAt.in_tupleAt (eqU x) pl (fun w hw => zcv rx fx r fs w (by simpa using hw)) ⟨.bl _, H, I, rfl, ?_⟩
    rw [show its.toArray.any (eqU x) = its.any (eqU x) by simp, zee r fs]
    exact q
theorem zgh : OpR X (compareOp .NotIn) (rIn X.K true) := by
  intro pins s σ H x y v u Q I rx ry h
  obtain ⟨p, xs, rfl, hq, fx, fs, q⟩ := h
  cases ry
  rcases hq with hq | hq
  · obtain ⟨its, r, pl, hz⟩ := I.list hq
    refine SeqAt.notIn_listAt (eqU x) pl.isList (fun w hw => zcv rx fx r fs w (by simpa using hw)) ⟨.bl _, H, I, rfl, ?_⟩
    rw [show its.toArray.any (eqU x) = its.any (eqU x) by simp, zee r fs]
    exact q
  · obtain ⟨its, r, pl, hz⟩ := I.tuple hq
    refine SeqAt.notIn_tupleAt (eqU x) pl (fun w hw => zcv rx fx r fs w (by simpa using hw)) ⟨.bl _, H, I, rfl, ?_⟩
    rw [show its.toArray.any (eqU x) = its.any (eqU x) by simp, zee r fs]
    exact q
theorem zgy : CallR X (.builtin "len") (fun xs H Q => ∃ p ys, xs = [.ref p] ∧ (SqL X.K H p ys ∨ SqT X.K H p ys) ∧ Q (.int ys.length) H) := by
  intro pins s σ H xs us Q I r h
  obtain ⟨p, ys, rfl, hq, q⟩ := h
  obtain ⟨u, rfl, rx⟩ := vals1 r
  cases rx
  have hn := line63
  rcases hq with hq | hq
  · obtain ⟨its, r', pl, hz⟩ := I.list hq
    have hlen := r'.length
    exact Calls.call_len_list pl.isList (by simp only [List.size_toArray] <;> omega) ⟨.int ys.length, H, I.tok _, ⟨s.toks + 1, by rw [List.size_toArray, hlen]⟩, q⟩
  · obtain ⟨its, r', pl, hz⟩ := I.tuple hq
    have hlen := r'.length
    exact len_tuple pl (by simp only [List.size_toArray] <;> omega) ⟨.int ys.length, H, I.tok _, ⟨s.toks + 1, by rw [List.size_toArray, hlen]⟩, q⟩
theorem zgx : CallR X (.builtin "len") (fun xs H Q => ∃ z, xs = [.str z] ∧ z.length ≤ sizeLine ∧ Q (.int z.length) H) := by
  intro pins s σ H xs us Q I r h
  obtain ⟨z, rfl, hz, q⟩ := h
  obtain ⟨u, rfl, t, rfl⟩ := vals1 r
  have hn := line63
  exact len_str (by omega) ⟨.int z.length, H, I.tok _, ⟨_, rfl⟩, q⟩
theorem zgw : CallR X (.type "list") (fun xs H Q => ∃ p ys, xs = [.ref p] ∧ (SqL X.K H p ys ∨ SqT X.K H p ys) ∧ ∀ l, H l = none → Q (.ref l) (upd H l (.lst ys))) := by
  intro pins s σ H xs us Q I r h
  obtain ⟨p, ys, rfl, hq, q⟩ := h
  obtain ⟨u, rfl, rx⟩ := vals1 r
  cases rx
  have fin : ∀ (its : List Value), Vals ys its → ys.length ≤ sizeLine → ∀ (h' : Heap) (c' : Nat), (∀ b o', s.heap.get? b = some o' → h'.get? b = some o') →
      h'.get? s.heap.objs.size = some { cls := .type "list", dict := none, data := .seq its.toArray c', slots := #[] } → EP X pins σ Q (.ref s.heap.objs.size) { s with heap := h' } := fun its r' hz h' c' kp e =>
    ⟨.ref s.heap.objs.size, _, I.laid (t' := s.toks) kp (Nat.le_refl _) (show ObjOk X.prog X.w _ h' _ (.lst ys) from ⟨hz, its, c', r', e⟩), rfl, q _ (I.hok.fresh (Nat.le_refl _))⟩
  rcases hq with hq | hq
  · obtain ⟨its, r', pl, hz⟩ := I.list hq
    have hlen := r'.length
    obtain ⟨o, ho, hc, n, hd⟩ := pl.isList
    exact call_list_seq p (.inl rfl) ho hc hd (fun h' c' kp e => fin its r' hz h' c' kp e) (by simp only [List.size_toArray] <;> omega)
  · obtain ⟨its, r', pl, hz⟩ := I.tuple hq
    have hlen := r'.length
    obtain ⟨o, ho, hc, n, hd⟩ := pl
    exact call_list_seq p (.inr rfl) ho hc hd (fun h' c' kp e => fin its r' hz h' c' kp e) (by simp only [List.size_toArray] <;> omega)
theorem zfq : CallR X (.type "tuple") (fun xs H Q => ∃ p ys, xs = [.ref p] ∧ ((SqL X.K H p ys ∧ ∀ l, H l = none → Q (.ref l) (upd H l (.tup ys))) ∨ (SqT X.K H p ys ∧ Q (.ref p) H))) := by
  intro pins s σ H xs us Q I r h
  obtain ⟨p, ys, rfl, h⟩ := h
  obtain ⟨u, rfl, rx⟩ := vals1 r
  cases rx
  rcases h with ⟨hq, q⟩ | ⟨hq, q⟩
  · obtain ⟨its, r', pl, hz⟩ := I.list hq
    have hlen := r'.length
    refine call_tuple_list pl.isList (fun h' kp => ?_) (by simp only [List.size_toArray] <;> omega)
    have I1 : Inv X pins σ H { s with heap := h' } := I.kept (t' := s.toks) kp
    have I2 : Inv X pins σ (upd H h'.objs.size (.tup ys)) { s with heap := h'.push { cls := .type "tuple", data := .seq its.toArray } } :=
      I1.laid (t' := s.toks) (fun b o e => Heap.get?_push_of_some _ e) (Nat.le_refl _) (show ObjOk X.prog X.w _ _ _ (.tup ys) from ⟨hz, its, r', IsTup.new _ _⟩)
    exact ⟨.ref h'.objs.size, _, I2, rfl, q _ (I1.hok.fresh (Nat.le_refl _))⟩
  · obtain ⟨its, r', pl, hz⟩ := I.tuple hq
    exact call_tuple_same pl ⟨.ref p, H, I, rfl, q⟩
def tyV (K : PySem.W.Frag) (T : String) (x : V) (H : Hp) : Prop := match x with
  | .str _ => T = "str"
  | .int _ => T = "int"
  | .ref p => (T = "list" ∧ ∃ xs, SqL K H p xs) ∨ (T = "tuple" ∧ ∃ o, K.lookup p = some o ∧ o.cls = .type "tuple" ∧ o.dict = none) ∨
      (T = "dict" ∧ ((∃ kvs, H p = some (.dK kvs)) ∨ ∃ kvs, H p = some (.dT kvs))) ∨ (T = "set" ∧ ∃ S n, H p = some (.set S n))
  | _ => False
theorem zrc {pins : List (Addr × Obj)} {σ : St} {H : Hp} {s : Shared} {T : String} {x : V} {v : Value} (I : Inv X pins σ H s) (r : RelV x v) (ty : tyV X.K T x H) :
    s.TypeIs v T ∧ ∀ a, v = .ref a → ∃ ob, s.heap.get? a = some ob ∧ ob.dict = none := by
  cases x with
  | str z =>
    obtain ⟨t, rfl⟩ := r
    cases (show T = "str" from ty)
    exact ⟨typeIs_str s z t, fun _ e => nomatch e⟩
  | int i =>
    obtain ⟨t, rfl⟩ := r
    cases (show T = "int" from ty)
    exact ⟨typeIs_int s i t, fun _ e => nomatch e⟩
  | ref p =>
    cases r
    rcases ty with ⟨rfl, xs, hq⟩ | ⟨rfl, o, hk, hc, hd⟩ | ⟨rfl, hk⟩ | ⟨rfl, S, n, hk⟩
    · obtain ⟨its, _, pl, _⟩ := I.list hq
      refine ⟨pl.isList.typeIs, fun a e => ?_⟩
      cases e
      obtain ⟨o, n, e, c, hd, _⟩ := pl
      exact ⟨o, e, hd⟩
    · refine ⟨⟨o, I.kIn p o hk, hc⟩, fun a e => ?_⟩
      cases e
      exact ⟨o, I.kIn _ o hk, hd⟩
    · have z : ∃ o, s.heap.get? p = some o ∧ o.ExactDict := by
        rcases hk with ⟨kvs, hk⟩ | ⟨kvs, hk⟩
        · obtain ⟨_, _, _, _, o, _, _, e, ex, _⟩ := I.hok p _ hk
          exact ⟨o, e, ex⟩
        · obtain ⟨_, _, _, _, o, _, _, e, ex, _⟩ := I.hok p _ hk
          exact ⟨o, e, ex⟩
      obtain ⟨o, e, ex⟩ := z
      refine ⟨⟨o, e, ex.1⟩, fun a e2 => ?_⟩
      cases e2
      exact ⟨o, e, ex.2.1⟩
    · obtain ⟨o, _, _, _, e, ex, _⟩ := I.hok p _ hk
      refine ⟨⟨o, e, ex.1⟩, fun a e2 => ?_⟩
      cases e2
      exact ⟨o, e, ex.2.1⟩
  | _ => exact False.elim ty
def tBM0 (K : PySem.W.Frag) (T : String) (r : V → List V → Hp → VK → Prop) (to : TE) : TE := fun σ H Q => to σ H fun x H1 => tyV K T x H1 ∧ r x [] H1 Q
def tBM (K : PySem.W.Frag) (T : String) (r : V → List V → Hp → VK → Prop) (to : TE) (t : TA) : TE := fun σ H Q => to σ H fun x H1 => tyV K T x H1 ∧ t σ H1 fun xs H2 => r x xs H2 Q
variable {o e : Expr} {es : List Expr} {to : TE} {t : TA} {name : Str} {apos cpos : Pos} {T id : String} {r : V → List V → Hp → VK → Prop}
theorem zsp (pa : PlainAttrs T) (slot : Slot T name id) (hty : typeOf (.builtin id) = pure (.type "method_descriptor")) (hm : MtR X id r) (ho : PE X o to) (ha : PA X (e :: es) t)
    (hbase : attributeBase o name X.env (eval o X.env) = eval o X.env := by rfl)
    (hfew : ((backTo cpos (starEach (e :: es) X.env)).all (fun x => !x.1) && (backToKw cpos (keywordEach [] X.env)).all (fun x => x.1.isSome)
      && decide ((e :: es).length + ([] : List Keyword).length + (if ([] : List Keyword).isEmpty then 0 else 1) < 30)) = true := by rfl)
    (hline : (apos.endLine == cpos.line) = true := by rfl) (hs : starEach (e :: es) X.env = (false, eval e X.env) :: starEach es X.env := by rfl) (hplain : (backTo cpos (starEach es X.env)).any (·.1) = false := by rfl) :
    PE X (.Call (.Attribute o name apos) (e :: es) [] cpos) (tBM X.K T r to t) := by
  intro pins s σ H Q I h
  refine wpAny_Call_method_late hbase hfew hline rfl (thn (ho pins s σ H _ I h) fun v s1 ⟨x, H1, I1, r1, ty, q1⟩ => ?_)
  obtain ⟨h1, h2⟩ := zrc I1 r1 ty
  refine ⟨T, id, pa, slot, hty, h1, h2, ?_⟩
  have hA := ha cpos pins s1 σ H1 _ I1 q1
  rw [hs] at hA ⊢
  refine Calls.callWith_builtin (by show (false || (backTo cpos (starEach es X.env)).any (·.1)) = false; rw [hplain] <;> rfl) (Calls.evalArgs_plain ?_)
  exact thn hA fun us s2 ⟨vs, H2, I2, r2, q2⟩ => hm pins s2 σ H2 x vs v us Q I2 r1 r2 q2
end
def MtM (X : Cx) (id : String) (r : V → List V → Hp → VK → Prop) : Prop :=
  ∀ (pins : List (Addr × Obj)) (s : Shared) (σ : St) (H : Hp) (x : V) (xs : List V) (v : Value) (us : List Value) (Q : VK), Inv X pins σ H s → RelV x v → Vals xs us → r x xs H Q →
    wpAny (model X.prog X.w) X.A (call (.builtin id) (v :: us)) (EP X pins σ Q) X.xe s
theorem Vals.one : ∀ {x : V} {us : List Value}, Vals [x] us → ∃ u, us = [u] ∧ RelV x u
  | _, _, .cons r .nil => ⟨_, rfl, r⟩
theorem Vals.two : ∀ {x y : V} {us : List Value}, Vals [x, y] us → ∃ u v, us = [u, v] ∧ RelV x u ∧ RelV y v
  | _, _, _, .cons r (.cons q .nil) => ⟨_, _, rfl, r, q⟩
section
variable {X : Cx} {pins : List (Addr × Obj)} {σ : St} {H : Hp} {s : Shared} {l b : Addr} {xs ys zs : List V}
theorem Inv.lset {its its' : List Value} {n : Nat} {f : Array Value → Array Value} {t' : Nat} (I : Inv X pins σ H s) (hH : H l = some (.lst xs))
    (e : s.heap.get? l = some { cls := .type "list", data := .seq its.toArray n }) (hf : f its.toArray = its'.toArray) (hv : Vals ys its') (hz : ys.length ≤ sizeLine) :
    Inv X pins σ (upd H l (.lst ys)) { s with heap := s.heap.update l (Obj.mapSeq f), toks := t' } := by
  have q := PySem.IsL.update e f
  rw [hf] at q
  refine I.write (x := l) (e := l) (by rw [hH]; exact trivial) (.inl rfl) (fun b' u hb hu => (Heap.get?_update_other s.heap (Obj.mapSeq f) (Ne.symm hb)).trans hu) ⟨_, q⟩ ?_
  exact ⟨hz, its', _, hv, q⟩
theorem Inv.lnew {its : List Value} {t' : Nat} (I : Inv X pins σ H s) (hv : Vals ys its) (hz : ys.length ≤ sizeLine) :
    Inv X pins σ (upd H s.heap.objs.size (.lst ys)) { s with heap := s.heap.push { cls := .type "list", data := .seq its.toArray }, toks := t' } :=
  I.laid (fun _ _ q => Heap.get?_push_of_some _ q) (Nat.le_refl _) ⟨hz, its, 0, hv, Heap.get?_push_size _ rfl⟩
theorem Inv.fresh (I : Inv X pins σ H s) : H s.heap.objs.size = none := I.hok.fresh (Nat.le_refl _)
theorem Inv.lstM (I : Inv X pins σ H s) (hH : H l = some (.lst xs)) : xs.length ≤ sizeLine ∧ ∃ (its : List Value) (n : Nat), Vals xs its ∧ xs.length = its.length ∧ s.heap.get? l = some { cls := .type "list", data := .seq its.toArray n } := by
  obtain ⟨z, its, n, r, e⟩ := I.hok l _ hH
  exact ⟨z, its, n, r, r.length, e⟩
end
section
variable {X : Cx}
def rAppend : V → List V → Hp → VK → Prop := fun x vs H Q => ∃ l xs y, x = .ref l ∧ vs = [y] ∧ H l = some (.lst xs) ∧ xs.length < sizeLine ∧ Q .non (upd H l (.lst (xs ++ [y])))
theorem zd0 : MtM X "list.append" rAppend := by
  intro pins s σ H x vs v us Q I rx rv h
  obtain ⟨l, xs, y, rfl, rfl, hH, hz, q⟩ := h
  cases rx
  obtain ⟨u, rfl, ru⟩ := rv.one
  obtain ⟨z, its, n, r, hl, e⟩ := I.lstM hH
  refine call_meets F.slot_list_append ⟨_, e, rfl⟩ F.entry_list_append (F.args_list_append_2 _ _) (PySem.list_append l its.toArray n u (by rw [List.size_toArray]; omega)) ⟨e, ?_⟩
  refine ⟨.non, _, I.lset (its' := its ++ [u]) hH e (by simp) (r.append (.cons ru .nil)) ?_, rfl, q⟩
  rw [List.length_append, List.length_singleton]
  omega
def rExtend : V → List V → Hp → VK → Prop := fun x vs H Q => ∃ l b xs zs, x = .ref l ∧ vs = [.ref b] ∧ H l = some (.lst xs) ∧ H b = some (.lst zs) ∧ xs.length + zs.length ≤ sizeLine ∧ Q .non (upd H l (.lst (xs ++ zs)))
def rPopAt : V → List V → Hp → VK → Prop := fun x vs H Q => ∃ l xs i k y, x = .ref l ∧ vs = [.int i] ∧ H l = some (.lst xs) ∧ -(2 ^ 63) ≤ i ∧ i < 2 ^ 63 ∧ seqIndex? i xs.length = some k ∧ xs[k]? = some y ∧ Q y (upd H l (.lst (xs.eraseIdx k)))
def rCat : R2 := fun x y H Q => ∃ l b xs zs, x = .ref l ∧ y = .ref b ∧ H l = some (.lst xs) ∧ H b = some (.lst zs) ∧ xs.length + zs.length ≤ sizeLine ∧ ∀ p, H p = none → Q (.ref p) (upd H p (.lst (xs ++ zs)))
theorem zrw : OpR X (binaryOp .Add) rCat := by
  intro pins s σ H x y v u Q I rx ry h
  obtain ⟨l, b, xs, zs, rfl, rfl, hH, hB, hz, q⟩ := h
  cases rx
  cases ry
  obtain ⟨z, its, n, r, hl, e⟩ := I.lstM hH
  obtain ⟨z2, its2, n2, r2, hl2, e2⟩ := I.lstM hB
  refine PySem.P.add_list e e2 ?_ (by rw [List.size_toArray, List.size_toArray]; omega)
  have ea : its.toArray ++ its2.toArray = (its ++ its2).toArray := by simp
  rw [ea]
  exact ⟨.ref _, _, I.lnew (t' := s.toks) (r.append r2) (by rw [List.length_append]; omega), rfl, q _ I.fresh⟩
end
end L2
namespace Att
open PySem PySem.W PySem.Calls PyProof.Rows
theorem zd4 {P : Params} {h : Heap} : ∀ (ns : List Int) (vs : List Value), WellAll P h vs (ns.map WData.int) → IntsAre vs ns := by
  intro ns
  induction ns with
  | nil =>
    intro vs w
    rw [List.map_nil] at w
    cases w
    exact .nil
  | cons n ns ih =>
    intro vs w
    rw [List.map_cons] at w
    cases w with
    | cons a b =>
      cases a
      exact .cons _ _ (ih _ b)
theorem zkt {l : OpenLaw} {n : Nat} (hn : l.most = some n) {P : Params} {h : Heap} {args : List WData} {vals : List Value}
    (hpre : l.row.toRowW.claim.pre args = true) (hwl : WellAll P h vals args) :
    ∃ a vs ns, vals = [Value.ref a] ∧ args = [WData.list (ns.map WData.int)] ∧ h.get? a = some { cls := .type "list", data := .seq vs.toArray } ∧ IntsAre vs ns ∧ ns.length ≤ n := by
  have hsh : WShape.hasAll [] args [.list .int] = true := (pre_splitW hpre).1
  have hc : l.pre.holds [] { args := args } = true := (pre_splitW hpre).2
  obtain ⟨d, r, rfl, h1, h2⟩ := hasAllW_cons hsh
  obtain rfl := hasAllW_nil h2
  obtain ⟨xs, rfl, h3⟩ := hasW_list h1
  obtain ⟨ns, rfl⟩ := items_int h3
  have hlen : ns.length ≤ n := by
    unfold OpenLaw.pre at hc
    have h4 : (WTm.not (.lt (.lit (.int (n : Int))) (.len (.arg 0)))).holds [] { args := [.list (ns.map .int)] } = true := by
      have h4 := (holds_andW hc).1
      rw [hn] at h4
      exact h4
    have h5 := condW_of h4 (w_not (w_lt w_lit (w_len_list (w_arg rfl))))
    rw [List.length_map] at h5
    refine Nat.le_of_not_lt fun q => ?_
    have q' : (n : Int) < ((ns.length : Nat) : Int) := by omega
    first
      | (rw [decide_eq_true q'] at h5; exact absurd h5 (by decide))
      | (simp at h5; omega)
  cases hwl with
  | cons w1 w2 =>
    cases w2
    cases w1 with
    | list ho hall => exact ⟨_, _, ns, rfl, rfl, ho, zd4 ns _ hall, hlen⟩
theorem zk2 (l : OpenLaw) (args : List WData) : l.row.toRowW.claim.post args (.bool true) args = true :=
  postW_of (r := l.row.toRowW) (X := (true == true))
    (show WShape.has [] (.bool true) .bool = true by first | rfl | decide | simp [WShape.has, WShape.arms, WShape.armsAll])
    (show (WTm.eq .res (.lit (.bool true))).value [] { args := args, res := some (.bool true), after := args } = some (.bool (true == true)) from w_eq_bool (w_res rfl) w_lit) rfl
theorem attach_call {l : OpenLaw} {n : Nat} {q : Program} {loose : List Str} {XP : (Str → Option Value) → Heap → Prop} {YP : World → Heap → Prop} {d : DefRec}
    (hn : l.most = some n) (hdf : d.params.defaults = [])
    (call : ∀ (w : World) (s₀ s₁ : Shared) (mg mb : Str → Option Value) (fa : Addr) (o : Obj) (pm cd doc : Value) (a : Addr) (vs : List Value) (ns : List Int),
      Ground q loose [] XP w s₀ mg mb s₁.heap → YP w s₁.heap →
      s₁.heap.get? fa = some o → o.data = .func (docDef d.name d.params d.body d.scope pm cd doc) → s₁.heap.CodeRec cd d.name → mg d.name = some (.ref fa) →
      s₁.heap.get? a = some { cls := .type "list", data := .seq vs.toArray } → IntsAre vs ns → ns.length ≤ n → s₁.gens = #[] →
      codeAny (model l.prog w) callerA (.call (.ref fa) ⟨[.ref a], []⟩) (fun r s' => r = .ok (.ret (.bool true)) ∧ OldK s₁.heap s'.heap ∧ s'.os = s₁.os ∧ AllBare s'.gens) s₁) :
    WalkO q loose XP YP l.row.toRowW d [] (fun f vs => PySem.call f vs) := by
  intro w s₀ s₁ mg mb G Y fa o pm cd doc dV kV ho hd hcd hD hmg hg args vals as hpre hlay hrd hwl hlo
  obtain rfl : dV = .none := Dflts.none hD hdf
  obtain rfl : kV = .none := Dflts.noKw hD
  obtain ⟨a, vs, ns, rfl, rfl, hobj, hints, hlen⟩ := zkt hn hpre hwl
  refine enter_call (codeAny_mono (call w s₀ s₁ mg mb fa o pm cd doc a vs ns G Y ho (fd_plain hd) hcd hmg hobj hints hlen hg) fun r s' hq => ?_)
  obtain ⟨rfl, h2, h3, h4⟩ := hq
  exact ⟨.inl ⟨.bool true, .bool true, [], rfl, fun _ => rfl, .bool true, zk2 l _, fun _ => ⟨List.Pairwise.nil, fun _ hm => (nomatch hm)⟩⟩, h2, h3, h4⟩
end Att
namespace L2
open PySem PySem.Spec PyProof.Rows
theorem zfw : ∀ {vs : List Value} {ns : List Int}, IntsAre vs ns → Vals (ns.map V.int) vs
  | _, _, .nil => .nil
  | _, _, .cons n t h => .cons ⟨t, rfl⟩ (zfw h)
def Only (H : Hp) : Prop := ∀ b, H b = none ∨ ∃ o xs, H b = some (.frz o (.lst xs))
theorem zob {P : Program} {w : World} {K : PySem.W.Frag} {mg mb : Str → Option Value} {CX : CXT} {k : Nat} {fa a : Addr} {fd : FuncData} {x : Str} {sp : Sp} {s₁ : Shared} {vs : List Value} {ns : List Int}
    (KX : K.In s₁.heap) (hns : s₁.heap.Ns mainGlobals mg) (hb : s₁.heap.Ns builtinsNs mb) (hbb : ∀ x : Str, x ≠ "__name__" → mb x = bootBuiltins x) (hlim : s₁.heap.NoLimit) (hg : s₁.gens = #[])
    (ha : s₁.heap.get? a = some { cls := .type "list", data := .seq vs.toArray }) (hi : IntsAre vs ns) (hl : ns.length ≤ sizeLine) (hr : Room k callerA)
    (F : ∀ base : Heap, K.In base → base.Ns mainGlobals mg → FnOk P w K mg base CX k fa fd [x] sp) (hbind : ∀ (s : Shared) (u : Value), BindsTo s fd ⟨[u], []⟩ [(x, u)])
    (hsp : ∀ H : Hp, Only H → SqL K H a (ns.map V.int) → sp [.ref a] H (fun v _ => v = .bl true) fun _ _ _ => False)
    (hCX : ∀ H e s', CX [] H s₁ (fun _ _ _ => False) e s' → False) :
    codeAny (model P w) callerA (.call (.ref fa) ⟨[.ref a], []⟩) (fun r s' => r = .ok (.ret (.bool true)) ∧ OldK s₁.heap s'.heap ∧ s'.os = s₁.os ∧ AllBare s'.gens) s₁ := by
  have rv := zfw hi
  have lenV := hi.length
  have core : ∀ H : Hp, Only H → SqL K H a (ns.map V.int) → HOk P w H s₁.heap → (∀ b, H b ≠ none → b = a) → (H a ≠ none → K.lookup a = none) →
      codeAny (model P w) callerA (.call (.ref fa) ⟨[.ref a], []⟩) (fun r s' => r = .ok (.ret (.bool true)) ∧ OldK s₁.heap s'.heap ∧ s'.os = s₁.os ∧ AllBare s'.gens) s₁ := by
    intro H hO hS hok hA hK
    have base_of : ∀ {b : Addr} {o : Obj}, s₁.heap.get? b = some o → H b = none → (hidT s₁.heap H).get? b = some o := fun e n => zod e n
    have noA : ∀ {b : Addr} {o : Obj} {es : Array DictEntry} {ep : Nat}, s₁.heap.get? b = some o → o.data = .dict es ep → H b = none := fun {b o es ep} e d => by
      cases q : H b with
      | none => rfl
      | some u =>
        have e' : b = a := hA b (by rw [q]; simp)
        subst e'
        rw [ha] at e; cases e
        have d' : Data.seq vs.toArray _ = Data.dict es ep := d
        cases d'
    have nsK : ∀ {b : Addr} {m : Str → Option Value}, s₁.heap.Ns b m → (hidT s₁.heap H).Ns b m := fun {b m} ⟨o, es, ep, e, d, r⟩ => ⟨o, es, ep, base_of e (noA e d), d, r⟩
    have hKb : K.In (hidT s₁.heap H) := fun b o e => base_of (KX b o e) (by
      cases q : H b with
      | none => rfl
      | some u =>
        have e' : b = a := hA b (by rw [q]; simp)
        subst e'
        rw [hK (by rw [q]; simp)] at e; cases e)
    have hM : Mod K mg (hidT s₁.heap H) := ⟨hKb, nsK hns, ⟨mb, nsK hb, hbb⟩, let ⟨mc, h1, h2⟩ := hlim; ⟨mc, nsK h1, h2⟩⟩
    have e0 : Env0 P w K mg (hidT s₁.heap H) callerA [] s₁ H := ⟨rfl, hM, fun b o e => zqo e, Nat.le_of_eq (zl5 _ _), trivial, fun b hb => absurd (show b ∈ ([] : List Addr) from hb) (by simp), hok, .of_eq hg⟩
    refine codeAny_mono ((F _ hKb (nsK hns)).run callerA [] s₁ H ⟨[.ref a], []⟩ [.ref a] [.ref a] _ _ hr e0 (hbind s₁ (.ref a)) (.cons rfl .nil) (hsp H hO hS)) fun r s' h => ?_
    cases r with
    | error e => exact (hCX H e s' h).elim
    | ok fl =>
      cases fl with
      | next => exact False.elim h
      | brk => exact False.elim h
      | cont => exact False.elim h
      | ret u =>
        obtain ⟨v, H', os, bare, un, hok', r', q⟩ := h
        have q' : v = .bl true := q
        subst q'
        obtain rfl : u = Value.bool true := r'
        refine ⟨rfl, OldK.of_keep fun b o e => ?_, os, bare⟩
        cases q : H b with
        | none => exact un.keep b o e q (by intro z; exact absurd (show b ∈ ([] : List Addr) from z) (by simp)) (by simp)
        | some u =>
          rcases hO b with z | ⟨ob, xs, z⟩
          · rw [q] at z; cases z
          · have z2 := un.frzs b ob _ z
            obtain ⟨e1, _⟩ := hok b _ z
            obtain ⟨e2, _⟩ := hok' b _ z2
            rw [e] at e1; cases e1
            exact e2
  cases hk : K.lookup a with
  | some o =>
    have e := KX a o hk
    rw [ha] at e
    cases e
    refine core (fun _ => none) (fun _ => .inl rfl) (.inr ⟨_, vs.toArray, _, hk, rfl, rfl, rfl, by rw [List.size_toArray, lenV]; exact hl, by simpa using rv⟩) (fun b u z => by have z' : (none : Option HO) = some u := z; cases z') (fun b z => absurd rfl z) fun z => absurd rfl z
  | none =>
    refine core (fun b => if b = a then some (.frz { cls := .type "list", data := .seq vs.toArray } (.lst (ns.map V.int))) else none) (fun b => ?_) (.inl (.inr ⟨{ cls := .type "list", data := .seq vs.toArray }, if_pos rfl⟩)) (fun b u z => ?_) (fun b z => ?_) fun _ => hk
    · by_cases hb : b = a
      · exact .inr ⟨_, _, if_pos hb⟩
      · exact .inl (if_neg hb)
    · by_cases hb : b = a
      · have z' := (if_pos hb).symm.trans z
        cases z'
        subst hb
        exact ⟨ha, by rw [List.length_map]; exact hl, vs, _, rv, ha⟩
      · have z' := (if_neg hb).symm.trans z
        cases z'
    · by_cases hb : b = a
      · exact hb
      · exact absurd (if_neg hb) z
abbrev KOf {K : PySem.W.Frag} {h : Heap} (_ : K.In h) : PySem.W.Frag := K
theorem zpg {l : PySem.W.OpenLaw} {n k : Nat} {q : Program} {loose : List Str} {XP : (Str → Option Value) → Heap → Prop} {YP : World → Heap → Prop} {d : DefRec} {K : Params → PySem.W.Frag} {CX : World → CXT} {sp : World → Sp} {x : Str}
    (hn : l.most = some n) (hn2 : n ≤ sizeLine) (hdf : d.params.defaults = []) (hr : Room k callerA)
    (hY : ∀ (w : World) (h : Heap), YP w h → (K w.params).In h)
    (F : ∀ (w : World) (mg : Str → Option Value) (fa : Addr) (h : Heap), (K w.params).In h → h.Ns mainGlobals mg → mg d.name = some (.ref fa) →
      ∃ fd : FuncData, (∀ (s : Shared) (u : Value), BindsTo s fd ⟨[u], []⟩ [(x, u)]) ∧
        ∀ base : Heap, (K w.params).In base → base.Ns mainGlobals mg → FnOk l.prog w (K w.params) mg base (CX w) k fa fd [x] (sp w))
    (hsp : ∀ (w : World) (H : Hp) (a : Addr) (ns : List Int), ns.length ≤ n → Only H → SqL (K w.params) H a (ns.map V.int) → sp w [.ref a] H (fun v _ => v = .bl true) fun _ _ _ => False)
    (hCX : ∀ (w : World) (H : Hp) (s : Shared) (e : Value) (s' : Shared), CX w [] H s (fun _ _ _ => False) e s' → False) :
    PySem.W.WalkO q loose XP YP l.row.toRowW d [] (fun f vs => PySem.call f vs) := by
  refine Att.attach_call hn hdf fun w s₀ s₁ mg mb fa o pm cd doc a vs ns G Y ho hd hcd hmg hobj hints hlen hg => ?_
  have KX := hY w _ Y
  obtain ⟨fd, hb, hF⟩ := F w mg fa _ KX G.T.g hmg
  exact zob KX G.T.g G.T.b G.T.builtins G.T.nolimit hg hobj hints (Nat.le_trans hlen hn2) hr hF hb (fun H hO hS => hsp w H a ns hlen hO hS) fun H e s' => hCX w H s₁ e s'
theorem walk_ofK {l : PySem.W.OpenLaw} {n k : Nat} {q : Program} {loose : List Str} {XP : (Str → Option Value) → Heap → Prop} {YP : World → Heap → Prop} {d : DefRec} {K : Params → PySem.W.Frag} {CX : CXT} {sp : PySem.W.Frag → Sp} {x : Str}
    (hn : l.most = some n) (hn2 : n ≤ sizeLine) (hdf : d.params.defaults = []) (hr : Room k callerA)
    (hY : ∀ (w : World) (h : Heap), YP w h → (K w.params).In h)
    (F : ∀ (w : World) (mg : Str → Option Value) (fa : Addr) (h : Heap), (K w.params).In h → h.Ns mainGlobals mg → mg d.name = some (.ref fa) →
      ∃ fd : FuncData, (∀ (s : Shared) (u : Value), BindsTo s fd ⟨[u], []⟩ [(x, u)]) ∧
        ∀ base : Heap, (K w.params).In base → base.Ns mainGlobals mg → FnOk l.prog w (K w.params) mg base CX k fa fd [x] (sp (K w.params)))
    (hsp : ∀ (K : PySem.W.Frag) (H : Hp) (a : Addr) (ns : List Int), ns.length ≤ n → Only H → SqL K H a (ns.map V.int) → sp K [.ref a] H (fun v _ => v = .bl true) fun _ _ _ => False)
    (hCX : ∀ (H : Hp) (s : Shared) (e : Value) (s' : Shared), CX [] H s (fun _ _ _ => False) e s' → False) :
    PySem.W.WalkO q loose XP YP l.row.toRowW d [] (fun f vs => PySem.call f vs) :=
  zpg (K := K) (CX := fun _ => CX) (sp := fun w => sp (K w.params)) hn hn2 hdf hr hY F (fun w H a ns h1 h2 h3 => hsp (K w.params) H a ns h1 h2 h3) fun _ H s e s' => hCX H s e s'
def inClass (s : Stmt) (j : Nat) : Stmt := match s with
  | .ClassDef _ _ _ body _ _ _ _ _ _ _ => body.getD j (.Pass ⟨0, 0, 0, 0⟩)
  | _ => .Pass ⟨0, 0, 0, 0⟩
def defArgs (s : Stmt) : Arguments := match s with
  | .FunctionDef _ a _ _ _ _ _ _ _ _ => a
  | _ => { posonlyargs := [], args := [], vararg := none, kwonlyargs := [], kw_defaults := [], kwarg := none, defaults := [] }
def defBody (s : Stmt) : List Stmt := match s with
  | .FunctionDef _ _ b _ _ _ _ _ _ _ => b
  | _ => []
def defScope (s : Stmt) : Scope := match s with
  | .FunctionDef _ _ _ _ _ _ sc _ _ _ => sc
  | _ => { kind := .function, names := [], isGenerator := false, isCoroutine := false }
abbrev CX0 : CXT := fun _ _ _ _ _ _ => False
abbrev E0 : XK := fun _ _ _ => False
theorem pass0 {X : Cx} : Passes CX0 X E0 := fun _ _ _ _ _ _ _ h => h.elim
structure Fun (K : PySem.W.Frag) (x qual : Str) (st : Stmt) (f : Addr) (fd : FuncData) : Prop where
  ex : ∃ (oc : Value) (od : Option Addr) (kV doc pm : Value) (an : Option Addr) (cdv ct : Value) (osl : Array (Option Value)),
    fd = PySem.W.fnOf x qual (defArgs st) (defBody st) (defScope st) .none kV doc pm an cdv ct ∧ K.lookup f = some ⟨oc, od, .func fd, osl⟩ ∧ PySem.W.codeIn K cdv qual = true
  kp : PySem.W.keepIn K (.ref f) = true
section
variable {P : Program} {w : World} {K : PySem.W.Frag} {mg : Str → Option Value} {base : Heap}
theorem Fun.ok {x qual : Str} {st : Stmt} {f : Addr} {fd : FuncData} {N ps : List Str} {k : Nat} {sp : Sp} (F : Fun K x qual st f fd) (S : FnScope N ps (defScope st)) (len : ∀ vs H Q E, sp vs H Q E → vs.length = ps.length)
    (hbody : ∀ (cdv : Value) (A : Around) (outer : List Env) (s : Shared) (H : Hp) (vs : List V) (Q : VK) (E : XK), Room k (A.deeper (envOfC qual (defScope st) s.heap.objs.size f cdv)) → sp vs H Q E →
      ∃ t, PSs (cxOf CX0 P w K mg base N qual (defScope st) f cdv A outer s H E).nox (defBody st) t ∧ t { nx := fun _ H' => Q .non H', rt := Q } (start N vs) H) : FnOk P w K mg base CX0 (k + 1) f fd ps sp := by
  obtain ⟨oc, od, kV, doc, pm, an, cdv, ct, osl, rfl, lk, hcd⟩ := F.ex
  refine zse lk hcd S len fun A outer s H vs Q E hr hsp => ?_
  obtain ⟨t, h, q⟩ := hbody cdv A outer s H vs Q E hr hsp
  exact ⟨t, h.nox, q⟩
theorem Fun.binds {x qual : Str} {st : Stmt} {f : Addr} {fd : FuncData} {ps : List Str} (F : Fun K x qual st f fd)
    (h : ∀ (kV doc pm : Value) (an : Option Addr) (cdv ct : Value) (us : List Value), us.length = ps.length → bindArgs (PySem.W.fnOf x qual (defArgs st) (defBody st) (defScope st) .none kV doc pm an cdv ct) ⟨us, []⟩ = pure (ps.zip us)) : Binds K fd ps [] := by
  obtain ⟨oc, od, kV, doc, pm, an, cdv, ct, osl, rfl, lk, hcd⟩ := F.ex
  exact .all (h kV doc pm an cdv ct)
theorem zd6 {x qual : Str} {st : Stmt} {f : Addr} {oc : Value} {od an : Option Addr} {osl : Array (Option Value)} {kV doc pm cdv ct : Value} (l : K.lookup f = some ⟨oc, od, .func (PySem.W.fnOf x qual (defArgs st) (defBody st) (defScope st) .none kV doc pm an cdv ct), osl⟩)
    (c : PySem.W.codeIn K cdv qual = true) (k : PySem.W.keepIn K (.ref f) = true) : Fun K x qual st f (PySem.W.fnOf x qual (defArgs st) (defBody st) (defScope st) .none kV doc pm an cdv ct) := ⟨⟨oc, od, kV, doc, pm, an, cdv, ct, osl, rfl, l, c⟩, k⟩
end
theorem small1000 {n : Nat} (h : n ≤ 1000) : n < sizeLine := Nat.lt_of_le_of_lt h (by decide)
section
variable {X : Cx}
theorem pv (i : Nat) {x : Str} {pos : Pos} (hN : X.N[i]? = some x := by rfl) (hv : Vis X.env.scope x := by first | exact Or.inl rfl | exact Or.inr (Or.inl rfl) | exact Or.inr (Or.inr rfl)) (hd : (x == ("__debug__" : Str)) = false := by decide)
    (hcd : (x == ("__classdict__" : Str)) = false := by decide) : PE X (.Name x pos) (tVar i) := zrp hN hv hd hcd
end
theorem iteF {A B : Prop} (h : B) : if false = true then A else B := by
  rw [if_neg Bool.false_ne_true]
  exact h
theorem iteT {A B : Prop} (h : A) : if true = true then A else B := by
  rw [if_pos rfl]
  exact h
theorem ite2 {c A B : Prop} [Decidable c] (h1 : c → A) (h2 : ¬ c → B) : if c then A else B := by
  by_cases h : c
  · rw [if_pos h]
    exact h1 h
  · rw [if_neg h]
    exact h2 h
def Same (H H' : Hp) : Prop := ∀ b o, H b = some o → H' b = some o
theorem Same.refl (H : Hp) : Same H H := fun _ _ h => h
theorem Same.trans {H H1 H2 : Hp} (a : Same H H1) (b : Same H1 H2) : Same H H2 := fun c o h => b c o (a c o h)
theorem Same.free {H H' : Hp} (e : Same H H') {l : Addr} (h : H' l = Option.none) : H l = Option.none := by
  cases q : H l with
  | none => rfl
  | some o =>
    rw [e l o q] at h
    cases h
theorem Same.seq {K : PySem.W.Frag} {H H' : Hp} {a : Addr} {xs : List V} (e : Same H H') (h : SqL K H a xs) : SqL K H' a xs := by
  rcases h with (h | ⟨o, h⟩) | h
  · exact .inl (.inl (e _ _ h))
  · exact .inl (.inr ⟨o, e _ _ h⟩)
  · exact .inr h
theorem zc4 (env : Env) : ∀ (names : List (Str × NameKind)) (cs : List (Str × Addr)),
    (∀ p ∈ names, p.2 = .free → ∃ c, env.cells.lookup p.1 = some c) → (∀ x c, cs.lookup x = some c → env.cells.lookup x = some c) →
    ∃ cl : List (Str × Addr), (forIn names cs fun (p : Str × NameKind) (r : List (Str × Addr)) => (if (p.2 == NameKind.free) = true then (do let c ← cellOf env p.1; pure (ForInStep.yield ((p.1, c) :: r))) else pure (ForInStep.yield r) : Sem (ForInStep (List (Str × Addr))))) = (pure cl : Sem (List (Str × Addr))) ∧
      (∀ x c, cl.lookup x = some c → env.cells.lookup x = some c) ∧ (∀ x, (cs.lookup x).isSome = true → (cl.lookup x).isSome = true) ∧ (∀ p ∈ names, p.2 = .free → (cl.lookup p.1).isSome = true)
  | [], cs, _, h2 => ⟨cs, rfl, h2, fun _ h => h, fun _ h => nomatch h⟩
  | (n, k) :: r, cs, h1, h2 => by
    have h1' : ∀ p ∈ r, p.2 = .free → ∃ c, env.cells.lookup p.1 = some c := fun p hp => h1 p (List.mem_cons_of_mem _ hp)
    by_cases hk : (k == NameKind.free) = true
    · have hk' : k = .free := by simpa using hk
      obtain ⟨c, hc⟩ := h1 (n, k) List.mem_cons_self hk'
      have h2' : ∀ x c', ((n, c) :: cs).lookup x = some c' → env.cells.lookup x = some c' := fun x c' e => by
        rw [List.lookup_cons] at e
        cases hx : x == n with
        | true =>
          rw [hx] at e
          have e1 : x = n := by simpa using hx
          rw [e1, hc]; exact e
        | false => rw [hx] at e; exact h2 x c' e
      obtain ⟨cl, e1, e2, e3, e4⟩ := zc4 env r ((n, c) :: cs) h1' h2'
      have hn : (((n, c) :: cs).lookup n).isSome = true := by rw [List.lookup_cons, beq_self_eq_true]; rfl
      refine ⟨cl, ?_, e2, fun x hx => e3 x ?_, fun p hp hf => ?_⟩
      · rw [List.forIn_cons]
        have q : cellOf env n = pure c := by unfold cellOf; rw [hc]
        simp only [hk, if_true, q]
        exact e1
      · rw [List.lookup_cons]
        cases x == n with
        | true => rfl
        | false => exact hx
      · rcases List.mem_cons.mp hp with e | hp
        · rw [e]; exact e3 n hn
        · exact e4 p hp hf
    · obtain ⟨cl, e1, e2, e3, e4⟩ := zc4 env r cs h1' h2
      refine ⟨cl, ?_, e2, e3, fun p hp hf => ?_⟩
      · rw [List.forIn_cons]
        have hkf : (k == NameKind.free) = false := by simpa using hk
        simp only [hkf, Bool.false_eq_true, if_false]
        exact e1
      · rcases List.mem_cons.mp hp with e | hp
        · rw [e] at hf; exact absurd (by simpa using hf) hk
        · exact e4 p hp hf
theorem zjz {scope : Scope} {env : Env} (h : ∀ p ∈ scope.names, p.2 = .free → ∃ c, env.cells.lookup p.1 = some c) :
    ∃ cl, closureFor scope env = pure cl ∧ (∀ x c, cl.lookup x = some c → env.cells.lookup x = some c) ∧ (∀ p ∈ scope.names, p.2 = .free → ∃ c, cl.lookup p.1 = some c) := by
  obtain ⟨cl, e1, e2, _, e4⟩ := zc4 env scope.names [] h (fun x c e => by simp at e)
  refine ⟨cl, ?_, e2, fun p hp hf => Option.isSome_iff_exists.mp (e4 p hp hf)⟩
  have q : closureFor scope env = (forIn scope.names [] fun (p : Str × NameKind) (r : List (Str × Addr)) => (if (p.2 == NameKind.free) = true then (do let c ← cellOf env p.1; pure (ForInStep.yield ((p.1, c) :: r))) else pure (ForInStep.yield r) : Sem (ForInStep (List (Str × Addr))))) >>= pure := by
    unfold closureFor
    rfl
  rw [q, e1]
  rfl
theorem zc8 {env : Env} : ∀ {names : List (Str × NameKind)} {x : Str}, (∀ y ∈ names, y.2 ≠ .cell) →
    ((names.map fun (n, k) => if (k == NameKind.free && env.scope.kind == .function && env.kindOf n == some .cell) then (n, NameKind.cell) else (n, k)).lookup x = some .cell ∨
     (names.map fun (n, k) => if (k == NameKind.free && env.scope.kind == .function && env.kindOf n == some .cell) then (n, NameKind.cell) else (n, k)).lookup x = some .free) → (x, NameKind.free) ∈ names
  | [], _, _, h => by simp at h
  | (n, k) :: r, x, hc, h => by
    have ih := @zc8 env r x (fun y hy => hc y (List.mem_cons_of_mem _ hy))
    simp only [List.map_cons] at h
    cases hx : x == n with
    | true =>
      have e : x = n := by simpa using hx
      subst e
      by_cases hh : (k == NameKind.free && env.scope.kind == .function && env.kindOf x == some .cell) = true
      · have : k = .free := by
          simp only [Bool.and_eq_true] at hh
          simpa using hh.1.1
        subst this
        exact List.mem_cons_self
      · rw [if_neg hh] at h
        simp only [List.lookup_cons, hx] at h
        rcases h with h | h
        · have : k = .cell := Option.some.inj h
          exact absurd this (hc (x, k) List.mem_cons_self)
        · have : k = .free := Option.some.inj h
          subst this
          exact List.mem_cons_self
    | false =>
      refine List.mem_cons_of_mem _ (ih ?_)
      by_cases hh : (k == NameKind.free && env.scope.kind == .function && env.kindOf n == some .cell) = true
      · rw [if_pos hh] at h
        simpa only [List.lookup_cons, hx] using h
      · rw [if_neg hh] at h
        simpa only [List.lookup_cons, hx] using h
theorem zc7 {env : Env} : ∀ {names : List (Str × NameKind)} {x : Str}, names.lookup x = some .free →
    ((names.map fun (n, k) => if (k == NameKind.free && env.scope.kind == .function && env.kindOf n == some .cell) then (n, NameKind.cell) else (n, k)).lookup x = some .cell ∨
     (names.map fun (n, k) => if (k == NameKind.free && env.scope.kind == .function && env.kindOf n == some .cell) then (n, NameKind.cell) else (n, k)).lookup x = some .free)
  | [], _, h => by simp at h
  | (n, k) :: r, x, h => by
    have ih := @zc7 env r x
    simp only [List.map_cons]
    cases hx : x == n with
    | true =>
      simp only [List.lookup_cons, hx] at h
      have e : k = .free := Option.some.inj h
      subst e
      by_cases hh : (NameKind.free == NameKind.free && env.scope.kind == .function && env.kindOf n == some .cell) = true
      · rw [if_pos hh]; left; simp only [List.lookup_cons, hx]
      · rw [if_neg hh]; right; simp only [List.lookup_cons, hx]
    | false =>
      simp only [List.lookup_cons, hx] at h
      by_cases hh : (k == NameKind.free && env.scope.kind == .function && env.kindOf n == some .cell) = true
      · rw [if_pos hh]; simpa only [List.lookup_cons, hx] using ih h
      · rw [if_neg hh]; simpa only [List.lookup_cons, hx] using ih h
def cxB (X : Cx) (scope : Scope) (tn : List Str) (cp : List (Nat × Str)) (cl : List (Str × Addr)) (C : Addr) (s : Shared) (H : Hp) (fp : List Addr) : Cx :=
  { X with N := tn ++ cp.map (·.2), s₀ := s, H₀ := H, env := compEnvC scope cl C X.env, outer := X.stack, ex := fp, fn := fun _ => false, pn := [], xe := fun _ _ => False }
def stB (tn : List Str) (cp : List (Nat × Str)) (σ : St) : St := List.replicate tn.length none ++ cp.map fun p => (σ[p.1]?).getD none
structure CompOk (X : Cx) (scope : Scope) (cp : List (Nat × Str)) : Prop where
  kind : scope.kind = .function
  nocell : ∀ y ∈ scope.names, y.2 ≠ .cell
  names : ∀ y ∈ scope.names, y.2 = .local → scope.names.lookup y.1 = some .local
  free : ∀ y ∈ scope.names, y.2 = .free → X.env.kindOf y.1 = some .cell ∨ X.env.kindOf y.1 = some .free
  cap : ∀ p ∈ cp, X.N[p.1]? = some p.2 ∧ scope.names.lookup p.2 = some .free
section
variable {X : Cx} {pins : List (Addr × Obj)} {σ : St} {H : Hp} {s : Shared} {scope : Scope} {tn : List Str} {cp : List (Nat × Str)} {cl : List (Str × Addr)} {fp : List Addr}
theorem mem_of_lookup' {α : Type} : ∀ {l : List (Str × α)} {x : Str} {v : α}, l.lookup x = some v → (x, v) ∈ l
  | [], _, _, h => by simp at h
  | (n, k) :: r, x, v, h => by
    rw [List.lookup_cons] at h
    cases hx : x == n with
    | true =>
      rw [hx] at h
      have e : x = n := by simpa using hx
      have e2 : k = v := Option.some.inj h
      subst e e2
      exact List.mem_cons_self
    | false => rw [hx] at h; exact List.mem_cons_of_mem _ (mem_of_lookup' h)
theorem zh4 {h₁ : Heap} {t' : Nat} {m0 : Str → Option Value} (I : Inv X pins σ H s) (O : CompOk X scope cp) (hcl1 : ∀ x c, cl.lookup x = some c → X.env.cells.lookup x = some c) (hcl2 : ∀ p ∈ scope.names, p.2 = .free → ∃ c, cl.lookup p.1 = some c)
    (hf : ∀ b ∈ fp, FpOk X pins H b ∧ b < s.heap.objs.size) (hns : h₁.Ns s.heap.objs.size m0) (hk : ∀ b o, s.heap.get? b = some o → h₁.get? b = some o) :
    Inv (cxB X scope tn cp cl s.heap.objs.size s H fp) [] (stB tn cp σ) H { s with heap := h₁, toks := t' } := by
  have ok : (cxB X scope tn cp cl s.heap.objs.size s H fp).Ok := by
    refine ⟨I.ok.mod, O.kind, I.ok.glob, I.ok.blt, Nat.le_refl _, fun x y c e1 e2 => I.ok.inj x y c (hcl1 x c e1) (hcl1 y c e2), fun x hx => ?_, fun x c hx => (by cases hx), I.ok.hd, I.ok.frames, .inl rfl, fun b hb => ⟨Nat.ne_of_lt (hf b hb).2, fun x c e => ?_⟩,
      fun b o e => I.bs b o e, Nat.le_trans I.ok.bsz I.sz, fun b o e hb => ?_, fun b hb hb' => ?_, I.stack, I.stkFree⟩
    · exact hcl2 (x, .free) (zc8 O.nocell hx) rfl
    · exact (hf b hb).1.2.2.2.2.1 x c (hcl1 x c e)
    · rcases (hf b hb).1.2.2.2.1 with z | z
      · exact I.ok.noex b o e z
      · exact absurd (Nat.lt_of_lt_of_le (Heap.lt_size e) (Nat.le_trans I.ok.bsz z)) (Nat.lt_irrefl _)
    · rcases List.mem_cons.mp (I.stkSub b hb') with z | z
      · exact (hf b hb).1.2.1 z
      · exact (hf b hb).1.2.2.1 z
  refine ⟨ok, rfl, I.bare, Un.kept hk, ⟨m0, hns, fun i x v e1 e2 e3 => ?_⟩, fun x c e => ?_, I.hok.fresh (Nat.le_refl _), fun x c e => I.freeC x c (hcl1 x c e), fun p hp => by simp [cxB] at hp, I.hok.kept hk, ?_⟩
  · -- a captured name
    have e1' : (tn ++ cp.map (·.2))[i]? = some x := e1
    have e2' : (List.replicate tn.length none ++ cp.map fun p => (σ[p.1]?).getD none)[i]? = some (some v) := e2
    by_cases hi : i < tn.length
    · rw [List.getElem?_append_left (by simpa using hi)] at e2'
      rw [List.getElem?_replicate, if_pos hi] at e2'
      cases e2'
    · rw [List.getElem?_append_right (by simpa using Nat.le_of_not_lt hi), List.length_replicate, List.getElem?_map] at e2'
      rw [List.getElem?_append_right (Nat.le_of_not_lt hi), List.getElem?_map] at e1'
      cases hp : cp[i - tn.length]? with
      | none => rw [hp] at e1'; cases e1'
      | some p =>
        rw [hp] at e1' e2'
        have e1'' : p.2 = x := Option.some.inj e1'
        have e2'' : (σ[p.1]?).getD none = some v := Option.some.inj e2'
        obtain ⟨c1, c2⟩ := O.cap p (List.mem_of_getElem? hp)
        rw [e1''] at c1 c2
        have hs : σ[p.1]? = some (some v) := by
          cases q : σ[p.1]? with
          | none => rw [q] at e2''; cases e2''
          | some z => rw [q] at e2''; exact congrArg some e2''
        have hk' := O.free (x, .free) (mem_of_lookup' c2) rfl
        have hvis : Vis X.env.scope x := by
          rcases hk' with z | z
          · exact .inr (.inl z)
          · exact .inr (.inr z)
        obtain ⟨m, hn, hl⟩ := I.loc
        obtain ⟨u, r, l⟩ := hl p.1 x v c1 hs hvis
        refine ⟨u, r, .inr ?_⟩
        rcases l with ⟨z, _⟩ | ⟨_, c, hc, o, ho, hd⟩
        · rcases hk' with y | y <;> (rw [z] at y; cases y)
        · obtain ⟨c', hc'⟩ := hcl2 (x, .free) (mem_of_lookup' c2) rfl
          have : c' = c := Option.some.inj ((hcl1 x c' hc').symm.trans hc)
          subst this
          exact ⟨zc7 c2, c', hc', o, hk c' o ho, hd⟩
  · obtain ⟨v, o, ho, hd⟩ := I.cell x c (hcl1 x c e)
    exact ⟨v, o, hk c o ho, hd⟩
  · show (stB tn cp σ).length = (tn ++ cp.map (·.2)).length
    unfold stB
    simp
theorem zmr {σ' : St} {H' : Hp} {s' : Shared} {h' : Heap} {pinsB : List (Addr × Obj)} (I : Inv X pins σ H s) (hf : ∀ b ∈ fp, FpOk X pins H b)
    (J : Inv (cxB X scope tn cp cl s.heap.objs.size s H fp) pinsB σ' H' s') (hs : Heap.SameBut s.heap.objs.size s'.heap h') : Inv X pins σ H' { s' with heap := h' } := by
  have ne : ∀ b o, s.heap.get? b = some o → b ≠ s.heap.objs.size := fun b o e => Nat.ne_of_lt (Heap.lt_size e)
  have U : Un (frs X.stack) fp H H' s.heap h' := by
    have u : Un (frs X.stack) fp H H' s.heap s'.heap := J.base
    refine ⟨fun b o e n h1 h2 => (hs.2 b (ne b o e)).trans (u.keep b o e n h1 h2), fun b o e n h1 h2 => ?_, u.free, fun b o e h2 => ?_, u.tups, u.frzs, u.tbls⟩
    · obtain ⟨sl, q⟩ := u.slot b o e n h1 h2
      exact ⟨sl, (hs.2 b (ne b o e)).trans q⟩
    · obtain ⟨o', q⟩ := u.there b o e h2
      exact ⟨o', (hs.2 b (ne b o e)).trans q⟩
  have fr : H' s.heap.objs.size = none := J.free
  have hok : HOk X.prog X.w H' h' := fun b ob e => by
    refine (J.hok b ob e).stay (fun c v hc q => (hs.2 c ?_).trans q) (fun _ q => q) (fun _ _ _ _ _ q => q) fun _ _ q => q
    rintro rfl
    rcases hc with z | z
    · rw [← z, fr] at e; cases e
    · rw [fr] at z; cases z
  refine I.call' (s' := { s' with heap := h' }) (ch := fp) J.os U hok J.bare fun b hb => ?_
  obtain ⟨_, f1, _, f3, f4, f5⟩ := hf b hb
  exact ⟨f3, f1, f4, f5⟩
end
def PIfs (X : Cx) (ifs : List Expr) (t : TT) : Prop :=
  ∀ (pins : List (Addr × Obj)) (s : Shared) (σ : St) (H : Hp) (Q : Bool → Hp → Prop), Inv X pins σ H s → t σ H Q →
    wpAny (model X.prog X.w) X.A (forIn ifs true fun c r => if r = true then do let ok ← isTrue c X.env (eval c X.env); pure (ForInStep.yield ok) else pure (ForInStep.yield r)) (TP X pins σ Q) X.xe s
def tYes : TT := fun _ H Q => Q true H
theorem zca {X : Cx} : PIfs X [] tYes := fun _ _ _ H _ I h => wpAny_tests_nil ⟨H, I, h⟩
theorem ziq {X : Cx} {c : Expr} {t : TT} (h : PT X c t) : PIfs X [c] t := fun pins s σ H Q I hw => wpAny_tests_one (h pins s σ H Q I hw)
theorem zgq {prog : Program} {w : World} {A : Around} {R : Result → Shared → Prop} {s : Shared} {elt target iter : Expr} {ifs : List Expr} {scope : Scope} {pos : Pos} {it acc : Value} {env : Env} (I : Nat → Shared → Prop)
    (turn : ∀ n s, I n s → wpAny (model prog w) A (pyNext it) (fun r s₁ => match r with
      | none => R (.ok .next) s₁
      | some v => wpAny (model prog w) A (letOwnedTupleGo target it v) (fun _ s₂ => wpAny (model prog w) A (assign target env v) (fun _ s₃ =>
          wpAny (model prog w) A (forIn ifs true fun c r => if r = true then do let ok ← isTrue c env (eval c env); pure (ForInStep.yield ok) else pure (ForInStep.yield r)) (fun ok s₄ =>
            if ok = true then wpAny (model prog w) A (eval elt env) (fun x s₅ =>
              wpAny (model prog w) A (call (.builtin "list.append") [acc, x]) (fun _ s₆ => ∃ m, m < n ∧ I m s₆) (fun _ _ => False) s₅) (fun _ _ => False) s₄
            else ∃ m, m < n ∧ I m s₄) (fun _ _ => False) s₃) (fun _ _ => False) s₂) (fun _ _ => False) s₁) (fun _ _ => False) s)
    (n : Nat) (h : I n s) :
    codeAny (model prog w) A (.compLoop (.ListComp elt [⟨target, iter, ifs, 0⟩] scope pos) 0 it acc env) R s := by
  refine codeAny_loop rfl I (fun n s hI => ?_) n h
  show wpAny _ A ((compTurn (.ListComp elt [⟨target, iter, ifs, 0⟩] scope pos) 0 it acc env).onRaise (fun x => do noteFrame x env; theTreesLotGoes x)) _ _ s
  refine wpAny_noted ?_
  rw [compTurn_list]
  refine wpAny_bind (wpAny_standAt (wpAny_bind (wpAny_mono (turn n s hI) (fun r s₁ h₁ => ?_) fun _ _ f => f.elim)))
  cases r with
  | none => exact wpAny_pure h₁
  | some v =>
    refine wpAny_bind (wpAny_mono h₁ (fun _ s₂ h₂ => ?_) fun _ _ f => f.elim)
    refine wpAny_bind (wpAny_mono h₂ (fun _ s₃ h₃ => wpAny_bind (wpAny_mono h₃ (fun ok s₄ h₄ => ?_) fun _ _ f => f.elim)) fun _ _ f => f.elim)
    cases ok with
    | false => exact wpAny_pure ⟨rfl, h₄⟩
    | true =>
      exact wpAny_bind (wpAny_bind (wpAny_mono h₄ (fun x s₅ h₅ => wpAny_bind (wpAny_mono h₅ (fun _ s₆ h₆ => wpAny_pure (wpAny_pure ⟨rfl, h₆⟩)) fun _ _ f => f.elim)) fun _ _ f => f.elim))
def tComp (tn : List Str) (cp : List (Nat × Str)) (wi : TI) (g : TG) (tif : TT) (te : TE) : TE := fun σ H Q => wi σ H fun J H1 => ∀ D, H1 D = none → ∃ W : Nat → Nat → St → Hp → Prop,
  (∃ m, W 0 m (stB tn cp σ) (upd H1 D (.lst []))) ∧ ∀ i m σb Hb, W i m σb Hb →
    (J.stop i Hb ∧ Q (.ref D) Hb) ∨ (J.go i Hb ∧ ∀ x H', J.yld i Hb x H' → g x σb H' fun σ2 H2 => tif σ2 H2 fun c H3 =>
      if c = true then te σ2 H3 fun y H4 => ∃ ys, H4 D = some (.lst ys) ∧ ys.length < sizeLine ∧ ∃ m', m' < m ∧ W (i + 1) m' σ2 (upd H4 D (.lst (ys ++ [y])))
      else ∃ m', m' < m ∧ W (i + 1) m' σ2 H3)
theorem zez {X : Cx} {elt tg iter : Expr} {ifs : List Expr} {scope : Scope} {pos cpos : Pos} {wi : TI} {g : TG} {tif : TT} {te : TE} (tn : List Str) (cp : List (Nat × Str)) (O : CompOk X scope cp) (hc : X.calm = true) (hi : PI X tg iter wi)
    (hg : ∀ cl C s H fp, PG (cxB X scope tn cp cl C s H fp) tg g) (hif : ∀ cl C s H fp, PIfs (cxB X scope tn cp cl C s H fp) ifs tif) (he : ∀ cl C s H fp, PE (cxB X scope tn cp cl C s H fp) elt te)
    (hs : ∀ x, foldedSetIterable iter X.env x = pure x) {pins : List (Addr × Obj)} {s : Shared} {σ : St} {H : Hp} {Q : VK} {R : Value → Shared → Prop} {use : Option (Value → Sem Unit)} (I : Inv X pins σ H s) (h : tComp tn cp wi g tif te σ H Q)
    (fin : ∀ (D C : Addr) (H5 : Hp) (s5 : Shared) (m : Str → Option Value), Inv X pins σ H5 s5 → FpOk X pins H5 C → s5.heap.Ns C m → Q (.ref D) H5 → compPost (model X.prog X.w) X.A X.xe use R (.ref D) C (.ok .next) s5) :
    wpAny (model X.prog X.w) X.A (comprehension (.ListComp elt [⟨tg, iter, ifs, 0⟩] scope pos) scope X.env cpos (newList []) false (eval iter X.env) use) R X.xe s := by
  obtain ⟨cl, hcl, hcl1, hcl2⟩ := zjz (scope := scope) (env := X.env) fun p hp hf => I.ok.has p.1 (O.free p hp hf)
  refine wpAny_comprehension_free (use := use) rfl hs hcl O.kind O.names (thn (hi pins s σ H _ I h) fun v s1 h1 => thn h1 fun itv s2 h2 => ?_)
  obtain ⟨it, fp, tn', J, H2, rfl, I2, T, st2, f2, rest⟩ := h2
  refine wpAny_newObj_type ?_
  have I3 : Inv X pins σ (upd H2 s2.heap.objs.size (.lst [])) { s2 with heap := s2.heap.push { cls := .type "list", data := .seq ([] : List Value).toArray } } := I2.lnew (its := []) (t' := s2.toks) .nil (Nat.zero_le _)
  obtain ⟨W, ⟨m0, w0⟩, turn⟩ := rest s2.heap.objs.size I2.fresh
  have fpl : ∀ b ∈ fp, b < s2.heap.objs.size := fun b hb => by
    obtain ⟨o, e, _⟩ := T.obj _ _ st2 b hb
    exact Heap.lt_size e
  have f3 : ∀ b ∈ fp, FpOk X pins (upd H2 s2.heap.objs.size (.lst [])) b := fun b hb => ⟨by rw [zan (Nat.ne_of_lt (fpl b hb))]; exact (f2 b hb).1, (f2 b hb).2⟩
  have sz3 : (s2.heap.push { cls := .type "list", data := .seq ([] : List Value).toArray }).objs.size = s2.heap.objs.size + 1 := Heap.size_push ..
  refine wpAny_newFunctionEnv O.nocell (by intro y hy; simp at hy) (fun h₁ hns hsb => ?_) O.kind
  have hk1 : ∀ b o, (s2.heap.push { cls := .type "list", data := .seq ([] : List Value).toArray }).get? b = some o → h₁.get? b = some o := fun b o e =>
    hsb.extBut b o (Nat.ne_of_lt (Heap.lt_size e)) (Heap.get?_push_of_some _ e)
  have J3 := zh4 (tn := tn) (cp := cp) (t' := s2.toks + ([] : List (Str × Value)).length) I3 O hcl1 hcl2 (fun b hb => ⟨f3 b hb, by rw [sz3]; exact Nat.lt_succ_of_lt (fpl b hb)⟩) hns hk1
  have st3 : tn' 0 h₁ := T.keep _ _ _ st2 fun b hb o e => hk1 b o (Heap.get?_push_of_some _ e)
  show codeAny _ _ (.compStart _ 0 (.ref it) (.ref s2.heap.objs.size) (compEnvC scope cl (s2.heap.push { cls := .type "list", data := .seq ([] : List Value).toArray }).objs.size X.env)) _ _
  generalize hXB : cxB X scope tn cp cl (s2.heap.push { cls := .type "list", data := .seq ([] : List Value).toArray }).objs.size { s2 with heap := s2.heap.push { cls := .type "list", data := .seq ([] : List Value).toArray } } (upd H2 s2.heap.objs.size (.lst [])) fp = XB at J3
  have hprog : XB.prog = X.prog := by rw [← hXB]; rfl
  have hw : XB.w = X.w := by rw [← hXB]; rfl
  have hK : XB.K = X.K := by rw [← hXB]; rfl
  have hA : XB.A = X.A := by rw [← hXB]; rfl
  have henv : XB.env = compEnvC scope cl (s2.heap.push { cls := .type "list", data := .seq ([] : List Value).toArray }).objs.size X.env := by rw [← hXB]; rfl
  have hcalm : XB.calm = true := by rw [← hXB]; exact hc
  have hxe : XB.xe = fun _ _ => False := by rw [← hXB]; rfl
  have hgB : PG XB tg g := by rw [← hXB]; exact hg _ _ _ _ _
  have hifB : PIfs XB ifs tif := by rw [← hXB]; exact hif _ _ _ _ _
  have heB : PE XB elt te := by rw [← hXB]; exact he _ _ _ _ _
  have fB : ∀ (pb : List (Addr × Obj)) (Hb : Hp), (∀ b ∈ fp, Hb b = none) → (∀ b ∈ fp, ∀ p ∈ XB.pn ++ pb, p.1 ≠ b) → ∀ b ∈ fp, FpOk XB pb Hb b := fun pb Hb hn hp b hb => by
    refine ⟨hn b hb, ?_, ?_, .inl (by rw [← hXB]; exact hb), fun x c e => ?_, hp b hb⟩
    · rw [henv]; show b ≠ (s2.heap.push { cls := .type "list", data := .seq ([] : List Value).toArray }).objs.size
      rw [sz3]; exact Nat.ne_of_lt (Nat.lt_succ_of_lt (fpl b hb))
    · rw [← hXB]
      show b ∉ frs X.stack
      intro z
      rcases List.mem_cons.mp (I2.stkSub b z) with y | y
      · exact (f2 b hb).2.1 y
      · exact (f2 b hb).2.2.1 y
    · rw [henv] at e
      exact (f2 b hb).2.2.2.2.1 x c (hcl1 x c e)
  have pn0 : XB.pn = [] := by rw [← hXB]; rfl
  have loop : ∀ s₃ : Shared, s₃ = { s2 with heap := h₁, toks := s2.toks + ([] : List (Str × Value)).length } →
      codeAny (model X.prog X.w) X.A (.compLoop (.ListComp elt [⟨tg, iter, ifs, 0⟩] scope pos) 0 (.ref it) (.ref s2.heap.objs.size) XB.env)
        (compPost (model X.prog X.w) X.A X.xe use R (.ref s2.heap.objs.size) (s2.heap.push { cls := .type "list", data := .seq ([] : List Value).toArray }).objs.size) s₃ := by
    rintro s₃ rfl
    refine zgq (fun n s' => ∃ i σb Hb, Inv XB [] σb Hb s' ∧ tn' i s'.heap ∧ (∀ b ∈ fp, Hb b = none) ∧ W i n σb Hb) ?_ m0 ⟨0, stB tn cp σ, _, J3, st3, fun b hb => (f3 b hb).1, w0⟩
    rintro n s4 ⟨i, σ4, H4, I4, st4, fr4, w4⟩
    rcases turn i n σ4 H4 w4 with ⟨stop, qn⟩ | ⟨go, step⟩
    · have d := T.done XB hprog hw hK hcalm i [] s4 σ4 H4 (fun _ _ => False) I4 (fB [] H4 fr4 (fun b hb p hp => by rw [pn0] at hp; simp at hp)) st4 stop
      rw [hA] at d
      refine thn d fun r s5 ⟨hr, I5⟩ => ?_
      subst hr
      obtain ⟨mm, hn5, _⟩ := id I5.loc
      have fr5 : H4 (s2.heap.push { cls := .type "list", data := .seq ([] : List Value).toArray }).objs.size = none := by
        have z := I5.free
        rw [henv] at z
        exact z
      have J5 : Inv X pins σ H4 s5 := by
        rw [← hXB] at I5
        exact zmr (h' := s5.heap) I3 f3 I5 ⟨rfl, fun _ _ => rfl⟩
      exact fin _ _ H4 s5 mm J5 (I3.fpOk (Nat.le_refl _) fr5) (by rw [henv] at hn5; exact hn5) qn
    · have d := T.item XB hprog hw hK hcalm i [] s4 σ4 H4 (fun _ _ => False) I4 (fB [] H4 fr4 (fun b hb p hp => by rw [pn0] at hp; simp at hp)) st4 go
      rw [hA] at d
      refine thn d fun r s5 ⟨u, hr, h5⟩ => ?_
      subst hr
      refine thn h5 fun _ s6 ⟨x, H6, I6, r6, y6, st6, fr6⟩ => ?_
      have I6' := I6.pinned (fB [] H6 fr6 (fun b hb p hp => by rw [pn0] at hp; simp at hp)) (T.obj _ _ st6)
      have q6 := step x H6 y6
      have a1 := hgB _ s6 σ4 H6 x u _ I6' r6 q6
      rw [hxe, hprog, hw, hA] at a1
      refine thn a1 fun _ s7 ⟨σ7, H7, I7, q7⟩ => ?_
      have a2 := hifB _ s7 σ7 H7 _ I7 q7
      rw [hxe, hprog, hw, hA] at a2
      refine thn a2 fun ok s8 ⟨H8, I8, q8⟩ => ?_
      have again : ∀ {σ9 : St} {H9 : Hp} {s9 : Shared}, Inv XB ([] ++ pinsAt fp s6.heap) σ9 H9 s9 → (∃ m', m' < n ∧ W (i + 1) m' σ9 H9) → ∃ m, m < n ∧ ∃ i σb Hb, Inv XB [] σb Hb s9 ∧ tn' i s9.heap ∧ (∀ b ∈ fp, Hb b = none) ∧ W i m σb Hb := fun {σ9 H9 s9} I9 n9 => by
        obtain ⟨m', hm, w9⟩ := n9
        refine ⟨m', hm, i + 1, σ9, H9, I9.unpinned, T.keep _ _ _ st6 fun b hb o e => (I9.pin (b, o) (List.mem_append_right _ (List.mem_append_right _ (zci hb e)))).1, fun b hb => ?_, w9⟩
        obtain ⟨o, e, d⟩ := T.obj _ _ st6 b hb
        exact (I9.pin (b, o) (List.mem_append_right _ (List.mem_append_right _ (zci hb e)))).2.1
      cases ok with
      | false => exact again I8 q8
      | true =>
        show wpAny _ _ _ _ _ _
        have a3 := heB _ s8 σ7 H8 _ I8 q8
        rw [hxe, hprog, hw, hA] at a3
        refine thn a3 fun yv s9 ⟨y, H9, I9, r9, ys, hD, hlen, n9⟩ => ?_
        have a4 := zd0 (X := XB) _ s9 σ7 H9 (.ref s2.heap.objs.size) [y] (.ref s2.heap.objs.size) [yv] (fun _ H' => ∃ m', m' < n ∧ W (i + 1) m' σ7 H') I9 rfl (.cons r9 .nil) ⟨_, ys, y, rfl, rfl, hD, hlen, n9⟩
        rw [hxe, hprog, hw, hA] at a4
        exact thn a4 fun _ s10 ⟨_, H10, I10, _, q10⟩ => again I10 q10
  rw [henv] at loop
  refine codeAny_compStart_list (loop _ rfl) (T.self _ 0 _ _ _ st3 (loop _ rfl))
theorem zbd {X : Cx} {elt tg iter : Expr} {ifs : List Expr} {scope : Scope} {pos : Pos} {wi : TI} {g : TG} {tif : TT} {te : TE} (tn : List Str) (cp : List (Nat × Str)) (O : CompOk X scope cp) (hc : X.calm = true) (hi : PI X tg iter wi)
    (hg : ∀ cl C s H fp, PG (cxB X scope tn cp cl C s H fp) tg g) (hif : ∀ cl C s H fp, PIfs (cxB X scope tn cp cl C s H fp) ifs tif) (he : ∀ cl C s H fp, PE (cxB X scope tn cp cl C s H fp) elt te)
    (hs : ∀ x, foldedSetIterable iter X.env x = pure x := by intro _; rfl) :
    PE X (.ListComp elt [⟨tg, iter, ifs, 0⟩] scope pos) (tComp tn cp wi g tif te) := by
  intro pins s σ H Q I h
  rw [eval_ListComp]
  refine zez tn cp O hc hi hg hif he hs I h fun D C H5 s5 m I5 f5 n5 q5 => ⟨m, n5, fun h' hs' => ⟨.ref D, H5, ?_, rfl, q5⟩⟩
  obtain ⟨f0, f1, f2, f3, f4, f5⟩ := f5
  exact I5.turned (t' := s5.toks) (fun b o hb e => (hs'.2 b hb).trans e) f0 f1 f3 f4 f5
theorem zp3 {X : Cx} {i : Nat} {x : Str} {elt tg iter : Expr} {ifs : List Expr} {scope : Scope} {pos pos' spos : Pos} {wi : TI} {g : TG} {tif : TT} {te : TE} (hN : X.N.Nodup) (hx : X.N[i]? = some x) (hl : Loc X.env.scope x) (tn : List Str) (cp : List (Nat × Str)) (O : CompOk X scope cp) (hc : X.calm = true) (hi : PI X tg iter wi)
    (hg : ∀ cl C s H fp, PG (cxB X scope tn cp cl C s H fp) tg g) (hif : ∀ cl C s H fp, PIfs (cxB X scope tn cp cl C s H fp) ifs tif) (he : ∀ cl C s H fp, PE (cxB X scope tn cp cl C s H fp) elt te)
    (hsw : swapsWith (.ListComp elt [⟨tg, iter, ifs, 0⟩] scope pos) (some (.Name x pos')) spos.line X.env = pure true := by rfl) (hs : ∀ x, foldedSetIterable iter X.env x = pure x := by intro _; rfl)
    (hf : X.fn x = true ∨ X.env.scope.names.lookup x = some .local := by first | exact .inl rfl | exact .inr rfl | assumption) :
    PS X (.Assign [.Name x pos'] (.ListComp elt [⟨tg, iter, ifs, 0⟩] scope pos) spos) (tAsg (tComp tn cp wi g tif te) (gName i)) := by
  intro pins s σ H D I h
  rw [exec_Assign_Name_used _ _ _ _ hsw]
  refine wpAny_bind (wpAny_standAt (wpAny_bind ?_))
  show wpAny _ X.A (do let _ ← comprehension (.ListComp elt [⟨tg, iter, ifs, 0⟩] scope pos) scope X.env _ (newList []) false (eval iter X.env) (some (assign (.Name x pos') X.env))) _ _ s
  refine wpAny_bind (wpAny_mono (zez tn cp O hc hi hg hif he hs (R := fun _ s' => SP X pins D .next s') I h fun E C H5 s5 m I5 f5 n5 q5 => ?_) (fun _ _ q => wpAny_pure (wpAny_pure q)) fun _ _ e => e)
  obtain ⟨f0, f1, f2, f3, f4, f5⟩ := f5
  show wpAny _ X.A (assign (.Name x pos') X.env (.ref E)) _ _ _
  refine wpAny_assign_Name (zfz I5 hN hx hl (v := .ref E) rfl (fun s6 I6 ⟨a, sb, ha⟩ => ?_) hf)
  have ne : C ≠ a := by
    rcases ha with e | e
    · rw [e]; exact f1
    · exact fun z => f4 x a e z.symm
  refine ⟨m, n5.sameBut sb ne, fun h' hs' => ⟨_, H5, I6.turned (t' := s6.toks) (fun b o hb e => (hs'.2 b hb).trans e) f0 f1 f3 f4 f5, q5⟩⟩
def Its (z : Str) : It := ⟨fun i _ => i < z.cps.size, fun i H x H' => H' = H ∧ ∃ c, z.cps[i]? = some c ∧ x = .str ⟨#[c]⟩, fun i _ => z.cps.size ≤ i⟩
theorem zh9 {P : Program} {w : World} {K : PySem.W.Frag} {tg : Expr} (z : Str) (t : Tok) (it : Addr) (ty : String) (hty : ty = "str_ascii_iterator" ∨ ty = "str_iterator") :
    Turn P w K tg (Its z) [it] it (fun i h => h.IsStrIter it ty z t i) where
  mem := by simp
  obj := fun i h st b hb => by
    have e : b = it := by simpa using hb
    subst e
    obtain ⟨o, e, c, d⟩ := st
    exact ⟨o, e, fun v z => by rw [d] at z; cases z⟩
  keep := fun i h h' st k => by
    obtain ⟨o, e, r⟩ := st
    exact ⟨o, k it (by simp) o e, r⟩
  item := by
    intro X hP hw hK hc i pins s σ H E I hf st hg
    subst hP hw hK
    obtain ⟨f0, f1, f2, f3, f4, f5⟩ := hf it (by simp)
    have hi : i < z.cps.size := hg
    have hx : z.cps[i]? = some z.cps[i] := by simp [hi]
    have nn : (["enumerate", "zip", "dict_itemiterator", "dict_reverseitemiterator", "odict_iterator", "itertools.zip_longest", "itertools.pairwise"].contains ty) = false := by
      rcases hty with e | e <;> (rw [e]; decide)
    have fin : ∀ h', h'.IsStrIter it ty z t (i + 1) → Heap.SameBut it s.heap h' → ∃ u, some (Value.str ⟨#[z.cps[i]]⟩ s.toks) = some u ∧
        wpAny (model X.prog X.w) X.A (letOwnedTupleGo tg (.ref it) u) (fun _ s2 => ∃ x H', Inv X pins σ H' s2 ∧ RelV x u ∧ (Its z).yld i H x H' ∧ s2.heap.IsStrIter it ty z t (i + 1) ∧ ∀ b ∈ [it], H' b = none) E { s with heap := h', toks := s.toks + 1 } := fun h' st' sb => by
      have I1 : Inv X pins σ H { s with heap := h', toks := s.toks + 1 } := I.turned (t' := s.toks + 1) (fun b o hb e => (sb.2 b hb).trans e) f0 f1 f3 f4 f5
      obtain ⟨o, e, c, d⟩ := id st'
      exact ⟨_, rfl, zqu (s := { s with heap := h', toks := s.toks + 1 }) e c d nn ⟨.str ⟨#[z.cps[i]]⟩, H, I1, ⟨_, rfl⟩, ⟨rfl, _, hx, rfl⟩, st', fun b hb => (hf b hb).1⟩⟩
    rcases hty with e | e
    · subst e; exact wpAny_pyNext_ascii_item st hx fin
    · subst e; exact wpAny_pyNext_wide_item st hx fin
  done := by
    intro X hP hw hK hc i pins s σ H E I hf st hg
    subst hP hw hK
    obtain ⟨f0, f1, f2, f3, f4, f5⟩ := hf it (by simp)
    have hi : z.cps.size ≤ i := hg
    have hx : z.cps[i]? = none := by simp [hi]
    rcases hty with e | e
    · subst e; exact wpAny_pyNext_ascii_end (I.ok.hd hc) st hx fun h' eb => ⟨rfl, I.turned (t' := s.toks) (fun b o hb e => eb b o hb e) f0 f1 f3 f4 f5⟩
    · subst e; exact wpAny_pyNext_wide_end (I.ok.hd hc) st hx fun h' eb => ⟨rfl, I.turned (t' := s.toks) (fun b o hb e => eb b o hb e) f0 f1 f3 f4 f5⟩
  self := by
    intro A i s Q E st h
    rcases hty with e | e
    · subst e; exact wpAny_pyIter_striter_ascii st h
    · subst e; exact wpAny_pyIter_striter_wide st h
def iStr (tl : TE) : TI := fun σ H R => tl σ H fun x H1 => ∃ z, x = .str z ∧ R (Its z) H1
theorem zrn {X : Cx} {tg l : Expr} {tl : TE} (hl : PE X l tl) : PI X tg l (iStr tl) := by
  intro pins s σ H R I h
  refine thn (hl pins s σ H _ I h) fun v s1 ⟨x, H1, I1, r1, q1⟩ => ?_
  obtain ⟨z, e, q⟩ := q1
  subst e
  obtain ⟨t, rfl⟩ := r1
  have fo : ∀ b ∈ [s1.heap.objs.size], FpOk X pins H1 b := fun b hb => by
    have e : b = s1.heap.objs.size := by simpa using hb
    subst e
    exact I1.fpOk (Nat.le_refl _) (I1.hok.fresh (Nat.le_refl _))
  cases ha : z.cps.all (· < 128)
  · exact wpAny_pyIter_wide ha ⟨s1.heap.objs.size, [s1.heap.objs.size], _, _, H1, rfl, I1.kept (t' := s1.toks) fun b o e => Heap.get?_push_of_some _ e, zh9 z t _ "str_iterator" (.inr rfl), ⟨_, Heap.get?_push_size _ rfl, rfl, rfl⟩, fo, q⟩
  · exact wpAny_pyIter_ascii ha ⟨s1.heap.objs.size, [s1.heap.objs.size], _, _, H1, rfl, I1.kept (t' := s1.toks) fun b o e => Heap.get?_push_of_some _ e, zh9 z t _ "str_ascii_iterator" (.inl rfl), ⟨_, Heap.get?_push_size _ rfl, rfl, rfl⟩, fo, q⟩
def rSlS : V → Option Int → Option Int → Hp → VK → Prop := fun x lo hi H Q => ∃ z, x = .str z ∧ z.length ≤ sizeLine ∧ Q (.str (Txt.slice z lo hi)) H
theorem zrh {X : Cx} : SlR X rSlS := by
  intro pins s σ H x v vl vu lo hi sl Q I rx hs pl pu h
  obtain ⟨z, rfl, hz, q⟩ := h
  obtain ⟨t, rfl⟩ := rx
  refine ⟨"str", _, F.slot_str_getitem.lookup, typeIs_str _ _ _, ?_⟩
  have go : ∀ (l u : Option (Int × Tok)), vl = partValue l → vu = partValue u → lo = l.map (·.1) → hi = u.map (·.1) → wpAny (model X.prog X.w) X.A (getItem (.str z t) (.ref sl)) (EP X pins σ Q) X.xe s := by
    rintro l u rfl rfl rfl rfl
    refine wpAny_getItem_str_slice (l := l) (u := u) (st := none) ?_ rfl ?_
    · obtain ⟨o, e, c, d⟩ := hs
      exact ⟨o, e, c, d⟩
    · exact post_val_or_str ⟨Nat.le_trans (Txt.slice_le z _ _) hz, fun t' k => ⟨.str _, H, I.tok _, ⟨_, rfl⟩, q⟩⟩
  cases pl with
  | none =>
    cases pu with
    | none => exact go none none rfl rfl rfl rfl
    | int j u => exact go none (some (j, u)) rfl rfl rfl rfl
  | int i t' =>
    cases pu with
    | none => exact go (some (i, t')) none rfl rfl rfl rfl
    | int j u => exact go (some (i, t')) (some (j, u)) rfl rfl rfl rfl
theorem zh1 {X : Cx} : CallR X (.builtin "isinstance") (fun xs H Q => ∃ x T t b, xs = [x, .ty T] ∧ TyOf X.K H x t ∧ PySem.W.kitOne X.K t (.type T) = some b ∧ Q (.bl b) H) := by
  intro pins s σ H xs us Q I r h
  obtain ⟨x, T, t, b, rfl, ty, e, q⟩ := h
  obtain ⟨u, w', rfl, rx, ry⟩ := vals2 r
  cases (show w' = Value.type T from ry)
  exact zl2 I rx ty e fun tk => ⟨.bl b, H, I.tok _, rfl, q⟩
section
open PyProof.Rows.LSm
theorem zi1 {bs : List Bool} : ∀ {us : List Value}, Vals (bs.map V.bl) us → BoolsAre us bs := by
  induction bs with
  | nil => intro us r; rw [List.map_nil] at r; cases r; exact .nil
  | cons b bs ih =>
    intro us r
    rw [List.map_cons] at r
    cases r with
    | cons r1 r2 =>
      cases (show _ = Value.bool b from r1)
      exact .cons b (ih r2)
theorem zh3 {X : Cx} (hc : X.calm = true) : CallR X (.builtin "all") (fun xs H Q => ∃ (p : Addr) (bs : List Bool), xs = [.ref p] ∧ SqL X.K H p (bs.map V.bl) ∧ Q (.bl (bs.all id)) H) := by
  intro pins s σ H xs us Q I r h
  obtain ⟨p, bs, rfl, hx, q⟩ := h
  obtain ⟨u, rfl, rx⟩ := vals1 r
  cases (show u = Value.ref p from rx)
  obtain ⟨vs, rv, pl, hz⟩ := I.list hx
  have hl := pl.isList
  have hb := zi1 rv
  have hlt : p < s.heap.objs.size := by obtain ⟨_, e, _⟩ := hl; exact Heap.lt_size e
  refine call_all_walk (wpAny_pyIter_list hl ?_)
  refine ⟨s.heap.objs.size, [s.heap.objs.size, p], [s.heap.objs.size], vs.toArray.size, _, _, fun i => (bs[i]?).getD true, rfl, Walks.list (A := X.A.in1) (I.ok.hd hc) _ p (Nat.ne_of_lt hlt) vs.toArray,
    ⟨⟨_, Heap.get?_push_size _ rfl, rfl, rfl⟩, hl.push _⟩, fun i v s' Q' E' hP hQ => ?_, fun h' tk hk => ?_⟩
  · obtain ⟨b, e, rfl⟩ := hb.get i v (by simpa using hP)
    simp only [e, Option.getD_some] at hQ
    exact wpAny_truthy_bool hQ
  · have e : ((List.range vs.toArray.size).all fun i => (bs[i]?).getD true) = bs.all id := by
      rw [List.size_toArray, hb.length]; exact range_all bs
    rw [e]
    exact ⟨.bl _, H, I.kept (kept_iter hk), rfl, q⟩
theorem zh2 {X : Cx} (hc : X.calm = true) : CallR X (.builtin "any") (fun xs H Q => ∃ (p : Addr) (bs : List Bool), xs = [.ref p] ∧ SqL X.K H p (bs.map V.bl) ∧ Q (.bl (bs.any id)) H) := by
  intro pins s σ H xs us Q I r h
  obtain ⟨p, bs, rfl, hx, q⟩ := h
  obtain ⟨u, rfl, rx⟩ := vals1 r
  cases (show u = Value.ref p from rx)
  obtain ⟨vs, rv, pl, hz⟩ := I.list hx
  have hl := pl.isList
  have hb := zi1 rv
  have hlt : p < s.heap.objs.size := by obtain ⟨_, e, _⟩ := hl; exact Heap.lt_size e
  refine call_any_walk (wpAny_pyIter_list hl ?_)
  refine ⟨s.heap.objs.size, [s.heap.objs.size, p], [s.heap.objs.size], vs.toArray.size, _, _, fun i => (bs[i]?).getD false, rfl, Walks.list (A := X.A.in1) (I.ok.hd hc) _ p (Nat.ne_of_lt hlt) vs.toArray,
    ⟨⟨_, Heap.get?_push_size _ rfl, rfl, rfl⟩, hl.push _⟩, fun i v s' Q' E' hP hQ => ?_, fun h' tk hk => ?_⟩
  · obtain ⟨b, e, rfl⟩ := hb.get i v (by simpa using hP)
    simp only [e, Option.getD_some] at hQ
    exact wpAny_truthy_bool hQ
  · have e : ((List.range vs.toArray.size).any fun i => (bs[i]?).getD false) = bs.any id := by
      rw [List.size_toArray, hb.length]; exact range_any bs
    rw [e]
    exact ⟨.bl _, H, I.kept (kept_iter hk), rfl, q⟩
theorem zgt {X : Cx} (hc : X.calm = true) : CallR X (.builtin "sum") (fun xs H Q => ∃ (p : Addr) (ns : List Int), xs = [.ref p] ∧ SqL X.K H p (ns.map V.int) ∧ Q (.int ns.sum) H) := by
  intro pins s σ H xs us Q I r h
  obtain ⟨p, ns, rfl, hx, q⟩ := h
  obtain ⟨u, rfl, rx⟩ := vals1 r
  cases (show u = Value.ref p from rx)
  obtain ⟨vs, rv, pl, hz⟩ := I.list hx
  have hi := zjr rv
  obtain ⟨ys, hy⟩ := hi.allInts.items
  have hl' : s.heap.IsList p (intItems ys) := hy ▸ pl.isList
  refine sum_intListG (I.ok.hd hc) hl' fun h' tk t' hk => ?_
  have e1 : ns = ys.toList.map (·.1) := by
    rw [← nums_intItems, ← hy]
    exact (show numsOf vs.toArray.toList = ns from hi.numsOf).symm
  have e2 : preSum (numAt ys) ys.size = ns.sum := by
    rw [preSum_eq, List.take_of_length_le (by simp), e1]
  rw [e2]
  exact ⟨.int _, H, I.kept hk, ⟨_, rfl⟩, q⟩
end
def rZfill : V → List V → Hp → VK → Prop := fun x vs H Q => ∃ z i, x = .str z ∧ vs = [.int i] ∧ PadOk i = true ∧ Q (.str (Txt.zfill z i)) H
def EqOk (X : Cx) (k : Nat) (H : Hp) (x y : V) (b : Bool) : Prop := ∀ (pins : List (Addr × Obj)) (σ : St) (s : Shared) (A : Around) (u v : Value), A.units + k < cLine → Inv X pins σ H s → RelV x u → RelV y v → SeqAt.EqAt A s u v b
def RcOk (X : Cx) (k : Nat) (H : Hp) (x y : V) (b : Bool) : Prop := ∀ (pins : List (Addr × Obj)) (σ : St) (s : Shared) (A : Around) (u v : Value), A.units + k < cLine → Inv X pins σ H s → RelV x u → RelV y v → SeqAt.RcAt A s u v b
section
variable {X : Cx} {k : Nat} {H : Hp} {x y : V} {a b : Addr} {xs ys : List V}
theorem zgp (fx : flatV x = true) (fy : flatV y = true) : EqOk X k H x y (eqV x y) := fun _ _ _ _ _ _ _ _ rx ry => zme rx ry fx fy
theorem Vals.at {xs : List V} {us : List Value} (r : Vals xs us) {j : Nat} (h : j < us.length) : ∃ (h' : j < xs.length), RelV xs[j] us[j] := by
  have hl := r.length
  have h' : j < xs.length := by omega
  obtain ⟨u, e, q⟩ := r.get (i := j) (x := xs[j]) (by simp [h'])
  rw [List.getElem?_eq_getElem h] at e
  cases e
  exact ⟨h', q⟩
theorem zeu (hx : SqL X.K H a xs) (hy : SqL X.K H b ys) (hl : xs.length = ys.length) (e : Nat → Bool) (he : ∀ j (h1 : j < xs.length) (h2 : j < ys.length), EqOk X k H xs[j] ys[j] (e j)) :
    RcOk X (k + 1) H (.ref a) (.ref b) ((List.range xs.length).all e) := fun pins σ s A u v hu I rx ry => by
  cases (show u = Value.ref a from rx)
  cases (show v = Value.ref b from ry)
  obtain ⟨us, r1, p1, _⟩ := I.list hx
  obtain ⟨vs, r2, p2, _⟩ := I.list hy
  have l1 := r1.length
  have l2 := r2.length
  have q := SeqAt.RcAt.lists (A := A) (e := e) p1.isList p2.isList (by rw [List.size_toArray, List.size_toArray]; omega) (by omega) fun j h1 h2 => by
    rw [List.size_toArray] at h1 h2
    obtain ⟨g1, q1⟩ := r1.at h1
    obtain ⟨g2, q2⟩ := r2.at h2
    exact he j g1 g2 pins σ s A.in1 _ _ (by show A.units + 1 + k < cLine; omega) I (by simpa using q1) (by simpa using q2)
  rw [List.size_toArray, ← l1] at q
  exact q
theorem zgf (hx : SqL X.K H a xs) (hy : SqL X.K H b ys) (hl : xs.length ≠ ys.length) : RcOk X k H (.ref a) (.ref b) false := fun pins σ s A u v hu I rx ry => by
  cases (show u = Value.ref a from rx)
  cases (show v = Value.ref b from ry)
  obtain ⟨us, r1, p1, _⟩ := I.list hx
  obtain ⟨vs, r2, p2, _⟩ := I.list hy
  have l1 := r1.length
  have l2 := r2.length
  exact SeqAt.RcAt.lists_lengths p1.isList p2.isList (by rw [List.size_toArray, List.size_toArray]; simp; omega) (by omega)
theorem zcz (hx : SqL X.K H a xs) (hy : SqL X.K H b ys) (fx : xs.all flatV = true) (fy : ys.all flatV = true) :
    RcOk X 1 H (.ref a) (.ref b) (xs.length == ys.length && (List.range xs.length).all fun j => eqV (xs.getD j .non) (ys.getD j .non)) := by
  by_cases hl : xs.length = ys.length
  · have q := zeu (k := 0) hx hy hl (fun j => eqV (xs.getD j .non) (ys.getD j .non)) fun j h1 h2 => by
      have e1 : xs.getD j .non = xs[j] := by simp [List.getD, h1]
      have e2 : ys.getD j .non = ys[j] := by simp [List.getD, h2]
      rw [e1, e2]
      exact zgp (List.all_eq_true.mp fx _ (List.getElem_mem h1)) (List.all_eq_true.mp fy _ (List.getElem_mem h2))
    rw [show (xs.length == ys.length) = true by simp [hl], Bool.true_and]
    exact q
  · rw [show (xs.length == ys.length) = false by simp [hl], Bool.false_and]
    exact zgf hx hy hl
end
def rEqD (X : Cx) (k : Nat) : R2 := fun x y H Q => ∃ c, RcOk X k H x y c ∧ Q (.bl c) H
theorem zoy {X : Cx} {k : Nat} (hu : X.A.units + k < cLine) : OpR X (compareOp .Eq) (rEqD X k) := by
  intro pins s σ H x y v u Q I rx ry h
  obtain ⟨c, r, q⟩ := h
  exact r pins σ s X.A v u hu I rx ry _ _ _ _ ⟨.bl c, H, I, rfl, q⟩
def CW (D : Addr) (n : Nat) (Pv : Nat → List V → St → Hp → Prop) (i m : Nat) (σ : St) (H : Hp) : Prop := m = n - i ∧ i ≤ n ∧ ∃ ys, H D = some (.lst ys) ∧ ys.length ≤ i ∧ Pv i ys σ H
def CStep (D : Addr) (n i : Nat) (Pv : Nat → List V → St → Hp → Prop) (σ2 : St) (y : V) (H4 : Hp) : Prop :=
  ∃ ys, H4 D = some (.lst ys) ∧ ys.length < sizeLine ∧ ∃ m', m' < n - i ∧ CW D n Pv (i + 1) m' σ2 (upd H4 D (.lst (ys ++ [y])))
def CSkip (D : Addr) (n i : Nat) (Pv : Nat → List V → St → Hp → Prop) (σ2 : St) (H3 : Hp) : Prop := ∃ m', m' < n - i ∧ CW D n Pv (i + 1) m' σ2 H3
section
variable {D : Addr} {Q : VK} {g : TG} {tif : TT} {te : TE} {σ0 : St} {H1 : Hp} {n i : Nat} {Pv : Nat → List V → St → Hp → Prop}
theorem cstep {ys : List V} {y : V} {σ2 : St} {H4 : Hp} (hn : n ≤ sizeLine) (hi : i < n) (hD : H4 D = some (.lst ys)) (hl : ys.length ≤ i) (h : Pv (i + 1) (ys ++ [y]) σ2 (upd H4 D (.lst (ys ++ [y])))) : CStep D n i Pv σ2 y H4 :=
  ⟨ys, hD, by omega, n - (i + 1), by omega, rfl, hi, ys ++ [y], zau, by rw [List.length_append, List.length_singleton]; omega, h⟩
theorem cskip {ys : List V} {σ2 : St} {H3 : Hp} (hi : i < n) (hD : H3 D = some (.lst ys)) (hl : ys.length ≤ i) (h : Pv (i + 1) ys σ2 H3) : CSkip D n i Pv σ2 H3 :=
  ⟨n - (i + 1), by omega, rfl, hi, ys, hD, by omega, h⟩
theorem zhv {J : It} (Pv : Nat → List V → St → Hp → Prop) (hn : n ≤ sizeLine) (h0 : Pv 0 [] σ0 (upd H1 D (.lst [])))
    (hgo : ∀ i ys σ H, i < n → H D = some (.lst ys) → Pv i ys σ H → J.go i H) (hstop : ∀ ys σ H, H D = some (.lst ys) → Pv n ys σ H → J.stop n H)
    (hs : ∀ i ys σ H, i < n → H D = some (.lst ys) → ys.length ≤ i → Pv i ys σ H → ∀ x H', J.yld i H x H' → g x σ H' fun σ2 H2 => tif σ2 H2 fun c H3 =>
      if c = true then te σ2 H3 fun y H4 => CStep D n i Pv σ2 y H4 else CSkip D n i Pv σ2 H3)
    (hd : ∀ ys σ H, H D = some (.lst ys) → ys.length ≤ n → Pv n ys σ H → Q (.ref D) H) :
    ∃ W : Nat → Nat → St → Hp → Prop, (∃ m, W 0 m σ0 (upd H1 D (.lst []))) ∧ ∀ i m σb Hb, W i m σb Hb →
      (J.stop i Hb ∧ Q (.ref D) Hb) ∨ (J.go i Hb ∧ ∀ x H', J.yld i Hb x H' → g x σb H' fun σ2 H2 => tif σ2 H2 fun c H3 =>
        if c = true then te σ2 H3 fun y H4 => ∃ ys, H4 D = some (.lst ys) ∧ ys.length < sizeLine ∧ ∃ m', m' < m ∧ W (i + 1) m' σ2 (upd H4 D (.lst (ys ++ [y])))
        else ∃ m', m' < m ∧ W (i + 1) m' σ2 H3) := by
  refine ⟨CW D n Pv, ⟨n, by omega, Nat.zero_le _, [], zau, Nat.le_refl _, h0⟩, ?_⟩
  rintro i m σ H ⟨rfl, hi, ys, hD, hl, p⟩
  by_cases hlt : i < n
  · exact .inr ⟨hgo i ys σ H hlt hD p, hs i ys σ H hlt hD hl p⟩
  · have e : i = n := by omega
    subst e
    exact .inl ⟨hstop ys σ H hD p, hd ys σ H hD hl p⟩
theorem zos {z : Str} (Pv : Nat → List V → St → Hp → Prop) (hn : z.cps.size ≤ sizeLine) (h0 : Pv 0 [] σ0 (upd H1 D (.lst [])))
    (hs : ∀ i ys σ H c, i < z.cps.size → z.cps[i]? = some c → H D = some (.lst ys) → ys.length ≤ i → Pv i ys σ H → g (.str ⟨#[c]⟩) σ H fun σ2 H2 => tif σ2 H2 fun c H3 =>
      if c = true then te σ2 H3 fun y H4 => CStep D z.cps.size i Pv σ2 y H4 else CSkip D z.cps.size i Pv σ2 H3)
    (hd : ∀ ys σ H, H D = some (.lst ys) → ys.length ≤ z.cps.size → Pv z.cps.size ys σ H → Q (.ref D) H) :
    ∃ W : Nat → Nat → St → Hp → Prop, (∃ m, W 0 m σ0 (upd H1 D (.lst []))) ∧ ∀ i m σb Hb, W i m σb Hb →
      ((Its z).stop i Hb ∧ Q (.ref D) Hb) ∨ ((Its z).go i Hb ∧ ∀ x H', (Its z).yld i Hb x H' → g x σb H' fun σ2 H2 => tif σ2 H2 fun c H3 =>
        if c = true then te σ2 H3 fun y H4 => ∃ ys, H4 D = some (.lst ys) ∧ ys.length < sizeLine ∧ ∃ m', m' < m ∧ W (i + 1) m' σ2 (upd H4 D (.lst (ys ++ [y])))
        else ∃ m', m' < m ∧ W (i + 1) m' σ2 H3) :=
  zhv Pv hn h0 (fun i _ _ _ hi _ _ => hi) (fun _ _ _ _ _ => Nat.le_refl _) (fun i ys σ H hi hD hl p x H' y => by
    obtain ⟨e, c, hc, ex⟩ := y
    subst e ex
    exact hs i ys σ _ c hi hc hD hl p) hd
theorem zml {K : PySem.W.Frag} {a : Addr} {xs : List V} (Pv : Nat → List V → St → Hp → Prop) (hn : xs.length ≤ sizeLine) (h0 : Pv 0 [] σ0 (upd H1 D (.lst [])))
    (hl : ∀ i ys σ H, i ≤ xs.length → H D = some (.lst ys) → Pv i ys σ H → SqL K H a xs)
    (hs : ∀ i ys σ H x, i < xs.length → xs[i]? = some x → H D = some (.lst ys) → ys.length ≤ i → Pv i ys σ H → g x σ H fun σ2 H2 => tif σ2 H2 fun c H3 =>
      if c = true then te σ2 H3 fun y H4 => CStep D xs.length i Pv σ2 y H4 else CSkip D xs.length i Pv σ2 H3)
    (hd : ∀ ys σ H, H D = some (.lst ys) → ys.length ≤ xs.length → Pv xs.length ys σ H → Q (.ref D) H) :
    ∃ W : Nat → Nat → St → Hp → Prop, (∃ m, W 0 m σ0 (upd H1 D (.lst []))) ∧ ∀ i m σb Hb, W i m σb Hb →
      ((Itl K a).stop i Hb ∧ Q (.ref D) Hb) ∨ ((Itl K a).go i Hb ∧ ∀ x H', (Itl K a).yld i Hb x H' → g x σb H' fun σ2 H2 => tif σ2 H2 fun c H3 =>
        if c = true then te σ2 H3 fun y H4 => ∃ ys, H4 D = some (.lst ys) ∧ ys.length < sizeLine ∧ ∃ m', m' < m ∧ W (i + 1) m' σ2 (upd H4 D (.lst (ys ++ [y])))
        else ∃ m', m' < m ∧ W (i + 1) m' σ2 H3) :=
  zhv Pv hn h0 (fun i ys σ H hi hD p => ⟨xs, xs[i], hl i ys σ H (Nat.le_of_lt hi) hD p, by simp [hi]⟩) (fun ys σ H hD p => ⟨xs, hl _ ys σ H (Nat.le_refl _) hD p, Nat.le_refl _⟩) (fun i ys σ H hi hD hl' p x H' y => by
    obtain ⟨e, y⟩ := y
    subst e
    exact hs i ys σ _ x hi (y xs (hl i ys σ _ (Nat.le_of_lt hi) hD p)) hD hl' p) hd
end
section
variable {κ : Type} [DecidableEq κ]
def valV (kvs : List (κ × V)) (k : κ) : Option V := (kvs.find? fun kv => decide (kv.1 = k)).map (·.2)
def putK (kvs : List (κ × V)) (k : κ) (v : V) : List (κ × V) :=
  if (kvs.any fun kv => decide (kv.1 = k)) = true then kvs.map (fun kv => if kv.1 = k then (kv.1, v) else kv) else kvs ++ [(k, v)]
theorem zbj {p : κ × V} {r : List (κ × V)} {k : κ} (e : p.1 = k) : valV (p :: r) k = some p.2 := by simp [valV, List.find?_cons, e]
theorem zbk {p : κ × V} {r : List (κ × V)} {k : κ} (e : ¬ p.1 = k) : valV (p :: r) k = valV r k := by simp [valV, List.find?_cons, e]
theorem zdh (k : κ) : ∀ kvs : List (κ × V), (kvs.any fun kv => decide (kv.1 = k)) = (valV kvs k).isSome
  | [] => rfl
  | p :: r => by
    rw [List.any_cons]
    by_cases e : p.1 = k
    · simp only [zbj e, decide_eq_true e, Bool.true_or, Option.isSome_some]
    · rw [zbk e, decide_eq_false e, Bool.false_or]; exact zdh k r
theorem zh8 (k j : κ) (y : V) : ∀ kvs : List (κ × V), valV (kvs.map fun kv => if kv.1 = k then (kv.1, y) else kv) j = (valV kvs j).map fun x => if j = k then y else x
  | [] => rfl
  | p :: r => by
    have ih := zh8 k j y r
    rw [List.map_cons]
    by_cases h : p.1 = k
    · rw [if_pos h]
      by_cases e : p.1 = j
      · rw [zbj (p := (p.1, y)) e, zbj e, Option.map_some, if_pos (e.symm.trans h)]
      · rw [zbk (p := (p.1, y)) e, zbk e, ih]
    · rw [if_neg h]
      by_cases e : p.1 = j
      · rw [zbj (p := p) e, zbj e, Option.map_some, if_neg (fun z => h (e.trans z))]
      · rw [zbk (p := p) e, zbk e, ih]
theorem zfx (k j : κ) (y : V) : ∀ kvs : List (κ × V), valV kvs k = none → valV (kvs ++ [(k, y)]) j = if j = k then some y else valV kvs j
  | [], _ => by
    by_cases e : k = j
    · rw [if_pos e.symm]; exact zbj (p := (k, y)) e
    · rw [if_neg (fun z => e z.symm)]; exact zbk (p := (k, y)) e
  | p :: r, hn => by
    rw [List.cons_append]
    have hk : ¬ p.1 = k := fun z => by rw [zbj z] at hn; cases hn
    rw [zbk hk] at hn
    have ih := zfx k j y r hn
    by_cases e : p.1 = j
    · rw [zbj e, zbj e, if_neg (fun z => hk (e.trans z))]
    · rw [zbk e, zbk e, ih]
theorem zh7 (kvs : List (κ × V)) (k j : κ) (y : V) : valV (putK kvs k y) j = if j = k then some y else valV kvs j := by
  unfold putK
  by_cases a : (kvs.any fun kv => decide (kv.1 = k)) = true
  · rw [if_pos a, zh8]
    rw [zdh] at a
    by_cases e : j = k
    · obtain ⟨x, hx⟩ := Option.isSome_iff_exists.mp a
      rw [if_pos e, e, hx, Option.map_some, if_pos rfl]
    · rw [if_neg e]
      cases valV kvs j with
      | none => rfl
      | some x => rw [Option.map_some, if_neg e]
  · rw [if_neg a]
    refine zfx k j y kvs ?_
    rw [zdh] at a
    cases q : valV kvs k with
    | none => rfl
    | some x => rw [q] at a; exact (a rfl).elim
theorem zb0 (kvs : List (κ × V)) (k : κ) (v : V) : (putK kvs k v).length ≤ kvs.length + 1 := by
  unfold putK
  split
  · rw [List.length_map]; omega
  · rw [List.length_append, List.length_cons, List.length_nil]; omega
theorem RelO.isSome_eq {o : Option V} {u : Option Value} (r : RelO o u) : o.isSome = u.isSome := by
  cases o with
  | none => cases u with
    | none => rfl
    | some _ => exact (show False from r).elim
  | some _ => cases u with
    | none => exact (show False from r).elim
    | some _ => rfl
theorem KV.val {kvs : List (κ × V)} {vs : List (κ × Value)} (r : KV kvs vs) (k : κ) : RelO (valV kvs k) (valueAt vs k) := by
  unfold KV at r
  induction r with
  | nil => exact True.intro
  | @cons p q ps qs h t ih =>
    obtain ⟨h1, h2⟩ := h
    by_cases e : p.1 = k
    · have e' : q.1 = k := h1.symm.trans e
      have b : valueAt (q :: qs) k = some q.2 := by simp [valueAt, List.find?_cons, e']
      rw [zbj e, b]; exact h2
    · have e' : ¬ q.1 = k := fun z => e (h1.trans z)
      have b : valueAt (q :: qs) k = valueAt qs k := by simp [valueAt, List.find?_cons, e']
      rw [zbk e, b]; exact ih
theorem KV.any {kvs : List (κ × V)} {vs : List (κ × Value)} (r : KV kvs vs) (k : κ) : (kvs.any fun kv => decide (kv.1 = k)) = vs.any fun kv => decide (kv.1 = k) := by
  unfold KV at r
  induction r with
  | nil => rfl
  | cons h t ih => rw [List.any_cons, List.any_cons, ih, h.1]
theorem KV.repl {kvs : List (κ × V)} {vs : List (κ × Value)} (r : KV kvs vs) (k : κ) {y : V} {u : Value} (ry : RelV y u) :
    KV (kvs.map fun kv => if kv.1 = k then (kv.1, y) else kv) (vs.map fun kv => if kv.1 = k then (kv.1, u) else kv) := by
  unfold KV at r ⊢
  induction r with
  | nil => exact .nil
  | @cons p q ps qs h t ih =>
    rw [List.map_cons, List.map_cons]
    refine .cons ?_ ih
    obtain ⟨h1, h2⟩ := h
    by_cases e : p.1 = k
    · rw [if_pos e, if_pos (h1.symm.trans e)]; exact ⟨h1, ry⟩
    · rw [if_neg e, if_neg (fun z => e (h1.trans z))]; exact ⟨h1, h2⟩
theorem KV.put {kvs : List (κ × V)} {vs : List (κ × Value)} (r : KV kvs vs) (k : κ) {y : V} {u : Value} (ry : RelV y u) : KV (putK kvs k y) (stored vs k u) := by
  unfold putK stored
  rw [r.any k]
  by_cases e : (vs.any fun kv => decide (kv.1 = k)) = true
  · rw [if_pos e, if_pos e]; exact r.repl k ry
  · rw [if_neg e, if_neg e]; exact Paired.snoc r ⟨rfl, ry⟩
theorem KV.length {kvs : List (κ × V)} {vs : List (κ × Value)} (r : KV kvs vs) : kvs.length = vs.length := Paired.length r
end
theorem zlz {P : Program} {w : World} {k : Key} {u : Value} (r : RelV (kV k) u) : (mixKind P w).is k u = true := by
  cases k with
  | inl i => obtain ⟨t, e⟩ := (show ∃ t, u = Value.int i t from r); subst e; exact zhp P w i t
  | inr x => obtain ⟨t, e⟩ := (show ∃ t, u = Value.str x t from r); subst e; exact zho P w x t
theorem zr9 {a b : Key} (e : kV a = kV b) : a = b := by
  cases a with
  | inl i => cases b with
    | inl j => have e' : V.int i = V.int j := e; injection e' with e'; rw [e']
    | inr y => exact nomatch (show V.int i = V.str y from e)
  | inr x => cases b with
    | inl j => exact nomatch (show V.str x = V.int j from e)
    | inr y => have e' : V.str x = V.str y := e; injection e' with e'; rw [e']
theorem zgm {P : Program} {w : World} : ∀ {ks : List Key} {us : List Value}, Vals (ks.map kV) us → ItemsAre (mixKind P w) ks us
  | [], _, r => by rw [List.map_nil] at r; cases r; exact .nil
  | k :: ks, _, r => by
    rw [List.map_cons] at r
    cases r with
    | cons h t => exact .cons (zlz h) (zgm t)
abbrev KT (H : Hp) : List (List Key × V) → List (List Key × Addr × Value) → Prop := Paired fun p q => p.1 = q.1 ∧ H q.2.1 = some (.tup (p.1.map kV)) ∧ RelV p.2 q.2.2
theorem KT.val {H : Hp} {kvs : List (List Key × V)} {xs : List (List Key × Addr × Value)} (r : KT H kvs xs) (k : List Key) : RelO (valV kvs k) ((atKey xs k).map (·.2)) := by
  induction r with
  | nil => exact True.intro
  | @cons p q ps qs h t ih =>
    obtain ⟨h1, _, h2⟩ := h
    by_cases e : p.1 = k
    · have e' : q.1 = k := h1.symm.trans e
      have b : atKey (q :: qs) k = some q.2 := by simp [atKey, List.find?_cons, e']
      rw [zbj e, b]; exact h2
    · have e' : ¬ q.1 = k := fun z => e (h1.trans z)
      have b : atKey (q :: qs) k = atKey qs k := by simp [atKey, List.find?_cons, e']
      rw [zbk e, b]; exact ih
theorem KT.repl {H : Hp} {kvs : List (List Key × V)} {xs : List (List Key × Addr × Value)} (r : KT H kvs xs) (k : List Key) {y : V} {u : Value} (ry : RelV y u) :
    KT H (kvs.map fun kv => if kv.1 = k then (kv.1, y) else kv) (xs.map (putAt k u)) := by
  induction r with
  | nil => exact .nil
  | @cons p q ps qs h t ih =>
    rw [List.map_cons, List.map_cons]
    refine .cons ?_ ih
    obtain ⟨h1, h2, h3⟩ := h
    unfold putAt
    by_cases e : p.1 = k
    · rw [if_pos e, if_pos (h1.symm.trans e)]; exact ⟨h1, h2, ry⟩
    · rw [if_neg e, if_neg (fun z => e (h1.trans z))]; exact ⟨h1, h2, h3⟩
theorem KT.put {H : Hp} {kvs : List (List Key × V)} {xs : List (List Key × Addr × Value)} (r : KT H kvs xs) (k : List Key) {b : Addr} {y : V} {u : Value} (hb : H b = some (.tup (k.map kV))) (ry : RelV y u) :
    KT H (putK kvs k y) (storedH xs k b u) := by
  have e : (kvs.any fun kv => decide (kv.1 = k)) = (atKey xs k).isSome := by
    rw [zdh, (r.val k).isSome_eq, Option.isSome_map]
  unfold putK storedH
  rw [e]
  by_cases q : (atKey xs k).isSome = true
  · rw [if_pos q, if_pos q]; exact r.repl k ry
  · rw [if_neg q, if_neg q]; exact Paired.snoc r ⟨rfl, hb, ry⟩
theorem KT.keeps {H H' : Hp} {kvs : List (List Key × V)} {xs : List (List Key × Addr × Value)} (r : KT H kvs xs) (ht : ∀ b ys, H b = some (.tup ys) → H' b = some (.tup ys)) : KT H' kvs xs :=
  Paired.mapP r fun _ _ z => ⟨z.1, ht _ _ z.2.1, z.2.2⟩
section
variable {P : Program} {w : World} {H : Hp} {h : Heap} {a : Addr}
theorem zri {u : HO} (ok : HOk P w H h) (e : Rd H a u) : ObjOk P w H h a u := e.ok ok
theorem zom {kvs : List (Key × V)} (ok : HOk P w H h) (e : Rd H a (.dK kvs)) : kvs.length ≤ sizeLine ∧ (a == sysModules) = false ∧ ∃ vs, KV kvs vs ∧ h.DictOf (mixKind P w) a vs :=
  show ObjOk P w H h a (.dK kvs) from zri ok e
theorem zsh {kvs : List (Key × V)} (ok : HOk P w H h) (e : H a = some (.dK kvs)) : kvs.length ≤ sizeLine ∧ (a == sysModules) = false ∧ ∃ vs, KV kvs vs ∧ h.DictOf (mixKind P w) a vs := zom ok (.inl e)
theorem zgl {ks : List Key} (ok : HOk P w H h) (e : H a = some (.tup (ks.map kV))) : (tupleKind (mixKind P w)).is h ks a := by
  obtain ⟨_, its, r, o, h1, h2, n, h3⟩ := (show ObjOk P w H h a (.tup (ks.map kV)) from ok a _ e)
  exact ⟨o, its.toArray, n, h1, h2, h3, by simpa using zgm r⟩
theorem zoi {kvs : List (List Key × V)} (ok : HOk P w H h) (e : Rd H a (.dT kvs)) : kvs.length ≤ sizeLine ∧ (a == sysModules) = false ∧
    ∃ xs, KT H kvs xs ∧ h.DictOfH (tupleKind (mixKind P w)) a xs := by
  obtain ⟨z, y, xs, r, o, es, ep, h1, h2, h3, h4, h5⟩ := (show ObjOk P w H h a (.dT kvs) from zri ok e)
  refine ⟨z, y, xs, r, o, es, ep, h1, h2, h3, h4, fun x hx => ?_, h5⟩
  have all : ∀ {l : List (List Key × V)} {m : List (List Key × Addr × Value)}, KT H l m → ∀ x ∈ m, (tupleKind (mixKind P w)).is h x.1 x.2.1 := by
    intro l m q
    induction q with
    | nil => intro x hx; exact nomatch hx
    | @cons p q ps qs hq t ih =>
      intro x hx
      rcases List.mem_cons.mp hx with e | hx
      · subst e
        exact zgl ok (by rw [← hq.1]; exact hq.2.1)
      · exact ih x hx
  exact all r x hx
theorem zsv {kvs : List (List Key × V)} (ok : HOk P w H h) (e : H a = some (.dT kvs)) : kvs.length ≤ sizeLine ∧ (a == sysModules) = false ∧
    ∃ xs, KT H kvs xs ∧ h.DictOfH (tupleKind (mixKind P w)) a xs := zoi ok (.inl e)
end
def KeyV (k : Key) (y : V) : Prop := y = kV k ∨ ∃ b, y = .bl b ∧ k = .inl (blI b)
theorem KeyV.is {P : Program} {w : World} {k : Key} {y : V} {u : Value} (h : KeyV k y) (r : RelV y u) : (mixKind P w).is k u = true := by
  rcases h with rfl | ⟨b, rfl, rfl⟩
  · exact zlz r
  · cases (show u = Value.bool b from r)
    exact zoc b
def DGet (H : Hp) (a : Addr) (y : V) (r : Option V) : Prop :=
  (∃ kvs k, Rd H a (.dK kvs) ∧ KeyV k y ∧ r = valV kvs k) ∨ ∃ kvs k b, Rd H a (.dT kvs) ∧ y = .ref b ∧ H b = some (.tup (k.map kV)) ∧ r = valV kvs k
def DPut (H : Hp) (a : Addr) (y v : V) (H' : Hp) : Prop :=
  (∃ kvs k, H a = some (.dK kvs) ∧ KeyV k y ∧ kvs.length < sizeLine ∧ H' = upd H a (.dK (putK kvs k v))) ∨
  ∃ kvs k b, H a = some (.dT kvs) ∧ y = .ref b ∧ H b = some (.tup (k.map kV)) ∧ kvs.length < sizeLine ∧ H' = upd H a (.dT (putK kvs k v))
theorem DGet.t {H : Hp} {a b : Addr} {kvs : List (List Key × V)} {k : List Key} (e : H a = some (.dT kvs)) (eb : H b = some (.tup (k.map kV))) : DGet H a (.ref b) (valV kvs k) := .inr ⟨kvs, k, b, .inl e, rfl, eb, rfl⟩
theorem DPut.t {H : Hp} {a b : Addr} {kvs : List (List Key × V)} {k : List Key} {v : V} (e : H a = some (.dT kvs)) (eb : H b = some (.tup (k.map kV))) (hl : kvs.length < sizeLine) :
    DPut H a (.ref b) v (upd H a (.dT (putK kvs k v))) := .inr ⟨kvs, k, b, e, rfl, eb, hl, rfl⟩
section
variable {X : Cx} {pins : List (Addr × Obj)} {σ : St} {H : Hp} {s : Shared} {a : Addr} {y v : V} {u r : Value} {o : Option V} {A : Around} {E : Value → Shared → Prop}
theorem Inv.big (I : Inv X pins σ H s) : sysModules < s.heap.objs.size := by
  have h : mainGlobals < s.heap.objs.size := (I.mod.glob.keeps I.bk).lt
  exact Nat.lt_trans (by decide) h
theorem zmj {Q : Value → Shared → Prop} (hu : A.units + 1 < cLine) (I : Inv X pins σ H s) (g : DGet H a y (some v)) (ry : RelV y u) (h : ∀ w' s', Inv X pins σ H s' → RelV v w' → Q w' s') :
    wpAny (model X.prog X.w) A (getItem (.ref a) u) Q E s := by
  rcases g with ⟨kvs, k, e, ey, l⟩ | ⟨kvs, k, b, e, ey, eb, l⟩
  · obtain ⟨z, hd, vs, rel, dd⟩ := zom I.hok e
    obtain ⟨w', hw, rw'⟩ := RelO.some_of (v := v) (o := valueAt vs k) (by rw [l]; exact rel.val k)
    exact wpAny_getItem_of (ey.is ry) dd.mapOf hw (h w' _ (I.tok _) rw')
  · subst ey
    cases (show u = Value.ref b from ry)
    obtain ⟨z, hd, xs, rel, dd⟩ := zoi I.hok e
    obtain ⟨w', hw, rw'⟩ := RelO.some_of (v := v) (o := (atKey xs k).map (·.2)) (by rw [l]; exact rel.val k)
    obtain ⟨p, hp, hp2⟩ := Option.map_eq_some_iff.mp hw
    refine wpAny_getItem_heap (tupleKind_room_in1 hu) (zgl I.hok eb) dd hp ?_
    rw [hp2]
    exact h w' _ (I.tok _) rw'
theorem zq4 {Q : Value → Shared → Prop} (hu : A.units + 1 < cLine) (I : Inv X pins σ H s) (g : DGet H a y o) (ry : RelV y u) (h : ∀ s', Inv X pins σ H s' → Q (.bool (!o.isSome)) s') :
    wpAny (model X.prog X.w) A (compareOp .NotIn u (.ref a)) Q E s := by
  rcases g with ⟨kvs, k, e, ey, l⟩ | ⟨kvs, k, b, e, ey, eb, l⟩
  · obtain ⟨z, hd, vs, rel, dd⟩ := zom I.hok e
    refine wpAny_notIn_of (ey.is ry) hd dd.mapOf ?_
    rw [← (rel.val k).isSome_eq, ← l]
    exact h _ (I.tok _)
  · subst ey
    cases (show u = Value.ref b from ry)
    obtain ⟨z, hd, xs, rel, dd⟩ := zoi I.hok e
    refine wpAny_notIn_heap (tupleKind_room_in1 hu) (zgl I.hok eb) hd dd ?_
    have q := (rel.val k).isSome_eq
    rw [Option.isSome_map] at q
    rw [← q, ← l]
    exact h _ (I.tok _)
theorem zfn {h' : Heap} {t' : Nat} {ob : HO} (I : Inv X pins σ H s) (mu : Mut (H a)) (hs : Heap.SameBut a s.heap h') (he : ∃ q, h'.get? a = some q) (new : ObjOk X.prog X.w (upd H a ob) h' a ob) :
    Inv X pins σ (upd H a ob) { s with heap := h', toks := t' } :=
  I.write (x := a) (e := a) mu (.inl rfl) (fun b q hb z => (hs.2 b hb).trans z) he new
theorem zpa {P : Program} {w : World} {H' : Hp} {h' : Heap} {kvs : List (Key × V)} {vs : List (Key × Value)} (z : kvs.length ≤ sizeLine) (hd : (a == sysModules) = false) (rel : KV kvs vs) (dd : h'.DictOf (mixKind P w) a vs) :
    ObjOk P w H' h' a (.dK kvs) := ⟨z, hd, vs, rel, dd⟩
theorem zmi {H' : Hp} {Q : Unit → Shared → Prop} (hu : A.units + 1 < cLine) (I : Inv X pins σ H s) (g : DPut H a y v H') (ry : RelV y u) (rv : RelV v r) (h : ∀ s', Inv X pins σ H' s' → Q () s') :
    wpAny (model X.prog X.w) A (setItem (.ref a) u r) Q E s := by
  rcases g with ⟨kvs, k, e, ey, l, eH⟩ | ⟨kvs, k, b, e, ey, eb, l, eH⟩
  · subst eH
    obtain ⟨z, hd, vs, rel, dd⟩ := zsh I.hok e
    have hz : vs.length ≤ sizeLine := by rw [← rel.length]; exact z
    have hl : (putK kvs k v).length ≤ sizeLine := by have := zb0 kvs k v; omega
    refine wpAny_setItem_pairs (hsz := hz) (ey.is ry) dd fun h' dd' hs => h _ ?_
    have he : ∃ q, h'.get? a = some q := let ⟨q, _, _, hq, _⟩ := dd'; ⟨q, hq⟩
    exact zfn I (by rw [e]; exact True.intro) hs he (zpa hl hd (rel.put k rv) dd')
  · subst ey eH
    cases (show u = Value.ref b from ry)
    obtain ⟨z, hd, xs, rel, dd⟩ := zsv I.hok e
    have hz : xs.length ≤ sizeLine := by rw [← Paired.length rel]; exact z
    have hl : (putK kvs k v).length ≤ sizeLine := by have := zb0 kvs k v; omega
    refine wpAny_setItem_heap (hsz := hz) (tupleKind_room_in1 hu) (zgl I.hok eb) dd fun h' dd' hs => h _ ?_
    obtain ⟨q, es, ep, hq, h2, h3, h4, _, h5⟩ := dd'
    refine zfn I (by rw [e]; exact True.intro) hs ⟨q, hq⟩ ⟨hl, hd, _, (rel.put k eb rv).keeps fun c ys ec => ?_, q, es, ep, hq, h2, h3, h4, h5⟩
    rw [zan (zdz ec e (fun z => nomatch z))]
    exact ec
end
def NoSl (i : Expr) : Prop := ∀ ov iv, subscripted i false ov iv = operate [ov, iv] (getItem ov iv)
theorem zkb {prog : Program} {w : World} {A : Around} {E : Value → Shared → Prop} {s : Shared} {env : Env} {value slice : Expr} {pos : Pos} {T id : String} {Q : Value → Shared → Prop}
    (hl : typeLookup (.type T) "__getitem__" = pure (some (.builtin id))) (hs : NoSl slice)
    (h : wpAny (model prog w) A (eval value env) (fun o s₁ => wpAny (model prog w) A (eval slice env) (fun i s₂ => s₂.TypeIs o T ∧ wpAny (model prog w) A (getItem o i) Q E s₂) E s₁) E s) :
    wpAny (model prog w) A (eval (.Subscript value slice pos) env) Q E s := by
  refine Subscript_ (wpAny_mono h (fun o s₁ h₁ => wpAny_mono h₁ (fun i s₂ h₂ => ?_) fun _ _ x => x) fun _ _ x => x)
  obtain ⟨hT, h₂⟩ := h₂
  unfold subscriptTail
  refine wpAny_bind ?_
  rw [getitemInPython_of_ne hT.not_modules]
  refine wpAny_bind (wpAny_specialOf hT hl ?_)
  have fin : wpAny (model prog w) A (subscripted slice false o i) (fun r s₃ => wpAny (model prog w) A (letTemporaryGo value o r >>= fun _ => pure r) Q E s₃) E s₂ := by
    rw [hs o i]
    exact wpAny_operating (wpAny_mono h₂ (fun r s₃ h₃ => wpAny_bind (wpAny_letTemporaryGo (wpAny_pure h₃))) fun _ _ x => x)
  first
    | exact wpAny_pure (wpAny_bind fin)
    | exact wpAny_bind (wpAny_pure (wpAny_bind fin))
    | exact wpAny_bind fin
theorem zht {X : Cx} {pins : List (Addr × Obj)} {σ : St} {H : Hp} {s : Shared} {a : Addr} {y : V} {o : Option V} (I : Inv X pins σ H s) (g : DGet H a y o) : s.TypeIs (.ref a) "dict" := by
  rcases g with ⟨kvs, k, e, _, _⟩ | ⟨kvs, k, b, e, _, _, _⟩
  · obtain ⟨_, _, vs, _, dd⟩ := zom I.hok e
    exact dd.typeIs
  · obtain ⟨_, _, xs, _, dd⟩ := zoi I.hok e
    exact dd.typeIs
def tDGet (td ty : TE) : TE := fun σ H Q => td σ H fun x H1 => ty σ H1 fun y H2 => ∃ a v, x = .ref a ∧ DGet H2 a y (some v) ∧ Q v H2
def sDPut (td ty tv : TE) : TS := fun D σ H => tv σ H fun v H1 => td σ H1 fun x H2 => ty σ H2 fun y H3 => ∃ a H4, x = .ref a ∧ DPut H3 a y v H4 ∧ D.nx σ H4
section
variable {X : Cx} {o i e value : Expr} {pos pos' tpos : Pos} {td ty tv : TE}
theorem zqc (hu : X.A.units + 1 < cLine) (ho : PE X o td) (hi : PE X i ty) (hs : NoSl i) : PE X (.Subscript o i pos) (tDGet td ty) := by
  intro pins s σ H Q I h
  refine zkb PySem.F.slot_dict_getitem.lookup hs (thn (ho pins s σ H _ I h) fun u s1 ⟨x, H1, I1, rx, q1⟩ => thn (hi pins s1 σ H1 _ I1 q1) fun iv s2 ⟨y, H2, I2, ry, a, v, ex, g, q2⟩ => ?_)
  subst ex
  obtain rfl : u = Value.ref a := rx
  exact ⟨zht I2 g, zmj hu I2 g ry fun w' s3 I3 rw' => ⟨v, H2, I3, rw', q2⟩⟩
theorem zp4 (hu : X.A.units + 1 < cLine) (ho : PE X o td) (hi : PE X i ty) (hv : PE X value tv) (hs : swapsWith value (some (.Subscript o i pos')) pos.line X.env = pure false) :
    PS X (.Assign [.Subscript o i pos'] value pos) (sDPut td ty tv) := by
  intro pins s σ H D I h
  refine wpAny_Assign_Subscript (thn (hv pins s σ H _ I h) fun r s1 ⟨v, H1, I1, rv, q1⟩ => thn (ho pins s1 σ H1 _ I1 q1) fun u s2 ⟨x, H2, I2, rx, q2⟩ => thn (hi pins s2 σ H2 _ I2 q2) fun iv s3 ⟨y, H3, I3, ry, a, H4, ex, g, q3⟩ => ?_) hs
  subst ex
  obtain rfl : u = Value.ref a := rx
  exact zmi hu I3 g ry rv fun s4 I4 => ⟨σ, H4, I4, q3⟩
end
theorem zon {P : Program} {w : World} {H : Hp} (h : Heap) (hb : sysModules < h.objs.size) : ObjOk P w H (h.push { cls := .type "dict", data := .dict #[] }) h.objs.size (.dK []) :=
  ⟨Nat.zero_le _, beq_eq_false_iff_ne.mpr (Ne.symm (Nat.ne_of_lt hb)), [], .nil, Heap.DictOf.new h⟩
theorem zoj {P : Program} {w : World} {H : Hp} (h : Heap) (hb : sysModules < h.objs.size) : ObjOk P w H (h.push { cls := .type "dict", data := .dict #[] }) h.objs.size (.dT []) :=
  ⟨Nat.zero_le _, beq_eq_false_iff_ne.mpr (Ne.symm (Nat.ne_of_lt hb)), [], .nil, _, #[], 0, Heap.get?_push_size _ rfl, ⟨rfl, rfl, rfl⟩, rfl, rfl, List.nodup_nil⟩
def tDNewT : TE := fun _ H Q => ∀ p, H p = none → Q (.ref p) (upd H p (.dT []))
section
variable {X : Cx} {pos : Pos}
theorem znk : PE X (.Dict [] [] pos) tDNewT := fun pins s σ H Q I h =>
  wpAny_Dict_empty ⟨.ref s.heap.objs.size, _, I.laid (a := s.heap.objs.size) (o := .dT []) (t' := s.toks) (fun _ _ q => Heap.get?_push_of_some _ q) (Nat.le_refl _) (zoj s.heap I.big), rfl, h _ (I.hok.fresh (Nat.le_refl _))⟩
end
def tPairs : List (TE × TE) → St → Hp → (List (V × V) → Hp → Prop) → Prop
  | [], _, H, Q => Q [] H
  | (tk, tv) :: r, σ, H, Q => tk σ H fun x H1 => tv σ H1 fun y H2 => tPairs r σ H2 fun ps H3 => Q ((x, y) :: ps) H3
abbrev VV : List (V × V) → List (Value × Value) → Prop := Paired fun p q => RelV p.1 q.1 ∧ RelV p.2 q.2
def PPs (X : Cx) (pos : Pos) (keys : List (Option Expr)) (values : List Expr) (trs : List (TE × TE)) : Prop :=
  ∀ (pins : List (Addr × Obj)) (s : Shared) (σ : St) (H : Hp) (Q : List (V × V) → Hp → Prop), Inv X pins σ H s → tPairs trs σ H Q →
    wpAny (model X.prog X.w) X.A (evalPairs (pairTrees keys values X.env pos)) (fun vs s' => ∃ ps H', Inv X pins σ H' s' ∧ VV ps vs ∧ Q ps H') X.xe s
theorem zp5 {X : Cx} {pos : Pos} : PPs X pos [] [] [] := fun pins s σ H Q I h => pairTrees_nil_walk ⟨[], H, I, .nil, h⟩
theorem znf {X : Cx} {pos : Pos} {k v : Expr} {ks : List (Option Expr)} {vs : List Expr} {tk tv : TE} {trs : List (TE × TE)} (hk : PE X k tk) (hv : PE X v tv) (hr : PPs X pos ks vs trs) :
    PPs X pos (some k :: ks) (v :: vs) ((tk, tv) :: trs) := fun pins s σ H Q I h =>
  pairTrees_cons_walk (thn (hk pins s σ H _ I h) fun u s1 ⟨x, H1, I1, rx, q1⟩ => thn (hv pins s1 σ H1 _ I1 q1) fun w2 s2 ⟨y, H2, I2, ry, q2⟩ =>
    thn (hr pins s2 σ H2 _ I2 q2) fun ws s3 ⟨ps, H3, I3, rel, q3⟩ => ⟨(x, y) :: ps, H3, I3, .cons ⟨rx, ry⟩ rel, q3⟩)
def mergeK (kvs more : List (Key × V)) : List (Key × V) := more.foldl (fun acc kv => putK acc kv.1 kv.2) kvs
theorem KV.merge : ∀ {more : List (Key × V)} {rs : List (Key × Value)} {kvs : List (Key × V)} {vs : List (Key × Value)}, KV more rs → KV kvs vs → KV (mergeK kvs more) (merged vs rs) := by
  intro more rs kvs vs r
  unfold KV at r
  induction r generalizing kvs vs with
  | nil => intro q; exact q
  | @cons p q ps qs h t ih =>
    intro r0
    have e : KV (putK kvs p.1 p.2) (stored vs q.1 q.2) := by
      have := r0.put p.1 h.2
      rw [← h.1]; exact this
    exact ih e
theorem zcw : ∀ (more kvs : List (Key × V)), (mergeK kvs more).length ≤ kvs.length + more.length
  | [], kvs => by show kvs.length ≤ kvs.length + 0; omega
  | p :: r, kvs => by
    have h1 := zcw r (putK kvs p.1 p.2)
    have h2 := zb0 kvs p.1 p.2
    show (mergeK (putK kvs p.1 p.2) r).length ≤ _
    rw [List.length_cons]; omega
theorem ze1 {P : Program} {w : World} : ∀ {kvs : List (Key × V)} {ws : List (Value × Value)}, VV (kvs.map fun kv => (kV kv.1, kv.2)) ws → ∃ rs, Carries (mixKind P w) ws rs ∧ KV kvs rs
  | [], _, r => by rw [List.map_nil] at r; cases r; exact ⟨[], True.intro, .nil⟩
  | p :: kvs, _, r => by
    rw [List.map_cons] at r
    cases r with
    | @cons a b as bs h t =>
      obtain ⟨rs, c, q⟩ := ze1 (P := P) (w := w) t
      obtain ⟨b1, b2⟩ := b
      exact ⟨(p.1, b2) :: rs, ⟨zlz h.1, rfl, c⟩, .cons ⟨rfl, h.2⟩ q⟩
def tDisp (trs : List (TE × TE)) : TE := fun σ H Q => ∀ p, H p = none → tPairs trs σ (upd H p (.dK [])) fun ps H2 => H2 p = some (.dK []) ∧ ∃ kvs : List (Key × V), ps = kvs.map (fun kv => (kV kv.1, kv.2)) ∧ kvs.length ≤ 15 ∧ Q (.ref p) (upd H2 p (.dK (mergeK [] kvs)))
theorem zqb {X : Cx} {pos : Pos} {keys : List (Option Expr)} {values : List Expr} {trs : List (TE × TE)} (h : PPs X pos keys values trs) (hall : keys.all (·.isSome) = true) (hl : keys.length = values.length) (h0 : keys ≠ [])
    (h15 : keys.length ≤ 15) : PE X (.Dict keys values pos) (tDisp trs) := by
  intro pins s σ H Q I q
  have hn := I.hok.fresh (Nat.le_refl s.heap.objs.size)
  have I1 := I.laid (a := s.heap.objs.size) (o := .dK []) (h' := s.heap.push { cls := .type "dict", data := .dict #[] }) (t' := s.toks) (fun _ _ q => Heap.get?_push_of_some _ q) (Nat.le_refl _) (zon s.heap I.big)
  refine wpAny_Dict_walk (knd := mixKind X.prog X.w) hall hl h0 h15 (thn (h pins _ σ _ _ I1 (q _ hn)) fun ws s2 ⟨ps, H2, I2, rel, e, kvs, ep, lk, q2⟩ => ?_)
  subst ep
  obtain ⟨rs, c, rk⟩ := ze1 (P := X.prog) (w := X.w) rel
  obtain ⟨z, hd, vs0, r0, dd⟩ := zsh I2.hok e
  cases r0
  refine ⟨rs, c, dd, fun h' dd' hs => ⟨.ref s.heap.objs.size, _, ?_, rfl, q2⟩⟩
  have hz : (mergeK [] kvs).length ≤ sizeLine := by
    have h1 := zcw kvs []
    rw [List.length_nil] at h1
    rw [sizeLine_eq]; omega
  have he : ∃ q, h'.get? s.heap.objs.size = some q := let ⟨q, _, _, hq, _⟩ := dd'; ⟨q, hq⟩
  exact zfn I2 (by rw [e]; exact True.intro) hs he (zpa hz hd (rk.merge .nil) dd')
def IsD (H : Hp) (a : Addr) : Prop := (∃ kvs, Rd H a (.dK kvs)) ∨ ∃ kvs, Rd H a (.dT kvs)
def tDGet2 (td ty tx : TE) : TE := fun σ H Q => td σ H fun x H1 => ∃ a, x = .ref a ∧ IsD H1 a ∧ ty σ H1 fun y H2 => tx σ H2 fun z H3 => ∃ o, DGet H3 a y o ∧ Q (o.getD z) H3
section
variable {κ : Type} [DecidableEq κ]
theorem zlq : ∀ {l : List κ} {k : κ}, l.Nodup → ¬ k ∈ l → (l ++ [k]).Nodup
  | [], k, _, _ => by simp
  | a :: r, k, h, hk => by
    obtain ⟨h1, h2⟩ := List.nodup_cons.mp h
    show (a :: (r ++ [k])).Nodup
    refine List.nodup_cons.mpr ⟨fun m => ?_, zlq h2 fun m => hk (List.mem_cons.mpr (Or.inr m))⟩
    rcases List.mem_append.mp m with q | q
    · exact h1 q
    · exact hk (List.mem_cons.mpr (Or.inl (List.mem_singleton.mp q).symm))
end
def notStar : Expr → Bool
  | .Starred _ _ => false
  | _ => true
theorem zbc {e : Expr} {es : List Expr} {env : Env} (h : notStar e = true) : starEach (e :: es) env = (false, eval e env) :: starEach es env := by
  cases e with
  | Starred v q => exact absurd (show false = true from h) Bool.false_ne_true
  | _ => rw [starEach.eq_def]
theorem zbs : ∀ {es : List Expr} {env : Env} {pos : Pos}, es.all notStar = true → (backTo pos (starEach es env)).any (·.1) = false
  | [], env, pos, _ => by rw [starEach.eq_def]; rfl
  | e :: r, env, pos, h => by
    rw [List.all_cons, Bool.and_eq_true] at h
    rw [zbc h.1]
    exact zbs h.2
section
variable {X : Cx} {x : Str} {p pos : Pos} {e : Expr} {es : List Expr} {te : TE} {t : TA} {T id : String} {r : List V → Hp → VK → Prop}
theorem pa_c (ha : PE X e te) (hr : PA X es t) (h : notStar e = true := by rfl) : PA X (e :: es) (tCons te t) := zqd ha hr (zbc h)
theorem za4 (hc : CallR X (.builtin id) r) (hg : Gl X x) (hm : X.mg x = none) (hv : bootBuiltins x = some (.builtin id)) (ha : PA X (e :: es) t) (hn : x ≠ "__name__" := by decide) (hdb : (x == ("__debug__" : Str)) = false := by decide)
    (h1 : notStar e = true := by rfl) (h2 : es.all notStar = true := by rfl) : PE X (.Call (.Name x p) (e :: es) [] pos) (tCB r t) := znp hc hg hm hv ha hn hdb (zbc h1) (zbs h2)
theorem zir (hc : CallR X (.type T) r) (hg : Gl X x) (hm : X.mg x = none) (hv : bootBuiltins x = some (.type T)) (ha : PA X (e :: es) t) (hn : x ≠ "__name__" := by decide) (hdb : (x == ("__debug__" : Str)) = false := by decide)
    (h1 : notStar e = true := by rfl) (h2 : es.all notStar = true := by rfl) : PE X (.Call (.Name x p) (e :: es) [] pos) (tCB r t) := zk9 hc hg hm hv ha hn hdb (zbc h1) (zbs h2)
end
structure Dfn (K : PySem.W.Frag) (mg : Str → Option Value) (x : Str) (st : Stmt) (ps : List Str) : Prop where
  ex : ∃ f fd, Fun K x x st f fd ∧ Binds K fd ps [] ∧ mg x = some (.ref f)
structure Cal (P : Program) (w : World) (K : PySem.W.Frag) (mg : Str → Option Value) (base : Heap) (n : Nat) (x : Str) (ps : List Str) (sp : Sp) : Prop where
  ex : ∃ f fd, FnOk P w K mg base CX0 n f fd ps sp ∧ Binds K fd ps [] ∧ PySem.W.keepIn K (.ref f) = true ∧ mg x = some (.ref f)
section
variable {P : Program} {w : World} {K : PySem.W.Frag} {mg : Str → Option Value} {base : Heap}
theorem Dfn.cal {x : Str} {st : Stmt} {N ps : List Str} {k : Nat} {sp : Sp} (d : Dfn K mg x st ps) (S : FnScope N ps (defScope st)) (len : ∀ vs H Q E, sp vs H Q E → vs.length = ps.length)
    (hbody : ∀ (f : Addr) (cdv : Value) (A : Around) (outer : List Env) (s : Shared) (H : Hp) (vs : List V) (Q : VK) (E : XK), Room k (A.deeper (envOfC x (defScope st) s.heap.objs.size f cdv)) → sp vs H Q E →
      ∃ t, PSs (cxOf CX0 P w K mg base N x (defScope st) f cdv A outer s H E).nox (defBody st) t ∧ t { nx := fun _ H' => Q .non H', rt := Q } (start N vs) H) : Cal P w K mg base (k + 1) x ps sp := by
  obtain ⟨f, fd, F, b, m⟩ := d.ex
  exact ⟨f, fd, F.ok S len (hbody f), b, F.kp, m⟩
theorem Cal.mono {j k : Nat} {x : Str} {ps : List Str} {sp : Sp} (c : Cal P w K mg base j x ps sp) (h : j ≤ k) : Cal P w K mg base k x ps sp := by
  obtain ⟨f, fd, F, r⟩ := c.ex
  exact ⟨f, fd, F.mono h, r⟩
theorem Dfn.never {x : Str} {st : Stmt} {ps : List Str} {sp : Sp} (d : Dfn K mg x st ps) (no : ∀ vs H Q E, ¬ sp vs H Q E) : Cal P w K mg base 0 x ps sp := by
  obtain ⟨f, fd, F, b, m⟩ := d.ex
  exact ⟨f, fd, ⟨fun vs H Q E h => absurd h (no vs H Q E), fun A outer s H args us vs Q E _ _ _ _ h => absurd h (no vs H Q E)⟩, b, F.kp, m⟩
end
section
variable {X : Cx} {n k : Nat} {x : Str} {ps : List Str} {sp : Sp} {p pos : Pos} {e : Expr} {es : List Expr} {t : TA}
theorem zag (C : Cal X.prog X.w X.K X.mg X.base n x ps sp) (hr : Room k X.A) (hle : n ≤ k) (hg : Gl X x) (ha : PA X (e :: es) t) (hdb : (x == ("__debug__" : Str)) = false := by decide)
    (h1 : notStar e = true := by rfl) (h2 : es.all notStar = true := by rfl) : PE X (.Call (.Name x p) (e :: es) [] pos) (tCall sp [] E0 t) := by
  obtain ⟨f, fd, F, b, kp, m⟩ := C.ex
  exact zla F (hr.mono hle) hg m kp b .nil pass0 ha hdb (zbc h1) (zbs h2)
def GlV (mg : Str → Option Value) (x : Str) (v : V) : Prop := ∃ u, mg x = some u ∧ RelV v u
theorem zba {v : V} (hg : Gl X x) (h : GlV X.mg x v) (hd : (x == ("__debug__" : Str)) = false := by decide) : PE X (.Name x pos) (tC v) := by
  obtain ⟨u, m, r⟩ := h
  exact zk6 hg m r hd
end
theorem CompOk.of {X : Cx} {scope : Scope} {cp : List (Nat × Str)} (kind : scope.kind = .function)
    (h1 : (scope.names.all fun y => y.2 != .cell && (y.2 != .local || scope.names.lookup y.1 == some .local) && (y.2 != .free || (X.env.scope.names.lookup y.1 == some .cell || X.env.scope.names.lookup y.1 == some .free))) = true)
    (h2 : (cp.all fun p => X.N[p.1]? == some p.2 && scope.names.lookup p.2 == some .free) = true) : CompOk X scope cp := by
  have g := List.all_eq_true.mp h1
  refine ⟨kind, fun y hy e => ?_, fun y hy e => ?_, fun y hy e => ?_, fun p hp => ?_⟩
  · have q := g y hy
    rw [Bool.and_eq_true, Bool.and_eq_true] at q
    rw [e] at q
    exact absurd q.1.1 (by decide)
  · have q := g y hy
    rw [Bool.and_eq_true, Bool.and_eq_true] at q
    have q := q.1.2
    rw [e] at q
    simpa using q
  · have q := g y hy
    rw [Bool.and_eq_true, Bool.and_eq_true] at q
    have q := q.2
    rw [e] at q
    have q : X.env.scope.names.lookup y.1 = some .cell ∨ X.env.scope.names.lookup y.1 = some .free := by simpa using q
    exact q
  · have q := List.all_eq_true.mp h2 p hp
    rw [Bool.and_eq_true] at q
    exact ⟨by simpa using q.1, by simpa using q.2⟩
inductive Kd (H : Hp) : V → String → Prop where
  | non : Kd H .non "NoneType"
  | bl (b : Bool) : Kd H (.bl b) "bool"
  | int (i : Int) : Kd H (.int i) "int"
  | str (z : Str) : Kd H (.str z) "str"
  | lst {a : Addr} {xs : List V} (e : H a = some (.lst xs)) : Kd H (.ref a) "list"
  | tup {a : Addr} {xs : List V} (e : H a = some (.tup xs)) : Kd H (.ref a) "tuple"
  | dK {a : Addr} {kvs : List (Key × V)} (e : H a = some (.dK kvs)) : Kd H (.ref a) "dict"
def kinds : List String := ["NoneType", "bool", "int", "str", "list", "tuple", "dict"]
def subT (k T : String) : Bool := k == T || (k == "bool" && T == "int")
theorem zr7 (K : PySem.W.Frag) : ∀ k ∈ kinds, ∀ T ∈ ["str", "list", "tuple", "bool", "int", "dict"], PySem.W.kitOne K (.type k) (.type T) = some (subT k T) := by
  intro k hk T hT
  simp only [kinds, List.mem_cons, List.not_mem_nil, or_false] at hk hT
  rcases hk with rfl | rfl | rfl | rfl | rfl | rfl | rfl <;> rcases hT with rfl | rfl | rfl | rfl | rfl | rfl <;> first | rfl | kernel_rfl
theorem Kd.ty {K : PySem.W.Frag} {H : Hp} {x : V} {k : String} (h : Kd H x k) : TyOf K H x (.type k) ∧ k ∈ kinds := by
  cases h with
  | non => exact ⟨.non, by decide⟩
  | bl b => exact ⟨.bl b, by decide⟩
  | int i => exact ⟨.int i, by decide⟩
  | str z => exact ⟨.str z, by decide⟩
  | lst e => exact ⟨.lst e, by decide⟩
  | tup e => exact ⟨.tup e, by decide⟩
  | dK e => exact ⟨.dK e, by decide⟩
theorem Kd.same {H H' : Hp} {x : V} {k : String} (h : Kd H x k) (g : Same H H') : Kd H' x k := by
  cases h with
  | non => exact .non
  | bl b => exact .bl b
  | int i => exact .int i
  | str z => exact .str z
  | lst e => exact .lst (g _ _ e)
  | tup e => exact .tup (g _ _ e)
  | dK e => exact .dK (g _ _ e)
theorem Kd.inj {H : Hp} {x : V} {k k' : String} (h : Kd H x k) (h' : Kd H x k') : k = k' := by
  cases h with
  | lst e => cases h' with | lst _ => rfl | tup e' => rw [e] at e'; cases e' | dK e' => rw [e] at e'; cases e'
  | tup e => cases h' with | lst e' => rw [e] at e'; cases e' | tup _ => rfl | dK e' => rw [e] at e'; cases e'
  | dK e => cases h' with | lst e' => rw [e] at e'; cases e' | tup e' => rw [e] at e'; cases e' | dK _ => rfl
  | non => cases h'; rfl
  | bl _ => cases h'; rfl
  | int _ => cases h'; rfl
  | str _ => cases h'; rfl
theorem zbq {X : Cx} : CallR X (.builtin "isinstance") (fun xs H Q => ∃ x T k, xs = [x, .ty T] ∧ Kd H x k ∧ T ∈ ["str", "list", "tuple", "bool", "int", "dict"] ∧ Q (.bl (subT k T)) H) := by
  intro pins s σ H xs us Q I r h
  obtain ⟨x, T, k, e, hk, hT, q⟩ := h
  obtain ⟨h1, h2⟩ := hk.ty (K := X.K)
  exact zh1 pins s σ H xs us Q I r ⟨x, T, .type k, _, e, h1, zr7 X.K k h2 T hT, q⟩
theorem za8 {H : Hp} {p : Addr} (h : H p = none) (o : HO) : Same H (upd H p o) := fun b u q => by rw [zan (zat q h)]; exact q
theorem Same.seqT {K : PySem.W.Frag} {H H' : Hp} {a : Addr} {xs : List V} (e : Same H H') (h : SqT K H a xs) : SqT K H' a xs := by
  rcases h with (h | ⟨o, h⟩) | h
  · exact .inl (.inl (e _ _ h))
  · exact .inl (.inr ⟨o, e _ _ h⟩)
  · exact .inr h
section
variable {H : Hp} {Q : VK} {v : V} {a : Option V} {r : St} {i : Nat}
theorem za3 {t : TS} {D : Ends} {σ : St} (σ' : St) (e : σ = σ') (h : t D σ' H) : t D σ H := by rw [e]; exact h
theorem zpw : tVar 0 (some v :: r) H Q = Q v H := by simp [tVar]
theorem zpv : tVar (i + 1) (a :: r) H Q = tVar i r H Q := rfl
theorem zfd {A B : Prop} : (if true = true then A else B) = A := if_pos rfl
theorem zfe {A B : Prop} : (if false = true then A else B) = B := if_neg Bool.false_ne_true
theorem zpx {a b : Str} : (scal (.str a) (.str b) = true) = True := by simp [scal]
theorem zpy {a : Str} {b : Int} : (scal (.str a) (.int b) = true) = True := by simp [scal]
theorem zpz {b : Str} {a : Int} : (scal (.int a) (.str b) = true) = True := by simp [scal]
theorem zp0 {a b : Int} : (scal (.int a) (.int b) = true) = True := by simp [scal]
theorem zp1 {a b : Bool} : (scal (.bl a) (.bl b) = true) = True := by simp [scal]
def cBody (tn : List Str) (cp : List (Nat × Str)) (g : TG) (tif : TT) (te : TE) (σ : St) (Q : VK) (J : It) (H1 : Hp) : Prop := ∀ D, H1 D = none → ∃ W : Nat → Nat → St → Hp → Prop,
  (∃ m, W 0 m (stB tn cp σ) (upd H1 D (.lst []))) ∧ ∀ i m σb Hb, W i m σb Hb →
    (J.stop i Hb ∧ Q (.ref D) Hb) ∨ (J.go i Hb ∧ ∀ x H', J.yld i Hb x H' → g x σb H' fun σ2 H2 => tif σ2 H2 fun c H3 =>
      if c = true then te σ2 H3 fun y H4 => ∃ ys, H4 D = some (.lst ys) ∧ ys.length < sizeLine ∧ ∃ m', m' < m ∧ W (i + 1) m' σ2 (upd H4 D (.lst (ys ++ [y])))
      else ∃ m', m' < m ∧ W (i + 1) m' σ2 H3)
theorem zhg {tn : List Str} {cp : List (Nat × Str)} {wi : TI} {g : TG} {tif : TT} {te : TE} {σ : St} : tComp tn cp wi g tif te σ H Q = wi σ H fun J H1 => cBody tn cp g tif te σ Q J H1 := rfl
def fBody (g : TG) (tb : TS) (D : Ends) (σ : St) (J : It) (H1 : Hp) : Prop := ∃ W : Nat → Nat → St → Hp → Prop, (∃ m, W 0 m σ H1) ∧ ∀ i m σ H, W i m σ H →
  (J.stop i H ∧ D.nx σ H) ∨ (J.go i H ∧ ∃ N : St → Hp → Prop, (∀ σ' H', N σ' H' → ∃ m', m' < m ∧ W (i + 1) m' σ' H') ∧ ∀ x H', J.yld i H x H' → g x σ H' fun σ2 H2 => tb { D with nx := N, ct := N, bk := D.nx } σ2 H2)
theorem zky {wi : TI} {g : TG} {tb : TS} {D : Ends} {σ : St} : tFor wi g tb D σ H = wi σ H fun J H1 => fBody g tb D σ J H1 := rfl
end
section
variable {tn : List Str} {cp : List (Nat × Str)} {g : TG} {tif : TT} {te : TE} {σ0 : St} {Q : VK} {H1 : Hp}
theorem zot {J : It} (n : Nat) (Pv : Addr → Nat → List V → St → Hp → Prop) (hn : n ≤ sizeLine) (h0 : ∀ D, H1 D = none → Pv D 0 [] (stB tn cp σ0) (upd H1 D (.lst [])))
    (hgo : ∀ D i ys σ H, H1 D = none → i < n → H D = some (.lst ys) → Pv D i ys σ H → J.go i H) (hstop : ∀ D ys σ H, H1 D = none → H D = some (.lst ys) → Pv D n ys σ H → J.stop n H)
    (hs : ∀ D i ys σ H x H', H1 D = none → i < n → H D = some (.lst ys) → ys.length ≤ i → Pv D i ys σ H → J.yld i H x H' → g x σ H' fun σ2 H2 => tif σ2 H2 fun c H3 =>
      if c = true then te σ2 H3 fun y H4 => CStep D n i (Pv D) σ2 y H4 else CSkip D n i (Pv D) σ2 H3)
    (hd : ∀ D ys σ H, H1 D = none → H D = some (.lst ys) → ys.length ≤ n → Pv D n ys σ H → Q (.ref D) H) : cBody tn cp g tif te σ0 Q J H1 := fun D hD =>
  zhv (Pv D) hn (h0 D hD) (fun i ys σ H => hgo D i ys σ H hD) (fun ys σ H => hstop D ys σ H hD) (fun i ys σ H hi hH hl p x H' y => hs D i ys σ H x H' hD hi hH hl p y) (fun ys σ H => hd D ys σ H hD)
theorem zsk {z : Str} (Pv : Addr → Nat → List V → St → Hp → Prop) (hn : z.cps.size ≤ sizeLine) (h0 : ∀ D, H1 D = none → Pv D 0 [] (stB tn cp σ0) (upd H1 D (.lst [])))
    (hs : ∀ D i ys σ H c, H1 D = none → i < z.cps.size → z.cps[i]? = some c → H D = some (.lst ys) → ys.length ≤ i → Pv D i ys σ H → g (.str ⟨#[c]⟩) σ H fun σ2 H2 => tif σ2 H2 fun c H3 =>
      if c = true then te σ2 H3 fun y H4 => CStep D z.cps.size i (Pv D) σ2 y H4 else CSkip D z.cps.size i (Pv D) σ2 H3)
    (hd : ∀ D ys σ H, H1 D = none → H D = some (.lst ys) → ys.length ≤ z.cps.size → Pv D z.cps.size ys σ H → Q (.ref D) H) : cBody tn cp g tif te σ0 Q (Its z) H1 := fun D hD =>
  zos (Pv D) hn (h0 D hD) (fun i ys σ H c => hs D i ys σ H c hD) (fun ys σ H => hd D ys σ H hD)
theorem zfp {K : PySem.W.Frag} {a : Addr} {xs : List V} (Pv : Addr → Nat → List V → St → Hp → Prop) (hn : xs.length ≤ sizeLine) (h0 : ∀ D, H1 D = none → Pv D 0 [] (stB tn cp σ0) (upd H1 D (.lst [])))
    (hl : ∀ D i ys σ H, H1 D = none → i ≤ xs.length → H D = some (.lst ys) → Pv D i ys σ H → SqL K H a xs)
    (hs : ∀ D i ys σ H x, H1 D = none → i < xs.length → xs[i]? = some x → H D = some (.lst ys) → ys.length ≤ i → Pv D i ys σ H → g x σ H fun σ2 H2 => tif σ2 H2 fun c H3 =>
      if c = true then te σ2 H3 fun y H4 => CStep D xs.length i (Pv D) σ2 y H4 else CSkip D xs.length i (Pv D) σ2 H3)
    (hd : ∀ D ys σ H, H1 D = none → H D = some (.lst ys) → ys.length ≤ xs.length → Pv D xs.length ys σ H → Q (.ref D) H) : cBody tn cp g tif te σ0 Q (Itl K a) H1 := fun D hD =>
  zml (Pv D) hn (h0 D hD) (fun i ys σ H => hl D i ys σ H hD) (fun i ys σ H x => hs D i ys σ H x hD) (fun ys σ H => hd D ys σ H hD)
theorem zpd {K : PySem.W.Frag} {a : Addr} {xs : List V} (Pv : Addr → Nat → List V → St → Hp → Prop) (hn : xs.length ≤ sizeLine) (h0 : ∀ D, H1 D = none → Pv D 0 [] (stB tn cp σ0) (upd H1 D (.lst [])))
    (hl : ∀ D i ys σ H, H1 D = none → i ≤ xs.length → H D = some (.lst ys) → Pv D i ys σ H → SqT K H a xs)
    (hs : ∀ D i ys σ H x, H1 D = none → i < xs.length → xs[i]? = some x → H D = some (.lst ys) → ys.length ≤ i → Pv D i ys σ H → g x σ H fun σ2 H2 => tif σ2 H2 fun c H3 =>
      if c = true then te σ2 H3 fun y H4 => CStep D xs.length i (Pv D) σ2 y H4 else CSkip D xs.length i (Pv D) σ2 H3)
    (hd : ∀ D ys σ H, H1 D = none → H D = some (.lst ys) → ys.length ≤ xs.length → Pv D xs.length ys σ H → Q (.ref D) H) : cBody tn cp g tif te σ0 Q (Itt K a) H1 :=
  zot xs.length Pv hn h0 (fun D i ys σ H hD hi hH p => ⟨xs, xs[i], hl D i ys σ H hD (Nat.le_of_lt hi) hH p, by simp [hi]⟩) (fun D ys σ H hD hH p => ⟨xs, hl D _ ys σ H hD (Nat.le_refl _) hH p, Nat.le_refl _⟩) (fun D i ys σ H x H' hD hi hH hl' p y => by
    obtain ⟨e, y⟩ := y
    subst e
    exact hs D i ys σ _ x hD hi (y xs (hl D i ys σ _ hD (Nat.le_of_lt hi) hH p)) hH hl' p) hd
variable {tb : TS} {D : Ends}
theorem zqw {K : PySem.W.Frag} {a : Addr} {xs : List V} (Pv : Nat → St → Hp → Prop) (h0 : Pv 0 σ0 H1) (hl : ∀ i σ H, i ≤ xs.length → Pv i σ H → SqL K H a xs)
    (hs : ∀ i x σ H, xs[i]? = some x → Pv i σ H → g x σ H fun σ2 H2 => tb { D with nx := Pv (i + 1), ct := Pv (i + 1), bk := D.nx } σ2 H2) (hd : ∀ σ H, Pv xs.length σ H → D.nx σ H) : fBody g tb D σ0 (Itl K a) H1 := zoh Pv h0 hl hs hd
end
theorem zio {α : Type} (xs : List α) : ∀ (i k : Nat), ((List.range k).map fun m => i + m).filterMap (fun j => xs[j]?) = (xs.drop i).take k
  | i, 0 => by simp
  | i, k + 1 => by
    have ih := zio xs (i + 1) k
    rw [List.range_succ_eq_map, List.map_cons, List.map_map, List.filterMap_cons]
    have e : ((fun m => i + m) ∘ Nat.succ) = fun m => i + 1 + m := by funext m; simp [Function.comp]; omega
    rw [e]
    by_cases h : i < xs.length
    · rw [show i + 0 = i from rfl, List.getElem?_eq_getElem h, ih, List.drop_eq_getElem_cons h, List.take_succ_cons]
    · rw [show i + 0 = i from rfl, List.getElem?_eq_none (by omega), ih, List.drop_eq_nil_of_le (by omega), List.drop_eq_nil_of_le (by omega)]
      simp
def cutL {α : Type} (xs : List α) (lo hi : Option Int) : List α := (xs.drop (HT.sIx xs.length 0 lo)).take (HT.sIx xs.length xs.length hi - HT.sIx xs.length 0 lo)
theorem zsd {a b : Nat} {A B : Int} (hA : A = a) (hB : B = b) : PySem.sliceRange A B 1 = (List.range (b - a)).map fun m => a + m := by
  subst hA hB
  unfold PySem.sliceRange
  simp only [show (1 : Int) > 0 by decide, if_true]
  have e3 : (if (a : Int) < (b : Int) then ((b : Int) - (a : Int) + 1 - 1) / 1 else 0).toNat = b - a := by
    split <;> omega
  rw [e3]
  refine List.map_congr_left fun m _ => ?_
  omega
theorem zko (lo hi : Option Int) (n : Nat) : Builtin.Str.strSliceIndices lo hi 1 n = (List.range (HT.sIx n n hi - HT.sIx n 0 lo)).map fun m => HT.sIx n 0 lo + m := by
  unfold Builtin.Str.strSliceIndices
  refine zsd ?_ ?_
  · cases lo with
    | none => rfl
    | some v =>
      rw [← HT.clip_eq v n 0]
      simp only [show (1 : Int) > 0 by decide, if_true]
      split <;> omega
  · cases hi with
    | none => rfl
    | some v =>
      rw [← HT.clip_eq v n n]
      simp only [show (1 : Int) > 0 by decide, if_true]
      split <;> omega
theorem zkp (z : Str) (lo hi : Option Int) : (Txt.slice z lo hi).cps.toList = cutL z.cps.toList lo hi := by
  have hl : z.cps.toList.length = z.length := by simp [Str.length]
  unfold Txt.slice cutL
  rw [hl, zko]
  have p := zio z.cps.toList (HT.sIx z.length 0 lo) (HT.sIx z.length z.length hi - HT.sIx z.length 0 lo)
  have e : (fun (j : Nat) => z.cps.toList[j]?) = fun (j : Nat) => z.cps[j]? := by funext j; simp
  rw [e] at p
  split
  · rename_i h
    simp only [List.length_map, List.length_range, beq_self_eq_true, Bool.true_and, beq_iff_eq] at h
    have h1 := HT.sIx_le z.length z.length (Nat.le_refl _) hi
    have h3 := HT.sIx_le z.length 0 (Nat.zero_le _) lo
    have h0 : HT.sIx z.length 0 lo = 0 := by omega
    have h2 : HT.sIx z.length z.length hi - HT.sIx z.length 0 lo = z.length := h
    rw [h2, h0, List.drop_zero, List.take_of_length_le (by rw [hl]; exact Nat.le_refl _)]
  · rw [← p]
theorem zd9 {α : Type} (xs : List α) (k : Nat) : cutL xs (some (k : Int)) none = xs.drop k := by
  unfold cutL
  rw [HT.sIx_nat, HT.sIx_none, List.take_of_length_le (by rw [List.length_drop]; exact Nat.le_refl _)]
  by_cases h : k ≤ xs.length
  · rw [Nat.min_eq_left h]
  · rw [Nat.min_eq_right (by omega), List.drop_eq_nil_of_le (Nat.le_refl _), List.drop_eq_nil_of_le (by omega)]
theorem zkc (z : Str) : z.length = z.cps.toList.length := by simp [Str.length]
theorem zaz {α : Type} {c : α} {r : List α} : atI (c :: r) 0 = some c := zal (j := 0) rfl
theorem RcOk.up {X : Cx} {j k : Nat} {H : Hp} {x y : V} {b : Bool} (h : RcOk X j H x y b) (hjk : j ≤ k) : RcOk X k H x y b := fun pins σ s A u v hu => h pins σ s A u v (by omega)
theorem zaa {n : Nat} (h : n ≤ 1000) : n ≤ sizeLine := Nat.le_of_lt (small1000 h)
theorem zmt {α : Type} {xs : List α} {i : Int} {n : Nat} (hn : xs.length = n) (h0 : 0 < n) : ∃ v, atI xs (i % (n : Int)) = some v ∧ v ∈ xs := by
  have h1 : 0 ≤ i % (n : Int) := Int.emod_nonneg _ (by omega)
  have h2 : i % (n : Int) < n := Int.emod_lt_of_pos _ (by omega)
  have h3 : (i % (n : Int)).toNat < xs.length := by omega
  refine ⟨xs[(i % (n : Int)).toNat], ?_, List.getElem_mem h3⟩
  have e : i % (n : Int) = (((i % (n : Int)).toNat : Nat) : Int) := by omega
  have q : atI xs (((i % (n : Int)).toNat : Nat) : Int) = some xs[(i % (n : Int)).toNat] := zal (by simp)
  rw [← e] at q
  exact q
theorem zjs {A : Around} {k : Nat} (hr : Room k A) (j : Nat) (h : j ≤ 64) : A.units + j < cLine := by have := hr.units; omega
section
variable {K : PySem.W.Frag} {h : Heap} {mg : Str → Option Value}
theorem dfn_mk {x : Str} {st : Stmt} {ps : List Str} {f : Addr} {oc : Value} {od an : Option Addr} {osl : Array (Option Value)} {kV doc pm cdv ct : Value} (X : K.In h) (G : h.Ns mainGlobals mg)
    (a : PySem.W.nsIn K mainGlobals x = some (some (.ref f))) (l : K.lookup f = some ⟨oc, od, .func (PySem.W.fnOf x x (defArgs st) (defBody st) (defScope st) .none kV doc pm an cdv ct), osl⟩)
    (c : PySem.W.codeIn K cdv x = true) (k : PySem.W.keepIn K (.ref f) = true)
    (hb : ∀ (kV doc pm : Value) (an : Option Addr) (cdv ct : Value) (us : List Value), us.length = ps.length → bindArgs (PySem.W.fnOf x x (defArgs st) (defBody st) (defScope st) .none kV doc pm an cdv ct) ⟨us, []⟩ = pure (ps.zip us)) : Dfn K mg x st ps :=
  ⟨f, _, zd6 l c k, (zd6 l c k).binds hb, PySem.W.mg_of X G a⟩
theorem law_mk {x y : Str} {st : Stmt} {f fa : Addr} {oc : Value} {od an : Option Addr} {osl : Array (Option Value)} {kV doc pm cdv ct : Value} (X : K.In h) (G : h.Ns mainGlobals mg) (hfa : mg x = some (.ref fa))
    (a : PySem.W.nsIn K mainGlobals x = some (some (.ref f))) (l : K.lookup f = some ⟨oc, od, .func (PySem.W.fnOf x x (defArgs st) (defBody st) (defScope st) .none kV doc pm an cdv ct), osl⟩)
    (c : PySem.W.codeIn K cdv x = true) (k : PySem.W.keepIn K (.ref f) = true) (hb : ∀ (s : Shared) (v : Value), BindsTo s (PySem.W.fnOf x x (defArgs st) (defBody st) (defScope st) .none kV doc pm an cdv ct) ⟨[v], []⟩ [(y, v)]) :
    ∃ fd : FuncData, (∀ (s : Shared) (v : Value), BindsTo s fd ⟨[v], []⟩ [(y, v)]) ∧ Fun K x x st fa fd := by
  have e := hfa.symm.trans (PySem.W.mg_of X G a)
  cases e
  exact ⟨_, hb, zd6 l c k⟩
theorem glv_mk {x : Str} {u : Value} {v : V} (X : K.In h) (G : h.Ns mainGlobals mg) (a : PySem.W.nsIn K mainGlobals x = some (some u)) (r : RelV v u) : GlV mg x v := ⟨u, PySem.W.mg_of X G a, r⟩
end
section
variable {CX : CXT} {P : Program} {w : World} {K : PySem.W.Frag} {mg : Str → Option Value} {base : Heap} {N : List Str} {x : Str} {sc : Scope} {f : Addr} {cdv : Value} {A : Around} {outer : List Env} {s : Shared} {H : Hp} {E : XK}
theorem cxK : (cxOf CX P w K mg base N x sc f cdv A outer s H E).K = K := rfl
theorem cxP : (cxOf CX P w K mg base N x sc f cdv A outer s H E).prog = P := rfl
theorem cxW : (cxOf CX P w K mg base N x sc f cdv A outer s H E).w = w := rfl
end
section
variable {X : Cx} {st : Stmt} {rest : List Stmt} {t u : TS} {e : Expr} {te : TE}
def tCut (t u : TS) : TS := fun D σ H => ∃ Pv : St → Hp → Prop, t { D with nx := Pv } σ H ∧ ∀ σ' H', Pv σ' H' → u D σ' H'
theorem zds (h1 : PS X st t) (h2 : PSs X rest u) : PSs X (st :: rest) (tCut t u) := by
  intro pins s σ H D I h
  obtain ⟨Pv, q1, q2⟩ := h
  refine wpAny_execs_cons (thn (h1 pins s σ H { D with nx := Pv } I q1) fun f s1 q => ?_)
  cases f with
  | next =>
    obtain ⟨σ', H', I', q⟩ := q
    exact h2 pins s1 σ' H' D I' (q2 σ' H' q)
  | ret v => exact q
  | brk => exact q
  | cont => exact q
end
local instance (priority := 10000) : BEq Key := instBEqOfDecidableEq
local instance (priority := 10000) : LawfulBEq Key := inferInstanceAs (LawfulBEq (Sum Int Str))
def onceK : List Key → List Key → List Key
  | acc, [] => acc
  | acc, k :: r => onceK (if k ∈ acc then acc else acc ++ [k]) r
theorem zev : ∀ (ks acc : List Key) (k : Key), onceK acc (ks ++ [k]) = if k ∈ onceK acc ks then onceK acc ks else onceK acc ks ++ [k]
  | [], acc, k => rfl
  | j :: r, acc, k => zev r _ k
theorem zcu : ∀ (ks acc : List Key), (onceK acc ks).length ≤ acc.length + ks.length
  | [], acc => Nat.le_refl _
  | k :: r, acc => by
    have h := zcu r (if k ∈ acc then acc else acc ++ [k])
    show (onceK (if k ∈ acc then acc else acc ++ [k]) r).length ≤ acc.length + (r.length + 1)
    split at h <;> rename_i c
    · rw [if_pos c]; omega
    · rw [if_neg c]
      rw [List.length_append, List.length_singleton] at h
      omega
theorem zdw : ∀ (ks acc : List Key), acc.Nodup → ((onceK acc ks).length = acc.length + ks.length ↔ (acc ++ ks).Nodup)
  | [], acc, h => by simp [onceK, h]
  | k :: r, acc, h => by
    show (onceK (if k ∈ acc then acc else acc ++ [k]) r).length = acc.length + (r.length + 1) ↔ _
    by_cases c : k ∈ acc
    · rw [if_pos c]
      have l := zcu r acc
      constructor
      · intro e; omega
      · intro e
        have := (List.nodup_append.mp e).2.2 k c k (List.mem_cons_self)
        exact absurd rfl this
    · rw [if_neg c]
      have h' : (acc ++ [k]).Nodup := zlq h c
      have ih := zdw r (acc ++ [k]) h'
      rw [List.length_append, List.length_singleton, List.append_assoc] at ih
      rw [show acc.length + (r.length + 1) = acc.length + 1 + r.length by omega]
      exact ih
theorem zle (ks : List Key) : (onceK [] ks).length = ks.length ↔ ks.Nodup := by
  have h := zdw ks [] List.nodup_nil
  simpa using h
section
variable {P : Program} {w : World} {A : Around} {R : Result → Shared → Prop} {it : Addr} {fp wr : List Addr} {G : Array GenState → Array GenState → Prop} {n : Nat} {Pv : Nat → Value → Prop} {St : Nat → Shared → Prop}
def SetIs (P : Program) (w : World) (h : Heap) (a : Addr) (ks : List Key) : Prop := h.SetOf (mixKind P w) a (fun k => decide (k ∈ onceK [] ks)) (onceK [] ks).length
theorem SetIs.kept {h h' : Heap} {a : Addr} {ks : List Key} (x : SetIs P w h a ks) (k : ∀ o, h.get? a = some o → h'.get? a = some o) : SetIs P w h' a ks := by
  obtain ⟨o, es, ep, t, ho, rest⟩ := x
  exact ⟨o, es, ep, t, k o ho, rest⟩
theorem zps {k : Key} {v : Value} (h : (mixKind P w).is k v = true) : v.scannable = true := by
  rcases zav h with ⟨i, t, rfl, rfl⟩ | ⟨x, t, rfl, rfl⟩ | ⟨c, rfl, rfl⟩ <;> rfl
theorem zks (W : WalksS P w A.in1 it fp wr G n Pv St) (a : Addr) (ha : a ∉ fp) (ks : List Key) (hn : ks.length = n) (hv : ∀ i v, Pv i v → ∀ k, ks[i]? = some k → (mixKind P w).is k v = true) (hb : n + 1 < scanBound) :
    ∀ (m i : Nat) (s : Shared), n - i = m → i ≤ n → St i s → SetIs P w s.heap a (ks.take i) → (∀ s', Moved (a :: wr) G s s' → SetIs P w s'.heap a ks → R (.ok (.ret .none)) s') →
      codeAny (model P w) A (.builtin "set.update.loop" ⟨[.ref a, .ref it], []⟩) R s := by
  have haw : a ∉ wr := fun h => ha (W.sub _ h)
  have up : ∀ b ∈ wr, b ∈ a :: wr := fun b h => List.mem_cons_of_mem _ h
  intro m
  induction m with
  | zero =>
    intro i s hm hi st x q
    obtain rfl : i = n := by omega
    rw [List.take_of_length_le (Nat.le_of_eq hn)] at x
    refine codeAny_builtin F.entry_set_update_loop ?_
    rw [Around.under_plainId F.plain_set_update_loop _]
    refine wpAny_bind (W.done s _ _ st fun s' mv => wpAny_pure (q s' (mv.mono up) (x.kept fun o e => mv.heap a _ haw e)))
  | succ m ih =>
    intro i s hm hi st x q
    have lt : i < n := by omega
    have hk : ks[i]? = some ks[i] := by simp [hn, lt]
    refine codeAny_builtin F.entry_set_update_loop ?_
    rw [Around.under_plainId F.plain_set_update_loop _]
    refine wpAny_bind (W.item i s _ _ lt st fun v s' pv st' mv => ?_)
    have is := hv i v pv _ hk
    have x' := x.kept (h' := s'.heap) fun o e => mv.heap a _ haw e
    refine wpAny_bind (m := holding [v] (setAdd a v)) (wpAny_holding ?_)
    unfold setAdd
    refine wpAny_holding (wpAny_bind ((mixKind P w).pyHash (k := ks[i]) is ?_))
    have room := zcu (ks.take i) []
    rw [List.length_take, List.length_nil] at room
    refine wpAny_setAddHashed_of (knd := mixKind P w) (s := { s' with toks := s'.toks + 1 }) is (zps is) x' (by omega) fun h' sb x2 => ?_
    have x3 : SetIs P w h' a (ks.take (i + 1)) := by
      unfold SetIs
      rw [List.take_add_one, hk, Option.toList_some, zev]
      refine SetOf_congr x2 (fun k' => ?_) ?_
      · by_cases c : ks[i] ∈ onceK [] (ks.take i)
        · rw [if_pos c]
          by_cases e : k' = ks[i]
          · subst e; simp [c]
          · simp [e]
        · rw [if_neg c]
          simp [List.mem_append]
      · by_cases c : ks[i] ∈ onceK [] (ks.take i)
        · rw [if_pos c]; simp [c]
        · rw [if_neg c]; simp [c]
    refine wpAny_pure ⟨plainId_quiet F.plain_set_update_loop _, ih (i + 1) _ (by omega) lt (W.frame _ s' _ _ st' (Nat.le_succ _) fun b hb o e => ?_) x3 fun s2 mv2 x4 => ?_⟩
    · rw [sb.2 b (fun h => ha (h ▸ hb))]; exact e
    · refine q s2 (Moved.trans W.gtrans ((mv.mono up).then_heap (Nat.le_succ _) fun b o hb e => ?_) mv2) x4
      rw [sb.2 b (fun h => hb (h ▸ List.mem_cons_self))]; exact e
end
section
variable {P : Program} {w : World} {A : Around} {E : Value → Shared → Prop} {s : Shared}
set_option maxHeartbeats 3200000 in
theorem zg9 {l : Addr} {its : Array Value} {ks : List Key} {Q : Value → Shared → Prop} (hh : A.handled = none) (hl : s.heap.IsList l its) (hk : ks.length = its.size) (hi : ∀ (i : Nat) v k, its[i]? = some v → ks[i]? = some k → (mixKind P w).is k v = true)
    (hb : its.size + 1 < scanBound)
    (h : ∀ (h' : Heap) (tk : Nat), SetIs P w h' s.heap.objs.size ks → (∀ b o, b < s.heap.objs.size → s.heap.get? b = some o → h'.get? b = some o) → Q (.ref s.heap.objs.size) { s with heap := h', toks := tk }) :
    wpAny (model P w) A (call (.type "set") [.ref l]) Q E s := by
  obtain ⟨c, tl, hmro⟩ := F.called_set.mro
  have made := F.called_set.made
  have sub := F.called_set.sub
  refine wpAny_call (codeAny_of_tree (wpAny_pure ⟨Code.quiet_builtin _ (by decide +kernel), codeAny_builtin F.entry_type_call ?_⟩))
  rw [Around.under_plain (weight_type_call_type "set" [.ref l] []) rfl]
  have a1 := F.called_set.notType
  have a2 := F.called_set.canCreate
  have a3 := F.typeCall_set_1 (.ref l)
  repeat (any_goals (first | assumption | wp_step))
  refine codeAny_mono (code_set_new_1 (.ref l) (E := E) (Q₁ := fun obj s1 => ∃ led : Bool, obj = .ref s.heap.objs.size ∧ s1 = { s with heap := s.heap.push { cls := .type "set", dict := none, data := .set #[] 0 (.fresh 0 0 led) } }) fun led => ⟨led, rfl, rfl⟩) fun r s1 hr => ?_
  cases r with
  | error e => exact hr
  | ok fl =>
    cases fl with
    | ret obj =>
      obtain ⟨led, rfl, rfl⟩ := hr
      have at0 : (s.heap.push { cls := .type "set", dict := none, data := .set #[] 0 (.fresh 0 0 led) }).get? s.heap.objs.size = some { cls := .type "set", dict := none, data := .set #[] 0 (.fresh 0 0 led) } := Heap.get?_push_size _ rfl
      have ty : Shared.TypeIs { s with heap := s.heap.push { cls := .type "set", dict := none, data := .set #[] 0 (.fresh 0 0 led) } } (.ref s.heap.objs.size) "set" := ⟨_, at0, rfl⟩
      have i1 := F.called_set.init.lookup
      have i2 := F.called_set.init.bind (.ref s.heap.objs.size)
      repeat (any_goals (first | assumption | wp_step))
      refine codeAny_mono (codeAny_call_builtin (R := wants (fun r s2 => r = .none ∧ ∃ h' tk, s2 = { s with heap := h', toks := tk } ∧ SetIs P w h' s.heap.objs.size ks ∧
          (∀ b o, b < s.heap.objs.size → s.heap.get? b = some o → h'.get? b = some o)) E) F.called_set.init.plain F.entry_set_init (check_set_init_1 ty ?_)) fun r2 s2 hr2 => ?_
      · obtain ⟨ol, ho, hc, nl, hd⟩ := hl
        obtain ⟨oc, od, oda, osl⟩ := ol
        simp only at hc hd
        subst hc; subst hd
        have ho' : (s.heap.push { cls := .type "set", dict := none, data := .set #[] 0 (.fresh 0 0 led) }).get? l = some { cls := .type "list", dict := od, data := .seq its nl, slots := osl } := Heap.get?_push_of_some _ ho
        have b1 := F.sub_list_set
        have b2 := F.sub_list_frozenset
        have b3 : (Value.type "list" == Value.type "dict") = false := by decide
        have hl1 : (s.heap.push { cls := .type "set", dict := none, data := .set #[] 0 (.fresh 0 0 led) }).IsList l its := ⟨_, ho', rfl, nl, rfl⟩
        unfold Builtin.«set.__init__» noKeywords Builtin.Frozenset.updateFrom
        generalize hPI : pyIter = PI
        wp_walk
        subst hPI
        refine wpAny_pyIter_list hl1 ?_
        refine wpAny_bind (wpAny_runValue ?_)
        have ll : l < s.heap.objs.size := Heap.lt_size ho
        have h3 : A.in1.in1.in1.handled = none := by simp [hh]
        have ne : l ≠ (s.heap.push { cls := .type "set", dict := none, data := .set #[] 0 (.fresh 0 0 led) }).objs.size := by rw [Heap.size_push]; exact Nat.ne_of_lt (Nat.lt_succ_of_lt ll)
        have nf : s.heap.objs.size ∉ [(s.heap.push { cls := .type "set", dict := none, data := .set #[] 0 (.fresh 0 0 led) }).objs.size, l] := by
          rw [Heap.size_push]
          intro z
          rcases List.mem_cons.mp z with z | z
          · exact absurd z (Nat.ne_of_lt (Nat.lt_succ_self _))
          · exact absurd (List.mem_singleton.mp z) (Nat.ne_of_gt ll)
        refine zks ((Walks.list h3 _ l ne its).toS) s.heap.objs.size nf ks hk (fun i v pv k e => hi i v k pv e) hb (its.size - 0) 0 _ (by omega) (Nat.zero_le _) ⟨⟨_, Heap.get?_push_size _ rfl, rfl, rfl⟩, (hl1.push _)⟩ ?x0 ?q0
        case x0 =>
          refine SetIs.kept (h := s.heap.push { cls := .type "set", dict := none, data := .set #[] 0 (.fresh 0 0 led) }) ?_ fun o e => Heap.get?_push_of_some _ e
          rw [List.take_zero]
          exact SetOf_congr ((setObjOf_fresh (knd := mixKind P w) led).setOf at0 (by unfold scanBound; omega)) (fun _ => rfl) rfl
        case q0 =>
          intro s' mv x'
          obtain ⟨h', g', d', tk', os'⟩ := s'
          have eg : g' = s.gens := mv.gens
          have ed : d' = s.drawn := mv.drawn
          have eo : os' = s.os := mv.os
          subst eg; subst ed; subst eo
          refine wpAny_pure (wpAny_pure ⟨rfl, h', tk', rfl, x', fun b o hb e => mv.heap b o ?_ (Heap.get?_push_of_some _ (Heap.get?_push_of_some _ e))⟩)
          rw [Heap.size_push]
          intro z
          rcases List.mem_cons.mp z with z | z
          · exact absurd z (Nat.ne_of_lt hb)
          · exact absurd (List.mem_singleton.mp z) (Nat.ne_of_lt (Nat.lt_succ_of_lt hb))
      · cases r2 with
        | error e => exact hr2
        | ok f2 =>
          cases f2 with
          | ret r =>
            obtain ⟨rfl, h', tk, rfl, x', k'⟩ := hr2
            repeat (any_goals (first | assumption | wp_step))
            exact h _ _ x' k'
          | _ => exact hr2.elim
    | _ => exact hr.elim
end
def setK (P : Program) (w : World) (a : Addr) (ks : List Key) : HO := .ext fun h => SetIs P w h a ks
theorem zh0 {X : Cx} (hc : X.calm = true) : CallR X (.type "set") (fun xs H Q => ∃ (p : Addr) (ks : List Key), xs = [.ref p] ∧ SqL X.K H p (ks.map kV) ∧ ks.length ≤ 1000 ∧ ∀ a, H a = none → Q (.ref a) (upd H a (setK X.prog X.w a ks))) := by
  intro pins s σ H xs us Q I r h
  obtain ⟨p, ks, rfl, hx, hz, q⟩ := h
  obtain ⟨u, rfl, rx⟩ := vals1 r
  cases (show u = Value.ref p from rx)
  obtain ⟨vs, rv, pl, _⟩ := I.list hx
  have lv := rv.length
  rw [List.length_map] at lv
  refine zg9 (ks := ks) (I.ok.hd hc) pl.isList (by rw [List.size_toArray]; exact lv) (fun i v k e1 e2 => ?_) (by rw [List.size_toArray]; unfold scanBound; omega) fun h' tk x k => ?_
  · have e1' : vs[i]? = some v := by simpa using e1
    obtain ⟨u, e, q⟩ := rv.get (i := i) (x := kV k) (by rw [List.getElem?_map, e2]; rfl)
    rw [e1'] at e
    cases e
    exact zlz q
  · refine ⟨.ref s.heap.objs.size, _, I.laid (t' := tk) (fun b u e => k b u (Heap.lt_size e) e) (Nat.le_refl _) ?_, rfl, q _ I.fresh⟩
    obtain ⟨o, es, ep, t, ho, rest⟩ := id x
    exact ⟨x, ⟨o, ho⟩, fun h1 h2 x1 k1 => x1.kept k1⟩
theorem zfs {X : Cx} : CallR X (.builtin "len") (fun xs H Q => ∃ (p : Addr) (ks : List Key), xs = [.ref p] ∧ H p = some (setK X.prog X.w p ks) ∧ ks.length ≤ 1000 ∧ Q (.int ((onceK [] ks).length : Int)) H) := by
  intro pins s σ H xs us Q I r h
  obtain ⟨p, ks, rfl, hx, hz, q⟩ := h
  obtain ⟨u, rfl, rx⟩ := vals1 r
  cases (show u = Value.ref p from rx)
  obtain ⟨x, _⟩ := I.hok p _ hx
  obtain ⟨o, es, ep, t, ho, hex, hd, _, _, _, hf, hn⟩ := x
  have room := zcu ks []
  rw [List.length_nil] at room
  refine call_len_set ho hex hd hf (by rw [hn]; omega) ?_
  rw [hn]
  exact ⟨.int _, H, I.tok _, ⟨_, rfl⟩, q⟩
structure New (H : Hp) (p : Addr) (o : HO) (H' : Hp) : Prop where
  nil : H p = none
  g : Same H H'
  at' : H' p = some o
  eq : H' = upd H p o
theorem New.mk' {H : Hp} {p : Addr} (h : H p = none) (o : HO) : New H p o (upd H p o) := ⟨h, za8 h o, zau, rfl⟩
theorem New.lst {K : PySem.W.Frag} {H H' : Hp} {p : Addr} {xs : List V} (n : New H p (.lst xs) H') : SqL K H' p xs := .of n.at'
theorem Same.wr {H H' : Hp} {p : Addr} (g : Same H H') (h : H p = none) (o : HO) : Same H (upd H' p o) := fun b u e => by rw [zan (zat e h)]; exact g b u e
section
variable {X : Cx} {e : Expr} {es : List Expr} {t : TA} {pos : Pos}
def tTupN (t : TA) : TE := fun σ H Q => t σ H fun xs H1 => xs.length ≤ sizeLine ∧ ∀ p H', New H1 p (.tup xs) H' → Q (.ref p) H'
def tLstN (t : TA) : TE := fun σ H Q => t σ H fun xs H1 => xs.length ≤ sizeLine ∧ ∀ p H', New H1 p (.lst xs) H' → Q (.ref p) H'
theorem zam {x1} (h : PA X es t) : PE X (.Tuple es x1 pos) (tTupN t) := by
  intro pins s σ H Q I hq
  refine wpAny_Tuple_spliced (thn (h pos pins s σ H _ I hq) fun us s1 ⟨xs, H1, I1, r, z, q⟩ => ⟨by rw [← r.length]; exact z, ?_⟩)
  refine ⟨.ref s1.heap.objs.size, upd H1 s1.heap.objs.size (.tup xs), I1.laid (t' := s1.toks) (fun b u e => Heap.get?_push_of_some _ e) (Nat.le_refl _) ?_, rfl, q _ _ (.mk' I1.fresh _)⟩
  exact ⟨z, us, r, ⟨_, Heap.get?_push_size _ rfl, rfl, _, rfl⟩⟩
theorem zao (h : PA X es t) : PE X (.List es pos) (tLstN t) := by
  intro pins s σ H Q I hq
  refine wpAny_List_spliced (thn (h pos pins s σ H _ I hq) fun us s1 ⟨xs, H1, I1, r, z, q⟩ => ⟨by rw [← r.length]; exact z, ?_⟩)
  refine ⟨.ref s1.heap.objs.size, upd H1 s1.heap.objs.size (.lst xs), I1.laid (t' := s1.toks) (fun b u e => Heap.get?_push_of_some _ e) (Nat.le_refl _) ?_, rfl, q _ _ (.mk' I1.fresh _)⟩
  exact ⟨z, us, 0, r, Heap.get?_push_size _ rfl⟩
def rSlLN (K : PySem.W.Frag) : V → Option Int → Option Int → Hp → VK → Prop := fun x lo hi H Q => ∃ a xs, x = .ref a ∧ SqL K H a xs ∧ ∀ p H', New H p (.lst (cutL xs lo hi)) H' → Q (.ref p) H'
theorem zm5 : SlR X (rSlLN X.K) := fun pins s σ H x v vl vu lo hi sl Q I rx hs pl pu h => by
  obtain ⟨a, xs, e, hx, q⟩ := h
  exact zpo pins s σ H x v vl vu lo hi sl Q I rx hs pl pu ⟨a, xs, e, hx, fun p np => q p _ (.mk' np _)⟩
def rCatN : R2 := fun x y H Q => ∃ l b xs zs, x = .ref l ∧ y = .ref b ∧ H l = some (.lst xs) ∧ H b = some (.lst zs) ∧ xs.length + zs.length ≤ sizeLine ∧ ∀ p H', New H p (.lst (xs ++ zs)) H' → Q (.ref p) H'
theorem zbl : OpR X (binaryOp .Add) rCatN := fun pins s σ H x y v u Q I rx ry h => by
  obtain ⟨l, b, xs, zs, e1, e2, h1, h2, hz, q⟩ := h
  exact zrw pins s σ H x y v u Q I rx ry ⟨l, b, xs, zs, e1, e2, h1, h2, hz, fun p np => q p _ (.mk' np _)⟩
theorem zfr : CallR X (.type "list") (fun xs H Q => ∃ p ys, xs = [.ref p] ∧ (SqL X.K H p ys ∨ SqT X.K H p ys) ∧ ∀ l H', New H l (.lst ys) H' → Q (.ref l) H') := fun pins s σ H xs us Q I r h => by
  obtain ⟨p, ys, e, hq, q⟩ := h
  exact zgw pins s σ H xs us Q I r ⟨p, ys, e, hq, fun l nl => q l _ (.mk' nl _)⟩
theorem zen : CallR X (.type "tuple") (fun xs H Q => ∃ p ys, xs = [.ref p] ∧ ((SqL X.K H p ys ∧ ∀ l H', New H l (.tup ys) H' → Q (.ref l) H') ∨ (SqT X.K H p ys ∧ Q (.ref p) H))) := fun pins s σ H xs us Q I r h => by
  obtain ⟨p, ys, e, hq⟩ := h
  refine zfq pins s σ H xs us Q I r ⟨p, ys, e, ?_⟩
  rcases hq with ⟨h1, q⟩ | h1
  · exact .inl ⟨h1, fun l nl => q l _ (.mk' nl _)⟩
  · exact .inr h1
theorem zgu (hc : X.calm = true) : CallR X (.type "set") (fun xs H Q => ∃ (p : Addr) (ks : List Key), xs = [.ref p] ∧ SqL X.K H p (ks.map kV) ∧ ks.length ≤ 1000 ∧ ∀ a H', New H a (setK X.prog X.w a ks) H' → Q (.ref a) H') := fun pins s σ H xs us Q I r h => by
  obtain ⟨p, ks, e, hx, hz, q⟩ := h
  exact zh0 hc pins s σ H xs us Q I r ⟨p, ks, e, hx, hz, fun a na => q a _ (.mk' na _)⟩
end
section
variable {tn : List Str} {cp : List (Nat × Str)} {g : TG} {tif : TT} {te : TE} {σ0 : St} {Q : VK} {H1 : Hp} {K : PySem.W.Frag} {a : Addr} {xs : List V}
def PMap (S : St → Prop) (f : V → V) (xs : List V) (H1 : Hp) (i : Nat) (ys : List V) (σ : St) (H : Hp) : Prop := Same H1 H ∧ S σ ∧ ys = (xs.take i).map f
theorem zmn (S : St → Prop) (f : V → V) (hn : xs.length ≤ 1000) (hS : SqL K H1 a xs) (h0 : S (stB tn cp σ0))
    (hs : ∀ D i σ H x, i < xs.length → x ∈ xs → xs[i]? = some x → Same H1 H → H1 D = none → H D = some (.lst ((xs.take i).map f)) → S σ → g x σ H fun σ2 H2 => tif σ2 H2 fun c H3 =>
      if c = true then te σ2 H3 fun y H4 => CStep D xs.length i (PMap S f xs H1) σ2 y H4 else CSkip D xs.length i (PMap S f xs H1) σ2 H3)
    (hd : ∀ D H, H1 D = none → Same H1 H → H D = some (.lst (xs.map f)) → Q (.ref D) H) : cBody tn cp g tif te σ0 Q (Itl K a) H1 := by
  refine zfp (K := K) (a := a) (xs := xs) (fun D i ys σ H => PMap S f xs H1 i ys σ H) (zaa hn) (fun D hD => ⟨za8 hD _, h0, rfl⟩) (fun D i ys σ H _ _ _ p => p.1.seq hS) ?_ ?_
  · rintro D i ys σ H x hD hi hx hH hl ⟨p1, p2, rfl⟩
    exact hs D i σ H x hi (List.mem_of_getElem? hx) hx p1 hD hH p2
  · rintro D ys σ H hD hH hl ⟨p1, p2, rfl⟩
    rw [List.take_of_length_le (Nat.le_refl _)] at hH
    exact hd D H hD p1 hH
theorem zmm (S : St → Prop) (f : V → V) (hn : xs.length ≤ 1000) (hS : SqT K H1 a xs) (h0 : S (stB tn cp σ0))
    (hs : ∀ D i σ H x, i < xs.length → x ∈ xs → xs[i]? = some x → Same H1 H → H1 D = none → H D = some (.lst ((xs.take i).map f)) → S σ → g x σ H fun σ2 H2 => tif σ2 H2 fun c H3 =>
      if c = true then te σ2 H3 fun y H4 => CStep D xs.length i (PMap S f xs H1) σ2 y H4 else CSkip D xs.length i (PMap S f xs H1) σ2 H3)
    (hd : ∀ D H, H1 D = none → Same H1 H → H D = some (.lst (xs.map f)) → Q (.ref D) H) : cBody tn cp g tif te σ0 Q (Itt K a) H1 := by
  refine zpd (K := K) (a := a) (xs := xs) (fun D i ys σ H => PMap S f xs H1 i ys σ H) (zaa hn) (fun D hD => ⟨za8 hD _, h0, rfl⟩) (fun D i ys σ H _ _ _ p => p.1.seqT hS) ?_ ?_
  · rintro D i ys σ H x hD hi hx hH hl ⟨p1, p2, rfl⟩
    exact hs D i σ H x hi (List.mem_of_getElem? hx) hx p1 hD hH p2
  · rintro D ys σ H hD hH hl ⟨p1, p2, rfl⟩
    rw [List.take_of_length_le (Nat.le_refl _)] at hH
    exact hd D H hD p1 hH
theorem zhx {S : St → Prop} {f : V → V} {D : Addr} {i : Nat} {x y : V} {σ2 : St} {H4 : Hp} (hn : xs.length ≤ 1000) (hx : xs[i]? = some x) (hD : H1 D = none) (h4 : H4 D = some (.lst ((xs.take i).map f))) (g4 : Same H1 H4) (s2 : S σ2) (e : y = f x) :
    CStep D xs.length i (PMap S f xs H1) σ2 y H4 := by
  have hi : i < xs.length := (List.getElem?_eq_some_iff.mp hx).1
  refine cstep (zaa hn) hi h4 (by rw [List.length_map, List.length_take]; omega) ⟨g4.wr hD _, s2, ?_⟩
  rw [List.take_add_one, hx, List.map_append, e]
  rfl
def PFil (S : St → Prop) (p : V → Bool) (f : V → V) (xs : List V) (H1 : Hp) (i : Nat) (ys : List V) (σ : St) (H : Hp) : Prop := Same H1 H ∧ S σ ∧ ys = ((xs.take i).filter p).map f
theorem zmp (S : St → Prop) (p : V → Bool) (f : V → V) (hn : xs.length ≤ 1000) (hS : SqL K H1 a xs) (h0 : S (stB tn cp σ0))
    (hs : ∀ D i σ H x, i < xs.length → x ∈ xs → xs[i]? = some x → Same H1 H → H1 D = none → H D = some (.lst (((xs.take i).filter p).map f)) → S σ → g x σ H fun σ2 H2 => tif σ2 H2 fun c H3 =>
      if c = true then te σ2 H3 fun y H4 => CStep D xs.length i (PFil S p f xs H1) σ2 y H4 else CSkip D xs.length i (PFil S p f xs H1) σ2 H3)
    (hd : ∀ D H, H1 D = none → Same H1 H → H D = some (.lst ((xs.filter p).map f)) → Q (.ref D) H) : cBody tn cp g tif te σ0 Q (Itl K a) H1 := by
  refine zfp (K := K) (a := a) (xs := xs) (fun D i ys σ H => PFil S p f xs H1 i ys σ H) (zaa hn) (fun D hD => ⟨za8 hD _, h0, rfl⟩) (fun D i ys σ H _ _ _ p => p.1.seq hS) ?_ ?_
  · rintro D i ys σ H x hD hi hx hH hl ⟨p1, p2, rfl⟩
    exact hs D i σ H x hi (List.mem_of_getElem? hx) hx p1 hD hH p2
  · rintro D ys σ H hD hH hl ⟨p1, p2, rfl⟩
    rw [List.take_of_length_le (Nat.le_refl _)] at hH
    exact hd D H hD p1 hH
theorem zsj (S : St → Prop) (p : V → Bool) (f : V → V) (hn : xs.length ≤ 1000) (hS : SqT K H1 a xs) (h0 : S (stB tn cp σ0))
    (hs : ∀ D i σ H x, i < xs.length → x ∈ xs → xs[i]? = some x → Same H1 H → H1 D = none → H D = some (.lst (((xs.take i).filter p).map f)) → S σ → g x σ H fun σ2 H2 => tif σ2 H2 fun c H3 =>
      if c = true then te σ2 H3 fun y H4 => CStep D xs.length i (PFil S p f xs H1) σ2 y H4 else CSkip D xs.length i (PFil S p f xs H1) σ2 H3)
    (hd : ∀ D H, H1 D = none → Same H1 H → H D = some (.lst ((xs.filter p).map f)) → Q (.ref D) H) : cBody tn cp g tif te σ0 Q (Itt K a) H1 := by
  refine zpd (K := K) (a := a) (xs := xs) (fun D i ys σ H => PFil S p f xs H1 i ys σ H) (zaa hn) (fun D hD => ⟨za8 hD _, h0, rfl⟩) (fun D i ys σ H _ _ _ p => p.1.seqT hS) ?_ ?_
  · rintro D i ys σ H x hD hi hx hH hl ⟨p1, p2, rfl⟩
    exact hs D i σ H x hi (List.mem_of_getElem? hx) hx p1 hD hH p2
  · rintro D ys σ H hD hH hl ⟨p1, p2, rfl⟩
    rw [List.take_of_length_le (Nat.le_refl _)] at hH
    exact hd D H hD p1 hH
theorem zhy {S : St → Prop} {p : V → Bool} {f : V → V} {D : Addr} {i : Nat} {x y : V} {σ2 : St} {H4 : Hp} (hn : xs.length ≤ 1000) (hx : xs[i]? = some x) (hp : p x = true) (hD : H1 D = none) (h4 : H4 D = some (.lst (((xs.take i).filter p).map f))) (g4 : Same H1 H4) (s2 : S σ2) (e : y = f x) :
    CStep D xs.length i (PFil S p f xs H1) σ2 y H4 := by
  have hi : i < xs.length := (List.getElem?_eq_some_iff.mp hx).1
  refine cstep (zaa hn) hi h4 ?_ ⟨g4.wr hD _, s2, ?_⟩
  · rw [List.length_map]
    have := List.length_filter_le p (xs.take i)
    rw [List.length_take] at this
    omega
  · rw [List.take_add_one, hx, List.filter_append, List.map_append, e]
    simp [hp]
theorem zhz {S : St → Prop} {p : V → Bool} {f : V → V} {D : Addr} {i : Nat} {x : V} {σ2 : St} {H3 : Hp} (hx : xs[i]? = some x) (hp : p x = false) (h3 : H3 D = some (.lst (((xs.take i).filter p).map f))) (g3 : Same H1 H3) (s2 : S σ2) :
    CSkip D xs.length i (PFil S p f xs H1) σ2 H3 := by
  have hi : i < xs.length := (List.getElem?_eq_some_iff.mp hx).1
  refine cskip hi h3 ?_ ⟨g3, s2, ?_⟩
  · rw [List.length_map]
    have := List.length_filter_le p (xs.take i)
    rw [List.length_take] at this
    omega
  · rw [List.take_add_one, hx, List.filter_append]
    simp [hp]
end
end L2
namespace SS
open PySem PySem.Spec PyProof.Rows L2
def SMALL : Str := "abcdefghijklmnopqrstuvwxyz"
def GREAT : Str := "ABCDEFGHIJKLMNOPQRSTUVWXYZ"
def FIGS : Str := "0123456789"
def signIn (c : Nat) (z : Str) : Bool := !(Builtin.Str.occurrences z ⟨#[c]⟩ 0 z.length 1).isEmpty
def nameB (z letters : Str) : Bool := match z.cps.toList with
  | [] => false
  | c :: r => decide (r.length ≤ 3) && signIn c letters && r.all fun d => signIn d FIGS
def isNm (x : V) (letters : Str) : Bool := match x with
  | .str z => nameB z letters
  | _ => false
def zpk : Sp := fun vs H Q _ => ∃ x letters k, vs = [x, .str letters] ∧ Kd H x k ∧ (∀ z, x = .str z → z.length ≤ 1000) ∧ ∀ H', Same H H' → Q (.bl (isNm x letters)) H'
def zef (letters : Str) : Sp := fun vs H Q _ => ∃ x k, vs = [x] ∧ Kd H x k ∧ (∀ z, x = .str z → z.length ≤ 1000) ∧ ∀ H', Same H H' → Q (.bl (isNm x letters)) H'
structure Nam (z letters : Str) : Prop where
  ex : ∃ d ds, z.cps.toList = d :: ds ∧ d ∈ letters.cps.toList ∧ ds.length ≤ 3 ∧ ∀ x ∈ ds, x ∈ FIGS.cps.toList
theorem zkr (c : Nat) (z : Str) : signIn c z = decide (c ∈ z.cps.toList) := PySem.StrLaws.found_one z c
def Thing (H : Hp) (y : V) : Prop := (∃ k, Kd H y k) ∧ ∀ z, y = .str z → z.length ≤ 1000
theorem Thing.same {H H' : Hp} {y : V} (h : Thing H y) (g : Same H H') : Thing H' y := ⟨let ⟨k, q⟩ := h.1; ⟨k, q.same g⟩, h.2⟩
theorem Thing.str {H : Hp} {z : Str} (h : z.length ≤ 1000) : Thing H (.str z) := ⟨⟨_, .str z⟩, fun z' e => by cases e; exact h⟩
theorem Thing.tup {H : Hp} {a : Addr} {xs : List V} (e : H a = some (.tup xs)) : Thing H (.ref a) := ⟨⟨_, .tup e⟩, fun z' e => by cases e⟩
def isName (x : V) : Bool := isNm x SMALL || isNm x GREAT
def zm3 : Sp := fun vs H Q _ => ∃ x, vs = [x] ∧ Thing H x ∧ ∀ H', Same H H' → Q (.bl (isName x)) H'
theorem zc1 {x : V} (h : isName x = true) : ∃ z, x = .str z := by
  cases x with
  | str z => exact ⟨z, rfl⟩
  | _ => exact absurd h (by simp [isName, isNm])
def frameB (xs : List V) : Bool := decide (xs.length ≤ 4) && xs.all isName && decide xs.Nodup
def frB (H : Hp) (x : V) : Bool := match x with
  | .ref a => match H a with
    | some (.lst xs) => frameB xs
    | _ => false
  | _ => false
def Things (H : Hp) (xs : List V) : Prop := xs.length ≤ 1000 ∧ ∀ y ∈ xs, Thing H y
theorem Things.same {H H' : Hp} {xs : List V} (h : Things H xs) (g : Same H H') : Things H' xs := ⟨h.1, fun y hy => (h.2 y hy).same g⟩
def zpm : Sp := fun vs H Q _ => ∃ x, vs = [x] ∧ Thing H x ∧ (∀ a xs, x = .ref a → H a = some (.lst xs) → Things H xs) ∧ ∀ H', Same H H' → Q (.bl (frB H x)) H'
theorem zey : ∀ {xs : List V}, xs.all isName = true → ∃ ks : List Key, xs = ks.map kV ∧ (xs.Nodup ↔ ks.Nodup)
  | [], _ => ⟨[], rfl, by simp⟩
  | x :: r, h => by
    rw [List.all_cons, Bool.and_eq_true] at h
    obtain ⟨z, rfl⟩ := zc1 h.1
    obtain ⟨ks, e, n⟩ := zey h.2
    refine ⟨Sum.inr z :: ks, by rw [List.map_cons, ← e]; rfl, ?_⟩
    rw [List.nodup_cons, List.nodup_cons, n]
    refine and_congr_left fun _ => not_congr ?_
    rw [e, List.mem_map]
    constructor
    · rintro ⟨k, hk, e⟩
      have : k = Sum.inr z := zr9 (e.trans rfl)
      exact this ▸ hk
    · exact fun hk => ⟨_, hk, rfl⟩
def zkm (K : PySem.W.Frag) : Sp := fun vs H Q _ => ∃ (a : Addr) (ns : List Int) (k : Int), vs = [.ref a, .int k] ∧ SqL K H a (ns.map V.int) ∧ 0 ≤ k ∧ ∀ c, Q (.int c) H
def zpl (K : PySem.W.Frag) : Sp := fun vs H Q _ => ∃ (a : Addr) (ns : List Int), vs = [.ref a] ∧ SqL K H a (ns.map V.int) ∧ ns.length ≤ 63 ∧ ∀ H', Q (.bl true) H'
theorem zop {α β : Type} (f : α → β) (xs : List α) (lo hi : Option Int) : cutL (xs.map f) lo hi = (cutL xs lo hi).map f := by
  unfold cutL
  rw [List.length_map, List.map_take, List.map_drop]
end SS
namespace L2
open PySem PySem.Spec PyProof.Rows
section
variable {X : Cx} {k : Nat} {H : Hp} {a b : Addr} {xs ys : List V}
theorem zq0 (a b : Str) : eqV (.str a) (.str b) = decide (a = b) := by
  by_cases h : a = b
  · subst h; simp [eqV]
  · simp [eqV, h]
theorem zd7 (xs : List Str) : (xs.map V.str).all flatV = true := by
  rw [List.all_eq_true]
  intro x hx
  obtain ⟨z, _, rfl⟩ := List.mem_map.mp hx
  rfl
def rEqS (K : PySem.W.Frag) : R2 := fun x y H Q => ∃ (a b : Addr) (xs ys : List Str), x = .ref a ∧ y = .ref b ∧ SqL K H a (xs.map V.str) ∧ SqL K H b (ys.map V.str) ∧ Q (.bl (decide (xs = ys))) H
def rNeS (K : PySem.W.Frag) : R2 := fun x y H Q => ∃ (a b : Addr) (xs ys : List Str), x = .ref a ∧ y = .ref b ∧ SqL K H a (xs.map V.str) ∧ SqL K H b (ys.map V.str) ∧ Q (.bl (!decide (xs = ys))) H
theorem zna (ha : SqL X.K H a xs) (hb : SqL X.K H b []) : RcOk X (k + 1) H (.ref a) (.ref b) (decide (xs = [])) := by
  cases xs with
  | nil =>
    have r := zeu (k := k) ha hb rfl (fun _ => true) fun j h1 _ => by simp at h1
    exact r
  | cons x r => exact zgf ha hb (by simp)
def rSlTN (K : PySem.W.Frag) : V → Option Int → Option Int → Hp → VK → Prop := fun x lo hi H Q => ∃ a xs, x = .ref a ∧ SqT K H a xs ∧
  ¬ (HT.sIx xs.length 0 lo = 0 ∧ HT.sIx xs.length xs.length hi = xs.length) ∧ ∀ p H', New H p (.tup (cutL xs lo hi)) H' → Q (.ref p) H'
theorem zpn : SlR X (rSlTN X.K) := fun pins s σ H x v vl vu lo hi sl Q I rx hs pl pu h => by
  obtain ⟨a, xs, e, hx, hw, q⟩ := h
  exact zrg pins s σ H x v vl vu lo hi sl Q I rx hs pl pu ⟨a, xs, e, hx, hw, fun p np => q p _ (.mk' np _)⟩
def rStrB (f : Str → Bool) : V → List V → Hp → VK → Prop := fun x vs H Q => ∃ z, x = .str z ∧ vs = [] ∧ Q (.bl (f z)) H
end
section
variable {K : PySem.W.Frag} {h : Heap} {mg : Str → Option Value}
theorem glt_mk {x : Str} {p : Addr} {od : Option Addr} {its : Array Value} {n : Nat} {sl : Array (Option Value)} {xs : List V} (X : K.In h) (G : h.Ns mainGlobals mg) (a : PySem.W.nsIn K mainGlobals x = some (some (.ref p)))
    (l : K.lookup p = some ⟨.type "tuple", od, .seq its n, sl⟩) (z : its.size ≤ sizeLine) (r : Vals xs its.toList) : ∃ q, GlV mg x (.ref q) ∧ ∀ H, SqT K H q xs :=
  ⟨p, ⟨_, PySem.W.mg_of X G a, rfl⟩, fun H => .inr ⟨_, its, n, l, rfl, rfl, z, r⟩⟩
end
section
variable {X : Cx} (K : PySem.W.Frag)
theorem zbo (h : X.K = K := by rfl) : OpR X (compareOp .In) (rIn K false) := h ▸ zld
theorem zfi (h : X.K = K := by rfl) : OpR X (compareOp .NotIn) (rIn K true) := h ▸ zgh
theorem zbb (h : X.K = K := by rfl) : IxR X (rIxL K) := h ▸ zqr
theorem zah (h : X.K = K := by rfl) : IxR X (rIxT K) := h ▸ zsa
theorem zkq (h : X.K = K := by rfl) : SlR X (rSlLN K) := h ▸ zm5
theorem zik (h : X.K = K := by rfl) : SlR X (rSlTN K) := h ▸ zpn
def rLen : List V → Hp → VK → Prop := fun xs H Q => ∃ p ys, xs = [.ref p] ∧ (SqL K H p ys ∨ SqT K H p ys) ∧ Q (.int (List.length ys)) H
theorem zaq (h : X.K = K := by rfl) : CallR X (.builtin "len") (rLen K) := h ▸ zgy
def rAll : List V → Hp → VK → Prop := fun xs H Q => ∃ (p : Addr) (bs : List Bool), xs = [.ref p] ∧ SqL K H p (bs.map V.bl) ∧ Q (.bl (bs.all id)) H
theorem zbf (hc : X.calm = true) (h : X.K = K := by rfl) : CallR X (.builtin "all") (rAll K) := h ▸ zh3 hc
def rAny : List V → Hp → VK → Prop := fun xs H Q => ∃ (p : Addr) (bs : List Bool), xs = [.ref p] ∧ SqL K H p (bs.map V.bl) ∧ Q (.bl (bs.any id)) H
theorem zgz (hc : X.calm = true) (h : X.K = K := by rfl) : CallR X (.builtin "any") (rAny K) := h ▸ zh2 hc
def rSum : List V → Hp → VK → Prop := fun xs H Q => ∃ (p : Addr) (ns : List Int), xs = [.ref p] ∧ SqL K H p (ns.map V.int) ∧ Q (.int ns.sum) H
theorem zcx (hc : X.calm = true) (h : X.K = K := by rfl) : CallR X (.builtin "sum") (rSum K) := h ▸ zgt hc
def rListOf : List V → Hp → VK → Prop := fun xs H Q => ∃ p ys, xs = [.ref p] ∧ (SqL K H p ys ∨ SqT K H p ys) ∧ ∀ l H', New H l (.lst ys) H' → Q (.ref l) H'
theorem zeo (h : X.K = K := by rfl) : CallR X (.type "list") (rListOf K) := h ▸ zfr
theorem zbp {tg l : Expr} {tl : TE} (hl : PE X l tl) (h : X.K = K := by rfl) : PI X tg l (iList K tl) := h ▸ zp8 hl
theorem zfg {tg l : Expr} {tl : TE} (hl : PE X l tl) (h : X.K = K := by rfl) : PI X tg l (iTup K tl) := h ▸ zrm hl
variable {o e : Expr} {es : List Expr} {to : TE} {t : TA} {name : Str} {apos cpos : Pos} {T id : String} {r : V → List V → Hp → VK → Prop}
theorem zis (pa : PlainAttrs T) (slot : Slot T name id) (hty : typeOf (.builtin id) = pure (.type "method_descriptor")) (hm : MtR X id r) (ho : PE X o to) (ha : PA X (e :: es) t) (h : X.K = K := by rfl)
    (hbase : attributeBase o name X.env (eval o X.env) = eval o X.env := by rfl)
    (hfew : ((backTo cpos (starEach (e :: es) X.env)).all (fun x => !x.1) && (backToKw cpos (keywordEach [] X.env)).all (fun x => x.1.isSome)
      && decide ((e :: es).length + ([] : List Keyword).length + (if ([] : List Keyword).isEmpty then 0 else 1) < 30)) = true := by rfl)
    (hline : (apos.endLine == cpos.line) = true := by rfl) (h1 : notStar e = true := by rfl) (h2 : es.all notStar = true := by rfl) :
    PE X (.Call (.Attribute o name apos) (e :: es) [] cpos) (tBM K T r to t) := h ▸ zsp pa slot hty hm ho ha hbase hfew hline (zbc h1) (zbs h2)
end
end L2
namespace SS
open PySem PySem.Spec PyProof.Rows L2
inductive Sy where
  | bare (w n m : Str)
  | neg (s : Sy)
  | two (w : Str) (s t : Sy)
  | qu (w n : Str) (s : Sy)
def treeWords : List Str := ["left", "right", "above"]
def bareWords : List Str := ["in", "same", "within", "ahead", "next", "left", "right", "above"]
def Sy.depth : Sy → Nat
  | .bare _ _ _ => 1
  | .neg s => s.depth + 1
  | .two _ s t => max s.depth t.depth + 1
  | .qu _ _ s => s.depth + 1
def Sy.parts : Sy → Nat
  | .bare _ _ _ => 1
  | .neg s => s.parts + 1
  | .two _ s t => s.parts + t.parts + 1
  | .qu _ _ s => s.parts + 1
inductive Rep (H : Hp) : V → Sy → Prop where
  | bare {a : Addr} {w n m : Str} (hw : w ∈ bareWords) (e : H a = some (.tup [.str w, .str n, .str m])) : Rep H (.ref a) (.bare w n m)
  | neg {a : Addr} {x : V} {s : Sy} (e : H a = some (.tup [.str "not", x])) (h : Rep H x s) : Rep H (.ref a) (.neg s)
  | two {a : Addr} {w : Str} {x y : V} {s t : Sy} (hw : w ∈ (["and", "or"] : List Str)) (e : H a = some (.tup [.str w, x, y])) (h1 : Rep H x s) (h2 : Rep H y t) : Rep H (.ref a) (.two w s t)
  | qu {a : Addr} {w n : Str} {x : V} {s : Sy} (hw : w ∈ (["some", "all"] : List Str)) (e : H a = some (.tup [.str w, .str n, x])) (h : Rep H x s) : Rep H (.ref a) (.qu w n s)
theorem Rep.same {H H' : Hp} {v : V} {s : Sy} (r : Rep H v s) (g : Same H H') : Rep H' v s := by
  induction r with
  | bare hw e => exact .bare hw (g _ _ e)
  | neg e _ ih => exact .neg (g _ _ e) ih
  | two hw e _ _ ih1 ih2 => exact .two hw (g _ _ e) ih1 ih2
  | qu hw e _ ih => exact .qu hw (g _ _ e) ih
theorem Rep.tup {H : Hp} {v : V} {s : Sy} (r : Rep H v s) : ∃ a xs, v = .ref a ∧ H a = some (.tup xs) := by
  cases r with
  | bare hw e => exact ⟨_, _, rfl, e⟩
  | neg e _ => exact ⟨_, _, rfl, e⟩
  | two hw e _ _ => exact ⟨_, _, rfl, e⟩
  | qu hw e _ => exact ⟨_, _, rfl, e⟩
theorem zms : ∀ w ∈ bareWords, inV (.str w) [.str "some", .str "all"] = false := by decide +kernel
theorem zl0 : ∀ w ∈ (["and", "or"] : List Str), inV (.str w) [.str "some", .str "all"] = false := by decide +kernel
theorem zj9 : ∀ w ∈ (["some", "all"] : List Str), inV (.str w) [.str "some", .str "all"] = true := by decide +kernel
theorem zn7 : inV (.str "not") [.str "some", .str "all"] = false := by decide +kernel
theorem zdm (z : Str) (l : List Str) : inV (.str z) (l.map V.str) = decide (z ∈ l) := by
  induction l with
  | nil => rfl
  | cons y r ih =>
    have e : inV (.str z) ((y :: r).map V.str) = (eqV (.str y) (.str z) || inV (.str z) (r.map V.str)) := rfl
    rw [e, ih, zq0]
    by_cases h : z = y
    · subst h; simp
    · have h' : ¬ y = z := fun q => h q.symm
      simp [h, h']
def isT (H : Hp) (x : V) : Bool := match x with
  | .ref a => match H a with
    | some (.tup _) => true
    | _ => false
  | _ => false
theorem Kd.isT {H : Hp} {x : V} {k : String} (h : Kd H x k) : subT k "tuple" = isT H x := by
  cases h with
  | lst e => simp only [SS.isT, e]; decide
  | tup e => simp only [SS.isT, e]; decide
  | dK e => simp only [SS.isT, e]; decide
  | _ => rfl
def zby : Sp := fun vs H Q _ => ∃ a xs, vs = [.ref a] ∧ H a = some (.tup xs) ∧ xs.length ≤ 1000 ∧ (∀ y ∈ xs, ∃ k, Kd H y k) ∧ ∀ D H', H D = none → Same H H' → H' D = some (.lst (xs.filter (isT H))) → Q (.ref D) H'
def Sy.inner : Sy → List Sy
  | .bare _ _ _ => []
  | .neg s => [s]
  | .two _ s t => [s, t]
  | .qu _ _ s => [s]
theorem Rep.kd {H : Hp} {v : V} {s : Sy} (r : Rep H v s) : Kd H v "tuple" := by
  obtain ⟨a, xs, rfl, e⟩ := r.tup
  exact .tup e
theorem Rep.isT {H : Hp} {v : V} {s : Sy} (r : Rep H v s) : isT H v = true := by
  obtain ⟨a, xs, rfl, e⟩ := r.tup
  simp only [SS.isT, e]
theorem Rep.items {H : Hp} {v : V} {s : Sy} (r : Rep H v s) : ∃ a xs, v = .ref a ∧ H a = some (.tup xs) ∧ xs.length ≤ 3 ∧ (∀ y ∈ xs, ∃ k, Kd H y k) ∧ Paired (Rep H) (xs.filter (SS.isT H)) s.inner := by
  cases r with
  | bare hw e =>
    refine ⟨_, _, rfl, e, Nat.le_refl _, fun y hy => ?_, .nil⟩
    simp only [List.mem_cons, List.not_mem_nil, or_false] at hy
    rcases hy with rfl | rfl | rfl <;> exact ⟨_, .str _⟩
  | neg e h =>
    refine ⟨_, _, rfl, e, by simp, fun y hy => ?_, ?_⟩
    · simp only [List.mem_cons, List.not_mem_nil, or_false] at hy
      rcases hy with rfl | rfl
      · exact ⟨_, .str _⟩
      · exact ⟨_, h.kd⟩
    · rw [List.filter_cons_of_neg (by simp [SS.isT]), List.filter_cons_of_pos h.isT]
      exact .cons h .nil
  | two hw e h1 h2 =>
    refine ⟨_, _, rfl, e, by simp, fun y hy => ?_, ?_⟩
    · simp only [List.mem_cons, List.not_mem_nil, or_false] at hy
      rcases hy with rfl | rfl | rfl
      · exact ⟨_, .str _⟩
      · exact ⟨_, h1.kd⟩
      · exact ⟨_, h2.kd⟩
    · rw [List.filter_cons_of_neg (by simp [SS.isT]), List.filter_cons_of_pos h1.isT, List.filter_cons_of_pos h2.isT]
      exact .cons h1 (.cons h2 .nil)
  | qu hw e h =>
    refine ⟨_, _, rfl, e, by simp, fun y hy => ?_, ?_⟩
    · simp only [List.mem_cons, List.not_mem_nil, or_false] at hy
      rcases hy with rfl | rfl | rfl
      · exact ⟨_, .str _⟩
      · exact ⟨_, .str _⟩
      · exact ⟨_, h.kd⟩
    · rw [List.filter_cons_of_neg (by simp [SS.isT]), List.filter_cons_of_neg (by simp [SS.isT]), List.filter_cons_of_pos h.isT]
      exact .cons h .nil
def Sy.isBare : Sy → Bool
  | .bare _ _ _ => true
  | _ => false
def zb6 : Sp := fun vs H Q _ => ∃ v s, vs = [v] ∧ Rep H v s ∧ ∀ H', Same H H' → Q (.bl s.isBare) H'
theorem Paired.at {α β : Type} {R : α → β → Prop} : ∀ {xs : List α} {ys : List β} {i : Nat} {x : α}, Paired R xs ys → xs[i]? = some x → ∃ y, ys[i]? = some y ∧ R x y
  | _, _, _, _, .nil, h => by simp at h
  | _, _, 0, _, .cons h _, e => by simp at e; subst e; exact ⟨_, rfl, h⟩
  | _, _, i + 1, _, .cons _ h, e => by simp only [List.getElem?_cons_succ] at e ⊢; exact Paired.at h e
theorem Paired.len {α β : Type} {R : α → β → Prop} : ∀ {xs : List α} {ys : List β}, Paired R xs ys → xs.length = ys.length
  | _, _, .nil => rfl
  | _, _, .cons _ h => by rw [List.length_cons, List.length_cons, Paired.len h]
theorem zd5 {s t : Sy} (h : t ∈ s.inner) : t.depth < s.depth ∧ t.parts < s.parts := by
  cases s with
  | bare w n m => exact nomatch h
  | neg s => rw [List.mem_singleton.mp h]; exact ⟨Nat.lt_succ_self _, Nat.lt_succ_self _⟩
  | two w s1 s2 =>
    have h : t = s1 ∨ t = s2 := by simpa [Sy.inner] using h
    have e1 : (Sy.two w s1 s2).depth = max s1.depth s2.depth + 1 := rfl
    have e2 : (Sy.two w s1 s2).parts = s1.parts + s2.parts + 1 := rfl
    rcases h with rfl | rfl <;> (rw [e1, e2]; omega)
  | qu w n s => rw [List.mem_singleton.mp h]; exact ⟨Nat.lt_succ_self _, Nat.lt_succ_self _⟩
theorem zf7 {α : Type} {xs : List α} (h : 1 ≤ xs.length) : ¬ (HT.sIx xs.length 0 (some 1) = 0 ∧ HT.sIx xs.length xs.length none = xs.length) := fun z => by
  have e : HT.sIx xs.length 0 (some ((1 : Nat) : Int)) = min 1 xs.length := HT.sIx_nat ..
  have e' : HT.sIx xs.length 0 (some 1) = min 1 xs.length := e
  rw [e'] at z
  omega
def isPl (z : Str) : Bool := isNm (.str z) SMALL
def isSt (z : Str) : Bool := isNm (.str z) GREAT
theorem zsu {z l : Str} (h : isNm (.str z) l = true) : ∃ c r, z.cps.toList = c :: r ∧ r.length ≤ 3 ∧ c ∈ l.cps.toList ∧ ∀ d ∈ r, d ∈ FIGS.cps.toList := by
  simp only [isNm, nameB] at h
  split at h
  · cases h
  · rename_i c r e
    rw [Bool.and_eq_true, Bool.and_eq_true, zkr, decide_eq_true_eq, decide_eq_true_eq, List.all_eq_true] at h
    exact ⟨c, r, e, h.1.1, h.1.2, fun d hd => by have := h.2 d hd; rw [zkr, decide_eq_true_eq] at this; exact this⟩
theorem zjj {z : Str} (h : isName (.str z) = true) : isPl z = true ∨ isSt z = true := by
  unfold isName at h
  rw [Bool.or_eq_true] at h
  exact h
theorem zoo (w n : Str) (s : Sy) : (Sy.qu w n s).depth = s.depth + 1 ∧ (Sy.qu w n s).parts = s.parts + 1 := ⟨rfl, rfl⟩
end SS
namespace L2
open PySem PySem.Spec PyProof.Rows
section
variable {P : Program} {w : World} {A : Around} {E : Value → Shared → Prop} {s : Shared}
theorem zdy {j t : Addr} {k : Nat} {its : Array Value} {y : Value} {Q : Value → Shared → Prop} (st : s.heap.IsTupleIter j t k) (tp : s.heap.IsTuple t its) (hy : its[k]? = some y)
    (q : ∀ h', h'.IsTupleIter j t (k + 1) → Heap.SameBut j s.heap h' → Q y { s with heap := h' }) : wpAny (model P w) A (Builtin.SmallTypes.nextOf (.ref j)) Q E s := by
  obtain ⟨oj, gj, cj, dj⟩ := id st
  obtain ⟨ot, gt, _, nt, dt⟩ := tp
  unfold Builtin.SmallTypes.nextOf
  refine wpAny_bind (wpAny_callSpecial?_slot (name := Str.ofString "__next__") st.typeIs F.slot_tuple_iterator_next (wpAny_call_entry F.slot_tuple_iterator_next st.typeIs F.entry_tuple_iterator_next ?_ (F.args_tuple_iterator_next_1 _)))
  show wpAny _ _ (field (.ref j) 0 >>= _) _ _ s
  refine wpAny_bind (wpAny_field gj dj (x := .ref t) rfl ?_)
  show wpAny _ _ (if (Value.ref t == Value.none) = true then _ else _) _ _ s
  rw [if_neg (show ¬ (Value.ref t == Value.none) = true from Bool.false_ne_true)]
  show wpAny _ _ (field (.ref j) 1 >>= _) _ _ s
  refine wpAny_bind (wpAny_field gj dj (x := .int k 0) rfl ?_)
  show wpAny _ _ (seqItems? (.ref t) >>= _) _ _ s
  refine wpAny_bind (wpAny_seqItems gt dt ?_)
  simp only [Int.toNat_natCast, hy]
  refine wpAny_bind (wpAny_setField gj dj (by simp) (wpAny_pure ⟨y, rfl, wpAny_pure (q _ ?_ (Heap.SameBut.update ..))⟩))
  exact ⟨_, Heap.get?_update_self _ gj (Obj.isFreed_of_fields (Obj.data_mapFields dj _)), (Obj.cls_mapFields ..).trans cj, by rw [Obj.data_mapFields dj]; simp [rawInt]⟩
theorem zji {j t : Addr} {k : Nat} {its : Array Value} {Q : Value → Shared → Prop} (hh : A.handled = none) (st : s.heap.IsTupleIter j t k) (tp : s.heap.IsTuple t its) (hy : its[k]? = none)
    (q : ∀ h' e, Heap.ExtBut j s.heap h' → (∃ o, h'.get? e = some o ∧ o.cls = .type "StopIteration") → E (.ref e) { s with heap := h' }) : wpAny (model P w) A (Builtin.SmallTypes.nextOf (.ref j)) Q E s := by
  obtain ⟨oj, gj, cj, dj⟩ := id st
  obtain ⟨ot, gt, _, nt, dt⟩ := tp
  unfold Builtin.SmallTypes.nextOf
  refine wpAny_bind (wpAny_callSpecial?_slot (name := Str.ofString "__next__") st.typeIs F.slot_tuple_iterator_next (wpAny_call_entry F.slot_tuple_iterator_next st.typeIs F.entry_tuple_iterator_next ?_ (F.args_tuple_iterator_next_1 _)))
  show wpAny _ _ (field (.ref j) 0 >>= _) _ _ s
  refine wpAny_bind (wpAny_field gj dj (x := .ref t) rfl ?_)
  show wpAny _ _ (if (Value.ref t == Value.none) = true then _ else _) _ _ s
  rw [if_neg (show ¬ (Value.ref t == Value.none) = true from Bool.false_ne_true)]
  show wpAny _ _ (field (.ref j) 1 >>= _) _ _ s
  refine wpAny_bind (wpAny_field gj dj (x := .int k 0) rfl ?_)
  show wpAny _ _ (seqItems? (.ref t) >>= _) _ _ s
  refine wpAny_bind (wpAny_seqItems gt dt ?_)
  simp only [Int.toNat_natCast, hy]
  refine wpAny_bind (wpAny_rule (wpAny_bind (wpAny_setField gj dj (by simp) ?_)))
  show wpAny _ _ (newExc (.type "StopIteration") [] >>= _) _ _ _
  refine wpAny_bind ?_
  simp only [newExc, newTuple]
  refine wpAny_bind (wpAny_newObj_type ?_ (by size_fits))
  refine wpAny_bind (m := firstArgMember _ _) (wpAny_of_eq (a := Value.none) (by simp only [firstArgMember]; rfl) ?_)
  refine wpAny_newObj_type ?_ (by size_fits)
  simp only [raiseNew]
  refine wpAny_bind (wpAny_handled ?_)
  rw [show A.in1.handled = none from hh]
  refine wpAny_bind (wpAny_pure (wpAny_throw (q _ _ (((Heap.SameBut.update ..).extBut.push _).push _) ⟨_, Heap.get?_push_size _ rfl, rfl⟩)))
end
structure ZipT (h : Heap) (z ti ro j1 j2 t1 t2 : Addr) (f0 : Value) (i : Nat) : Prop where
  z : IsZip h z ti ro f0
  ti : IsPair h ti (.ref j1) (.ref j2)
  ro : ∃ a b, IsPair h ro a b
  j1 : h.IsTupleIter j1 t1 i
  j2 : h.IsTupleIter j2 t2 i
section
variable {P : Program} {w : World} {A : Around} {E : Value → Shared → Prop} {s : Shared} {z ti ro j1 j2 t1 t2 : Addr} {i : Nat} {its1 its2 : Array Value}
theorem zpe {x y : Value} {Q : Option Value → Shared → Prop} (D : ZipApart z ti ro j1 j2 t1 t2) (Z : ZipT s.heap z ti ro j1 j2 t1 t2 .none i) (p1 : s.heap.IsTuple t1 its1) (p2 : s.heap.IsTuple t2 its2) (hx : its1[i]? = some x) (hy : its2[i]? = some y)
    (q : ∀ h', ZipT h' z ti ro j1 j2 t1 t2 (rawInt s.heap.objs.size) (i + 1) → IsPair h' s.heap.objs.size x y → h'.objs.size = s.heap.objs.size + 1 → (∀ c o, c ≠ z → c ≠ ro → c ≠ j1 → c ≠ j2 → s.heap.get? c = some o → h'.get? c = some o) →
      Q (some (.ref s.heap.objs.size)) { s with heap := h' }) : wpAny (model P w) A (pyNext (.ref z)) Q E s := by
  have hT : s.TypeIs (.ref z) "zip" := ⟨_, Z.z, rfl⟩
  obtain ⟨a, b, hro⟩ := Z.ro
  unfold pyNext
  refine wpAny_bind (wpAny_attempt (wpAny_callSpecial?_slot (name := Str.ofString "__next__") hT F.slot_zip_next (wpAny_call_entry F.slot_zip_next hT F.entry_zip_next ?_ (F.args_zip_next_1 _))))
  show wpAny _ _ (field (.ref z) 2 >>= _) _ _ _
  refine wpAny_bind (wpAny_field Z.z rfl (x := .bool false) rfl ?_)
  show wpAny _ _ (field (.ref z) 3 >>= _) _ _ _
  refine wpAny_bind (wpAny_field Z.z rfl (x := .ref ti) rfl ?_)
  refine wpAny_bind (wpAny_seqItems Z.ti rfl ?_)
  show wpAny _ _ (Builtin.SmallTypes.ownedTupleIsFree (.ref z) >>= _) _ _ _
  refine wpAny_bind ?_
  unfold Builtin.SmallTypes.ownedTupleIsFree
  refine wpAny_bind (wpAny_field Z.z rfl (x := .none) rfl (wpAny_pure ?_))
  simp only [if_true]
  refine wpAny_bind (wpAny_rule ?_)
  refine wpAny_bind (wpAny_field Z.z rfl (x := .ref ro) rfl ?_)
  refine wpAny_bind (wpAny_setField_rec Z.z (by simp) fun ha hza hsa => ?_)
  replace hza : IsZip ha z ti ro .ellipsis := hza
  refine wpAny_bind ?_
  simp only [List.zipIdx_cons, List.zipIdx_nil, List.forIn_cons, List.forIn_nil]
  refine wpAny_bind (wpAny_bind (wpAny_onRaise ?_))
  show wpAny _ _ (Builtin.SmallTypes.nextOf (.ref j1) >>= _) _ _ _
  refine wpAny_bind (zdy (Z.j1.extBut hsa.extBut D.i1z) (p1.extBut hsa.extBut D.l1z) hx fun hb b1 hsb => wpAny_pure ?_)
  have rob : IsPair hb ro a b := hsb.extBut _ _ D.TOi1 (hsa.extBut _ _ D.TOz hro)
  refine wpAny_bind (wpAny_seqItems rob rfl ?_)
  refine wpAny_bind (wpAny_updateSeq_pair rob fun hc roc hsc => ?_)
  replace roc : IsPair hc ro x b := roc
  refine wpAny_bind (wpAny_letGo (wpAny_pure ?_))
  refine wpAny_bind (wpAny_bind (wpAny_onRaise ?_))
  show wpAny _ _ (Builtin.SmallTypes.nextOf (.ref j2) >>= _) _ _ _
  refine wpAny_bind (zdy (((Z.j2.extBut hsa.extBut D.i2z).extBut hsb.extBut D.i12.symm).extBut hsc.extBut D.TOi2.symm) (((p2.extBut hsa.extBut D.l2z).extBut hsb.extBut D.l2i1).extBut hsc.extBut D.l2TO) hy fun hd d2 hsd => wpAny_pure ?_)
  have rod : IsPair hd ro x b := hsd.extBut _ _ D.TOi2 roc
  refine wpAny_bind (wpAny_seqItems rod rfl ?_)
  refine wpAny_bind (wpAny_updateSeq_pair rod fun he roe hse => ?_)
  replace roe : IsPair he ro x y := roe
  refine wpAny_bind (wpAny_letGo (wpAny_pure (wpAny_pure ?_)))
  refine wpAny_bind (wpAny_seqItems roe rfl ?_)
  refine wpAny_bind (wpAny_newTuple ?_)
  have sz : he.objs.size = s.heap.objs.size := by rw [hse.1, hsd.1, hsc.1, hsb.1, hsa.1]
  have ze : IsZip he z ti ro .ellipsis := hse.extBut _ _ D.TOz.symm (hsd.extBut _ _ D.i2z.symm (hsc.extBut _ _ D.TOz.symm (hsb.extBut _ _ D.i1z.symm hza)))
  have ke : ∀ c o, c ≠ z → c ≠ ro → c ≠ j1 → c ≠ j2 → s.heap.get? c = some o → he.get? c = some o := fun c o c1 c2 c3 c4 e =>
    hse.extBut _ _ c2 (hsd.extBut _ _ c4 (hsc.extBut _ _ c2 (hsb.extBut _ _ c3 (hsa.extBut _ _ c1 e))))
  have e1 : he.IsTupleIter j1 t1 (i + 1) := ((b1.extBut hsc.extBut D.TOi1.symm).extBut hsd.extBut D.i12).extBut hse.extBut D.TOi1.symm
  have e2 : he.IsTupleIter j2 t2 (i + 1) := d2.extBut hse.extBut D.TOi2.symm
  have zlt : z < he.objs.size := Heap.lt_size ze
  show wpAny _ _ (Builtin.SmallTypes.ownedTupleHandOut (.ref z) (.ref he.objs.size) >>= _) _ _ _
  refine wpAny_bind ?_
  unfold Builtin.SmallTypes.ownedTupleHandOut
  have zf : IsZip (he.push { cls := .type "tuple", data := .seq #[x, y] }) z ti ro .ellipsis := Heap.get?_push_of_some _ ze
  refine wpAny_bind (wpAny_setField_rec zf (by simp) fun hg zg hsg => ?_)
  replace zg : IsZip hg z ti ro (rawInt he.objs.size) := zg
  refine wpAny_setField_rec zg (by simp) fun hk zk hsk => ?_
  replace zk : IsZip hk z ti ro (rawInt he.objs.size) := zk
  have up : ∀ c o, c ≠ z → he.get? c = some o → hk.get? c = some o := fun c o c1 e => hsk.extBut _ _ c1 (hsg.extBut _ _ c1 (Heap.get?_push_of_some _ e))
  have tk : IsPair hk he.objs.size x y := hsk.extBut _ _ (Nat.ne_of_gt zlt) (hsg.extBut _ _ (Nat.ne_of_gt zlt) (Heap.get?_push_size _ rfl))
  have zk8 : hk.objs.size = he.objs.size + 1 := by rw [hsk.1, hsg.1, Heap.size_push]
  rw [sz] at zk tk zk8
  refine wpAny_pure ⟨_, rfl, wpAny_pure ?_⟩
  show Q (some (.ref he.objs.size)) _
  rw [sz]
  exact q hk ⟨zk, up _ _ D.TIz (ke _ _ D.TIz D.TITO D.TIi1 D.TIi2 Z.ti), ⟨_, _, up _ _ D.TOz roe⟩, e1.at fun o e => up _ o D.i1z e, e2.at fun o e => up _ o D.i2z e⟩ tk zk8 fun c o c1 c2 c3 c4 e => up c o c1 (ke c o c1 c2 c3 c4 e)
theorem zra {Q : Option Value → Shared → Prop} (hh : A.handled = none) (D : ZipApart z ti ro j1 j2 t1 t2) (Z : ZipT s.heap z ti ro j1 j2 t1 t2 .none i) (p1 : s.heap.IsTuple t1 its1) (p2 : s.heap.IsTuple t2 its2) (hx : its1[i]? = none)
    (q : ∀ h', (∀ c o, c ≠ z → c ≠ ro → c ≠ j1 → c ≠ j2 → s.heap.get? c = some o → h'.get? c = some o) → Q none { s with heap := h' }) : wpAny (model P w) A (pyNext (.ref z)) Q E s := by
  have hT : s.TypeIs (.ref z) "zip" := ⟨_, Z.z, rfl⟩
  unfold pyNext
  refine wpAny_bind (wpAny_attempt (wpAny_callSpecial?_slot (name := Str.ofString "__next__") hT F.slot_zip_next (wpAny_call_entry F.slot_zip_next hT F.entry_zip_next ?_ (F.args_zip_next_1 _))))
  show wpAny _ _ (field (.ref z) 2 >>= _) _ _ _
  refine wpAny_bind (wpAny_field Z.z rfl (x := .bool false) rfl ?_)
  show wpAny _ _ (field (.ref z) 3 >>= _) _ _ _
  refine wpAny_bind (wpAny_field Z.z rfl (x := .ref ti) rfl ?_)
  refine wpAny_bind (wpAny_seqItems Z.ti rfl ?_)
  show wpAny _ _ (Builtin.SmallTypes.ownedTupleIsFree (.ref z) >>= _) _ _ _
  refine wpAny_bind ?_
  unfold Builtin.SmallTypes.ownedTupleIsFree
  refine wpAny_bind (wpAny_field Z.z rfl (x := .none) rfl (wpAny_pure ?_))
  simp only [if_true]
  refine wpAny_bind (wpAny_rule ?_)
  refine wpAny_bind (wpAny_field Z.z rfl (x := .ref ro) rfl ?_)
  refine wpAny_bind (wpAny_setField_rec Z.z (by simp) fun ha hza hsa => ?_)
  replace hza : IsZip ha z ti ro .ellipsis := hza
  refine wpAny_bind ?_
  simp only [List.zipIdx_cons, List.zipIdx_nil, List.forIn_cons, List.forIn_nil]
  refine wpAny_bind (wpAny_bind (wpAny_onRaise ?_))
  show wpAny _ _ (Builtin.SmallTypes.nextOf (.ref j1) >>= _) _ _ _
  refine wpAny_bind (zji hh (Z.j1.extBut hsa.extBut D.i1z) (p1.extBut hsa.extBut D.l1z) hx fun hb e hsb ⟨oe, ge, ce⟩ => ?_)
  have zb : IsZip hb z ti ro .ellipsis := hsb _ _ D.i1z.symm hza
  have nez : e ≠ z := fun z' => by
    subst z'
    rw [zb] at ge
    cases ge
    simp at ce
  refine wpAny_setField_rec zb (by simp) fun hc _ hsc => ?_
  refine wpAny_bind (wpAny_isInstance (T := "StopIteration") (b := true) ⟨oe, hsc.extBut _ _ nez ge, ce⟩ isSubtype_stop ?_)
  exact wpAny_pure (q _ fun c o c1 _ c3 _ x => hsc.extBut _ _ c1 (hsb _ _ c3 (hsa.extBut _ _ c1 x)))
end
abbrev zt1 (h : Heap) (a : Addr) : Heap := h.push { cls := .type "tuple_iterator", data := .fields #[.ref a, .int 0 0] }
abbrev zt2 (h : Heap) (a b : Addr) : Heap := (zt1 h a).push { cls := .type "tuple_iterator", data := .fields #[.ref b, .int 0 0] }
abbrev zt3 (h : Heap) (a b : Addr) : Heap := (zt2 h a b).push { cls := .type "tuple", data := .seq #[.ref h.objs.size, .ref (zt1 h a).objs.size] }
abbrev zt4 (h : Heap) (a b : Addr) : Heap := (zt3 h a b).push { cls := .type "tuple", data := .seq #[.none, .none] }
abbrev zt5 (h : Heap) (a b : Addr) : Heap := (zt4 h a b).push { cls := .type "zip", data := .fields #[.none, .bool false, .bool false, .ref (zt2 h a b).objs.size, .ref (zt3 h a b).objs.size] }
theorem zq9 (a b : Addr) (xs ys : Array Value) : Meets (Builtin.«zip.__new__» ⟨[.type "zip", .ref a, .ref b], []⟩) (fun _ R s => s.heap.IsTuple a xs ∧ s.heap.IsTuple b ys ∧ R (.ok (.ret (.ref (zt4 s.heap a b).objs.size))) { s with heap := zt5 s.heap a b }) :=
  .of_wp fun prog w A R s h => by
    obtain ⟨hp, g, d, tk, os⟩ := s
    obtain ⟨ha, hb, h⟩ := h
    have hsub := sub_zip
    have hA : Heap.IsTuple (Shared.heap ⟨hp, g, d, tk, os⟩) a xs := ha
    have hB : Heap.IsTuple (Shared.heap ⟨hp.push { cls := .type "tuple_iterator", data := .fields #[.ref a, .int 0 0] }, g, d, tk, os⟩) b ys := by
      obtain ⟨o, e, r⟩ := hb
      exact ⟨o, Heap.get?_push_of_some _ e, r⟩
    wp_walk using wpAny_pyIter_tuple hA, wpAny_pyIter_tuple hB
    exact ⟨_, rfl, h⟩
section
variable {P : Program} {w : World} {A : Around} {E : Value → Shared → Prop} {s : Shared}
theorem zpf {a b : Addr} {xs ys : Array Value} {Q : Value → Shared → Prop} (ha : s.heap.IsTuple a xs) (hb : s.heap.IsTuple b ys)
    (q : ∀ h', ZipT h' (s.heap.objs.size + 4) (s.heap.objs.size + 2) (s.heap.objs.size + 3) s.heap.objs.size (s.heap.objs.size + 1) a b .none 0 → h'.objs.size = s.heap.objs.size + 5 → (∀ c o, s.heap.get? c = some o → h'.get? c = some o) → Q (.ref (s.heap.objs.size + 4)) { s with heap := h' }) :
    wpAny (model P w) A (call (.type "zip") [.ref a, .ref b]) Q E s := by
  refine callType_new F.called_zip (by decide) (F.typeCall_zip_2 _ _) (F.newCall_zip_2 _ _) (fun obj => F.args_object_init_3 obj _ _) F.entry_zip_new (zq9 a b xs ys) ⟨ha, hb, ?_⟩
  have s1 : (zt1 s.heap a).objs.size = s.heap.objs.size + 1 := Heap.size_push ..
  have s2 : (zt2 s.heap a b).objs.size = s.heap.objs.size + 2 := by rw [Heap.size_push, s1]
  have s3 : (zt3 s.heap a b).objs.size = s.heap.objs.size + 3 := by rw [Heap.size_push, s2]
  have s4 : (zt4 s.heap a b).objs.size = s.heap.objs.size + 4 := by rw [Heap.size_push, s3]
  have s5 : (zt5 s.heap a b).objs.size = s.heap.objs.size + 5 := by rw [Heap.size_push, s4]
  have k5 : (zt5 s.heap a b).get? (zt4 s.heap a b).objs.size = some _ := Heap.get?_push_size _ rfl
  have k4 : (zt5 s.heap a b).get? (zt3 s.heap a b).objs.size = some _ := Heap.get?_push_of_some _ (Heap.get?_push_size _ rfl)
  have k3 : (zt5 s.heap a b).get? (zt2 s.heap a b).objs.size = some _ := Heap.get?_push_of_some _ (Heap.get?_push_of_some _ (Heap.get?_push_size _ rfl))
  have k2 : (zt5 s.heap a b).get? (zt1 s.heap a).objs.size = some _ := Heap.get?_push_of_some _ (Heap.get?_push_of_some _ (Heap.get?_push_of_some _ (Heap.get?_push_size _ rfl)))
  have k1 : (zt5 s.heap a b).get? s.heap.objs.size = some _ := Heap.get?_push_of_some _ (Heap.get?_push_of_some _ (Heap.get?_push_of_some _ (Heap.get?_push_of_some _ (Heap.get?_push_size _ rfl))))
  rw [s2, s3, s4] at k5
  rw [s1, s2] at k3
  rw [s3] at k4
  rw [s1] at k2
  show _ ∧ _
  rw [s4]
  exact ⟨⟨_, k5, rfl⟩, q _ ⟨k5, k3, ⟨_, _, k4⟩, ⟨_, k1, rfl, rfl⟩, ⟨_, k2, rfl, rfl⟩⟩ s5 fun c o x => Heap.get?_push_of_some _ (Heap.get?_push_of_some _ (Heap.get?_push_of_some _ (Heap.get?_push_of_some _ (Heap.get?_push_of_some _ x))))⟩
end
section
variable {X : Cx} {pins : List (Addr × Obj)} {σ : St} {H : Hp} {s : Shared} {h' : Heap}
theorem Inv.turnedL {t' : Nat} {L : List Addr} (I : Inv X pins σ H s) (k : ∀ b o, b ∉ L → s.heap.get? b = some o → h'.get? b = some o) (hL : ∀ b ∈ L, FpOk X pins H b) : Inv X pins σ H { s with heap := h', toks := t' } := by
  have no : ∀ b u, H b = some u → b ∉ L := fun b u e z => by rw [(hL b z).1] at e; cases e
  refine I.step (g' := s.gens) (d' := s.drawn) (ch := L) (fun b hb => ?_) (fun b o _ _ hc e _ => k b o hc e) (fun b o _ _ hc e _ => ⟨o.slots, k b o hc e⟩) (fun _ _ _ _ n => n)
    (fun b o hc e => ⟨o, k b o hc e⟩) (fun _ _ e => e) (fun _ _ _ e => e) (fun _ _ _ e => e) (fun m hm => ?_) (fun b u e => ?_) I.bare
  · obtain ⟨_, f1, _, f3, f4, f5⟩ := hL b hb
    exact ⟨f3, f1, f4, f5⟩
  · obtain ⟨o, es, ep, ho, r⟩ := hm
    exact ⟨o, es, ep, k _ o (fun z => (hL _ z).2.1 rfl) ho, r⟩
  · refine (I.hok b u e).stay (fun c v hc q => k c v ?_ q) (fun _ q => q) (fun _ _ _ _ _ q => q) fun _ _ q => q
    rcases hc with z | z
    · rw [z]; exact no b u e
    · exact no c _ z
theorem Inv.turnedNew {t' : Nat} {L : List Addr} {p : Addr} {o : HO} (I : Inv X pins σ H s) (k : ∀ b u, b ∉ L → s.heap.get? b = some u → h'.get? b = some u) (hL : ∀ b ∈ L, FpOk X pins H b) (hp : s.heap.objs.size ≤ p) (new : ObjOk X.prog X.w (upd H p o) h' p o)
    (hl : ∀ b ∈ L, ∃ u, h'.get? b = some u) : Inv X pins σ (upd H p o) { s with heap := h', toks := t' } := by
  have hn : H p = none := I.hok.fresh hp
  have no : ∀ b u, H b = some u → b ∉ L := fun b u e z => by rw [(hL b z).1] at e; cases e
  have ne : ∀ b u, H b = some u → upd H p o b = some u := fun b u e => by rw [zan (zat e hn)]; exact e
  refine I.step (g' := s.gens) (d' := s.drawn) (ch := L) (fun b hb => ?_) (fun b u _ _ hc e _ => k b u hc e) (fun b u _ _ hc e _ => ⟨u.slots, k b u hc e⟩) (fun b u _ e z => ?_)
    (fun b u hc e => ⟨u, k b u hc e⟩) (fun b xs e => ne b _ e) (fun b ob u e => ne b _ e) (fun b _ _ e => ne b _ e) (fun m hm => ?_) (fun b u e => ?_) I.bare
  · obtain ⟨_, f1, _, f3, f4, f5⟩ := hL b hb
    exact ⟨f3, f1, f4, f5⟩
  · rw [zan (Nat.ne_of_lt (Nat.lt_of_lt_of_le (Heap.lt_size e) hp))]; exact z
  · obtain ⟨ob, es, ep, ho, r⟩ := hm
    exact ⟨ob, es, ep, k _ ob (fun z => (hL _ z).2.1 rfl) ho, r⟩
  · by_cases hb : b = p
    · subst hb; rw [zau] at e; cases e; exact new
    · rw [zan hb] at e
      refine (I.hok b u e).stay (fun c v hc q => k c v ?_ q) (fun c q => ne c _ q) (fun c _ _ _ _ q => ne c _ q) fun c xs q => ne c _ q
      rcases hc with z | z
      · rw [z]; exact no b u e
      · exact no c _ z
end
def Itz (K : PySem.W.Frag) (a b : Addr) : It :=
  ⟨fun i H => ∃ xs ys x y, SqT K H a xs ∧ SqT K H b ys ∧ xs[i]? = some x ∧ ys[i]? = some y,
   fun i H v H' => ∃ p x y, v = .ref p ∧ New H p (.tup [x, y]) H' ∧ (∀ xs, SqT K H a xs → xs[i]? = some x) ∧ ∀ ys, SqT K H b ys → ys[i]? = some y,
   fun i H => ∃ xs ys, SqT K H a xs ∧ SqT K H b ys ∧ xs.length ≤ i⟩
theorem zmz {P : Program} {w : World} {K : PySem.W.Frag} {elts : List Expr} {x1} {tpos : Pos} (z ti ro j1 j2 a b : Addr) (D : ZipApart z ti ro j1 j2 a b) :
    Turn P w K (.Tuple elts x1 tpos) (Itz K a b) [z, ti, ro, j1, j2] z (fun i h => ZipT h z ti ro j1 j2 a b .none i) where
  mem := by simp
  obj := fun i h st c hc => by
    obtain ⟨u, v, hro⟩ := st.ro
    obtain ⟨o1, e1, c1, d1⟩ := st.j1
    obtain ⟨o2, e2, c2, d2⟩ := st.j2
    simp only [List.mem_cons, List.not_mem_nil, or_false] at hc
    rcases hc with rfl | rfl | rfl | rfl | rfl
    · exact ⟨_, st.z, fun v q => nomatch q⟩
    · exact ⟨_, st.ti, fun v q => nomatch q⟩
    · exact ⟨_, hro, fun v q => nomatch q⟩
    · exact ⟨_, e1, fun v q => by rw [d1] at q; cases q⟩
    · exact ⟨_, e2, fun v q => by rw [d2] at q; cases q⟩
  keep := fun i h h' st k => by
    obtain ⟨u, v, hro⟩ := st.ro
    exact ⟨k z (by simp) _ st.z, k ti (by simp) _ st.ti, ⟨u, v, k ro (by simp) _ hro⟩, st.j1.at fun o e => k j1 (by simp) o e, st.j2.at fun o e => k j2 (by simp) o e⟩
  item := by
    intro X hP hw hK hc i pins s σ H E I hf st hg
    subst hP hw hK
    obtain ⟨xs, ys, x, y, hx, hy, ex, ey⟩ := hg
    obtain ⟨its1, r1, p1, _⟩ := I.tuple hx
    obtain ⟨its2, r2, p2, _⟩ := I.tuple hy
    obtain ⟨u, hu, ru⟩ := r1.get ex
    obtain ⟨v, hv, rv⟩ := r2.get ey
    have fz := hf z (by simp)
    refine zpe D st (show s.heap.IsTuple a its1.toArray from p1) (show s.heap.IsTuple b its2.toArray from p2) (x := u) (y := v) (by simpa using hu) (by simpa using hv) fun h1 Z1 q1 sz1 k1 => ⟨_, rfl, ?_⟩
    refine wpAny_letOwnedTupleGo_zip Z1.z fun h2 z2 sb2 => ?_
    have hlt : ∀ c ∈ [z, ti, ro, j1, j2], c ≠ s.heap.objs.size := fun c hc => by
      obtain ⟨o, e, _⟩ : ∃ o, s.heap.get? c = some o ∧ True := by
        obtain ⟨u', v', hro⟩ := st.ro
        obtain ⟨o1, e1, _⟩ := st.j1
        obtain ⟨o2, e2, _⟩ := st.j2
        simp only [List.mem_cons, List.not_mem_nil, or_false] at hc
        rcases hc with rfl | rfl | rfl | rfl | rfl
        · exact ⟨_, st.z, trivial⟩
        · exact ⟨_, st.ti, trivial⟩
        · exact ⟨_, hro, trivial⟩
        · exact ⟨_, e1, trivial⟩
        · exact ⟨_, e2, trivial⟩
      exact Nat.ne_of_lt (Heap.lt_size e)
    have k2 : ∀ c o, c ∉ [z, ti, ro, j1, j2] → s.heap.get? c = some o → h2.get? c = some o := fun c o hc e => by
      have hz : c ≠ z := fun q => hc (by simp [q])
      exact sb2.extBut _ _ hz (k1 c o hz (fun q => hc (by simp [q])) (fun q => hc (by simp [q])) (fun q => hc (by simp [q])) e)
    have tup2 : h2.get? s.heap.objs.size = some { cls := .type "tuple", data := .seq #[u, v] } := sb2.extBut _ _ (Ne.symm (hlt z (by simp))) q1
    have st2 : ZipT h2 z ti ro j1 j2 a b .none (i + 1) := by
      obtain ⟨u', v', hro⟩ := Z1.ro
      exact ⟨z2, sb2.extBut _ _ D.TIz Z1.ti, ⟨u', v', sb2.extBut _ _ D.TOz hro⟩, Z1.j1.extBut sb2.extBut D.i1z, Z1.j2.extBut sb2.extBut D.i2z⟩
    have there : ∀ c ∈ [z, ti, ro, j1, j2], ∃ o, h2.get? c = some o := fun c hc => by
      obtain ⟨u', v', hro⟩ := st2.ro
      obtain ⟨o1, e1, _⟩ := st2.j1
      obtain ⟨o2, e2, _⟩ := st2.j2
      simp only [List.mem_cons, List.not_mem_nil, or_false] at hc
      rcases hc with rfl | rfl | rfl | rfl | rfl
      · exact ⟨_, st2.z⟩
      · exact ⟨_, st2.ti⟩
      · exact ⟨_, hro⟩
      · exact ⟨_, e1⟩
      · exact ⟨_, e2⟩
    have I2 : Inv X pins σ (upd H s.heap.objs.size (.tup [x, y])) { s with heap := h2, toks := s.toks } := I.turnedNew k2 hf (Nat.le_refl _) ⟨zaa (by simp), [u, v], .cons ru (.cons rv .nil), ⟨_, tup2, rfl, _, rfl⟩⟩ there
    refine ⟨.ref s.heap.objs.size, _, I2, rfl, ⟨_, x, y, rfl, .mk' I.fresh _, fun ws hw => by rw [I.tuple_inj hw hx]; exact ex, fun ws hw => by rw [I.tuple_inj hw hy]; exact ey⟩, st2, fun c hc => ?_⟩
    rw [zan (hlt c hc)]
    exact (hf c hc).1
  done := by
    intro X hP hw hK hc i pins s σ H E I hf st hg
    subst hP hw hK
    obtain ⟨xs, ys, hx, hy, hl⟩ := hg
    obtain ⟨its1, r1, p1, _⟩ := I.tuple hx
    obtain ⟨its2, r2, p2, _⟩ := I.tuple hy
    have l1 := r1.length
    exact zra (I.ok.hd hc) D st (show s.heap.IsTuple a its1.toArray from p1) (show s.heap.IsTuple b its2.toArray from p2) (by simp; omega) fun h' k => ⟨rfl, I.turnedL (t' := s.toks) (fun c o hc e => k c o (fun q => hc (by simp [q])) (fun q => hc (by simp [q])) (fun q => hc (by simp [q])) (fun q => hc (by simp [q])) e) hf⟩
  self := fun _ _ _ _ _ st h => wpAny_pyIter_zip st.z h
def iZip (K : PySem.W.Frag) (ta : TA) : TI := fun σ H R => ta σ H fun vs H1 => ∃ a b, vs = [.ref a, .ref b] ∧ (∃ xs, SqT K H1 a xs) ∧ (∃ ys, SqT K H1 b ys) ∧ R (Itz K a b) H1
theorem zrl {X : Cx} {elts : List Expr} {x1} {tpos : Pos} {a b : Expr} {ta : TA} {p pos : Pos} (hg : Gl X "zip") (hm : X.mg "zip" = none) (ha : PA X [a, b] ta) (h1 : notStar a = true := by rfl) (h2 : notStar b = true := by rfl) : PI X (.Tuple elts x1 tpos) (.Call (.Name "zip" p) [a, b] [] pos) (iZip X.K ta) := by
  intro pins s σ H R I h
  have hs2 : starEach [b] X.env = [(false, eval b X.env)] := by rw [zbc h2, starEach.eq_def]
  have hs : starEach [a, b] X.env = [(false, eval a X.env), (false, eval b X.env)] := by rw [zbc h1, hs2]
  refine Call_ (zgk I hg hm boot_zip (PyProof.Rows.callWith_type1 (thn (ha pos pins s σ H _ I h) fun us s1 ⟨vs, H1, I1, r1, q1⟩ => ?_) (by rw [hs, hs2]) (by rw [hs2]; rfl)))
  obtain ⟨p1, p2, e, ⟨xs, hx⟩, ⟨ys, hy⟩, q⟩ := q1
  subst e
  obtain ⟨u, v, rfl, ru, rv⟩ := vals2 r1
  cases (show u = Value.ref p1 from ru)
  cases (show v = Value.ref p2 from rv)
  obtain ⟨its1, _, t1, _⟩ := I1.tuple hx
  obtain ⟨its2, _, t2, _⟩ := I1.tuple hy
  have l1 : p1 < s1.heap.objs.size := by obtain ⟨_, e, _⟩ := t1; exact Heap.lt_size e
  have l2 : p2 < s1.heap.objs.size := by obtain ⟨_, e, _⟩ := t2; exact Heap.lt_size e
  refine zpf (show s1.heap.IsTuple p1 its1.toArray from t1) (show s1.heap.IsTuple p2 its2.toArray from t2) fun h' Z sz k => wpAny_pyIter_zip Z.z ?_
  refine ⟨_, [s1.heap.objs.size + 4, s1.heap.objs.size + 2, s1.heap.objs.size + 3, s1.heap.objs.size, s1.heap.objs.size + 1], _, _, H1, rfl, I1.kept (t' := s1.toks) k, zmz _ _ _ _ _ p1 p2 (zipApart_new l1 l2), Z, fun c hc => ?_, q⟩
  have hle : s1.heap.objs.size ≤ c := by
    simp only [List.mem_cons, List.not_mem_nil, or_false] at hc
    rcases hc with rfl | rfl | rfl | rfl | rfl
    · exact Nat.le_add_right _ _
    · exact Nat.le_add_right _ _
    · exact Nat.le_add_right _ _
    · exact Nat.le_refl _
    · exact Nat.le_add_right _ _
  exact I1.fpOk hle (I1.hok.fresh hle)
theorem zp7 {X : Cx} (K : PySem.W.Frag) {elts : List Expr} {x1} {tpos : Pos} {a b : Expr} {ta : TA} {p pos : Pos} (hg : Gl X "zip") (hm : X.mg "zip" = none) (ha : PA X [a, b] ta) (h : X.K = K := by rfl) (h1 : notStar a = true := by rfl) (h2 : notStar b = true := by rfl) :
    PI X (.Tuple elts x1 tpos) (.Call (.Name "zip" p) [a, b] [] pos) (iZip K ta) := h ▸ zrl hg hm ha h1 h2
theorem zhj {X : Cx} (K : PySem.W.Frag) {es : List Expr} {k : Nat} {t : TGs} {n : Nat} {pos : Pos} (hc : X.calm = true) (h : PGs X es t) (hK : X.K = K := by rfl)
    (hn : (assignEach es X.env).length = n := by rfl) (hst : (assignEach es X.env).findIdx? (·.1) = none := by rfl) : PG X (.Tuple es k pos) (gTup K n t) := hK ▸ zro hc h hn hst
section
variable {tn : List Str} {cp : List (Nat × Str)} {g : TG} {tif : TT} {te : TE} {σ0 : St} {Q : VK} {H1 : Hp} {K : PySem.W.Frag} {a b : Addr} {xs ys : List V}
theorem zsi (S : St → Prop) (f : Nat → V) (hn : xs.length ≤ 1000) (hl : xs.length = ys.length) (ha : SqT K H1 a xs) (hb : SqT K H1 b ys) (h0 : S (stB tn cp σ0))
    (hs : ∀ D i σ H H' p x y, xs[i]? = some x → ys[i]? = some y → Same H1 H → H1 D = none → H D = some (.lst ((List.range i).map f)) → S σ → New H p (.tup [x, y]) H' → g (.ref p) σ H' fun σ2 H2 => tif σ2 H2 fun c H3 =>
      if c = true then te σ2 H3 fun v H4 => CStep D xs.length i (fun i ws σ H => Same H1 H ∧ S σ ∧ ws = (List.range i).map f) σ2 v H4 else CSkip D xs.length i (fun i ws σ H => Same H1 H ∧ S σ ∧ ws = (List.range i).map f) σ2 H3)
    (hd : ∀ D H, H1 D = none → Same H1 H → H D = some (.lst ((List.range xs.length).map f)) → Q (.ref D) H) : cBody tn cp g tif te σ0 Q (Itz K a b) H1 := by
  refine zot xs.length (fun D i ws σ H => Same H1 H ∧ S σ ∧ ws = (List.range i).map f) (zaa hn) (fun D hD => ⟨za8 hD _, h0, rfl⟩) (fun D i ws σ H hD hi hH p => ⟨xs, ys, xs[i], ys[i], p.1.seqT ha, p.1.seqT hb, by simp [hi], by simp [hl ▸ hi]⟩)
    (fun D ws σ H hD hH p => ⟨xs, ys, p.1.seqT ha, p.1.seqT hb, Nat.le_refl _⟩) ?_ ?_
  · rintro D i ws σ H v H' hD hi hH hlw ⟨p1, p2, rfl⟩ ⟨p, x, y, rfl, nw, ex, ey⟩
    exact hs D i σ H H' p x y (ex _ (p1.seqT ha)) (ey _ (p1.seqT hb)) p1 hD hH p2 nw
  · rintro D ws σ H hD hH hlw ⟨p1, p2, rfl⟩
    exact hd D H hD p1 hH
theorem zhu {S : St → Prop} {f : Nat → V} {D : Addr} {i : Nat} {v : V} {σ2 : St} {H4 : Hp} (hn : xs.length ≤ 1000) (hi : i < xs.length) (hD : H1 D = none) (h4 : H4 D = some (.lst ((List.range i).map f))) (g4 : Same H1 H4) (s2 : S σ2) (e : v = f i) :
    CStep D xs.length i (fun i ws σ H => Same H1 H ∧ S σ ∧ ws = (List.range i).map f) σ2 v H4 := by
  refine cstep (zaa hn) hi h4 (by rw [List.length_map, List.length_range]; exact Nat.le_refl _) ⟨g4.wr hD _, s2, ?_⟩
  rw [List.range_succ, List.map_append, e]
  rfl
end
def DctK (K : PySem.W.Frag) (w : World) (a : Addr) (f : Str → Option V) : Prop := (a == sysModules) = false ∧ ∃ (es : Array DictEntry) (n : Nat), K.lookup a = some ⟨.type "dict", none, .dict es n, #[]⟩ ∧ PySem.W.KeysLit w.params es.toList ∧ ∀ x, RelO (f x) (findBy Value.isStrOf es x)
section
variable {X : Cx} (K : PySem.W.Frag) (w : World)
def rInD (neg : Bool) : R2 := fun x y H Q => ∃ z a f, x = .str z ∧ y = .ref a ∧ DctK K w a f ∧ Q (.bl (if neg then !(f z).isSome else (f z).isSome)) H
theorem zgg (hK : X.K = K := by rfl) (hw : X.w = w := by rfl) : OpR X (compareOp .NotIn) (rInD K w true) := by
  subst hK hw
  intro pins s σ H x y v u Q I rx ry h
  obtain ⟨z, a, f, rfl, rfl, ⟨lo, es, n, hl, hk, hr⟩, q⟩ := h
  obtain ⟨t, rfl⟩ := rx
  cases (show u = Value.ref a from ry)
  refine wpAny_notIn_of (strKind_is X.prog X.w z t) lo (PySem.W.mapOf_K (prog := X.prog) I.kIn hl hk) ?_
  rw [← (hr z).isSome_eq]
  exact ⟨.bl _, H, I.tok _, rfl, q⟩
def rIxD : R2 := fun x y H Q => ∃ a z f v, x = .ref a ∧ y = .str z ∧ DctK K w a f ∧ f z = some v ∧ Q v H
theorem zsc (hK : X.K = K := by rfl) (hw : X.w = w := by rfl) : IxR X (rIxD K w) := by
  subst hK hw
  intro value slice pins s σ H x y v u Q I rx ry h hs
  obtain ⟨a, z, f, r, rfl, rfl, ⟨lo, es, n, hl, hk, hr⟩, e, q⟩ := h
  cases (show v = Value.ref a from rx)
  obtain ⟨t, rfl⟩ := ry
  have hm := PySem.W.mapOf_K (prog := X.prog) I.kIn hl hk
  obtain ⟨w', hw', rw'⟩ := RelO.some_of (v := r) (o := findBy Value.isStrOf es z) (by rw [← e]; exact hr z)
  exact tail_any hm.typeIs slot_dict_getitem.lookup (wpAny_getItem_of (strKind_is X.prog X.w z t) hm hw' ⟨r, H, I.tok _, rw', q⟩) hs
end
section
variable {tn : List Str} {cp : List (Nat × Str)} {g : TG} {tif : TT} {te : TE} {σ0 : St} {Q : VK} {H1 : Hp} {K : PySem.W.Frag} {a : Addr} {xs : List V}
theorem zmo (S : St → Prop) (f : Nat → V) (hn : xs.length ≤ 1000) (hS : SqL K H1 a xs) (h0 : S (stB tn cp σ0))
    (hs : ∀ D i σ H x, i < xs.length → xs[i]? = some x → Same H1 H → H1 D = none → H D = some (.lst ((List.range i).map f)) → S σ → g x σ H fun σ2 H2 => tif σ2 H2 fun c H3 =>
      if c = true then te σ2 H3 fun v H4 => CStep D xs.length i (fun i ws σ H => Same H1 H ∧ S σ ∧ ws = (List.range i).map f) σ2 v H4 else CSkip D xs.length i (fun i ws σ H => Same H1 H ∧ S σ ∧ ws = (List.range i).map f) σ2 H3)
    (hd : ∀ D H, H1 D = none → Same H1 H → H D = some (.lst ((List.range xs.length).map f)) → Q (.ref D) H) : cBody tn cp g tif te σ0 Q (Itl K a) H1 := by
  refine zfp (K := K) (a := a) (xs := xs) (fun D i ws σ H => Same H1 H ∧ S σ ∧ ws = (List.range i).map f) (zaa hn) (fun D hD => ⟨za8 hD _, h0, rfl⟩) (fun D i ys σ H _ _ _ p => p.1.seq hS) ?_ ?_
  · rintro D i ys σ H x hD hi hx hH hl ⟨p1, p2, rfl⟩
    exact hs D i σ H x hi hx p1 hD hH p2
  · rintro D ys σ H hD hH hl ⟨p1, p2, rfl⟩
    exact hd D H hD p1 hH
end
end L2
namespace SS
open PySem PySem.Spec PyProof.Rows L2
def forms : List (Str × List Str) := [("in", ["place", "set"]), ("same", ["place", "place"]), ("within", ["set", "set"]), ("ahead", ["place", "place"]), ("next", ["place", "place"]), ("left", ["place", "place"]), ("right", ["place", "place"]), ("above", ["place", "place"]),
  ("not", ["saying"]), ("and", ["saying", "saying"]), ("or", ["saying", "saying"]), ("some", ["name", "saying"]), ("all", ["name", "saying"])]
def sortB (form : V → Bool) (x : V) (s : Str) : Bool := if s = "place" then isNm x SMALL else if s = "set" then isNm x GREAT else if s = "name" then isName x else form x
def zipB (form : V → Bool) : List V → List Str → Bool
  | [], [] => true
  | x :: xs, s :: ss => sortB form x s && zipB form xs ss
  | _, _ => false
def formH (H : Hp) : Nat → V → Bool
  | 0, _ => false
  | n + 1, .ref a => match H a with
    | some (.tup (.str w :: r)) => match forms.lookup w with
      | some ss => zipB (formH H n) r ss
      | none => false
    | _ => false
  | _ + 1, _ => false
def Exp (H : Hp) : Nat → V → Prop
  | 0, v => Thing H v
  | n + 1, v => Thing H v ∧ ∀ a xs, v = .ref a → H a = some (.tup xs) → xs.length ≤ 1000 ∧ ∀ x ∈ xs, Exp H n x
theorem Exp.thing {H : Hp} : ∀ {n : Nat} {v : V}, Exp H n v → Thing H v
  | 0, _, h => h
  | _ + 1, _, h => h.1
theorem Thing.same_tup {H H' : Hp} {a : Addr} {xs : List V} (h : Thing H (.ref a)) (g : Same H H') (e : H' a = some (.tup xs)) : H a = some (.tup xs) := by
  obtain ⟨⟨k, hk⟩, _⟩ := h
  cases hk with
  | lst z => rw [g _ _ z] at e; cases e
  | tup z => rw [g _ _ z] at e; cases e; exact z
  | dK z => rw [g _ _ z] at e; cases e
theorem Exp.same {H H' : Hp} (g : Same H H') : ∀ {n : Nat} {v : V}, Exp H n v → Exp H' n v
  | 0, _, h => Thing.same h g
  | n + 1, v, h => ⟨h.1.same g, fun a xs ev e => by
    subst ev
    obtain ⟨h1, h2⟩ := h.2 a xs rfl (h.1.same_tup g e)
    exact ⟨h1, fun x hx => (h2 x hx).same g⟩⟩
theorem zeq {f g : V → Bool} : ∀ {xs : List V} {ss : List Str}, (∀ x ∈ xs, f x = g x) → zipB f xs ss = zipB g xs ss
  | [], [], _ => rfl
  | [], _ :: _, _ => rfl
  | _ :: _, [], _ => rfl
  | x :: xs, s :: ss, h => by
    show (sortB f x s && zipB f xs ss) = (sortB g x s && zipB g xs ss)
    rw [zeq fun y hy => h y (List.mem_cons_of_mem _ hy)]
    unfold sortB
    rw [h x List.mem_cons_self]
theorem zcj {H H' : Hp} (g : Same H H') : ∀ {n : Nat} {v : V}, Exp H n v → formH H' n v = formH H n v
  | 0, _, _ => rfl
  | n + 1, v, h => by
    cases v with
    | ref a =>
      obtain ⟨⟨k, hk⟩, _⟩ := h.1
      cases hk with
      | lst z => simp only [formH, z, g _ _ z]
      | dK z => simp only [formH, z, g _ _ z]
      | tup z =>
        rename_i xs
        have hx := (h.2 a xs rfl z).2
        simp only [formH, z, g _ _ z]
        cases xs with
        | nil => rfl
        | cons x r =>
          cases x with
          | str wd =>
            simp only []
            cases forms.lookup wd with
            | none => rfl
            | some ss => exact zeq fun y hy => zcj g (hx y (List.mem_cons_of_mem _ hy))
          | _ => rfl
    | _ => rfl
theorem zh6 {f : V → Bool} : ∀ {xs : List V} {ss : List Str}, xs.length ≠ ss.length → zipB f xs ss = false
  | [], [], h => absurd rfl h
  | [], _ :: _, _ => rfl
  | _ :: _, [], _ => rfl
  | x :: xs, s :: ss, h => by
    show (sortB f x s && zipB f xs ss) = false
    rw [zh6 fun z => h (congrArg (· + 1) z), Bool.and_false]
theorem zep {f : V → Bool} : ∀ {xs : List V} {ss : List Str}, xs.length = ss.length → zipB f xs ss = (List.range xs.length).all fun i => sortB f (xs.getD i .non) (ss.getD i "")
  | [], [], _ => rfl
  | [], _ :: _, h => nomatch h
  | _ :: _, [], h => nomatch h
  | x :: xs, s :: ss, h => by
    show (sortB f x s && zipB f xs ss) = _
    rw [zep (Nat.succ.inj h), List.length_cons, List.range_succ_eq_map, List.all_cons, List.all_map]
    rfl
def ze4 (n : Nat) : Sp := fun vs H Q _ => ∃ v, vs = [v, .int n] ∧ Exp H n v ∧ ∀ H', Same H H' → Q (.bl (formH H n v)) H'
def zg7 (n : Nat) : Sp := fun vs H Q _ => ∃ v s, vs = [v, .str s, .int n] ∧ Exp H n v ∧ ∀ H', Same H H' → Q (.bl (sortB (formH H n) v s)) H'
def sp_sort' : Nat → Sp
  | 0 => fun _ _ _ _ => False
  | n + 1 => zg7 n
def wfB : Sy → Bool
  | .bare w n m => if w = "in" then isPl n && isSt m else if w = "within" then isSt n && isSt m else isPl n && isPl m
  | .neg s => wfB s
  | .two _ s t => wfB s && wfB t
  | .qu _ n s => isName (.str n) && wfB s
def letB (barred : List Str) (most : Nat) : List Str → Sy → Bool
  | known, .bare w n m => decide (known.length ≤ most) && decide (w ∉ barred) && (decide (n ∈ known) && decide (m ∈ known))
  | known, .neg s => decide (known.length ≤ most) && decide (("not" : Str) ∉ barred) && letB barred most known s
  | known, .two w s t => decide (known.length ≤ most) && decide (w ∉ barred) && (letB barred most known s && letB barred most known t)
  | known, .qu w n s => decide (known.length ≤ most) && decide (w ∉ barred) && (decide (n ∉ known) && letB barred most (known ++ [n]) s)
theorem Rep.det {H : Hp} {v : V} {s t : Sy} (r : Rep H v s) (q : Rep H v t) : s = t := by
  induction r generalizing t with
  | bare hw e =>
    cases q with
    | bare hw' e' => rw [e] at e'; cases e'; rfl
    | neg e' _ => rw [e] at e'; cases e'
    | two hw' e' h1 _ => rw [e] at e'; cases e'; cases h1
    | qu hw' e' h1 => rw [e] at e'; cases e'; cases h1
  | neg e _ ih =>
    cases q with
    | bare hw' e' => rw [e] at e'; cases e'
    | neg e' h' => rw [e] at e'; cases e'; rw [ih h']
    | two hw' e' _ _ => rw [e] at e'; cases e'
    | qu hw' e' _ => rw [e] at e'; cases e'
  | two hw e h1 h2 ih1 ih2 =>
    cases q with
    | bare hw' e' => rw [e] at e'; cases e'; cases h1
    | neg e' _ => rw [e] at e'; cases e'
    | two hw' e' a b => rw [e] at e'; cases e'; rw [ih1 a, ih2 b]
    | qu hw' e' b => rw [e] at e'; cases e'; cases h1
  | qu hw e h ih =>
    cases q with
    | bare hw' e' => rw [e] at e'; cases e'; cases h
    | neg e' _ => rw [e] at e'; cases e'
    | two hw' e' a b => rw [e] at e'; cases e'; cases a
    | qu hw' e' b => rw [e] at e'; cases e'; rw [ih b]
end SS
set_option maxHeartbeats 1000000
namespace SS
open PySem PySem.Spec PyProof.Rows L2
section
variable {f : V → Bool} {x y : V} {r : List V} {s1 s2 : Str}
theorem zdr : sortB f x "place" = isNm x SMALL := if_pos rfl
theorem zdq : sortB f x "set" = isNm x GREAT := by unfold sortB; rw [if_neg (by decide +kernel), if_pos rfl]
theorem zkn : sortB f x "name" = isName x := by unfold sortB; rw [if_neg (by decide +kernel), if_neg (by decide +kernel), if_pos rfl]
theorem zcp : sortB f x "saying" = f x := by unfold sortB; rw [if_neg (by decide +kernel), if_neg (by decide +kernel), if_neg (by decide +kernel)]
theorem zip_one : zipB f r [s1] = true ↔ ∃ x, r = [x] ∧ sortB f x s1 = true := by
  cases r with
  | nil => simp [zipB]
  | cons x r =>
    cases r with
    | nil => simp [zipB]
    | cons y r => simp [zipB]
theorem zip_two : zipB f r [s1, s2] = true ↔ ∃ x y, r = [x, y] ∧ sortB f x s1 = true ∧ sortB f y s2 = true := by
  cases r with
  | nil => simp [zipB]
  | cons x r =>
    cases r with
    | nil => simp [zipB]
    | cons y r =>
      cases r with
      | nil =>
        rw [show zipB f [x, y] [s1, s2] = (sortB f x s1 && (sortB f y s2 && true)) from rfl, Bool.and_true, Bool.and_eq_true]
        exact ⟨fun h => ⟨x, y, rfl, h⟩, fun ⟨x', y', e, h⟩ => by cases e; exact h⟩
      | cons z r => simp [zipB]
theorem zew {l : Str} (h : isNm x l = true) : ∃ z, x = .str z := by
  cases x with
  | str z => exact ⟨z, rfl⟩
  | _ => cases h
end
theorem zog {wd : Str} {ss : List Str} (h : forms.lookup wd = some ss) : (wd = "in" ∧ ss = (["place", "set"] : List Str)) ∨ (wd = "within" ∧ ss = (["set", "set"] : List Str)) ∨ (wd ∈ bareWords ∧ ¬ wd = ("in" : Str) ∧ ¬ wd = ("within" : Str) ∧ ss = (["place", "place"] : List Str)) ∨
    (wd = "not" ∧ ss = (["saying"] : List Str)) ∨ (wd ∈ (["and", "or"] : List Str) ∧ ss = (["saying", "saying"] : List Str)) ∨ (wd ∈ (["some", "all"] : List Str) ∧ ss = (["name", "saying"] : List Str)) := by
  have m := mem_of_lookup' h
  simp only [forms, List.mem_cons, List.not_mem_nil, or_false, Prod.mk.injEq] at m
  rcases m with ⟨rfl, rfl⟩ | ⟨rfl, rfl⟩ | ⟨rfl, rfl⟩ | ⟨rfl, rfl⟩ | ⟨rfl, rfl⟩ | ⟨rfl, rfl⟩ | ⟨rfl, rfl⟩ | ⟨rfl, rfl⟩ | ⟨rfl, rfl⟩ | ⟨rfl, rfl⟩ | ⟨rfl, rfl⟩ | ⟨rfl, rfl⟩ | ⟨rfl, rfl⟩
  · exact .inl ⟨rfl, rfl⟩
  · exact .inr (.inr (.inl ⟨by decide +kernel, by decide +kernel, by decide +kernel, rfl⟩))
  · exact .inr (.inl ⟨rfl, rfl⟩)
  · exact .inr (.inr (.inl ⟨by decide +kernel, by decide +kernel, by decide +kernel, rfl⟩))
  · exact .inr (.inr (.inl ⟨by decide +kernel, by decide +kernel, by decide +kernel, rfl⟩))
  · exact .inr (.inr (.inl ⟨by decide +kernel, by decide +kernel, by decide +kernel, rfl⟩))
  · exact .inr (.inr (.inl ⟨by decide +kernel, by decide +kernel, by decide +kernel, rfl⟩))
  · exact .inr (.inr (.inl ⟨by decide +kernel, by decide +kernel, by decide +kernel, rfl⟩))
  · exact .inr (.inr (.inr (.inl ⟨rfl, rfl⟩)))
  · exact .inr (.inr (.inr (.inr (.inl ⟨by decide +kernel, rfl⟩))))
  · exact .inr (.inr (.inr (.inr (.inl ⟨by decide +kernel, rfl⟩))))
  · exact .inr (.inr (.inr (.inr (.inr ⟨by decide +kernel, rfl⟩))))
  · exact .inr (.inr (.inr (.inr (.inr ⟨by decide +kernel, rfl⟩))))
theorem zjy : ∀ wd ∈ bareWords, forms.lookup wd = some (if wd = ("in" : Str) then (["place", "set"] : List Str) else if wd = ("within" : Str) then (["set", "set"] : List Str) else (["place", "place"] : List Str)) := by decide +kernel
theorem zjx : ∀ wd ∈ (["and", "or"] : List Str), forms.lookup wd = some (["saying", "saying"] : List Str) := by decide +kernel
theorem zjw : ∀ wd ∈ (["some", "all"] : List Str), forms.lookup wd = some (["name", "saying"] : List Str) := by decide +kernel
theorem zma : forms.lookup ("not" : Str) = some (["saying"] : List Str) := by decide +kernel
theorem zb3 {H : Hp} : ∀ {n : Nat} {v : V}, formH H n v = true → ∃ s, Rep H v s ∧ wfB s = true ∧ s.depth ≤ n
  | 0, _, h => by cases h
  | n + 1, v, h => by
    cases v with
    | ref a =>
      simp only [formH] at h
      split at h
      · rename_i wd r e
        split at h
        · rename_i ss hs
          rcases zog hs with ⟨rfl, rfl⟩ | ⟨rfl, rfl⟩ | ⟨hw, n1, n2, rfl⟩ | ⟨rfl, rfl⟩ | ⟨hw, rfl⟩ | ⟨hw, rfl⟩
          · obtain ⟨x, y, rfl, h1, h2⟩ := zip_two.mp h
            rw [zdr] at h1
            rw [zdq] at h2
            obtain ⟨z1, rfl⟩ := zew h1
            obtain ⟨z2, rfl⟩ := zew h2
            refine ⟨.bare "in" z1 z2, .bare (by decide +kernel) e, ?_, Nat.succ_le_succ (Nat.zero_le _)⟩
            show (if _ then _ else _) = true
            rw [if_pos rfl, Bool.and_eq_true]
            exact ⟨h1, h2⟩
          · obtain ⟨x, y, rfl, h1, h2⟩ := zip_two.mp h
            rw [zdq] at h1 h2
            obtain ⟨z1, rfl⟩ := zew h1
            obtain ⟨z2, rfl⟩ := zew h2
            refine ⟨.bare "within" z1 z2, .bare (by decide +kernel) e, ?_, Nat.succ_le_succ (Nat.zero_le _)⟩
            show (if _ then _ else if _ then _ else _) = true
            rw [if_neg (by decide +kernel), if_pos rfl, Bool.and_eq_true]
            exact ⟨h1, h2⟩
          · obtain ⟨x, y, rfl, h1, h2⟩ := zip_two.mp h
            rw [zdr] at h1 h2
            obtain ⟨z1, rfl⟩ := zew h1
            obtain ⟨z2, rfl⟩ := zew h2
            refine ⟨.bare wd z1 z2, .bare hw e, ?_, Nat.succ_le_succ (Nat.zero_le _)⟩
            show (if _ then _ else if _ then _ else _) = true
            rw [if_neg n1, if_neg n2, Bool.and_eq_true]
            exact ⟨h1, h2⟩
          · obtain ⟨x, rfl, h1⟩ := zip_one.mp h
            rw [zcp] at h1
            obtain ⟨s, r, w1, d1⟩ := zb3 h1
            exact ⟨.neg s, .neg e r, w1, Nat.succ_le_succ d1⟩
          · obtain ⟨x, y, rfl, h1, h2⟩ := zip_two.mp h
            rw [zcp] at h1 h2
            obtain ⟨s, r, w1, d1⟩ := zb3 h1
            obtain ⟨t, q, w2, d2⟩ := zb3 h2
            refine ⟨.two wd s t, .two hw e r q, ?_, Nat.succ_le_succ (Nat.max_le.mpr ⟨d1, d2⟩)⟩
            show (wfB s && wfB t) = true
            rw [w1, w2]
            rfl
          · obtain ⟨x, y, rfl, h1, h2⟩ := zip_two.mp h
            rw [zkn] at h1
            rw [zcp] at h2
            obtain ⟨z1, rfl⟩ := zc1 h1
            obtain ⟨t, q, w2, d2⟩ := zb3 h2
            refine ⟨.qu wd z1 t, .qu hw e q, ?_, Nat.succ_le_succ d2⟩
            show (isName _ && wfB t) = true
            rw [h1, w2]
            rfl
        · cases h
      · cases h
    | _ => cases h
theorem zfa {H : Hp} {v : V} {s : Sy} (r : Rep H v s) : ∀ {n : Nat}, wfB s = true → s.depth ≤ n → formH H n v = true := by
  induction r with
  | bare hw e =>
    rename_i a wd n1 m1
    intro n h d
    cases n with
    | zero => exact absurd d (by show ¬ 1 ≤ 0; decide)
    | succ n =>
      simp only [formH, e, zjy wd hw]
      by_cases c1 : wd = ("in" : Str)
      · rw [if_pos c1]
        have h' : (isPl n1 && isSt m1) = true := by have z : (if _ then _ else _) = true := h; rw [if_pos c1] at z; exact z
        rw [Bool.and_eq_true] at h'
        exact zip_two.mpr ⟨_, _, rfl, by rw [zdr]; exact h'.1, by rw [zdq]; exact h'.2⟩
      · rw [if_neg c1]
        by_cases c2 : wd = ("within" : Str)
        · rw [if_pos c2]
          have h' : (isSt n1 && isSt m1) = true := by have z : (if _ then _ else if _ then _ else _) = true := h; rw [if_neg c1, if_pos c2] at z; exact z
          rw [Bool.and_eq_true] at h'
          exact zip_two.mpr ⟨_, _, rfl, by rw [zdq]; exact h'.1, by rw [zdq]; exact h'.2⟩
        · rw [if_neg c2]
          have h' : (isPl n1 && isPl m1) = true := by have z : (if _ then _ else if _ then _ else _) = true := h; rw [if_neg c1, if_neg c2] at z; exact z
          rw [Bool.and_eq_true] at h'
          exact zip_two.mpr ⟨_, _, rfl, by rw [zdr]; exact h'.1, by rw [zdr]; exact h'.2⟩
  | neg e _ ih =>
    intro n h d
    cases n with
    | zero => exact absurd d (Nat.not_succ_le_zero _)
    | succ n =>
      simp only [formH, e, zma]
      exact zip_one.mpr ⟨_, rfl, by rw [zcp]; exact ih h (Nat.le_of_succ_le_succ d)⟩
  | two hw e _ _ ih1 ih2 =>
    rename_i s t _ _
    intro n h d
    cases n with
    | zero => exact absurd d (Nat.not_succ_le_zero _)
    | succ n =>
      have d' := Nat.max_le.mp (Nat.le_of_succ_le_succ d)
      have h' : (wfB s && wfB t) = true := h
      rw [Bool.and_eq_true] at h'
      simp only [formH, e, zjx _ hw]
      exact zip_two.mpr ⟨_, _, rfl, by rw [zcp]; exact ih1 h'.1 d'.1, by rw [zcp]; exact ih2 h'.2 d'.2⟩
  | qu hw e _ ih =>
    rename_i nm _ s _
    intro n h d
    cases n with
    | zero => exact absurd d (Nat.not_succ_le_zero _)
    | succ n =>
      have h' : (isName (.str nm) && wfB s) = true := h
      rw [Bool.and_eq_true] at h'
      simp only [formH, e, zjw _ hw]
      exact zip_two.mpr ⟨_, _, rfl, by rw [zkn]; exact h'.1, by rw [zcp]; exact ih h'.2 (Nat.le_of_succ_le_succ d)⟩
def zdj (n : Nat) : Sp := fun vs H Q _ => ∃ v s, vs = [v] ∧ Rep H v s ∧ s.depth < n ∧ ∀ H', Same H H' → Q (.int s.parts) H'
def AnySay (H : Hp) (v : V) (s : Sy) : Prop := Rep H v s ∧ wfB s = true ∧ s.depth ≤ 12 ∧ s.parts ≤ 60
def zf6 : Sp := fun vs H Q _ => ∃ v, vs = [v] ∧ Exp H 12 v ∧ ∀ b H', Same H H' → (b = true ↔ ∃ s, AnySay H v s) → Q (.bl b) H'
def zf1 (K : PySem.W.Frag) (bw : List Str) (n : Nat) : Sp := fun vs H Q _ => ∃ v a ba s tl mo, vs = [v, .ref a, .ref ba, .int (mo : Nat)] ∧ Rep H v s ∧ s.depth < n ∧ H a = some (.lst (List.map V.str tl)) ∧ tl.length + s.depth ≤ 300 ∧ (∀ H, SqT K H ba (bw.map V.str)) ∧ ∀ H', Same H H' → Q (.bl (letB bw mo tl s)) H'
def SayOk (H : Hp) (bw : List Str) (mo : Nat) (v fv : V) : Prop := ∃ a tl s, fv = .ref a ∧ H a = some (.lst (List.map V.str tl)) ∧ frameB (List.map V.str tl) = true ∧ AnySay H v s ∧ letB bw mo tl s = true
def zie (bw : List Str) (mo : Nat) : Sp := fun vs H Q _ => ∃ v fv, vs = [v, fv] ∧ Exp H 12 v ∧ Thing H fv ∧ (∀ a xs, fv = .ref a → H a = some (.lst xs) → Things H xs) ∧ ∀ b H', Same H H' → (b = true ↔ SayOk H bw mo v fv) → Q (.bl b) H'
structure Forms (K : PySem.W.Frag) (w : World) (fa : Addr) : Prop where
  ex : ∃ f, DctK K w fa f ∧ ∀ x, (∃ ss b, forms.lookup x = some ss ∧ f x = some (.ref b) ∧ ∀ H, SqT K H b (List.map V.str ss)) ∨ (forms.lookup x = none ∧ f x = none)
def wordOf : Sy → Str
  | .bare w _ _ => w
  | .neg _ => "not"
  | .two w _ _ => w
  | .qu w _ _ => w
def letR (barred : List Str) (most : Nat) (known : List Str) : Sy → Bool
  | .bare _ n m => decide (n ∈ known) && decide (m ∈ known)
  | .neg s => letB barred most known s
  | .two _ s t => letB barred most known s && letB barred most known t
  | .qu _ n s => decide (n ∉ known) && letB barred most (known ++ [n]) s
theorem zqq (bw : List Str) (mo : Nat) (tl : List Str) (s : Sy) : letB bw mo tl s = (decide (tl.length ≤ mo) && decide (wordOf s ∉ bw) && letR bw mo tl s) := by cases s <;> rfl
theorem zjn {bw : List Str} {mo : Nat} {tl : List Str} {s : Sy} (nq : ∀ w n t, s ≠ .qu w n t) (hb : s.isBare = false) : letR bw mo tl s = s.inner.all (letB bw mo tl) := by
  cases s with
  | bare w n m => cases hb
  | neg s => simp [Sy.inner, letR]
  | two w s t => simp [Sy.inner, letR]
  | qu w n t => exact absurd rfl (nq w n t)
theorem zce {f : Sy → Bool} : ∀ (l : List Sy), ((List.range l.length).map fun i => ((l[i]?).map f).getD true).all id = l.all f
  | [] => rfl
  | x :: r => by
    rw [List.length_cons, List.range_succ_eq_map, List.map_cons, List.map_map, List.all_cons, List.all_cons, ← zce r]
    rfl
theorem zex : ∀ {xs : List V}, xs.all isName = true → ∃ tl : List Str, xs = tl.map V.str
  | [], _ => ⟨[], rfl⟩
  | x :: r, h => by
    rw [List.all_cons, Bool.and_eq_true] at h
    obtain ⟨z, rfl⟩ := zc1 h.1
    obtain ⟨tl, e⟩ := zex h.2
    exact ⟨z :: tl, by rw [List.map_cons, ← e]⟩
theorem zo6 {H : Hp} {x : V} (h : frB H x = true) : ∃ a tl, x = .ref a ∧ H a = some (.lst (List.map V.str tl)) ∧ frameB (List.map V.str tl) = true ∧ tl.length ≤ 4 := by
  cases x with
  | ref a =>
    simp only [frB] at h
    split at h
    · rename_i xs e
      have h' := h
      unfold frameB at h'
      rw [Bool.and_eq_true, Bool.and_eq_true, decide_eq_true_eq] at h'
      obtain ⟨tl, rfl⟩ := zex h'.1.2
      exact ⟨a, tl, rfl, e, h, by have := h'.1.1; rw [List.length_map] at this; exact this⟩
    · cases h
  | _ => cases h
open L2
theorem zdi : ∀ {a b : List PySem.Str}, a.map V.str = b.map V.str → a = b
  | [], [], _ => rfl
  | [], _ :: _, h => by cases h
  | _ :: _, [], h => by cases h
  | x :: a, y :: b, h => by
    rw [List.map_cons, List.map_cons, List.cons.injEq] at h
    rw [V.str.inj h.1, zdi h.2]
inductive Lit where
  | str (z : Str)
  | oth
  | tnil
  | tcons (x r : Lit)
  deriving DecidableEq
def Oth (H : Hp) (v : V) : Prop := ∃ k, Kd H v k ∧ k ≠ "str" ∧ k ≠ "tuple"
def LitAt (H : Hp) : Lit → V → Prop
  | .str z, v => v = .str z ∧ z.length ≤ 1000
  | .oth, v => Oth H v
  | .tnil, v => ∃ a, v = .ref a ∧ H a = some (.tup [])
  | .tcons x r, v => ∃ a y ys, v = .ref a ∧ H a = some (.tup (y :: ys)) ∧ ys.length ≤ 100 ∧ LitAt H x y ∧ Items H r ys
where Items (H : Hp) : Lit → List V → Prop
  | .tcons x r, ys => ∃ z zs, ys = z :: zs ∧ LitAt H x z ∧ Items H r zs
  | .tnil, ys => ys = []
  | _, _ => False
abbrev Items := LitAt.Items
theorem Oth.same {H H' : Hp} {v : V} (g : Same H H') (h : Oth H v) : Oth H' v := let ⟨k, z, r⟩ := h; ⟨k, z.same g, r⟩
mutual
theorem LitAt.same {H H' : Hp} (g : Same H H') : ∀ {l : Lit} {v : V}, LitAt H l v → LitAt H' l v
  | .str z, _, h => h
  | .oth, _, h => Oth.same g h
  | .tnil, _, ⟨a, e, h⟩ => ⟨a, e, g _ _ h⟩
  | .tcons x r, _, ⟨a, y, ys, e, h, hl, h1, h2⟩ => ⟨a, y, ys, e, g _ _ h, hl, LitAt.same g h1, Items.same g h2⟩
theorem Items.same {H H' : Hp} (g : Same H H') : ∀ {l : Lit} {ys : List V}, Items H l ys → Items H' l ys
  | .tcons x r, _, ⟨z, zs, e, h1, h2⟩ => ⟨z, zs, e, LitAt.same g h1, Items.same g h2⟩
  | .tnil, _, h => h
  | .str _, _, h => h
  | .oth, _, h => h
end
theorem LitAt.thing {H : Hp} : ∀ {l : Lit} {v : V}, LitAt H l v → Thing H v
  | .str z, _, ⟨e, h⟩ => by subst e; exact .str h
  | .oth, v, ⟨k, h, h1, _⟩ => ⟨⟨k, h⟩, fun z e => by subst e; cases h; exact absurd rfl h1⟩
  | .tnil, _, ⟨a, e, h⟩ => by subst e; exact .tup h
  | .tcons x r, _, ⟨a, y, ys, e, h, _, _, _⟩ => by subst e; exact .tup h
mutual
theorem LitAt.exp {H : Hp} : ∀ (n : Nat) {l : Lit} {v : V}, LitAt H l v → Exp H n v
  | 0, _, _, h => h.thing
  | n + 1, .str z, _, h => ⟨h.thing, fun a xs e _ => by rw [h.1] at e; cases e⟩
  | n + 1, .oth, v, h => ⟨h.thing, fun a xs e e' => by
    subst e
    obtain ⟨k, hk, _, h2⟩ := h
    exact absurd (hk.inj (.tup e')) h2⟩
  | n + 1, .tnil, _, h => ⟨h.thing, fun a xs e e' => by
    obtain ⟨a', e1, e2⟩ := h
    rw [e] at e1
    cases e1
    rw [e2] at e'
    cases e'
    exact ⟨Nat.zero_le _, fun x hx => nomatch hx⟩⟩
  | n + 1, .tcons x r, _, h => ⟨h.thing, fun a xs e e' => by
    obtain ⟨a', y, ys, e1, e2, hl, h1, h2⟩ := h
    rw [e] at e1
    cases e1
    rw [e2] at e'
    cases e'
    refine ⟨by rw [List.length_cons]; omega, fun x' hx => ?_⟩
    rcases List.mem_cons.mp hx with rfl | hx
    · exact LitAt.exp n h1
    · exact Items.exp n h2 x' hx⟩
theorem Items.exp {H : Hp} : ∀ (n : Nat) {l : Lit} {ys : List V}, Items H l ys → ∀ y ∈ ys, Exp H n y
  | n, .tcons x r, _, ⟨z, zs, e, h1, h2⟩, y, hy => by
    subst e
    rcases List.mem_cons.mp hy with rfl | hy
    · exact LitAt.exp n h1
    · exact Items.exp n h2 y hy
  | n, .tnil, _, h, y, hy => by rw [show _ = [] from h] at hy; exact nomatch hy
  | n, .str _, _, h, y, hy => False.elim h
  | n, .oth, _, h, y, hy => False.elim h
end
def toSy : Lit → Option Sy
  | .tcons (.str w) (.tcons x .tnil) => if w = "not" then (toSy x).map .neg else none
  | .tcons (.str w) (.tcons x (.tcons y .tnil)) => if w ∈ bareWords then (match x, y with
      | .str n, .str m => some (.bare w n m)
      | _, _ => none) else if w ∈ (["and", "or"] : List Str) then (match toSy x, toSy y with
      | some s, some t => some (.two w s t)
      | _, _ => none) else if w ∈ (["some", "all"] : List Str) then (match x with
      | .str n => (toSy y).map (.qu w n)
      | _ => none) else none
  | _ => none
theorem zl1 : ∀ w ∈ (["and", "or"] : List Str), w ∉ bareWords := by decide +kernel
theorem zfy : ∀ w ∈ (["some", "all"] : List Str), w ∉ bareWords ∧ w ∉ (["and", "or"] : List Str) := by decide +kernel
theorem LitAt.of_str {H : Hp} {l : Lit} {z : Str} (h : LitAt H l (.str z)) : l = .str z := by
  cases l with
  | str y => obtain ⟨e, _⟩ := h; cases e; rfl
  | oth => obtain ⟨k, hk, h1, _⟩ := h; cases hk; exact absurd rfl h1
  | tnil => obtain ⟨a, e, _⟩ := h; cases e
  | tcons x r => obtain ⟨a, y, ys, e, _⟩ := h; cases e
theorem LitAt.of_tup {H : Hp} {l : Lit} {a : Addr} {y : V} {ys : List V} (h : LitAt H l (.ref a)) (e : H a = some (.tup (y :: ys))) : ∃ x r, l = .tcons x r ∧ LitAt H x y ∧ Items H r ys := by
  cases l with
  | str z => obtain ⟨e', _⟩ := h; cases e'
  | oth => obtain ⟨k, hk, _, h2⟩ := h; exact absurd (hk.inj (.tup e)) h2
  | tnil => obtain ⟨a', e1, e2⟩ := h; cases e1; rw [e] at e2; cases e2
  | tcons x r =>
    obtain ⟨a', y', ys', e1, e2, _, h1, h2⟩ := h
    cases e1
    rw [e] at e2
    cases e2
    exact ⟨x, r, rfl, h1, h2⟩
theorem Items.cons {H : Hp} {l : Lit} {y : V} {ys : List V} (h : Items H l (y :: ys)) : ∃ x r, l = .tcons x r ∧ LitAt H x y ∧ Items H r ys := by
  cases l with
  | tcons x r => obtain ⟨z, zs, e, h1, h2⟩ := h; cases e; exact ⟨x, r, rfl, h1, h2⟩
  | tnil => have e : (y :: ys) = [] := h; cases e
  | str z => exact False.elim h
  | oth => exact False.elim h
theorem Items.nil' {H : Hp} {l : Lit} (h : Items H l []) : l = .tnil := by
  cases l with
  | tcons x r => obtain ⟨z, zs, e, _⟩ := h; cases e
  | tnil => rfl
  | str z => exact False.elim h
  | oth => exact False.elim h
theorem zqp {H : Hp} {v : V} {s : Sy} (r : Rep H v s) : ∀ {l : Lit}, LitAt H l v → toSy l = some s := by
  induction r with
  | bare hw e =>
    intro l h
    obtain ⟨x, r, rfl, h1, h2⟩ := h.of_tup e
    obtain ⟨x2, r2, rfl, h3, h4⟩ := Items.cons h2
    obtain ⟨x3, r3, rfl, h5, h6⟩ := Items.cons h4
    rw [h1.of_str, h3.of_str, h5.of_str, Items.nil' h6]
    simp only [toSy]
    rw [if_pos hw]
  | neg e _ ih =>
    intro l h
    obtain ⟨x, r, rfl, h1, h2⟩ := h.of_tup e
    obtain ⟨x2, r2, rfl, h3, h4⟩ := Items.cons h2
    rw [h1.of_str, Items.nil' h4]
    simp only [toSy]
    rw [if_pos trivial, ih h3]
    rfl
  | two hw e _ _ ih1 ih2 =>
    intro l h
    obtain ⟨x, r, rfl, h1, h2⟩ := h.of_tup e
    obtain ⟨x2, r2, rfl, h3, h4⟩ := Items.cons h2
    obtain ⟨x3, r3, rfl, h5, h6⟩ := Items.cons h4
    rw [h1.of_str, Items.nil' h6]
    simp only [toSy]
    rw [if_neg (zl1 _ hw), if_pos hw, ih1 h3, ih2 h5]
  | qu hw e _ ih =>
    intro l h
    obtain ⟨x, r, rfl, h1, h2⟩ := h.of_tup e
    obtain ⟨x2, r2, rfl, h3, h4⟩ := Items.cons h2
    obtain ⟨x3, r3, rfl, h5, h6⟩ := Items.cons h4
    rw [h1.of_str, h3.of_str, Items.nil' h6]
    simp only [toSy]
    rw [if_neg (zfy _ hw).1, if_neg (zfy _ hw).2, if_pos hw, ih h5]
    rfl
def Bad (H : Hp) (bw : List Str) (mo : Nat) (tl : List Str) (v : V) : Prop := ∀ s, Rep H v s → wfB s = true → letB bw mo tl s = false
def badL (bw : List Str) (mo : Nat) (tl : List Str) (l : Lit) : Bool := match toSy l with
  | none => true
  | some s => !wfB s || !letB bw mo tl s
theorem LitAt.bad {H : Hp} {l : Lit} {v : V} {bw : List Str} {mo : Nat} {tl : List Str} (h : LitAt H l v) (hb : badL bw mo tl l = true) : Bad H bw mo tl v := fun s r hw => by
  have e := zqp r h
  unfold badL at hb
  rw [e] at hb
  have hb' : (!wfB s || !letB bw mo tl s) = true := hb
  rw [hw] at hb'
  simpa using hb'
theorem zdb {z l : Str} (h : isNm (.str z) l = true) : z.length ≤ 4 := by
  obtain ⟨c, r, e, hl, _⟩ := zsu h
  rw [zkc, e, List.length_cons]
  omega
theorem zn9 {z : Str} (h : isName (.str z) = true) : z.length ≤ 4 := (zjj h).elim zdb zdb
theorem zg5 : ∀ w ∈ bareWords, w.length ≤ 1000 := by decide +kernel
theorem zmx {w n m : Str} (h : wfB (.bare w n m) = true) : n.length ≤ 4 ∧ m.length ≤ 4 := by
  have h' : (if w = ("in" : Str) then isPl n && isSt m else if w = ("within" : Str) then isSt n && isSt m else isPl n && isPl m) = true := h
  split at h'
  · rw [Bool.and_eq_true] at h'; exact ⟨zdb h'.1, zdb h'.2⟩
  · split at h'
    · rw [Bool.and_eq_true] at h'; exact ⟨zdb h'.1, zdb h'.2⟩
    · rw [Bool.and_eq_true] at h'; exact ⟨zdb h'.1, zdb h'.2⟩
theorem Exp.str {H : Hp} {z : Str} (h : z.length ≤ 1000) : ∀ n, Exp H n (.str z)
  | 0 => Thing.str h
  | n + 1 => ⟨Thing.str h, fun a xs e => by cases e⟩
theorem Exp.tup {H : Hp} {a : Addr} {xs : List V} {n : Nat} (e : H a = some (.tup xs)) (hl : xs.length ≤ 1000) (h : ∀ x ∈ xs, Exp H n x) : Exp H (n + 1) (.ref a) :=
  ⟨Thing.tup e, fun a' xs' ev e' => by cases ev; rw [e] at e'; cases e'; exact ⟨hl, h⟩⟩
theorem Rep.exp {H : Hp} {v : V} {s : Sy} (r : Rep H v s) : wfB s = true → ∀ n, Exp H n v := by
  induction r with
  | bare hw e =>
    intro h n
    obtain ⟨l1, l2⟩ := zmx h
    cases n with
    | zero => exact Thing.tup e
    | succ n =>
      refine Exp.tup e (by simp) fun x hx => ?_
      simp only [List.mem_cons, List.not_mem_nil, or_false] at hx
      rcases hx with rfl | rfl | rfl
      · exact Exp.str (zg5 _ hw) n
      · exact Exp.str (by omega) n
      · exact Exp.str (by omega) n
  | neg e _ ih =>
    intro h n
    cases n with
    | zero => exact Thing.tup e
    | succ n =>
      refine Exp.tup e (by simp) fun x hx => ?_
      simp only [List.mem_cons, List.not_mem_nil, or_false] at hx
      rcases hx with rfl | rfl
      · exact Exp.str (by decide +kernel) n
      · exact ih h n
  | two hw e _ _ ih1 ih2 =>
    rename_i w _ _ s t _ _
    intro h n
    have h' : (wfB s && wfB t) = true := h
    rw [Bool.and_eq_true] at h'
    cases n with
    | zero => exact Thing.tup e
    | succ n =>
      refine Exp.tup e (by simp) fun x hx => ?_
      simp only [List.mem_cons, List.not_mem_nil, or_false] at hx
      rcases hx with rfl | rfl | rfl
      · refine Exp.str ?_ n
        have : ∀ w ∈ (["and", "or"] : List Str), w.length ≤ 1000 := by decide +kernel
        exact this w hw
      · exact ih1 h'.1 n
      · exact ih2 h'.2 n
  | qu hw e _ ih =>
    rename_i w nm _ s _
    intro h n
    have h' : (isName (.str nm) && wfB s) = true := h
    rw [Bool.and_eq_true] at h'
    cases n with
    | zero => exact Thing.tup e
    | succ n =>
      refine Exp.tup e (by simp) fun x hx => ?_
      simp only [List.mem_cons, List.not_mem_nil, or_false] at hx
      rcases hx with rfl | rfl | rfl
      · refine Exp.str ?_ n
        have : ∀ w ∈ (["some", "all"] : List Str), w.length ≤ 1000 := by decide +kernel
        exact this w hw
      · exact Exp.str (by have := zn9 h'.1; omega) n
      · exact ih h'.2 n
theorem zpu {H : Hp} {a : Addr} {tl bw : List Str} {mo : Nat} {v : V} (e : H a = some (.lst (List.map V.str tl))) (b : Bad H bw mo tl v) : ¬ SayOk H bw mo v (.ref a) := by
  rintro ⟨a', tl', s', ea, e', hf, ⟨r', hw, hd, hp⟩, hl⟩
  cases ea
  rw [e] at e'
  injection e' with z
  injection z with z
  have z' := zdi z
  subst z'
  rw [b s' r' hw] at hl
  cases hl
theorem zg6 {H : Hp} {tl : List Str} (hl : tl.length ≤ 1000) (h : ∀ z ∈ tl, z.length ≤ 1000) : Things H (tl.map V.str) := by
  refine ⟨by rw [List.length_map]; exact hl, fun y hy => ?_⟩
  obtain ⟨z, mz, rfl⟩ := List.mem_map.mp hy
  exact .str (h z mz)
section
variable {K : PySem.W.Frag} {w : World} {h : Heap} {mg : Str → Option Value}
theorem sqt_mk {p : Addr} {od : Option Addr} {its : Array Value} {n : Nat} {sl : Array (Option Value)} {xs : List V} (l : K.lookup p = some ⟨.type "tuple", od, .seq its n, sl⟩) (z : its.size ≤ sizeLine) (r : Vals xs its.toList) : ∀ H, SqT K H p xs :=
  fun H => .inr ⟨_, its, n, l, rfl, rfl, z, r⟩
def Entry (K : PySem.W.Frag) (e : DictEntry) (p : Str × List Str) : Prop := (∃ t, e.key = .str p.1 t) ∧ ∃ b, e.val = .ref b ∧ ∀ H, SqT K H b (List.map V.str p.2)
theorem zcc : ∀ {es : List DictEntry} {ps : List (Str × List Str)}, Paired (Entry K) es ps → ∀ x, (∃ ss b, ps.lookup x = some ss ∧ findBy Value.isStrOf es.toArray x = some (.ref b) ∧ ∀ H, SqT K H b (List.map V.str ss)) ∨ (ps.lookup x = none ∧ findBy Value.isStrOf es.toArray x = none)
  | _, _, .nil, x => .inr ⟨rfl, by simp [findBy]⟩
  | e :: es, p :: ps, .cons ⟨⟨t, ek⟩, b, ev, hb⟩ r, x => by
    have ih := zcc r x
    unfold findBy at ih ⊢
    rw [List.find?_toArray] at ih ⊢
    rw [List.lookup_cons, List.find?_cons]
    by_cases h : x = p.1
    · subst h
      have e1 : Value.isStrOf p.1 e.key = true := by rw [ek]; simp [Value.isStrOf]
      rw [e1, beq_self_eq_true]
      exact .inl ⟨_, b, rfl, congrArg some ev, hb⟩
    · have h' : ¬ p.1 = x := fun q => h q.symm
      have e1 : Value.isStrOf x e.key = false := by rw [ek]; simp [Value.isStrOf, h']
      have e2 : (x == p.1) = false := by simp [h]
      rw [e1, e2]
      exact ih
theorem forms_mk {p : Addr} {es : Array DictEntry} {n : Nat} (X : K.In h) (G : h.Ns mainGlobals mg) (a : PySem.W.nsIn K mainGlobals "FORMS" = some (some (.ref p))) (lo : (p == sysModules) = false) (l : K.lookup p = some ⟨.type "dict", none, .dict es n, #[]⟩)
    (hk : PySem.W.KeysLit w.params es.toList) (he : Paired (Entry K) es.toList forms) : ∃ q, GlV mg "FORMS" (.ref q) ∧ Forms K w q := by
  refine ⟨p, ⟨_, PySem.W.mg_of X G a, rfl⟩, ⟨fun x => match findBy Value.isStrOf es x with | some (.ref b) => some (.ref b) | _ => none, ⟨lo, es, n, l, hk, fun x => ?_⟩, fun x => ?_⟩⟩
  · rcases zcc he x with ⟨ss, b, e1, e2, _⟩ | ⟨e1, e2⟩
    · simp only [e2]; exact rfl
    · simp only [e2]; exact trivial
  · rcases zcc he x with ⟨ss, b, e1, e2, hb⟩ | ⟨e1, e2⟩
    · exact .inl ⟨ss, b, e1, by simp only [e2], hb⟩
    · exact .inr ⟨e1, by simp only [e2]⟩
end
end SS
namespace L2
open PySem PySem.Spec PyProof.Rows
variable {X : Cx}
section
variable {X : Cx} {k : Nat} {H : Hp} {a b : Addr} {xs ys : List V}
theorem zq1 (a b : Int) : eqV (.int a) (.int b) = decide (a = b) := by
  by_cases h : a = b
  · subst h; simp [eqV]
  · simp [eqV, h]
theorem zmw : ∀ (xs ys : List Int), (xs.length == ys.length && (List.range xs.length).all fun j => eqV ((xs.map V.int).getD j .non) ((ys.map V.int).getD j .non)) = decide (xs = ys)
  | [], [] => rfl
  | [], y :: ys => by simp
  | x :: xs, [] => by simp
  | x :: xs, y :: ys => by
    have ih := zmw xs ys
    have e : (List.range (x :: xs).length).all (fun j => eqV (((x :: xs).map V.int).getD j .non) (((y :: ys).map V.int).getD j .non)) =
        (decide (x = y) && (List.range xs.length).all fun j => eqV ((xs.map V.int).getD j .non) ((ys.map V.int).getD j .non)) := by
      rw [List.length_cons, List.range_succ_eq_map, List.all_cons, List.all_map]
      exact congrArg (· && _) (zq1 x y)
    rw [e]
    have e2 : ((x :: xs).length == (y :: ys).length) = (xs.length == ys.length) := by simp
    rw [e2]
    by_cases hx : x = y
    · subst hx
      rw [decide_eq_true rfl, Bool.true_and, ih]
      simp
    · rw [decide_eq_false hx, Bool.false_and, Bool.and_false]
      simp [hx]
theorem zgn (xs : List Int) : (xs.map V.int).all flatV = true := by
  rw [List.all_eq_true]
  intro x hx
  obtain ⟨z, _, rfl⟩ := List.mem_map.mp hx
  rfl
def rEqI (K : PySem.W.Frag) : R2 := fun x y H Q => ∃ (a b : Addr) (xs ys : List Int), x = .ref a ∧ y = .ref b ∧ SqL K H a (xs.map V.int) ∧ SqL K H b (ys.map V.int) ∧ Q (.bl (decide (xs = ys))) H
def rNeI (K : PySem.W.Frag) : R2 := fun x y H Q => ∃ (a b : Addr) (xs ys : List Int), x = .ref a ∧ y = .ref b ∧ SqL K H a (xs.map V.int) ∧ SqL K H b (ys.map V.int) ∧ Q (.bl (!decide (xs = ys))) H
theorem zrr (hu : X.A.units + 8 < cLine) : OpR X (compareOp .NotEq) (rNeI X.K) := by
  intro pins s σ H x y v u Q I rx ry h
  obtain ⟨a, b, xs, ys, rfl, rfl, h1, h2, q⟩ := h
  cases (show v = Value.ref a from rx)
  cases (show u = Value.ref b from ry)
  obtain ⟨us, r1, p1, _⟩ := I.list h1
  obtain ⟨vs, r2, p2, _⟩ := I.list h2
  have l1 := r1.length
  have l2 := r2.length
  have hu' : X.A.units < cLine := by omega
  by_cases hl : us.length = vs.length
  · have z := SeqAt.RcNeAt.lists (A := X.A) (s := s) (e := fun j => eqV ((xs.map V.int).getD j .non) ((ys.map V.int).getD j .non)) p1.isList p2.isList (by rw [List.size_toArray, List.size_toArray]; exact hl) hu' fun j h1 h2 => by
      rw [List.size_toArray] at h1 h2
      obtain ⟨g1, q1⟩ := r1.at h1
      obtain ⟨g2, q2⟩ := r2.at h2
      have e1 : (xs.map V.int).getD j .non = (xs.map V.int)[j] := by rw [List.getD_eq_getElem?_getD, List.getElem?_eq_getElem g1]; rfl
      have e2 : (ys.map V.int).getD j .non = (ys.map V.int)[j] := by rw [List.getD_eq_getElem?_getD, List.getElem?_eq_getElem g2]; rfl
      rw [e1, e2]
      refine zme (by simpa using q1) (by simpa using q2) ?_ ?_
      · exact List.all_eq_true.mp (zgn xs) _ (List.getElem_mem g1)
      · exact List.all_eq_true.mp (zgn ys) _ (List.getElem_mem g2)
    have e := zmw xs ys
    rw [List.length_map] at l1 l2
    rw [show (xs.length == ys.length) = true by simp; omega, Bool.true_and] at e
    rw [List.size_toArray, ← l1, e] at z
    exact z _ _ _ _ ⟨.bl (!decide (xs = ys)), H, I, rfl, q⟩
  · have z := SeqAt.RcNeAt.lists_lengths (A := X.A) (s := s) p1.isList p2.isList (by rw [List.size_toArray, List.size_toArray]; simpa using hl) hu'
    have e : decide (xs = ys) = false := decide_eq_false fun h => by rw [h, List.length_map] at l1; rw [List.length_map] at l2; omega
    rw [e] at q
    exact z _ _ _ _ ⟨.bl true, H, I, rfl, q⟩
variable (K : PySem.W.Frag)
theorem zqe (hu : X.A.units + 8 < cLine) (h : X.K = K := by rfl) : OpR X (compareOp .NotEq) (rNeI K) := h ▸ zrr hu
end
def TupS (H H' : Hp) : Prop := ∀ b xs, H b = some (.tup xs) → H' b = some (.tup xs)
theorem Same.tups {H H' : Hp} (g : Same H H') : TupS H H' := fun b xs e => g b _ e
theorem TupS.trans {H H1 H2 : Hp} (a : TupS H H1) (b : TupS H1 H2) : TupS H H2 := fun c xs e => b c xs (a c xs e)
theorem TupS.wr {H : Hp} {p : Addr} {xs : List V} (h : H p = some (.lst xs)) (o : HO) : TupS H (upd H p o) := fun b ys e => by rw [zan (zdz e h (by intro z; cases z))]; exact e
end L2
namespace SM
structure Mc where
  w : Nat
  ways : List (List Nat)
  ends : List Bool
def Mc.fin (m : Mc) (r : Nat) : Bool := m.ends.getD r false
theorem zp6 (n : Nat) : (2 : Int) ^ n = ((2 ^ n : Nat) : Int) := by
  induction n with
  | zero => rfl
  | succ n ih => rw [Int.pow_succ, Nat.pow_succ, ih]; omega
theorem zk1 {w : Nat} (h : w ≤ 4) : 1 ≤ 2 ^ w ∧ 2 ^ w ≤ 16 := by
  have : w = 0 ∨ w = 1 ∨ w = 2 ∨ w = 3 ∨ w = 4 := by omega
  rcases this with rfl | rfl | rfl | rfl | rfl <;> decide
section
variable {α : Type} [DecidableEq α]
def nOf (ds : List α) (x : α) : Nat := ds.idxOf x
def nxt (ds : List α) (x : α) : List α := if x ∈ ds then ds else ds ++ [x]
theorem zdx {ds : List α} {x : α} (h : x ∈ ds) : nxt ds x = ds := if_pos h
theorem zcb {ds : List α} {x : α} (h : ¬ x ∈ ds) : nxt ds x = ds ++ [x] := if_neg h
end
open PySem PySem.Spec PyProof.Rows L2 SS
abbrev nV (n : Nat) : V := .int (n : Int)
theorem Paired.at2 {α β : Type} {R : α → β → Prop} : ∀ {xs : List α} {ys : List β} {i : Nat} {y : β}, Paired R xs ys → ys[i]? = some y → ∃ x, xs[i]? = some x ∧ R x y
  | _, _, _, _, .nil, h => by simp at h
  | _, _, 0, _, .cons h _, e => by simp at e; subst e; exact ⟨_, rfl, h⟩
  | _, _, i + 1, _, .cons _ h, e => by simp only [List.getElem?_cons_succ] at e ⊢; exact Paired.at2 h e
theorem Paired.snoc {α β : Type} {R : α → β → Prop} : ∀ {xs : List α} {ys : List β} {x : α} {y : β}, Paired R xs ys → R x y → Paired R (xs ++ [x]) (ys ++ [y])
  | _, _, _, _, .nil, h => .cons h .nil
  | _, _, _, _, .cons h t, z => .cons h (Paired.snoc t z)
theorem zr4 (l : List Nat) : l.map nV = (l.map fun (n : Nat) => (n : Int)).map V.int := by rw [List.map_map]; rfl
end SM
namespace L2
open PySem PySem.Spec PyProof.Rows
theorem zr6 {h h' : Heap} {j a : Addr} {i : Nat} (x : h.IsListIter j a i) (k : ∀ o, h.get? j = some o → h'.get? j = some o) : h'.IsListIter j a i := by
  obtain ⟨o, e, r⟩ := x
  exact ⟨o, k o e, r⟩
theorem zr5 {h h' : Heap} {j a b : Addr} {i : Nat} (x : h.IsListIter j a i) (k : Heap.ExtBut b h h') (n : j ≠ b) : h'.IsListIter j a i := zr6 x fun o e => k j o n e
def ItzL (K : PySem.W.Frag) (a b : Addr) : It :=
  ⟨fun i H => ∃ xs ys x y, SqL K H a xs ∧ SqT K H b ys ∧ xs[i]? = some x ∧ ys[i]? = some y,
   fun i H v H' => ∃ p x y, v = .ref p ∧ New H p (.tup [x, y]) H' ∧ (∀ xs, SqL K H a xs → xs[i]? = some x) ∧ ∀ ys, SqT K H b ys → ys[i]? = some y,
   fun i H => ∃ xs ys, SqL K H a xs ∧ SqT K H b ys ∧ xs.length ≤ i⟩
def iZipL (K : PySem.W.Frag) (ta : TA) : TI := fun σ H R => ta σ H fun vs H1 => ∃ a b, vs = [.ref a, .ref b] ∧ (∃ xs, SqL K H1 a xs) ∧ (∃ ys, SqT K H1 b ys) ∧ R (ItzL K a b) H1
def Ite (K : PySem.W.Frag) (a : Addr) : It :=
  ⟨fun i H => ∃ xs x, SqL K H a xs ∧ xs[i]? = some x, fun i H v H' => ∃ p x, v = .ref p ∧ New H p (.tup [.int (i : Int), x]) H' ∧ ∀ xs, SqL K H a xs → xs[i]? = some x, fun i H => ∃ xs, SqL K H a xs ∧ xs.length ≤ i⟩
theorem zj8 {P : Program} {w : World} {K : PySem.W.Frag} {elts : List Expr} {x1} {tpos : Pos} (e it a : Addr) (hne : e ≠ it) :
    Turn P w K (.Tuple elts x1 tpos) (Ite K a) [e, it] e (fun i h => (∃ old, IsEnum h e it (i : Int) old) ∧ h.IsListIter it a i) where
  mem := by simp
  obj := fun i h st c hc => by
    obtain ⟨⟨old, se⟩, o1, e1, c1, d1⟩ := st
    simp only [List.mem_cons, List.not_mem_nil, or_false] at hc
    rcases hc with rfl | rfl
    · exact ⟨_, se, fun v q => nomatch q⟩
    · exact ⟨_, e1, fun v q => by rw [d1] at q; cases q⟩
  keep := fun i h h' st k => ⟨let ⟨old, se⟩ := st.1; ⟨old, k e (by simp) _ se⟩, zr6 st.2 fun o z => k it (by simp) o z⟩
  item := by
    intro X hP hw hK hc i pins s σ H E I hf st hg
    subst hP hw hK
    obtain ⟨xs, x, hx, ex⟩ := hg
    obtain ⟨its, r, pl, _⟩ := I.list hx
    obtain ⟨u, hu, ru⟩ := r.get ex
    obtain ⟨⟨old, se⟩, si⟩ := st
    refine wpAny_pyNext_enum_item se si pl.isList (x := u) (by simpa using hu) hne fun h1 eo1 si1 q1 sz1 k1 => ⟨_, rfl, ?_⟩
    refine wpAny_letOwnedTupleGo_enum eo1 fun h2 e2 sb2 => ?_
    have hlt : ∀ c ∈ [e, it], c ≠ s.heap.objs.size := fun c hc => by
      simp only [List.mem_cons, List.not_mem_nil, or_false] at hc
      rcases hc with rfl | rfl
      · exact Nat.ne_of_lt (Heap.lt_size se)
      · obtain ⟨o, z, _⟩ := si
        exact Nat.ne_of_lt (Heap.lt_size z)
    have k2 : ∀ c o, c ∉ [e, it] → s.heap.get? c = some o → h2.get? c = some o := fun c o hc z =>
      sb2.extBut _ _ (fun q => hc (by simp [q])) (k1 c o (fun q => hc (by simp [q])) (fun q => hc (by simp [q])) z)
    have tup2 := sb2.extBut _ _ (Ne.symm (hlt e (by simp))) q1
    have si2 : h2.IsListIter it a (i + 1) := zr5 si1 sb2.extBut (Ne.symm hne)
    have e2' : IsEnum h2 e it ((i + 1 : Nat) : Int) u := by rw [show ((i + 1 : Nat) : Int) = (i : Int) + 1 by omega]; exact e2
    have there : ∀ c ∈ [e, it], ∃ o, h2.get? c = some o := fun c hc => by
      simp only [List.mem_cons, List.not_mem_nil, or_false] at hc
      rcases hc with rfl | rfl
      · exact ⟨_, e2⟩
      · obtain ⟨o, z, _⟩ := si2
        exact ⟨o, z⟩
    have I2 : Inv X pins σ (upd H s.heap.objs.size (.tup [.int (i : Int), x])) { s with heap := h2, toks := s.toks + 1 } := I.turnedNew k2 hf (Nat.le_refl _) ⟨zaa (by simp), [.int i s.toks, u], .cons ⟨_, rfl⟩ (.cons ru .nil), ⟨_, tup2, rfl, _, rfl⟩⟩ there
    refine ⟨.ref s.heap.objs.size, _, I2, rfl, ⟨_, x, rfl, .mk' I.fresh _, fun ws hw => by rw [I.list_inj hw hx]; exact ex⟩, ⟨⟨_, e2'⟩, si2⟩, fun c hc => ?_⟩
    rw [zan (hlt c hc)]
    exact (hf c hc).1
  done := by
    intro X hP hw hK hc i pins s σ H E I hf st hg
    subst hP hw hK
    obtain ⟨xs, hx, hl⟩ := hg
    obtain ⟨its, r, pl, _⟩ := I.list hx
    have l1 := r.length
    obtain ⟨⟨old, se⟩, si⟩ := st
    exact wpAny_pyNext_enum_end (I.ok.hd hc) se si pl.isList (by simp; omega) fun h' k => ⟨rfl, I.turnedL (t' := s.toks) (fun c o hc z => k c o (fun q => hc (by simp [q])) z) hf⟩
  self := fun _ _ _ _ _ st h => let ⟨_, se⟩ := st.1; wpAny_pyIter_enum se h
def iEnum (K : PySem.W.Frag) (ta : TA) : TI := fun σ H R => ta σ H fun vs H1 => ∃ a, vs = [.ref a] ∧ (∃ xs, SqL K H1 a xs) ∧ R (Ite K a) H1
theorem zp9 {X : Cx} {elts : List Expr} {x1} {tpos : Pos} {a : Expr} {ta : TA} {p pos : Pos} (hg : Gl X "enumerate") (hm : X.mg "enumerate" = none) (ha : PA X [a] ta) (h1 : notStar a = true := by rfl) : PI X (.Tuple elts x1 tpos) (.Call (.Name "enumerate" p) [a] [] pos) (iEnum X.K ta) := by
  intro pins s σ H R I h
  have hs : starEach [a] X.env = [(false, eval a X.env)] := by rw [zbc h1, starEach.eq_def]
  refine Call_ (zgk I hg hm boot_enumerate (PyProof.Rows.callWith_type1 (thn (ha pos pins s σ H _ I h) fun us s1 ⟨vs, H1, I1, r1, q1⟩ => ?_) hs rfl))
  obtain ⟨p1, e, ⟨xs, hx⟩, q⟩ := q1
  subst e
  obtain ⟨u, rfl, ru⟩ := vals1 r1
  cases (show u = Value.ref p1 from ru)
  obtain ⟨its, _, t1, _⟩ := I1.list hx
  refine call_enumerate_list t1.isList fun h' se si sz k => wpAny_pyIter_enum se ?_
  refine ⟨_, [s1.heap.objs.size + 1, s1.heap.objs.size], _, _, H1, rfl, I1.kept (t' := s1.toks) k, zj8 _ _ p1 (Nat.succ_ne_self _), ⟨⟨_, se⟩, si⟩, fun c hc => ?_, q⟩
  have hle : s1.heap.objs.size ≤ c := by
    simp only [List.mem_cons, List.not_mem_nil, or_false] at hc
    rcases hc with rfl | rfl
    · exact Nat.le_add_right _ _
    · exact Nat.le_refl _
  exact I1.fpOk hle (I1.hok.fresh hle)
theorem znh {X : Cx} (K : PySem.W.Frag) {elts : List Expr} {x1} {tpos : Pos} {a : Expr} {ta : TA} {p pos : Pos} (hg : Gl X "enumerate") (hm : X.mg "enumerate" = none) (ha : PA X [a] ta) (h : X.K = K := by rfl) (h1 : notStar a = true := by rfl) :
    PI X (.Tuple elts x1 tpos) (.Call (.Name "enumerate" p) [a] [] pos) (iEnum K ta) := h ▸ zp9 hg hm ha h1
def rInDc (neg : Bool) : R2 := fun y x H Q => ∃ a o, x = .ref a ∧ DGet H a y o ∧ Q (.bl (if neg then !o.isSome else o.isSome)) H
section
variable {X : Cx} {o i value : Expr} {pos pos' : Pos} {td ty tv : TE}
theorem zjg (hu : X.A.units + 8 < cLine) : OpR X (compareOp .NotIn) (rInDc true) := by
  intro pins s σ H y x v u Q I ry rx h
  obtain ⟨a, o, rfl, g, q⟩ := h
  obtain rfl : u = Value.ref a := rx
  exact zq4 (by omega) I g ry fun s3 I3 => ⟨.bl (!o.isSome), H, I3, rfl, q⟩
theorem znn (hu : X.A.units + 8 < cLine) (ho : PE X o td) (hi : PE X i ty) (hs : NoSl i) : PE X (.Subscript o i pos) (tDGet td ty) := zqc (by omega) ho hi hs
theorem zne (hu : X.A.units + 8 < cLine) (ho : PE X o td) (hi : PE X i ty) (hv : PE X value tv) (hs : swapsWith value (some (.Subscript o i pos')) pos.line X.env = pure false) :
    PS X (.Assign [.Subscript o i pos'] value pos) (sDPut td ty tv) := zp4 (by omega) ho hi hv hs
def tDNewN : TE := fun _ H Q => ∀ p H', New H p (.dK []) H' → Q (.ref p) H'
def tDNewTN : TE := fun _ H Q => ∀ p H', New H p (.dT []) H' → Q (.ref p) H'
theorem zk7 : PE X (.Dict [] [] pos) tDNewTN := fun pins s σ H Q I h => znk pins s σ H Q I fun p np => h p _ (.mk' np _)
def rLenD : List V → Hp → VK → Prop := fun xs H Q => ∃ a kvs, xs = [V.ref a] ∧ H a = some (.dK kvs) ∧ Q (.int kvs.length) H
end
def rLenT : List V → Hp → VK → Prop := fun xs H Q => ∃ a kvs, xs = [V.ref a] ∧ H a = some (.dT kvs) ∧ Q (.int kvs.length) H
def PairV (H : Hp) (r : V) (kv : Key × V) : Prop := ∃ t, r = .ref t ∧ H t = some (.tup [kV kv.1, kv.2])
def rDictOf (K : PySem.W.Frag) : List V → Hp → VK → Prop := fun xs H Q => ∃ (p : Addr) (rs : List V) (kvs : List (Key × V)), xs = [.ref p] ∧ SqL K H p rs ∧ Paired (PairV H) rs kvs ∧ kvs.length ≤ 1000 ∧ ∀ d H', New H d (.dK (mergeK [] kvs)) H' → Q (.ref d) H'
def rMaxL (K : PySem.W.Frag) : List V → Hp → VK → Prop := fun xs H Q => ∃ (p : Addr) (ns : List Int), xs = [.ref p] ∧ SqL K H p (ns.map V.int) ∧ 0 < ns.length ∧ ∀ M, M ∈ ns → (∀ a ∈ ns, a ≤ M) → Q (.int M) H
def rIndex (K : PySem.W.Frag) : V → List V → Hp → VK → Prop := fun x vs H Q => ∃ (p : Addr) (ns : List Int) (k : Int), x = .ref p ∧ vs = [.int k] ∧ SqL K H p (ns.map V.int) ∧ k ∈ ns ∧ ns.length ≤ 1000 ∧ Q (.int (ns.idxOf k : Nat)) H
def rCatTN (K : PySem.W.Frag) : R2 := fun x y H Q => ∃ a b xs ys, x = .ref a ∧ y = .ref b ∧ SqT K H a xs ∧ SqT K H b ys ∧ xs ≠ [] ∧ ys ≠ [] ∧ xs.length + ys.length ≤ sizeLine ∧ ∀ p H', New H p (.tup (xs ++ ys)) H' → Q (.ref p) H'
section
variable {tn : List Str} {cp : List (Nat × Str)} {g : TG} {tif : TT} {te : TE} {σ0 : St} {Q : VK} {H1 : Hp} {n : Nat}
def PGen (S : St → Prop) (G : Nat → V → Hp → Prop) (H1 : Hp) (i : Nat) (ys : List V) (σ : St) (H : Hp) : Prop := Same H1 H ∧ S σ ∧ ys.length = i ∧ ∀ j y, ys[j]? = some y → G j y H
theorem zsy {J : It} (S : St → Prop) (G : Nat → V → Hp → Prop) (hn : n ≤ 1000) (h0 : S (stB tn cp σ0)) (hgo : ∀ i H, i < n → Same H1 H → J.go i H) (hstop : ∀ H, Same H1 H → J.stop n H)
    (hs : ∀ D i ys σ H x H', i < n → Same H1 H → H1 D = none → H D = some (.lst ys) → ys.length = i → (∀ j y, ys[j]? = some y → G j y H) → S σ → J.yld i H x H' → g x σ H' fun σ2 H2 => tif σ2 H2 fun c H3 =>
      if c = true then te σ2 H3 fun v H4 => CStep D n i (PGen S G H1) σ2 v H4 else CSkip D n i (PGen S G H1) σ2 H3)
    (hd : ∀ D ys H, H1 D = none → Same H1 H → H D = some (.lst ys) → ys.length = n → (∀ j y, ys[j]? = some y → G j y H) → Q (.ref D) H) : cBody tn cp g tif te σ0 Q J H1 := by
  refine zot n (fun D => PGen S G H1) (zaa hn) (fun D hD => ⟨za8 hD _, h0, rfl, fun j y e => by simp at e⟩) (fun D i ys σ H _ hi _ p => hgo i H hi p.1) (fun D ys σ H _ _ p => hstop H p.1) ?_ ?_
  · rintro D i ys σ H x H' hD hi hH hl ⟨p1, p2, p3, p4⟩ hy
    exact hs D i ys σ H x H' hi p1 hD hH p3 p4 p2 hy
  · rintro D ys σ H hD hH hl ⟨p1, p2, p3, p4⟩
    exact hd D ys H hD p1 hH p3 p4
theorem zq5 {S : St → Prop} {G : Nat → V → Hp → Prop} {D : Addr} {i : Nat} {ys : List V} {v : V} {σ2 : St} {H H4 : Hp} (hG : ∀ j y H H', TupS H H' → G j y H → G j y H') (hn : n ≤ 1000) (hi : i < n) (hD : H1 D = none) (h4 : H4 D = some (.lst ys)) (hl : ys.length = i)
    (hy : ∀ j y, ys[j]? = some y → G j y H) (ts : TupS H H4) (g4 : Same H1 H4) (s2 : S σ2) (e : G i v H4) : CStep D n i (PGen S G H1) σ2 v H4 := by
  refine cstep (zaa hn) hi h4 (by omega) ⟨g4.wr hD _, s2, by simp [hl], fun j y ej => ?_⟩
  by_cases h : j < ys.length
  · rw [List.getElem?_append_left h] at ej
    exact hG j y _ _ (ts.trans (TupS.wr h4 _)) (hy j y ej)
  · rw [List.getElem?_append_right (by omega)] at ej
    have e0 : j - ys.length = 0 := by
      cases hj : j - ys.length with
      | zero => rfl
      | succ k => rw [hj] at ej; simp at ej
    rw [e0] at ej
    simp at ej
    subst ej
    rw [show j = i by omega]
    exact hG i _ _ _ (TupS.wr h4 _) e
end
def tDisp1T (tk tv : TE) : TE := fun σ H Q => ∀ p H1, New H p (.dT []) H1 → tk σ H1 fun y H2 => tv σ H2 fun z H3 => H3 p = some (.dT []) ∧ ∃ b ks, y = .ref b ∧ H3 b = some (.tup (ks.map kV)) ∧ Q (.ref p) (upd H3 p (.dT [(ks, z)]))
def NeOk (X : Cx) (k : Nat) (H : Hp) (x y : V) (b : Bool) : Prop := ∀ (pins : List (Addr × Obj)) (σ : St) (s : Shared) (A : Around) (u v : Value), A.units + k < cLine → Inv X pins σ H s → RelV x u → RelV y v → SeqAt.RcNeAt A s u v b
def rNeM (X : Cx) : R2 := fun x y H Q => ∃ c, NeOk X 8 H x y c ∧ Q (.bl c) H
def rRange2 : List V → Hp → VK → Prop := fun xs H Q => ∃ i j : Int, xs = [.int i, .int j] ∧ ∀ p H', New H p (.rng i j) H' → Q (.ref p) H'
def rListRng : List V → Hp → VK → Prop := fun xs H Q => ∃ (p : Addr) (i j : Int), xs = [.ref p] ∧ H p = some (.rng i j) ∧ (0 ≤ i ∧ i ≤ j ∧ j ≤ 1000) ∧ ∀ l H', New H l (.lst ((List.range (j - i).toNat).map fun (k : Nat) => V.int (i + k))) H' → Q (.ref l) H'
def rRepN : R2 := fun x y H Q => ∃ l k xs, x = .ref l ∧ y = .int k ∧ H l = some (.lst xs) ∧ -(2 ^ 63) ≤ k ∧ k < 2 ^ 63 ∧ xs.length * k.toNat ≤ sizeLine ∧ ∀ p H', New H p (.lst (List.replicate k.toNat xs).flatten) H' → Q (.ref p) H'
def Itez (K : PySem.W.Frag) (a b : Addr) : It :=
  ⟨fun i H => ∃ xs ys x y, SqT K H a xs ∧ SqT K H b ys ∧ xs[i]? = some x ∧ ys[i]? = some y,
   fun i H v H' => ∃ p r H1 x y, v = .ref r ∧ New H p (.tup [x, y]) H1 ∧ New H1 r (.tup [.int (i : Int), .ref p]) H' ∧ (∀ xs, SqT K H a xs → xs[i]? = some x) ∧ ∀ ys, SqT K H b ys → ys[i]? = some y,
   fun i H => ∃ xs ys, SqT K H a xs ∧ SqT K H b ys ∧ xs.length ≤ i⟩
def iEZ (K : PySem.W.Frag) (ta : TA) : TI := fun σ H R => ta σ H fun vs H1 => ∃ a b, vs = [.ref a, .ref b] ∧ (∃ xs, SqT K H1 a xs) ∧ (∃ ys, SqT K H1 b ys) ∧ R (Itez K a b) H1
section
variable {tn : List Str} {cp : List (Nat × Str)} {g : TG} {tif : TT} {te : TE} {σ0 : St} {Q : VK} {H1 : Hp} {lo : Int} {n : Nat}
def PRnF (S : St → Prop) (p : Nat → Bool) (f : Nat → V) (H1 : Hp) (i : Nat) (ys : List V) (σ : St) (H : Hp) : Prop := Same H1 H ∧ S σ ∧ ys = ((List.range i).filter p).map f
theorem zmk (p : Nat → Bool) (f : Nat → V) (i : Nat) : (((List.range i).filter p).map f).length ≤ i := by
  rw [List.length_map]
  have := List.length_filter_le p (List.range i)
  rw [List.length_range] at this
  exact this
theorem zoq {S : St → Prop} {p : Nat → Bool} {f : Nat → V} {D : Addr} {i : Nat} {v : V} {σ2 : St} {H4 : Hp} (hn : n ≤ 1000) (hi : i < n) (hp : p i = true) (hD : H1 D = none) (h4 : H4 D = some (.lst (((List.range i).filter p).map f))) (g4 : Same H1 H4) (s2 : S σ2) (e : v = f i) : CStep D n i (PRnF S p f H1) σ2 v H4 := by
  subst e
  refine cstep (zaa hn) hi h4 (zmk p f i) ⟨g4.wr hD _, s2, ?_⟩
  rw [List.range_succ, List.filter_append, List.map_append]
  simp [hp]
theorem zor {S : St → Prop} {p : Nat → Bool} {f : Nat → V} {D : Addr} {i : Nat} {σ2 : St} {H3 : Hp} (hi : i < n) (hp : p i = false) (h3 : H3 D = some (.lst (((List.range i).filter p).map f))) (g3 : Same H1 H3) (s2 : S σ2) : CSkip D n i (PRnF S p f H1) σ2 H3 := by
  refine cskip hi h3 (zmk p f i) ⟨g3, s2, ?_⟩
  rw [List.range_succ, List.filter_append]
  simp [hp]
end
def rCatTE : R2 := fun x y H Q => ∃ a b xs ys, x = .ref a ∧ y = .ref b ∧ H a = some (.tup xs) ∧ H b = some (.tup ys) ∧ xs.length + ys.length ≤ sizeLine ∧ ∀ p H', Same H H' → H' p = some (.tup (xs ++ ys)) → Q (.ref p) H'
end L2
namespace SM
open PySem PySem.Spec PyProof.Rows L2 SS
def back (bs : List Nat) : Nat := bs.reverse.foldl (fun f b => 2 * f + b) 0
def zid : Sp := fun vs H Q _ => ∃ (c : Int), vs = [.int c] ∧ ∀ r : Int, 0 ≤ r → r < 999999999989 → Q (.int r) H
def cnt (m : Mc) : Nat → Nat → Nat
  | 0, r => if m.fin r = true then 1 else 0
  | k + 1, r => ((m.ways.getD r []).map (cnt m k)).sum
def cl (m : Mc) (k : Nat) : List Nat := (List.range m.ends.length).map (cnt m k)
end SM
namespace L2
open PySem PySem.Spec PyProof.Rows
def without (h : Heap) : List Addr → Heap
  | [] => h
  | b :: L => without (h.update b fun _ => { cls := .none, data := .freed }) L
theorem zjv (h : Heap) (a : Addr) : (h.update a fun _ => { cls := .none, data := .freed }).get? a = none := by
  obtain ⟨objs, l⟩ := h
  show (match (objs.modify a fun _ => ({ cls := .none, data := .freed } : Obj))[a]? with
    | some ⟨_, _, .freed, _⟩ => none
    | o => o) = none
  by_cases h : a < objs.size
  · rw [Array.getElem?_eq_getElem (by simpa using h), Array.getElem_modify]
    simp
  · rw [Array.getElem?_eq_none (by simpa using h)]
theorem zco (b : Addr) : ∀ (L : List Addr) (h : Heap), (without h L).get? b = if b ∈ L then none else h.get? b
  | [], h => by simp [without]
  | c :: L, h => by
    rw [without, zco b L]
    by_cases hb : b ∈ L
    · rw [if_pos hb, if_pos (List.mem_cons_of_mem _ hb)]
    · rw [if_neg hb]
      by_cases hc : b = c
      · subst hc; rw [if_pos List.mem_cons_self, zjv]
      · rw [if_neg (by simp [hc, hb]), Heap.get?_update_other _ _ (Ne.symm hc)]
theorem zbi {b : Addr} {L : List Addr} {h : Heap} (hb : b ∈ L) : (without h L).get? b = none := by rw [zco, if_pos hb]
theorem zbn {b : Addr} {L : List Addr} {h : Heap} (hb : b ∉ L) : (without h L).get? b = h.get? b := by rw [zco, if_neg hb]
theorem zbx (h : Heap) (L : List Addr) : (without h L).StaysIn h := fun b o e => by
  by_cases hb : b ∈ L
  · rw [zbi hb] at e; cases e
  · rw [zbn hb] at e; exact e
theorem zb2 {h base base' : Heap} : ∀ {l : List Env}, h.FunFrames base l → (∀ b ∈ frs l, base'.get? b = none) → h.FunFrames base' l
  | [], _, _ => trivial
  | env :: rest, ⟨hk, ⟨L, o, hf, hn, ho, hd⟩, hr⟩, k => by
    have e : frs (env :: rest) = L :: frs rest := by show List.filterMap _ (env :: rest) = _; rw [List.filterMap_cons, hf]; rfl
    rw [e] at k
    exact ⟨hk, ⟨L, o, hf, k L List.mem_cons_self, ho, hd⟩, zb2 hr fun b hb => k b (List.mem_cons_of_mem _ hb)⟩
def Flown (h0 : Heap) (H : Hp) (h : Heap) (a : Addr) (cls : Value) : Prop :=
  ∃ (oe : Obj) (vs : Array Value) (T : Addr) (oT : Obj) (ts : Array Value), h.get? a = some oe ∧ oe.cls = cls ∧ oe.data = .fields vs ∧ vs[1]? = some (.ref T) ∧ T ≠ a ∧ h.get? T = some oT ∧ oT.data = .fields ts ∧ ts[3]? = some .none ∧
    h0.get? a = none ∧ h0.get? T = none ∧ H a = none ∧ H T = none
def CXE (P : Program) (w : World) : CXT := fun outer H s E e s' => ∃ (a : Addr) (cls : Value) (H' : Hp), e = .ref a ∧ s'.os = s.os ∧ AllBare s'.gens ∧ Un (frs outer) [] H H' s.heap s'.heap ∧ HOk P w H' s'.heap ∧ Flown s.heap H' s'.heap a cls ∧ E cls (some a) H'
theorem zbz {P : Program} {w : World} {H : Hp} {h : Heap} {a : Addr} {o : HO} (x : ObjOk P w H h a o) : ∃ ob, h.get? a = some ob := by
  induction o with
  | lst xs => obtain ⟨_, _, _, _, e⟩ := x; exact ⟨_, e⟩
  | tup xs => obtain ⟨_, _, _, ob, e, _⟩ := x; exact ⟨_, e⟩
  | dK kvs => obtain ⟨_, _, _, _, ob, _, _, e, _⟩ := x; exact ⟨_, e⟩
  | dT kvs => obtain ⟨_, _, _, _, ob, _, _, e, _⟩ := x; exact ⟨_, e⟩
  | set S n => obtain ⟨ob, _, _, _, e, _⟩ := x; exact ⟨_, e⟩
  | ins C dx fs => obtain ⟨_, _, _, e, _⟩ := x; exact ⟨_, e⟩
  | own _ => exact x
  | xd fs => obtain ⟨_, ⟨ob, es, ep, e, _⟩, _⟩ := x; exact ⟨_, e⟩
  | rng lo hi => obtain ⟨_, _, _, e⟩ := x; exact ⟨_, e⟩
  | frz ob u => exact ⟨_, x.1⟩
  | tbl qs ps => obtain ⟨_, e, _⟩ := x; exact ⟨_, e⟩
  | met f y => exact ⟨_, x⟩
  | ext φ => exact x.2.1
section
variable {X : Cx} {pins : List (Addr × Obj)} {σ : St} {H : Hp} {s : Shared} {Ex : Value → Shared → Prop}
theorem ziv {a : Addr} {cls : Value} {E : XK} {h'' : Heap} {L : List Addr} (I : Inv X pins σ H s) (hx : X.ex = []) (hL : ∀ b ∈ L, X.s₀.heap.get? b = none ∧ H b = none)
    (l1 : (without s.heap (frs X.stack ++ L)).StaysIn h'') (l2 : h''.FunFrames (without s.heap (frs X.stack ++ L)) X.stack) (l3 : h''.Traced (without s.heap (frs X.stack ++ L)) a cls)
    (l4 : ∀ b o, s.heap.get? b = some o → (∀ vs, o.data ≠ .fields vs) → ∃ sl, h''.get? b = some { o with slots := sl }) (ha : a ∈ L) (q : E cls (some a) H) :
    CXE X.prog X.w X.outer X.H₀ X.s₀ E (.ref a) { s with heap := h'' } := by
  obtain ⟨oe, vs', T, oT, ts, t1, t2, t3, t4, t5, t6, t7, t8, t9⟩ := l3
  have hTf : T ∉ frs X.stack := fun z => by
    obtain ⟨_, o, e1, e2⟩ := l2.mem z
    rw [t7] at e1; cases e1
    exact e2 _ t8
  have nx : ∀ b, b ∉ X.ex := fun b z => by rw [hx] at z; cases z
  have st : ∀ b o, b ∉ frs X.stack → b ∉ L → s.heap.get? b = some o → h''.get? b = some o := fun b o h1 h2 e => l1 b o (by rw [zbn (fun z => (List.mem_append.mp z).elim h1 h2)]; exact e)
  have out : ∀ b o, X.s₀.heap.get? b = some o → b ∉ frs X.outer → b ∉ frs X.stack := fun b o e h z => by
    rcases List.mem_cons.mp (I.stkSub b z) with w | w
    · exact Nat.ne_of_lt (Nat.lt_of_lt_of_le (Heap.lt_size e) I.ok.above) w
    · exact h w
  have nL : ∀ b o, X.s₀.heap.get? b = some o → b ∉ L := fun b o e z => by rw [(hL b z).1] at e; cases e
  have T0 : X.s₀.heap.get? T = none := by
    cases e : X.s₀.heap.get? T with
    | none => rfl
    | some o =>
      obtain ⟨o', e'⟩ := I.base.there T o e (nx T)
      rw [zbn (fun z => (List.mem_append.mp z).elim hTf (nL T o e))] at t5
      rw [t5] at e'; cases e'
  have HT : H T = none := by
    cases e : H T with
    | none => rfl
    | some o =>
      obtain ⟨o', e'⟩ := zbz (I.hok T o e)
      by_cases hTL : T ∈ L
      · rw [(hL T hTL).2] at e; cases e
      · rw [zbn (fun z => (List.mem_append.mp z).elim hTf hTL)] at t5
        rw [t5] at e'; cases e'
  refine ⟨a, cls, H, rfl, I.os, I.bare, ⟨fun b o e n hb _ => ?_, fun b o e n hb _ => ?_, fun b o e n _ => I.base.free b o e n (nx b), fun b o e _ => ?_, I.base.tups, I.base.frzs, I.base.tbls⟩, fun b o e => ?_, ⟨oe, vs', T, oT, ts, t1, t2, t3, t4, t6, t7, t8, t9, (hL a ha).1, T0, (hL a ha).2, HT⟩, q⟩
  · exact st b o (out b o e hb) (nL b o e) (I.base.keep b o e n hb (nx b))
  · obtain ⟨sl, e1⟩ := I.base.slot b o e n hb (nx b)
    obtain ⟨_, o', e2, nf⟩ := I.ok.funs.mem hb
    rw [e] at e2; cases e2
    obtain ⟨sl', e3⟩ := l4 b _ e1 nf
    exact ⟨sl', e3⟩
  · obtain ⟨o', e1⟩ := I.base.there b o e (nx b)
    by_cases hb : b ∈ frs X.stack
    · obtain ⟨_, o2, e2, _⟩ := l2.mem hb
      exact ⟨o2, e2⟩
    · exact ⟨o', st b o' hb (nL b o e) e1⟩
  · refine (I.hok b o e).stay (fun c u hc ec => st c u (fun z => ?_) (fun z => ?_) ec) (fun _ z => z) (fun _ _ _ _ _ z => z) fun _ _ z => z
    · have := I.stkFree c z
      rcases hc with rfl | hc
      · rw [this] at e; cases e
      · rw [this] at hc; cases hc
    · have := (hL c z).2
      rcases hc with rfl | hc
      · rw [this] at e; cases e
      · rw [this] at hc; cases hc
theorem zhq {h' : Heap} {a : Addr} {cls : Value} {vs : List Value} {E : XK} (I : Inv X pins σ H s) (hx : X.ex = []) (hs : X.stack = X.env :: X.outer) (hf : X.env.frame = some X.env.locals) (M : Heap.MadeExcOf s.heap h' a cls vs) (q : E cls (some a) H) :
    wpAny (model X.prog X.w) X.A (leaving X.env (.ref a)) (fun _ s'' => CXE X.prog X.w X.outer X.H₀ X.s₀ E (.ref a) s'') Ex { s with heap := h' } := by
  obtain ⟨t, he, _, _⟩ := M.there
  have I' : Inv X pins σ H { s with heap := h', toks := s.toks } := I.kept M.keeps
  have Ha : H a = none := by
    cases e : H a with
    | none => rfl
    | some o =>
      obtain ⟨o', e'⟩ := zbz (I.hok a o e)
      rw [M.new] at e'; cases e'
  have s0 : X.s₀.heap.get? a = none := by
    cases e : X.s₀.heap.get? a with
    | none => rfl
    | some o =>
      obtain ⟨o', e'⟩ := I.base.there a o e (fun z => by rw [hx] at z; cases z)
      rw [M.new] at e'; cases e'
  refine wpAny_leaving_first (base := without h' (frs X.stack ++ [a])) (outer := X.outer) (L := X.env.locals) (by rw [← hs]; exact I.ok.frames) (by rw [← hs]; exact zb2 I'.stack fun b hb => zbi (List.mem_append_left _ hb)) hf he (zbx _ _)
    (zbi (List.mem_append_right _ (List.mem_singleton.mpr rfl))) rfl rfl fun h'' ⟨l1, l2, l3, l4⟩ => ?_
  rw [← hs] at l2
  exact ziv (L := [a]) I' hx (fun b hb => by rw [List.mem_singleton.mp hb]; exact ⟨s0, Ha⟩) l1 l2 l3 l4 (List.mem_singleton.mpr rfl) q
theorem zjo {s' : Shared} {e : Value} {E E' : XK} (I : Inv X pins σ H s) (hx : X.ex = []) (hs : X.stack = X.env :: X.outer) (hf : X.env.frame = some X.env.locals) (c : CXE X.prog X.w X.stack H s E' e s') (q : ∀ a cls H', E' cls (some a) H' → E cls (some a) H') :
    wpAny (model X.prog X.w) X.A (leaving X.env e) (fun _ s'' => CXE X.prog X.w X.outer X.H₀ X.s₀ E e s'') Ex s' := by
  obtain ⟨a, cls, H', rfl, os, bare, un, hok, ⟨oe, vs, T, oT, ts, t1, t2, t3, t4, t6, t7, t8, t9, n1, n2, h1, h2⟩, ee⟩ := c
  have I' : Inv X pins σ H' s' := I.call' os un hok bare fun b z => nomatch z
  have s0 : ∀ b, s.heap.get? b = none → X.s₀.heap.get? b = none := fun b z => by
    cases e : X.s₀.heap.get? b with
    | none => rfl
    | some o =>
      obtain ⟨o', e'⟩ := I.base.there b o e (fun z => by rw [hx] at z; cases z)
      rw [z] at e'; cases e'
  refine wpAny_leaving_next (base := without s'.heap (frs X.stack ++ [a, T])) (outer := X.outer) (L := X.env.locals) (cls := cls) (by rw [← hs]; exact I.ok.frames) (by rw [← hs]; exact zb2 I'.stack fun b hb => zbi (List.mem_append_left _ hb)) hf
    ⟨oe, vs, T, oT, ts, t1, t2, t3, t4, zbi (List.mem_append_right _ (by simp)), t6, t7, t8, t9⟩ (zbx _ _) (zbi (List.mem_append_right _ (by simp))) fun h'' ⟨l1, l2, l3, l4⟩ => ?_
  rw [← hs] at l2
  exact ziv (L := [a, T]) I' hx (fun b hb => by
    simp only [List.mem_cons, List.not_mem_nil, or_false] at hb
    rcases hb with rfl | rfl
    · exact ⟨s0 _ n1, h1⟩
    · exact ⟨s0 _ n2, h2⟩) l1 l2 l3 l4 (by simp) (q _ _ _ ee)
theorem zlu {h' : Heap} {a : Addr} {cls : Value} {vs : List Value} (I : Inv X pins σ H s) (M : Heap.MadeExcOf s.heap h' a cls vs) : H a = none := by
  cases e : H a with
  | none => rfl
  | some o =>
    obtain ⟨o', e'⟩ := zbz (I.hok a o e)
    rw [M.new] at e'; cases e'
end
structure Rs (X : Cx) (E : XK) : Prop where
  ex : X.ex = []
  st : X.stack = X.env :: X.outer
  fr : X.env.frame = some X.env.locals
  xe : ∀ e s', wpAny (model X.prog X.w) X.A (leaving X.env e) (fun _ s'' => CXE X.prog X.w X.outer X.H₀ X.s₀ E e s'') (fun e' s'' => CXE X.prog X.w X.outer X.H₀ X.s₀ E e' s'') s' → X.xe e s'
theorem Rs.passes {X : Cx} {E E' : XK} (R : Rs X E) (q : ∀ a cls H', E' cls (some a) H' → E cls (some a) H') : Passes (CXE X.prog X.w) X E' := fun pins σ H s e s' I c => R.xe e s' (zjo I R.ex R.st R.fr c q)
def tRaise (E : XK) (cls : Value) (t : TA) : TS := fun D σ H => t σ H fun vs H1 => vs.length ≤ sizeLine ∧ ∀ a, H1 a = none → E cls (some a) H1
theorem znc {X : Cx} {E : XK} {x : Str} {C : Addr} {B newId initId : String} {bm : List Value} {np cpos pos : Pos} {e₀ : Expr} {rest : List Expr} {t : TA} (R : Rs X E) (hc : X.calm = true) (hg : Gl X x) (O : OwnCls x C bm newId X.mg X.base) (FB : ExcBaseFacts B newId initId bm) (ha : PA X (e₀ :: rest) t)
    (he : starEach (e₀ :: rest) X.env = (false, eval e₀ X.env) :: starEach rest X.env := by rfl) (hp : (backTo cpos (starEach rest X.env)).any (·.1) = false := by rfl) (hd : (x == ("__debug__" : Str)) = false := by decide) :
    PS X (.Raise (some (.Call (.Name x np) (e₀ :: rest) [] cpos)) none pos) (tRaise E (.ref C) t) := by
  intro pins s σ H D I h
  obtain ⟨tl, N, nm, q, bs, hdct, sn, sub, ab, col, dd, k0, k1, k2, k3, k5, mN, hC, hN, hni, T⟩ := O.obj
  refine wpAny_Raise_call_subT (C := C) (nm := nm) (q := q) (N := N) (bs := bs) (bm := tl) (hdct := hdct) (sn := sn) (sub := sub) (ab := ab) (col := col) (dd := dd) (k0 := k0) (k1 := k1) (k2 := k2) (k3 := k3) (k5 := k5)
    FB (mN := mN) (T.hasType FB.hasBase) (I.ok.hd hc) (by rw [he]; show (false || (backTo cpos (starEach rest X.env)).any (·.1)) = false; rw [hp]; rfl) hni ?_
  refine thn (zk6 (v := .ref C) (pos := np) hg O.bound rfl hd pins s σ H (fun v H' => v = .ref C ∧ H' = H) I ⟨rfl, rfl⟩) fun u s1 ⟨v, H1, I1, r1, e1, e2⟩ => ?_
  subst e1 e2
  refine ⟨r1, ?_⟩
  have hh := ha cpos pins s1 σ H1 _ I1 h
  rw [he] at hh ⊢
  refine Calls.evalArgs_plain (thn hh fun us s2 ⟨vs, H2, I2, r2, z, q⟩ => ⟨rfl, by rw [← r2.length]; exact z, I2.bk _ _ hC, hN.keeps I2.bk, T.keeps I2.bk, fun h' a M => R.xe _ _ (zhq I2 R.ex R.st R.fr M (q a (zlu I2 M)))⟩)
theorem Fun.okE {P : Program} {w : World} {K : PySem.W.Frag} {mg : Str → Option Value} {base : Heap} {x qual : Str} {st : Stmt} {f : Addr} {fd : FuncData} {N ps : List Str} {k : Nat} {sp : Sp} (F : Fun K x qual st f fd) (S : FnScope N ps (defScope st)) (len : ∀ vs H Q E, sp vs H Q E → vs.length = ps.length)
    (hbody : ∀ (cdv : Value) (A : Around) (outer : List Env) (s : Shared) (H : Hp) (vs : List V) (Q : VK) (E : XK), Room k (A.deeper (envOfC qual (defScope st) s.heap.objs.size f cdv)) → sp vs H Q E → Rs (cxOf (CXE P w) P w K mg base N qual (defScope st) f cdv A outer s H E) E →
      ∃ t, PSs (cxOf (CXE P w) P w K mg base N qual (defScope st) f cdv A outer s H E) (defBody st) t ∧ t { nx := fun _ H' => Q .non H', rt := Q } (start N vs) H) : FnOk P w K mg base (CXE P w) (k + 1) f fd ps sp := by
  obtain ⟨oc, od, kV, doc, pm, an, cdv, ct, osl, rfl, lk, hcd⟩ := F.ex
  exact zse lk hcd S len fun A outer s H vs Q E hr hsp => hbody cdv A outer s H vs Q E hr hsp ⟨rfl, rfl, rfl, fun _ _ h => h⟩
open PySem PySem.Spec PyProof.Rows PySem.Calls
section
variable {X : Cx} {pins : List (Addr × Obj)} {σ : St} {H : Hp} {s : Shared}
theorem Inv.names {h' : Heap} {j : Nat} {n : Str} {m m' : Str → Option Value} (I : Inv X pins σ H s) (hN : X.N.Nodup) (hj : X.N[j]? = some n) (hn : s.heap.Ns X.env.locals m)
    (hl : ∀ (i : Nat) (x : Str) (v : V), X.N[i]? = some x → σ[i]? = some (some v) → Vis X.env.scope x → ∃ u, RelV v u ∧ Look X.env s.heap m x u) (hn' : h'.Ns X.env.locals m') (hm : ∀ x, x ≠ n → m' x = m x) (hs : Heap.SameBut X.env.locals s.heap h') :
    Inv X pins (σ.set j none) H { s with heap := h' } := by
  have low : ∀ b o, X.s₀.heap.get? b = some o → b ≠ X.env.locals := fun b o e => Nat.ne_of_lt (Nat.lt_of_lt_of_le (Heap.lt_size e) I.ok.above)
  refine ⟨I.ok, I.os, I.bare, ⟨fun b o e k hb hx => (hs.2 b (low b o e)).trans (I.base.keep b o e k hb hx), fun b o e k hb hx => ?_, I.base.free, fun b o e hx => ?_, I.base.tups, I.base.frzs, I.base.tbls⟩, ⟨m', hn', fun i y v e1 e2 e3 => ?_⟩, fun y c e => ?_, I.free, I.freeC, fun p hp => ?_, fun b ob e => ?_, by simpa using I.len⟩
  · obtain ⟨sl, e1⟩ := I.base.slot b o e k hb hx
    exact ⟨sl, (hs.2 b (low b o e)).trans e1⟩
  · obtain ⟨o', e1⟩ := I.base.there b o e hx
    exact ⟨o', (hs.2 b (low b o e)).trans e1⟩
  · by_cases hij : i = j
    · subst hij
      rw [List.getElem?_set_self (by rw [I.len]; exact (List.getElem?_eq_some_iff.mp hj).1)] at e2
      cases e2
    · rw [List.getElem?_set_ne (Ne.symm hij)] at e2
      obtain ⟨u', r', q⟩ := hl i y v e1 e2 e3
      refine ⟨u', r', ?_⟩
      rcases q with ⟨k, e⟩ | ⟨k, c, e, z⟩
      · exact .inl ⟨k, by rw [hm y fun z => hij (zfj hN e1 (z ▸ hj))]; exact e⟩
      · exact .inr ⟨k, c, e, z.sameBut hs (I.cne y c e)⟩
  · obtain ⟨w', z⟩ := I.cell y c e
    exact ⟨w', z.sameBut hs (I.cne y c e)⟩
  · obtain ⟨e, k, ne, nf, d⟩ := I.pin p hp
    exact ⟨(hs.2 p.1 ne).trans e, k, ne, nf, d⟩
  · refine (I.hok b ob e).stay (fun c w' hc q => (hs.2 c ?_).trans q) (fun _ q => q) (fun _ _ _ _ _ q => q) fun _ _ q => q
    rintro rfl
    rcases hc with rfl | hc
    · rw [I.free] at e; cases e
    · rw [I.free] at hc; cases hc
theorem zj6 {M : Model} {A : Around} {E : Value → Shared → Prop} {j : Nat} {n : Str} {v : V} {Q : Unit → Shared → Prop} (I : Inv X pins σ H s) (hN : X.N.Nodup) (hj : X.N[j]? = some n) (hk : X.env.scope.names.lookup n = some .local) (hv : σ[j]? = some (some v))
    (h : ∀ s', Inv X pins (σ.set j none) H s' → Q () s') : wpAny M A (unbindName X.env n) Q E s := by
  obtain ⟨m, hn, hl⟩ := id I.loc
  obtain ⟨u, r, lk⟩ := hl j n v hj hv (.inl hk)
  have hmn : m n = some u := by
    rcases lk with ⟨_, e⟩ | ⟨k, _⟩
    · exact e
    · rcases k with k | k <;> (have : X.env.kindOf n = some .local := hk; rw [this] at k; cases k)
  exact wpAny_unbindName_local hk hn hmn (by rw [I.ok.kind]; rfl) fun h' u' hn' hs => h _ (I.names hN hj hn hl hn' (fun x hx => if_neg hx) hs)
def Cx.held (X : Cx) (a : Addr) : Cx := { X with A := X.A.mark (some (.ref a)), calm := false, xe := fun _ _ => False }
theorem Cx.Ok.held {a : Addr} (ok : X.Ok) : (X.held a).Ok := ⟨ok.mod, ok.kind, ok.glob, ok.blt, ok.above, ok.inj, ok.has, ok.cab, (fun h => nomatch h), ok.frames, ok.stk, ok.exf, ok.bs, ok.bsz, ok.noex, ok.exfs, ok.funs, ok.frf⟩
theorem Inv.held {a : Addr} (I : Inv X pins σ H s) : Inv (X.held a) pins σ H s := ⟨I.ok.held, I.os, I.bare, I.base, I.loc, I.cell, I.free, I.freeC, I.pin, I.hok, I.len⟩
theorem Inv.unheld {a : Addr} (ok : X.Ok) (I : Inv (X.held a) pins σ H s) : Inv X pins σ H s := ⟨ok, I.os, I.bare, I.base, I.loc, I.cell, I.free, I.freeC, I.pin, I.hok, I.len⟩
theorem Inv.adopt {a : Addr} {o : HO} {vs : Array Value} {oe : Obj} (I : Inv X pins σ H s) (ha : H a = none) (h0 : X.s₀.heap.get? a = none) (he : s.heap.get? a = some oe) (hd : oe.data = .fields vs) (hp : ∀ p ∈ X.pn ++ pins, p.1 ≠ a) (new : ObjOk X.prog X.w (upd H a o) s.heap a o) :
    Inv X pins σ (upd H a o) s := by
  have nL : X.env.locals ≠ a := fun z => by
    obtain ⟨m, ⟨ob, es, ep, e, dd, _⟩, _⟩ := I.loc
    rw [z, he] at e; cases e
    rw [hd] at dd; cases dd
  have nC : ∀ x c, X.env.cells.lookup x = some c → c ≠ a := fun x c e z => by
    obtain ⟨v, ob, e1, dd⟩ := I.cell x c e
    rw [z, he] at e1; cases e1
    rw [hd] at dd; cases dd
  have up : ∀ b u, H b = some u → upd H a o b = some u := fun b u e => by rw [zan (fun z => by rw [z, ha] at e; cases e)]; exact e
  refine ⟨I.ok, I.os, I.bare, ⟨I.base.keep, I.base.slot, fun b ob e k hx => ?_, I.base.there, fun b xs e => up _ _ (I.base.tups b xs e), fun b ob u e => up _ _ (I.base.frzs b ob u e), fun b qs ps e => up _ _ (I.base.tbls b qs ps e)⟩, I.loc, I.cell, by rw [zan nL]; exact I.free, fun x c e => by rw [zan (nC x c e)]; exact I.freeC x c e, fun p hpp => ?_, fun b u e => ?_, I.len⟩
  · rw [zan (fun z => by rw [z, h0] at e; cases e)]
    exact I.base.free b ob e k hx
  · obtain ⟨e, k, r⟩ := I.pin p hpp
    exact ⟨e, by rw [zan (hp p hpp)]; exact k, r⟩
  · by_cases hb : b = a
    · subst hb; rw [zau] at e; cases e; exact new
    · rw [zan hb] at e
      exact (I.hok b u e).stay (fun _ _ _ q => q) (fun c q => up c _ q) (fun c _ _ _ _ q => up c _ q) fun c xs q => up c _ q
theorem Inv.touch {h' : Heap} {L : List Addr} {t' : Nat} (I : Inv X pins σ H s) (k : ∀ b o, b ∉ frs X.stack → b ∉ L → s.heap.get? b = some o → h'.get? b = some o) (sl : ∀ b o, b ∈ frs X.stack → s.heap.get? b = some o → ∃ sl, h'.get? b = some { o with slots := sl })
    (hL : ∀ b ∈ L, ∃ φ, H b = some (.ext φ) ∧ φ h' ∧ ∃ o, h'.get? b = some o) : Inv X pins σ H { s with heap := h', toks := t' } := by
  have fr : ∀ b ∈ frs X.stack, H b = none := I.stkFree
  refine I.call' (ch := []) rfl ⟨fun b o e n hb _ => k b o hb (fun z => ?_) e, fun b o e n hb _ => sl b o hb e, fun _ _ _ n _ => n, fun b o e _ => ?_, fun _ _ e => e, fun _ _ _ e => e, fun _ _ _ e => e⟩ (fun b u e => ?_) I.bare fun b z => nomatch z
  · obtain ⟨φ, e', _⟩ := hL b z
    rw [n] at e'; cases e'
  · by_cases hb : b ∈ frs X.stack
    · obtain ⟨q, e'⟩ := sl b o hb e
      exact ⟨_, e'⟩
    · by_cases hl : b ∈ L
      · obtain ⟨_, _, _, o', e'⟩ := hL b hl
        exact ⟨o', e'⟩
      · exact ⟨o, k b o hb hl e⟩
  · by_cases hl : b ∈ L
    · obtain ⟨φ, e', p, o', e''⟩ := hL b hl
      rw [e] at e'; cases e'
      exact ⟨p, ⟨o', e''⟩, (I.hok b _ e).2.2⟩
    · refine (I.hok b u e).stay (fun c w hc ec => k c w (fun z => ?_) (fun z => ?_) ec) (fun _ z => z) (fun _ _ _ _ _ z => z) fun _ _ z => z
      · have := fr c z
        rcases hc with rfl | hc
        · rw [this] at e; cases e
        · rw [this] at hc; cases hc
      · rcases hc with rfl | hc
        · exact hl z
        · obtain ⟨φ, e', _⟩ := hL c z
          rw [hc] at e'; cases e'
def ExcIs (a : Addr) (cls : Value) (h : Heap) : Prop := ∃ (o : Obj) (vs : Array Value), h.get? a = some o ∧ o.cls = cls ∧ o.data = .fields vs
def TbIs (T : Addr) (h : Heap) : Prop := ∃ (o : Obj) (vs : Array Value), h.get? T = some o ∧ o.data = .fields vs
def excO (a : Addr) (cls : Value) : HO := .ext (ExcIs a cls)
def tbO (T : Addr) : HO := .ext (TbIs T)
theorem zsg {P : Program} {w : World} {h : Heap} {H : Hp} {a : Addr} {cls : Value} (x : ExcIs a cls h) : ObjOk P w H h a (excO a cls) :=
  ⟨x, let ⟨o, _, e, _⟩ := x; ⟨o, e⟩, fun h1 h2 ⟨o, vs, e, r⟩ k => ⟨o, vs, k o e, r⟩⟩
theorem zrf {P : Program} {w : World} {h : Heap} {H : Hp} {T : Addr} (x : TbIs T h) : ObjOk P w H h T (tbO T) :=
  ⟨x, let ⟨o, _, e, _⟩ := x; ⟨o, e⟩, fun h1 h2 ⟨o, vs, e, r⟩ k => ⟨o, vs, k o e, r⟩⟩
end
section
variable {prog : Program} {w : World} {A : Around} {E : Value → Shared → Prop} {s : Shared} {env : Env}
theorem zn6 {base : Heap} {outer : List Env} {L e T : Addr} {oe oT : Obj} {vs ts : Array Value} {Q : Unit → Shared → Prop} (hfr : A.frames = some (env :: outer)) (hl : s.heap.FunFrames base (env :: outer)) (hf : env.frame = some L) (he : s.heap.get? e = some oe) (hd : oe.data = .fields vs) (h1 : vs[1]? = some (.ref T))
    (hTe : T ≠ e) (hT : s.heap.get? T = some oT) (hdT : oT.data = .fields ts) (h3 : ts[3]? = some .none)
    (h : ∀ h', (∀ b o, b ∉ frs (env :: outer) → b ≠ e → b ≠ T → s.heap.get? b = some o → h'.get? b = some o) → (∀ b o, b ∈ frs (env :: outer) → s.heap.get? b = some o → ∃ sl, h'.get? b = some { o with slots := sl }) → TbIs T h' →
      (∃ (oe' : Obj) (vs' : Array Value) (T2 : Addr) (oT2 : Obj) (ts2 : Array Value), h'.get? e = some oe' ∧ oe'.cls = oe.cls ∧ oe'.data = .fields vs' ∧ vs'[1]? = some (.ref T2) ∧ T2 ≠ e ∧ h'.get? T2 = some oT2 ∧ oT2.data = .fields ts2 ∧ ts2[3]? = some .none ∧ s.heap.get? T2 = none) → Q () { s with heap := h' }) :
    wpAny (model prog w) A (noteFrame (.ref e) env) (fun _ s' => wpAny (model prog w) A (setFlight (.ref e) none) Q E s') E s := by
  unfold noteFrame
  simp only [hf]
  refine wpAny_bind (wpAny_field he hd h1 ?_)
  rw [if_pos (show (Value.ref T != Value.none) = true from by simp)]
  refine wpAny_bind (wpAny_field hT hdT h3 ?_)
  rw [if_neg (show ¬ ((Value.none == rawInt L) = true) from by simp [rawInt])]
  refine wpAny_bind (wpAny_setField hT hdT (Array.getElem?_eq_some_iff.mp h3).1 ?_)
  have other : ∀ b, b ≠ T → (s.heap.update T (Obj.mapFields (·.setIfInBounds 3 Value.none))).get? b = s.heap.get? b := fun b hb => Heap.get?_update_other _ _ (Ne.symm hb)
  have hdT' := Obj.data_mapFields hdT (·.setIfInBounds 3 Value.none)
  have hT' := Heap.get?_update_self (Obj.mapFields (·.setIfInBounds 3 Value.none)) hT (Obj.isFreed_of_fields hdT')
  generalize s.heap.update T (Obj.mapFields (·.setIfInBounds 3 Value.none)) = h2 at other hT'
  have nr : ∀ b o, s.heap.get? b = some o → (∀ vs, o.data ≠ .fields vs) → b ≠ T := fun b o hb hnf q => by
    rw [q, hT] at hb; injection hb with hb; subst hb; exact hnf ts hdT
  have hl2 : h2.FunFrames base (env :: outer) := hl.of_keeps fun b o hb hnf => ⟨o, (other b (nr b o hb hnf)).trans hb, rfl⟩
  have fT : T ∉ frs (env :: outer) := fun z => by
    obtain ⟨_, o, e1, e2⟩ := hl.mem z
    rw [hT] at e1; cases e1; exact e2 _ hdT
  have fe : e ∉ frs (env :: outer) := fun z => by
    obtain ⟨_, o, e1, e2⟩ := hl.mem z
    rw [he] at e1; cases e1; exact e2 _ hd
  refine wpAny_newEntry (base := without h2 (frs (env :: outer) ++ [e])) hfr (zb2 hl2 fun b hb => zbi (List.mem_append_left _ hb)) hf ((other e (Ne.symm hTe)).trans he) (zbx _ _) (zbi (List.mem_append_right _ (List.mem_singleton.mpr rfl))) hd (Array.getElem?_eq_some_iff.mp h1).1
    fun h' ⟨x1, x2, x3, x4⟩ => ?_
  have st : ∀ b o, b ∉ frs (env :: outer) → b ≠ e → h2.get? b = some o → h'.get? b = some o := fun b o n1 n2 q => x1 b o (by rw [zbn (fun z => (List.mem_append.mp z).elim n1 fun z => n2 (List.mem_singleton.mp z))]; exact q)
  obtain ⟨oe', vs', T2, oT2, ts2, t1, t2, t3, t4, t5, t6, t7, t8, t9⟩ := x3
  have f2 : T2 ∉ frs (env :: outer) := fun z => by
    obtain ⟨_, o, e1, e2⟩ := x2.mem z
    rw [t7] at e1; cases e1; exact e2 _ t8
  have n2 : h2.get? T2 = none := by rw [zbn (fun z => (List.mem_append.mp z).elim f2 fun z => t6 (List.mem_singleton.mp z))] at t5; exact t5
  have n2T : T2 ≠ T := fun z => by rw [z, hT'] at n2; cases n2
  refine h h' (fun b o b1 b2 b3 q => st b o b1 b2 ((other b b3).trans q)) (fun b o hb q => ?_) ⟨_, _, st T _ fT hTe hT', hdT'⟩ ⟨oe', vs', T2, oT2, ts2, t1, t2, t3, t4, t6, t7, t8, t9, by rw [← other T2 n2T]; exact n2⟩
  obtain ⟨_, o', e1, e2⟩ := hl.mem hb
  rw [q] at e1; cases e1
  exact x4 b o ((other b (nr b o q e2)).trans q) e2
end
section
variable {X : Cx} {pins : List (Addr × Obj)} {σ : St} {H : Hp} {s : Shared} {k : Nat} {fa : Addr} {fd : FuncData} {ps : List Str} {sp : Sp}
theorem zqx {Ec : XK} {Q : VK} {Xe : Value → Shared → Prop} {x : Str} {e : Expr} {es : List Expr} {t : TA} {p pos : Pos} (F : FnOk X.prog X.w X.K X.mg X.base (CXE X.prog X.w) k fa fd ps sp) (hr : Room k X.A) (hg : Gl X x) (hm : X.mg x = some (.ref fa)) (hk : PySem.W.keepIn X.K (.ref fa) = true) (hb : Binds X.K fd ps [])
    (ha : PA X.nox (e :: es) t) (I : Inv X pins σ H s) (h : t σ H fun vs H1 => sp vs H1 Q Ec) (hx : ∀ H1 s1 e s', Inv X pins σ H1 s1 → CXE X.prog X.w X.stack H1 s1 Ec e s' → Xe e s')
    (hdb : (x == ("__debug__" : Str)) = false := by decide) (he : starEach (e :: es) X.env = (false, eval e X.env) :: starEach es X.env := by rfl) (hpl : (backTo pos (starEach es X.env)).any (·.1) = false := by rfl) :
    wpAny (model X.prog X.w) X.A (eval (.Call (.Name x p) (e :: es) [] pos) X.env) (EP X pins σ Q) Xe s := by
  refine wpAny_Call_Name_kw (zd2 I hg hm ?_ hdb)
  refine PySem.W.callWith_K (h₀ := X.base) I.ok.mod.kin hk (wpAny_mono (ha pos pins s σ H _ (I.wish _) h) (fun us s1 ⟨vs, H1, I1, r, q⟩ => ⟨I1.unwish.kIn, ?_⟩) fun _ _ z => False.elim z) he hpl
  have I1' := I1.unwish
  have hl : us.length = ps.length := by rw [← r.length]; exact F.len _ _ _ _ q
  refine wpAny_call (codeAny_mono (F.run X.A X.stack s1 H1 ⟨us, []⟩ us vs Q Ec hr I1'.env0 (by have := hb s1 us I1'.kIn (by rw [List.append_nil]; exact hl); rw [List.append_nil] at this; exact this) r q) fun r s' hq => ?_)
  cases r with
  | error e => exact hx H1 s1 e s' I1' hq
  | ok fl =>
    cases fl with
    | ret u => exact I1'.after hq
    | next => exact False.elim hq
    | brk => exact False.elim hq
    | cont => exact False.elim hq
theorem zmc {M : Model} {A : Around} {E : Value → Shared → Prop} {a T : Addr} {oe oT : Obj} {vs ts : Array Value} {Q : Unit → Shared → Prop} (I : Inv X pins σ H s) (he : s.heap.get? a = some oe) (hd : oe.data = .fields vs) (h1 : vs[1]? = some (.ref T)) (hT : s.heap.get? T = some oT) (hdT : oT.data = .fields ts) (h3 : 3 < ts.size)
    (tr : H T = some (tbO T)) (h : ∀ h', Inv X pins σ H { s with heap := h' } → Q () { s with heap := h' }) : wpAny M A (setFlight (.ref a) none) Q E s := by
  unfold setFlight
  refine wpAny_bind (wpAny_field he hd h1 ?_)
  rw [if_pos (show (Value.ref T != Value.none) = true from by simp)]
  refine wpAny_setField hT hdT h3 ?_
  have other : ∀ b, b ≠ T → (s.heap.update T (Obj.mapFields (·.setIfInBounds 3 ((none : Option Addr).elim Value.none fun f => rawInt f)))).get? b = s.heap.get? b := fun b hb => Heap.get?_update_other _ _ (Ne.symm hb)
  have hdT' := Obj.data_mapFields hdT (·.setIfInBounds 3 ((none : Option Addr).elim Value.none fun f => rawInt f))
  have hT' := Heap.get?_update_self (Obj.mapFields (·.setIfInBounds 3 ((none : Option Addr).elim Value.none fun f => rawInt f))) hT (Obj.isFreed_of_fields hdT')
  refine h _ (I.touch (L := [T]) (t' := s.toks) (fun b o _ n q => (other b (fun z => n (List.mem_singleton.mpr z))).trans q) (fun b o hb q => ⟨o.slots, (other b (fun z => ?_)).trans q⟩) fun b hb => ?_)
  · have := I.stkFree b hb
    rw [z, tr] at this; cases this
  · rw [List.mem_singleton.mp hb]
    exact ⟨_, tr, ⟨_, _, hT', hdT'⟩, _, hT'⟩
end
open PySem PySem.Spec PyProof.Rows PySem.W
structure KExc (K : PySem.W.Frag) (C : Addr) : Prop where
  ga : findIn K (.ref C) "__getattribute__" = some (some (.builtin "BaseException.__getattribute__"))
  gn : findIn K (.ref C) "__getattr__" = some none
  cl : findIn K (.ref C) "__class__" = some (some (.builtin "object.__class__"))
  mb : mroIn K C (.type "BaseException") = some true
  mo : mroIn K C (.type "object") = some true
  ic : hasDictIn K C = true
section
variable {prog : Program} {w : World} {A : Around} {E : Value → Shared → Prop} {K : PySem.W.Frag} {h : Heap} {g : Array GenState} {d : Drawn} {t : Nat} {os : OsState} {a C : Addr} {o : Obj}
theorem zib {M : Model} {base : Value} {r : Bool} {Q : Bool → Shared → Prop} (X : K.In h) (e : mroIn K C base = some r) (hq : Q r ⟨h, g, d, t, os⟩) : wpAny M A (isSubtype (.ref C) base) Q E ⟨h, g, d, t, os⟩ := looks_mroIn X e A Q E _ (fun _ _ e => e) hq
theorem zhr {M : Model} {v : Value} {n : Str} {r : Option Value} {Q : Option Value → Shared → Prop} (X : K.In h) (e : findIn K v n = some r) (hq : Q r ⟨h, g, d, t, os⟩) : wpAny M A (typeLookup v n) Q E ⟨h, g, d, t, os⟩ := looks_findIn X e A Q E _ (fun _ _ e => e) hq
theorem zfo {R : Result → Shared → Prop} (X : K.In h) (k : KExc K C) (hx : h.get? a = some o) (hc : o.cls = .ref C) (hq : R (.ok (.ret (.ref C))) ⟨h, g, d, t, os⟩) :
    codeAny (model prog w) A (.call (.builtin "getset_descriptor.__get__") ⟨[.builtin "object.__class__", .ref a, .ref C], []⟩) R ⟨h, g, d, t, os⟩ := by
  have hT5 : (⟨h, g, d, t, os⟩ : Shared).TypeIs (.builtin "object.__class__") "getset_descriptor" := F.typeOf_object_class
  have mo : mroIn K C (.type (".".intercalate ("object.__class__".cutAt '.').dropLast)) = some true := by rw [F.owner_object_class]; exact k.mo
  refine codeAny_call_builtin F.slot_gs_get.plain F.entry_gs_get (F.slot_gs_get.check _ _ _ _ _ _ _ _ hT5 (F.args_gs_get _ _ _) ?_)
  repeat (any_goals (first | assumption | (with_reducible refine wpAny_loadPart_at hx ?_; rw [hc]) | (with_reducible refine zib X mo ?_) | wp_step))
  refine ⟨Code.quiet_builtin _ (by decide +kernel), codeAny_builtin F.entry_object_class ?_⟩
  repeat (any_goals (first | assumption | (with_reducible refine wpAny_loadPart_at hx ?_; rw [hc]) | wp_step))
theorem zgs {M : Model} {nameV : Value} {Q : Unit → Shared → Prop} (X : K.In h) (k : KExc K C) (hx : h.get? a = some o) (hc : o.cls = .ref C) (hq : Q () ⟨h, g, d, t, os⟩) : wpAny M A (checkBuiltinCall "BaseException.__getattribute__" ⟨[.ref a, nameV], []⟩) Q E ⟨h, g, d, t, os⟩ := by
  have hk : builtinKind "BaseException.__getattribute__" = some .slot := by decide +kernel
  have hsplit : splitId "BaseException.__getattribute__" = some ("BaseException", "__getattribute__") := by decide +kernel
  have mb := k.mb
  have ha := F.args_bexc_ga (.ref a) nameV
  simp only [checkBuiltinCall, hk, hsplit]
  refine wpAny_bind ?_
  unfold isInstance
  repeat (first | (with_reducible refine wpAny_loadPart_at hx ?_; rw [hc]) | (with_reducible refine zib X mb ?_) | wp_step)
  exact hq
theorem zea {tk : Tok} {Q : Fin → Shared → Prop} (X : K.In h) (k : KExc K C) (hx : h.get? a = some o) (hc : o.cls = .ref C) (hq : Q (.done (.ret (.ref C))) ⟨h, g, d, t, os⟩) :
    wpAny (model prog w) A (Builtin.«object.__getattribute__» ⟨[.ref a, .str "__class__" tk], []⟩) Q E ⟨h, g, d, t, os⟩ := by
  have hT5 : (⟨h, g, d, t, os⟩ : Shared).TypeIs (.builtin "object.__class__") "getset_descriptor" := F.typeOf_object_class
  have cl := k.cl
  have f5 := F.typeOf_object_class
  have f6 := F.slot_gs_get.lookup
  have f7 := F.slot_gs_set.lookup
  repeat (any_goals (first | assumption | (with_reducible refine wpAny_loadPart_at hx ?_; rw [hc]) | (with_reducible refine zhr X cl ?_) | wp_step))
  refine zfo X k hx hc ?_
  repeat (any_goals (first | assumption | wp_step))
theorem zgr {tk : Tok} {Q : Value → Shared → Prop} (FB : ExcAttrFacts "ValueError") (X : K.In h) (k : KExc K C) (hx : h.get? a = some o) (hc : o.cls = .ref C) (hq : Q (.ref C) ⟨h, g, d, t, os⟩) : wpAny (model prog w) A (getAttrBy (.ref a) (.str "__class__" tk) false) Q E ⟨h, g, d, t, os⟩ := by
  have f3 := FB.ga.bind (.ref a)
  have hx2 : (Value.builtin "BaseException.__getattribute__" == Value.builtin "object.__getattribute__") = false := by decide +kernel
  have ga := k.ga
  have gn := k.gn
  repeat (any_goals (first | assumption | (with_reducible refine wpAny_loadPart_at hx ?_; rw [hc]) | (with_reducible refine zhr X ga ?_) | (with_reducible refine zhr X gn ?_) | wp_step))
  refine codeAny_call_builtin FB.ga.plain F.entry_bexc_ga (zgs X k hx hc (zea X k hx hc ?_))
  repeat (any_goals (first | assumption | wp_step))
theorem zem {Q : Option Value → Shared → Prop} (FB : ExcAttrFacts "ValueError") (X : K.In h) (k : KExc K C) (hx : h.get? a = some o) (hc : o.cls = .ref C) (hq : Q (some (.ref C)) ⟨h, g, d, t + 1, os⟩) : wpAny (model prog w) A (getAttr? (.ref a) "__class__") Q E ⟨h, g, d, t, os⟩ := by
  unfold getAttr? getAttrBy?
  repeat (any_goals (first | assumption | with_reducible apply zgr FB X k hx hc | wp_step))
end
theorem ziw {K : PySem.W.Frag} {a C : Addr} (k : KExc K C) : KitX K (.ref a) (.ref C) (fun h => ∃ o, h.get? a = some o ∧ o.cls = .ref C) where
  ty := fun M h _ ⟨o, e, c⟩ => by
    intro A Q E s kk q
    obtain ⟨hp, g, d, t, os⟩ := s
    have e' := kk _ _ e
    repeat (first | (with_reducible refine wpAny_loadPart_at e' ?_; rw [c]) | wp_step)
    exact q
  it := fun _ _ X _ => by
    obtain ⟨cd, hcD, _⟩ := any_some k.ic
    unfold clsIn at hcD
    split at hcD
    · rename_i c' d' cd' sl' ho
      intro A' Q' E' s' kk q
      unfold isType loadHead
      exact wpAny_bind (wpAny_loadPart (kk _ _ (X _ _ ho)) (wpAny_pure q))
    · cases hcD
  ne := fun h tp dd its n sl X htp => by
    obtain ⟨cd, hcD, _⟩ := any_some k.ic
    refine Bool.eq_false_iff.mpr fun q => ?_
    have e : C = tp := Value.ref.inj (beq_iff_eq.mp q)
    subst e
    unfold clsIn at hcD
    split at hcD
    · rename_i c' d' cd' sl' ho
      have z := (X _ _ ho).symm.trans htp
      cases z
    · cases hcD
  ca := fun {_ _ _ _ _ s} X p q => by
    obtain ⟨hp, g, d, t, os⟩ := s
    obtain ⟨o, e, c⟩ := p
    exact zem F.excAttr_ValueError X k e c q
def rIsX (K : PySem.W.Frag) : List V → Hp → VK → Prop := fun xs H Q => ∃ a C S b, xs = [.ref a, .ref S] ∧ H a = some (excO a (.ref C)) ∧ KExc K C ∧ kitOne K (.ref C) (.ref S) = some b ∧ Q (.bl b) H
def rIsXT (K : PySem.W.Frag) : List V → Hp → VK → Prop := fun xs H Q => ∃ a C T b, xs = [.ref a, .ty T] ∧ H a = some (excO a (.ref C)) ∧ KExc K C ∧ kitOne K (.ref C) (.type T) = some b ∧ Q (.bl b) H
theorem zo7 {X : Cx} {pins : List (Addr × Obj)} {σ : St} {H : Hp} {s : Shared} {a : Addr} {cls : Value} (I : Inv X pins σ H s) (e : H a = some (excO a cls)) : ∃ o, s.heap.get? a = some o ∧ o.cls = cls :=
  let ⟨⟨o, _, h1, h2, _⟩, _, _⟩ := (show ObjOk X.prog X.w H s.heap a (excO a cls) from I.hok a _ e)
  ⟨o, h1, h2⟩
theorem zou {X : Cx} : CallR X (.builtin "isinstance") (rIsX X.K) := by
  intro pins s σ H xs us Q I r h
  obtain ⟨a, C, S, b, rfl, ea, k, e, q⟩ := h
  obtain ⟨u, w', rfl, rx, ry⟩ := vals2 r
  cases (show w' = Value.ref S from ry)
  cases (show u = Value.ref a from rx)
  exact kia_one (ziw k) I.kIn (zo7 I ea) e (fun z => nomatch z) fun tk => ⟨.bl b, H, I.tok _, rfl, q⟩
theorem zmq {X : Cx} : CallR X (.builtin "isinstance") (rIsXT X.K) := by
  intro pins s σ H xs us Q I r h
  obtain ⟨a, C, T, b, rfl, ea, k, e, q⟩ := h
  obtain ⟨u, w', rfl, rx, ry⟩ := vals2 r
  cases (show w' = Value.type T from ry)
  cases (show u = Value.ref a from rx)
  exact kia_one (ziw k) I.kIn (zo7 I ea) e (fun z => nomatch z) fun tk => ⟨.bl b, H, I.tok _, rfl, q⟩
open PySem PySem.Spec PyProof.Rows PySem.W PySem.Calls
section
variable {M : Model} {A : Around} {E : Value → Shared → Prop} {K : PySem.W.Frag} {h : Heap} {g : Array GenState} {d : Drawn} {t : Nat} {os : OsState}
theorem zpj {v c : Value} {Q : Value → Shared → Prop} (X : K.In h) (e : typeIn K v = some c) (hq : Q c ⟨h, g, d, t, os⟩) : wpAny M A (typeOf v) Q E ⟨h, g, d, t, os⟩ := looks_typeIn X e A Q E _ (fun _ _ e => e) hq
structure KSup (K : PySem.W.Frag) (S : Addr) : Prop where
  ty : typeIn K (.ref S) = some (.type "type")
  mb : mroIn K S (.type "BaseException") = some true
  ic : hasDictIn K S = true
theorem zgo {e C S : Addr} {oe : Obj} {Q : Bool → Shared → Prop} (X : K.In h) (k : KSup K S) (he : h.get? e = some oe) (hcls : oe.cls = .ref C) (ms : mroIn K C (.ref S) = some true) (hq : Q true ⟨h, g, d, t, os⟩) : wpAny M A (excMatches (.ref e) (.ref S)) Q E ⟨h, g, d, t, os⟩ := by
  have ty := k.ty
  have mb := k.mb
  have f := tc_notTuple
  obtain ⟨cd, hcd, _⟩ := any_some k.ic
  unfold clsIn at hcd
  split at hcd
  · rename_i c' d' cd' sl' ho
    have hS := X _ _ ho
    unfold excMatches
    repeat (first | (with_reducible refine wpAny_loadPart_at he ?_; rw [hcls]) | (with_reducible refine zpj X ty ?_) | with_reducible refine wpAny_loadPart_at hS ?_ | (with_reducible refine zib X mb ?_) | (with_reducible refine zib X ms ?_) | wp_step)
    exact hq
  · cases hcd
end
section
variable {prog : Program} {w : World} {A : Around} {E : Value → Shared → Prop} {s : Shared} {env : Env}
theorem zl8 {K : PySem.W.Frag} {a C S : Addr} {t : Expr} {n : Str} {b₀ : Stmt} {suite : List Stmt} {pos : Pos} {rest : List ExceptHandler} {Q : Flow → Shared → Prop} (k : KSup K S) (ms : mroIn K C (.ref S) = some true)
    (h : wpAny (model prog w) (A.mark (some (.ref a))) (eval t env) (fun c s₁ => c = .ref S ∧ K.In s₁.heap ∧ (∃ oe, s₁.heap.get? a = some oe ∧ oe.cls = .ref C) ∧
      wpAny (model prog w) (A.mark (some (.ref a))) (setFlight (.ref a) none) (fun _ s₂ => wpAny (model prog w) (A.mark (some (.ref a))) (storeName env n (.ref a)) (fun _ s₃ => wpAny (model prog w) (A.mark (some (.ref a))) (execs (b₀ :: suite) env)
        (fun f s₄ => wpAny (model prog w) A (do bindName env n .none; unbindBehindTheSuite env n pos) (fun _ s₅ => Q f s₅) E s₄) (fun _ _ => False) s₃) (fun _ _ => False) s₂) (fun _ _ => False) s₁) (fun _ _ => False) s) :
    wpAny (model prog w) A (handleBy (.ref a) env (.ExceptHandler (some t) (some n) (b₀ :: suite) pos :: rest)) Q E s := by
  refine wpAny_handleBy_cons (codeAny_handlers_test (wpAny_mono h (fun c s₁ h₁ => ?_) fun _ _ y => False.elim y)) (by intro q; cases q)
  obtain ⟨rfl, KI, ⟨oe, he, hcls⟩, hk⟩ := h₁
  obtain ⟨hh, g, d, tk, os⟩ := s₁
  refine zgo KI k he hcls ms (codeAny_handlers_suite_as ?_)
  exact wpAny_mono hk (fun _ s₂ h₂ => wpAny_mono h₂ (fun _ s₃ h₃ => wpAny_mono h₃ (fun _ _ y => y) fun _ _ y => False.elim y) fun _ _ y => False.elim y) fun _ _ y => False.elim y
end
section
variable {X : Cx} {pins : List (Addr × Obj)} {σ : St} {H : Hp} {s : Shared} {k : Nat} {fa : Addr} {fd : FuncData} {ps : List Str} {sp : Sp}
def tTry (K : PySem.W.Frag) (S : Addr) (sp : Sp) (i j : Nat) (t : TA) (ts : TS) : TS := fun D σ H => t σ H fun vs H1 => sp vs H1 (fun v H2 => D.nx (σ.set i (some v)) H2) fun cls oa H2 => ∀ a, oa = some a → ∃ C, cls = .ref C ∧ mroIn K C (.ref S) = some true ∧
  ∀ H3, Same H2 H3 → H3 a = some (excO a cls) → ts { nx := fun σ' H' => (∃ v, σ'[j]? = some (some v)) ∧ D.nx (σ'.set j none) H', rt := fun _ _ => False } (σ.set j (some (.ref a))) H3
theorem zrj {x f c n : Str} {i j : Nat} {S : Addr} {e : Expr} {es : List Expr} {t : TA} {ts : TS} {px np cpos apos cp hpos pos : Pos} {b₀ : Stmt} {suite : List Stmt} (F : FnOk X.prog X.w X.K X.mg X.base (CXE X.prog X.w) k fa fd ps sp) (hr : Room k X.A) (hg : Gl X f) (hm : X.mg f = some (.ref fa))
    (hkp : PySem.W.keepIn X.K (.ref fa) = true) (hb : Binds X.K fd ps []) (ha : PA X.nox (e :: es) t) (hgS : Gl X c) (hmS : X.mg c = some (.ref S)) (kS : KSup X.K S)
    (hx : X.ex = []) (hst : X.stack = X.env :: X.outer) (hfr : X.env.frame = some X.env.locals) (hN : X.N.Nodup) (hi : X.N[i]? = some x) (hxl : Loc X.env.scope x) (hj : X.N[j]? = some n) (hnl : X.env.scope.names.lookup n = some .local) (hsu : ∀ a, PSs (X.held a) (b₀ :: suite) ts)
    (hs : swapsWith (.Call (.Name f np) (e :: es) [] cpos) (some (.Name x px)) apos.line X.env = pure false := by rfl) (hf : X.fn x = true ∨ X.env.scope.names.lookup x = some .local := by first | exact .inl rfl | exact .inr rfl | assumption) (hdb : (f == ("__debug__" : Str)) = false := by decide)
    (hdc : (c == ("__debug__" : Str)) = false := by decide) (he : starEach (e :: es) X.env = (false, eval e X.env) :: starEach es X.env := by rfl) (hpl : (backTo cpos (starEach es X.env)).any (·.1) = false := by rfl) :
    PS X (.Try [.Assign [.Name x px] (.Call (.Name f np) (e :: es) [] cpos) apos] [.ExceptHandler (some (.Name c cp)) (some n) (b₀ :: suite) hpos] [] [] pos) (tTry X.K S sp i j t ts) := by
  intro pins s σ H D I h
  refine wpAny_Try_except (wpAny_execs_cons (wpAny_Assign_Name (wpAny_mono (zqx F hr hg hm hkp hb ha I h (Xe := _) (fun H1 s1 ev s' I1 cx => ?_) hdb he hpl) (fun v s1 ⟨y, H1, I1, r1, q1⟩ => ?_) fun _ _ z => z) hs))
  · -- an exception
    obtain ⟨a, cls, H2, rfl, os, bare, un, hok, ⟨oe, vs, T, oT, tts, t1, t2, t3, t4, t6, t7, t8, t9, n1, n2, h1, h2⟩, ee⟩ := cx
    obtain ⟨C, rfl, ms, ht⟩ := ee a rfl
    have I2 : Inv X pins σ H2 s' := I1.call' (ch := []) os un hok bare fun b z => nomatch z
    have nex : ∀ b, b ∉ X.ex := fun b z => by rw [hx] at z; cases z
    have s0 : ∀ b, s1.heap.get? b = none → X.s₀.heap.get? b = none := fun b z => by
      cases q : X.s₀.heap.get? b with
      | none => rfl
      | some o =>
        obtain ⟨o', e'⟩ := I1.base.there b o q (nex b)
        rw [z] at e'; cases e'
    have pn : ∀ b, s1.heap.get? b = none → ∀ p ∈ X.pn ++ pins, p.1 ≠ b := fun b z p hp q => by
      have := (I1.pin p hp).1
      rw [q, z] at this; cases this
    have I3 := I2.adopt (o := excO a (.ref C)) h1 (s0 a n1) t1 t3 (pn a n1) (zsg ⟨oe, vs, t1, t2, t3⟩)
    have h2' : upd H2 a (excO a (.ref C)) T = none := by rw [zan t6]; exact h2
    have I4 := I3.adopt (o := tbO T) h2' (s0 T n2) t7 t8 (pn T n2) (zrf ⟨oT, tts, t7, t8⟩)
    refine zn6 (base := X.base) (outer := X.outer) (L := X.env.locals) (T := T) (by rw [← hst]; exact I.ok.frames) (by rw [← hst]; exact I2.stack) hfr t1 t3 t4 t6 t7 t8 t9 fun h'' kk sl tb ⟨oe', vs', T2, oT2, ts2, u1, u2, u3, u4, u5, u6, u7, u8, u9⟩ => ?_
    rw [← hst] at kk sl
    have ea4 : upd (upd H2 a (excO a (.ref C))) T (tbO T) a = some (excO a (.ref C)) := by rw [zan (Ne.symm t6), zau]
    have I5 := I4.touch (L := [a, T]) (t' := s'.toks) (h' := h'') (fun b o b1 b2 q => kk b o b1 (fun z => b2 (by simp [z])) (fun z => b2 (by simp [z])) q) sl fun b hb => by
      simp only [List.mem_cons, List.not_mem_nil, or_false] at hb
      rcases hb with rfl | rfl
      · exact ⟨_, ea4, ⟨oe', vs', u1, u2.trans t2, u3⟩, _, u1⟩
      · obtain ⟨o, w, e1, e2⟩ := id tb
        exact ⟨_, zau, tb, o, e1⟩
    have T2n : s1.heap.get? T2 = none := by
      cases q : s1.heap.get? T2 with
      | none => rfl
      | some o =>
        obtain ⟨o', e'⟩ := un.there T2 o q (fun z => nomatch z)
        rw [u9] at e'; cases e'
    have T2T : T2 ≠ T := fun z => by rw [z, t7] at u9; cases u9
    have HT2 : upd (upd H2 a (excO a (.ref C))) T (tbO T) T2 = none := by
      rw [zan T2T, zan u5]
      cases q : H2 T2 with
      | none => rfl
      | some o =>
        obtain ⟨o', e'⟩ := zbz (hok T2 o q)
        rw [u9] at e'; cases e'
    have I6 := I5.adopt (o := tbO T2) HT2 (s0 T2 T2n) u6 u7 (pn T2 T2n) (zrf ⟨oT2, ts2, u6, u7⟩)
    generalize eH : upd (upd (upd H2 a (excO a (.ref C))) T (tbO T)) T2 (tbO T2) = H3 at I6
    have g3 : Same H2 H3 := by rw [← eH]; exact (za8 h1 _).trans ((za8 h2' _).trans (za8 HT2 _))
    have ea3 : H3 a = some (excO a (.ref C)) := by rw [← eH, zan (Ne.symm u5)]; exact ea4
    have eT3 : H3 T2 = some (tbO T2) := by rw [← eH]; exact zau
    refine zl8 kS ms (zd2 (X := X.held a) (I6.held (a := a)) hgS hmS ⟨rfl, I6.kIn, ⟨oe', u1, u2.trans t2⟩, ?_⟩ hdc)
    refine zmc I6 u1 u3 u4 u6 u7 (Array.getElem?_eq_some_iff.mp u8).1 eT3 fun h7 I7 => ?_
    refine zcr (v := V.ref a) I7 hN hj (.inl hnl) rfl (fun s8 I8 => ?_) (.inr hnl)
    refine wpAny_mono (hsu a pins s8 _ H3 _ (I8.held (a := a)) (ht H3 g3 ea3)) (fun fl s9 hp => ?_) fun _ _ z => False.elim z
    cases fl with
    | next =>
      obtain ⟨σ9, H9, I9, ⟨v, hv⟩, q9⟩ := hp
      have I9' := I9.unheld I.ok
      refine wpAny_bind (wpAny_bindName (zcr (v := V.non) I9' hN hj (.inl hnl) rfl (fun s10 I10 => ?_) (.inr hnl)))
      unfold unbindBehindTheSuite
      refine wpAny_onRaise (zj6 (v := V.non) I10 hN hj hnl (List.getElem?_set_self (by rw [I9'.len]; exact (List.getElem?_eq_some_iff.mp hj).1)) fun s11 I11 => ?_)
      rw [List.set_set] at I11
      exact ⟨_, H9, I11, q9⟩
    | brk => obtain ⟨_, _, _, z⟩ := hp; exact False.elim z
    | cont => obtain ⟨_, _, _, z⟩ := hp; exact False.elim z
    | ret u => obtain ⟨_, _, _, _, _, z⟩ := hp; exact False.elim z
  · exact zcr I1 hN hi hxl r1 (fun s2 I2 => wpAny_execs_nil (wpAny_execs_nil ⟨_, H1, I2, q1⟩)) hf
end
theorem zsq {K : PySem.W.Frag} {h : Heap} {mg : Str → Option Value} {x : Str} {C : Addr} {bmB : List Value} {newId : String} (X : K.In h) (hm : mg x = some (.ref C)) (q : excIn K C bmB newId = true) : OwnCls x C bmB newId mg h := by
  refine ⟨hm, ?_⟩
  unfold excIn at q
  split at q
  · rename_i dd cd sl ho
    split at q
    · rename_i C' bm k0 k1 k2 k3 n k5 e1 e2
      simp only [Bool.and_eq_true, beq_iff_eq, Bool.not_eq_true'] at q
      obtain ⟨⟨⟨⟨⟨z1, z2⟩, z3⟩, z4⟩, z5⟩, z6⟩ := q
      have hC := X _ _ ho
      obtain ⟨nm, bs, mro, ns, qn, hd, sn, sub, ab, col, del⟩ := cd
      simp only at e1 z3 z5 z6
      subst e1 z1 z2 z3
      obtain ⟨l⟩ := sl
      simp only at e2
      subst e2
      exact ⟨bm, ns, nm, qn, bs, hd, sn, sub, ab, col, dd, k0, k1, k2, k3, k5, _, hC, .of_isNs (isNs_of_in X z5), nsMap_none_of_in X z5 z6, tail_of_in X z4⟩
    · cases q
  · cases q
theorem zdt {X : Cx} {E : XK} {x : Str} {C : Addr} {B newId initId : String} {bm : List Value} {np cpos pos : Pos} {e₀ : Expr} {rest : List Expr} {t : TA} (R : Rs X E) (hc : X.calm = true) (hg : Gl X x) (hm : X.mg x = some (.ref C)) (hq : excIn X.K C bm newId = true) (FB : ExcBaseFacts B newId initId bm) (ha : PA X (e₀ :: rest) t)
    (he : starEach (e₀ :: rest) X.env = (false, eval e₀ X.env) :: starEach rest X.env := by rfl) (hp : (backTo cpos (starEach rest X.env)).any (·.1) = false := by rfl) (hd : (x == ("__debug__" : Str)) = false := by decide) :
    PS X (.Raise (some (.Call (.Name x np) (e₀ :: rest) [] cpos)) none pos) (tRaise E (.ref C) t) := fun pins s σ H D I h =>
  znc R hc hg (zsq I.ok.mod.kin hm hq) FB ha he hp hd pins s σ H D I h
structure CalE (P : Program) (w : World) (K : PySem.W.Frag) (mg : Str → Option Value) (base : Heap) (n : Nat) (x : Str) (ps : List Str) (sp : Sp) : Prop where
  ex : ∃ f fd, FnOk P w K mg base (CXE P w) n f fd ps sp ∧ Binds K fd ps [] ∧ PySem.W.keepIn K (.ref f) = true ∧ mg x = some (.ref f)
theorem Dfn.calE {P : Program} {w : World} {K : PySem.W.Frag} {mg : Str → Option Value} {base : Heap} {x : Str} {st : Stmt} {N ps : List Str} {k : Nat} {sp : Sp} (d : Dfn K mg x st ps) (S : FnScope N ps (defScope st)) (len : ∀ vs H Q E, sp vs H Q E → vs.length = ps.length)
    (hbody : ∀ (f : Addr) (cdv : Value) (A : Around) (outer : List Env) (s : Shared) (H : Hp) (vs : List V) (Q : VK) (E : XK), Room k (A.deeper (envOfC x (defScope st) s.heap.objs.size f cdv)) → sp vs H Q E → Rs (cxOf (CXE P w) P w K mg base N x (defScope st) f cdv A outer s H E) E →
      ∃ t, PSs (cxOf (CXE P w) P w K mg base N x (defScope st) f cdv A outer s H E) (defBody st) t ∧ t { nx := fun _ H' => Q .non H', rt := Q } (start N vs) H) : CalE P w K mg base (k + 1) x ps sp := by
  obtain ⟨f, fd, F, b, m⟩ := d.ex
  exact ⟨f, fd, F.okE S len (hbody f), b, F.kp, m⟩
theorem zbm {X : Cx} (K : PySem.W.Frag) (h : X.K = K := by rfl) : CallR X (.builtin "isinstance") (rIsX K) := h ▸ zou
theorem zj1 {X : Cx} (K : PySem.W.Frag) (h : X.K = K := by rfl) : CallR X (.builtin "isinstance") (rIsXT K) := h ▸ zmq
theorem zp2 {X : Cx} {k m : Nat} {x f c n : Str} {i j : Nat} {S : Addr} {ps : List Str} {sp : Sp} {e : Expr} {es : List Expr} {t : TA} {ts : TS} {px np cpos apos cp hpos pos : Pos} {b₀ : Stmt} {suite : List Stmt} (C : CalE X.prog X.w X.K X.mg X.base m f ps sp) (hr : Room k X.A) (hle : m ≤ k) (hg : Gl X f)
    (ha : PA X.nox (e :: es) t) (hgS : Gl X c) (hmS : X.mg c = some (.ref S)) (kS : KSup X.K S) (hx : X.ex = []) (hst : X.stack = X.env :: X.outer) (hfr : X.env.frame = some X.env.locals) (hN : X.N.Nodup) (hi : X.N[i]? = some x) (hxl : Loc X.env.scope x) (hj : X.N[j]? = some n)
    (hnl : X.env.scope.names.lookup n = some .local) (hsu : ∀ a, PSs (X.held a) (b₀ :: suite) ts)
    (hs : swapsWith (.Call (.Name f np) (e :: es) [] cpos) (some (.Name x px)) apos.line X.env = pure false := by rfl) (hf : X.fn x = true ∨ X.env.scope.names.lookup x = some .local := by first | exact .inl rfl | exact .inr rfl | assumption) (hdb : (f == ("__debug__" : Str)) = false := by decide)
    (hdc : (c == ("__debug__" : Str)) = false := by decide) (h1 : notStar e = true := by rfl) (h2 : es.all notStar = true := by rfl) :
    PS X (.Try [.Assign [.Name x px] (.Call (.Name f np) (e :: es) [] cpos) apos] [.ExceptHandler (some (.Name c cp)) (some n) (b₀ :: suite) hpos] [] [] pos) (tTry X.K S sp i j t ts) := by
  obtain ⟨fa, fd, F, b, kp, mm⟩ := C.ex
  exact zrj F (hr.mono hle) hg mm kp b ha hgS hmS kS hx hst hfr hN hi hxl hj hnl hsu hs hf hdb hdc (zbc h1) (zbs h2)
end L2
namespace SM
open PySem PySem.Spec PyProof.Rows L2 SS
abbrev veM : List Value := [.type "ValueError", .type "Exception", .type "BaseException", .type "object"]
def pOf (H : Hp) : V → Bool
  | .ref t => match H t with
    | some (.tup [_, .bl b]) => b
    | _ => false
  | _ => false
def fOf (H : Hp) : V → V
  | .ref t => match H t with
    | some (.tup [w, _]) => w
    | _ => .non
  | v => v
theorem za0 {H : Hp} {t : Addr} {w : V} {b : Bool} (e : H t = some (.tup [w, .bl b])) : pOf H (.ref t) = b := by simp [pOf, e]
theorem ziz {H : Hp} {t : Addr} {w : V} {b : Bool} (e : H t = some (.tup [w, .bl b])) : fOf H (.ref t) = w := by simp [fOf, e]
end SM
namespace L2
open PySem PySem.Spec PyProof.Rows PySem.W PySem.Calls
theorem zdl {X : Cx} {E : XK} {n k : Nat} {x : Str} {ps : List Str} {sp : Sp} {p pos : Pos} {e : Expr} {es : List Expr} {t : TA} (R : Rs X E) (C : CalE X.prog X.w X.K X.mg X.base n x ps sp) (hr : Room k X.A) (hle : n ≤ k) (hg : Gl X x) (ha : PA X (e :: es) t) (hdb : (x == ("__debug__" : Str)) = false := by decide)
    (h1 : notStar e = true := by rfl) (h2 : es.all notStar = true := by rfl) : PE X (.Call (.Name x p) (e :: es) [] pos) (tCall sp [] E t) := by
  obtain ⟨f, fd, F, b, kp, m⟩ := C.ex
  exact zla F (hr.mono hle) hg m kp b .nil (R.passes fun _ _ _ h => h) ha hdb (zbc h1) (zbs h2)
end L2
namespace SM
open PySem PySem.Spec PyProof.Rows L2 SS
def NoLen (H : Hp) (v : V) (n : Int) : Prop := (∃ r : Int, v = .int r ∧ ¬ (0 ≤ r ∧ r < n)) ∨ ∃ k, Kd H v k ∧ k ≠ "int"
def zf0 : Sp := fun vs H Q _ => ∃ v, vs = [v] ∧ ((∃ r : Int, v = .int r ∧ Q (.bl true) H) ∨ ∃ k, Kd H v k ∧ k ≠ "int" ∧ Q (.bl false) H)
def zf5 : Sp := fun vs H Q _ => ∃ (v : V) (n : Int), vs = [v, .int n] ∧ ((∃ r : Int, v = .int r ∧ 0 ≤ r ∧ r < n ∧ Q (.bl true) H) ∨ (NoLen H v n ∧ Q (.bl false) H))
end SM
namespace L2
open PySem PySem.Spec PyProof.Rows PySem.W PySem.Calls
section
variable {X : Cx} {pins : List (Addr × Obj)} {σ : St} {H : Hp} {s : Shared} {k : Nat} {fa : Addr} {fd : FuncData} {ps : List Str} {sp : Sp}
def tTryA (K : PySem.W.Frag) (S : Addr) (sp : Sp) (j : Nat) (t : TA) (ts : TS) : TS := fun D σ H => t σ H fun vs H1 => sp vs H1 (fun v H2 => D.nx σ H2) fun cls oa H2 => ∀ a, oa = some a → ∃ C, cls = .ref C ∧ mroIn K C (.ref S) = some true ∧
  ∀ H3, Same H2 H3 → H3 a = some (excO a cls) → ts { nx := fun σ' H' => (∃ v, σ'[j]? = some (some v)) ∧ D.nx (σ'.set j none) H', rt := fun _ _ => False } (σ.set j (some (.ref a))) H3
end
open PySem PySem.Spec PyProof.Rows
section
variable {tn : List Str} {cp : List (Nat × Str)} {g : TG} {tif : TT} {te : TE} {σ0 : St} {Q : VK} {H1 : Hp}
theorem zq6 {K : PySem.W.Frag} {a : Addr} {xs : List V} (S : St → Prop) (p : Nat → Bool) (f : Nat → V) (hn : xs.length ≤ 1000) (ha : SqL K H1 a xs) (h0 : S (stB tn cp σ0))
    (hs : ∀ D i σ H x pt H2, xs[i]? = some x → Same H1 H → H1 D = none → H D = some (.lst (((List.range i).filter p).map f)) → S σ → New H pt (.tup [.int (i : Int), x]) H2 → g (.ref pt) σ H2 fun σ2 H3 => tif σ2 H3 fun c H4 =>
      if c = true then te σ2 H4 fun v H5 => CStep D xs.length i (PRnF S p f H1) σ2 v H5 else CSkip D xs.length i (PRnF S p f H1) σ2 H4)
    (hd : ∀ D H, H1 D = none → Same H1 H → H D = some (.lst (((List.range xs.length).filter p).map f)) → Q (.ref D) H) : cBody tn cp g tif te σ0 Q (Ite K a) H1 := by
  refine zot xs.length (fun D => PRnF S p f H1) (zaa hn) (fun D hD => ⟨za8 hD _, h0, rfl⟩) (fun D i ys σ H _ hi _ q => ⟨xs, xs[i], q.1.seq ha, List.getElem?_eq_getElem hi⟩) (fun D ys σ H _ _ q => ⟨xs, q.1.seq ha, Nat.le_refl _⟩) ?_ ?_
  · rintro D i ys σ H x H' hD hi hH hl ⟨p1, p2, rfl⟩ ⟨pt, u, e, n1, ex⟩
    subst e
    exact hs D i σ H u pt H' (ex xs (p1.seq ha)) p1 hD hH p2 n1
  · rintro D ys σ H hD hH hl ⟨p1, p2, rfl⟩
    exact hd D H hD p1 hH
end
end L2
namespace SM
open PySem PySem.Spec PyProof.Rows L2 SS
def cw (row : List Nat) (k : Nat) : Nat := (row.filter fun l => l / 2 ^ k % 2 == 1).length
def isP (z : Str) : Bool := isNm (.str z) SMALL
def fitB (names : List Str) (row : List Nat) : Bool := (List.range names.length).all fun k => !isP (names.getD k (Str.ofString "")) || cw row k == 1
def NmOk (z : Str) : Prop := Nam z SMALL ∨ Nam z GREAT
def FrOk (names : List Str) : Prop := names.length ≤ 4 ∧ ∀ z ∈ names, NmOk z
def zdo : Sp := fun vs H Q _ => ∃ (r : Int) (k : Nat), vs = [.int r, nV k] ∧ k ≤ 4 ∧ Q (.bl (decide (0 ≤ r ∧ r < 2 ^ k))) H
def zij (K : PySem.W.Frag) (C : Addr) : Sp := fun vs H Q E => ∃ (f r : Addr) (names : List Str) (rs : List Int), vs = [.ref f, .ref r] ∧ H f = some (.lst (names.map V.str)) ∧ names.length ≤ 4 ∧ H r = some (.lst (rs.map V.int)) ∧ rs.length ≤ 200 ∧
  (((∀ x ∈ rs, 0 ≤ x ∧ x < 2 ^ names.length) ∧ ∀ H', Same H H' → Q .non H') ∨ ((∃ x ∈ rs, ¬ (0 ≤ x ∧ x < 2 ^ names.length)) ∧ ∀ e H', Same H H' → H' e = none → E (.ref C) (some e) H'))
def zf3 : Sp := fun vs H Q _ => ∃ (r : Addr) (row : List Nat) (k : Nat), vs = [.ref r, nV k] ∧ H r = some (.lst (row.map nV)) ∧ row.length ≤ 200 ∧ (∀ l ∈ row, l < 32) ∧ k ≤ 4 ∧ ∀ H', Same H H' → Q (nV (cw row k)) H'
def zke : Sp := fun vs H Q _ => ∃ (f r : Addr) (names : List Str) (row : List Nat), vs = [.ref f, .ref r] ∧ H f = some (.lst (names.map V.str)) ∧ FrOk names ∧ H r = some (.lst (row.map nV)) ∧ row.length ≤ 200 ∧ (∀ l ∈ row, l < 32) ∧ ∀ H', Same H H' → Q (.bl (fitB names row)) H'
def zkl (C : Addr) : Sp := fun vs H Q E => ∃ (f r : Addr) (names : List Str) (rs : List Int), vs = [.ref f, .ref r] ∧ H f = some (.lst (names.map V.str)) ∧ FrOk names ∧ H r = some (.lst (rs.map V.int)) ∧ rs.length ≤ 200 ∧
  ((∃ row : List Nat, rs = row.map (fun (n : Nat) => (n : Int)) ∧ (∀ l ∈ row, l < 2 ^ names.length) ∧ ∀ H', Same H H' → Q (.bl (fitB names row)) H') ∨ ((∃ x ∈ rs, ¬ (0 ≤ x ∧ x < 2 ^ names.length)) ∧ ∀ e H', Same H H' → H' e = none → E (.ref C) (some e) H'))
theorem zsl : ∀ l, l < 32 → ∀ t, t < 5 → Builtin.bitAnd (((l : Nat) : Int) / 2 ^ t) 1 = if (l / 2 ^ t % 2 == 1) = true then 1 else 0 := by decide +kernel
theorem zpc (k : Nat) (hk : k ≤ 4) : ∀ (row : List Nat), (∀ l ∈ row, l < 32) → (row.map fun (l : Nat) => Builtin.bitAnd ((l : Int) / 2 ^ k) 1).sum = ((cw row k : Nat) : Int)
  | [], _ => rfl
  | l :: row, h => by
    have ih := zpc k hk row fun x hx => h x (List.mem_cons_of_mem _ hx)
    rw [List.map_cons, List.sum_cons, ih, zsl l (h l (List.mem_cons_self ..)) k (by omega)]
    unfold cw
    rw [List.filter_cons]
    split
    · rw [List.length_cons]; omega
    · omega
theorem zn8 {z : Str} (h : NmOk z) : z.length ≤ 1000 := by
  have key : ∀ l, Nam z l → z.length ≤ 1000 := fun l hl => by
    obtain ⟨d, ds, e, _, h3, _⟩ := hl.ex
    have : z.length = z.cps.toList.length := by simp [Str.length]
    rw [this, e, List.length_cons]
    omega
  rcases h with h | h
  · exact key _ h
  · exact key _ h
theorem zq3 (c : Nat) : decide (nV c = V.int 1) = (c == 1) := by
  by_cases h : c = 1
  · subst h; rfl
  · rw [decide_eq_false (fun e => h (by injection e with e; omega))]
    simp [h]
theorem zo1 {z l : Str} {d : Nat} {ds : List Nat} (e : z.cps.toList = d :: ds) (h1 : d ∈ l.cps.toList) (h2 : ds.length ≤ 3) (h3 : ∀ x ∈ ds, x ∈ FIGS.cps.toList) : Nam z l := ⟨d, ds, e, h1, h2, h3⟩
open PySem
def bit (c k : Nat) : Bool := c / 2 ^ k % 2 == 1
end SM
namespace L2
open PySem PySem.Spec PyProof.Rows
def Itr3 (lo c : Int) (n : Nat) : It := ⟨fun i _ => i < n, fun i H x H' => H' = H ∧ x = .int (lo + i * c), fun i _ => n ≤ i⟩
def iRng3 (ta : TA) : TI := fun σ H R => ta σ H fun vs H1 => ∃ i j c : Int, vs = [.int i, .int j, .int c] ∧ c ≠ 0 ∧ Builtin.Range.small i j c = true ∧ (j - i).natAbs < 1000 ∧ c.natAbs < 1000 ∧ 0 ≤ Builtin.Range.rangeSize i j c ∧ R (Itr3 i c (Builtin.Range.rangeSize i j c).toNat) H1
structure DfnM (K : PySem.W.Frag) (C : Addr) (m q : Str) (st : Stmt) (ps : List Str) : Prop where
  ex : ∃ f fd, Fun K m q st f fd ∧ Binds K fd ps [] ∧ Meth K C m f
structure CalM (P : Program) (w : World) (K : PySem.W.Frag) (mg : Str → Option Value) (base : Heap) (n : Nat) (C : Addr) (m : Str) (ps : List Str) (sp : Sp) : Prop where
  ex : ∃ f fd, FnOk P w K mg base CX0 n f fd ps sp ∧ Binds K fd ps [] ∧ Meth K C m f
structure DfnI (K : PySem.W.Frag) (C : Addr) (q : Str) (st : Stmt) (ps : List Str) : Prop where
  ex : ∃ f fd, Fun K "__init__" q st f fd ∧ Binds K fd ps [] ∧ Mk K C f
structure CalI (P : Program) (w : World) (K : PySem.W.Frag) (mg : Str → Option Value) (base : Heap) (n : Nat) (C : Addr) (x : Str) (ps : List Str) (sp : Sp) : Prop where
  ex : ∃ f fd, FnOk P w K mg base CX0 n f fd ps sp ∧ Binds K fd ps [] ∧ Mk K C f
  mg : mg x = some (.ref C)
section
variable {P : Program} {w : World} {K : PySem.W.Frag} {mg : Str → Option Value} {base : Heap} {C : Addr}
theorem DfnM.cal {m q : Str} {st : Stmt} {N ps : List Str} {k : Nat} {sp : Sp} (d : DfnM K C m q st ps) (S : FnScope N ps (defScope st)) (len : ∀ vs H Q E, sp vs H Q E → vs.length = ps.length)
    (hbody : ∀ (f : Addr) (cdv : Value) (A : Around) (outer : List Env) (s : Shared) (H : Hp) (vs : List V) (Q : VK) (E : XK), Room k (A.deeper (envOfC q (defScope st) s.heap.objs.size f cdv)) → sp vs H Q E →
      ∃ t, PSs (cxOf CX0 P w K mg base N q (defScope st) f cdv A outer s H E).nox (defBody st) t ∧ t { nx := fun _ H' => Q .non H', rt := Q } (start N vs) H) : CalM P w K mg base (k + 1) C m ps sp := by
  obtain ⟨f, fd, F, b, M⟩ := d.ex
  exact ⟨f, fd, F.ok S len (hbody f), b, M⟩
theorem DfnI.cal {q x : Str} {st : Stmt} {N ps : List Str} {k : Nat} {sp : Sp} (d : DfnI K C q st ps) (hm : mg x = some (.ref C)) (S : FnScope N ps (defScope st)) (len : ∀ vs H Q E, sp vs H Q E → vs.length = ps.length)
    (hbody : ∀ (f : Addr) (cdv : Value) (A : Around) (outer : List Env) (s : Shared) (H : Hp) (vs : List V) (Q : VK) (E : XK), Room k (A.deeper (envOfC q (defScope st) s.heap.objs.size f cdv)) → sp vs H Q E →
      ∃ t, PSs (cxOf CX0 P w K mg base N q (defScope st) f cdv A outer s H E).nox (defBody st) t ∧ t { nx := fun _ H' => Q .non H', rt := Q } (start N vs) H) : CalI P w K mg base (k + 1) C x ps sp := by
  obtain ⟨f, fd, F, b, M⟩ := d.ex
  exact ⟨⟨f, fd, F.ok S len (hbody f), b, M⟩, hm⟩
theorem DfnM.never {m q : Str} {st : Stmt} {ps : List Str} {sp : Sp} (d : DfnM K C m q st ps) (no : ∀ vs H Q E, ¬ sp vs H Q E) : CalM P w K mg base 0 C m ps sp := by
  obtain ⟨f, fd, F, b, M⟩ := d.ex
  exact ⟨f, fd, ⟨fun vs H Q E h => absurd h (no _ _ _ _), fun _ _ _ _ _ _ _ _ _ _ _ _ _ h => absurd h (no _ _ _ _)⟩, b, M⟩
end
section
variable {X : Cx} {C : Addr} {n k : Nat} {m x : Str} {ps : List Str} {sp : Sp} {p pos apos : Pos} {o e : Expr} {es : List Expr} {ta : TE} {t : TA}
theorem zar {pl : Sem Bool} (M : CalM X.prog X.w X.K X.mg X.base n C m ps sp) (c : Cls X.K C) (hr : Room k X.A) (hle : n ≤ k) (he : PE X o ta) (ha : PA X (e :: es) t)
    (h1 : notStar e = true := by rfl) (h2 : es.all notStar = true := by rfl)
    (ht : eval (.Call (.Attribute o m apos) (e :: es) [] pos) X.env = (do
      let ov ← eval o X.env
      standAt apos.atName
      let (f, first) ← holding [ov] (getMethod ov m pl)
      callWith pos f first (backTo pos (starEach (e :: es) X.env)) (backToKw pos (keywordEach [] X.env))) := by rfl) :
    PE X (.Call (.Attribute o m apos) (e :: es) [] pos) (tMeth C m sp [] E0 ta t) := by
  obtain ⟨f, fd, F, b, hm⟩ := M.ex
  exact zqa (pl := pl) he c hm F (hr.mono hle) b .nil pass0 ha (zbc h1) (zbs h2) ht
theorem zni (M : CalI X.prog X.w X.K X.mg X.base n C x ps sp) (hr : Room k X.A) (hle : n + 1 ≤ k) (hg : Gl X x) (hdb : (x == ("__debug__" : Str)) = false := by decide) : PE X (.Call (.Name x p) [] [] pos) (tMake C sp [] E0 tNil) := by
  obtain ⟨f, fd, F, b, hm⟩ := M.ex
  exact znj hm F (hr.mono hle) hg M.mg b .nil pass0 hdb
end
theorem zo5 : ∀ (zs : List Str) (m : Nat) (h : m < zs.length), zs.idxOf zs[m] ≤ m
  | y :: r, 0, h => by simp
  | y :: r, m + 1, h => by
    rw [List.idxOf_cons]
    have := zo5 r m (by simpa using h)
    cases (y == (y :: r)[m + 1])
    · simp only [cond_false, List.getElem_cons_succ]; omega
    · simp
def rIndexT (K : PySem.W.Frag) : V → List V → Hp → VK → Prop := fun x vs H Q => ∃ (p : Addr) (zs : List Str) (z : Str), x = .ref p ∧ vs = [.str z] ∧ SqL K H p (zs.map V.str) ∧ z ∈ zs ∧ zs.length ≤ 1000 ∧ Q (.int ((zs.idxOf z : Nat) : Int)) H
theorem zls {X : Cx} (hu : X.A.units + 8 < cLine) : MtR X "list.index" (rIndexT X.K) := by
  intro pins s σ H x xs v us Q I rx rs h
  obtain ⟨p, zs, z, rfl, rfl, hx, hk, hz, q⟩ := h
  cases rx
  obtain ⟨u, rfl, t, rfl⟩ := vals1 rs
  obtain ⟨vs, rv, pl, _⟩ := I.list hx
  have hlen := rv.length
  rw [List.length_map] at hlen
  have hv : ∀ (i : Nat) (hi : i < zs.length), ∃ (h : i < vs.length) (t : Tok), vs[i] = .str zs[i] t := fun i hi => by
    obtain ⟨h', y⟩ := rv.at (j := i) (by omega)
    rw [List.getElem_map] at y
    obtain ⟨t, e⟩ := (show ∃ t, vs[i] = Value.str zs[i] t from y)
    exact ⟨by omega, t, e⟩
  obtain ⟨⟨cls, dd, data, sl⟩, ho, hc, n, hd⟩ := pl.isList
  simp only at hc hd
  subst hc hd
  have hj : zs.idxOf z < zs.length := List.idxOf_lt_length_iff.mpr hk
  let e' : Value → Bool := fun | .str b _ => decide (b = z) | _ => false
  refine call_meets PySem.F.slot_list_index ⟨_, ho, rfl⟩ PySem.F.entry_list_index (PySem.F.args_list_index_2 _ _)
    (SeqAt.list_indexAt p vs.toArray n dd sl (.str z t) e' (zs.idxOf z) (by simp; omega) (by omega) ?_ ?_) ⟨ho, fun y hy => ?_, ?_⟩
  · obtain ⟨h, t', e⟩ := hv _ hj
    show e' vs[zs.idxOf z] = true
    rw [e]
    exact decide_eq_true (List.getElem_idxOf hj)
  · intro m hm hlt
    have hm' : m < zs.length := by simp at hm; omega
    obtain ⟨h, t', e⟩ := hv m hm'
    show e' vs[m] = false
    rw [e]
    refine decide_eq_false fun c => ?_
    have h2 : zs.idxOf z ≤ m := by
      rw [← c]
      exact zo5 zs m hm'
    omega
  · obtain ⟨i, hi, rfl⟩ := List.getElem_of_mem (show y ∈ vs by simpa using hy)
    obtain ⟨h, t', e⟩ := hv i (by omega)
    rw [e]
    exact zgp (X := X) (k := 0) (H := H) (x := .str zs[i]) (y := .str z) rfl rfl pins σ s X.A.in1 _ _ (by show X.A.units + 1 + 0 < cLine; omega) I ⟨t', rfl⟩ ⟨t, rfl⟩
  · exact ⟨.int _, H, I.tok _, ⟨_, rfl⟩, q⟩
theorem zjk {X : Cx} (K : PySem.W.Frag) (hu : X.A.units + 8 < cLine) (h : X.K = K := by rfl) : MtR X "list.index" (rIndexT K) := h ▸ zls hu
section
variable {K : PySem.W.Frag} {C : Addr}
theorem dfnm_mk {m q : Str} {st : Stmt} {ps : List Str} {f : Addr} {oc : Value} {od an : Option Addr} {osl : Array (Option Value)} {kV doc pm cdv ct : Value} (a : PySem.W.findIn K (.ref C) m = some (some (.ref f))) (i : PySem.W.isFn K (.ref f) = true)
    (l : K.lookup f = some ⟨oc, od, .func (PySem.W.fnOf m q (defArgs st) (defBody st) (defScope st) .none kV doc pm an cdv ct), osl⟩) (c : PySem.W.codeIn K cdv q = true) (k : PySem.W.keepIn K (.ref f) = true)
    (hb : ∀ (kV doc pm : Value) (an : Option Addr) (cdv ct : Value) (us : List Value), us.length = ps.length → bindArgs (PySem.W.fnOf m q (defArgs st) (defBody st) (defScope st) .none kV doc pm an cdv ct) ⟨us, []⟩ = pure (ps.zip us)) : DfnM K C m q st ps :=
  ⟨f, _, zd6 l c k, (zd6 l c k).binds hb, ⟨a, i, k⟩⟩
theorem dfni_mk {q : Str} {st : Stmt} {ps : List Str} {f : Addr} {oc : Value} {od an : Option Addr} {osl : Array (Option Value)} {kV doc pm cdv ct : Value} (mk : PySem.W.makesIn K C = true) (a : PySem.W.findIn K (.ref C) "__init__" = some (some (.ref f))) (i : PySem.W.isFn K (.ref f) = true) (kc : PySem.W.keepIn K (.ref C) = true)
    (l : K.lookup f = some ⟨oc, od, .func (PySem.W.fnOf "__init__" q (defArgs st) (defBody st) (defScope st) .none kV doc pm an cdv ct), osl⟩) (c : PySem.W.codeIn K cdv q = true) (k : PySem.W.keepIn K (.ref f) = true)
    (hb : ∀ (kV doc pm : Value) (an : Option Addr) (cdv ct : Value) (us : List Value), us.length = ps.length → bindArgs (PySem.W.fnOf "__init__" q (defArgs st) (defBody st) (defScope st) .none kV doc pm an cdv ct) ⟨us, []⟩ = pure (ps.zip us)) : DfnI K C q st ps :=
  ⟨f, _, zd6 l c k, (zd6 l c k).binds hb, ⟨mk, a, i, kc⟩⟩
theorem noattr_mk {f : Str} (h : PySem.W.findIn K (.ref C) f = some none) : NoAttr K C f := h
end
def gLst (K : PySem.W.Frag) (n : Nat) (t : TGs) : TG := fun v σ H Q => ∃ a xs, v = .ref a ∧ SqL K H a xs ∧ xs.length = n ∧ t xs σ H Q
end L2
namespace SM
structure Thg where
  w : Nat
  step : List Nat → List (List Nat)
  fin : List Nat → Bool
open PySem PySem.Spec PyProof.Rows L2 SS
theorem zdn {c a : Nat} (hc : c < 32) (ha : a ≤ 4) : (!decide (Builtin.bitAnd (c : Int) ((2 ^ a : Nat) : Int) = 0)) = bit c a := by
  have h : ∀ (c : Fin 32) (a : Fin 5), (!decide (Builtin.bitAnd ((c : Nat) : Int) ((2 ^ (a : Nat) : Nat) : Int) = 0)) = bit c a := by decide +kernel
  exact h ⟨c, hc⟩ ⟨a, by omega⟩
abbrev fl3 (x y z : V) : List (Str × V) := [("forms", x), ("numbers", y), ("steps", z)]
theorem zc2 {f g : Str} {v : V} {r : List (Str × V)} (h : (f == g) = false) : List.lookup f ((g, v) :: r) = List.lookup f r := by simp only [List.lookup, h]
theorem zmd {f : Str} {v : V} {r : List (Str × V)} : List.lookup f ((f, v) :: r) = some v := by simp only [List.lookup, BEq.rfl]
theorem zbh {x y z : V} : List.lookup ("forms" : Str) (fl3 x y z) = some x := zmd
theorem zc3 {x y z : V} : List.lookup ("numbers" : Str) (fl3 x y z) = some y := (zc2 (by decide)).trans zmd
theorem zfm {x y z : V} : List.lookup ("steps" : Str) (fl3 x y z) = some z := (zc2 (by decide)).trans ((zc2 (by decide)).trans zmd)
theorem za5 {f : Str} {x y z : V} (h1 : (f == ("forms" : Str)) = false) (h2 : (f == ("numbers" : Str)) = false) (h3 : (f == ("steps" : Str)) = false) : List.lookup f (fl3 x y z) = none := (zc2 h1).trans ((zc2 h2).trans ((zc2 h3).trans rfl))
theorem zsf (x y z : V) : putF "steps" z (putF "numbers" y (putF "forms" x [])) = fl3 x y z := by
  show putF "steps" z (putF "numbers" y [("forms", x)]) = _
  have e1 : putF "numbers" y [("forms", x)] = ([("forms", x), ("numbers", y)] : List (Str × V)) := by
    show (if ("forms" : Str) = "numbers" then _ else _) = _
    rw [if_neg (by decide)]; rfl
  rw [e1]
  show (if ("forms" : Str) = "steps" then _ else _ :: (if ("numbers" : Str) = "steps" then _ else _ :: _)) = _
  rw [if_neg (by decide), if_neg (by decide)]; rfl
def ze5 : Sp := fun vs H Q _ => ∃ (b : Addr) (z : Str) (tl : List Str) (i : Nat), vs = [.str z, .ref b] ∧ H b = some (.lst (tl.map V.str)) ∧ tl.length ≤ 4 ∧ tl.idxOf z = i ∧ i < tl.length ∧ Q (nV (2 ^ i)) H
end SM
namespace L2
open PySem PySem.Spec PyProof.Rows
abbrev Key2 := Key ⊕ List Key
section
variable {prog : Program} {w : World}
def Is2 (prog : Program) (w : World) (h : Heap) : Key2 → Value → Prop
  | .inl k, v => (mixKind prog w).is k v = true
  | .inr l, v => ∃ b, v = .ref b ∧ IsTupleKey (mixKind prog w) h l b
inductive Its2 (prog : Program) (w : World) (h : Heap) : List Key2 → List Value → Prop
  | nil : Its2 prog w h [] []
  | cons {k : Key2} {v : Value} {ks : List Key2} {vs : List Value} : Is2 prog w h k v → Its2 prog w h ks vs → Its2 prog w h (k :: ks) (v :: vs)
def IsNest (prog : Program) (w : World) (h : Heap) (ks : List Key2) (a : Addr) : Prop := ∃ o items n, h.get? a = some o ∧ o.cls = .type "tuple" ∧ o.data = .seq items n ∧ Its2 prog w h ks items.toList
theorem zft {k : Key} {v : Value} (h : (mixKind prog w).is k v = true) : carriedByValue v = true := (mixKind prog w).byValue _ _ h
theorem Is2.inj {h : Heap} {x y : Key2} {v : Value} (hx : Is2 prog w h x v) (hy : Is2 prog w h y v) : x = y := by
  cases x with
  | inl k =>
    cases y with
    | inl j => rw [(mixKind prog w).inj _ _ _ hx hy]
    | inr l =>
      obtain ⟨b, rfl, _⟩ := hy
      exact absurd (zft hx) (by simp [carriedByValue])
  | inr l =>
    obtain ⟨b, rfl, hb⟩ := hx
    cases y with
    | inl j => exact absurd (zft hy) (by simp [carriedByValue])
    | inr l' =>
      obtain ⟨b', e, hb'⟩ := hy
      cases e
      rw [hb.inj hb']
theorem Its2.inj {h : Heap} {vs : List Value} : ∀ {x y : List Key2}, Its2 prog w h x vs → Its2 prog w h y vs → x = y := by
  intro x y hx
  induction hx generalizing y with
  | nil => intro hy; cases hy; rfl
  | cons h1 _ ih =>
    intro hy
    cases hy with
    | cons h2 t2 => rw [h1.inj h2, ih t2]
theorem IsNest.ty {s : Shared} {ks : List Key2} {a : Addr} (x : IsNest prog w s.heap ks a) : s.TypeIs (.ref a) "tuple" := let ⟨o, _, _, ho, hc, _⟩ := x; ⟨o, ho, hc⟩
theorem IsNest.inj {h : Heap} {a : Addr} {x y : List Key2} (hx : IsNest prog w h x a) (hy : IsNest prog w h y a) : x = y := by
  obtain ⟨o, its, n, ho, _, hd, hi⟩ := hx
  obtain ⟨o', its', n', ho', _, hd', hi'⟩ := hy
  rw [ho] at ho'; cases ho'
  rw [hd] at hd'; cases hd'
  exact hi.inj hi'
theorem Is2.keeps {h h' : Heap} {d : Addr} {o : Obj} {es ep} {k : Key2} {v : Value} (x : Is2 prog w h k v) (ho : h.get? d = some o) (hd : o.data = .dict es ep) (hs : Heap.SameBut d h h') : Is2 prog w h' k v := by
  cases k with
  | inl k => exact x
  | inr l =>
    obtain ⟨b, e, hb⟩ := x
    exact ⟨b, e, hb.keeps ho hd hs⟩
theorem Its2.keeps {h h' : Heap} {d : Addr} {o : Obj} {es ep} (ho : h.get? d = some o) (hd : o.data = .dict es ep) (hs : Heap.SameBut d h h') {ks : List Key2} {vs : List Value} (x : Its2 prog w h ks vs) : Its2 prog w h' ks vs := by
  induction x with
  | nil => exact .nil
  | cons h1 _ ih => exact .cons (h1.keeps ho hd hs) ih
theorem IsNest.keeps {h h' : Heap} {ks : List Key2} {a d : Addr} {o : Obj} {es ep} (x : IsNest prog w h ks a) (ho : h.get? d = some o) (hd : o.data = .dict es ep) (hs : Heap.SameBut d h h') : IsNest prog w h' ks a := by
  obtain ⟨o', its, n, ho', hc, hd', hi⟩ := x
  have ne : a ≠ d := fun e => by
    subst e
    rw [ho] at ho'; cases ho'
    rw [hd] at hd'; cases hd'
  exact ⟨o', its, n, (hs.2 a ne).trans ho', hc, hd', hi.keeps ho hd hs⟩
def hash2 (prog : Program) (w : World) : Key2 → Int
  | .inl k => (mixKind prog w).hash k
  | .inr l => tupleKeyHash (mixKind prog w) l
def draws2 : Key2 → Nat
  | .inl _ => 1
  | .inr l => l.length + 1
def drawsN (ks : List Key2) : Nat := (ks.map draws2).foldr (· + ·) 0
theorem zhs (ks : List Key2) (k : Key2) : drawsN (ks ++ [k]) = drawsN ks + draws2 k := by
  unfold drawsN
  induction ks with
  | nil => simp
  | cons x r ih =>
    rw [List.cons_append, List.map_cons, List.foldr_cons, ih, List.map_cons, List.foldr_cons]
    omega
variable {A : Around} {E : Value → Shared → Prop} {s : Shared}
theorem zl7 {k : Key2} {v : Value} {Q : Int → Shared → Prop} (hu : A.units < cLine) (x : Is2 prog w s.heap k v) (q : Q (hash2 prog w k) { s with toks := s.toks + draws2 k }) : wpAny (model prog w) A (pyHash v) Q E s := by
  cases k with
  | inl k => exact (mixKind prog w).pyHash x q
  | inr l =>
    obtain ⟨b, rfl, hb⟩ := x
    exact wpAny_pyHash_tuple hu hb q
def nestHash (prog : Program) (w : World) (ks : List Key2) : Int := reduceHash (Builtin.Tuple.tupleHashOf (ks.map (hash2 prog w)))
theorem zl6 {ks : List Key2} {a : Addr} {Q : Int → Shared → Prop} (hu : A.units + 1 < cLine) (hk : IsNest prog w s.heap ks a) (q : Q (nestHash prog w ks) { s with toks := s.toks + (drawsN ks + 1) }) :
    wpAny (model prog w) A (pyHash (.ref a)) Q E s := by
  have ty := hk.ty
  obtain ⟨o, its, n, ho, _, hd, hi⟩ := hk
  unfold pyHash
  first | unfold pyHashByItsType | skip
  first | refine wpAny_bind (wpAny_cRoomFor_or (.inr (Nat.lt_of_succ_lt hu)) ?_) | skip
  refine wpAny_bind (wpAny_specialOf ty PySem.F.slot_tuple_hash.lookup ?_)
  show wpAny _ _ (if (some (Value.builtin "tuple.__hash__") == some Value.none) = true then _ else _) Q _ s
  rw [if_neg (by rw [beq_builtin_none]; exact fun z => nomatch z)]
  refine wpAny_bind (wpAny_specialOf ty PySem.F.slot_tuple_hash.lookup ?_)
  show wpAny _ _ (callSpecialIfBoundUnlessNone? (.ref a) "__hash__" _ >>= fun _ => _) Q _ s
  refine wpAny_bind (wpAny_callSpecialIfBoundUnlessNone?_slot ty PySem.F.slot_tuple_hash (wpAny_call_entry PySem.F.slot_tuple_hash ty PySem.F.entry_tuple_hash ?_ (PySem.F.args_tuple_hash_1 _)))
  show wpAny _ _ (Builtin.Tuple.tupleItemsOf (.ref a) >>= fun _ => _) _ _ s
  refine wpAny_bind (wpAny_tupleItemsOf ho hd (wpAny_bind ?_))
  rw [← Array.forIn_toList]
  refine wpAny_forIn_list _ (fun left (b : Array Int) s' => ∃ d l, ks = d ++ l ∧ Its2 prog w s.heap l left ∧ b.toList = d.map (hash2 prog w) ∧ s' = { s with toks := s.toks + drawsN d }) _ ?_ ?_ _ _ ⟨[], ks, rfl, hi, rfl, rfl⟩
  · rintro x left b s' ⟨d, l, rfl, hl, hb, rfl⟩
    cases hl with
    | @cons k _ l' _ h1 hl' =>
      refine wpAny_bind (zl7 (s := { s with toks := s.toks + drawsN d }) hu h1 ?_)
      have e1 : ({ s with toks := s.toks + drawsN d + draws2 k } : Shared) = { s with toks := s.toks + drawsN (d ++ [k]) } := by rw [zhs, Nat.add_assoc]
      first
        | exact wpAny_pure ⟨d ++ [k], l', by simp, hl', by simp [hb], e1⟩
        | exact wpAny_bind (wpAny_pure (wpAny_pure ⟨d ++ [k], l', by simp, hl', by simp [hb], e1⟩))
  · rintro b s' ⟨d, l, rfl, hl, hb, rfl⟩
    cases hl
    rw [List.append_nil] at q
    show wpAny _ _ (retInt (Builtin.Tuple.tupleHashOf b.toList)) _ _ _
    rw [hb]
    refine wpAny_ret_mkInt ?_
    generalize hH : Builtin.Tuple.tupleHashOf (d.map (hash2 prog w)) = z
    unfold nestHash reduceHash at q
    rw [hH] at q
    show wpAny _ _ (if (decide (-(2 : Int) ^ 63 ≤ z) && decide (z < 2 ^ 63)) = true then _ else _) Q _ _
    by_cases hr : (decide (-(2 : Int) ^ 63 ≤ z) && decide (z < 2 ^ 63)) = true
    · rw [if_pos hr] at q ⊢
      exact wpAny_pure (by simpa [Nat.add_assoc] using q)
    · rw [if_neg hr] at q ⊢
      exact wpAny_bind (wpAny_rule (wpAny_pure (by simpa [Nat.add_assoc] using q)))
theorem zsx {a b : Key} : decide ((Sum.inl a : Key2) = Sum.inl b) = decide (a = b) := by
  by_cases e : a = b
  · rw [e]; simp
  · rw [decide_eq_false e, decide_eq_false fun q => e (Sum.inl.inj q)]
theorem zsw {a b : List Key} : decide ((Sum.inr a : Key2) = Sum.inr b) = decide (a = b) := by
  by_cases e : a = b
  · rw [e]; simp
  · rw [decide_eq_false e, decide_eq_false fun q => e (Sum.inr.inj q)]
theorem ziy {h : Heap} {l : List Key} {b : Addr} (x : IsTupleKey (mixKind prog w) h l b) : ∃ its, h.IsTuple b its := by
  obtain ⟨o, its, n, ho, hc, hd, _⟩ := x
  exact ⟨its, o, ho, hc, n, hd⟩
theorem zqz {x y : Key2} {u v : Value} {Q : Bool → Shared → Prop} (hu : A.units < cLine) (hx : Is2 prog w s.heap x u) (hy : Is2 prog w s.heap y v) (q : Q (decide (x = y)) s) : wpAny (model prog w) A (eqBool u v) Q E s := by
  cases x with
  | inl k =>
    cases y with
    | inl j => rw [zsx] at q; exact (mixKind prog w).eqBool hx hy q
    | inr l =>
      obtain ⟨b, rfl, hb⟩ := hy
      obtain ⟨its, tb⟩ := ziy hb
      rw [decide_eq_false (fun z => nomatch z)] at q
      rcases zav hx with ⟨i, t, rfl, rfl⟩ | ⟨z, t, rfl, rfl⟩ | ⟨c, rfl, rfl⟩
      · exact SeqAt.EqAt.int_tuple i t tb hu prog w E Q q
      · exact SeqAt.EqAt.str_tuple z t tb hu prog w E Q q
      · exact SeqAt.EqAt.bool_tuple c tb hu prog w E Q q
  | inr l =>
    obtain ⟨b, rfl, hb⟩ := hx
    cases y with
    | inl j =>
      obtain ⟨its, tb⟩ := ziy hb
      rw [decide_eq_false (fun z => nomatch z)] at q
      rcases zav hy with ⟨i, t, rfl, rfl⟩ | ⟨z, t, rfl, rfl⟩ | ⟨c, rfl, rfl⟩
      · exact SeqAt.EqAt.tuple_int i t tb hu prog w E Q q
      · exact SeqAt.EqAt.tuple_str z t tb hu prog w E Q q
      · exact SeqAt.EqAt.tuple_bool c tb hu prog w E Q q
    | inr l' =>
      obtain ⟨b', rfl, hb'⟩ := hy
      rw [zsw] at q
      exact wpAny_eqBool_tuple hu hb hb' q
theorem zlp {x y : List Key2} {a b : Addr} {R : Fin → Shared → Prop} (hu : A.units < cLine) (hx : IsNest prog w s.heap x a) (hy : IsNest prog w s.heap y b) (q : R (.done (.ret (.bool (decide (x = y))))) s) :
    wpAny (model prog w) A (Builtin.«tuple.__eq__» ⟨[.ref a, .ref b], []⟩) R E s := by
  have tb := hy.ty
  obtain ⟨oa, xs, na, hoa, _, hda, hia⟩ := hx
  obtain ⟨ob, ys, nb, hob, _, hdb, hib⟩ := hy
  show wpAny _ _ (isInstance (.ref b) (.type "tuple") >>= fun _ => _) _ _ s
  refine wpAny_bind (wpAny_isInstance tb isSubtype_tuple_tuple ?_)
  simp only [if_false, Bool.false_eq_true, Bool.not_true]
  refine wpAny_bind (wpAny_tupleItemsOf hoa hda (wpAny_bind (wpAny_tupleItemsOf hob hdb (wpAny_bind ?_))))
  refine wpAny_forIn_list _ (fun left r s' => r.1 = none ∧ s' = s ∧ ∃ x' y' xs' ys', left = List.zip xs' ys' ∧ Its2 prog w s.heap x' xs' ∧ Its2 prog w s.heap y' ys' ∧ decide (x' = y') = decide (x = y) ∧ (xs'.length == ys'.length) = (xs.size == ys.size)) _ ?_ ?_ _ _
    ⟨rfl, rfl, x, y, xs.toList, ys.toList, rfl, hia, hib, rfl, by simp⟩
  · rintro ⟨u, v⟩ left r s' ⟨hr, rfl, x', y', xs', ys', hz, hx', hy', hdec, hlen⟩
    cases hx' with
    | nil => simp at hz
    | @cons k1 u' x2 xs2 h1 hx2 =>
      cases hy' with
      | nil => simp at hz
      | @cons k2 v' y2 ys2 h2 hy2 =>
        rw [List.zip_cons_cons] at hz
        cases hz
        refine wpAny_bind (zqz hu h1 h2 ?_)
        by_cases hk : k1 = k2
        · subst hk
          rw [decide_eq_true rfl]
          simp only [if_false, Bool.false_eq_true, Bool.not_true]
          refine wpAny_pure ⟨rfl, rfl, x2, y2, xs2, ys2, rfl, hx2, hy2, ?_, by simpa using hlen⟩
          rw [← hdec]
          by_cases hxy : x2 = y2 <;> simp [hxy]
        · rw [decide_eq_false hk]
          simp only [if_true, Bool.not_false]
          have hf : decide (x = y) = false := by rw [← hdec]; simp [hk]
          rw [hf] at q
          exact wpAny_bind (wpAny_pure (wpAny_pure (wpAny_pure q)))
  · rintro ⟨r1, r2⟩ s' ⟨hr, rfl, x', y', xs', ys', hz, hx', hy', hdec, hlen⟩
    simp only at hr
    subst hr
    refine wpAny_pure ?_
    have e : (xs.size == ys.size) = decide (x = y) := by
      rw [← hdec, ← hlen]
      cases hx' with
      | nil => cases hy' <;> simp
      | cons _ _ =>
        cases hy' with
        | nil => simp
        | cons _ _ => simp at hz
    show R (.done (.ret (.bool (xs.size == ys.size)))) s'
    rw [e]; exact q
theorem zqy {x y : List Key2} {a b : Addr} {Q : Bool → Shared → Prop} (hu : A.units + 1 < cLine) (hx : IsNest prog w s.heap x a) (hy : IsNest prog w s.heap y b) (q : Q (decide (x = y)) s) : wpAny (model prog w) A (eqBool (.ref a) (.ref b)) Q E s := by
  unfold eqBool
  try with_reducible refine wpAny_holding ?_
  show wpAny _ _ (if (Value.ref a == Value.ref b) = true then _ else _) Q E s
  by_cases hab : (Value.ref a == Value.ref b) = true
  · rw [if_pos hab]
    cases eq_of_beq hab
    cases hx.inj hy
    exact wpAny_bind (wpAny_rule (wpAny_pure (by simpa using q)))
  · rw [if_neg hab]
    exact wpAny_bind (wpAny_richCompare_same_room (op := .Eq) hx.ty hy.ty PySem.F.slot_tuple_eq
      (wpAny_call_entry PySem.F.slot_tuple_eq hx.ty PySem.F.entry_tuple_eq (zlp hu hx hy ⟨_, rfl, (fun e => nomatch e), wpAny_truthy_bool q⟩) (PySem.F.args_tuple_eq_2 _ _)) (Nat.lt_of_succ_lt hu))
theorem zkz {n : Nat} {l : List Key} {a : Addr} {Q : Bool → Shared → Prop} (hk : IsTupleKey (mixKind prog w) s.heap l a) (q : Q true s) : wpAny (model prog w) A (eqIsQuiet (n + 1) (.ref a)) Q E s := by
  have ty := hk.typeIs
  obtain ⟨o, its, m, ho, _, hd, hi⟩ := hk
  unfold eqIsQuiet
  refine wpAny_bind (wpAny_specialOf ty PySem.F.slot_tuple_eq.lookup ?_)
  show wpAny _ _ (isInstance (.ref a) (.type "tuple") >>= fun _ => _) _ _ s
  refine wpAny_bind (wpAny_isInstance ty isSubtype_tuple_tuple ?_)
  simp only [if_false, Bool.false_eq_true, Bool.not_true]
  refine wpAny_bind (wpAny_seqItems ho hd (wpAny_bind ?_))
  show wpAny _ _ (forIn its _ _) _ _ s
  rw [← Array.forIn_toList]
  refine wpAny_forIn_list _ (fun left r s' => r.1 = none ∧ s' = s ∧ ∀ v ∈ left, carriedByValue v = true) _ ?_ ?_ _ _ ⟨rfl, rfl, hi.byValue⟩
  · rintro v left r s' ⟨hr, rfl, hall⟩
    rw [eqIsQuiet_byValue _ (hall v List.mem_cons_self)]
    refine wpAny_bind (wpAny_pure ?_)
    simp only [if_false, Bool.false_eq_true, Bool.not_true]
    exact wpAny_pure ⟨rfl, rfl, fun u hm => hall u (List.mem_cons_of_mem _ hm)⟩
  · rintro ⟨r1, r2⟩ s' ⟨hr, rfl, _⟩
    simp only at hr
    subst hr
    exact wpAny_pure q
theorem zjd {n : Nat} {k : Key2} {v : Value} {Q : Bool → Shared → Prop} (h : Is2 prog w s.heap k v) (q : Q true s) : wpAny (model prog w) A (eqIsQuiet (n + 1) v) Q E s := by
  cases k with
  | inl k =>
    rw [eqIsQuiet_byValue _ (zft h)]
    exact wpAny_pure q
  | inr l =>
    obtain ⟨b, rfl, hb⟩ := h
    exact zkz hb q
theorem Its2.mem {h : Heap} {ks : List Key2} {vs : List Value} (x : Its2 prog w h ks vs) : ∀ v ∈ vs, ∃ k, Is2 prog w h k v := by
  induction x with
  | nil => intro v hv; cases hv
  | @cons k v' ks vs h1 _ ih =>
    intro v hv
    rcases List.mem_cons.mp hv with rfl | hv
    · exact ⟨k, h1⟩
    · exact ih v hv
theorem zjc {ks : List Key2} {a : Addr} {Q : Bool → Shared → Prop} (hk : IsNest prog w s.heap ks a) (q : Q true s) : wpAny (model prog w) A (eqIsQuiet 8 (.ref a)) Q E s := by
  have ty := hk.ty
  obtain ⟨o, its, m, ho, _, hd, hi⟩ := hk
  unfold eqIsQuiet
  refine wpAny_bind (wpAny_specialOf ty PySem.F.slot_tuple_eq.lookup ?_)
  show wpAny _ _ (isInstance (.ref a) (.type "tuple") >>= fun _ => _) _ _ s
  refine wpAny_bind (wpAny_isInstance ty isSubtype_tuple_tuple ?_)
  simp only [if_false, Bool.false_eq_true, Bool.not_true]
  refine wpAny_bind (wpAny_seqItems ho hd (wpAny_bind ?_))
  show wpAny _ _ (forIn its _ _) _ _ s
  rw [← Array.forIn_toList]
  refine wpAny_forIn_list _ (fun left r s' => r.1 = none ∧ s' = s ∧ ∀ v ∈ left, ∃ k, Is2 prog w s.heap k v) _ ?_ ?_ _ _ ⟨rfl, rfl, hi.mem⟩
  · rintro v left r s' ⟨hr, rfl, hall⟩
    obtain ⟨k, h1⟩ := hall v List.mem_cons_self
    refine wpAny_bind (zjd h1 ?_)
    simp only [if_false, Bool.false_eq_true, Bool.not_true]
    exact wpAny_pure ⟨rfl, rfl, fun u hm => hall u (List.mem_cons_of_mem _ hm)⟩
  · rintro ⟨r1, r2⟩ s' ⟨hr, rfl, _⟩
    simp only at hr
    subst hr
    exact wpAny_pure q
end
def nestKind (prog : Program) (w : World) : HeapKind prog w (List Key2) where
  is := IsNest prog w
  hash := nestHash prog w
  draws := fun ks => drawsN ks + 1
  room := fun A => A.units + 1 < cLine
  inj := fun hx hy => hx.inj hy
  keeps := fun x ho hd hs => x.keeps ho hd hs
  pyHash := fun hu hk h => zl6 hu hk h
  eqBool := fun hu hx hy h => zqy hu hx hy h
  quiet := fun hk h => zjc hk h
abbrev NRow := List Key2 × Addr × V
def rowR (y : NRow) (x : List Key2 × Addr × Value) : Prop := y.1 = x.1 ∧ y.2.1 = x.2.1 ∧ RelV y.2.2 x.2.2
def dN (P : Program) (w : World) (a : Addr) (ys : List NRow) : HO := .ext fun h => (a == sysModules) = false ∧ ys.length ≤ sizeLine ∧ ∃ xs : List (List Key2 × Addr × Value), Paired rowR ys xs ∧
  ∃ o es ep, h.get? a = some o ∧ o.ExactDict ∧ o.data = .dict es ep ∧ es.toList = xs.map (entryOfKey (nestKind P w)) ∧ (xs.map (·.1)).Nodup
def N2 (H : Hp) (v : V) : Key2 → Prop
  | .inl k => v = kV k
  | .inr l => ∃ c, v = .ref c ∧ H c = some (.tup (l.map kV))
def NestAt (H : Hp) (b : Addr) (ks : List Key2) : Prop := ∃ vs, H b = some (.tup vs) ∧ Paired (N2 H) vs ks
def Keys (H : Hp) (ys : List NRow) : Prop := ∀ y ∈ ys, NestAt H y.2.1 y.1
theorem N2.ts {H H' : Hp} {v : V} {k : Key2} (ts : TupS H H') (x : N2 H v k) : N2 H' v k := by
  cases k with
  | inl k => exact x
  | inr l =>
    obtain ⟨c, e, hc⟩ := x
    exact ⟨c, e, ts _ _ hc⟩
theorem NestAt.ts {H H' : Hp} {b : Addr} {ks : List Key2} (x : NestAt H b ks) (ts : TupS H H') : NestAt H' b ks := by
  obtain ⟨vs, e, p⟩ := x
  exact ⟨vs, ts _ _ e, L2.Paired.mapP p fun _ _ z => z.ts ts⟩
theorem Keys.ts {H H' : Hp} {ys : List NRow} (x : Keys H ys) (ts : TupS H H') : Keys H' ys := fun y hy => (x y hy).ts ts
section
variable {P : Program} {w : World} {H : Hp} {h : Heap} {a b : Addr}
theorem NestAt.is {ks : List Key2} (ok : HOk P w H h) (x : NestAt H b ks) : IsNest P w h ks b := by
  obtain ⟨vs, e, p⟩ := x
  obtain ⟨_, its, r, o, h1, h2, n, h3⟩ := (show ObjOk P w H h b (.tup vs) from ok b _ e)
  refine ⟨o, its.toArray, n, h1, h2, h3, ?_⟩
  have all : ∀ {vs : List V} {ks : List Key2}, Paired (N2 H) vs ks → ∀ {us : List Value}, Vals vs us → Its2 P w h ks us := by
    intro vs ks q
    induction q with
    | nil => intro us r; cases r; exact .nil
    | @cons v k vs ks hv _ ih =>
      intro us r
      cases r with
      | cons rv rs =>
        refine .cons ?_ (ih rs)
        cases k with
        | inl k => cases (show v = kV k from hv); exact zlz rv
        | inr l =>
          obtain ⟨c, rfl, hc⟩ := hv
          exact ⟨c, rv, zgl ok hc⟩
  simpa using all p r
theorem zq2 {ys : List NRow} (ok : HOk P w H h) (e : H a = some (dN P w a ys)) (kk : Keys H ys) : (a == sysModules) = false ∧ ys.length ≤ sizeLine ∧ ∃ xs, Paired rowR ys xs ∧ h.DictOfH (nestKind P w) a xs := by
  obtain ⟨⟨hd, hz, xs, rel, o, es, ep, h1, h2, h3, h4, h5⟩, _, _⟩ := (show ObjOk P w H h a (dN P w a ys) from ok a _ e)
  refine ⟨hd, hz, xs, rel, o, es, ep, h1, h2, h3, h4, fun x hx => ?_, h5⟩
  have all : ∀ {ys : List NRow} {xs : List (List Key2 × Addr × Value)}, Paired rowR ys xs → Keys H ys → ∀ x ∈ xs, (nestKind P w).is h x.1 x.2.1 := by
    intro ys xs q
    induction q with
    | nil => intro _ x hx; cases hx
    | @cons y x ys xs hq _ ih =>
      intro kk z hz
      rcases List.mem_cons.mp hz with e | hz
      · subst e
        have := (kk y List.mem_cons_self).is ok
        rw [hq.1, hq.2.1] at this
        exact this
      · exact ih (fun y hy => kk y (List.mem_cons_of_mem _ hy)) z hz
  exact all rel kk x hx
def valN (ys : List NRow) (k : List Key2) : Option V := (ys.find? fun y => decide (y.1 = k)).map (·.2.2)
theorem zfb {ys : List NRow} {xs : List (List Key2 × Addr × Value)} (r : Paired rowR ys xs) (k : List Key2) : RelO (valN ys k) ((atKey xs k).map (·.2)) := by
  unfold valN atKey
  induction r with
  | nil => exact True.intro
  | @cons y x ys xs hq _ ih =>
    rw [List.find?_cons, List.find?_cons, ← hq.1]
    by_cases e : y.1 = k
    · rw [decide_eq_true e]; exact hq.2.2
    · rw [decide_eq_false e]; exact ih
theorem zo9 {H' : Hp} {h' : Heap} {ys : List NRow} {xs : List (List Key2 × Addr × Value)} (hd : (a == sysModules) = false) (hz : ys.length ≤ sizeLine) (r : Paired rowR ys xs) (dd : h'.DictOfH (nestKind P w) a xs) : ObjOk P w H' h' a (dN P w a ys) := by
  obtain ⟨o, es, ep, h1, h2, h3, h4, _, h5⟩ := dd
  refine ⟨⟨hd, hz, xs, r, o, es, ep, h1, h2, h3, h4, h5⟩, ⟨o, h1⟩, fun g1 g2 x kp => ?_⟩
  obtain ⟨q1, q2, xs', q3, o', es', ep', q4, q5⟩ := x
  exact ⟨q1, q2, xs', q3, o', es', ep', kp _ q4, q5⟩
theorem zkx {ys : List NRow} {xs : List (List Key2 × Addr × Value)} {k : List Key2} {v : V} {u : Value} (r : Paired rowR ys xs) (rv : RelV v u) : Paired rowR (ys ++ [(k, b, v)]) (xs ++ [(k, b, u)]) := by
  induction r with
  | nil => exact .cons ⟨rfl, rfl, rv⟩ .nil
  | cons h _ ih => exact .cons h ih
end
section
variable {X : Cx}
def rNotInN (P : Program) (w : World) : R2 := fun y x H Q => ∃ a b ys k, x = .ref a ∧ y = .ref b ∧ H a = some (dN P w a ys) ∧ Keys H ys ∧ NestAt H b k ∧ Q (.bl (!(valN ys k).isSome)) H
theorem zlc (hu : X.A.units + 8 < cLine) : OpR X (compareOp .NotIn) (rNotInN X.prog X.w) := by
  intro pins s σ H y x v u Q I ry rx h
  obtain ⟨a, b, ys, k, rfl, rfl, e, kk, nb, q⟩ := h
  obtain rfl : u = Value.ref a := rx
  obtain rfl : v = Value.ref b := ry
  obtain ⟨hd, hz, xs, rel, dd⟩ := zq2 I.hok e kk
  refine wpAny_notIn_heap (knd := nestKind X.prog X.w) (show X.A.units + 1 + 1 < cLine by omega) (nb.is I.hok) hd dd ?_
  have z := (zfb rel k).isSome_eq
  rw [Option.isSome_map] at z
  rw [← z]
  exact ⟨.bl (!(valN ys k).isSome), H, I.tok _, rfl, q⟩
def sDPutN (P : Program) (w : World) (td ty tv : TE) : TS := fun D σ H => tv σ H fun v H1 => td σ H1 fun x H2 => ty σ H2 fun y H3 => ∃ a b ys k, x = .ref a ∧ y = .ref b ∧ H3 a = some (dN P w a ys) ∧ Keys H3 ys ∧ NestAt H3 b k ∧ valN ys k = none ∧ ys.length < sizeLine ∧
  ∀ H4, H4 = upd H3 a (dN P w a (ys ++ [(k, b, v)])) → D.nx σ H4
theorem znd {o i value : Expr} {pos pos' : Pos} {td ty tv : TE} (hu : X.A.units + 8 < cLine) (ho : PE X o td) (hi : PE X i ty) (hv : PE X value tv) (hs : swapsWith value (some (.Subscript o i pos')) pos.line X.env = pure false) :
    PS X (.Assign [.Subscript o i pos'] value pos) (sDPutN X.prog X.w td ty tv) := by
  intro pins s σ H D I h
  refine wpAny_Assign_Subscript (thn (hv pins s σ H _ I h) fun r s1 ⟨v, H1, I1, rv, q1⟩ => thn (ho pins s1 σ H1 _ I1 q1) fun u s2 ⟨x, H2, I2, rx, q2⟩ => thn (hi pins s2 σ H2 _ I2 q2) fun iv s3 ⟨y, H3, I3, ry, a, b, ys, k, ex, ey, e, kk, nb, hn, hl, q3⟩ => ?_) hs
  subst ex ey
  obtain rfl : u = Value.ref a := rx
  obtain rfl : iv = Value.ref b := ry
  obtain ⟨hd, hz, xs, rel, dd⟩ := zq2 I3.hok e kk
  have hzx : xs.length ≤ sizeLine := by rw [← Paired.length rel]; exact hz
  refine wpAny_setItem_heap (knd := nestKind X.prog X.w) (hsz := hzx) (show X.A.units + 1 + 1 < cLine by omega) (nb.is I3.hok) dd fun h' dd' ss => ?_
  have z := (zfb rel k).isSome_eq
  rw [hn, Option.isSome_map] at z
  have ek : atKey xs k = none := by
    cases q : atKey xs k with
    | none => rfl
    | some p => rw [q] at z; cases z
  rw [storedH_new ek] at dd'
  have dd2 := dd'
  obtain ⟨q, es, ep, hq, _⟩ := dd2
  refine ⟨σ, _, zfn I3 (by rw [e]; exact True.intro) ss ⟨q, hq⟩ (zo9 hd ?_ (zkx rel rv) dd'), q3 _ rfl⟩
  rw [List.length_append, List.length_singleton]; omega
def tDGetN (P : Program) (w : World) (td ty : TE) : TE := fun σ H Q => td σ H fun x H1 => ty σ H1 fun y H2 => ∃ a b ys k v, x = .ref a ∧ y = .ref b ∧ H2 a = some (dN P w a ys) ∧ Keys H2 ys ∧ NestAt H2 b k ∧ valN ys k = some v ∧ Q v H2
def tDNew2 (P : Program) (w : World) : TE := fun _ H Q => ∀ p H', New H p (dN P w p []) H' → Q (.ref p) H'
theorem zol {P : Program} {w : World} {H : Hp} (h : Heap) (hb : sysModules < h.objs.size) : ObjOk P w H (h.push { cls := .type "dict", data := .dict #[] }) h.objs.size (dN P w h.objs.size []) := by
  refine zo9 (xs := []) (beq_eq_false_iff_ne.mpr (Nat.ne_of_gt hb)) (Nat.zero_le _) .nil ?_
  exact ⟨_, #[], _, Heap.get?_push_size _ rfl, ⟨rfl, rfl, rfl⟩, rfl, rfl, fun x hx => (nomatch hx), List.nodup_nil⟩
theorem znl {pos : Pos} : PE X (.Dict [] [] pos) (tDNew2 X.prog X.w) := fun pins s σ H Q I h =>
  wpAny_Dict_empty ⟨.ref s.heap.objs.size, _, I.laid (a := s.heap.objs.size) (o := dN X.prog X.w s.heap.objs.size []) (t' := s.toks) (fun _ _ q => Heap.get?_push_of_some _ q) (Nat.le_refl _) (zol s.heap I.big), rfl, h _ _ (.mk' (I.hok.fresh (Nat.le_refl _)) _)⟩
theorem znm {o i : Expr} {pos : Pos} {td ty : TE} (hu : X.A.units + 8 < cLine) (ho : PE X o td) (hi : PE X i ty) (hs : NoSl i) : PE X (.Subscript o i pos) (tDGetN X.prog X.w td ty) := by
  intro pins s σ H Q I h
  refine zkb PySem.F.slot_dict_getitem.lookup hs (thn (ho pins s σ H _ I h) fun u s1 ⟨x, H1, I1, rx, q1⟩ => thn (hi pins s1 σ H1 _ I1 q1) fun iv s2 ⟨y, H2, I2, ry, a, b, ys, k, v, ex, ey, e, kk, nb, hv, q2⟩ => ?_)
  subst ex ey
  obtain rfl : u = Value.ref a := rx
  obtain rfl : iv = Value.ref b := ry
  obtain ⟨hd, hz, xs, rel, dd⟩ := zq2 I2.hok e kk
  obtain ⟨w', hw, rw'⟩ := RelO.some_of (v := v) (o := (atKey xs k).map (·.2)) (by rw [← hv]; exact zfb rel k)
  obtain ⟨p, hp, hp2⟩ := Option.map_eq_some_iff.mp hw
  have ty : s2.TypeIs (.ref a) "dict" := by
    obtain ⟨ob, _, _, ho', hx, _⟩ := id dd
    exact ⟨ob, ho', hx.1⟩
  refine ⟨ty, wpAny_getItem_heap (knd := nestKind X.prog X.w) (show X.A.units + 1 + 1 < cLine by omega) (nb.is I2.hok) dd hp ?_⟩
  rw [hp2]
  exact ⟨v, H2, I2.tok _, rw', q2⟩
end
open PySem
abbrev Rise (xs : Array Nat) : Prop := xs.toList.Pairwise (· < ·)
theorem zfc {xs : Array Nat} (h : Rise xs) {i j : Nat} (hij : i < j) (hj : j < xs.size) : xs.getD i 0 < xs.getD j 0 := by
  have := List.pairwise_iff_getElem.mp h i j (by simpa using Nat.lt_trans hij hj) (by simpa using hj) hij
  simp only [Array.getElem_toList] at this
  rw [Array.getD, Array.getD, dif_pos (Nat.lt_trans hij hj), dif_pos hj]
  exact this
theorem zfu {xs : Array Nat} (h : Rise xs) (j : Nat) : ∀ (fuel lo hi : Nat), lo ≤ hi → hi ≤ xs.size → hi - lo ≤ fuel → (∀ i, i < lo → xs.getD i 0 < j) → (∀ i, hi ≤ i → i < xs.size → j ≤ xs.getD i 0) →
    SetTable.below.go xs j fuel lo hi ≤ xs.size ∧ (∀ i, i < SetTable.below.go xs j fuel lo hi → xs.getD i 0 < j) ∧ ∀ i, SetTable.below.go xs j fuel lo hi ≤ i → i < xs.size → j ≤ xs.getD i 0
  | 0, lo, hi, h1, h2, h3, h4, h5 => by
    have e : lo = hi := by omega
    unfold SetTable.below.go
    exact ⟨by omega, h4, fun i hi' => h5 i (by omega)⟩
  | fuel + 1, lo, hi, h1, h2, h3, h4, h5 => by
    unfold SetTable.below.go
    by_cases c : lo < hi
    · rw [if_pos c]
      have hm : (lo + hi) / 2 < xs.size := by omega
      have e : xs.getD ((lo + hi) / 2) j = xs.getD ((lo + hi) / 2) 0 := by rw [Array.getD, Array.getD, dif_pos hm, dif_pos hm]
      show _ ∧ _ ∧ _
      simp only
      by_cases c2 : xs.getD ((lo + hi) / 2) j < j
      · rw [if_pos c2]
        refine zfu h j fuel ((lo + hi) / 2 + 1) hi (by omega) h2 (by omega) (fun i hi' => ?_) h5
        by_cases c3 : i = (lo + hi) / 2
        · rw [c3, ← e]; exact c2
        · exact Nat.lt_trans (zfc h (j := (lo + hi) / 2) (by omega) hm) (by rw [← e]; exact c2)
      · rw [if_neg c2]
        refine zfu h j fuel lo ((lo + hi) / 2) (by omega) (by omega) (by omega) h4 fun i hi' hs => ?_
        by_cases c3 : i = (lo + hi) / 2
        · rw [c3, ← e]; omega
        · have := zfc h (i := (lo + hi) / 2) (j := i) (by omega) hs
          rw [e] at c2
          omega
    · rw [if_neg c]
      exact ⟨by omega, h4, fun i hi' => h5 i (by omega)⟩
theorem zc5 {xs : Array Nat} (h : Rise xs) (j : Nat) : SetTable.below xs j ≤ xs.size ∧ (∀ i, i < SetTable.below xs j → xs.getD i 0 < j) ∧ ∀ i, SetTable.below xs j ≤ i → i < xs.size → j ≤ xs.getD i 0 :=
  zfu h j xs.size 0 xs.size (Nat.zero_le _) (Nat.le_refl _) (by omega) (fun i hi => absurd hi (Nat.not_lt_zero _)) fun i h1 h2 => by omega
theorem zj3 {xs : Array Nat} (h : Rise xs) {i : Nat} (hi : i < xs.size) : SetTable.below xs (xs.getD i 0 + 1) = i + 1 := by
  obtain ⟨h1, h2, h3⟩ := zc5 h (xs.getD i 0 + 1)
  by_cases c : SetTable.below xs (xs.getD i 0 + 1) ≤ i
  · have := h3 i c hi; omega
  · by_cases c2 : SetTable.below xs (xs.getD i 0 + 1) = i + 1
    · exact c2
    · have := h2 (i + 1) (by omega)
      have := zfc h (i := i) (j := i + 1) (by omega) (by omega)
      omega
theorem zj2 {xs : Array Nat} (h : Rise xs) : SetTable.below xs 0 = 0 := by
  obtain ⟨h1, h2, h3⟩ := zc5 h 0
  by_cases c : SetTable.below xs 0 = 0
  · exact c
  · have := h2 0 (by omega); omega
theorem zfk {α : Type} (xs : Array α) (p : Nat) (x : α) : (SetTable.insertAt xs p x).toList = xs.toList.take p ++ x :: xs.toList.drop p := by
  unfold SetTable.insertAt
  rw [Array.toList_append, Array.toList_push, Array.toList_extract, Array.toList_extract]
  simp
  exact List.take_of_length_le (by simp)
theorem zhf {xs : Array Nat} (h : Rise xs) {j : Nat} (hj : xs[SetTable.below xs j]? ≠ some j) : Rise (SetTable.insertAt xs (SetTable.below xs j) j) := by
  obtain ⟨h1, h2, h3⟩ := zc5 h j
  show (SetTable.insertAt xs (SetTable.below xs j) j).toList.Pairwise (· < ·)
  rw [zfk]
  generalize SetTable.below xs j = p at *
  have at' : ∀ i (hi : i < xs.size), xs.getD i 0 = xs.toList[i]'(by simpa using hi) := fun i hi => by rw [Array.getD, dif_pos hi]; simp
  have gt : ∀ i, p ≤ i → i < xs.size → j < xs.getD i 0 := fun i hp hi => by
    have hle := h3 i hp hi
    by_cases c : i = p
    · subst c
      have hne : xs.getD i 0 ≠ j := fun e => hj (by rw [Array.getElem?_eq_getElem hi, ← e, Array.getD, dif_pos hi]; rfl)
      omega
    · have h4 := h3 p (Nat.le_refl _) (by omega)
      have := zfc h (i := p) (j := i) (by omega) hi
      omega
  refine List.pairwise_append.mpr ⟨h.sublist (List.take_sublist _ _), List.pairwise_cons.mpr ⟨fun y hy => ?_, h.sublist (List.drop_sublist _ _)⟩, fun x hx y hy => ?_⟩
  · obtain ⟨i, hi, e⟩ := List.getElem_of_mem hy
    rw [List.getElem_drop] at e
    have hi' : p + i < xs.size := by rw [List.length_drop] at hi; simp at hi; omega
    rw [← e, ← at' _ hi']
    exact gt _ (by omega) hi'
  · have xlt : x < j := by
      obtain ⟨i, hi, e⟩ := List.getElem_of_mem hx
      rw [List.getElem_take] at e
      have hi' : i < p ∧ i < xs.size := by rw [List.length_take] at hi; simp at hi; omega
      rw [← e, ← at' _ hi'.2]
      exact h2 i hi'.1
    rcases List.mem_cons.mp hy with rfl | hy
    · exact xlt
    · obtain ⟨i, hi, e⟩ := List.getElem_of_mem hy
      rw [List.getElem_drop] at e
      have hi' : p + i < xs.size := by rw [List.length_drop] at hi; simp at hi; omega
      rw [← e, ← at' _ hi']
      have := gt (p + i) (by omega) hi'
      omega
structure Tb (led : Bool) (t : SetTable) : Prop where
  rise : Rise t.place
  led : t.led = led
  dum : t.dummies = #[]
theorem zm2 (f m : Nat) (led : Bool) : Tb led (.fresh f m led) := ⟨List.Pairwise.nil, rfl, rfl⟩
theorem zcf {led : Bool} {t : SetTable} (h : Tb led t) (n : Nat) : Tb led (t.standIn n) := ⟨by
  show (Array.range n).toList.Pairwise (· < ·)
  rw [Array.toList_range]
  exact List.pairwise_lt_range, h.led, rfl⟩
theorem zsm {led : Bool} {t : SetTable} (h : Tb led t) (n : Nat) : Tb led (t.orStandIn n) := by
  unfold SetTable.orStandIn
  split
  · exact h
  · exact zcf h n
theorem zo0 {t : SetTable} (h : t.dummies = #[]) (j : Nat) : SetTable.has t.dummies j = false := by
  rw [h]
  unfold SetTable.has
  rfl
theorem zdu {t : SetTable} (hd : t.dummies = #[]) (hashAt : Nat → Int) (h : Int) : ∀ (fuel : Nat) (p : SetTable.Probe) (j : Nat) (d : Option Nat), p.dummy = none → SetTable.probe.go t hashAt h fuel p = some (.empty j d) → d = none ∧ t.slot j = .empty
  | 0, p, j, d, _, e => by unfold SetTable.probe.go at e; cases e
  | fuel + 1, p, j, d, hp, e => by
    unfold SetTable.probe.go at e
    have adv : ∀ q : SetTable.Probe, (t.advance q).dummy = q.dummy := fun q => by unfold SetTable.advance; split <;> rfl
    cases c : t.slot p.j with
    | empty =>
      rw [c] at e
      simp only [Option.some.injEq, SetTable.Met.empty.injEq] at e
      obtain ⟨rfl, rfl⟩ := e
      exact ⟨hp, c⟩
    | dummy =>
      exfalso
      unfold SetTable.slot at c
      simp only [zo0 hd] at c
      split at c <;> cases c
    | live i =>
      rw [c] at e
      simp only at e
      split at e
      · cases e
      · exact zdu hd hashAt h fuel _ j d (by rw [adv]; exact hp) e
theorem zre {led : Bool} {t : SetTable} (h : Tb led t) {j : Nat} (hj : t.slot j = .empty) : Tb led (t.put j).1 := by
  refine ⟨zhf h.rise fun e => ?_, h.led, ?_⟩
  · unfold SetTable.slot at hj
    simp only [e, beq_self_eq_true, if_true] at hj
    cases hj
  · show (if SetTable.has t.dummies j then _ else t.dummies) = #[]
    rw [zo0 h.dum]
    exact h.dum
theorem zka {led : Bool} {t : SetTable} (h : Tb led t) (es : Array (Int × Value)) (k : Int) (x : Value) : Tb led (layNew t es k x).2.1 ∧ (layNew t es k x).2.2.1 = false := by
  unfold layNew
  cases c : t.freeSlot k with
  | none => exact ⟨zcf h _, rfl⟩
  | some p =>
    obtain ⟨slot, wd⟩ := p
    unfold SetTable.freeSlot at c
    cases c2 : t.probe (fun _ => k + 1) k (t.probeStart k) with
    | none => rw [c2] at c; cases c
    | some m =>
      rw [c2] at c
      cases m with
      | candidate j i nx => cases c
      | empty j d =>
        obtain ⟨rfl, he⟩ := zdu h.dum _ _ _ _ _ _ rfl c2
        simp only [Option.some.injEq, Prod.mk.injEq] at c
        obtain ⟨rfl, rfl⟩ := c
        exact ⟨zsm (zre h he) _, rfl⟩
theorem zlw {mask finger moves : Nat} {led plain : Bool} {hs : Array Int} {t : SetTable} {o : Array Nat} (e : SetTable.laid mask finger moves led plain hs = some (t, o)) : Tb led t := by
  unfold SetTable.laid at e
  cases c : SetTable.layClean mask hs with
  | none => rw [c] at e; cases e
  | some owner =>
    rw [c] at e
    simp only [Option.bind_eq_bind, Option.bind_some, Option.pure_def, Option.some.injEq, Prod.mk.injEq] at e
    obtain ⟨rfl, rfl⟩ := e
    refine ⟨?_, rfl, rfl⟩
    show List.Pairwise (· < ·) (List.map (fun x : Nat × Nat => x.1) ((List.range (mask + 1)).filterMap fun j => (owner.getD j none).map (j, ·)))
    have : ∀ l : List Nat, ((l.filterMap fun j => (owner.getD j none).map (j, ·)).map (·.1)).Sublist l := fun l => by
      induction l with
      | nil => exact List.Sublist.refl _
      | cons a l ih =>
        rw [List.filterMap_cons]
        cases c3 : owner.getD a none with
        | none => exact .cons _ ih
        | some v => exact .cons_cons _ ih
    exact List.pairwise_lt_range.sublist (this _)
theorem zm0 {led : Bool} {t : SetTable} (h : Tb led t) (es : Array (Int × Value)) (n : Nat) : Tb led (relayAll t es n).2.1 := by
  unfold relayAll
  cases c : t.relaid (es.map (·.1)) n with
  | none => exact zcf h _
  | some p =>
    obtain ⟨t', o⟩ := p
    have := zlw c
    rw [h.led] at this
    simp only
    split
    · exact this
    · exact zcf h _
theorem zk4 {α : Type} (next : Nat → Nat) : ∀ (fuel k : Nat) (left : List α) (out : Array α), left.length = fuel → (pickOrder.go next fuel k left out).toList.Perm (out.toList ++ left)
  | 0, k, left, out, h => by
    unfold pickOrder.go
    rw [List.length_eq_zero_iff.mp h, List.append_nil]
  | fuel + 1, k, left, out, h => by
    unfold pickOrder.go
    have hlt : next k % left.length < left.length := Nat.mod_lt _ (by omega)
    rw [List.getElem?_eq_getElem hlt]
    simp only
    refine (zk4 next fuel (k + 1) (left.eraseIdx (next k % left.length)) (out.push left[next k % left.length]) (by rw [List.length_eraseIdx_of_lt hlt]; omega)).trans ?_
    rw [Array.toList_push, List.append_assoc, List.singleton_append]
    refine List.Perm.append_left _ ?_
    generalize next k % left.length = i at hlt
    have e : left = left.take i ++ left[i] :: left.drop (i + 1) := by rw [List.getElem_cons_drop, List.take_append_drop]
    conv => rhs; rw [e]
    rw [List.eraseIdx_eq_take_drop_succ]
    exact (List.perm_middle).symm
theorem zk3 {α : Type} (next : Nat → Nat) (xs : Array α) : (pickOrder next xs).toList.Perm xs.toList := by
  have := zk4 next xs.size 0 xs.toList #[] (by simp)
  rw [show (#[] : Array α).toList = [] from rfl, List.nil_append] at this
  exact this
section
variable {P : Program} {w : World} {T : Type} [DecidableEq T] {knd : KeyKind P w T} {A : Around} {E : Value → Shared → Prop} {s : Shared} {led : Bool}
def SetT (knd : KeyKind P w T) (led : Bool) (h : Heap) (a : Addr) (S : T → Bool) (n : Nat) : Prop :=
  ∃ o es ep t, h.get? a = some o ∧ o.ExactSet ∧ o.data = .set es ep t ∧ (ElemsOf knd es.toList ∧ ∀ k, S k = true ↔ ∃ e ∈ es.toList, knd.is k e.2 = true) ∧ (es.size < scanBound ∧ t.fits es.size = true ∧ es.size = n) ∧ Tb led t ∧ es.toList.Pairwise fun x y => ∀ k, knd.is k x.2 = true → knd.is k y.2 = false
theorem SetT.kept {h h' : Heap} {a : Addr} {S : T → Bool} {n : Nat} (x : SetT knd led h a S n) (k : ∀ o, h.get? a = some o → h'.get? a = some o) : SetT knd led h' a S n :=
  let ⟨o, es, ep, t, e, r⟩ := x; ⟨o, es, ep, t, k o e, r⟩
theorem SetT.congr {h : Heap} {a : Addr} {S S' : T → Bool} {n n' : Nat} (x : SetT knd led h a S n) (e : ∀ k, S k = S' k) (en : n = n') : SetT knd led h a S' n' := by
  have : S = S' := funext e
  subst this; subst en; exact x
theorem zm1 {t : SetTable} (h : Tb led t) : Tb led { t with plain := false } := ⟨h.rise, h.led, h.dum⟩
theorem ze2 {l l' : List (Int × Value)} (h : l.Pairwise fun x y => ∀ k, knd.is k x.2 = true → knd.is k y.2 = false) (p : l'.Perm l) : l'.Pairwise fun x y => ∀ k, knd.is k x.2 = true → knd.is k y.2 = false :=
  p.symm.pairwise h fun {x y} z k hk => by
    cases c : knd.is k x.2 with
    | false => rfl
    | true => rw [z k c] at hk; cases hk
theorem zim {h : Heap} {a : Addr} {o : Obj} {es : Array (Int × Value)} {ep : Nat} {t : SetTable} (ho : h.get? a = some o) (hx : o.ExactSet) (hd : o.data = .set es ep t) {fs : Array (Int × Value)} {u : SetTable} {S : T → Bool}
    (h1 : ElemsOf knd fs.toList) (h2 : ∀ k, S k = true ↔ ∃ e ∈ fs.toList, knd.is k e.2 = true) (h3 : fs.size < scanBound) (h4 : u.fits fs.size = true) (tb : Tb led u) (ap : fs.toList.Pairwise fun x y => ∀ k, knd.is k x.2 = true → knd.is k y.2 = false) :
    (h.update a (Obj.putSet fs u)).get? a = some { o with data := .set fs (ep + 1) u } ∧ SetT knd led (h.update a (Obj.putSet fs u)) a S fs.size :=
  let z := (SetOf_store (knd := knd) (S' := S) ho hx hd h1 h2 h3 h4).1
  ⟨z, _, fs, ep + 1, u, z, hx, rfl, ⟨h1, h2⟩, ⟨h3, h4, rfl⟩, tb, ap⟩
theorem zil {g : Bool → Sem Unit} (hg : ∀ (b : Bool) (s1 : Shared) (R : Unit → Shared → Prop), R () s1 → wpAny (model P w) A (g b) R E s1) {a : Addr} {o : Obj} {es : Array (Int × Value)} {ep : Nat} {t : SetTable}
    (ho : s.heap.get? a = some o) (hx : o.ExactSet) (hd : o.data = .set es ep t) {fs : Array (Int × Value)} {u : SetTable} {S : T → Bool} (h1 : ElemsOf knd fs.toList) (h2 : ∀ k, S k = true ↔ ∃ e ∈ fs.toList, knd.is k e.2 = true)
    (h3 : fs.size < scanBound) (h4 : u.fits fs.size = true) (tb : Tb led u) (ap : fs.toList.Pairwise fun x y => ∀ k, knd.is k x.2 = true → knd.is k y.2 = false) {wd : Bool} {R : Option Bool → Shared → Prop}
    (h : ∀ h', Heap.SameBut a s.heap h' → SetT knd led h' a S fs.size → R (some true) { s with heap := h' }) :
    wpAny (model P w) A (do
        storeSet a fs u
        if (!wd && u.tooFull) = true then do
            g (relayAll u fs (SetTable.grown fs.size)).2.2
            storeSet a (relayAll u fs (SetTable.grown fs.size)).1 (relayAll u fs (SetTable.grown fs.size)).2.1
            pure (some true)
          else pure (some true)) R E s := by
  refine wpAny_bind (wpAny_storeSet_of ho hd ?_ (fits_of_scanBound h3))
  obtain ⟨o1, x1⟩ := zim (S := S) ho hx hd h1 h2 h3 h4 tb ap
  have b1 := Heap.SameBut.update s.heap a (Obj.putSet fs u)
  split
  · have p := relayAll_perm u fs (SetTable.grown fs.size)
    have f := relayAll_fits u fs (SetTable.grown fs.size)
    have tb2 := zm0 tb fs (SetTable.grown fs.size)
    generalize relayAll u fs (SetTable.grown fs.size) = Z at p f tb2 ⊢
    obtain ⟨gs, v, gave⟩ := Z
    dsimp only at p f tb2 ⊢
    have sz : gs.size = fs.size := by rw [← Array.length_toList, p.length_eq, Array.length_toList]
    have i3 : gs.size < scanBound := by rw [sz]; exact h3
    refine wpAny_bind (hg _ _ _ (wpAny_bind (wpAny_storeSet_of o1 rfl ?_ (fits_of_scanBound i3))))
    obtain ⟨_, x2⟩ := zim (knd := knd) (S := S) o1 hx rfl (h1.perm p) (fun k' => (h2 k').trans ⟨fun ⟨e, m, q⟩ => ⟨e, p.mem_iff.mpr m, q⟩, fun ⟨e, m, q⟩ => ⟨e, p.mem_iff.mp m, q⟩⟩) i3 f tb2 (ze2 ap p)
    rw [sz] at x2
    exact wpAny_pure (h _ (b1.trans (Heap.SameBut.update _ a _)) x2)
  · exact wpAny_pure (h _ b1 x1)
theorem zpr {a : Addr} {S : T → Bool} {n : Nat} {k : T} {x : Value} {Q : Bool → Shared → Prop} (hk : knd.is k x = true) (hs : x.scannable = true) (x0 : SetT knd led s.heap a S n) (room : n + 1 < scanBound)
    (h : ∀ h', Heap.SameBut a s.heap h' → SetT knd led h' a (fun k' => S k' || decide (k' = k)) (if S k then n else n + 1) → Q (!S k) { s with heap := h' }) : wpAny (model P w) A (setAddHashed a x (knd.hash k)) Q E s := by
  obtain ⟨o, es, ep, t, ho, hx, hd, ⟨h1, h2⟩, ⟨h3, h4, hn⟩, tb, ap⟩ := id x0
  unfold setAddHashed setAddHashedIn
  refine wpAny_holding (wpAny_bind (wpAny_setState_of ho hd h4 ?_))
  dsimp only
  rw [byScan_of hs h3 h1]
  simp only [↓reduceIte]
  unfold setAddByScan
  refine wpAny_bind (wpAny_bind (wpAny_rule (wpAny_bind (wpAny_setScan_of hk ho hd h4 h1 ?_))))
  cases c : List.findIdx? (fun e => knd.is k e.2) es.toList with
  | some j =>
    dsimp only
    obtain ⟨hj, hp, _⟩ := List.findIdx?_eq_some_iff_getElem.mp c
    have sk : S k = true := (h2 k).mpr ⟨_, List.getElem_mem hj, hp⟩
    have z := h s.heap (Heap.SameBut.refl a s.heap) (x0.congr (fun k' => by
      cases e : S k' with
      | true => rfl
      | false => rw [Bool.false_or, eq_comm, decide_eq_false_iff_not]; intro q; rw [q, sk] at e; cases e) (by rw [sk]; rfl))
    rw [sk] at z
    refine wpAny_pure (wpAny_pure ?_)
    cases s; exact z
  | none =>
    dsimp only
    have no := List.findIdx?_eq_none_iff.mp c
    have sk : S k = false := Bool.eq_false_iff.mpr fun z => by
      obtain ⟨e, m, q⟩ := (h2 k).mp z
      rw [no e m] at q; cases q
    have lp := layNew_perm t es (knd.hash k) x
    have lf := layNew_fits t es (knd.hash k) x
    obtain ⟨lt, ld⟩ := zka tb es (knd.hash k) x
    generalize layNew t es (knd.hash k) x = Z at lp lf lt ld ⊢
    obtain ⟨fs, u, wd, gave⟩ := Z
    dsimp only at lp lf lt ld ⊢
    rw [Array.toList_push] at lp
    have i1 : ElemsOf knd fs.toList := (h1.push hk hs).perm lp
    have i2 : ∀ k', (S k' || decide (k' = k)) = true ↔ ∃ e ∈ fs.toList, knd.is k' e.2 = true := mem_push_iff hk h2 lp
    have sz : fs.size = n + 1 := by rw [← Array.length_toList, lp.length_eq, List.length_append, Array.length_toList, hn]; rfl
    have i3 : fs.size < scanBound := by rw [sz]; exact room
    have ip : fs.toList.Pairwise fun x y => ∀ k, knd.is k x.2 = true → knd.is k y.2 = false := by
      refine ze2 (List.pairwise_append.mpr ⟨ap, List.pairwise_singleton _ _, fun y hy z hz k' hk' => ?_⟩) lp
      rw [List.mem_singleton.mp hz]
      cases q : knd.is k' x with
      | false => rfl
      | true =>
        have e := knd.inj x k' k q hk
        rw [e, no y hy] at hk'
        cases hk'
    have fin : ∀ h', Heap.SameBut a s.heap h' → SetT knd led h' a (fun k' => S k' || decide (k' = k)) fs.size → Q true { s with heap := h' } := fun h' b z => by
      have := h h' b
      rw [sk] at this
      rw [sz] at z
      exact this z
    refine wpAny_bind ?_
    have gw : ∀ (b : Bool) (s1 : Shared) (R : Unit → Shared → Prop), R () s1 → wpAny (model P w) A (match b with | true => rule "set.scan.the-table-gave-way" | false => pure ()) R E s1 := fun b s1 R q => by cases b <;> first | exact wpAny_pure q | exact wpAny_rule q
    refine gw _ _ _ ?_
    split
    · refine wpAny_bind ?_
      rw [hashByValue_scannable 8 hs]
      refine wpAny_pure (zil (led := led) gw ho hx hd i1 i2 i3 ?_ ?_ ip fun h' b z => ?_)
      · split
        · exact lf
        · exact SetTable.fits_plain_off lf
      · split
        · exact lt
        · exact zm1 lt
      · dsimp only
        exact wpAny_pure (fin h' b z)
    · refine wpAny_bind (wpAny_pure ?_)
      simp only [↓reduceIte]
      refine zil (led := led) gw ho hx hd i1 i2 i3 lf lt ip fun h' b z => ?_
      dsimp only
      exact wpAny_pure (fin h' b z)
end
theorem slot_setit_next : Slot "set_iterator" "__next__" "set_iterator.__next__" :=
  .of (owner := "set_iterator") (n := "__next__") (by rw [typeLookup_type, builtinLookup_eq_fast]; kernel_rfl) (by decide +kernel) (by decide +kernel) (by decide +kernel) (by first | exact .inl (by decide +kernel) | exact .inr (by decide +kernel)) (by rw [isSubtype_type]; kernel_rfl)
theorem zb5 : entryFor table "set_iterator.__next__" = some Builtin.«set_iterator.__next__» := entryFor_of_fast (by kernel_rfl)
theorem zcd (v : Value) : argsOk "set_iterator.__next__" ⟨[v], []⟩ := by unfold argsOk; kernel_rfl
theorem zel : entryFor table "set.__iter__" = some Builtin.«frozenset.__iter__» := entryFor_alias (id' := "frozenset.__iter__") (by kernel_rfl) rfl (by decide +kernel) (by kernel_rfl)
def byT (w : World) : Bool := w.params.followText "set-order"
inductive Way where
  | text
  | drawn (pt : Addr) (pl : List Nat)
  | place
def ordOf (w : World) (a : Addr) (es : Array (Int × Value)) (ep : Nat) : Way → List (Int × Value)
  | .text => (pickOrder (w.params.setOrder a ep) es).toList
  | .drawn _ pl => pl.filterMap fun i => es[i]?
  | .place => es.toList
def WayOk (w : World) (es : Array (Int × Value)) (t : SetTable) : Way → Prop
  | .text => byT w = true
  | .drawn _ pl => byT w = false ∧ (!t.plain && decide (es.size > 1)) = true ∧ pl.Perm (List.range es.size)
  | .place => byT w = false ∧ (!t.plain && decide (es.size > 1)) = false
def FirstIs (h : Heap) (t : SetTable) (i : Nat) (v : Value) : Way → Prop
  | .text => v = .int 0 0
  | .drawn pt pl => v = .ref pt ∧ ∃ o n, h.get? pt = some o ∧ o.data = .seq (pl.map fun j : Nat => rawInt j).toArray n
  | .place => ∃ j : Nat, v = .int j 0 ∧ SetTable.below t.place j = i
structure SetSt (w : World) (it a : Addr) (es : Array (Int × Value)) (ep : Nat) (t : SetTable) (y : Way) (i : Nat) (h : Heap) : Prop where
  st : ∃ o, h.get? a = some o ∧ o.data = .set es ep t
  it : ∃ o v, h.get? it = some o ∧ o.cls = .type "set_iterator" ∧ o.data = .fields #[v, .int i 0, .ref a, .int es.size 0, .int ep 0] ∧ FirstIs h t i v y
theorem zmb {α β : Type} {f : α → Option β} {g : α → β} : ∀ (l : List α), (∀ x ∈ l, f x = some (g x)) → l.filterMap f = l.map g
  | [], _ => rfl
  | x :: l, h => by rw [List.filterMap_cons, h x List.mem_cons_self, List.map_cons, zmb l fun y hy => h y (List.mem_cons_of_mem _ hy)]
section
variable {P : Program} {w : World} {A : Around} {E : Value → Shared → Prop} {s : Shared}
theorem zfh {a : Addr} {es : Array (Int × Value)} {ep : Nat} {t : SetTable} {y : Way} (h : WayOk w es t y) : (ordOf w a es ep y).Perm es.toList := by
  cases y with
  | text => exact zk3 _ _
  | place => exact .refl _
  | drawn pt pl =>
    have e : es.toList = (List.range es.size).filterMap fun i => es[i]? := by
      refine List.ext_getElem? fun i => ?_
      have : ((List.range es.size).filterMap fun i => es[i]?) = (List.range es.size).map fun i => es.getD i default := by
        refine zmb _ fun i hi => ?_
        rw [Array.getElem?_eq_getElem (List.mem_range.mp hi), Array.getD, dif_pos (List.mem_range.mp hi)]
        rfl
      rw [this, List.getElem?_map]
      by_cases hi : i < es.size
      · rw [List.getElem?_range hi, Array.getElem?_toList, Array.getElem?_eq_getElem hi, Option.map_some, Array.getD, dif_pos hi]
        rfl
      · rw [List.getElem?_eq_none (by simpa using hi), List.getElem?_eq_none (by simpa using hi)]
        rfl
    rw [e]
    exact h.2.2.filterMap _
theorem zj0 {M : Model} {A : Around} {src : Source} {n : Nat} {Q : Nat → Shared → Prop} {E : Value → Shared → Prop} {s : Shared} (hn : n ≠ 0) (h : ∀ i d, i < n → Q i { s with drawn := d }) : wpAny M A (choose src n) Q E s :=
  fun Γ p hΓ => ⟨hn, h _ _ (Nat.mod_lt _ (Nat.pos_of_ne_zero hn))⟩
theorem zok {M : Model} {A : Around} {α : Type} {E : Value → Shared → Prop} (n : Nat) : ∀ (xs : List α) (s : Shared) (Q : List α → Shared → Prop), xs.length = n → (∀ ys d, ys.Perm xs → Q ys { s with drawn := d }) → wpAny M A (drawOrder n xs) Q E s := by
  induction n with
  | zero =>
    intro xs s Q hn h
    cases List.eq_nil_of_length_eq_zero hn
    unfold drawOrder
    exact wpAny_pure (h [] s.drawn (.refl _))
  | succ n ih =>
    intro xs s Q hn h
    cases xs with
    | nil => cases hn
    | cons x xs =>
      unfold drawOrder
      refine wpAny_bind (zj0 (by simp) fun i d hi => ?_)
      rw [List.getElem?_eq_getElem hi]
      simp only
      refine wpAny_bind (ih _ _ _ (by rw [List.length_eraseIdx_of_lt hi]; omega) fun ys d' p => ?_)
      refine wpAny_pure (h _ d' ?_)
      generalize hl : x :: xs = l at hi p ⊢
      have e : l = l.take i ++ l[i] :: l.drop (i + 1) := by rw [List.getElem_cons_drop, List.take_append_drop]
      rw [List.eraseIdx_eq_take_drop_succ] at p
      conv => rhs; rw [e]
      exact (List.Perm.cons _ p).trans List.perm_middle.symm
theorem SetSt.ty {it a : Addr} {es : Array (Int × Value)} {ep : Nat} {t : SetTable} {y : Way} {i : Nat} (x : SetSt w it a es ep t y i s.heap) : s.TypeIs (.ref it) "set_iterator" := let ⟨o, _, ho, hc, _⟩ := x.it; ⟨o, ho, hc⟩
theorem zbr {h : Heap} {a : Addr} {o : Obj} {vs : Array Value} (ho : h.get? a = some o) (hd : o.data = .fields vs) (i : Nat) (x : Value) : ∃ o', (h.update a (Obj.mapFields (·.setIfInBounds i x))).get? a = some o' ∧ o'.cls = o.cls ∧ o'.data = .fields (vs.setIfInBounds i x) :=
  ⟨_, Heap.get?_update_self _ ho (Obj.isFreed_of_fields (Obj.data_mapFields hd _)), Obj.cls_mapFields .., by rw [Obj.data_mapFields hd]⟩
theorem zph {M : Model} {α : Type} {c : Prop} [Decidable c] {x y : Sem α} {Q : α → Shared → Prop} (hc : c) (h : wpAny M A x Q E s) : wpAny M A (if c then x else y) Q E s := by rw [if_pos hc]; exact h
theorem zj5 {M : Model} {α : Type} {c : Prop} [Decidable c] {x y : Sem α} {Q : α → Shared → Prop} (hc : ¬ c) (h : wpAny M A y Q E s) : wpAny M A (if c then x else y) Q E s := by rw [if_neg hc]; exact h
theorem zc6 {a : Addr} {o : Obj} {es : Array (Int × Value)} {ep j i : Nat} {t : SetTable} {Q : Option (Value × Nat) → Shared → Prop} (ho : s.heap.get? a = some o) (hd : o.data = .set es ep t) (hf : t.fits es.size = true) (hb : byT w = true)
    (q : Q (((ordOf w a es ep .text)[i]?).map fun e => (e.2, j)) s) : wpAny (model P w) A (setNext a j i ep) Q E s := by
  unfold setNext
  refine wpAny_bind (wpAny_setState_of ho hd hf ?_)
  dsimp only
  unfold setsByText
  refine wpAny_bind (wpAny_bind (wpAny_askSetting (wpAny_pure ?_)))
  refine zph hb (zj5 (by simp) ?_)
  unfold setWalk
  refine wpAny_bind (wpAny_bind (wpAny_setState_of ho hd hf ?_))
  dsimp only
  unfold setsByText
  refine wpAny_bind (wpAny_bind (wpAny_askSetting (wpAny_pure ?_)))
  refine zph hb ?_
  refine wpAny_bind (wpAny_askSetting (wpAny_pure (wpAny_pure ?_)))
  have e : (ordOf w a es ep .text)[i]? = (pickOrder (w.params.setOrder a ep) es)[i]? := by show (pickOrder (w.params.setOrder a ep) es).toList[i]? = _; rw [Array.getElem?_toList]
  rw [e] at q
  exact q
theorem zcs {a : Addr} {o : Obj} {es : Array (Int × Value)} {ep j i : Nat} {t : SetTable} {Q : Option (Value × Nat) → Shared → Prop} (ho : s.heap.get? a = some o) (hd : o.data = .set es ep t) (hf : t.fits es.size = true) (hb : byT w = false) (hp : (!t.plain && decide (es.size > 1)) = false) (tb : Tb (!byT w) t)
    (q : Q (match es[SetTable.below t.place j]?, t.place[SetTable.below t.place j]? with | some (_, x), some j => some (x, j + 1) | _, _ => none) s) : wpAny (model P w) A (setNext a j i ep) Q E s := by
  unfold setNext
  refine wpAny_bind (wpAny_setState_of ho hd hf ?_)
  dsimp only
  unfold setsByText
  refine wpAny_bind (wpAny_bind (wpAny_askSetting (wpAny_pure ?_)))
  refine zj5 (fun z => by rw [show byT w = true from z] at hb; cases hb) (zj5 (fun z => by rw [show (!t.plain && decide (es.size > 1)) = true from z] at hp; cases hp) ?_)
  have hl : t.led = true := by rw [tb.led, hb]; rfl
  refine wpAny_bind ?_
  refine zj5 (c := (!t.led && !es.isEmpty) = true) (by rw [hl]; simp) (wpAny_pure (wpAny_pure q))
theorem zm6 {it a : Addr} {es : Array (Int × Value)} {ep : Nat} {t : SetTable} {y : Way} {i : Nat} {k : Int} {x : Value} {Q : Option Value → Shared → Prop} (hy : WayOk w es t y) (tb : Tb (!byT w) t) (hf : t.fits es.size = true) (st : SetSt w it a es ep t y i s.heap) (hne : a ≠ it) (hpt : ∀ pt pl, y = .drawn pt pl → pt ≠ it) (hx : (ordOf w a es ep y)[i]? = some (k, x))
    (q : ∀ h', SetSt w it a es ep t y (i + 1) h' → Heap.SameBut it s.heap h' → Q (some x) { s with heap := h' }) : wpAny (model P w) A (pyNext (.ref it)) Q E s := by
  have ty := st.ty
  obtain ⟨⟨oa, ha, da⟩, oi, v, hi, ci, di, fi⟩ := st
  unfold pyNext
  refine wpAny_bind (wpAny_attempt (wpAny_callSpecial?_slot (name := Str.ofString "__next__") ty slot_setit_next (wpAny_call_entry slot_setit_next ty zb5 ?_ (zcd _))))
  unfold Builtin.«set_iterator.__next__»
  refine wpAny_bind (wpAny_pure ?_)
  refine wpAny_bind (wpAny_fieldsOf hi di ?_)
  dsimp only
  refine wpAny_bind (wpAny_setEntries_of ha da hf ?_)
  rw [if_neg (by simp)]
  simp only [Int.toNat_natCast]
  cases y with
  | text =>
    have fv : v = .int 0 0 := fi
    subst fv
    dsimp only
    refine wpAny_bind (zc6 ha da hf hy ?_)
    rw [hx]
    dsimp only [Option.map_some]
    refine wpAny_bind (wpAny_setField hi di (by simp) ?_)
    obtain ⟨o1, h1, c1, d1⟩ := zbr hi di 0 (rawInt ((0 : Int).toNat : Int))
    refine wpAny_bind (wpAny_setField h1 d1 (by simp) ?_)
    obtain ⟨o2, h2, c2, d2⟩ := zbr h1 d1 1 (rawInt ((i : Int) + 1))
    have sb := (Heap.SameBut.update s.heap it (Obj.mapFields (·.setIfInBounds 0 (rawInt ((0 : Int).toNat : Int))))).trans (Heap.SameBut.update _ it (Obj.mapFields (·.setIfInBounds 1 (rawInt ((i : Int) + 1)))))
    refine wpAny_pure ⟨x, rfl, wpAny_pure (q _ ⟨⟨oa, by rw [sb.2 a hne]; exact ha, da⟩, o2, .int 0 0, h2, by rw [c2, c1, ci], by rw [d2]; rfl, rfl⟩ sb)⟩
  | drawn pt pl =>
    obtain ⟨fv, op, n, hp, dp⟩ := fi
    subst fv
    dsimp only
    refine wpAny_bind (wpAny_seqItems hp dp ?_)
    dsimp only
    obtain ⟨j, hj, hjx⟩ : ∃ j, pl[i]? = some j ∧ es[j]? = some (k, x) := by
      have e : ordOf w a es ep (.drawn pt pl) = pl.map fun j => es.getD j default := zmb _ fun j hj => by
        have := List.mem_range.mp (hy.2.2.mem_iff.mp hj)
        rw [Array.getElem?_eq_getElem this, Array.getD, dif_pos this]
        rfl
      rw [e, List.getElem?_map] at hx
      obtain ⟨j, hj, ej⟩ := Option.map_eq_some_iff.mp hx
      have hlt := List.mem_range.mp (hy.2.2.mem_iff.mp (List.mem_of_getElem? hj))
      refine ⟨j, hj, ?_⟩
      rw [Array.getElem?_eq_getElem hlt]
      rw [Array.getD, dif_pos hlt] at ej
      exact congrArg some ej
    have hj' : (pl.map fun j : Nat => rawInt j).toArray[i]? = some (.int j 0) := by
      rw [List.getElem?_toArray, List.getElem?_map, hj]
      rfl
    rw [hj']
    dsimp only
    unfold setNextDrawn
    refine wpAny_bind (wpAny_bind (wpAny_setState_of ha da hf ?_))
    dsimp only
    refine zj5 (by simp) ?_
    simp only [Int.toNat_natCast, hjx]
    refine wpAny_pure ?_
    refine wpAny_bind (wpAny_setField hi di (by simp) ?_)
    obtain ⟨o2, h2, c2, d2⟩ := zbr hi di 1 (rawInt ((i : Int) + 1))
    have sb := Heap.SameBut.update s.heap it (Obj.mapFields (·.setIfInBounds 1 (rawInt ((i : Int) + 1))))
    refine wpAny_pure ⟨x, rfl, wpAny_pure (q _ ⟨⟨oa, by rw [sb.2 a hne]; exact ha, da⟩, o2, .ref pt, h2, by rw [c2, ci], by rw [d2]; rfl, rfl, op, n, by rw [sb.2 pt (hpt pt pl rfl)]; exact hp, dp⟩ sb)⟩
  | place =>
    obtain ⟨j, fv, fb⟩ := fi
    subst fv
    dsimp only
    refine wpAny_bind (zcs ha da hf hy.1 hy.2 tb ?_)
    have hx' : es[i]? = some (k, x) := by
      have : es.toList[i]? = some (k, x) := hx
      rw [Array.getElem?_toList] at this
      exact this
    have hlt : i < es.size := (Array.getElem?_eq_some_iff.mp hx').1
    have hpz : t.place.size = es.size := by
      simp only [SetTable.fits, Bool.and_eq_true, beq_iff_eq] at hf
      exact hf.1
    have hpl : t.place[i]? = some (t.place.getD i 0) := by rw [Array.getElem?_eq_getElem (by omega), Array.getD, dif_pos (by omega)]; rfl
    rw [Int.toNat_natCast, fb, hx', hpl]
    dsimp only
    refine wpAny_bind (wpAny_setField hi di (by simp) ?_)
    obtain ⟨o1, h1, c1, d1⟩ := zbr hi di 0 (rawInt ((t.place.getD i 0 + 1 : Nat) : Int))
    refine wpAny_bind (wpAny_setField h1 d1 (by simp) ?_)
    obtain ⟨o2, h2, c2, d2⟩ := zbr h1 d1 1 (rawInt ((i : Int) + 1))
    have sb := (Heap.SameBut.update s.heap it (Obj.mapFields (·.setIfInBounds 0 (rawInt ((t.place.getD i 0 + 1 : Nat) : Int))))).trans (Heap.SameBut.update _ it (Obj.mapFields (·.setIfInBounds 1 (rawInt ((i : Int) + 1)))))
    refine wpAny_pure ⟨x, rfl, wpAny_pure (q _ ⟨⟨oa, by rw [sb.2 a hne]; exact ha, da⟩, o2, _, h2, by rw [c2, c1, ci], by rw [d2]; rfl, t.place.getD i 0 + 1, rfl, zj3 tb.rise (by omega)⟩ sb)⟩
theorem ze7 {it : Addr} {h1 : Heap} {Q : Option Value → Shared → Prop} {R : Fin → Shared → Prop} (hh : A.handled = none) (e1 : Heap.ExtBut it s.heap h1) (q : ∀ h', Heap.ExtBut it s.heap h' → Q none { s with heap := h' }) :
    wpAny (model P w) A.in1 (newExc (.type "StopIteration") [] >>= raiseNew) R (fun e s' => wpAny (model P w) A (isInstance e (.type "StopIteration") >>= fun b => if b = true then pure none else throw e) Q E s') { s with heap := h1 } := by
  refine wpAny_bind ?_; simp only [newExc, newTuple]
  refine wpAny_bind (wpAny_newObj_type (wpAny_bind (m := firstArgMember _ _) (wpAny_of_eq (a := Value.none) (by first | rfl | (simp only [firstArgMember]; rfl)) (wpAny_newObj_type ?_ (by size_fits)))) (by size_fits))
  simp only [raiseNew]; refine wpAny_bind (wpAny_handled ?_)
  rw [show A.in1.handled = none from hh]; refine wpAny_bind (wpAny_pure (wpAny_throw ?_))
  refine wpAny_bind (wpAny_isInstance (s := { s with heap := _ }) (T := "StopIteration") (b := true) ⟨_, Heap.get?_push_size _ rfl, rfl⟩ isSubtype_stop ?_); exact wpAny_pure (q _ ((e1.push _).push _))
theorem zpq {it a : Addr} {es : Array (Int × Value)} {ep : Nat} {t : SetTable} {y : Way} {Q : Option Value → Shared → Prop} (hh : A.handled = none) (hy : WayOk w es t y) (tb : Tb (!byT w) t) (hf : t.fits es.size = true) (st : SetSt w it a es ep t y es.size s.heap)
    (q : ∀ h', Heap.ExtBut it s.heap h' → Q none { s with heap := h' }) : wpAny (model P w) A (pyNext (.ref it)) Q E s := by
  have ty := st.ty
  obtain ⟨⟨oa, ha, da⟩, oi, v, hi, ci, di, fi⟩ := st
  unfold pyNext
  refine wpAny_bind (wpAny_attempt (wpAny_callSpecial?_slot (name := Str.ofString "__next__") ty slot_setit_next (wpAny_call_entry slot_setit_next ty zb5 ?_ (zcd _))))
  unfold Builtin.«set_iterator.__next__»
  refine wpAny_bind (wpAny_pure ?_)
  refine wpAny_bind (wpAny_fieldsOf hi di ?_)
  dsimp only
  refine wpAny_bind (wpAny_setEntries_of ha da hf ?_)
  rw [if_neg (by simp)]
  simp only [Int.toNat_natCast]
  have hpz : t.place.size = es.size := by
    simp only [SetTable.fits, Bool.and_eq_true, beq_iff_eq] at hf
    exact hf.1
  cases y with
  | text =>
    have fv : v = .int 0 0 := fi
    subst fv
    dsimp only
    refine wpAny_bind (zc6 ha da hf hy ?_)
    rw [List.getElem?_eq_none (by rw [(zfh (a := a) (ep := ep) hy).length_eq]; simp)]
    dsimp only [Option.map_none]
    exact wpAny_bind (wpAny_setField hi di (by simp) (ze7 hh (Heap.SameBut.update ..).extBut q))
  | drawn pt pl =>
    obtain ⟨fv, op, n, hp, dp⟩ := fi
    subst fv
    dsimp only
    refine wpAny_bind (wpAny_seqItems hp dp ?_)
    dsimp only
    rw [Array.getElem?_eq_none (by rw [List.size_toArray, List.length_map, hy.2.2.length_eq, List.length_range]; exact Nat.le_refl _)]
    dsimp only
    show wpAny _ _ (setField (.ref it) 0 (rawInt 0) >>= fun _ => setField (.ref it) 2 Value.none >>= fun _ => (newExc (.type "StopIteration") [] >>= raiseNew)) _ _ s
    obtain ⟨o1, h1, c1, d1⟩ := zbr hi di 0 (rawInt 0)
    refine wpAny_bind (wpAny_setField hi di (by simp) ?_)
    refine wpAny_bind (wpAny_setField h1 d1 (by simp) ?_)
    exact ze7 (s := s) hh ((Heap.SameBut.update s.heap it _).trans (Heap.SameBut.update _ it _)).extBut q
  | place =>
    obtain ⟨j, fv, fb⟩ := fi
    subst fv
    dsimp only
    refine wpAny_bind (zcs ha da hf hy.1 hy.2 tb ?_)
    rw [Int.toNat_natCast, fb, Array.getElem?_eq_none (Nat.le_refl _)]
    dsimp only
    exact wpAny_bind (wpAny_setField hi di (by simp) (ze7 hh (Heap.SameBut.update ..).extBut q))
theorem SetSt.kept {it a : Addr} {es : Array (Int × Value)} {ep : Nat} {t : SetTable} {y : Way} {i : Nat} {h h' : Heap} (x : SetSt w it a es ep t y i h) (k : ∀ b o, (b = it ∨ b = a ∨ ∃ pl, y = .drawn b pl) → h.get? b = some o → h'.get? b = some o) : SetSt w it a es ep t y i h' := by
  obtain ⟨⟨oa, ha, da⟩, oi, v, hi, ci, di, fi⟩ := x
  refine ⟨⟨oa, k a oa (.inr (.inl rfl)) ha, da⟩, oi, v, k it oi (.inl rfl) hi, ci, di, ?_⟩
  cases y with
  | text => exact fi
  | place => exact fi
  | drawn pt pl =>
    obtain ⟨fv, op, n, hp, dp⟩ := fi
    exact ⟨fv, op, n, k pt op (.inr (.inr ⟨pl, rfl⟩)) hp, dp⟩
def Way.fp : Way → List Addr
  | .drawn pt _ => [pt]
  | _ => []
theorem Way.mem_fp {y : Way} {b : Addr} : (∃ pl, y = .drawn b pl) ↔ b ∈ y.fp := by
  cases y with
  | text => exact ⟨fun ⟨_, h⟩ => (nomatch h), fun h => (nomatch h)⟩
  | place => exact ⟨fun ⟨_, h⟩ => (nomatch h), fun h => (nomatch h)⟩
  | drawn pt pl =>
    constructor
    · rintro ⟨pl', h⟩
      cases h
      exact List.mem_singleton.mpr rfl
    · intro h
      rw [List.mem_singleton.mp h]
      exact ⟨pl, rfl⟩
theorem Walks.set (hh : A.handled = none) {it a : Addr} {es : Array (Int × Value)} {ep : Nat} {t : SetTable} {y : Way} (hne : a ≠ it) (hpt : ∀ pt pl, y = .drawn pt pl → pt ≠ it) (hy : WayOk w es t y) (tb : Tb (!byT w) t) (hf : t.fits es.size = true) (hself : ∀ (s : Shared) (Q : Value → Shared → Prop) (E : Value → Shared → Prop), s.TypeIs (.ref it) "set_iterator" → Q (.ref it) s → wpAny (model P w) A (pyIter (.ref it)) Q E s) :
    Walks P w A it (it :: a :: y.fp) [it] es.size (fun i v => ∃ k, (ordOf w a es ep y)[i]? = some (k, v)) (fun i h => SetSt w it a es ep t y i h) where
  sub := fun b hb => by rw [List.mem_singleton.mp hb]; exact List.mem_cons_self
  frame := fun i h h' x k => x.kept fun b o hb e => k b (by
    rcases hb with rfl | rfl | hb
    · exact List.mem_cons_self
    · exact List.mem_cons_of_mem _ List.mem_cons_self
    · exact List.mem_cons_of_mem _ (List.mem_cons_of_mem _ (Way.mem_fp.mp hb))) o e
  item := fun i s Q E hi x q => by
    have hl : i < (ordOf w a es ep y).length := by rw [(zfh (a := a) (ep := ep) hy).length_eq]; simpa using hi
    refine zm6 hy tb hf x hne hpt (List.getElem?_eq_getElem hl) fun h' x' sb => q _ h' s.toks ⟨_, List.getElem?_eq_getElem hl⟩ x' fun b o hb e => ?_
    rw [sb.2 b fun z => hb (by rw [z]; exact List.mem_singleton.mpr rfl)]
    exact e
  done := fun s Q E x q => zpq hh hy tb hf x fun h' e1 => q h' s.toks fun b o hb e => e1 b o (fun z => hb (by rw [z]; exact List.mem_singleton.mpr rfl)) e
  self := fun i s Q E x q => hself s Q E x.ty q
end
local instance (priority := 10000) : BEq Key := instBEqOfDecidableEq
section
variable {prog : Program} {w : World} {A : Around} {E : Value → Shared → Prop} {s : Shared}
theorem zha (a : Value) {Q₁ : Value → Shared → Prop}
    (h : Q₁ (.ref s.heap.objs.size) { s with heap := s.heap.push { cls := .type "set", dict := none, data := .set #[] 0 (.fresh 0 0 (!byT w)) } }) :
    codeAny (model prog w) A (.call (.builtin "set.__new__") ⟨[.type "set", a], []⟩) (wants Q₁ E) s := by
  refine codeAny_of_tree ?_
  show wpAny _ A.in1 (do checkBuiltinCall "set.__new__" ⟨[.type "set", a], []⟩; again (.builtin "set.__new__" ⟨[.type "set", a], []⟩)) _ _ s
  refine wpAny_bind (wpAny_of_eq (F.newCall_set_1 a) (wpAny_pure ⟨plainId_quiet F.plain_set_new _, codeAny_builtin F.entry_set_new ?_⟩))
  rw [Around.under_plainId F.plain_set_new _]
  unfold Builtin.«set.__new__» Builtin.Frozenset.newClass
  have hsub := sub_set_self
  obtain ⟨hp, g, d, tk, os⟩ := s
  dsimp only
  wp_walk
  refine wpAny_askSetting (wpAny_pure ?_)
  dsimp only
  simp only [newObj]
  refine wpAny_bind (wpAny_alloc (wpAny_pure ?_))
  exact wpAny_pure h
end
section
variable {P : Program} {w : World} {A : Around} {R : Result → Shared → Prop} {it : Addr} {fp wr : List Addr} {G : Array GenState → Array GenState → Prop} {n : Nat} {Pv : Nat → Value → Prop} {St : Nat → Shared → Prop}
def SetTs (P : Program) (w : World) (h : Heap) (a : Addr) (ks : List Int) : Prop := ∃ n, n ≤ ks.length ∧ SetT (intKind P w) (!byT w) h a (fun k => decide (k ∈ ks)) n
theorem SetTs.kept {P : Program} {w : World} {h h' : Heap} {a : Addr} {ks : List Int} (x : SetTs P w h a ks) (k : ∀ o, h.get? a = some o → h'.get? a = some o) : SetTs P w h' a ks := let ⟨n, l, x⟩ := x; ⟨n, l, SetT.kept x k⟩
theorem zm7 {P : Program} {w : World} {k : Int} {v : Value} (h : (intKind P w).is k v = true) : v.scannable = true := by
  obtain ⟨t, rfl⟩ := Value.isInt_shape h
  rfl
theorem zi8 (W : WalksS P w A.in1 it fp wr G n Pv St) (a : Addr) (ha : a ∉ fp) (ks : List Int) (hn : ks.length = n) (hv : ∀ i v, Pv i v → ∀ k, ks[i]? = some k → (intKind P w).is k v = true) (hb : n + 1 < scanBound) :
    ∀ (m i : Nat) (s : Shared), n - i = m → i ≤ n → St i s → SetTs P w s.heap a (ks.take i) → (∀ s', Moved (a :: wr) G s s' → SetTs P w s'.heap a ks → R (.ok (.ret .none)) s') →
      codeAny (model P w) A (.builtin "set.update.loop" ⟨[.ref a, .ref it], []⟩) R s := by
  have haw : a ∉ wr := fun h => ha (W.sub _ h)
  have up : ∀ b ∈ wr, b ∈ a :: wr := fun b h => List.mem_cons_of_mem _ h
  intro m
  induction m with
  | zero =>
    intro i s hm hi st x q
    obtain rfl : i = n := by omega
    rw [List.take_of_length_le (Nat.le_of_eq hn)] at x
    refine codeAny_builtin F.entry_set_update_loop ?_
    rw [Around.under_plainId F.plain_set_update_loop _]
    refine wpAny_bind (W.done s _ _ st fun s' mv => wpAny_pure (q s' (mv.mono up) (x.kept fun o e => mv.heap a _ haw e)))
  | succ m ih =>
    intro i s hm hi st x q
    have lt : i < n := by omega
    have hk : ks[i]? = some ks[i] := by simp [hn, lt]
    refine codeAny_builtin F.entry_set_update_loop ?_
    rw [Around.under_plainId F.plain_set_update_loop _]
    refine wpAny_bind (W.item i s _ _ lt st fun v s' pv st' mv => ?_)
    have is := hv i v pv _ hk
    have x' := x.kept (h' := s'.heap) fun o e => mv.heap a _ haw e
    refine wpAny_bind (m := holding [v] (setAdd a v)) (wpAny_holding ?_)
    unfold setAdd
    refine wpAny_holding (wpAny_bind ((intKind P w).pyHash (k := ks[i]) is ?_))
    obtain ⟨nn, hnn, x'⟩ := x'
    have room : nn ≤ i := Nat.le_trans hnn (by rw [List.length_take]; omega)
    refine zpr (knd := intKind P w) (s := { s' with toks := s'.toks + 1 }) is (zm7 is) x' (by omega) fun h' sb x2 => ?_
    have x3 : SetTs P w h' a (ks.take (i + 1)) := by
      refine ⟨_, ?_, SetT.congr x2 (fun k' => ?_) rfl⟩
      · have el : (ks.take (i + 1)).length = i + 1 := by rw [List.length_take]; omega
        rw [el]
        split <;> omega
      · rw [List.take_add_one, hk, Option.toList_some]
        rw [Bool.eq_iff_iff]
        simp only [Bool.or_eq_true, decide_eq_true_eq, List.mem_append, List.mem_singleton]
    refine wpAny_pure ⟨plainId_quiet F.plain_set_update_loop _, ih (i + 1) _ (by omega) lt (W.frame _ s' _ _ st' (Nat.le_succ _) fun b hb o e => ?_) x3 fun s2 mv2 x4 => ?_⟩
    · rw [sb.2 b (fun h => ha (h ▸ hb))]; exact e
    · refine q s2 (Moved.trans W.gtrans ((mv.mono up).then_heap (Nat.le_succ _) fun b o hb e => ?_) mv2) x4
      rw [sb.2 b (fun h => hb (h ▸ List.mem_cons_self))]; exact e
end
section
variable {P : Program} {w : World} {A : Around} {E : Value → Shared → Prop} {s : Shared}
set_option maxHeartbeats 3200000 in
theorem zf9 {l : Addr} {its : Array Value} {ks : List Int} {Q : Value → Shared → Prop} (hh : A.handled = none) (hl : s.heap.IsList l its) (hk : ks.length = its.size) (hi : ∀ (i : Nat) v k, its[i]? = some v → ks[i]? = some k → (intKind P w).is k v = true)
    (hb : its.size + 1 < scanBound)
    (h : ∀ (h' : Heap) (tk : Nat), SetTs P w h' s.heap.objs.size ks → (∀ b o, b < s.heap.objs.size → s.heap.get? b = some o → h'.get? b = some o) → Q (.ref s.heap.objs.size) { s with heap := h', toks := tk }) :
    wpAny (model P w) A (call (.type "set") [.ref l]) Q E s := by
  obtain ⟨c, tl, hmro⟩ := F.called_set.mro
  have made := F.called_set.made
  have sub := F.called_set.sub
  refine wpAny_call (codeAny_of_tree (wpAny_pure ⟨Code.quiet_builtin _ (by decide +kernel), codeAny_builtin F.entry_type_call ?_⟩))
  rw [Around.under_plain (weight_type_call_type "set" [.ref l] []) rfl]
  have a1 := F.called_set.notType
  have a2 := F.called_set.canCreate
  have a3 := F.typeCall_set_1 (.ref l)
  repeat (any_goals (first | assumption | wp_step))
  refine codeAny_mono (zha (.ref l) (E := E) (Q₁ := fun obj s1 => obj = .ref s.heap.objs.size ∧ s1 = { s with heap := s.heap.push { cls := .type "set", dict := none, data := .set #[] 0 (.fresh 0 0 (!byT w)) } }) ⟨rfl, rfl⟩) fun r s1 hr => ?_
  cases r with
  | error e => exact hr
  | ok fl =>
    cases fl with
    | ret obj =>
      obtain ⟨rfl, rfl⟩ := hr
      have at0 : (s.heap.push { cls := .type "set", dict := none, data := .set #[] 0 (.fresh 0 0 (!byT w)) }).get? s.heap.objs.size = some { cls := .type "set", dict := none, data := .set #[] 0 (.fresh 0 0 (!byT w)) } := Heap.get?_push_size _ rfl
      have ty : Shared.TypeIs { s with heap := s.heap.push { cls := .type "set", dict := none, data := .set #[] 0 (.fresh 0 0 (!byT w)) } } (.ref s.heap.objs.size) "set" := ⟨_, at0, rfl⟩
      have i1 := F.called_set.init.lookup
      have i2 := F.called_set.init.bind (.ref s.heap.objs.size)
      repeat (any_goals (first | assumption | wp_step))
      refine codeAny_mono (codeAny_call_builtin (R := wants (fun r s2 => r = .none ∧ ∃ h' tk, s2 = { s with heap := h', toks := tk } ∧ SetTs P w h' s.heap.objs.size ks ∧
          (∀ b o, b < s.heap.objs.size → s.heap.get? b = some o → h'.get? b = some o)) E) F.called_set.init.plain F.entry_set_init (check_set_init_1 ty ?_)) fun r2 s2 hr2 => ?_
      · obtain ⟨ol, ho, hc, nl, hd⟩ := hl
        obtain ⟨oc, od, oda, osl⟩ := ol
        simp only at hc hd
        subst hc; subst hd
        have ho' : (s.heap.push { cls := .type "set", dict := none, data := .set #[] 0 (.fresh 0 0 (!byT w)) }).get? l = some { cls := .type "list", dict := od, data := .seq its nl, slots := osl } := Heap.get?_push_of_some _ ho
        have b1 := F.sub_list_set
        have b2 := F.sub_list_frozenset
        have b3 : (Value.type "list" == Value.type "dict") = false := by decide
        have hl1 : (s.heap.push { cls := .type "set", dict := none, data := .set #[] 0 (.fresh 0 0 (!byT w)) }).IsList l its := ⟨_, ho', rfl, nl, rfl⟩
        unfold Builtin.«set.__init__» noKeywords Builtin.Frozenset.updateFrom
        generalize hPI : pyIter = PI
        wp_walk
        subst hPI
        refine wpAny_pyIter_list hl1 ?_
        refine wpAny_bind (wpAny_runValue ?_)
        have ll : l < s.heap.objs.size := Heap.lt_size ho
        have h3 : A.in1.in1.in1.handled = none := by simp [hh]
        have ne : l ≠ (s.heap.push { cls := .type "set", dict := none, data := .set #[] 0 (.fresh 0 0 (!byT w)) }).objs.size := by rw [Heap.size_push]; exact Nat.ne_of_lt (Nat.lt_succ_of_lt ll)
        have nf : s.heap.objs.size ∉ [(s.heap.push { cls := .type "set", dict := none, data := .set #[] 0 (.fresh 0 0 (!byT w)) }).objs.size, l] := by
          rw [Heap.size_push]
          intro z
          rcases List.mem_cons.mp z with z | z
          · exact absurd z (Nat.ne_of_lt (Nat.lt_succ_self _))
          · exact absurd (List.mem_singleton.mp z) (Nat.ne_of_gt ll)
        refine zi8 ((Walks.list h3 _ l ne its).toS) s.heap.objs.size nf ks hk (fun i v pv k e => hi i v k pv e) hb (its.size - 0) 0 _ (by omega) (Nat.zero_le _) ⟨⟨_, Heap.get?_push_size _ rfl, rfl, rfl⟩, (hl1.push _)⟩ ?x0 ?q0
        case x0 =>
          refine SetTs.kept (h := s.heap.push { cls := .type "set", dict := none, data := .set #[] 0 (.fresh 0 0 (!byT w)) }) ?_ fun o e => Heap.get?_push_of_some _ e
          rw [List.take_zero]
          obtain ⟨o, es, ep, t, ho, hx, hd, h12, h3⟩ := (setObjOf_fresh (knd := intKind P w) (!byT w)).setOf at0 (by unfold scanBound; omega)
          have eo : o = _ := (Option.some.inj (at0.symm.trans ho)).symm
          subst eo
          have hd' : Data.set #[] 0 (.fresh 0 0 (!byT w)) = Data.set es ep t := hd
          injection hd' with e1 e2 e3
          subst e1; subst e2; subst e3
          exact ⟨0, Nat.le_refl _, _, _, _, _, at0, hx, rfl, ⟨h12, fun k => by simp⟩, h3.2, zm2 _ _ _, .nil⟩
        case q0 =>
          intro s' mv x'
          obtain ⟨h', g', d', tk', os'⟩ := s'
          have eg : g' = s.gens := mv.gens
          have ed : d' = s.drawn := mv.drawn
          have eo : os' = s.os := mv.os
          subst eg; subst ed; subst eo
          refine wpAny_pure (wpAny_pure ⟨rfl, h', tk', rfl, x', fun b o hb e => mv.heap b o ?_ (Heap.get?_push_of_some _ (Heap.get?_push_of_some _ e))⟩)
          rw [Heap.size_push]
          intro z
          rcases List.mem_cons.mp z with z | z
          · exact absurd z (Nat.ne_of_lt hb)
          · exact absurd (List.mem_singleton.mp z) (Nat.ne_of_lt (Nat.lt_succ_of_lt hb))
      · cases r2 with
        | error e => exact hr2
        | ok f2 =>
          cases f2 with
          | ret r =>
            obtain ⟨rfl, h', tk, rfl, x', k'⟩ := hr2
            repeat (any_goals (first | assumption | wp_step))
            exact h _ _ x' k'
          | _ => exact hr2.elim
    | _ => exact hr.elim
end
section
variable {P : Program} {w : World} {A : Around} {E : Value → Shared → Prop} {s : Shared}
theorem zfv (v : Value) : argsOk "set.__iter__" ⟨[v], []⟩ := by unfold argsOk; kernel_rfl
theorem zje {a : Addr} {o : Obj} {es : Array (Int × Value)} {ep : Nat} {t : SetTable} {Q : Value → Shared → Prop} (ho : s.heap.get? a = some o) (hx : o.ExactSet) (hc : o.cls = .type "set") (hd : o.data = .set es ep t) (hf : t.fits es.size = true) (tb : Tb (!byT w) t) (hn : es.size ≤ sizeLine)
    (q : ∀ (it : Addr) (y : Way) (h' : Heap) (d : Drawn), WayOk w es t y → a ≠ it → (∀ pt pl, y = .drawn pt pl → pt ≠ it ∧ s.heap.objs.size ≤ pt) → s.heap.objs.size ≤ it → SetSt w it a es ep t y 0 h' → (∀ b u, s.heap.get? b = some u → h'.get? b = some u) → Q (.ref it) { s with heap := h', drawn := d }) :
    wpAny (model P w) A (pyIter (.ref a)) Q E s := by
  have hT : s.TypeIs (.ref a) "set" := ⟨o, ho, hc⟩
  refine wpAny_pyIter_slot hT F.slot_set_iter (wpAny_call_entry F.slot_set_iter hT zel ?_ (zfv _))
  unfold Builtin.«frozenset.__iter__» Builtin.Frozenset.slot0 slotArgs
  refine wpAny_bind (wpAny_bind (wpAny_pure ?_))
  unfold Builtin.Frozenset.addrOf
  refine wpAny_pure ?_
  unfold Builtin.Frozenset.sizeOf
  refine wpAny_bind (wpAny_bind (wpAny_setEntries_of ho hd hf (wpAny_pure ?_)))
  unfold setDrawn
  refine wpAny_bind (wpAny_bind (wpAny_setState_of ho hd hf ?_))
  dsimp only
  unfold setsByText
  refine wpAny_bind (wpAny_bind (wpAny_askSetting (wpAny_pure (wpAny_pure ?_))))
  have fin : ∀ (s2 : Shared) (v : Value) (y : Way), WayOk w es t y → (∀ b u, s.heap.get? b = some u → s2.heap.get? b = some u) → s2 = { s with heap := s2.heap, drawn := s2.drawn } → s.heap.objs.size ≤ s2.heap.objs.size → FirstIs s2.heap t 0 v y → (∀ pt pl, y = .drawn pt pl → s.heap.objs.size ≤ pt ∧ pt < s2.heap.objs.size) →
      wpAny (model P w) A.in1 (do let e ← setEpoch a; let f ← newFields "set_iterator" [v, rawInt 0, .ref a, rawInt es.size, rawInt e]; ret f) (fun fin s' => ∃ v, fin = PySem.Fin.done (.ret v) ∧ ∃ T' r, s'.TypeIs v T' ∧ typeLookup (Value.type T') (Str.ofString "__next__") = pure (some r) ∧ Q v s') E s2 := by
    intro s2 v y hy hk es2 le hv hpt
    obtain ⟨h2, g2, d2, tk2, os2⟩ := s2
    have e1 : g2 = s.gens := congrArg Shared.gens es2
    have e2 : tk2 = s.toks := congrArg Shared.toks es2
    have e3 : os2 = s.os := congrArg Shared.os es2
    subst e1; subst e2; subst e3
    unfold setEpoch
    refine wpAny_bind (wpAny_bind (wpAny_setState_of (hk a o ho) hd hf (wpAny_pure ?_)))
    unfold newFields
    refine wpAny_bind (wpAny_newObj_type (wpAny_pure ⟨_, rfl, "set_iterator", _, ⟨_, Heap.get?_push_size _ rfl, rfl⟩, slot_setit_next.lookup, ?_⟩))
    have lt : a < h2.objs.size := Heap.lt_size (hk a o ho)
    have hk' : ∀ b u, h2.get? b = some u → (h2.push { cls := .type "set_iterator", data := .fields #[v, .int 0 0, .ref a, .int es.size 0, .int ep 0] }).get? b = some u := fun b u e => Heap.get?_push_of_some _ e
    refine q _ y _ d2 hy (Nat.ne_of_lt lt) (fun pt pl e => ⟨Nat.ne_of_lt (hpt pt pl e).2, (hpt pt pl e).1⟩) le ⟨⟨o, hk' a o (hk a o ho), hd⟩, ⟨_, v, Heap.get?_push_size _ rfl, rfl, rfl, ?_⟩⟩ fun b u e => hk' b u (hk b u e)
    cases y with
    | text => exact hv
    | place => exact hv
    | drawn pt pl =>
      obtain ⟨e, o2, n2, h1, h2'⟩ := hv
      exact ⟨e, o2, n2, hk' _ _ h1, h2'⟩
  show wpAny _ _ (if (!byT w && (!t.plain && decide (es.size > 1))) = true then _ else _) _ _ _
  cases hb : byT w with
  | true =>
    rw [if_neg (by simp)]
    refine wpAny_bind (wpAny_pure ?_)
    exact fin s _ .text hb (fun _ _ e => e) rfl (Nat.le_refl _) rfl (fun _ _ e => nomatch e)
  | false =>
    cases hp : (!t.plain && decide (es.size > 1)) with
    | false =>
      rw [if_neg (by simp)]
      refine wpAny_bind (wpAny_pure ?_)
      exact fin s _ .place ⟨hb, hp⟩ (fun _ _ e => e) rfl (Nat.le_refl _) ⟨0, rfl, zj2 tb.rise⟩ (fun _ _ e => nomatch e)
    | true =>
      rw [if_pos (by simp)]
      refine wpAny_bind (zok es.size (List.range es.size) s _ List.length_range fun ys d pm => ?_)
      have yl : ys.length = es.size := by rw [pm.length_eq, List.length_range]
      refine wpAny_bind (wpAny_newTuple ?_ (by rw [List.length_map, yl]; exact hn))
      refine fin _ _ (.drawn s.heap.objs.size ys) ⟨hb, hp, pm⟩ (fun _ _ e => Heap.get?_push_of_some _ e) rfl ?_ ⟨rfl, _, _, Heap.get?_push_size _ rfl, rfl⟩ fun pt pl e => ?_
      · show _ ≤ (Heap.push _ _).objs.size
        rw [Heap.size_push]; exact Nat.le_succ _
      · cases e
        refine ⟨Nat.le_refl _, ?_⟩
        show _ < (Heap.push _ _).objs.size
        rw [Heap.size_push]; exact Nat.lt_succ_self _
end
section
variable {P : Program} {w : World} {A : Around} {E : Value → Shared → Prop} {s : Shared}
theorem zb7 : Slot "set_iterator" "__iter__" "set_iterator.__iter__" :=
  .of (owner := "set_iterator") (n := "__iter__") (by rw [typeLookup_type, builtinLookup_eq_fast]; kernel_rfl) (by decide +kernel) (by decide +kernel) (by decide +kernel) (by first | exact .inl (by decide +kernel) | exact .inr (by decide +kernel)) (by rw [isSubtype_type]; kernel_rfl)
theorem zdg : entryFor table "set_iterator.__iter__" = some Builtin.«dict_keyiterator.__iter__» :=
  entryFor_alias (id' := "dict_keyiterator.__iter__") (by kernel_rfl) rfl (by decide +kernel) (by kernel_rfl)
theorem zed (v : Value) : argsOk "set_iterator.__iter__" ⟨[v], []⟩ := by unfold argsOk; kernel_rfl
theorem zi9 : typeLookup (.type "set") (Str.ofString "__len__") = pure (some (.builtin "set.__len__")) := F.slot_set_len.lookup
theorem zhw {a : Addr} {o : Obj} {es : Array (Int × Value)} {ep : Nat} {t : SetTable} {Q : List Value → Shared → Prop} (hh : A.handled = none) (ho : s.heap.get? a = some o) (hx : o.ExactSet) (hc : o.cls = .type "set") (hd : o.data = .set es ep t) (hf : t.fits es.size = true) (tb : Tb (!byT w) t) (hn : es.size ≤ sizeLine)
    (q : ∀ (vs : List Value) (h' : Heap) (d : Drawn) (tk : Nat), vs.Perm (es.toList.map (·.2)) → s.heap.objs.size ≤ h'.objs.size → s.toks ≤ tk → (∀ b u, s.heap.get? b = some u → h'.get? b = some u) → Q vs { s with heap := h', drawn := d, toks := tk }) :
    wpAny (model P w) A (collect (.ref a)) Q E s := by
  have la : a < s.heap.objs.size := Heap.lt_size ho
  unfold collect
  refine wpAny_bind (wpAny_runValue (codeAny_builtin F.entry_proto_collect ?_))
  rw [Around.under_plainId F.plain_proto_collect _]
  show wpAny _ A.in1 (newList [] >>= fun l => again (.builtin "list.__iadd__" ⟨[l, .ref a], []⟩)) _ _ s
  refine wpAny_bind (wpAny_newObj_type ?_)
  refine wpAny_pure ⟨plainId_quiet F.plain_list_iadd _, codeAny_builtin F.entry_list_iadd ?_⟩
  rw [Around.under_plainId F.plain_list_iadd _]
  have hS₁ : (s.heap.push { cls := .type "list", data := .seq ([] : List Value).toArray }).get? s.heap.objs.size = some { cls := .type "list", data := .seq ([] : List Value).toArray } := Heap.get?_push_size _ rfl
  have ha₁ : (s.heap.push { cls := .type "list", data := .seq ([] : List Value).toArray }).get? a = some o := Heap.get?_push_of_some _ ho
  have h1 : Builtin.List.listSameRef (.ref s.heap.objs.size) (.ref a) = false := by simp [Builtin.List.listSameRef, Nat.ne_of_gt la]
  show wpAny _ A.in1 (Builtin.List.listExtendWith (.ref s.heap.objs.size) (.ref a) (.ref s.heap.objs.size)) _ _ _
  unfold Builtin.List.listExtendWith
  have hT : Shared.TypeIs { s with heap := s.heap.push { cls := .type "list", data := .seq ([] : List Value).toArray } } (.ref a) "set" := ⟨o, ha₁, hc⟩
  refine wpAny_bind (wpAny_typeOf hT ?_)
  rw [if_neg (by rw [h1]; decide)]
  refine wpAny_bind (zje (s := { s with heap := s.heap.push { cls := .type "list", data := .seq ([] : List Value).toArray } }) ha₁ hx hc hd hf tb hn fun it y h2 d wo hne hpt hit st k2 => ?_)
  refine wpAny_bind (wpAny_holding ?_)
  have hT2 : Shared.TypeIs { s with heap := h2, drawn := d } (.ref a) "set" := ⟨o, k2 a o ha₁, hc⟩
  unfold Builtin.List.listLengthHint
  refine wpAny_bind (wpAny_specialOf hT2 zi9 ?_)
  generalize hid : ("set.__len__" : String) = id0
  (fail_if_success (clear hid id0))
  wp_delta
  rw [show splitId id0 = some ("set", "__len__") from by subst hid; decide +kernel]
  subst hid
  refine wpAny_bind (wpAny_isInstance (b := true) hT2 (by rw [isSubtype_type]; kernel_rfl) ?_)
  rw [if_neg (by decide)]
  refine zph (by decide +kernel) ?_
  refine wpAny_bind (wpAny_typeOf hT2 (wpAny_pure ?_))
  show wpAny _ A.in1 (rule "list.extend.makes-room" >>= fun _ => Builtin.List.listTouch (.ref s.heap.objs.size) >>= fun _ =>
    again (.builtin "list.extend.loop" ⟨[.ref s.heap.objs.size, .ref it, .ref s.heap.objs.size], []⟩)) _ _ _
  refine wpAny_bind (wpAny_rule ?_)
  have hS2 := k2 _ _ hS₁
  refine wpAny_bind ?_
  show wpAny _ A.in1 (updateSeq s.heap.objs.size (·.push .none) >>= fun _ => updateSeq s.heap.objs.size (·.pop)) _ _ _
  refine wpAny_bind (wpAny_updateSeq hS2 rfl ?_)
  have hS₂ := Heap.get?_update_self (Obj.mapSeq (·.push Value.none)) hS2 rfl
  refine wpAny_updateSeq hS₂ rfl ?_
  have hS₃ := Heap.get?_update_self (Obj.mapSeq (·.pop)) hS₂ rfl
  have oth : ∀ b o, b ≠ s.heap.objs.size → h2.get? b = some o → ((h2.update s.heap.objs.size (Obj.mapSeq (·.push Value.none))).update s.heap.objs.size (Obj.mapSeq (·.pop))).get? b = some o :=
    fun b o hb e => (Heap.get?_update_other _ _ (Ne.symm hb)).trans ((Heap.get?_update_other _ _ (Ne.symm hb)).trans e)
  have hself : ∀ (s : Shared) (Q : Value → Shared → Prop) (E : Value → Shared → Prop), s.TypeIs (.ref it) "set_iterator" → Q (.ref it) s → wpAny (model P w) A.in1 (pyIter (.ref it)) Q E s := fun s Q E hT q => by
    refine wpAny_pyIter_slot hT zb7 (wpAny_call_entry zb7 hT zdg ?_ (zed _))
    show wpAny _ _ (ret (.ref it)) _ _ s
    exact wpAny_pure ⟨_, rfl, "set_iterator", _, hT, slot_setit_next.lookup, q⟩
  have sz1 : (s.heap.push { cls := .type "list", data := .seq ([] : List Value).toArray }).objs.size = s.heap.objs.size + 1 := Heap.size_push ..
  have hit' : s.heap.objs.size + 1 ≤ it := by rw [← sz1]; exact hit
  have ptne : ∀ b, b ∈ y.fp → b ≠ s.heap.objs.size := fun b hb => by
    obtain ⟨pl, e⟩ := Way.mem_fp.mpr hb
    have := (hpt b pl e).2
    have z : s.heap.objs.size + 1 ≤ b := by rw [← sz1]; exact this
    exact Nat.ne_of_gt z
  have W := (Walks.set (P := P) (A := A.in1) (ep := ep) hh hne (fun pt pl e => (hpt pt pl e).1) wo tb hf hself).toS
  have hSf : s.heap.objs.size ∉ it :: a :: y.fp := fun hm => by
    rcases List.mem_cons.mp hm with z | hm
    · exact Nat.ne_of_lt hit' z
    rcases List.mem_cons.mp hm with z | hm
    · exact Nat.ne_of_gt la z
    · exact ptne _ hm rfl
  refine wpAny_pure ⟨plainId_quiet F.plain_extend_loop _, codeAny_extend_loopS W hn _ hSf _ es.size 0 _ _ _ rfl (Nat.zero_le _) ?_ hS₃ (ItemsOf.nil _) fun s' acc' c' hm hS' hacc => ?_⟩
  · refine st.kept fun b u hb e => oth b u ?_ e
    rcases hb with rfl | rfl | hb
    · exact Nat.ne_of_gt hit'
    · exact Nat.ne_of_lt la
    · exact ptne b (Way.mem_fp.mp hb)
  show wpAny _ A (load s.heap.objs.size >>= _) _ _ s'
  refine wpAny_bind (wpAny_load hS' (wpAny_pure ?_))
  obtain ⟨h', g', d', tk', os'⟩ := s'
  have eg : g' = s.gens := hm.gens
  have ed : d' = d := hm.drawn
  have eo : os' = s.os := hm.os
  subst eg; subst ed; subst eo
  have op := zfh (a := a) (ep := ep) wo
  have ol : (ordOf w a es ep y).length = es.size := by rw [op.length_eq, Array.length_toList]
  have hacc' : acc'.toList = (ordOf w a es ep y).map (·.2) := by
    refine List.ext_getElem? fun j => ?_
    rw [List.getElem?_map, Array.getElem?_toList]
    cases e : acc'[j]? with
    | none =>
      have : acc'.size ≤ j := Array.getElem?_eq_none_iff.mp e
      rw [hacc.1] at this
      rw [List.getElem?_eq_none (by omega)]
      rfl
    | some v =>
      obtain ⟨k, hk⟩ := hacc.2 j v e
      rw [hk]
      rfl
  refine q _ h' d' tk' (by rw [hacc']; exact op.map _) (Nat.le_of_lt (Heap.lt_size hS')) hm.toks fun b u e => ?_
  have lb : b < s.heap.objs.size := Heap.lt_size e
  refine hm.heap b u (fun hb => ?_) (oth b u (Nat.ne_of_lt lb) (k2 b u (Heap.get?_push_of_some _ e)))
  rcases List.mem_cons.mp hb with z | z
  · exact Nat.ne_of_lt lb z
  · rw [List.mem_singleton.mp z] at lb
    exact absurd (Nat.lt_trans lb hit') (Nat.lt_irrefl _)
end
def iv : Value → Int
  | .int i _ => i
  | _ => 0
theorem zl4 : ∀ {l : List Value}, (∀ v ∈ l, ∃ i t, v = .int i t) → IntsAre l (l.map iv)
  | [], _ => .nil
  | v :: r, h => by
    obtain ⟨i, t, rfl⟩ := h v List.mem_cons_self
    exact .cons i t (zl4 fun v hv => h v (List.mem_cons_of_mem _ hv))
section
variable {P : Program} {w : World} {A : Around} {E : Value → Shared → Prop} {s : Shared}
theorem zek {l : List Int} (h1 : l.Pairwise (· ≤ ·)) (h2 : l.Nodup) : l.Pairwise (· < ·) := by
  have := List.Pairwise.and h1 h2
  exact this.imp fun ⟨a, b⟩ => by omega
theorem zi6 {a : Addr} {ks : List Int} {Q : Value → Shared → Prop} (hh : A.handled = none) (x : SetTs P w s.heap a ks) (h64 : ks.length < 64)
    (q : ∀ (L : Addr) (vs : List Value) (ns : List Int) (n : Nat) (h' : Heap) (d : Drawn) (tk : Nat), IntsAre vs ns → ns.Pairwise (· < ·) → (∀ k, k ∈ ns ↔ k ∈ ks) → s.heap.objs.size ≤ L → h'.get? L = some (seqObj "list" vs.toArray n) → s.toks ≤ tk → (∀ b u, s.heap.get? b = some u → h'.get? b = some u) → Q (.ref L) { s with heap := h', drawn := d, toks := tk }) :
    wpAny (model P w) A (call (.builtin "sorted") [.ref a]) Q E s := by
  obtain ⟨n, hn, o, es, ep, t, ho, hx, hd, ⟨h1, h2⟩, ⟨h3, h4, hsz⟩, tb, ap⟩ := x
  refine Calls.call_function_entry kind_sorted plain_sorted entry_sorted (args_sorted1 _) ?_
  unfold Builtin.«sorted»
  refine wpAny_bind (m := checkCount "sorted" 1 1 _) (wpAny_pure ?_)
  refine wpAny_bind (zhw hh ho hx hx.1 hd h4 tb (show es.size ≤ sizeLine by unfold sizeLine; omega) fun vs h' d tk pm le htk hk => ?_)
  have hint : ∀ v ∈ vs, ∃ i t, v = .int i t := fun v hv => by
    obtain ⟨e, he, rfl⟩ := List.mem_map.mp (pm.mem_iff.mp hv)
    obtain ⟨⟨k, hk, _⟩, _⟩ := h1 e he
    obtain ⟨t, e⟩ := Value.isInt_shape hk
    exact ⟨k, t, e⟩
  have hI := zl4 hint
  have vl : vs.length < 64 := by
    rw [pm.length_eq, List.length_map, Array.length_toList]; omega
  refine wpAny_bind (wpAny_newList ?_)
  have hoL : (h'.push (seqObj "list" vs.toArray 0)).get? h'.objs.size = some (seqObj "list" vs.toArray 0) := Heap.get?_push_size _ rfl
  show wpAny _ _ _ _ _ { s with heap := h'.push (seqObj "list" vs.toArray 0), drawn := d, toks := tk }
  refine wpAny_bind (wpAny_holding (wpAny_call_entry slot_list_sort ⟨_, hoL, rfl⟩ entry_list_sort (list_sort_tree hoL hI vl fun out ns' a1 a2 a3 => ⟨_, rfl, ?_⟩) (args_list_sort _)))
  have iv_is : ∀ e ∈ es.toList, (intKind P w).is (iv e.2) e.2 = true := fun e he => by
    obtain ⟨⟨k, hk, _⟩, _⟩ := h1 e he
    obtain ⟨t, e'⟩ := Value.isInt_shape hk
    rw [e'] at hk ⊢
    exact hk
  have pe : ns'.Perm (es.toList.map fun e => iv e.2) := by
    refine a2.trans ?_
    have := pm.map iv
    rwa [List.map_map] at this
  obtain ⟨ne, hat⟩ := sortedHeap_at (out := out) hoL
  refine wpAny_pure ⟨_, rfl, q _ out.toList ns' ne _ d tk a1 (zek a3 ?_) (fun k => ?_) le hat htk fun b u e => ?_⟩
  · refine pe.nodup_iff.mpr ?_
    rw [List.Nodup, List.pairwise_map]
    refine List.Pairwise.imp_of_mem (fun {x y} hx hy z e => ?_) ap
    have h := z _ (iv_is x hx)
    rw [e, iv_is y hy] at h
    cases h
  · rw [pe.mem_iff, List.mem_map]
    have := h2 k
    rw [decide_eq_true_eq] at this
    rw [this]
    constructor
    · rintro ⟨e, he, rfl⟩
      exact ⟨e, he, iv_is e he⟩
    · rintro ⟨e, he, hk⟩
      obtain ⟨t, e'⟩ := Value.isInt_shape hk
      exact ⟨e, he, by rw [e']; rfl⟩
  · have lb : b < h'.objs.size := Nat.lt_of_lt_of_le (Heap.lt_size e) le
    refine (sortedHeap_old (Nat.ne_of_lt lb) ?_).trans (Heap.get?_push_of_some _ (hk b u e))
    rw [Heap.size_push]; exact Nat.lt_succ_of_lt lb
end
theorem Inv.drew {X : Cx} {pins : List (Addr × Obj)} {σ : St} {H : Hp} {s : Shared} (I : Inv X pins σ H s) (d : Drawn) : Inv X pins σ H { s with drawn := d } := by
  obtain ⟨h1, h2, h3, h4, h5, h6, h7, h8, h9, h10, h11⟩ := I
  exact ⟨h1, h2, h3, h4, h5, h6, h7, h8, h9, h10, h11⟩
def setI (P : Program) (w : World) (a : Addr) (ns : List Int) : HO := .ext fun h => SetTs P w h a ns
theorem zgv {X : Cx} (hc : X.calm = true) : CallR X (.type "set") (fun xs H Q => ∃ (p : Addr) (ns : List Int), xs = [.ref p] ∧ SqL X.K H p (ns.map V.int) ∧ ns.length ≤ 1000 ∧ ∀ a, H a = none → Q (.ref a) (upd H a (setI X.prog X.w a ns))) := by
  intro pins s σ H xs us Q I r h
  obtain ⟨p, ks, rfl, hx, hz, q⟩ := h
  obtain ⟨u, rfl, rx⟩ := vals1 r
  cases (show u = Value.ref p from rx)
  obtain ⟨vs, rv, pl, _⟩ := I.list hx
  have lv := rv.length
  rw [List.length_map] at lv
  refine zf9 (ks := ks) (I.ok.hd hc) pl.isList (by rw [List.size_toArray]; exact lv) (fun i v k e1 e2 => ?_) (by rw [List.size_toArray]; unfold scanBound; omega) fun h' tk x k => ?_
  · have e1' : vs[i]? = some v := by simpa using e1
    obtain ⟨u, e, q⟩ := rv.get (i := i) (x := V.int k) (by rw [List.getElem?_map, e2]; rfl)
    rw [e1'] at e
    cases e
    obtain ⟨t, rfl⟩ := q
    show Value.isInt k (.int k t) = true
    unfold Value.isInt
    simp
  · refine ⟨.ref s.heap.objs.size, _, I.laid (t' := tk) (fun b u e => k b u (Heap.lt_size e) e) (Nat.le_refl _) ?_, rfl, q _ I.fresh⟩
    obtain ⟨n, hn, o, es, ep, t, ho, rest⟩ := id x
    exact ⟨x, ⟨o, ho⟩, fun h1 h2 x1 k1 => x1.kept k1⟩
theorem zer : ∀ {vs : List Value} {ns : List Int}, IntsAre vs ns → Vals (ns.map V.int) vs
  | _, _, .nil => .nil
  | _, _, .cons n t h => .cons ⟨t, rfl⟩ (zer h)
def rSortS (P : Program) (w : World) : List V → Hp → VK → Prop := fun xs H Q => ∃ (p : Addr) (ns : List Int), xs = [.ref p] ∧ H p = some (setI P w p ns) ∧ ns.length < 64 ∧ ∀ (ms : List Int), ms.Pairwise (· < ·) → (∀ k, k ∈ ms ↔ k ∈ ns) → ∀ L H', New H L (.lst (ms.map V.int)) H' → Q (.ref L) H'
theorem zeb {X : Cx} (hc : X.calm = true) : CallR X (.builtin "sorted") (rSortS X.prog X.w) := by
  intro pins s σ H xs us Q I r h
  obtain ⟨p, ns, rfl, hx, hz, q⟩ := h
  obtain ⟨u, rfl, rx⟩ := vals1 r
  cases (show u = Value.ref p from rx)
  obtain ⟨x, _⟩ := I.hok p _ hx
  refine zi6 (I.ok.hd hc) x hz fun L vs ms n h' d tk a1 a2 a3 le hat htk k => ?_
  have vl : Vals (ms.map V.int) vs := zer a1
  have nf : H L = none := I.hok.fresh le
  refine ⟨.ref L, _, (I.laid (t' := tk) (o := .lst (ms.map V.int)) k le ⟨?_, vs, n, vl, hat⟩).drew d, rfl, q ms a2 a3 L _ (New.mk' nf _)⟩
  rw [List.length_map]
  have nd : ms.Nodup := a2.imp fun h => by omega
  have : ms.length ≤ ns.length := nd.length_le_of_subset fun y hy => (a3 y).mp hy
  exact zaa (by omega)
end L2
namespace SM
open PySem PySem.Spec PyProof.Rows L2 SS
structure Ask (H : Hp) (v : V) : Prop where
  t : Thing H v
  ts : ∀ a xs, v = .ref a → H a = some (.lst xs) → Things H xs
def zes (C : Addr) : Sp := fun vs H Q E => ∃ v, vs = [v] ∧ Ask H v ∧ (frB H v = true → ∀ H', Same H H' → Q .non H') ∧ (frB H v = false → ∀ a H', Same H H' → H' a = none → E (.ref C) (some a) H')
abbrev kS (z : Str) : Key2 := .inl (.inr z)
abbrev kI (n : Nat) : Key2 := .inl (.inl (n : Int))
def noG : List Key2 := [kS "no"]
def yesG : List Key2 := [kS "yes"]
def bareG (wd : Str) (i j : Nat) : List Key2 := [kS wd, kI (2 ^ i), kI (2 ^ j)]
def notG (l : Nat) : List Key2 := [kS "not", kI l]
def someG (b u : Nat) : List Key2 := [kS "some place", kI b, kI u, .inr []]
def full (kd i j n : Nat) : List (List Key2) := match kd with
  | 0 => [bareG "in" i j]
  | 1 => [bareG "in" i j, notG 2]
  | _ => [bareG "next" i n, someG (2 ^ n) 2, bareG "here" n n, someG (2 ^ n) 4]
def sIn (x X : Bool) : Nat := if x = true then (if X = true then 1 else 0) else 2
def sF (kd i j n l c : Nat) : Nat := match kd, l with
  | _, 0 => 0
  | _, 1 => 1
  | 0, _ => sIn (bit c i) (bit c j)
  | 1, 2 => sIn (bit c i) (bit c j)
  | 1, _ => if bit c i = true then (if bit c j = true then 0 else 1) else 3
  | _, 2 => if bit c n = true then 0 else if bit c i = true then 4 else 2
  | _, 3 => if bit c i = true then 5 else 3
  | _, 4 => if bit c n = true then 1 else 0
  | _, _ => 1
def FT (kd i j n : Nat) (fs : List (List Key2)) : Prop := ∃ k, (match kd with | 0 => 1 | _ => 2) ≤ k ∧ k ≤ (full kd i j n).length ∧ fs = (full kd i j n).take k
structure LA where
  p : Addr
  dx : Addr
  pf : Addr
  pn : Addr
  ps : Addr
def FL2 (H : Hp) (v : V) (k : List Key2) : Prop := ∃ a, v = .ref a ∧ NestAt H a k
structure Lg (P : Program) (w : World) (C : Addr) (A : LA) (fs : List (List Key2)) (sts : List (List Key × V)) (H : Hp) : Prop where
  e1 : H A.p = some (.ins C A.dx (fl3 (.ref A.pf) (.ref A.pn) (.ref A.ps)))
  ef : ∃ rs, H A.pf = some (.lst rs) ∧ Paired (FL2 H) rs (noG :: yesG :: fs)
  en : ∃ ys, H A.pn = some (dN P w A.pn ys) ∧ Keys H ys ∧ ys.map (·.1) = fs ∧ ∀ i y, ys[i]? = some y → y.2.2 = nV (2 + i)
  es : H A.ps = some (.dT sts)
def Up3 (A : LA) (H H' : Hp) : Prop := ∀ b o, b ≠ A.pf → b ≠ A.pn → b ≠ A.ps → H b = some o → H' b = some o
theorem Up3.refl (A : LA) (H : Hp) : Up3 A H H := fun _ _ _ _ _ e => e
theorem Same.up3 {A : LA} {H H' : Hp} (g : Same H H') : Up3 A H H' := fun b o _ _ _ e => g b o e
theorem Up3.trans {A : LA} {H H1 H2 : Hp} (a : Up3 A H H1) (b : Up3 A H1 H2) : Up3 A H H2 := fun c o n1 n2 n3 e => b c o n1 n2 n3 (a c o n1 n2 n3 e)
section
variable {P : Program} {w : World} {C : Addr} {A : LA} {fs : List (List Key2)} {sts : List (List Key × V)} {H H' : Hp}
theorem Lg.tups (L : Lg P w C A fs sts H) (u : Up3 A H H') : TupS H H' := fun b o h => by
  obtain ⟨rs, e2, _⟩ := L.ef
  obtain ⟨ys, e3, _⟩ := L.en
  exact u b _ (fun z => by rw [z, e2] at h; cases h) (fun z => by rw [z, e3] at h; cases h) (fun z => by rw [z, L.es] at h; cases h) h
theorem Lg.lst (L : Lg P w C A fs sts H) (u : Up3 A H H') {b : Addr} {xs : List V} (hb : b ≠ A.pf) (h : H b = some (.lst xs)) : H' b = some (.lst xs) := by
  obtain ⟨ys, e3, _⟩ := L.en
  exact u b _ hb (fun z => by rw [z, e3] at h; cases h) (fun z => by rw [z, L.es] at h; cases h) h
theorem Lg.ins (L : Lg P w C A fs sts H) (u : Up3 A H H') {b c d : Addr} {xs : List (Str × V)} (h : H b = some (.ins c d xs)) : H' b = some (.ins c d xs) := by
  obtain ⟨rs, e2, _⟩ := L.ef
  obtain ⟨ys, e3, _⟩ := L.en
  exact u b _ (fun z => by rw [z, e2] at h; cases h) (fun z => by rw [z, e3] at h; cases h) (fun z => by rw [z, L.es] at h; cases h) h
theorem FL2.ts {v : V} {k : List Key2} (h : FL2 H v k) (g : TupS H H') : FL2 H' v k := let ⟨a, e, n⟩ := h; ⟨a, e, n.ts g⟩
theorem Lg.same (L : Lg P w C A fs sts H) (g : Same H H') : Lg P w C A fs sts H' := by
  obtain ⟨rs, e2, e2'⟩ := L.ef
  obtain ⟨ys, e3, e4, e5, e6⟩ := L.en
  exact ⟨g _ _ L.e1, ⟨rs, g _ _ e2, L2.Paired.mapP e2' fun _ _ z => z.ts g.tups⟩, ⟨ys, g _ _ e3, e4.ts g.tups, e5, e6⟩, g _ _ L.es⟩
theorem Up3.same {H0 : Hp} (z1 : H0 A.pf = none) (z2 : H0 A.pn = none) (z3 : H0 A.ps = none) (g : Same H0 H) (u : Up3 A H H') : Same H0 H' := fun b o h => u b o (fun e => by rw [e, z1] at h; cases h) (fun e => by rw [e, z2] at h; cases h) (fun e => by rw [e, z3] at h; cases h) (g b o h)
theorem zaw {α : Type} [DecidableEq α] (x : α) (xs : List α) (k : α) : nOf (x :: xs) k = if x = k then 0 else 1 + nOf xs k := by
  unfold nOf
  rw [List.idxOf_cons]
  by_cases e : x = k
  · rw [if_pos e, beq_iff_eq.mpr e]; rfl
  · rw [if_neg e, beq_eq_false_iff_ne.mpr e]; simp only [cond_false]; omega
theorem tabN : ∀ {ys : List NRow} {fs : List (List Key2)} (d : Nat), ys.map (·.1) = fs → (∀ i y, ys[i]? = some y → y.2.2 = nV (d + i)) → ∀ k, (k ∈ fs → valN ys k = some (nV (d + nOf fs k))) ∧ (¬ k ∈ fs → valN ys k = none)
  | [], _, d, rfl, _, k => ⟨fun h => by simp at h, fun _ => rfl⟩
  | y :: ys, _, d, rfl, hv, k => by
    have h0 := hv 0 y rfl
    have ih := tabN (ys := ys) (d + 1) rfl (fun i z hz => by rw [hv (i + 1) z (by simpa using hz), show d + (i + 1) = d + 1 + i by omega]) k
    have ev : valN (y :: ys) k = if y.1 = k then some y.2.2 else valN ys k := by
      unfold valN
      rw [List.find?_cons]
      by_cases e : y.1 = k
      · rw [decide_eq_true e, if_pos e]; rfl
      · rw [decide_eq_false e, if_neg e]
    rw [ev, List.map_cons, zaw]
    by_cases e : y.1 = k
    · rw [if_pos e, if_pos e]
      exact ⟨fun _ => by rw [h0], fun h => absurd (by rw [e]; exact List.mem_cons_self) h⟩
    · rw [if_neg e, if_neg e]
      refine ⟨fun h => ?_, fun h => ih.2 fun z => h (List.mem_cons_of_mem _ z)⟩
      rw [ih.1 ((List.mem_cons.mp h).resolve_left fun z => e z.symm), show d + (1 + nOf (ys.map (·.1)) k) = d + 1 + nOf (ys.map (·.1)) k by omega]
theorem Lg.form (L : Lg P w C A fs sts H) {l : Nat} {k : List Key2} (h : (noG :: yesG :: fs)[l]? = some k) : ∃ rs b, H A.pf = some (.lst rs) ∧ rs[l]? = some (.ref b) ∧ NestAt H b k := by
  obtain ⟨rs, e2, e2'⟩ := L.ef
  obtain ⟨v, ev, b, rfl, nb⟩ := Paired.at2 e2' h
  exact ⟨rs, b, e2, ev, nb⟩
end
def StG (kd i j n : Nat) (fs : List (List Key2)) (sts : List (List Key × V)) : Prop := ∀ l c : Nat, ∀ v, valV sts [.inl ((l : Nat) : Int), .inl ((c : Nat) : Int)] = some v → v = nV (sF kd i j n l c) ∧ sF kd i j n l c < 2 + fs.length
theorem StG.more {kd i j n : Nat} {fs fs' : List (List Key2)} {sts : List (List Key × V)} (S : StG kd i j n fs sts) (h : fs.length ≤ fs'.length) : StG kd i j n fs' sts := fun l c v e => let ⟨a, b⟩ := S l c v e; ⟨a, by omega⟩
def lvl (kd l : Nat) : Nat := match kd, l with
  | 1, 3 => 1
  | 2, 3 => 1
  | 2, 5 => 1
  | _, _ => 0
structure Kd3 (kd i j n : Nat) : Prop where
  hk : kd ≤ 2
  hn : n ≤ 3
  hi : i < n
  hj : j < n
def zih (P : Program) (w : World) (C : Addr) : Sp := fun vs H Q _ => ∃ (p dx : Addr) (H0 : Hp), vs = [.ref p] ∧ H = upd (upd H0 dx (.own p)) p (.ins C dx []) ∧ H0 p = none ∧ H0 dx = none ∧ dx ≠ p ∧ ∀ (A : LA) H', A.p = p → Lg P w C A [] [] H' → Same H0 H' → H0 A.pf = none → H0 A.pn = none → H0 A.ps = none → Q .non H'
def zcy (P : Program) (w : World) (C : Addr) : Sp := fun vs H Q _ => ∃ (A : LA) (a : Addr) (fs : List (List Key2)) (sts : List (List Key × V)) (k : List Key2), vs = [.ref A.p, .ref a] ∧ Lg P w C A fs sts H ∧ fs.length ≤ 10 ∧ NestAt H a k ∧ ∀ H', Up3 A H H' → Lg P w C A (nxt fs k) sts H' → Q (nV (2 + nOf (nxt fs k) k)) H'
def zkg (K : PySem.W.Frag) : Sp := fun vs H Q _ => ∃ (b : Addr) (ns : List Nat), vs = [.ref b] ∧ H b = some (.lst (ns.map nV)) ∧ (ns = [] ∨ ns = [0] ∨ ns = [1]) ∧ ∀ t H', Same H H' → H' t = some (.tup ((ns.filter (· ≠ 0)).map nV)) → Q (.ref t) H'
def zg8 (P : Program) (w : World) (C : Addr) : Sp := fun vs H Q _ => ∃ (A : LA) (i j n l : Nat) (fs : List (List Key2)) (sts : List (List Key × V)), vs = [.ref A.p, nV l] ∧ Lg P w C A fs sts H ∧ (fs = (full 1 i j n).take 1 ∨ fs = full 1 i j n) ∧ l ≤ 2 ∧
  ∀ H', Up3 A H H' → (l < 2 → Lg P w C A fs sts H' → Q (nV (1 - l)) H') ∧ (l = 2 → Lg P w C A (full 1 i j n) sts H' → Q (nV 3) H')
def zkh (P : Program) (w : World) (C : Addr) : Sp := fun vs H Q _ => ∃ (A : LA) (b u : Nat) (a : Addr) (ns : List Nat) (fs : List (List Key2)) (sts : List (List Key × V)), vs = [.ref A.p, nV b, nV u, .ref a] ∧ Lg P w C A fs sts H ∧ fs.length ≤ 10 ∧ H a = some (.lst (ns.map nV)) ∧ a ≠ A.pf ∧ ((ns = [] ∨ ns = [0]) ∧ u ≠ 0 ∧ (∀ H', Up3 A H H' → Lg P w C A (nxt fs (someG b u)) sts H' → Q (nV (2 + nOf (nxt fs (someG b u)) (someG b u))) H') ∨ ns = [1] ∧ ∀ H', Up3 A H H' → Lg P w C A fs sts H' → Q (nV 1) H')
def zov (P : Program) (w : World) (C : Addr) : Sp := fun vs H Q _ => ∃ (A : LA) (z : Str) (b u : Nat) (fs : List (List Key2)) (sts : List (List Key × V)), vs = [.ref A.p, .str z, nV b, nV u] ∧ Lg P w C A fs sts H ∧ fs.length ≤ 10 ∧ z = "z" ∧ u ≠ 0 ∧ ∀ H', Up3 A H H' → Lg P w C A (nxt fs (someG b u)) sts H' → Q (nV (2 + nOf (nxt fs (someG b u)) (someG b u))) H'
def zig (P : Program) (w : World) (C : Addr) : Sp := fun vs H Q _ => ∃ (A : LA) (b : Addr) (v : V) (wd n m : Str) (tl : List Str) (i j : Nat), vs = [.ref A.p, v, .ref b] ∧ Lg P w C A [] [] H ∧ Rep H v (.bare wd n m) ∧ H b = some (.lst (tl.map V.str)) ∧ tl.length ≤ 4 ∧ tl.idxOf n = i ∧ i < tl.length ∧ tl.idxOf m = j ∧ j < tl.length ∧ ∀ H', Up3 A H H' → Lg P w C A [bareG wd i j] [] H' → Q (nV 2) H'
def say3 (kd : Nat) : Sy := match kd with
  | 0 => .bare "in" "x" "X"
  | 1 => .neg (.bare "in" "x" "X")
  | _ => .qu "some" "z" (.bare "next" "x" "z")
theorem FT.len {kd i j n : Nat} {fs : List (List Key2)} (h : FT kd i j n fs) : fs.length ≤ 4 := by
  obtain ⟨k, h1, h2, rfl⟩ := h
  rw [List.length_take]
  have : (full kd i j n).length ≤ 4 := by unfold full; split <;> simp
  omega
theorem FT.at {kd i j n l : Nat} {fs : List (List Key2)} (h : FT kd i j n fs) (h2 : 2 ≤ l) (hl : l < 2 + fs.length) : (noG :: yesG :: fs)[l]? = (full kd i j n)[l - 2]? := by
  obtain ⟨k, k1, k2, rfl⟩ := h
  obtain ⟨m, rfl⟩ : ∃ m, l = m + 2 := ⟨l - 2, by omega⟩
  rw [List.getElem?_cons_succ, List.getElem?_cons_succ, Nat.add_sub_cancel]
  have : m < k := by rw [List.length_take] at hl; omega
  rw [List.getElem?_take, if_pos this]
def sB (kd l : Nat) (one other : Bool) : Nat := match kd, l with
  | 2, 4 => if one = true then 1 else 0
  | 2, _ => if other = true then 0 else if one = true then 4 else 2
  | _, _ => sIn one other
theorem zec {kd i j n l : Nat} {fs : List (List Key2)} (K3 : Kd3 kd i j n) (F : FT kd i j n fs) (h2 : 2 ≤ l) (hl : l < 2 + fs.length) (h0 : lvl kd l = 0) :
    ∃ wd a b, (noG :: yesG :: fs)[l]? = some (bareG wd a b) ∧ a ≤ 3 ∧ b ≤ 3 ∧ (∀ c, sF kd i j n l c = sB kd l (bit c a) (bit c b)) ∧ ((kd ≤ 1 ∧ l = 2 ∧ wd = "in") ∨ (kd = 2 ∧ l = 2 ∧ wd = "next" ∧ b = n) ∨ (kd = 2 ∧ l = 4 ∧ wd = "here" ∧ a = n ∧ b = n)) := by
  have e := F.at h2 hl
  have hlen := F.len
  have hk := K3.hk
  have hn := K3.hn
  have hi := K3.hi
  have hj := K3.hj
  obtain ⟨k, k1, k2, rfl⟩ := F
  rw [List.length_take] at hl
  rcases (show kd = 0 ∨ kd = 1 ∨ kd = 2 by omega) with rfl | rfl | rfl
  · have : (full 0 i j n).length = 1 := rfl
    obtain rfl : l = 2 := by omega
    exact ⟨"in", i, j, e, by omega, by omega, fun c => rfl, .inl ⟨by omega, rfl, rfl⟩⟩
  · have : (full 1 i j n).length = 2 := rfl
    rcases (show l = 2 ∨ l = 3 by omega) with rfl | rfl
    · exact ⟨"in", i, j, e, by omega, by omega, fun c => rfl, .inl ⟨by omega, rfl, rfl⟩⟩
    · cases h0
  · have : (full 2 i j n).length = 4 := rfl
    rcases (show l = 2 ∨ l = 3 ∨ l = 4 ∨ l = 5 by omega) with rfl | rfl | rfl | rfl
    · exact ⟨"next", i, n, e, by omega, by omega, fun c => rfl, .inr (.inl ⟨rfl, rfl, rfl, rfl⟩)⟩
    · cases h0
    · exact ⟨"here", n, n, e, by omega, by omega, fun c => rfl, .inr (.inr ⟨rfl, rfl, rfl, rfl, rfl⟩)⟩
    · cases h0
theorem zoe {i j n : Nat} {fs : List (List Key2)} (F : FT 2 i j n fs) : FT 2 i j n (nxt fs (bareG "here" n n)) ∧ fs.length ≤ (nxt fs (bareG "here" n n)).length ∧ 3 ≤ (nxt fs (bareG "here" n n)).length ∧ nOf (nxt fs (bareG "here" n n)) (bareG "here" n n) = 2 := by
  have n1 : ¬ bareG "next" i n = bareG "here" n n := fun e => by
    have := List.head_eq_of_cons_eq e
    exact absurd (Sum.inr.inj (Sum.inl.inj this)) (by decide)
  have n2 : ∀ b u, ¬ someG b u = bareG "here" n n := fun b u e => by
    have := List.head_eq_of_cons_eq e
    exact absurd (Sum.inr.inj (Sum.inl.inj this)) (by decide)
  obtain ⟨k, k1, k2, rfl⟩ := F
  have hlen : (full 2 i j n).length = 4 := rfl
  have l2 : ∀ k, k ≤ 4 → ((full 2 i j n).take k).length = k := fun k hk => by rw [List.length_take, hlen]; omega
  have k1 : 2 ≤ k := k1
  rcases (show k = 2 ∨ k = 3 ∨ k = 4 by omega) with rfl | rfl | rfl
  · have e : nxt ((full 2 i j n).take 2) (bareG "here" n n) = (full 2 i j n).take 3 := by
      rw [zcb (by
        intro h
        rcases List.mem_cons.mp h with h | h
        · exact n1 h.symm
        · rcases List.mem_cons.mp h with h | h
          · exact n2 _ _ h.symm
          · cases h)]; rfl
    rw [e]
    refine ⟨⟨3, by decide, (show 3 ≤ 4 by decide), rfl⟩, by rw [l2 _ (by decide), l2 _ (by decide)]; try decide, by rw [l2 _ (by decide)]; try decide, ?_⟩
    show nOf [bareG "next" i n, someG (2 ^ n) 2, bareG "here" n n] _ = 2
    rw [zaw, if_neg n1, zaw, if_neg (n2 _ _), zaw, if_pos rfl]
  · have e : nxt ((full 2 i j n).take 3) (bareG "here" n n) = (full 2 i j n).take 3 := zdx (by show _ ∈ [_, _, _]; simp)
    rw [e]
    refine ⟨⟨3, by decide, (show 3 ≤ 4 by decide), rfl⟩, Nat.le_refl _, by rw [l2 _ (by decide)]; try decide, ?_⟩
    show nOf [bareG "next" i n, someG (2 ^ n) 2, bareG "here" n n] _ = 2
    rw [zaw, if_neg n1, zaw, if_neg (n2 _ _), zaw, if_pos rfl]
  · have e : nxt ((full 2 i j n).take 4) (bareG "here" n n) = (full 2 i j n).take 4 := zdx (by show _ ∈ [_, _, _, _]; simp)
    rw [e]
    refine ⟨⟨4, by decide, (show 4 ≤ 4 by decide), rfl⟩, Nat.le_refl _, by rw [l2 _ (by decide)]; try decide, ?_⟩
    show nOf [bareG "next" i n, someG (2 ^ n) 2, bareG "here" n n, someG (2 ^ n) 4] _ = 2
    rw [zaw, if_neg n1, zaw, if_neg (n2 _ _), zaw, if_pos rfl]
theorem zm4 {i j n u : Nat} {fs : List (List Key2)} (F : FT 2 i j n fs) (hu : u = 2 ∨ (u = 4 ∧ 3 ≤ fs.length)) : FT 2 i j n (nxt fs (someG (2 ^ n) u)) ∧ fs.length ≤ (nxt fs (someG (2 ^ n) u)).length ∧ u + 1 < 2 + (nxt fs (someG (2 ^ n) u)).length ∧ 2 + nOf (nxt fs (someG (2 ^ n) u)) (someG (2 ^ n) u) = u + 1 := by
  have n1 : ∀ (wd : Str) (a b c v : Nat), ¬ wd = "some place" → ¬ bareG wd a b = someG c v := fun wd a b c v hw e => by
    have := List.head_eq_of_cons_eq e
    exact hw (Sum.inr.inj (Sum.inl.inj this))
  have n2 : ¬ someG (2 ^ n) 2 = someG (2 ^ n) 4 := fun e => by
    unfold someG at e
    injection e with _ e
    injection e with _ e
    injection e with e _
    injection e with e
    injection e with e
    omega
  obtain ⟨k, k1, k2, rfl⟩ := F
  have hlen : (full 2 i j n).length = 4 := rfl
  have l2 : ∀ k, k ≤ 4 → ((full 2 i j n).take k).length = k := fun k hk => by rw [List.length_take, hlen]; omega
  have k1 : 2 ≤ k := k1
  rcases hu with rfl | ⟨rfl, h3⟩
  · have hm : someG (2 ^ n) 2 ∈ (full 2 i j n).take k := by
      have h1 : ((full 2 i j n).take k)[1]? = some (someG (2 ^ n) 2) := by rw [List.getElem?_take, if_pos (by omega)]; rfl
      exact List.mem_of_getElem? h1
    have e : nxt ((full 2 i j n).take k) (someG (2 ^ n) 2) = (full 2 i j n).take k := zdx hm
    rw [e]
    refine ⟨⟨k, k1, k2, rfl⟩, Nat.le_refl _, by rw [List.length_take]; omega, ?_⟩
    obtain ⟨m, rfl⟩ : ∃ m, k = m + 2 := ⟨k - 2, by omega⟩
    show 2 + nOf (bareG "next" i n :: someG (2 ^ n) 2 :: _) _ = 3
    rw [zaw, if_neg (n1 _ _ _ _ _ (by decide)), zaw, if_pos rfl]
  · rw [List.length_take] at h3
    have e4 : nOf [bareG "next" i n, someG (2 ^ n) 2, bareG "here" n n, someG (2 ^ n) 4] (someG (2 ^ n) 4) = 3 := by
      rw [zaw, if_neg (n1 _ _ _ _ _ (by decide)), zaw, if_neg n2, zaw, if_neg (n1 _ _ _ _ _ (by decide)), zaw, if_pos rfl]
    rcases (show k = 3 ∨ k = 4 by omega) with rfl | rfl
    · have e : nxt ((full 2 i j n).take 3) (someG (2 ^ n) 4) = (full 2 i j n).take 4 := by
        rw [zcb (by
          intro h
          rcases List.mem_cons.mp h with h | h
          · exact n1 _ _ _ _ _ (by decide) h.symm
          · rcases List.mem_cons.mp h with h | h
            · exact n2 h.symm
            · rcases List.mem_cons.mp h with h | h
              · exact n1 _ _ _ _ _ (by decide) h.symm
              · cases h)]; rfl
      rw [e]
      refine ⟨⟨4, by decide, (show 4 ≤ 4 by decide), rfl⟩, by rw [l2 _ (by decide), l2 _ (by decide)]; try decide, by rw [l2 _ (by decide)]; try decide, ?_⟩
      show 2 + nOf [bareG "next" i n, someG (2 ^ n) 2, bareG "here" n n, someG (2 ^ n) 4] _ = 5
      rw [e4]
    · have e : nxt ((full 2 i j n).take 4) (someG (2 ^ n) 4) = (full 2 i j n).take 4 := zdx (by show _ ∈ [_, _, _, _]; simp)
      rw [e]
      refine ⟨⟨4, by decide, (show 4 ≤ 4 by decide), rfl⟩, Nat.le_refl _, by rw [l2 _ (by decide)]; try decide, ?_⟩
      show 2 + nOf [bareG "next" i n, someG (2 ^ n) 2, bareG "here" n n, someG (2 ^ n) 4] _ = 5
      rw [e4]
def zkk (P : Program) (w : World) (C : Addr) : Sp := fun vs H Q _ => ∃ (A : LA) (kd i j n l : Nat) (one other : Bool) (fs : List (List Key2)) (sts : List (List Key × V)), vs = [.ref A.p, nV l, .bl one, .bl other] ∧ Kd3 kd i j n ∧ Lg P w C A fs sts H ∧ FT kd i j n fs ∧ 2 ≤ l ∧ l < 2 + fs.length ∧ lvl kd l = 0 ∧
  ∀ fs' H', Up3 A H H' → FT kd i j n fs' → fs.length ≤ fs'.length → sB kd l one other < 2 + fs'.length → Lg P w C A fs' sts H' → Q (nV (sB kd l one other)) H'
def zki (P : Program) (w : World) (C : Addr) (lv : Nat) : Sp := fun vs H Q _ => ∃ (A : LA) (kd i j n l c : Nat) (fs : List (List Key2)) (sts : List (List Key × V)), vs = [.ref A.p, nV l, nV c] ∧ Kd3 kd i j n ∧ Lg P w C A fs sts H ∧ FT kd i j n fs ∧ StG kd i j n fs sts ∧ sts.length ≤ 297 - 10 * lv ∧ 2 ≤ l ∧ l < 2 + fs.length ∧ lvl kd l ≤ lv ∧ c < 16 ∧ (lv = 1 → c < 2 ^ n) ∧
  ∀ fs' sts' H', Up3 A H H' → FT kd i j n fs' → fs.length ≤ fs'.length → StG kd i j n fs' sts' → sts'.length ≤ sts.length + 2 * lv → sF kd i j n l c < 2 + fs'.length → Lg P w C A fs' sts' H' → Q (nV (sF kd i j n l c)) H'
def zkj (P : Program) (w : World) (C : Addr) (lv : Nat) : Sp := fun vs H Q _ => ∃ (A : LA) (kd i j n l c : Nat) (fs : List (List Key2)) (sts : List (List Key × V)), vs = [.ref A.p, nV l, nV c] ∧ Kd3 kd i j n ∧ Lg P w C A fs sts H ∧ FT kd i j n fs ∧ StG kd i j n fs sts ∧ sts.length ≤ 297 - 10 * lv ∧ l < 2 + fs.length ∧ lvl kd l ≤ lv ∧ c < 16 ∧ (lv = 1 → c < 2 ^ n) ∧
  ∀ fs' sts' H', Up3 A H H' → FT kd i j n fs' → fs.length ≤ fs'.length → StG kd i j n fs' sts' → sts'.length ≤ sts.length + 2 * lv + 1 → sF kd i j n l c < 2 + fs'.length → Lg P w C A fs' sts' H' → Q (nV (sF kd i j n l c)) H'
def ze3 (P : Program) (w : World) (C : Addr) (lv : Nat) : Sp := fun vs H Q _ => ∃ (A : LA) (kd i j n l : Nat) (fs : List (List Key2)) (sts : List (List Key × V)), vs = [.ref A.p, nV l] ∧ Kd3 kd i j n ∧ Lg P w C A fs sts H ∧ FT kd i j n fs ∧ l < 2 + fs.length ∧ lvl kd l ≤ lv ∧ ∀ b H', Same H H' → Q (.bl b) H'
def frames12 : List (List Str) := [["x", "X"], ["X", "x"], ["x", "X", "y"]]
theorem fr12 {tl : List Str} (h : tl ∈ frames12) : (2 ≤ tl.length ∧ tl.length ≤ 3) ∧ FrOk tl ∧ (∀ z ∈ tl, z.length ≤ 4) ∧ frameB (tl.map V.str) = true ∧ tl.idxOf ("x" : Str) < tl.length ∧ tl.idxOf ("X" : Str) < tl.length ∧ ¬ ("z" : Str) ∈ tl := by
  have nx : ∀ z : Str, z ∈ (["x", "y"] : List Str) → NmOk z := fun z hz => by
    refine .inl ?_
    simp only [List.mem_cons, List.not_mem_nil, or_false] at hz
    rcases hz with rfl | rfl <;> exact zo1 rfl (by decide +kernel) (by decide) (by intro x hx; cases hx)
  have nX : ∀ z : Str, z ∈ (["X"] : List Str) → NmOk z := fun z hz => by
    refine .inr ?_
    simp only [List.mem_cons, List.not_mem_nil, or_false] at hz
    rcases hz with rfl
    exact zo1 rfl (by decide +kernel) (by decide) (by intro x hx; cases hx)
  have h1 : ∀ tl ∈ frames12, (2 ≤ tl.length ∧ tl.length ≤ 3) ∧ (∀ z ∈ tl, z ∈ (["x", "y"] : List Str) ∨ z ∈ (["X"] : List Str)) ∧ (∀ z ∈ tl, z.length ≤ 4) ∧ tl.idxOf ("x" : Str) < tl.length ∧ tl.idxOf ("X" : Str) < tl.length ∧ ¬ ("z" : Str) ∈ tl := by decide +kernel
  have h2 : ∀ tl ∈ frames12, frameB (tl.map V.str) = true := by decide +kernel
  obtain ⟨a, b, c, d⟩ := h1 tl h
  exact ⟨a, ⟨by omega, fun z hz => (b z hz).elim (nx z) (nX z)⟩, c, h2 tl h, d⟩
theorem let12 : ∀ tl ∈ frames12, ∀ kd, kd < 3 → letB treeWords 4 tl (say3 kd) = true ∧ wfB (say3 kd) = true ∧ (say3 kd).depth ≤ 12 := by decide +kernel
def zif (P : Program) (w : World) (C : Addr) : Sp := fun vs H Q _ => ∃ (A : LA) (b : Addr) (v : V) (kd : Nat) (tl : List Str), vs = [.ref A.p, v, .ref b] ∧ Lg P w C A [] [] H ∧ kd ≤ 2 ∧ Rep H v (say3 kd) ∧ H b = some (.lst (tl.map V.str)) ∧ b ≠ A.pf ∧ tl ∈ frames12 ∧ ∀ l fs H', Up3 A H H' → FT kd (tl.idxOf ("x" : Str)) (tl.idxOf ("X" : Str)) tl.length fs → l < 2 + fs.length → Lg P w C A fs [] H' → Q (nV l) H'
def zdp : Sp := fun vs H Q _ => ∃ (v : V) (b r : Addr) (kd : Nat) (tl : List Str) (row : List Nat), vs = [v, .ref b, .ref r] ∧ kd ≤ 2 ∧ Rep H v (say3 kd) ∧ H b = some (.lst (tl.map V.str)) ∧ tl ∈ frames12 ∧ H r = some (.lst (row.map nV)) ∧ row.length ≤ 60 ∧ (∀ c ∈ row, c < 2 ^ tl.length) ∧ ∀ t H', Same H H' → Q (.bl t) H'
end SM
namespace L2
open PySem PySem.Spec PyProof.Rows
def rInsert : V → List V → Hp → VK → Prop := fun x vs H Q => ∃ (l : Addr) (xs : List V) (i : Nat) (y : V), x = .ref l ∧ vs = [.int i, y] ∧ H l = some (.lst xs) ∧ i ≤ xs.length ∧ xs.length ≤ 1000 ∧ ∀ H', H' = upd H l (.lst (xs.take i ++ y :: xs.drop i)) → Q .non H'
theorem zmy {y : V} {u : Value} (ry : RelV y u) (i : Nat) {xs : List V} {us : List Value} (r : Vals xs us) : Vals (xs.take i ++ y :: xs.drop i) (us.take i ++ u :: us.drop i) := (r.take i).append (.cons ry (r.drop i))
theorem zlr {X : Cx} : MtM X "list.insert" rInsert := by
  intro pins s σ H x vs v us Q I rx rv h
  obtain ⟨l, xs, i, y, rfl, rfl, hH, h1, h2, q⟩ := h
  cases rx
  obtain ⟨u1, u2, rfl, r1, r2⟩ := rv.two
  obtain ⟨t, rfl⟩ := r1
  obtain ⟨z, its, n, r, hl, e⟩ := I.lstM hH
  have il : i ≤ its.length := by omega
  have hf : Builtin.List.listFitsIndex ((i : Nat) : Int) = true := fitsIndex_both (by omega) (by omega)
  have hc : ¬(!Builtin.List.listFitsIndex ((i : Nat) : Int)) = true := by rw [hf]; exact fun z => nomatch z
  have hs : its.toArray.size ≤ sizeLine := by rw [List.size_toArray, ← hl]; exact z
  have M := @PySem.AutoListH.list_insert_list_int_val_1 l its.toArray n ((i : Nat) : Int) t u2 hc hs
  have hx : ∀ x : Int, x = ((i : Nat) : Int) → (if x < 0 then (x + ((its.toArray.size : Nat) : Int)).toNat else min x.toNat its.toArray.size) = i := fun x ex => by
    rw [ex, if_neg (by omega), Int.toNat_natCast, List.size_toArray, Nat.min_eq_left il]
  clear hf hc rv
  generalize ((i : Nat) : Int) = x at M hx ⊢
  refine call_meets (B := Builtin.«list.insert») (self := .ref l) (rest := [.int x t, u2]) PySem.F.slot_list_insert ⟨_, e, rfl⟩ PySem.F.entry_list_insert (PySem.F.args_list_insert_3 _ _ _) M ⟨e, ?_⟩
  refine ⟨.non, _, I.lset (its' := its.take i ++ u2 :: its.drop i) hH e ?_ (zmy r2 i r) ?_, rfl, q _ rfl⟩
  · dsimp only
    rw [hx x rfl]
    simp
    exact List.take_of_length_le (by rw [List.length_drop]; exact Nat.le_refl _)
  · rw [List.length_append, List.length_cons, List.length_take, List.length_drop]
    have : min i xs.length + (xs.length - i + 1) ≤ 1001 := by rw [Nat.min_eq_left h1]; omega
    exact Nat.le_trans this (by decide)
end L2
set_option maxHeartbeats 4000000
namespace L2
open PySem
theorem fit1 {P : List Value → Prop} (h : ∀ a, P [a]) : ∀ us : List Value, us.length = 1 → P us
  | [_], _ => h _
theorem fit2 {P : List Value → Prop} (h : ∀ a b, P [a, b]) : ∀ us : List Value, us.length = 2 → P us
  | [_, _], _ => h _ _
theorem fit3 {P : List Value → Prop} (h : ∀ a b c, P [a, b, c]) : ∀ us : List Value, us.length = 3 → P us
  | [_, _, _], _ => h _ _ _
theorem fit4 {P : List Value → Prop} (h : ∀ a b c d, P [a, b, c, d]) : ∀ us : List Value, us.length = 4 → P us
  | [_, _, _, _], _ => h _ _ _ _
end L2
namespace K12
open PySem PySem.Spec PyProof.Rows L2 SS SM
local macro_rules | `(tactic| trivial) => `(tactic| simp only [exists_eq', rEqI, rNeI, rInDc, rLenD, rLenT, rDictOf, rMaxL, rIndex, rCatTN, rCatTE, tDNewN, tDNewTN, tDisp1T, rNeM, rRange2, rListRng, rRepN, rPopAt, rSetL, gSub, ipI, tDGet, tDGet2, sDPut, iEnum, iEZ, iZipL, iRng3, rIndexT, tFld, sFld, tMeth, tMake, gLst, rNotInN, sDPutN, tDGetN, tDNew2, rSortS, tRaise, tTryA, rIsX, rIsXT, rInsert, iZip, rInD, rIxD, rLen, rAll, rAny, rSum, rListOf, rEqS, rNeS, rSlTN, rStrB, tTupN, tLstN, rSlLN, rCatN, cxK, cxP, cxW, tSeq, tIfS, tTest, tB, tOp, tUn, tC, tAnd, tOr, tNot, tAndV, tOrV, tNotV, tIf, tNext, tBreak, tCont, tDrop, tRet, tRetN, gName, gNil, gCons, gTup, tAsg, tPar, tAug, rI, rI0, rU, rEq, rNe, tChain, tNil, tCons, tTup, tLst, tCall, tCB, tNoPart, tPart, tSl, rSlT, rSlL, rSlS, rIxL, rIxT, rIxS, rIn, tBM0, tBM, tyV, rAppend, rExtend, rCat, rZfill, rEqD, iList, iTup, iStr, iRng1, iRng2, tYes, tDisp, tPairs, zpw, zpv, zhg, zky, zfd, zfe, List.set_cons_zero, List.set_cons_succ, List.nil_append, List.cons_append, List.append_nil, V.int.injEq, V.str.injEq, V.bl.injEq, V.ref.injEq, V.ty.injEq, List.cons.injEq, and_true, true_and, exists_eq_left, exists_eq_left', exists_and_left, exists_eq, exists_const, if_true, if_false, ite_true, ite_false, zpx, zpy, zpz, zp0, zp1, Option.some.injEq, exists_eq_right, exists_eq_right', and_assoc, reduceCtorEq, false_and, and_false, false_or, or_false, exists_false])
def top (i : Nat) : Stmt := PySem.Challenge.pw_setsays_k12_holds_refused.main.body.getD i (.Pass ⟨0, 0, 0, 0⟩)
structure Txt (K : PySem.W.Frag) (mg : Str → Option Value) (w : World) (tw rw fa cLeftovers cSayError : Addr) (cs : List Addr) : Prop where
  b_isinstance : mg "isinstance" = none
  b_tuple : mg "tuple" = none
  b_str : mg "str" = none
  b_list : mg "list" = none
  b_int : mg "int" = none
  b_bool : mg "bool" = none
  b_set : mg "set" = none
  b_len : mg "len" = none
  b_all : mg "all" = none
  b_any : mg "any" = none
  b_sum : mg "sum" = none
  b_max : mg "max" = none
  b_min : mg "min" = none
  b_zip : mg "zip" = none
  b_range : mg "range" = none
  b_enumerate : mg "enumerate" = none
  b_sorted : mg "sorted" = none
  b_ValueError : mg "ValueError" = none
  g_FIGURES : GlV mg "FIGURES" (.str FIGS)
  g_LONGEST_NAME : GlV mg "LONGEST_NAME" (.int 4)
  g_SMALL_LETTERS : GlV mg "SMALL_LETTERS" (.str SMALL)
  g_GREAT_LETTERS : GlV mg "GREAT_LETTERS" (.str GREAT)
  g_MOST_NAMES : GlV mg "MOST_NAMES" (.int 4)
  g_DEEPEST : GlV mg "DEEPEST" (.int 12)
  g_MOST_PARTS : GlV mg "MOST_PARTS" (.int 60)
  g_NO : GlV mg "NO" (.int 0)
  g_YES : GlV mg "YES" (.int 1)
  g_TELLING_WORDS : GlV mg "TELLING_WORDS" (.ref tw)
  t_TELLING_WORDS : ∀ H, SqT K H tw [.str "some", .str "all"]
  g_TREE_WORDS : GlV mg "TREE_WORDS" (.ref rw)
  t_TREE_WORDS : ∀ H, SqT K H rw [.str "left", .str "right", .str "above"]
  g_FORMS : GlV mg "FORMS" (.ref fa)
  f_FORMS : Forms K w fa
  m_Leftovers : mg "Leftovers" = some (.ref cLeftovers)
  cl_Leftovers : Cls K cLeftovers
  n_forms : NoAttr K cLeftovers "forms"
  n_numbers : NoAttr K cLeftovers "numbers"
  n_steps : NoAttr K cLeftovers "steps"
  m_SayError : mg "SayError" = some (.ref cSayError)
  m_NoText : mg "NoText" = some (.ref (cs.getD 0 0))
  m_NoFrame : mg "NoFrame" = some (.ref (cs.getD 1 0))
  m_NoRow : mg "NoRow" = some (.ref (cs.getD 2 0))
  m_NoSaying : mg "NoSaying" = some (.ref (cs.getD 3 0))
  m_NoTree : mg "NoTree" = some (.ref (cs.getD 4 0))
  m_NoWidth : mg "NoWidth" = some (.ref (cs.getD 5 0))
  m_NoNumber : mg "NoNumber" = some (.ref (cs.getD 6 0))
  m_TooGreat : mg "TooGreat" = some (.ref (cs.getD 7 0))
  m_NoLine : mg "NoLine" = some (.ref (cs.getD 8 0))
  k_SayError : KSup K cSayError
  kx1 : KExc K (cs.getD 1 0)
  ms1 : PySem.W.mroIn K (cs.getD 1 0) (.ref cSayError) = some true
  iV1 : PySem.W.kitOne K (.ref (cs.getD 1 0)) (.type "ValueError") = some true
  q1_0 : PySem.W.kitOne K (.ref (cs.getD 1 0)) (.ref (cs.getD 0 0)) = some false
  q1_1 : PySem.W.kitOne K (.ref (cs.getD 1 0)) (.ref (cs.getD 1 0)) = some true
  q1_2 : PySem.W.kitOne K (.ref (cs.getD 1 0)) (.ref (cs.getD 2 0)) = some false
  q1_3 : PySem.W.kitOne K (.ref (cs.getD 1 0)) (.ref (cs.getD 3 0)) = some false
  q1_4 : PySem.W.kitOne K (.ref (cs.getD 1 0)) (.ref (cs.getD 4 0)) = some false
  q1_5 : PySem.W.kitOne K (.ref (cs.getD 1 0)) (.ref (cs.getD 5 0)) = some false
  q1_6 : PySem.W.kitOne K (.ref (cs.getD 1 0)) (.ref (cs.getD 6 0)) = some false
  q1_7 : PySem.W.kitOne K (.ref (cs.getD 1 0)) (.ref (cs.getD 7 0)) = some false
  q1_8 : PySem.W.kitOne K (.ref (cs.getD 1 0)) (.ref (cs.getD 8 0)) = some false
  x_NoFrame : PySem.W.excIn K (cs.getD 1 0) veM "ValueError.__new__" = true
  kx2 : KExc K (cs.getD 2 0)
  ms2 : PySem.W.mroIn K (cs.getD 2 0) (.ref cSayError) = some true
  iV2 : PySem.W.kitOne K (.ref (cs.getD 2 0)) (.type "ValueError") = some true
  q2_0 : PySem.W.kitOne K (.ref (cs.getD 2 0)) (.ref (cs.getD 0 0)) = some false
  q2_1 : PySem.W.kitOne K (.ref (cs.getD 2 0)) (.ref (cs.getD 1 0)) = some false
  q2_2 : PySem.W.kitOne K (.ref (cs.getD 2 0)) (.ref (cs.getD 2 0)) = some true
  q2_3 : PySem.W.kitOne K (.ref (cs.getD 2 0)) (.ref (cs.getD 3 0)) = some false
  q2_4 : PySem.W.kitOne K (.ref (cs.getD 2 0)) (.ref (cs.getD 4 0)) = some false
  q2_5 : PySem.W.kitOne K (.ref (cs.getD 2 0)) (.ref (cs.getD 5 0)) = some false
  q2_6 : PySem.W.kitOne K (.ref (cs.getD 2 0)) (.ref (cs.getD 6 0)) = some false
  q2_7 : PySem.W.kitOne K (.ref (cs.getD 2 0)) (.ref (cs.getD 7 0)) = some false
  q2_8 : PySem.W.kitOne K (.ref (cs.getD 2 0)) (.ref (cs.getD 8 0)) = some false
  x_NoRow : PySem.W.excIn K (cs.getD 2 0) veM "ValueError.__new__" = true
  kx3 : KExc K (cs.getD 3 0)
  ms3 : PySem.W.mroIn K (cs.getD 3 0) (.ref cSayError) = some true
  iV3 : PySem.W.kitOne K (.ref (cs.getD 3 0)) (.type "ValueError") = some true
  q3_0 : PySem.W.kitOne K (.ref (cs.getD 3 0)) (.ref (cs.getD 0 0)) = some false
  q3_1 : PySem.W.kitOne K (.ref (cs.getD 3 0)) (.ref (cs.getD 1 0)) = some false
  q3_2 : PySem.W.kitOne K (.ref (cs.getD 3 0)) (.ref (cs.getD 2 0)) = some false
  q3_3 : PySem.W.kitOne K (.ref (cs.getD 3 0)) (.ref (cs.getD 3 0)) = some true
  q3_4 : PySem.W.kitOne K (.ref (cs.getD 3 0)) (.ref (cs.getD 4 0)) = some false
  q3_5 : PySem.W.kitOne K (.ref (cs.getD 3 0)) (.ref (cs.getD 5 0)) = some false
  q3_6 : PySem.W.kitOne K (.ref (cs.getD 3 0)) (.ref (cs.getD 6 0)) = some false
  q3_7 : PySem.W.kitOne K (.ref (cs.getD 3 0)) (.ref (cs.getD 7 0)) = some false
  q3_8 : PySem.W.kitOne K (.ref (cs.getD 3 0)) (.ref (cs.getD 8 0)) = some false
  x_NoSaying : PySem.W.excIn K (cs.getD 3 0) veM "ValueError.__new__" = true
seal PE PT PW PA PS PSs
section
variable {P : Program} {w : World} {K : PySem.W.Frag} {mg : Str → Option Value} {base : Heap} {tw rw fa cLeftovers cSayError : Addr} {cs : List Addr}
abbrev s_is_letter_with_figures : Stmt := top 17
theorem zbu : FnScope ["thing", "letters"] ["thing", "letters"] (defScope s_is_letter_with_figures) := ⟨rfl, rfl, rfl, by decide +kernel, rfl, by decide +kernel, by decide +kernel⟩
theorem zst (T : Txt K mg w tw rw fa cLeftovers cSayError cs) (d : Dfn K mg "is_letter_with_figures" s_is_letter_with_figures ["thing", "letters"]) : Cal P w K mg base 1 "is_letter_with_figures" ["thing", "letters"] zpk := by
  refine d.cal zbu (fun vs H Q E h => ?_) (fun f cdv A outer s H vs Q E hr h => ?_)
  · obtain ⟨x, l, k, rfl, _⟩ := h
    rfl
  obtain ⟨x, l, k, rfl, hk, hz, q⟩ := h
  refine ⟨_, (zac (zax (PW.pt (zej (zb4 (zbe (za4 zbq (by rfl) T.b_isinstance boot_isinstance (pa_c (pv 0) (pa_c (zbv (v := .ty "str") (by rfl) T.b_str boot_str (by rfl)) zab))))) (zej (zaj za7 (pv 0) zad (nomark _)) (zc9 (zaj znq (za4 zgx (by rfl) T.b_len boot_len (pa_c (pv 0) zab)) (zba (by rfl) T.g_LONGEST_NAME) (nomark _)))))) (zaf (zai zhk)) zak) (zaf (zai (zcn (zbg zgi (zap zsb (pv 0) zae (fun _ _ => rfl)) (pv 1) (by with_unfolding_all rfl)) (zcm (za4 (zbf K rfl) (by rfl) T.b_all boot_all (pa_c (zbd ["sign"] [] (CompOk.of rfl (by rfl) (by rfl)) (by rfl) (zrn (zdk zrh (pv 0) (zdv zae) zhh)) (fun _ _ _ _ _ => (za9 (i := 0) (show List.Nodup (["sign"] : List Str) by decide +kernel) (by rfl) (Or.inl (by rfl)))) (fun _ _ _ _ _ => zca) (fun _ _ _ _ _ => (zbg zgi (pv 0) (zba (by rfl) T.g_FIGURES) (by with_unfolding_all rfl)))) zab))))))), ?_⟩
  refine za3 [some x, some (.str l)] rfl ?_
  trivial
  refine ⟨k, hk, by decide, ?_⟩
  cases hk with
  | str z =>
    have hz' := hz z rfl
    have hl := zkc z
    rw [show (!subT "str" "str") = false by decide]
    trivial
    refine ite2 (fun c => ?_) (fun c => ?_)
    · have c' := of_decide_eq_true c
      subst c'
      exact q H (Same.refl H)
    have c' := of_decide_eq_false (Bool.eq_false_iff.mpr c)
    have ne : z.cps.toList ≠ [] := fun e => c' (ext_toList e)
    refine ⟨by have := small1000 hz'; omega, ?_⟩
    obtain ⟨c0, r0, e0⟩ := List.exists_cons_of_ne_nil ne
    have q' : ∀ H', Same H H' → Q (.bl (decide (r0.length ≤ 3) && signIn c0 l && r0.all fun d => signIn d FIGS)) H' := fun H' g => by
      have h := q H' g
      simp only [isNm, nameB, e0] at h
      exact h
    rw [e0, List.length_cons] at hl
    refine ite2 (fun c => ?_) (fun c => ?_)
    · have c2 := of_decide_eq_true c
      have h := q' H (Same.refl H)
      rw [show decide (r0.length ≤ 3) = false by simp; omega, Bool.false_and, Bool.false_and] at h
      exact h
    have c2 := of_decide_eq_false (Bool.eq_false_iff.mpr c)
    rw [show decide (r0.length ≤ 3) = true by simp; omega, Bool.true_and] at q'
    refine ⟨by have := small1000 hz'; omega, c0, by rw [e0]; exact zaz, ?_⟩
    refine ite2 (fun c => ?_) (fun c => ?_)
    · rw [show signIn c0 l = true from c, Bool.true_and] at q'
      have es : (Txt.slice z (some 1) none).cps.toList = r0 := by
        rw [zkp, show ((1 : Int)) = ((1 : Nat) : Int) from rfl, zd9, e0]
        rfl
      have en : (Txt.slice z (some 1) none).cps.size = r0.length := by rw [← es]; simp
      refine ⟨by have := small1000 hz'; omega, ?_⟩
      refine zsk (fun D i ys σ H' => Same H H' ∧ (∃ v, σ = [v]) ∧ ys = (r0.take i).map fun d => V.bl (signIn d FIGS)) (by rw [en]; exact Nat.le_of_lt (small1000 (by omega))) (fun D hD => ⟨za8 hD _, ⟨none, rfl⟩, rfl⟩) ?_ ?_
      · rintro D i ys σ H' d hD hi hd hD' hys ⟨g, ⟨v, rfl⟩, rfl⟩
        trivial
        refine cstep (by rw [en]; exact Nat.le_of_lt (small1000 (by omega))) hi hD' hys ⟨fun b o e => ?_, ⟨_, rfl⟩, ?_⟩
        · rw [zan (zat e hD)]; exact g b o e
        · rw [en] at hi
          have e1 : r0[i]? = some d := by rw [← es]; simpa using hd
          rw [List.take_add_one, e1, List.map_append]
          rfl
      · rintro D ys σ H' hD hD' hys ⟨g, _, rfl⟩
        rw [en, List.take_of_length_le (Nat.le_refl _)] at hD'
        refine ⟨_, rfl, r0.map fun d => signIn d FIGS, .of (by rw [hD', List.map_map]; rfl), ?_⟩
        have h := q' H' g
        rw [List.all_map]
        exact h
    · have h := q' H (Same.refl H)
      rw [show signIn c0 l = false from Bool.eq_false_iff.mpr c, Bool.false_and] at h
      exact h
  | non => exact q H (Same.refl H)
  | bl b => exact q H (Same.refl H)
  | int i => exact q H (Same.refl H)
  | lst e => exact q H (Same.refl H)
  | tup e => exact q H (Same.refl H)
  | dK e => exact q H (Same.refl H)
abbrev s_is_place : Stmt := top 18
theorem zhc : FnScope ["thing"] ["thing"] (defScope s_is_place) := ⟨rfl, rfl, rfl, by decide +kernel, rfl, by decide +kernel, by decide +kernel⟩
theorem znr (T : Txt K mg w tw rw fa cLeftovers cSayError cs) (d : Dfn K mg "is_place" s_is_place ["thing"]) (C_is_letter_with_figures : Cal P w K mg base 1 "is_letter_with_figures" ["thing", "letters"] zpk) : Cal P w K mg base 2 "is_place" ["thing"] (zef SMALL) := by
  refine d.cal zhc (fun vs H Q E h => ?_) (fun f cdv A outer s H vs Q E hr h => ?_)
  · obtain ⟨x, k, rfl, _⟩ := h
    rfl
  obtain ⟨x, k, rfl, hk, hz, q⟩ := h
  refine ⟨_, (zaf (zai (zag C_is_letter_with_figures hr (by omega) (by rfl) (pa_c (pv 0) (pa_c (zba (by rfl) T.g_SMALL_LETTERS) zab))))), ?_⟩
  refine za3 [some x] rfl ?_
  trivial
  exact ⟨x, SMALL, k, rfl, hk, hz, q⟩
abbrev s_is_set : Stmt := top 19
theorem zku : FnScope ["thing"] ["thing"] (defScope s_is_set) := ⟨rfl, rfl, rfl, by decide +kernel, rfl, by decide +kernel, by decide +kernel⟩
theorem zry (T : Txt K mg w tw rw fa cLeftovers cSayError cs) (d : Dfn K mg "is_set" s_is_set ["thing"]) (C_is_letter_with_figures : Cal P w K mg base 1 "is_letter_with_figures" ["thing", "letters"] zpk) : Cal P w K mg base 2 "is_set" ["thing"] (zef GREAT) := by
  refine d.cal zku (fun vs H Q E h => ?_) (fun f cdv A outer s H vs Q E hr h => ?_)
  · obtain ⟨x, k, rfl, _⟩ := h
    rfl
  obtain ⟨x, k, rfl, hk, hz, q⟩ := h
  refine ⟨_, (zaf (zai (zag C_is_letter_with_figures hr (by omega) (by rfl) (pa_c (pv 0) (pa_c (zba (by rfl) T.g_GREAT_LETTERS) zab))))), ?_⟩
  refine za3 [some x] rfl ?_
  trivial
  exact ⟨x, GREAT, k, rfl, hk, hz, q⟩
abbrev s_is_name : Stmt := top 20
theorem zja : FnScope ["thing"] ["thing"] (defScope s_is_name) := ⟨rfl, rfl, rfl, by decide +kernel, rfl, by decide +kernel, by decide +kernel⟩
theorem zss (T : Txt K mg w tw rw fa cLeftovers cSayError cs) (d : Dfn K mg "is_name" s_is_name ["thing"]) (C_is_place : Cal P w K mg base 2 "is_place" ["thing"] (zef SMALL)) (C_is_set : Cal P w K mg base 2 "is_set" ["thing"] (zef GREAT)) : Cal P w K mg base 3 "is_name" ["thing"] zm3 := by
  refine d.cal zja (fun vs H Q E h => ?_) (fun f cdv A outer s H vs Q E hr h => ?_)
  · obtain ⟨x, rfl, _⟩ := h
    rfl
  obtain ⟨x, rfl, ⟨⟨k, hk⟩, hz⟩, q⟩ := h
  refine ⟨_, (zaf (zai (zso (zag C_is_place hr (by omega) (by rfl) (pa_c (pv 0) zab)) (zcm (zag C_is_set hr (by omega) (by rfl) (pa_c (pv 0) zab)))))), ?_⟩
  refine za3 [some x] rfl ?_
  trivial
  refine ⟨x, k, rfl, hk, hz, fun H1 g1 => ⟨_, rfl, ite2 (fun c => ?_) (fun c => ⟨x, k, rfl, hk.same g1, hz, fun H2 g2 => ?_⟩)⟩⟩
  · have h := q H1 g1
    rw [show isName x = true by unfold isName; rw [c, Bool.true_or]] at h
    exact h
  · have h := q H2 (g1.trans g2)
    rw [show isName x = isNm x GREAT by unfold isName; rw [Bool.eq_false_iff.mpr c, Bool.false_or]] at h
    exact h
abbrev s_is_frame : Stmt := top 21
theorem zhd : FnScope ["thing"] ["thing"] (defScope s_is_frame) := ⟨rfl, rfl, rfl, by decide +kernel, rfl, by decide +kernel, by decide +kernel⟩
theorem zn1 (T : Txt K mg w tw rw fa cLeftovers cSayError cs) (d : Dfn K mg "is_frame" s_is_frame ["thing"]) (C_is_name : Cal P w K mg base 3 "is_name" ["thing"] zm3) : Cal P w K mg base 4 "is_frame" ["thing"] zpm := by
  refine d.cal zhd (fun vs H Q E h => ?_) (fun f cdv A outer s H vs Q E hr h => ?_)
  · obtain ⟨x, rfl, _⟩ := h
    rfl
  obtain ⟨x, rfl, ⟨⟨k, hk⟩, hz⟩, hxs, q⟩ := h
  refine ⟨_, (zac (zax (PW.pt (zej (zb4 (zbe (za4 zbq (by rfl) T.b_isinstance boot_isinstance (pa_c (pv 0) (pa_c (zbv (v := .ty "list") (by rfl) T.b_list boot_list (by rfl)) zab))))) (zc9 (zaj znq (za4 (zaq K) (by rfl) T.b_len boot_len (pa_c (pv 0) zab)) (zba (by rfl) T.g_MOST_NAMES) (nomark _))))) (zaf (zai zhk)) zak) (zaf (zai (zcn (za4 (zbf K rfl) (by rfl) T.b_all boot_all (pa_c (zbd ["name"] [] (CompOk.of rfl (by rfl) (by rfl)) (by rfl) (zbp K (pv 0)) (fun _ _ _ _ _ => (za9 (i := 0) (show List.Nodup (["name"] : List Str) by decide +kernel) (by rfl) (Or.inl (by rfl)))) (fun _ _ _ _ _ => zca) (fun _ _ _ _ _ => (zag C_is_name hr (by omega) (by rfl) (pa_c (pv 0) zab)))) zab)) (zcm (zbg za7 (za4 zfs (by rfl) T.b_len boot_len (pa_c (zir (zgu rfl) (by rfl) T.b_set boot_set (pa_c (pv 0) zab)) zab)) (za4 (zaq K) (by rfl) T.b_len boot_len (pa_c (pv 0) zab)) (nomark _))))))), ?_⟩
  refine za3 [some x] rfl ?_
  trivial
  refine ⟨k, hk, by decide, ?_⟩
  cases hk with
  | lst e =>
    rename_i a xs
    obtain ⟨hl, hy⟩ := hxs a xs rfl e
    have hS : SqL K H a xs := .of e
    have ef : frB H (.ref a) = frameB xs := by simp only [frB, e]
    rw [ef] at q
    refine iteF ⟨a, rfl, xs, .inl hS, ?_⟩
    refine ite2 (fun c => ?_) (fun c => ⟨a, rfl, ⟨xs, hS⟩, ?_⟩)
    · have c' := of_decide_eq_true c
      have h := q H (Same.refl H)
      rw [show frameB xs = false by unfold frameB; rw [decide_eq_false (by omega), Bool.false_and, Bool.false_and]] at h
      exact h
    have c' := of_decide_eq_false (Bool.eq_false_iff.mpr c)
    have ef2 : frameB xs = (xs.all isName && decide xs.Nodup) := by unfold frameB; rw [decide_eq_true (by omega), Bool.true_and]
    rw [ef2] at q
    refine zfp (K := K) (a := a) (xs := xs) (fun D i ys σ H' => Same H H' ∧ (∃ v, σ = [v]) ∧ ys = (xs.take i).map fun y => V.bl (isName y)) (zaa hl) (fun D hD => ⟨za8 hD _, ⟨none, rfl⟩, rfl⟩) (fun D i ys σ H' _ _ _ ⟨g, _⟩ => g.seq hS) ?_ ?_
    · rintro D i ys σ H' y hD hi hx hD' hys ⟨g, ⟨v, rfl⟩, rfl⟩
      trivial
      refine ⟨y, rfl, (hy y (List.mem_of_getElem? hx)).same g, fun H2 g2 => ?_⟩
      refine cstep (zaa hl) hi (g2 _ _ hD') hys ⟨fun b o e => ?_, ⟨_, rfl⟩, ?_⟩
      · rw [zan (zat e hD)]; exact g2 b o (g b o e)
      · rw [List.take_add_one, hx, List.map_append]
        rfl
    · rintro D ys σ H' hD hD' hys ⟨g, _, rfl⟩
      rw [List.take_of_length_le (Nat.le_refl _)] at hD'
      refine ⟨D, rfl, xs.map isName, .of (by rw [hD', List.map_map]; rfl), ?_⟩
      rw [List.all_map, show (id ∘ isName) = isName from rfl]
      refine ite2 (fun ca => ?_) (fun ca => ?_)
      · obtain ⟨ks, ek, nk⟩ := zey ca
        have lk : ks.length = xs.length := by rw [ek, List.length_map]
        refine ⟨a, rfl, ks, ek ▸ g.seq hS, by omega, fun b H3 n3 => ⟨ks, n3.at', by omega, a, rfl, xs, .inl (n3.g.seq (g.seq hS)), ?_⟩⟩
        have h := q _ (g.trans n3.g)
        rw [ca, Bool.true_and] at h
        have ed : decide xs.Nodup = decide (((onceK [] ks).length : Int) = (xs.length : Int)) := by
          refine decide_eq_decide.mpr ?_
          rw [nk, ← zle, lk]
          omega
        rw [ed] at h
        exact h
      · have h := q H' g
        rw [Bool.eq_false_iff.mpr ca, Bool.false_and] at h
        exact h
  | non => exact q H (Same.refl H)
  | bl b => exact q H (Same.refl H)
  | int i => exact q H (Same.refl H)
  | str z => exact q H (Same.refl H)
  | tup e =>
    have h := q H (Same.refl H)
    simp only [frB, e] at h
    exact h
  | dK e =>
    have h := q H (Same.refl H)
    simp only [frB, e] at h
    exact h
abbrev s_is_of_sort : Stmt := top 28
theorem ze8 : FnScope ["thing", "sort", "deepest"] ["thing", "sort", "deepest"] (defScope s_is_of_sort) := ⟨rfl, rfl, rfl, by decide +kernel, rfl, by decide +kernel, by decide +kernel⟩
theorem zlg {n k : Nat} (hk : 3 ≤ k) (T : Txt K mg w tw rw fa cLeftovers cSayError cs) (d : Dfn K mg "is_of_sort" s_is_of_sort ["thing", "sort", "deepest"]) (C_is_place : Cal P w K mg base 2 "is_place" ["thing"] (zef SMALL)) (C_is_set : Cal P w K mg base 2 "is_set" ["thing"] (zef GREAT)) (C_is_name : Cal P w K mg base 3 "is_name" ["thing"] zm3)
    (C_has_form : Cal P w K mg base k "has_form" ["thing", "deepest"] (ze4 n)) : Cal P w K mg base (k + 1) "is_of_sort" ["thing", "sort", "deepest"] (zg7 n) := by
  refine d.cal ze8 (fun vs H Q E h => ?_) (fun f cdv A outer s H vs Q E hr h => ?_)
  · obtain ⟨v, s, rfl, _⟩ := h
    rfl
  obtain ⟨v, so, rfl, ex, q⟩ := h
  refine ⟨_, (zac (zax (zaj za7 (pv 1) zad (nomark _)) (zaf (zai (zag C_is_place hr (by omega) (by rfl) (pa_c (pv 0) zab)))) zak) (zac (zax (zaj za7 (pv 1) zad (nomark _)) (zaf (zai (zag C_is_set hr (by omega) (by rfl) (pa_c (pv 0) zab)))) zak) (zac (zax (zaj za7 (pv 1) zad (nomark _)) (zaf (zai (zag C_is_name hr (by omega) (by rfl) (pa_c (pv 0) zab)))) zak) (zaf (zai (zag C_has_form hr (by omega) (by rfl) (pa_c (pv 0) (pa_c (pv 2) zab)))))))), ?_⟩
  refine za3 [some v, some (.str so), some (.int n)] rfl ?_
  trivial
  obtain ⟨⟨kd, hkd⟩, hz⟩ := ex.thing
  have e1 : ∀ b : Str, decide (V.str so = V.str b) = decide (so = b) := fun b => by simp
  unfold sortB at q
  refine ite2 (fun c => ?_) fun c => ?_
  · rw [if_pos (of_decide_eq_true c)] at q
    exact ⟨v, kd, rfl, hkd, hz, q⟩
  rw [if_neg (of_decide_eq_false (Bool.eq_false_iff.mpr c))] at q
  refine ite2 (fun c => ?_) fun c => ?_
  · rw [if_pos (of_decide_eq_true c)] at q
    exact ⟨v, kd, rfl, hkd, hz, q⟩
  rw [if_neg (of_decide_eq_false (Bool.eq_false_iff.mpr c))] at q
  refine ite2 (fun c => ?_) fun c => ?_
  · rw [if_pos (of_decide_eq_true c)] at q
    exact ⟨v, rfl, ⟨⟨kd, hkd⟩, hz⟩, q⟩
  rw [if_neg (of_decide_eq_false (Bool.eq_false_iff.mpr c))] at q
  exact ⟨v, rfl, ex, q⟩
abbrev s_has_form : Stmt := top 29
theorem sc_has_form : FnScope ["thing", "deepest", "sorts"] ["thing", "deepest"] (defScope s_has_form) := ⟨rfl, rfl, rfl, by decide +kernel, rfl, by decide +kernel, by decide +kernel⟩
theorem zlj {n k : Nat} (T : Txt K mg w tw rw fa cLeftovers cSayError cs) (d : Dfn K mg "has_form" s_has_form ["thing", "deepest"]) (C_is_of_sort : Cal P w K mg base k "is_of_sort" ["thing", "sort", "deepest"] (sp_sort' n)) : Cal P w K mg base (k + 1) "has_form" ["thing", "deepest"] (ze4 n) := by
  refine d.cal sc_has_form (fun vs H Q E h => ?_) (fun f cdv A outer s H vs Q E hr h => ?_)
  · obtain ⟨v, rfl, _⟩ := h
    rfl
  obtain ⟨v, rfl, ex, q⟩ := h
  refine ⟨_, (zac (zax (PW.pt (zej (zaj za7 (pv 1) zae (nomark _)) (zej (zb4 (zbe (za4 zbq (by rfl) T.b_isinstance boot_isinstance (pa_c (pv 0) (pa_c (zbv (v := .ty "tuple") (by rfl) T.b_tuple boot_tuple (by rfl)) zab))))) (zc9 (zaj za7 (za4 (zaq K) (by rfl) T.b_len boot_len (pa_c (pv 0) zab)) zae (nomark _)))))) (zaf (zai zhk)) zak) (zac (zax (PW.pt (zej (zb4 (zbe (za4 zbq (by rfl) T.b_isinstance boot_isinstance (pa_c (zap (zah K) (pv 0) zae (fun _ _ => rfl)) (pa_c (zbv (v := .ty "str") (by rfl) T.b_str boot_str (by rfl)) zab))))) (zc9 (zaj (zgg K w) (zap (zah K) (pv 0) zae (fun _ _ => rfl)) (zba (by rfl) T.g_FORMS) (by with_unfolding_all rfl))))) (zaf (zai zhk)) zak) (zac (zas (i := 2) sc_has_form.nd rfl (Or.inl rfl) (zap (zsc K w) (zba (by rfl) T.g_FORMS) (zap (zah K) (pv 0) zae (fun _ _ => rfl)) (fun _ _ => rfl))) (zac (zax (zaj zhl (za4 (zaq K) (by rfl) T.b_len boot_len (pa_c (pv 0) zab)) (zay ziu zae (za4 (zaq K) (by rfl) T.b_len boot_len (pa_c (pv 2) zab))) (nomark _)) (zaf (zai zhk)) zak) (zaf (zai (za4 (zbf K rfl) (by rfl) T.b_all boot_all (pa_c (zbd ["part", "sort"] [(1, "deepest")] (CompOk.of rfl (by rfl) (by rfl)) (by rfl) (zp7 K (by rfl) T.b_zip (pa_c (zdk (zik K) (pv 0) (zdv zae) zhh) (pa_c (pv 2) zab))) (fun _ _ _ _ _ => (zhj K (n := 2) rfl (zcg (za9 (i := 0) (show List.Nodup (["part", "sort", "deepest"] : List Str) by decide +kernel) (by rfl) (Or.inl (by rfl))) (zcg (za9 (i := 1) (show List.Nodup (["part", "sort", "deepest"] : List Str) by decide +kernel) (by rfl) (Or.inl (by rfl))) zhi)))) (fun _ _ _ _ _ => zca) (fun _ _ _ _ _ => (zag C_is_of_sort hr (by omega) (by rfl) (pa_c (pv 0) (pa_c (pv 1) (pa_c (zay zit (pv 2) zae) zab)))))) zab)))))))), ?_⟩
  refine za3 [some v, some (.int n), none] rfl ?_
  trivial
  cases n with
  | zero =>
    rw [decide_eq_true (show ((0 : Nat) : Int) = 0 from rfl)]
    exact iteT (q H (Same.refl H))
  | succ n =>
  rw [decide_eq_false (show ¬ ((n + 1 : Nat) : Int) = 0 by omega)]
  obtain ⟨⟨⟨kd, hkd⟩, hz⟩, hin⟩ := id ex
  refine iteF ⟨kd, hkd, by decide, ?_⟩
  cases hkd with
  | tup e =>
    rename_i a xs
    obtain ⟨hl, hx⟩ := hin a xs rfl e
    have hS : SqT K H a xs := .of e
    refine iteF ⟨a, rfl, xs, .inr hS, ?_⟩
    cases xs with
    | nil =>
      have h := q H (Same.refl H)
      simp only [formH, e] at h
      exact iteT h
    | cons x0 r =>
    rw [decide_eq_false (show ¬ (((x0 :: r).length : Nat) : Int) = 0 by rw [List.length_cons]; omega)]
    obtain ⟨⟨k0, hk0⟩, _⟩ := (hx x0 List.mem_cons_self).thing
    refine iteF ⟨a, rfl, _, hS, _, zaz, k0, hk0, by decide, ?_⟩
    cases hk0 with
    | str wd =>
      have q' : ∀ H', Same H H' → Q (.bl (match forms.lookup wd with | some ss => zipB (formH H n) r ss | none => false)) H' := fun H' g => by
        have h := q H' g
        simp only [formH, e] at h
        exact h
      obtain ⟨fm, hd, hf⟩ := T.f_FORMS.ex
      refine iteF ⟨a, rfl, _, hS, _, zaz, wd, rfl, fm, hd, ?_⟩
      rcases hf wd with ⟨ss, b, hls, hfw, hst⟩ | ⟨hls, hfw⟩
      · rw [hls] at q'
        replace q' : ∀ H', Same H H' → Q (.bl (zipB (formH H n) r ss)) H' := q'
        rw [hfw]
        refine iteF ⟨a, rfl, _, hS, _, zaz, wd, rfl, fm, hd, .ref b, hfw, a, rfl, _, .inr hS, b, rfl, _, .inr (hst H), ?_⟩
        rw [List.length_cons, List.length_map]
        by_cases hlen : r.length = ss.length
        · rw [decide_eq_true (show (((r.length + 1 : Nat)) : Int) = 1 + (ss.length : Int) by omega)]
          refine iteF ⟨a, rfl, _, hS, zf7 (by simp), fun p H1 n1 => ?_⟩
          have ec : cutL (V.str wd :: r) (some 1) none = r := by
            rw [show ((1 : Int)) = ((1 : Nat) : Int) from rfl, zd9]
            rfl
          rw [ec] at n1
          have lr : r.length ≤ 1000 := by rw [List.length_cons] at hl; omega
          refine ⟨b, rfl, ⟨_, .of n1.at'⟩, ⟨_, hst H1⟩, zsi (K := K) (a := p) (b := b) (xs := r) (ys := ss.map V.str) (fun σ => ∃ v1 v2, σ = [v1, v2, some (.int ((n + 1 : Nat) : Int))]) (fun i => .bl (sortB (formH H n) (r.getD i .non) (ss.getD i ""))) lr (by rw [List.length_map]; exact hlen) (.of n1.at') (hst H1) ⟨_, _, rfl⟩ ?_ ?_⟩
          · rintro D i σ G G' pp x y ex1 ey1 g hD hD' ⟨v1, v2, rfl⟩ nw
            rw [List.getElem?_map] at ey1
            obtain ⟨sx, es, rfl⟩ := Option.map_eq_some_iff.mp ey1
            have hi : i < r.length := (List.getElem?_eq_some_iff.mp ex1).1
            have mx : x ∈ r := List.mem_of_getElem? ex1
            have gx : Same H G' := n1.g.trans (g.trans nw.g)
            have exx := hx x (List.mem_cons_of_mem _ mx)
            trivial
            refine ⟨_, .of nw.at', rfl, _, _, rfl, _, _, rfl, rfl, ?_⟩
            have en : (((n + 1 : Nat) : Int) - 1) = (n : Int) := by omega
            rw [en]
            refine ⟨x, sx, rfl, exx.same gx, fun G2 g2 => zhu lr hi hD (g2 _ _ (nw.g _ _ hD')) (g.trans (nw.g.trans g2)) ⟨_, _, rfl⟩ ?_⟩
            have e1 : r.getD i .non = x := by rw [List.getD_eq_getElem?_getD, ex1]; rfl
            have e2 : ss.getD i "" = sx := by rw [List.getD_eq_getElem?_getD, es]; rfl
            rw [e1, e2]
            unfold sortB
            rw [zcj gx exx]
          · intro D G hD g eD
            refine ⟨D, rfl, (List.range r.length).map fun i => sortB (formH H n) (r.getD i .non) (ss.getD i ""), .of (by rw [eD, List.map_map]; rfl), ?_⟩
            have h := q' G (n1.g.trans g)
            rw [zep hlen] at h
            rw [List.all_map]
            exact h
        · rw [decide_eq_false (show ¬ (((r.length + 1 : Nat)) : Int) = 1 + (ss.length : Int) by omega)]
          have h := q' H (Same.refl H)
          rw [zh6 hlen] at h
          exact iteT h
      · rw [hls] at q'
        rw [hfw]
        exact iteT (q' H (Same.refl H))
    | _ =>
      have h := q H (Same.refl H)
      simp only [formH, e] at h
      exact iteT h
  | non => exact iteT (q H (Same.refl H))
  | bl b => exact iteT (q H (Same.refl H))
  | int i => exact iteT (q H (Same.refl H))
  | str z => exact iteT (q H (Same.refl H))
  | lst e =>
    have h := q H (Same.refl H)
    simp only [formH, e] at h
    exact iteT h
  | dK e =>
    have h := q H (Same.refl H)
    simp only [formH, e] at h
    exact iteT h
theorem zi2 (T : Txt K mg w tw rw fa cLeftovers cSayError cs) (d1 : Dfn K mg "is_of_sort" s_is_of_sort ["thing", "sort", "deepest"]) (d2 : Dfn K mg "has_form" s_has_form ["thing", "deepest"]) (C1 : Cal P w K mg base 2 "is_place" ["thing"] (zef SMALL)) (C2 : Cal P w K mg base 2 "is_set" ["thing"] (zef GREAT)) (C3 : Cal P w K mg base 3 "is_name" ["thing"] zm3) :
    ∀ n, Cal P w K mg base (2 * n + 4) "has_form" ["thing", "deepest"] (ze4 n) ∧ Cal P w K mg base (2 * n + 5) "is_of_sort" ["thing", "sort", "deepest"] (zg7 n)
  | 0 => by
    have c := zlj (n := 0) T d2 ((d1.never (sp := sp_sort' 0) fun vs H Q E h => h).mono (Nat.zero_le 3) : Cal P w K mg base 3 _ _ _)
    exact ⟨c, zlg (by decide) T d1 C1 C2 C3 c⟩
  | n + 1 => by
    have ih := zi2 T d1 d2 C1 C2 C3 n
    have c := zlj (n := n + 1) T d2 ih.2
    exact ⟨c, zlg (by omega) T d1 C1 C2 C3 c⟩
end
section
variable {P : Program} {w : World} {K : PySem.W.Frag} {mg : Str → Option Value} {base : Heap} {tw rw fa cLeftovers cSayError : Addr} {cs : List Addr}
abbrev s_inner_sayings : Stmt := top 30
theorem zdf : FnScope ["saying"] ["saying"] (defScope s_inner_sayings) := ⟨rfl, rfl, rfl, by decide +kernel, rfl, by decide +kernel, by decide +kernel⟩
theorem znv (T : Txt K mg w tw rw fa cLeftovers cSayError cs) (d : Dfn K mg "inner_sayings" s_inner_sayings ["saying"]) : Cal P w K mg base 1 "inner_sayings" ["saying"] zby := by
  refine d.cal zdf (fun vs H Q E h => ?_) (fun f cdv A outer s H vs Q E hr h => ?_)
  · obtain ⟨a, xs, rfl, _⟩ := h
    rfl
  obtain ⟨a, xs, rfl, e, hl, hk, q⟩ := h
  refine ⟨_, (zaf (zai (zbd ["thing"] [] (CompOk.of rfl (by rfl) (by rfl)) (by rfl) (zfg K (pv 0)) (fun _ _ _ _ _ => (za9 (i := 0) (show List.Nodup (["thing"] : List Str) by decide +kernel) (by rfl) (Or.inl (by rfl)))) (fun _ _ _ _ _ => (ziq (zbe (za4 zbq (by rfl) T.b_isinstance boot_isinstance (pa_c (pv 0) (pa_c (zbv (v := .ty "tuple") (by rfl) T.b_tuple boot_tuple (by rfl)) zab)))))) (fun _ _ _ _ _ => (pv 0))))), ?_⟩
  refine za3 [some (.ref a)] rfl ?_
  trivial
  have hS : SqT K H a xs := .of e
  refine ⟨⟨xs, hS⟩, zsj (fun σ => ∃ v, σ = [v]) (isT H) id hl hS ⟨_, rfl⟩ ?_ ?_⟩
  · rintro D i σ H' x hi hm hx g hD hD' ⟨v, rfl⟩
    obtain ⟨k, hk'⟩ := hk x hm
    trivial
    refine ⟨k, hk'.same g, by decide, ?_⟩
    rw [Kd.isT hk']
    cases ht : isT H x with
    | true => exact iteT (zhy hl hx ht hD hD' g ⟨_, rfl⟩ rfl)
    | false => exact iteF (zhz hx ht hD' g ⟨_, rfl⟩)
  · intro D H' hD g hD'
    rw [List.map_id] at hD'
    exact q D H' hD g hD'
abbrev s_is_bare : Stmt := top 31
theorem zjb : FnScope ["saying"] ["saying"] (defScope s_is_bare) := ⟨rfl, rfl, rfl, by decide +kernel, rfl, by decide +kernel, by decide +kernel⟩
theorem zlh (T : Txt K mg w tw rw fa cLeftovers cSayError cs) (d : Dfn K mg "is_bare" s_is_bare ["saying"]) (C_inner_sayings : Cal P w K mg base 1 "inner_sayings" ["saying"] zby) : Cal P w K mg base 2 "is_bare" ["saying"] zb6 := by
  refine d.cal zjb (fun vs H Q E h => ?_) (fun f cdv A outer s H vs Q E hr h => ?_)
  · obtain ⟨v, s, rfl, _⟩ := h
    rfl
  obtain ⟨v, sy, rfl, r, q⟩ := h
  have hu := zjs hr 8 (by decide)
  refine ⟨_, (zaf (zai (zbg (zoy hu) (zag C_inner_sayings hr (by omega) (by rfl) (pa_c (pv 0) zab)) (zao zab) (nomark _)))), ?_⟩
  refine za3 [some v] rfl ?_
  trivial
  obtain ⟨a, xs, rfl, e, hl, hk, hp⟩ := r.items
  refine ⟨a, xs, rfl, e, by omega, hk, fun D H1 hD g1 eD => ⟨by decide, fun p H2 n2 => ⟨_, (zna (k := 0) (.of (n2.g _ _ eD)) n2.lst).up (by decide), ?_⟩⟩⟩
  have h := q H2 (g1.trans n2.g)
  have eb : sy.isBare = decide (xs.filter (isT H) = []) := by
    generalize xs.filter (isT H) = ys at hp
    cases sy with
    | bare w n m => cases hp; rfl
    | neg s => cases hp; rfl
    | two w s t => cases hp; rfl
    | qu w n s => cases hp; rfl
  rw [eb] at h
  exact h
abbrev s_count_parts : Stmt := top 32
theorem zeh : FnScope ["saying"] ["saying"] (defScope s_count_parts) := ⟨rfl, rfl, rfl, by decide +kernel, rfl, by decide +kernel, by decide +kernel⟩
theorem zn3 {n : Nat} (T : Txt K mg w tw rw fa cLeftovers cSayError cs) (d : Dfn K mg "count_parts" s_count_parts ["saying"]) (C_inner_sayings : Cal P w K mg base 1 "inner_sayings" ["saying"] zby) (C_count_parts : Cal P w K mg base (n + 1) "count_parts" ["saying"] (zdj n)) : Cal P w K mg base (n + 1 + 1) "count_parts" ["saying"] (zdj (n + 1)) := by
  refine d.cal zeh (fun vs H Q E h => ?_) (fun f cdv A outer s H vs Q E hr h => ?_)
  · obtain ⟨v, s, rfl, _⟩ := h
    rfl
  obtain ⟨v, sy, rfl, r, hd, q⟩ := h
  refine ⟨_, (zaf (zai (zay ziu zae (za4 (zcx K rfl) (by rfl) T.b_sum boot_sum (pa_c (zbd ["inner"] [] (CompOk.of rfl (by rfl) (by rfl)) (by rfl) (zbp K (zag C_inner_sayings hr (by omega) (by rfl) (pa_c (pv 0) zab))) (fun _ _ _ _ _ => (za9 (i := 0) (show List.Nodup (["inner"] : List Str) by decide +kernel) (by rfl) (Or.inl (by rfl)))) (fun _ _ _ _ _ => zca) (fun _ _ _ _ _ => (zag C_count_parts hr (by omega) (by rfl) (pa_c (pv 0) zab)))) zab))))), ?_⟩
  refine za3 [some v] rfl ?_
  trivial
  obtain ⟨a, xs, rfl, e, hl, hk, hp⟩ := r.items
  refine ⟨a, xs, rfl, e, by omega, hk, fun D1 H1 hD1 g1 e1 => ⟨D1, rfl, ⟨_, .of e1⟩, ?_⟩⟩
  have hpl := Paired.len hp
  have l3 : (xs.filter (isT H)).length ≤ 1000 := Nat.le_trans (List.length_filter_le _ _) (by omega)
  refine zmo (K := K) (a := D1) (xs := xs.filter (isT H)) (fun σ => ∃ v, σ = [v]) (fun i => .int (((sy.inner[i]?).map Sy.parts).getD 0)) l3 (.of e1) ⟨_, rfl⟩ ?_ ?_
  · rintro D i σ H' x hi hx g hD hD' ⟨v, rfl⟩
    obtain ⟨t, et, rt⟩ := Paired.at hp hx
    have dt := (zd5 (List.mem_of_getElem? et)).1
    trivial
    refine ⟨x, t, rfl, rt.same (g1.trans g), by omega, fun H2 g2 => zhu l3 hi hD (g2 _ _ hD') (g.trans g2) ⟨_, rfl⟩ (by rw [et]; rfl)⟩
  · intro D H' hD g eD
    refine ⟨D, rfl, (List.range (xs.filter (isT H)).length).map fun i => (((sy.inner[i]?).map Sy.parts).getD 0 : Nat), .of (by rw [eD, List.map_map]; rfl), ?_⟩
    have h := q H' (g1.trans g)
    have es : (1 : Int) + ((List.range (xs.filter (isT H)).length).map fun i => ((((sy.inner[i]?).map Sy.parts).getD 0 : Nat) : Int)).sum = (sy.parts : Int) := by
      rw [hpl]
      cases sy with
      | bare w n m => rfl
      | neg s => show (1 : Int) + ((s.parts : Int) + 0) = ((s.parts + 1 : Nat) : Int); omega
      | two w s t => show (1 : Int) + ((s.parts : Int) + ((t.parts : Int) + 0)) = ((s.parts + t.parts + 1 : Nat) : Int); omega
      | qu w n s => show (1 : Int) + ((s.parts : Int) + 0) = ((s.parts + 1 : Nat) : Int); omega
    rw [es]
    exact h
theorem zg4 (T : Txt K mg w tw rw fa cLeftovers cSayError cs) (d : Dfn K mg "count_parts" s_count_parts ["saying"]) (C1 : Cal P w K mg base 1 "inner_sayings" ["saying"] zby) : ∀ n, Cal P w K mg base (n + 1) "count_parts" ["saying"] (zdj n)
  | 0 => (d.never fun vs H Q E h => by obtain ⟨v, s, _, _, hd, _⟩ := h; exact absurd hd (Nat.not_lt_zero _)).mono (by decide)
  | n + 1 => zn3 T d C1 (zg4 T d C1 n)
abbrev s_is_any_saying : Stmt := top 33
theorem zde : FnScope ["thing"] ["thing"] (defScope s_is_any_saying) := ⟨rfl, rfl, rfl, by decide +kernel, rfl, by decide +kernel, by decide +kernel⟩
theorem zln (T : Txt K mg w tw rw fa cLeftovers cSayError cs) (d : Dfn K mg "is_any_saying" s_is_any_saying ["thing"]) (C_has_form : Cal P w K mg base 28 "has_form" ["thing", "deepest"] (ze4 12)) (C_count_parts : Cal P w K mg base 14 "count_parts" ["saying"] (zdj 13)) : Cal P w K mg base 29 "is_any_saying" ["thing"] zf6 := by
  refine d.cal zde (fun vs H Q E h => ?_) (fun f cdv A outer s H vs Q E hr h => ?_)
  · obtain ⟨v, rfl, _⟩ := h
    rfl
  obtain ⟨v, rfl, ex, q⟩ := h
  refine ⟨_, (zaf (zai (zcn (zag C_has_form hr (by omega) (by rfl) (pa_c (pv 0) (pa_c (zba (by rfl) T.g_DEEPEST) zab))) (zcm (zbg zru (zag C_count_parts hr (by omega) (by rfl) (pa_c (pv 0) zab)) (zba (by rfl) T.g_MOST_PARTS) (nomark _)))))), ?_⟩
  refine za3 [some v] rfl ?_
  trivial
  refine ⟨v, rfl, ex, fun H1 g1 => ⟨_, rfl, ite2 (fun c => ?_) fun c => q false H1 g1 ⟨fun z => (by cases z), fun ⟨s, r, hw, hd, _⟩ => absurd (zfa r hw hd) c⟩⟩⟩
  obtain ⟨sy, r, hw, hd⟩ := zb3 c
  refine ⟨v, sy, rfl, r.same g1, by omega, fun H2 g2 => ⟨_, rfl, q _ H2 (g1.trans g2) ⟨fun z => ⟨sy, r, hw, hd, ?_⟩, fun ⟨s, r', _, _, hp⟩ => ?_⟩⟩⟩
  · have := of_decide_eq_true z
    omega
  · rw [r.det r']
    exact decide_eq_true (by omega)
abbrev s_is_let : Stmt := top 34
theorem zkv : FnScope ["saying", "known", "barred", "most"] ["saying", "known", "barred", "most"] (defScope s_is_let) := ⟨rfl, rfl, rfl, by decide +kernel, rfl, by decide +kernel, by decide +kernel⟩
theorem zrz {n : Nat} {bw : List Str} (T : Txt K mg w tw rw fa cLeftovers cSayError cs) (d : Dfn K mg "is_let" s_is_let ["saying", "known", "barred", "most"]) (C_inner_sayings : Cal P w K mg base 1 "inner_sayings" ["saying"] zby) (C_is_bare : Cal P w K mg base 2 "is_bare" ["saying"] zb6)
    (C_is_let : Cal P w K mg base (n + 2) "is_let" ["saying", "known", "barred", "most"] (zf1 K bw n)) : Cal P w K mg base (n + 1 + 2) "is_let" ["saying", "known", "barred", "most"] (zf1 K bw (n + 1)) := by
  refine d.cal zkv (fun vs H Q E h => ?_) (fun f cdv A outer s H vs Q E hr h => ?_)
  · obtain ⟨v, a, ba, s, tl, mo, rfl, _⟩ := h
    rfl
  obtain ⟨v, a, ba, sy, tl, mo, rfl, r, hd, ea, hl, hb, q⟩ := h
  refine ⟨_, (zac (zax (PW.pt (zej (zaj znq (za4 (zaq K) (by rfl) T.b_len boot_len (pa_c (pv 1) zab)) (pv 3) (nomark _)) (zc9 (zaj (zbo K) (zap (zah K) (pv 0) zae (fun _ _ => rfl)) (pv 2) (by with_unfolding_all rfl))))) (zaf (zai zhk)) zak) (zac (zax (zaj (zbo K) (zap (zah K) (pv 0) zae (fun _ _ => rfl)) (zba (by rfl) T.g_TELLING_WORDS) (by with_unfolding_all rfl)) (zaf (zai (zcn (zbg (zfi K) (zap (zah K) (pv 0) zae (fun _ _ => rfl)) (pv 1) (by with_unfolding_all rfl)) (zcm (zag C_is_let hr (by omega) (by rfl) (pa_c (zap (zah K) (pv 0) zae (fun _ _ => rfl)) (pa_c (zay zbl (pv 1) (zao (pa_c (zap (zah K) (pv 0) zae (fun _ _ => rfl)) zab))) (pa_c (pv 2) (pa_c (pv 3) zab))))))))) zak) (zac (zax (zbe (zag C_is_bare hr (by omega) (by rfl) (pa_c (pv 0) zab))) (zaf (zai (za4 (zbf K rfl) (by rfl) T.b_all boot_all (pa_c (zbd ["name"] [(1, "known")] (CompOk.of rfl (by rfl) (by rfl)) (by rfl) (zfg K (zdk (zik K) (pv 0) (zdv zae) zhh)) (fun _ _ _ _ _ => (za9 (i := 0) (show List.Nodup (["name", "known"] : List Str) by decide +kernel) (by rfl) (Or.inl (by rfl)))) (fun _ _ _ _ _ => zca) (fun _ _ _ _ _ => (zbg (zbo K) (pv 0) (pv 1) (by with_unfolding_all rfl)))) zab)))) zak) (zaf (zai (za4 (zbf K rfl) (by rfl) T.b_all boot_all (pa_c (zbd ["inner"] [(1, "known"), (2, "barred"), (3, "most")] (CompOk.of rfl (by rfl) (by rfl)) (by rfl) (zbp K (zag C_inner_sayings hr (by omega) (by rfl) (pa_c (pv 0) zab))) (fun _ _ _ _ _ => (za9 (i := 0) (show List.Nodup (["inner", "known", "barred", "most"] : List Str) by decide +kernel) (by rfl) (Or.inl (by rfl)))) (fun _ _ _ _ _ => zca) (fun _ _ _ _ _ => (zag C_is_let hr (by omega) (by rfl) (pa_c (pv 0) (pa_c (pv 1) (pa_c (pv 2) (pa_c (pv 3) zab))))))) zab))))))), ?_⟩
  refine za3 [some v, some (.ref a), some (.ref ba), some (.int mo)] rfl ?_
  trivial
  rw [zqq] at q
  refine ⟨_, .inl (.of ea), ite2 (fun c => ?_) fun c => ?_⟩
  · have c' := of_decide_eq_true c
    rw [List.length_map] at c'
    have h := q H (Same.refl H)
    rw [decide_eq_false (by omega), Bool.false_and, Bool.false_and] at h
    exact h
  have c' := of_decide_eq_false (Bool.eq_false_iff.mpr c)
  rw [List.length_map] at c'
  rw [decide_eq_true (by omega), Bool.true_and] at q
  have tw' := T.t_TELLING_WORDS H
  obtain ⟨p0, rest, ev, e0⟩ : ∃ p rest, v = .ref p ∧ H p = some (.tup (.str (wordOf sy) :: rest)) := by
    cases r with
    | bare hw e => exact ⟨_, _, rfl, e⟩
    | neg e hx => exact ⟨_, _, rfl, e⟩
    | two hw e h1 h2 => exact ⟨_, _, rfl, e⟩
    | qu hw e hx => exact ⟨_, _, rfl, e⟩
  subst ev
  refine ⟨p0, rfl, _, .of e0, _, zaz, _, .inr (hb H), rfl, zd7 bw, ?_⟩
  rw [zdm]
  by_cases hwb : wordOf sy ∈ bw
  · rw [decide_eq_true hwb]
    have h := q H (Same.refl H)
    rw [decide_eq_false (fun z => z hwb), Bool.false_and] at h
    exact iteT h
  rw [decide_eq_false hwb]
  rw [decide_eq_true hwb, Bool.true_and] at q
  refine iteF ⟨p0, rfl, _, .of e0, _, zaz, _, .inr tw', rfl, rfl, ?_⟩
  have other : (∀ w n t, sy ≠ .qu w n t) → sy.isBare = false → ∀ H1, Same H H1 → zby [.ref p0] H1 (fun x H1 => ∃ a_1, x = V.ref a_1 ∧ (∃ xs, SqL K H1 a_1 xs) ∧
      cBody ["inner"] [(1, "known"), (2, "barred"), (3, "most")] (gName 0) tYes (tCall (zf1 K bw n) [] E0 (tCons (tVar 0) (tCons (tVar 1) (tCons (tVar 2) (tCons (tVar 3) tNil)))))
        [some (.ref p0), some (V.ref a), some (V.ref ba), some (V.int mo)] (fun x H1 => ∃ p, x = V.ref p ∧ ∃ x, SqL K H1 p (List.map V.bl x) ∧ Q (V.bl (x.all id)) H1) (Itl K a_1) H1) E0 := by
    intro nq hbare H1 g1
    obtain ⟨p1, xs, ev', e, hl3, hk, pr⟩ := r.items
    cases ev'
    rw [zjn nq hbare] at q
    have eis : xs.filter (isT H1) = xs.filter (isT H) := List.filter_congr fun y hy => by
      obtain ⟨k, z⟩ := hk y hy
      rw [← Kd.isT z, ← Kd.isT (z.same g1)]
    have hpl := Paired.len pr
    have l3 : (xs.filter (isT H)).length ≤ 1000 := Nat.le_trans (List.length_filter_le _ _) (by omega)
    refine ⟨p0, xs, rfl, g1 _ _ e, by omega, fun y hy => let ⟨k, z⟩ := hk y hy; ⟨k, z.same g1⟩, fun D1 H2 hD1 g2 e2 => ⟨D1, rfl, ⟨_, .of e2⟩, ?_⟩⟩
    rw [eis] at e2
    have g12 := g1.trans g2
    refine zmo (K := K) (a := D1) (xs := xs.filter (isT H)) (fun σ => ∃ v, σ = [v, some (V.ref a), some (V.ref ba), some (V.int mo)]) (fun i => .bl (((sy.inner[i]?).map (letB bw mo tl)).getD true)) l3 (.of e2) ⟨_, rfl⟩ ?_ ?_
    · rintro D i σ H' x hi hx g hD hD' ⟨v, rfl⟩
      obtain ⟨t, et, rt⟩ := Paired.at pr hx
      have dt := (zd5 (List.mem_of_getElem? et)).1
      have gx := g12.trans g
      trivial
      exact ⟨x, a, ba, t, tl, mo, rfl, rt.same gx, by omega, gx _ _ ea, by omega, hb, fun H3 g3 => zhu l3 hi hD (g3 _ _ hD') (g.trans g3) ⟨_, rfl⟩ (by rw [et]; rfl)⟩
    · intro D H' hD g eD
      refine ⟨D, rfl, (List.range (xs.filter (isT H)).length).map fun i => ((sy.inner[i]?).map (letB bw mo tl)).getD true, .of (by rw [eD, List.map_map]; rfl), ?_⟩
      rw [hpl, zce]
      exact q H' (g12.trans g)
  cases r with
  | qu hw e hx =>
    rename_i wd nm x t
    rw [show wordOf (Sy.qu wd nm t) = wd from rfl, zj9 wd hw]
    replace q : ∀ H', Same H H' → Q (.bl (decide (nm ∉ tl) && letB bw mo (tl ++ [nm]) t)) H' := q
    have dn := zoo wd nm t
    refine iteT ⟨p0, rfl, _, .of e, _, zal (j := 1) rfl, _, .inl (.of ea), rfl, zd7 tl, ?_⟩
    rw [zdm]
    by_cases hn : nm ∈ tl
    · rw [decide_eq_true hn]
      have h := q H (Same.refl H)
      rw [decide_eq_false (fun z => z hn), Bool.false_and] at h
      exact iteF h
    rw [decide_eq_false hn]
    rw [decide_eq_true hn, Bool.true_and] at q
    refine iteT ⟨p0, rfl, _, .of e, _, zal (j := 2) rfl, p0, rfl, _, .of e, _, zal (j := 1) rfl, zaa (by simp), fun p1 H1 n1 => ⟨_, n1.g _ _ ea, _, n1.at', zaa (by rw [List.length_map, List.length_singleton]; omega), fun p2 H2 n2 => ?_⟩⟩
    have g2 := n1.g.trans n2.g
    exact ⟨x, p2, ba, t, tl ++ [nm], mo, rfl, hx.same g2, by omega, by rw [n2.at', List.map_append]; rfl, by rw [List.length_append, List.length_singleton]; omega, hb, fun H3 g3 => q H3 (g2.trans g3)⟩
  | neg e hx =>
    rw [show wordOf (Sy.neg _) = ("not" : Str) from rfl, zn7]
    exact iteF ⟨_, _, rfl, .neg e hx, fun H1 g1 => ⟨_, rfl, iteF (other (fun _ _ _ z => by cases z) rfl H1 g1)⟩⟩
  | two hw e h1 h2 =>
    rename_i wd x y t1 t2
    rw [show wordOf (Sy.two wd t1 t2) = wd from rfl, zl0 wd hw]
    exact iteF ⟨_, _, rfl, .two hw e h1 h2, fun H1 g1 => ⟨_, rfl, iteF (other (fun _ _ _ z => by cases z) rfl H1 g1)⟩⟩
  | bare hw e =>
    rename_i wd nm m
    rw [show wordOf (Sy.bare wd nm m) = wd from rfl, zms wd hw]
    replace q : ∀ H', Same H H' → Q (.bl (decide (nm ∈ tl) && decide (m ∈ tl))) H' := q
    refine iteF ⟨_, _, rfl, .bare hw e, fun H1 g1 => ⟨_, rfl, iteT ⟨p0, rfl, _, .of (g1 _ _ e), zf7 (by simp), fun p H2 n2 => ⟨⟨_, .of n2.at'⟩, ?_⟩⟩⟩⟩
    have ec : cutL [V.str wd, V.str nm, V.str m] (some 1) none = [nm, m].map V.str := by
      rw [show ((1 : Int)) = ((1 : Nat) : Int) from rfl, zd9]
      rfl
    rw [ec] at n2
    have g := g1.trans n2.g
    refine zmm (K := K) (a := p) (xs := [nm, m].map V.str) (fun σ => ∃ v, σ = [v, some (.ref a)]) (fun y => .bl (inV y (tl.map V.str))) (by simp) (.of n2.at') ⟨_, rfl⟩ ?_ ?_
    · rintro D i σ H' x hi hm hx g' hD hD' ⟨v, rfl⟩
      have fx : flatV x = true := by
        obtain ⟨z, _, rfl⟩ := List.mem_map.mp hm
        rfl
      trivial
      exact ⟨_, .inl (.of (g' _ _ (g _ _ ea))), fx, zd7 tl, zhx (by simp) hx hD hD' g' ⟨_, rfl⟩ rfl⟩
    · intro D H' hD g' hD'
      refine ⟨D, rfl, [decide (nm ∈ tl), decide (m ∈ tl)], .of ?_, ?_⟩
      · rw [hD']
        show some (HO.lst [.bl (inV (.str nm) (tl.map V.str)), .bl (inV (.str m) (tl.map V.str))]) = _
        rw [zdm, zdm]
        rfl
      · have h := q H' (g.trans g')
        rw [show [decide (nm ∈ tl), decide (m ∈ tl)].all id = (decide (nm ∈ tl) && (decide (m ∈ tl) && true)) from rfl, Bool.and_true]
        exact h
theorem zmv {bw : List Str} (T : Txt K mg w tw rw fa cLeftovers cSayError cs) (d : Dfn K mg "is_let" s_is_let ["saying", "known", "barred", "most"]) (C1 : Cal P w K mg base 1 "inner_sayings" ["saying"] zby) (C2 : Cal P w K mg base 2 "is_bare" ["saying"] zb6) :
    ∀ n, Cal P w K mg base (n + 2) "is_let" ["saying", "known", "barred", "most"] (zf1 K bw n)
  | 0 => (d.never fun vs H Q E h => by obtain ⟨v, a, ba, s, tl, mo, _, _, hd, _⟩ := h; exact absurd hd (Nat.not_lt_zero _)).mono (by decide)
  | n + 1 => zrz T d C1 C2 (zmv T d C1 C2 n)
abbrev s_is_saying : Stmt := top 35
theorem zgb : FnScope ["thing", "frame"] ["thing", "frame"] (defScope s_is_saying) := ⟨rfl, rfl, rfl, by decide +kernel, rfl, by decide +kernel, by decide +kernel⟩
theorem znu (T : Txt K mg w tw rw fa cLeftovers cSayError cs) (d : Dfn K mg "is_saying" s_is_saying ["thing", "frame"]) (C_is_frame : Cal P w K mg base 4 "is_frame" ["thing"] zpm) (C_is_any_saying : Cal P w K mg base 29 "is_any_saying" ["thing"] zf6)
    (C_is_let : Cal P w K mg base 15 "is_let" ["saying", "known", "barred", "most"] (zf1 K treeWords 13)) : Cal P w K mg base 30 "is_saying" ["thing", "frame"] (zie treeWords 4) := by
  refine d.cal zgb (fun vs H Q E h => ?_) (fun f cdv A outer s H vs Q E hr h => ?_)
  · obtain ⟨v, fv, rfl, _⟩ := h
    rfl
  obtain ⟨v, fv, rfl, ex, tf, hf, q⟩ := h
  refine ⟨_, (zaf (zai (zcn (zag C_is_frame hr (by omega) (by rfl) (pa_c (pv 1) zab)) (zcn (zag C_is_any_saying hr (by omega) (by rfl) (pa_c (pv 0) zab)) (zcm (zag C_is_let hr (by omega) (by rfl) (pa_c (pv 0) (pa_c (pv 1) (pa_c (zba (by rfl) T.g_TREE_WORDS) (pa_c (zba (by rfl) T.g_MOST_NAMES) zab)))))))))), ?_⟩
  refine za3 [some v, some fv] rfl ?_
  trivial
  refine ⟨fv, rfl, tf, hf, fun H1 g1 => ⟨_, rfl, ite2 (fun c => ?_) fun c => q false H1 g1 ⟨fun z => (by cases z), fun ⟨a, tl, s, ev, e, hfr, _⟩ => absurd (show frB H fv = true by rw [ev]; simp only [frB, e]; exact hfr) c⟩⟩⟩
  obtain ⟨a, tl, rfl, e, hfr, h4⟩ := zo6 c
  refine ⟨v, rfl, ex.same g1, fun b H2 g2 hb => ⟨_, rfl, ?_⟩⟩
  have back : (∃ s, AnySay H1 v s) ↔ ∃ s, AnySay H v s := ⟨fun ⟨s, r, hw, hd, hp⟩ => by
      have h1 := zfa r hw hd
      rw [zcj g1 ex] at h1
      obtain ⟨s', r', hw', hd'⟩ := zb3 h1
      rw [r.det (r'.same g1)] at hp
      exact ⟨s', r', hw', hd', hp⟩, fun ⟨s, r, hw, hd, hp⟩ => ⟨s, r.same g1, hw, hd, hp⟩⟩
  rw [back] at hb
  refine ite2 (fun cb => ?_) fun cb => q false H2 (g1.trans g2) ⟨fun z => (by cases z), fun ⟨_, _, s, _, _, _, as, _⟩ => absurd (hb.mpr ⟨s, as⟩) cb⟩
  obtain ⟨sy, as⟩ := hb.mp cb
  obtain ⟨r, hw, hd, hp⟩ := id as
  refine ⟨v, a, rw, sy, tl, 4, rfl, r.same (g1.trans g2), by omega, g2 _ _ (g1 _ _ e), by omega, T.t_TREE_WORDS, fun H3 g3 => q _ H3 (g1.trans (g2.trans g3)) ⟨fun z => ⟨a, tl, sy, rfl, e, hfr, as, z⟩, fun ⟨a', tl', s', ev, e', _, as', z⟩ => ?_⟩⟩
  cases ev
  rw [e] at e'
  have et : tl = tl' := by
    have := (Option.some.inj e')
    exact zdi (HO.lst.inj this)
  subst et
  rw [r.det as'.1]
  exact z
end
section
variable {P : Program} {w : World} {K : PySem.W.Frag} {mg : Str → Option Value} {base : Heap} {tw rw fa cLeftovers cSayError : Addr} {cs : List Addr}
abbrev s_is_whole : Stmt := top 45
theorem zhb : FnScope ["thing"] ["thing"] (defScope s_is_whole) := ⟨rfl, rfl, rfl, by decide +kernel, rfl, by decide +kernel, by decide +kernel⟩
theorem zlf (T : Txt K mg w tw rw fa cLeftovers cSayError cs) (d : Dfn K mg "is_whole" s_is_whole ["thing"]) : Cal P w K mg base 1 "is_whole" ["thing"] zf0 := by
  refine d.cal zhb (fun vs H Q E h => ?_) (fun f cdv A outer s H vs Q E hr h => ?_)
  · obtain ⟨v, rfl, _⟩ := h
    rfl
  obtain ⟨v, rfl, h⟩ := h
  refine ⟨_, (zaf (zai (zcn (za4 zbq (by rfl) T.b_isinstance boot_isinstance (pa_c (pv 0) (pa_c (zbv (v := .ty "int") (by rfl) T.b_int boot_int (by rfl)) zab))) (zcm (zk5 (za4 zbq (by rfl) T.b_isinstance boot_isinstance (pa_c (pv 0) (pa_c (zbv (v := .ty "bool") (by rfl) T.b_bool boot_bool (by rfl)) zab)))))))), ?_⟩
  refine za3 [some v] rfl ?_
  trivial
  rcases h with ⟨r, rfl, q⟩ | ⟨k, kd, nk, q⟩
  · exact ⟨_, .int r, by decide, iteT ⟨_, .int r, by decide, q⟩⟩
  · refine ⟨_, kd, by decide, ?_⟩
    cases kd with
    | bl b => exact iteT ⟨_, .bl b, by decide, q⟩
    | int => exact absurd rfl nk
    | _ => exact iteF q
abbrev s_is_below : Stmt := top 46
theorem zhe : FnScope ["thing", "bound"] ["thing", "bound"] (defScope s_is_below) := ⟨rfl, rfl, rfl, by decide +kernel, rfl, by decide +kernel, by decide +kernel⟩
theorem zlm (T : Txt K mg w tw rw fa cLeftovers cSayError cs) (d : Dfn K mg "is_below" s_is_below ["thing", "bound"]) (C_is_whole : Cal P w K mg base 1 "is_whole" ["thing"] zf0) : Cal P w K mg base 2 "is_below" ["thing", "bound"] zf5 := by
  refine d.cal zhe (fun vs H Q E h => ?_) (fun f cdv A outer s H vs Q E hr h => ?_)
  · obtain ⟨v, n, rfl, _⟩ := h
    rfl
  obtain ⟨v, n, rfl, h⟩ := h
  refine ⟨_, (zaf (zai (zcn (zag C_is_whole hr (by omega) (by rfl) (pa_c (pv 0) zab)) (zcm (zno zru zrt zae (pv 0) (pv 1)))))), ?_⟩
  refine za3 [some v, some (.int n)] rfl ?_
  trivial
  rcases h with ⟨r, rfl, h0, h1, q⟩ | ⟨⟨r, rfl, hn⟩ | ⟨k, kd, nk⟩, q⟩
  · refine ⟨_, rfl, .inl ⟨r, rfl, _, rfl, iteT ⟨r, rfl, ?_⟩⟩⟩
    rw [decide_eq_true h0]
    refine iteT ⟨r, rfl, ?_⟩
    rw [decide_eq_true h1]
    exact q
  · refine ⟨_, rfl, .inl ⟨r, rfl, _, rfl, iteT ⟨r, rfl, ?_⟩⟩⟩
    by_cases h0 : 0 ≤ r
    · rw [decide_eq_true h0]
      refine iteT ⟨r, rfl, ?_⟩
      rw [decide_eq_false (fun h1 => hn ⟨h0, h1⟩)]
      exact q
    · rw [decide_eq_false h0]
      exact iteF q
  · exact ⟨_, rfl, .inr ⟨k, kd, nk, _, rfl, iteF q⟩⟩
abbrev s_is_letter : Stmt := top 48
theorem zgc : FnScope ["thing", "tracks"] ["thing", "tracks"] (defScope s_is_letter) := ⟨rfl, rfl, rfl, by decide +kernel, rfl, by decide +kernel, by decide +kernel⟩
theorem zhm (T : Txt K mg w tw rw fa cLeftovers cSayError cs) (d : Dfn K mg "is_letter" s_is_letter ["thing", "tracks"]) (C_is_below : Cal P w K mg base 2 "is_below" ["thing", "bound"] zf5) : Cal P w K mg base 3 "is_letter" ["thing", "tracks"] zdo := by
  refine d.cal zgc (fun vs H Q E h => ?_) (fun f cdv A outer s H vs Q E hr h => ?_)
  · obtain ⟨r, k, rfl, _⟩ := h
    rfl
  obtain ⟨r, k, rfl, hk, q⟩ := h
  have hp2 : (1 : Int) * 2 ^ ((k : Nat) : Int).toNat = 2 ^ k := by rw [Int.one_mul, Int.toNat_natCast]
  refine ⟨_, (zaf (zai (zag C_is_below hr (by omega) (by rfl) (pa_c (pv 0) (pa_c (zay zlb zae (pv 1)) zab))))), ?_⟩
  refine za3 [some (.int r), some (nV k)] rfl ?_
  trivial
  refine ⟨⟨by omega, by omega, by decide⟩, _, _, rfl, ?_⟩
  rw [hp2]
  by_cases h : 0 ≤ r ∧ r < 2 ^ k
  · rw [decide_eq_true h] at q
    exact .inl ⟨r, rfl, h.1, h.2, q⟩
  · rw [decide_eq_false h] at q
    exact .inr ⟨.inl ⟨r, rfl, h⟩, q⟩
abbrev s_check_row : Stmt := top 49
theorem zgd : FnScope ["frame", "row"] ["frame", "row"] (defScope s_check_row) := ⟨rfl, rfl, rfl, by decide +kernel, rfl, by decide +kernel, by decide +kernel⟩
theorem zn4 (T : Txt K mg w tw rw fa cLeftovers cSayError cs) (d : Dfn K mg "check_row" s_check_row ["frame", "row"]) (C_is_letter : Cal P w K mg base 3 "is_letter" ["thing", "tracks"] zdo) : CalE P w K mg base 4 "check_row" ["frame", "row"] (zij K (cs.getD 2 0)) := by
  refine d.calE zgd (fun vs H Q E h => ?_) (fun f cdv A outer s H vs Q E hr h R => ?_)
  · obtain ⟨f, r, names, rs, rfl, _⟩ := h
    rfl
  obtain ⟨fa, ra, names, rs, rfl, ef, h4, er, h200, h⟩ := h
  refine ⟨_, (zaf (zax (PW.pt (zej (zb4 (zbe (za4 zbq (by rfl) T.b_isinstance boot_isinstance (pa_c (pv 1) (pa_c (zbv (v := .ty "list") (by rfl) T.b_list boot_list (by rfl)) zab))))) (zc9 (zb4 (zbe (za4 (zbf K rfl) (by rfl) T.b_all boot_all (pa_c (zbd ["thing"] [(0, "frame")] (CompOk.of rfl (by rfl) (by rfl)) (by rfl) (zbp K (pv 1)) (fun _ _ _ _ _ => (za9 (i := 0) (show List.Nodup (["thing", "frame"] : List Str) by decide +kernel) (by rfl) (Or.inl (by rfl)))) (fun _ _ _ _ _ => zca) (fun _ _ _ _ _ => (zag C_is_letter hr (by omega) (by rfl) (pa_c (pv 0) (pa_c (za4 (zaq K) (by rfl) T.b_len boot_len (pa_c (pv 1) zab)) zab))))) zab))))))) (zaf (zdt R rfl (by rfl) T.m_NoRow T.x_NoRow F.excBase_ValueError (pa_c zad zab))) zak)), ?_⟩
  refine za3 [some (.ref fa), some (.ref ra)] rfl ?_
  trivial
  refine ⟨_, .lst er, by decide, iteF ⟨⟨_, .of er⟩, zmn (K := K) (a := ra) (xs := rs.map V.int) (fun σ => ∃ v, σ = [v, some (.ref fa)]) (fun v => match v with | .int x => .bl (decide (0 ≤ x ∧ x < 2 ^ names.length)) | _ => .non) (by rw [List.length_map]; omega) (.of er) ⟨_, rfl⟩ ?_ ?_⟩⟩
  · rintro D3 i σ H3 x hi hm hx gg hD3 hD3' ⟨v, rfl⟩
    obtain ⟨z, mz, rfl⟩ := List.mem_map.mp hm
    trivial
    refine ⟨_, .inl (.of (gg _ _ ef)), ?_⟩
    rw [List.length_map]
    exact ⟨z, names.length, rfl, h4, zhx (by rw [List.length_map]; omega) hx hD3 hD3' gg ⟨_, rfl⟩ rfl⟩
  intro D3 H3 hD3 g3 eD3
  have eD3' : H3 D3 = some (.lst ((rs.map fun x => decide (0 ≤ x ∧ x < 2 ^ names.length)).map V.bl)) := by rw [eD3, List.map_map, List.map_map]; rfl
  refine ⟨D3, rfl, _, .of eD3', ?_⟩
  rcases h with ⟨hin, q⟩ | ⟨⟨x, mx, hx⟩, q⟩
  · rw [show (!(rs.map fun x => decide (0 ≤ x ∧ x < 2 ^ names.length)).all id) = false by
      rw [Bool.not_eq_false', List.all_eq_true]
      intro b hb
      obtain ⟨x, mx, rfl⟩ := List.mem_map.mp hb
      exact decide_eq_true (hin x mx)]
    exact iteF (q H3 g3)
  · rw [show (!(rs.map fun x => decide (0 ≤ x ∧ x < 2 ^ names.length)).all id) = true by
      rw [Bool.not_eq_true', Bool.eq_false_iff]
      intro h
      exact hx (of_decide_eq_true (List.all_eq_true.mp h _ (List.mem_map.mpr ⟨x, mx, rfl⟩)))]
    exact iteT ⟨zaa (by simp), fun e he => q e H3 g3 he⟩
abbrev s_count_with : Stmt := top 50
theorem ze9 : FnScope ["letters", "track"] ["letters", "track"] (defScope s_count_with) := ⟨rfl, rfl, rfl, by decide +kernel, rfl, by decide +kernel, by decide +kernel⟩
theorem zlk (T : Txt K mg w tw rw fa cLeftovers cSayError cs) (d : Dfn K mg "count_with" s_count_with ["letters", "track"]) : Cal P w K mg base 1 "count_with" ["letters", "track"] zf3 := by
  refine d.cal ze9 (fun vs H Q E h => ?_) (fun f cdv A outer s H vs Q E hr h => ?_)
  · obtain ⟨r, row, k, rfl, _⟩ := h
    rfl
  obtain ⟨ra, row, k, rfl, er, h200, h32, hk, q⟩ := h
  refine ⟨_, (zaf (zai (za4 (zcx K rfl) (by rfl) T.b_sum boot_sum (pa_c (zbd ["letter"] [(1, "track")] (CompOk.of rfl (by rfl) (by rfl)) (by rfl) (zbp K (pv 0)) (fun _ _ _ _ _ => (za9 (i := 0) (show List.Nodup (["letter", "track"] : List Str) by decide +kernel) (by rfl) (Or.inl (by rfl)))) (fun _ _ _ _ _ => zca) (fun _ _ _ _ _ => (zay zgj (zay zrq (pv 0) (pv 1)) zae))) zab)))), ?_⟩
  refine za3 [some (.ref ra), some (nV k)] rfl ?_
  trivial
  refine ⟨⟨_, .of er⟩, zmn (K := K) (a := ra) (xs := row.map nV) (fun σ => ∃ v, σ = [v, some (nV k)]) (fun v => match v with | .int i => .int (Builtin.bitAnd (i / 2 ^ k) 1) | _ => .non) (by rw [List.length_map]; omega) (.of er) ⟨_, rfl⟩ ?_ ?_⟩
  · rintro D3 i σ H3 x hi hm hx gg hD3 hD3' ⟨v, rfl⟩
    obtain ⟨z, mz, rfl⟩ := List.mem_map.mp hm
    trivial
    exact ⟨by omega, zhx (by rw [List.length_map]; omega) hx hD3 hD3' gg ⟨_, rfl⟩ (by rw [Int.toNat_natCast])⟩
  intro D3 H3 hD3 g3 eD3
  have eD3' : H3 D3 = some (.lst ((row.map fun (l : Nat) => Builtin.bitAnd ((l : Int) / 2 ^ k) 1).map V.int)) := by rw [eD3, List.map_map, List.map_map]; rfl
  refine ⟨D3, rfl, _, .of eD3', ?_⟩
  rw [zpc k hk row h32]
  exact q H3 g3
abbrev s_each_place_once : Stmt := top 51
theorem zct : FnScope ["frame", "letters"] ["frame", "letters"] (defScope s_each_place_once) := ⟨rfl, rfl, rfl, by decide +kernel, rfl, by decide +kernel, by decide +kernel⟩
theorem zqf (T : Txt K mg w tw rw fa cLeftovers cSayError cs) (d : Dfn K mg "each_place_once" s_each_place_once ["frame", "letters"]) (C_is_place : Cal P w K mg base 2 "is_place" ["thing"] (zef SMALL)) (C_count_with : Cal P w K mg base 1 "count_with" ["letters", "track"] zf3) : Cal P w K mg base 3 "each_place_once" ["frame", "letters"] zke := by
  refine d.cal zct (fun vs H Q E h => ?_) (fun f cdv A outer s H vs Q E hr h => ?_)
  · obtain ⟨f, r, names, rs, rfl, _⟩ := h
    rfl
  obtain ⟨fa, ra, names, row, rfl, ef, fo, er, h200, h32, q⟩ := h
  have h4 := fo.1
  refine ⟨_, (zaf (zai (za4 (zbf K rfl) (by rfl) T.b_all boot_all (pa_c (zbd ["track", "name"] [(1, "letters")] (CompOk.of rfl (by rfl) (by rfl)) (by rfl) (znh K (by rfl) T.b_enumerate (pa_c (pv 0) zab)) (fun _ _ _ _ _ => (zhj K (n := 2) rfl (zcg (za9 (i := 0) (show List.Nodup (["track", "name", "letters"] : List Str) by decide +kernel) (by rfl) (Or.inl (by rfl))) (zcg (za9 (i := 1) (show List.Nodup (["track", "name", "letters"] : List Str) by decide +kernel) (by rfl) (Or.inl (by rfl))) zhi)))) (fun _ _ _ _ _ => (ziq (zbe (zag C_is_place hr (by omega) (by rfl) (pa_c (pv 1) zab))))) (fun _ _ _ _ _ => (zbg za7 (zag C_count_with hr (by omega) (by rfl) (pa_c (pv 2) (pa_c (pv 0) zab))) zae (nomark _)))) zab)))), ?_⟩
  refine za3 [some (.ref fa), some (.ref ra)] rfl ?_
  trivial
  refine ⟨⟨_, .of ef⟩, ?_⟩
  refine zq6 (K := K) (a := fa) (xs := names.map V.str) (fun σ => ∃ v v', σ = [v, v', some (.ref ra)]) (fun k => isP (names.getD k (Str.ofString ""))) (fun k => .bl (cw row k == 1)) (by rw [List.length_map]; omega) (.of ef) ⟨_, _, rfl⟩ ?_ ?_
  · rintro D3 i σ H3 x pt H4 hx gg hD3 hD3' ⟨v, v', rfl⟩ n4
    rw [List.getElem?_map] at hx
    obtain ⟨z, ez, rfl⟩ := Option.map_eq_some_iff.mp hx
    have hi := (List.getElem?_eq_some_iff.mp ez).1
    have hz : names.getD i (Str.ofString "") = z := by rw [List.getD_eq_getElem?_getD, ez]; rfl
    trivial
    refine ⟨_, .of n4.at', rfl, _, _, rfl, _, _, rfl, rfl, .str z, _, rfl, .str z, (fun z' ez' => by injection ez' with ez'; subst ez'; exact zn8 (fo.2 z (List.mem_of_getElem? ez))), fun H5 g5 => ⟨_, rfl, ?_⟩⟩
    have hv : isNm (.str z) SMALL = isP (names.getD i (Str.ofString "")) := by rw [hz]; rfl
    rw [hv]
    cases hP : isP (names.getD i (Str.ofString "")) with
    | true =>
      refine iteT ⟨ra, row, i, rfl, (gg.trans (n4.g.trans g5)) _ _ er, h200, h32, by omega, fun H6 g6 => ⟨rfl, ?_⟩⟩
      refine zoq (by rw [List.length_map]; omega) (by rw [List.length_map]; exact hi) hP hD3 ((n4.g.trans (g5.trans g6)) _ _ hD3') (gg.trans (n4.g.trans (g5.trans g6))) ⟨_, _, rfl⟩ ?_
      exact congrArg V.bl (zq3 (cw row i))
    | false => exact iteF (zor (by rw [List.length_map]; exact hi) hP ((n4.g.trans g5) _ _ hD3') (gg.trans (n4.g.trans g5)) ⟨_, _, rfl⟩)
  intro D3 H3 hD3 g3 eD3
  have eD3' : H3 D3 = some (.lst ((((List.range names.length).filter fun k => isP (names.getD k (Str.ofString ""))).map fun k => cw row k == 1).map V.bl)) := by rw [eD3, List.length_map, List.map_map]; rfl
  refine ⟨D3, rfl, _, .of eD3', ?_⟩
  have e : ((((List.range names.length).filter fun k => isP (names.getD k (Str.ofString ""))).map fun k => cw row k == 1).all id) = fitB names row := by
    unfold fitB
    rw [List.all_map, List.all_filter]
    rfl
  rw [e]
  exact q H3 g3
abbrev s_fits : Stmt := top 52
theorem zpt : FnScope ["frame", "row"] ["frame", "row"] (defScope s_fits) := ⟨rfl, rfl, rfl, by decide +kernel, rfl, by decide +kernel, by decide +kernel⟩
theorem zqm (T : Txt K mg w tw rw fa cLeftovers cSayError cs) (d : Dfn K mg "fits" s_fits ["frame", "row"]) (C_check_row : CalE P w K mg base 4 "check_row" ["frame", "row"] (zij K (cs.getD 2 0))) (C_each_place_once : Cal P w K mg base 3 "each_place_once" ["frame", "letters"] zke) : CalE P w K mg base 5 "fits" ["frame", "row"] (zkl (cs.getD 2 0)) := by
  refine d.calE zpt (fun vs H Q E h => ?_) (fun f cdv A outer s H vs Q E hr h R => ?_)
  · obtain ⟨f, r, names, rs, rfl, _⟩ := h
    rfl
  obtain ⟨fa, ra, names, rs, rfl, ef, fo, er, h200, h⟩ := h
  have h4 := fo.1
  refine ⟨_, (zac (zc0 (zdl R C_check_row hr (by omega) (by rfl) (pa_c (pv 0) (pa_c (pv 1) zab)))) (zaf (zai (zag C_each_place_once hr (by omega) (by rfl) (pa_c (pv 0) (pa_c (pv 1) zab)))))), ?_⟩
  refine za3 [some (.ref fa), some (.ref ra)] rfl ?_
  trivial
  rcases h with ⟨row, rfl, hin, q⟩ | ⟨bad, q⟩
  · have hin' : ∀ x ∈ (row.map fun (n : Nat) => (n : Int)), 0 ≤ x ∧ x < 2 ^ names.length := fun x hx => by
      obtain ⟨l, ml, rfl⟩ := List.mem_map.mp hx
      have := hin l ml
      rw [zp6]
      omega
    have h32 : ∀ l ∈ row, l < 32 := fun l ml => by
      have := hin l ml
      have := zk1 h4
      omega
    have er' : H ra = some (.lst (row.map nV)) := by rw [zr4]; exact er
    refine ⟨fa, ra, names, _, rfl, ef, h4, er, h200, .inl ⟨hin', fun H1 g1 => ?_⟩⟩
    exact ⟨fa, ra, names, row, rfl, g1 _ _ ef, fo, g1 _ _ er', by rw [List.length_map] at h200; exact h200, h32, fun H2 g2 => q H2 (g1.trans g2)⟩
  · exact ⟨fa, ra, names, _, rfl, ef, h4, er, h200, .inr ⟨bad, q⟩⟩
end
section
variable {P : Program} {w : World} {K : PySem.W.Frag} {mg : Str → Option Value} {base : Heap} {tw rw fa cLeftovers cSayError : Addr} {cs : List Addr}
abbrev s_Leftovers___init__ : Stmt := inClass (top 43) 0
theorem zb9 : FnScope ["self"] ["self"] (defScope s_Leftovers___init__) := ⟨rfl, rfl, rfl, by decide +kernel, rfl, by decide +kernel, by decide +kernel⟩
theorem zny (T : Txt K mg w tw rw fa cLeftovers cSayError cs) (d : DfnI K cLeftovers "Leftovers.__init__" s_Leftovers___init__ ["self"]) : CalI P w K mg base 1 cLeftovers "Leftovers" ["self"] (zih P w cLeftovers) := by
  refine d.cal T.m_Leftovers zb9 (fun vs H Q E h => ?_) (fun f cdv A outer s H vs Q E hr h => ?_)
  · obtain ⟨p, dx, H0, rfl, _⟩ := h
    rfl
  obtain ⟨p, dx, H0, rfl, eH, e0, e1, ne, q⟩ := h
  refine ⟨_, (zac (zk0 (pv 0) (zao (pa_c (zam (pa_c zad zab)) (pa_c (zam (pa_c zad zab)) zab))) (by rfl)) (zac (zk0 (pv 0) znl (by rfl)) (zaf (zk0 (pv 0) zk7 (by rfl))))), ?_⟩
  refine za3 [some (.ref p)] rfl ?_
  trivial
  have gH : Same H0 H := by rw [eH]; exact ((Same.refl H0).wr e1 _).wr e0 _
  have ep : H p = some (.ins cLeftovers dx []) := by rw [eH, zau]
  refine ⟨zaa (by simp), fun p1 H1 n1 => ⟨zaa (by simp), fun p2 H2 n2 => ⟨zaa (by simp), fun pf H3 n3 => ?_⟩⟩⟩
  have g3 : Same H H3 := n1.g.trans (n2.g.trans n3.g)
  have ep3 := g3 _ _ ep
  refine ⟨_, _, _, ep3, T.cl_Leftovers, T.n_forms, by simp, fun pn H4 n4 => ?_⟩
  have ep4 := n4.g _ _ zau
  refine ⟨_, _, _, ep4, T.cl_Leftovers, T.n_numbers, by simp [putF], fun ps H5 n5 => ?_⟩
  have ep5 := n5.g _ _ zau
  have hl : (putF "numbers" (V.ref pn) (putF "forms" (V.ref pf) [])).length < 1000 := by
    have := zb1 "numbers" (V.ref pn) (putF "forms" (V.ref pf) [])
    have := zb1 "forms" (V.ref pf) []
    simp only [List.length_nil] at this
    omega
  have g03 : Same H0 H3 := gH.trans g3
  have g04 : Same H0 H4 := (g03.wr e0 _).trans n4.g
  have g05 : Same H0 H5 := (g04.wr e0 _).trans n5.g
  have npn : p ≠ pn := zat zau n4.nil
  have nps : p ≠ ps := zat zau n5.nil
  have npf : p ≠ pf := zat (n1.g.trans n2.g _ _ ep) n3.nil
  have np1 : p ≠ p1 := zat ep n1.nil
  have np2 : p ≠ p2 := zat (n1.g _ _ ep) n2.nil
  have up : ∀ b o, b ≠ p → H3 b = some o → upd H5 p (.ins cLeftovers dx (putF "steps" (V.ref ps) (putF "numbers" (V.ref pn) (putF "forms" (V.ref pf) [])))) b = some o := fun b o hb e => by
    rw [zan hb]
    refine n5.g _ _ ?_
    rw [zan hb]
    refine n4.g _ _ ?_
    rw [zan hb]
    exact e
  have en4 : upd H4 p (.ins cLeftovers dx (putF "numbers" (V.ref pn) (putF "forms" (V.ref pf) []))) pn = some (dN P w pn []) := by rw [zan (Ne.symm npn)]; exact n4.at'
  refine ⟨_, _, _, ep5, T.cl_Leftovers, T.n_steps, hl, q ⟨p, dx, pf, pn, ps⟩ _ rfl ?_ (g05.wr e0 _) ((gH.trans (n1.g.trans n2.g)).free n3.nil) ((g03.wr e0 _).free n4.nil) ((g04.wr e0 _).free n5.nil)⟩
  refine ⟨by rw [zau, zsf], ⟨[.ref p1, .ref p2], up _ _ (Ne.symm npf) n3.at', .cons ⟨p1, rfl, _, up _ _ (Ne.symm np1) ((n2.g.trans n3.g) _ _ n1.at'), .cons rfl .nil⟩ (.cons ⟨p2, rfl, _, up _ _ (Ne.symm np2) (n3.g _ _ n2.at'), .cons rfl .nil⟩ .nil)⟩, ⟨[], ?_, (fun y hy => nomatch hy), rfl, fun i y h => by simp at h⟩, ?_⟩
  · rw [zan (Ne.symm npn)]; exact n5.g _ _ en4
  · rw [zan (Ne.symm nps)]; exact n5.at'
abbrev s_Leftovers_numbered : Stmt := inClass (top 43) 1
theorem zb8 : FnScope ["self", "form"] ["self", "form"] (defScope s_Leftovers_numbered) := ⟨rfl, rfl, rfl, by decide +kernel, rfl, by decide +kernel, by decide +kernel⟩
theorem zqi (T : Txt K mg w tw rw fa cLeftovers cSayError cs) (d : DfnM K cLeftovers "numbered" "Leftovers.numbered" s_Leftovers_numbered ["self", "form"]) : CalM P w K mg base 1 cLeftovers "numbered" ["self", "form"] (zcy P w cLeftovers) := by
  refine d.cal zb8 (fun vs H Q E h => ?_) (fun f cdv A outer s H vs Q E hr h => ?_)
  · obtain ⟨A, a, fs, sts, k, rfl, _⟩ := h
    rfl
  obtain ⟨LA, a, fs, sts, k, rfl, L, h10, ea, q⟩ := h
  have hu := zjs hr 8 (by decide)
  refine ⟨_, (zds (zax (zaj (zlc hu) (pv 1) (zbt (pv 0) (by rfl)) (by with_unfolding_all rfl)) (zac (znd hu (zbt (pv 0) (by rfl)) (pv 1) (za4 (zaq K) (by rfl) T.b_len boot_len (pa_c (zbt (pv 0) (by rfl)) zab)) rfl) (zaf (zc0 (zis K PySem.F.plainAttrs_list PySem.F.slot_list_append PySem.F.type_list_append zd0 (zbt (pv 0) (by rfl)) (pa_c (pv 1) zab))))) zak) (zaf (zai (znm hu (zbt (pv 0) (by rfl)) (pv 1) (fun _ _ => rfl))))), ?_⟩
  refine za3 [some (.ref LA.p), some (.ref a)] rfl ?_
  refine ⟨fun σ' H' => σ' = [some (.ref LA.p), some (.ref a)] ∧ Up3 LA H H' ∧ NestAt H' a k ∧ Lg P w cLeftovers LA (nxt fs k) sts H', ?_, ?_⟩
  · trivial
    obtain ⟨rs, e6, e7⟩ := L.ef
    obtain ⟨ys, e8, ky, ef, ev⟩ := L.en
    have hrl := SS.Paired.len e7
    simp only [List.length_cons] at hrl
    have hyl : ys.length = fs.length := by rw [← ef, List.length_map]
    obtain ⟨t1, t2⟩ := tabN 2 ef ev k
    refine ⟨_, _, _, L.e1, T.cl_Leftovers, T.n_numbers, _, zc3, LA.pn, rfl, _, e8, ky, k, ea, ?_⟩
    by_cases hin : k ∈ fs
    · rw [t1 hin, zdx hin]
      exact iteF ⟨Up3.refl _ _, ea, L⟩
    · rw [t2 hin, zcb hin]
      have npn : LA.p ≠ LA.pn := zdz L.e1 e8 (by intro z; cases z)
      have npf : LA.p ≠ LA.pf := zdz L.e1 e6 (by intro z; cases z)
      have nfn : LA.pf ≠ LA.pn := zdz e6 e8 (by intro z; cases z)
      have nfs : LA.pf ≠ LA.ps := zdz e6 L.es (by intro z; cases z)
      have nns : LA.pn ≠ LA.ps := zdz e8 L.es (by intro z; cases z)
      refine iteT ⟨_, _, _, L.e1, T.cl_Leftovers, T.n_forms, _, zbh, LA.pf, rfl, _, .inl (.of e6), _, _, _, L.e1, T.cl_Leftovers, T.n_numbers, _, zc3, LA.pn, rfl, _, e8, ky, k, ea, t2 hin, ?_⟩
      refine ⟨small1000 (by omega), fun H4 e4 => ?_⟩
      subst e4
      have e1' : ∀ o, upd H LA.pn o LA.p = some (.ins cLeftovers LA.dx (fl3 (.ref LA.pf) (.ref LA.pn) (.ref LA.ps))) := fun o => by rw [zan npn]; exact L.e1
      have e6' : ∀ o, upd H LA.pn o LA.pf = some (.lst rs) := fun o => by rw [zan nfn]; exact e6
      refine ⟨_, _, _, e1' _, T.cl_Leftovers, T.n_forms, _, zbh, .inl ⟨_, .of (e6' _)⟩, LA.pf, rfl, _, e6' _, small1000 (by omega), ?_⟩
      have uA : Up3 LA H (upd (upd H LA.pn (dN P w LA.pn (ys ++ [(k, a, V.int (rs.length : Int))]))) LA.pf (.lst (rs ++ [.ref a]))) := fun b o h1 h2 h3 e => by rw [zan h1, zan h2]; exact e
      have tsA := L.tups uA
      have evn : V.int (rs.length : Int) = nV (2 + fs.length) := by show V.int _ = V.int _; congr 1; omega
      refine ⟨uA, ea.ts tsA, by rw [zan npf]; exact e1' _, ⟨_, zau, SM.Paired.snoc (L2.Paired.mapP e7 fun _ _ z => z.ts tsA) ⟨a, rfl, ea.ts tsA⟩⟩, ⟨_, by rw [zan (Ne.symm nfn), zau], ?_, by rw [List.map_append, ef]; rfl, fun i y h => ?_⟩, by rw [zan (Ne.symm nfs), zan (Ne.symm nns)]; exact L.es⟩
      · intro y hy
        rcases List.mem_append.mp hy with h | h
        · exact (ky y h).ts tsA
        · rw [List.mem_singleton.mp h]; exact ea.ts tsA
      · by_cases hi : i < ys.length
        · rw [List.getElem?_append_left hi] at h
          exact ev i y h
        · rw [List.getElem?_append_right (by omega)] at h
          have h0 : i - ys.length = 0 := by
            have := (List.getElem?_eq_some_iff.mp h).1
            simp at this
            omega
          rw [h0] at h
          cases h
          show V.int _ = _
          rw [evn]
          congr 2
          omega
  · rintro σ' H' ⟨rfl, u', ea', L'⟩
    trivial
    obtain ⟨ys, e8, ky, ef, ev⟩ := L'.en
    have hin : k ∈ nxt fs k := by
      by_cases h : k ∈ fs
      · rw [zdx h]; exact h
      · rw [zcb h]; simp
    obtain ⟨t1, t2⟩ := tabN 2 ef ev k
    exact ⟨_, _, _, L'.e1, T.cl_Leftovers, T.n_numbers, _, zc3, LA.pn, rfl, _, e8, ky, k, ea', _, t1 hin, q _ u' L'⟩
abbrev s_bit_of : Stmt := top 41
theorem zkw : FnScope ["name", "names"] ["name", "names"] (defScope s_bit_of) := ⟨rfl, rfl, rfl, by decide +kernel, rfl, by decide +kernel, by decide +kernel⟩
theorem zn5 (T : Txt K mg w tw rw fa cLeftovers cSayError cs) (d : Dfn K mg "bit_of" s_bit_of ["name", "names"]) : Cal P w K mg base 1 "bit_of" ["name", "names"] ze5 := by
  refine d.cal zkw (fun vs H Q E h => ?_) (fun f cdv A outer s H vs Q E hr h => ?_)
  · obtain ⟨b, z, tl, i, rfl, _⟩ := h
    rfl
  obtain ⟨b, z, tl, i, rfl, eb, h4, ei, hi, q⟩ := h
  have hu := zjs hr 8 (by decide)
  refine ⟨_, (zaf (zai (zay zlb zae (zis K PySem.F.plainAttrs_list PySem.F.slot_list_index PySem.F.type_list_index (zjk K hu) (pv 1) (pa_c (pv 0) zab))))), ?_⟩
  refine za3 [some (.str z), some (.ref b)] rfl ?_
  trivial
  have hz : z ∈ tl := List.idxOf_lt_length_iff.mp (by rw [ei]; exact hi)
  refine ⟨.inl ⟨_, .of eb⟩, _, .of eb, hz, by omega, ⟨by omega, by omega, by decide⟩, ?_⟩
  rw [ei, Int.toNat_natCast, Int.one_mul]
  have : ((2 : Int) ^ i) = ((2 ^ i : Nat) : Int) := by simp
  rw [this]; exact q
abbrev s_worth_keeping : Stmt := top 42
theorem zdd : FnScope ["lefts"] ["lefts"] (defScope s_worth_keeping) := ⟨rfl, rfl, rfl, by decide +kernel, rfl, by decide +kernel, by decide +kernel⟩
theorem zqh (T : Txt K mg w tw rw fa cLeftovers cSayError cs) (d : Dfn K mg "worth_keeping" s_worth_keeping ["lefts"]) : Cal P w K mg base 1 "worth_keeping" ["lefts"] (zkg K) := by
  refine d.cal zdd (fun vs H Q E h => ?_) (fun f cdv A outer s H vs Q E hr h => ?_)
  · obtain ⟨b, ns, rfl, _⟩ := h
    rfl
  obtain ⟨b, ns, rfl, eb, hns, q⟩ := h
  refine ⟨_, (zaf (zai (zir zen (by rfl) T.b_tuple boot_tuple (pa_c (za4 (zeb rfl) (by rfl) T.b_sorted (by rfl) (pa_c (zir (zgv rfl) (by rfl) T.b_set (by rfl) (pa_c (zbd ["left"] [] (CompOk.of rfl (by rfl) (by rfl)) (by rfl) (zbp K (pv 0)) (fun _ _ _ _ _ => (za9 (i := 0) (show List.Nodup (["left"] : List Str) by decide +kernel) (by rfl) (Or.inl (by rfl)))) (fun _ _ _ _ _ => (ziq (zaj zhl (pv 0) (zba (by rfl) T.g_NO) (nomark _)))) (fun _ _ _ _ _ => (pv 0))) zab)) zab)) zab)))), ?_⟩
  refine za3 [some (.ref b)] rfl ?_
  trivial
  refine ⟨⟨_, .of eb⟩, zmp (K := K) (a := b) (xs := ns.map nV) (fun σ => ∃ v, σ = [v]) (fun v => decide (v ≠ .int 0)) id (by rw [List.length_map]; rcases hns with rfl | rfl | rfl <;> decide) (.of eb) ⟨_, rfl⟩ ?_ ?_⟩
  · rintro D i σ H1 x hi hm hx gg hD hD' ⟨v, rfl⟩
    obtain ⟨k, mk, rfl⟩ := List.mem_map.mp hm
    have hl : (ns.map nV).length ≤ 1000 := by rw [List.length_map]; rcases hns with rfl | rfl | rfl <;> decide
    trivial
    by_cases h0 : k = 0
    · subst h0
      exact iteF (zhz hx (by decide) hD' gg ⟨_, rfl⟩)
    · rw [decide_eq_false (by omega)]
      exact iteT (zhy hl hx (decide_eq_true fun z => h0 (by injection z with z; omega)) hD hD' gg ⟨_, rfl⟩ rfl)
  intro D H1 hD g1 eD
  have e1 : (List.filter (fun v => decide (v ≠ V.int 0)) (ns.map nV)).map id = ((ns.filter (· ≠ 0)).map fun (n : Nat) => (n : Int)).map V.int := by rcases hns with rfl | rfl | rfl <;> decide
  rw [e1] at eD
  refine ⟨D, rfl, _, .of eD, by rcases hns with rfl | rfl | rfl <;> decide, fun a0 ha0 => ⟨_, zau, by rcases hns with rfl | rfl | rfl <;> decide, fun ms p1 p2 L H2 n2 => ⟨_, .inl ⟨n2.lst, fun l H3 n3 => q l H3 ?_ ?_⟩⟩⟩⟩
  · exact g1.trans ((za8 ha0 _).trans (n2.g.trans n3.g))
  · rw [n3.at']
    have e2 : ms = (ns.filter (· ≠ 0)).map fun (n : Nat) => (n : Int) := by
      rcases hns with rfl | rfl | rfl
      · exact List.eq_nil_iff_forall_not_mem.mpr fun k hk => by have := (p2 k).mp hk; simp at this
      · exact List.eq_nil_iff_forall_not_mem.mpr fun k hk => by have := (p2 k).mp hk; simp at this
      · have h1 : ∀ k, k ∈ ms ↔ k = 1 := fun k => by rw [p2 k]; simp
        match ms, p1, h1 with
        | [], _, h1 => exact absurd ((h1 1).mpr rfl) (by simp)
        | [x], _, h1 => rw [(h1 x).mp (by simp)]; rfl
        | x :: y :: r, p1, h1 =>
          have hx := (h1 x).mp (by simp)
          have hy := (h1 y).mp (by simp)
          have := (List.pairwise_cons.mp p1).1 y (by simp)
          omega
    rw [e2, List.map_map]; rfl
abbrev s_Leftovers_of_not : Stmt := inClass (top 43) 2
theorem sc_Leftovers_of_not : FnScope ["self", "left", "form"] ["self", "left"] (defScope s_Leftovers_of_not) := ⟨rfl, rfl, rfl, by decide +kernel, rfl, by decide +kernel, by decide +kernel⟩
theorem zqj (T : Txt K mg w tw rw fa cLeftovers cSayError cs) (d : DfnM K cLeftovers "of_not" "Leftovers.of_not" s_Leftovers_of_not ["self", "left"]) (C_Leftovers_numbered : CalM P w K mg base 1 cLeftovers "numbered" ["self", "form"] (zcy P w cLeftovers)) : CalM P w K mg base 2 cLeftovers "of_not" ["self", "left"] (zg8 P w cLeftovers) := by
  refine d.cal sc_Leftovers_of_not (fun vs H Q E h => ?_) (fun f cdv A outer s H vs Q E hr h => ?_)
  · obtain ⟨A, i, j, n, l, fs, sts, rfl, _⟩ := h
    rfl
  obtain ⟨LA, i, j, n, l, fs, sts, rfl, L, hfs, hl, q⟩ := h
  refine ⟨_, (zac (zax (zaj za7 (pv 1) (zba (by rfl) T.g_NO) (nomark _)) (zaf (zai (zba (by rfl) T.g_YES))) zak) (zac (zax (zaj za7 (pv 1) (zba (by rfl) T.g_YES) (nomark _)) (zaf (zai (zba (by rfl) T.g_NO))) zak) (zac (zas (i := 2) sc_Leftovers_of_not.nd rfl (Or.inl rfl) (zap (zbb K) (zbt (pv 0) (by rfl)) (pv 1) (fun _ _ => rfl))) (zaf (zai (zch (zaj za7 (zap (zah K) (pv 2) zae (fun _ _ => rfl)) zad (nomark _)) (zap (zah K) (pv 2) zae (fun _ _ => rfl)) (zar C_Leftovers_numbered T.cl_Leftovers hr (by omega) (pv 0) (pa_c (zam (pa_c zad (pa_c (pv 1) zab))) zab)))))))), ?_⟩
  refine za3 [some (.ref LA.p), some (nV l), none] rfl ?_
  trivial
  rcases (show l = 0 ∨ l = 1 ∨ l = 2 by omega) with rfl | rfl | rfl
  · exact iteT ((q H (Up3.refl _ _)).1 (by decide) L)
  · exact iteF (iteT ((q H (Up3.refl _ _)).1 (by decide) L))
  have ek : (noG :: yesG :: fs)[2]? = some (bareG "in" i j) := by rcases hfs with rfl | rfl <;> rfl
  obtain ⟨rs, b, e6, el, vs, ev, pv⟩ := L.form ek
  cases pv with
  | cons h1 h2 =>
  cases (show _ = V.str "in" from h1)
  refine iteF (iteF ⟨_, _, _, L.e1, T.cl_Leftovers, T.n_forms, _, zbh, LA.pf, rfl, _, .of e6, _, zal el, b, rfl, _, .of ev, _, zaz, rfl, ?_⟩)
  rw [decide_eq_false (by intro z; exact absurd (V.str.inj z) (by decide))]
  refine iteF ⟨_, _, L.e1, za5 (by decide) (by decide) (by decide), zaa (by simp), fun p1 H1 n1 => ?_⟩
  refine ⟨LA, p1, fs, sts, notG 2, rfl, L.same n1.g, by rcases hfs with rfl | rfl <;> simp [full], ⟨_, n1.at', .cons rfl (.cons rfl .nil)⟩, fun H2 u2 L2 => ?_⟩
  have n3 : ¬ bareG "in" i j = notG 2 := fun e => by
    have := List.head_eq_of_cons_eq e
    exact absurd (Sum.inr.inj (Sum.inl.inj this)) (by decide)
  have ex : nxt fs (notG 2) = full 1 i j n := by
    rcases hfs with rfl | rfl
    · rw [zcb (by intro h; exact n3 (List.mem_singleton.mp h).symm)]; rfl
    · rw [zdx (by show _ ∈ [_, _]; simp)]
  rw [ex] at L2 ⊢
  have e3 : nOf (full 1 i j n) (notG 2) = 1 := by
    show nOf [bareG "in" i j, notG 2] _ = 1
    rw [zaw, if_neg n3, zaw, if_pos rfl]
  rw [e3]
  exact (q H2 ((Same.up3 n1.g).trans u2)).2 rfl L2
abbrev s_Leftovers_of_some_place : Stmt := inClass (top 43) 6
theorem sc_Leftovers_of_some_place : FnScope ["self", "bit", "unplaced", "lefts", "kept"] ["self", "bit", "unplaced", "lefts"] (defScope s_Leftovers_of_some_place) := ⟨rfl, rfl, rfl, by decide +kernel, rfl, by decide +kernel, by decide +kernel⟩
theorem zr1 (T : Txt K mg w tw rw fa cLeftovers cSayError cs) (d : DfnM K cLeftovers "of_some_place" "Leftovers.of_some_place" s_Leftovers_of_some_place ["self", "bit", "unplaced", "lefts"]) (C_worth_keeping : Cal P w K mg base 1 "worth_keeping" ["lefts"] (zkg K)) (C_Leftovers_numbered : CalM P w K mg base 1 cLeftovers "numbered" ["self", "form"] (zcy P w cLeftovers)) : CalM P w K mg base 2 cLeftovers "of_some_place" ["self", "bit", "unplaced", "lefts"] (zkh P w cLeftovers) := by
  refine d.cal sc_Leftovers_of_some_place (fun vs H Q E h => ?_) (fun f cdv A outer s H vs Q E hr h => ?_)
  · obtain ⟨A, b, u, a, ns, fs, sts, rfl, _⟩ := h
    rfl
  obtain ⟨LA, b, u, a, ns, fs, sts, rfl, L, h10, ea, na, h⟩ := h
  refine ⟨_, (zac (zas (i := 4) sc_Leftovers_of_some_place.nd rfl (Or.inl rfl) (zag C_worth_keeping hr (by omega) (by rfl) (pa_c (pv 3) zab))) (zac (zax (zaj (zbo K) (zba (by rfl) T.g_YES) (pv 4) (by with_unfolding_all rfl)) (zaf (zai (zba (by rfl) T.g_YES))) zak) (zac (zax (PW.pt (zin (zaj za7 (pv 2) (zba (by rfl) T.g_NO) (nomark _)) (zff (zb4 (znb (pv 4) (fun _ => rfl)))))) (zaf (zai (zba (by rfl) T.g_NO))) zak) (zaf (zai (zar C_Leftovers_numbered T.cl_Leftovers hr (by omega) (pv 0) (pa_c (zam (pa_c zad (pa_c (pv 1) (pa_c (pv 2) (pa_c (pv 4) zab))))) zab))))))), ?_⟩
  refine za3 [some (.ref LA.p), some (nV b), some (nV u), some (.ref a), none] rfl ?_
  trivial
  have hns : ns = [] ∨ ns = [0] ∨ ns = [1] := by
    rcases h with ⟨h | h, _⟩ | ⟨h, _⟩
    · exact .inl h
    · exact .inr (.inl h)
    · exact .inr (.inr h)
  refine ⟨a, ns, rfl, ea, hns, fun t H1 g1 et => ⟨t, rfl, _, .inr (.of et), rfl, ?_, ?_⟩⟩
  · rw [List.all_eq_true]; intro v hv; obtain ⟨_, _, rfl⟩ := List.mem_map.mp hv; rfl
  have L1 := L.same g1
  rcases h with ⟨h, hu0, q⟩ | ⟨rfl, q⟩
  · have e1 : ns.filter (· ≠ 0) = [] := by rcases h with rfl | rfl <;> rfl
    rw [e1] at et ⊢
    refine iteF ?_
    rw [decide_eq_false (by omega)]
    refine iteF ⟨_, _, L1.e1, za5 (by decide) (by decide) (by decide), zaa (by simp), fun p2 H2 n2 => ?_⟩
    exact ⟨LA, p2, fs, sts, someG b u, rfl, L1.same n2.g, h10, ⟨_, n2.at', .cons rfl (.cons rfl (.cons rfl (.cons ⟨t, rfl, n2.g _ _ et⟩ .nil)))⟩, fun H3 u3 L3 => q H3 ((Same.up3 (g1.trans n2.g)).trans u3) L3⟩
  · exact iteT (q H1 (Same.up3 g1) L1)
abbrev s_Leftovers_of_some_set : Stmt := inClass (top 43) 5
abbrev s_Leftovers_of_some : Stmt := inClass (top 43) 7
theorem zcl : FnScope ["self", "name", "bit", "left"] ["self", "name", "bit", "left"] (defScope s_Leftovers_of_some) := ⟨rfl, rfl, rfl, by decide +kernel, rfl, by decide +kernel, by decide +kernel⟩
theorem zr2 (T : Txt K mg w tw rw fa cLeftovers cSayError cs) (d : DfnM K cLeftovers "of_some" "Leftovers.of_some" s_Leftovers_of_some ["self", "name", "bit", "left"]) (dn : DfnM K cLeftovers "of_some_set" "Leftovers.of_some_set" s_Leftovers_of_some_set ["self", "bit", "lefts"]) (C_is_place : Cal P w K mg base 2 "is_place" ["thing"] (zef SMALL)) (C_Leftovers_of_some_place : CalM P w K mg base 2 cLeftovers "of_some_place" ["self", "bit", "unplaced", "lefts"] (zkh P w cLeftovers)) : CalM P w K mg base 3 cLeftovers "of_some" ["self", "name", "bit", "left"] (zov P w cLeftovers) := by
  have C_Leftovers_of_some_set : CalM P w K mg base 0 cLeftovers "of_some_set" ["self", "bit", "lefts"] (fun _ _ _ _ => False) := dn.never fun _ _ _ _ h => h
  refine d.cal zcl (fun vs H Q E h => ?_) (fun f cdv A outer s H vs Q E hr h => ?_)
  · obtain ⟨A, z, b, u, fs, sts, rfl, _⟩ := h
    rfl
  obtain ⟨LA, z, b, u, fs, sts, rfl, L, h10, ez, hu0, q⟩ := h
  refine ⟨_, (zaf (zai (zch (zbe (zag C_is_place hr (by omega) (by rfl) (pa_c (pv 1) zab))) (zar C_Leftovers_of_some_place T.cl_Leftovers hr (by omega) (pv 0) (pa_c (pv 2) (pa_c (pv 3) (pa_c (zao zab) zab)))) (zar C_Leftovers_of_some_set T.cl_Leftovers hr (by omega) (pv 0) (pa_c (pv 2) (pa_c (zao (pa_c (pv 3) zab)) zab)))))), ?_⟩
  refine za3 [some (.ref LA.p), some (.str z), some (nV b), some (nV u)] rfl ?_
  trivial
  subst ez
  refine ⟨_, _, rfl, .str _, (fun z hz => by cases hz; decide), fun H1 g1 => ⟨_, rfl, ?_⟩⟩
  rw [show isNm (V.str "z") SMALL = true by decide +kernel]
  have L1 := L.same g1
  refine iteT ⟨_, _, L1.e1, za5 (by decide) (by decide) (by decide), by decide, fun p2 H2 n2 => ?_⟩
  obtain ⟨rs, e6, _⟩ := L1.ef
  exact ⟨LA, b, u, p2, [], fs, sts, rfl, L1.same n2.g, h10, n2.at', (zat e6 n2.nil).symm, .inl ⟨.inl rfl, hu0, fun H3 u3 L3 => q H3 ((Same.up3 (g1.trans n2.g)).trans u3) L3⟩⟩
abbrev s_Leftovers_of_saying : Stmt := inClass (top 43) 8
theorem sc_Leftovers_of_saying : FnScope ["self", "saying", "names", "word", "bit", "left"] ["self", "saying", "names"] (defScope s_Leftovers_of_saying) := ⟨rfl, rfl, rfl, by decide +kernel, rfl, by decide +kernel, by decide +kernel⟩
theorem znx (T : Txt K mg w tw rw fa cLeftovers cSayError cs) (d : DfnM K cLeftovers "of_saying" "Leftovers.of_saying" s_Leftovers_of_saying ["self", "saying", "names"]) (C_is_bare : Cal P w K mg base 2 "is_bare" ["saying"] zb6) (C_bit_of : Cal P w K mg base 1 "bit_of" ["name", "names"] ze5) (C_Leftovers_numbered : CalM P w K mg base 1 cLeftovers "numbered" ["self", "form"] (zcy P w cLeftovers)) : CalM P w K mg base 3 cLeftovers "of_saying" ["self", "saying", "names"] (zig P w cLeftovers) := by
  refine d.cal sc_Leftovers_of_saying (fun vs H Q E h => ?_) (fun f cdv A outer s H vs Q E hr h => ?_)
  · obtain ⟨A, b, v, wd, n, m, tl, i, j, rfl, _⟩ := h
    rfl
  obtain ⟨LA, b, v, wd, n, m, tl, i, j, rfl, L, r, eb, h4, ei, hi, ej, hj, q⟩ := h
  refine ⟨_, (zac (zas (i := 3) sc_Leftovers_of_saying.nd rfl (Or.inl rfl) (zap (zah K) (pv 1) zae (fun _ _ => rfl))) (zac (zax (zbe (zag C_is_bare hr (by omega) (by rfl) (pa_c (pv 1) zab))) (zaf (zai (zar C_Leftovers_numbered T.cl_Leftovers hr (by omega) (pv 0) (pa_c (zam (pa_c (pv 3) (pa_c (zag C_bit_of hr (by omega) (by rfl) (pa_c (zap (zah K) (pv 1) zae (fun _ _ => rfl)) (pa_c (pv 2) zab))) (pa_c (zag C_bit_of hr (by omega) (by rfl) (pa_c (zap (zah K) (pv 1) zae (fun _ _ => rfl)) (pa_c (pv 2) zab))) zab)))) zab)))) zak) za2)), ?_⟩
  refine za3 [some (.ref LA.p), some v, some (.ref b), none, none, none] rfl ?_
  trivial
  cases r with
  | bare hw e =>
  rename_i a
  refine ⟨a, rfl, _, .of e, _, zaz, _, _, rfl, .bare hw e, fun H1 g1 => ⟨_, rfl, ?_⟩⟩
  refine iteT ⟨_, _, g1 _ _ L.e1, za5 (by decide) (by decide) (by decide), a, rfl, _, .of (g1 _ _ e), _, zal (j := 1) rfl, b, n, tl, i, rfl, g1 _ _ eb, h4, ei, hi, a, rfl, _, .of (g1 _ _ e), _, zal (j := 2) rfl, b, m, tl, j, rfl, g1 _ _ eb, h4, ej, hj, zaa (by simp), fun p4 H4 n4 => ?_⟩
  have L4 := L.same (g1.trans n4.g)
  refine ⟨LA, p4, [], [], bareG wd i j, rfl, L4, by decide, ⟨_, n4.at', .cons rfl (.cons rfl (.cons rfl .nil))⟩, fun H5 u5 L5 => ?_⟩
  rw [show nxt [] (bareG wd i j) = [bareG wd i j] from zcb (by simp)] at L5 ⊢
  rw [zaw, if_pos rfl]
  exact q H5 ((Same.up3 (g1.trans n4.g)).trans u5) L5
theorem znw (T : Txt K mg w tw rw fa cLeftovers cSayError cs) (d : DfnM K cLeftovers "of_saying" "Leftovers.of_saying" s_Leftovers_of_saying ["self", "saying", "names"]) (C_is_bare : Cal P w K mg base 2 "is_bare" ["saying"] zb6) (C_bit_of : Cal P w K mg base 1 "bit_of" ["name", "names"] ze5) (C_Leftovers_numbered : CalM P w K mg base 1 cLeftovers "numbered" ["self", "form"] (zcy P w cLeftovers)) (C_Leftovers_of_saying : CalM P w K mg base 3 cLeftovers "of_saying" ["self", "saying", "names"] (zig P w cLeftovers)) (C_Leftovers_of_not : CalM P w K mg base 2 cLeftovers "of_not" ["self", "left"] (zg8 P w cLeftovers)) (C_Leftovers_of_some : CalM P w K mg base 3 cLeftovers "of_some" ["self", "name", "bit", "left"] (zov P w cLeftovers)) : CalM P w K mg base 4 cLeftovers "of_saying" ["self", "saying", "names"] (zif P w cLeftovers) := by
  refine d.cal sc_Leftovers_of_saying (fun vs H Q E h => ?_) (fun f cdv A outer s H vs Q E hr h => ?_)
  · obtain ⟨A, b, v, kd, tl, rfl, _⟩ := h
    rfl
  obtain ⟨LA, b, v, kd, tl, rfl, L, hk, r, eb, nb, htl, q⟩ := h
  refine ⟨_, (zac (zas (i := 3) sc_Leftovers_of_saying.nd rfl (Or.inl rfl) (zap (zah K) (pv 1) zae (fun _ _ => rfl))) (zac (zax (zbe (zag C_is_bare hr (by omega) (by rfl) (pa_c (pv 1) zab))) (zaf (zai (zar C_Leftovers_numbered T.cl_Leftovers hr (by omega) (pv 0) (pa_c (zam (pa_c (pv 3) (pa_c (zag C_bit_of hr (by omega) (by rfl) (pa_c (zap (zah K) (pv 1) zae (fun _ _ => rfl)) (pa_c (pv 2) zab))) (pa_c (zag C_bit_of hr (by omega) (by rfl) (pa_c (zap (zah K) (pv 1) zae (fun _ _ => rfl)) (pa_c (pv 2) zab))) zab)))) zab)))) zak) (zac (zax (zaj za7 (pv 3) zad (nomark _)) (zaf (zai (zar C_Leftovers_of_not T.cl_Leftovers hr (by omega) (pv 0) (pa_c (zar C_Leftovers_of_saying T.cl_Leftovers hr (by omega) (pv 0) (pa_c (zap (zah K) (pv 1) zae (fun _ _ => rfl)) (pa_c (pv 2) zab))) zab)))) zak) (zac (zax (zaj za7 (pv 3) zad (nomark _)) za2 zak) (zac (zax (zaj za7 (pv 3) zad (nomark _)) za2 zak) (zac (zas (i := 4) sc_Leftovers_of_saying.nd rfl (Or.inl rfl) (zay zlb zae (za4 (zaq K) (by rfl) T.b_len boot_len (pa_c (pv 2) zab)))) (zac (zas (i := 5) sc_Leftovers_of_saying.nd rfl (Or.inl rfl) (zar C_Leftovers_of_saying T.cl_Leftovers hr (by omega) (pv 0) (pa_c (zap (zah K) (pv 1) zae (fun _ _ => rfl)) (pa_c (zay zbl (pv 2) (zao (pa_c (zap (zah K) (pv 1) zae (fun _ _ => rfl)) zab))) zab)))) (zac (zax (zaj za7 (pv 3) zad (nomark _)) (zaf (zai (zar C_Leftovers_of_some T.cl_Leftovers hr (by omega) (pv 0) (pa_c (zap (zah K) (pv 1) zae (fun _ _ => rfl)) (pa_c (pv 4) (pa_c (pv 5) zab)))))) zak) (zaf (zai (zar C_Leftovers_of_not T.cl_Leftovers hr (by omega) (pv 0) (pa_c (zar C_Leftovers_of_some T.cl_Leftovers hr (by omega) (pv 0) (pa_c (zap (zah K) (pv 1) zae (fun _ _ => rfl)) (pa_c (pv 4) (pa_c (zar C_Leftovers_of_not T.cl_Leftovers hr (by omega) (pv 0) (pa_c (pv 5) zab)) zab)))) zab)))))))))))), ?_⟩
  refine za3 [some (.ref LA.p), some v, some (.ref b), none, none, none] rfl ?_
  trivial
  obtain ⟨⟨f2, f3⟩, fo, hl4, hfr, hx, hX, hz⟩ := fr12 htl
  rcases (show kd = 0 ∨ kd = 1 ∨ kd = 2 by omega) with rfl | rfl | rfl
  · cases r with
    | bare hw e =>
    rename_i a
    refine ⟨a, rfl, _, .of e, _, zaz, _, _, rfl, .bare hw e, fun H1 g1 => ⟨_, rfl, ?_⟩⟩
    refine iteT ⟨_, _, g1 _ _ L.e1, za5 (by decide) (by decide) (by decide), a, rfl, _, .of (g1 _ _ e), _, zal (j := 1) rfl, b, _, tl, _, rfl, g1 _ _ eb, by omega, rfl, hx, a, rfl, _, .of (g1 _ _ e), _, zal (j := 2) rfl, b, _, tl, _, rfl, g1 _ _ eb, by omega, rfl, hX, zaa (by simp), fun p4 H4 n4 => ?_⟩
    have L4 := L.same (g1.trans n4.g)
    refine ⟨LA, p4, [], [], bareG "in" (tl.idxOf ("x" : Str)) (tl.idxOf ("X" : Str)), rfl, L4, by decide, ⟨_, n4.at', .cons rfl (.cons rfl (.cons rfl .nil))⟩, fun H5 u5 L5 => ?_⟩
    rw [show nxt [] (bareG "in" (tl.idxOf ("x" : Str)) (tl.idxOf ("X" : Str))) = [bareG "in" (tl.idxOf ("x" : Str)) (tl.idxOf ("X" : Str))] from zcb (by simp)] at L5 ⊢
    rw [zaw, if_pos rfl]
    exact q 2 _ H5 ((Same.up3 (g1.trans n4.g)).trans u5) ⟨1, by decide, Nat.le_refl _, rfl⟩ (Nat.lt_succ_self 2) L5
  · cases r with
    | neg e r1 =>
    rename_i a x
    refine ⟨a, rfl, _, .of e, _, zaz, _, _, rfl, .neg e r1, fun H1 g1 => ⟨_, rfl, ?_⟩⟩
    refine iteF ⟨rfl, ?_⟩
    rw [decide_eq_true rfl]
    have L1 := L.same g1
    refine iteT ⟨_, _, L1.e1, za5 (by decide) (by decide) (by decide), _, _, L1.e1, za5 (by decide) (by decide) (by decide), a, rfl, _, .of (g1 _ _ e), _, zal (j := 1) rfl, ?_⟩
    refine ⟨LA, b, x, _, _, _, tl, tl.idxOf ("x" : Str), tl.idxOf ("X" : Str), rfl, L1, r1.same g1, g1 _ _ eb, by omega, rfl, hx, rfl, hX, fun H2 u2 L2 => ?_⟩
    refine ⟨LA, tl.idxOf ("x" : Str), tl.idxOf ("X" : Str), tl.length, 2, _, _, rfl, L2, .inl rfl, by decide, fun H3 u3 => ⟨fun h => absurd h (by decide), fun _ L3 => ?_⟩⟩
    exact q 3 _ H3 ((Same.up3 g1).trans (u2.trans u3)) ⟨2, by decide, Nat.le_refl _, rfl⟩ (Nat.lt_succ_self 3) L3
  · cases r with
    | qu hw e r1 =>
    rename_i a x
    refine ⟨a, rfl, _, .of e, _, zaz, _, _, rfl, .qu hw e r1, fun H1 g1 => ⟨_, rfl, ?_⟩⟩
    refine iteF ⟨rfl, ?_⟩
    rw [decide_eq_false (by intro z; exact absurd (V.str.inj z) (by decide))]
    refine iteF ⟨rfl, ?_⟩
    rw [decide_eq_false (by intro z; exact absurd (V.str.inj z) (by decide))]
    refine iteF ⟨rfl, ?_⟩
    rw [decide_eq_false (by intro z; exact absurd (V.str.inj z) (by decide))]
    have L1 := L.same g1
    have eb1 := g1 _ _ eb
    refine iteF ?_
    have hxm : ("x" : Str) ∈ tl := List.idxOf_lt_length_iff.mp hx
    have ix : (tl ++ [("z" : Str)]).idxOf ("x" : Str) = tl.idxOf ("x" : Str) := by rw [List.idxOf_append, if_pos hxm]
    have iz : (tl ++ [("z" : Str)]).idxOf ("z" : Str) = tl.length := by rw [List.idxOf_append, if_neg hz, List.idxOf_cons_self, Nat.zero_add]
    refine ⟨_, .inl (.of eb1), ⟨by omega, by rw [List.length_map]; omega, by decide⟩, _, _, L1.e1, za5 (by decide) (by decide) (by decide), a, rfl, _, .of (g1 _ _ e), _, zal (j := 2) rfl, a, rfl, _, .of (g1 _ _ e), _, zal (j := 1) rfl, zaa (by simp), fun p2 H2 n2 => ⟨_, n2.g _ _ eb1, _, n2.at', zaa (by rw [List.length_map]; simp only [List.length_cons, List.length_nil]; omega), fun p3 H3 n3 => ?_⟩⟩
    have g3 := g1.trans (n2.g.trans n3.g)
    have L3 := L.same g3
    have ep3 : H3 p3 = some (.lst ((tl ++ [("z" : Str)]).map V.str)) := by rw [n3.at', List.map_append]; rfl
    have e3 := g3 _ _ e
    refine ⟨LA, p3, x, _, _, _, tl ++ [("z" : Str)], tl.idxOf ("x" : Str), tl.length, rfl, L3, r1.same g3, ep3, by rw [List.length_append]; simp; omega, ix, by rw [List.length_append]; omega, iz, by rw [List.length_append]; simp, fun H4 u4 L4 => ⟨rfl, ?_⟩⟩
    rw [decide_eq_true rfl]
    have u04 : Up3 LA H H4 := (Same.up3 g3).trans u4
    have e4 : H4 a = some (.tup [.str "some", .str "z", x]) := L.tups u04 _ _ e
    have epw : (1 : Int) * 2 ^ ((tl.map V.str).length : Int).toNat = ((2 ^ tl.length : Nat) : Int) := by rw [Int.toNat_natCast, Int.one_mul, List.length_map]; simp
    rw [epw]
    refine iteT ⟨_, _, L4.e1, za5 (by decide) (by decide) (by decide), a, rfl, _, .of e4, _, zal (j := 1) rfl, LA, "z", 2 ^ tl.length, 2, _, _, rfl, L4, (show 1 ≤ 10 by decide), rfl, by decide, fun H5 u5 L5 => ?_⟩
    have ns : ¬ bareG "next" (tl.idxOf ("x" : Str)) tl.length = someG (2 ^ tl.length) 2 := fun e => by
      have := List.head_eq_of_cons_eq e
      exact absurd (Sum.inr.inj (Sum.inl.inj this)) (by decide)
    have ex : nxt [bareG "next" (tl.idxOf ("x" : Str)) tl.length] (someG (2 ^ tl.length) 2) = (full 2 (tl.idxOf ("x" : Str)) (tl.idxOf ("X" : Str)) tl.length).take 2 := by
      rw [zcb (by intro h; exact ns (List.mem_singleton.mp h).symm)]; rfl
    rw [ex] at L5
    have e3 : nOf (nxt [bareG "next" (tl.idxOf ("x" : Str)) tl.length] (someG (2 ^ tl.length) 2)) (someG (2 ^ tl.length) 2) = 1 := by
      rw [ex]
      show nOf [_, _] _ = 1
      rw [zaw, if_neg ns, zaw, if_pos rfl]
    rw [e3]
    exact q 3 _ H5 (u04.trans u5) ⟨2, by decide, (show 2 ≤ 4 by decide), rfl⟩ (Nat.lt_succ_self 3) L5
end
end K12
namespace SM
open PySem PySem.Spec PyProof.Rows L2 SS
theorem zo2 {kd i j n l : Nat} {fs : List (List Key2)} (K3 : Kd3 kd i j n) (F : FT kd i j n fs) (h2 : 2 ≤ l) (hl : l < 2 + fs.length) (h0 : ¬ lvl kd l = 0) :
    (kd = 1 ∧ l = 3 ∧ fs = full 1 i j n ∧ (noG :: yesG :: fs)[l]? = some (notG 2)) ∨ (kd = 2 ∧ ∃ u, l = u + 1 ∧ (u = 2 ∨ (u = 4 ∧ 3 ≤ fs.length)) ∧ (noG :: yesG :: fs)[l]? = some (someG (2 ^ n) u)) := by
  have e := F.at h2 hl
  have hk := K3.hk
  obtain ⟨k, k1, k2, rfl⟩ := F
  rw [List.length_take] at hl
  rcases (show kd = 0 ∨ kd = 1 ∨ kd = 2 by omega) with rfl | rfl | rfl
  · exact absurd rfl h0
  · have : (full 1 i j n).length = 2 := rfl
    have k1 : 2 ≤ k := k1
    obtain rfl : k = 2 := by omega
    rcases (show l = 2 ∨ l = 3 by omega) with rfl | rfl
    · exact absurd rfl h0
    · exact .inl ⟨rfl, rfl, rfl, e⟩
  · have : (full 2 i j n).length = 4 := rfl
    have hlen : ((full 2 i j n).take k).length = k := by rw [List.length_take]; omega
    rcases (show l = 2 ∨ l = 3 ∨ l = 4 ∨ l = 5 by omega) with rfl | rfl | rfl | rfl
    · exact absurd rfl h0
    · exact .inr ⟨rfl, 2, rfl, .inl rfl, e⟩
    · exact absurd rfl h0
    · exact .inr ⟨rfl, 4, rfl, .inr ⟨rfl, by rw [hlen]; omega⟩, e⟩
theorem ft1 {i j n : Nat} {fs : List (List Key2)} (F : FT 1 i j n fs) : fs = full 1 i j n := by
  obtain ⟨k, k1, k2, rfl⟩ := F
  have : (full 1 i j n).length = 2 := rfl
  have k1 : 2 ≤ k := k1
  obtain rfl : k = 2 := by omega
  rfl
theorem zq7 {c n : Nat} (hn : n ≤ 3) (hc : c < 2 ^ n) : Builtin.bitOr ((c : Nat) : Int) ((2 ^ n : Nat) : Int) = ((c + 2 ^ n : Nat) : Int) ∧ bit (c + 2 ^ n) n = true ∧ bit c n = false ∧ c + 2 ^ n < 16 := by
  have h : ∀ n : Fin 4, ∀ c : Fin (2 ^ (n : Nat)), Builtin.bitOr (((c : Nat) : Nat) : Int) ((2 ^ (n : Nat) : Nat) : Int) = (((c : Nat) + 2 ^ (n : Nat) : Nat) : Int) ∧ bit ((c : Nat) + 2 ^ (n : Nat)) n = true ∧ bit (c : Nat) n = false ∧ (c : Nat) + 2 ^ (n : Nat) < 16 := by decide +kernel
  exact h ⟨n, by omega⟩ ⟨c, hc⟩
end SM
namespace K12
open PySem PySem.Spec PyProof.Rows L2 SS SM
local macro_rules | `(tactic| trivial) => `(tactic| simp only [exists_eq', rEqI, rNeI, rInDc, rLenD, rLenT, rDictOf, rMaxL, rIndex, rCatTN, rCatTE, tDNewN, tDNewTN, tDisp1T, rNeM, rRange2, rListRng, rRepN, rPopAt, rSetL, gSub, ipI, tDGet, tDGet2, sDPut, iEnum, iEZ, iZipL, iRng3, rIndexT, tFld, sFld, tMeth, tMake, gLst, rNotInN, sDPutN, tDGetN, tDNew2, rSortS, tRaise, tTryA, rIsX, rIsXT, rInsert, iZip, rInD, rIxD, rLen, rAll, rAny, rSum, rListOf, rEqS, rNeS, rSlTN, rStrB, tTupN, tLstN, rSlLN, rCatN, cxK, cxP, cxW, tSeq, tIfS, tTest, tB, tOp, tUn, tC, tAnd, tOr, tNot, tAndV, tOrV, tNotV, tIf, tNext, tBreak, tCont, tDrop, tRet, tRetN, gName, gNil, gCons, gTup, tAsg, tPar, tAug, rI, rI0, rU, rEq, rNe, tChain, tNil, tCons, tTup, tLst, tCall, tCB, tNoPart, tPart, tSl, rSlT, rSlL, rSlS, rIxL, rIxT, rIxS, rIn, tBM0, tBM, tyV, rAppend, rExtend, rCat, rZfill, rEqD, iList, iTup, iStr, iRng1, iRng2, tYes, tDisp, tPairs, zpw, zpv, zhg, zky, zfd, zfe, List.set_cons_zero, List.set_cons_succ, List.nil_append, List.cons_append, List.append_nil, V.int.injEq, V.str.injEq, V.bl.injEq, V.ref.injEq, V.ty.injEq, List.cons.injEq, and_true, true_and, exists_eq_left, exists_eq_left', exists_and_left, exists_eq, exists_const, if_true, if_false, ite_true, ite_false, zpx, zpy, zpz, zp0, zp1, Option.some.injEq, exists_eq_right, exists_eq_right', and_assoc, reduceCtorEq, false_and, and_false, false_or, or_false, exists_false])
seal PE PT PW PA PS PSs
section
variable {P : Program} {w : World} {K : PySem.W.Frag} {mg : Str → Option Value} {base : Heap} {tw rw fa cLeftovers cSayError : Addr} {cs : List Addr}
abbrev s_Leftovers_behind_bare : Stmt := inClass (top 43) 11
theorem sc_Leftovers_behind_bare : FnScope ["self", "left", "one", "other", "form"] ["self", "left", "one", "other"] (defScope s_Leftovers_behind_bare) := ⟨rfl, rfl, rfl, by decide +kernel, rfl, by decide +kernel, by decide +kernel⟩
theorem zr3 (T : Txt K mg w tw rw fa cLeftovers cSayError cs) (d : DfnM K cLeftovers "behind_bare" "Leftovers.behind_bare" s_Leftovers_behind_bare ["self", "left", "one", "other"]) (C_Leftovers_numbered : CalM P w K mg base 1 cLeftovers "numbered" ["self", "form"] (zcy P w cLeftovers)) : CalM P w K mg base 2 cLeftovers "behind_bare" ["self", "left", "one", "other"] (zkk P w cLeftovers) := by
  refine d.cal sc_Leftovers_behind_bare (fun vs H Q E h => ?_) (fun f cdv A outer s H vs Q E hr h => ?_)
  · obtain ⟨A, kd, i, j, n, l, one, other, fs, sts, rfl, _⟩ := h
    rfl
  obtain ⟨LA, kd, i, j, n, l, one, other, fs, sts, rfl, K3, L, F, h2, hl, h0, q⟩ := h
  refine ⟨_, (zac (zas (i := 4) sc_Leftovers_behind_bare.nd rfl (Or.inl rfl) (zap (zbb K) (zbt (pv 0) (by rfl)) (pv 1) (fun _ _ => rfl))) (zac (zax (zaj za7 (zap (zah K) (pv 4) zae (fun _ _ => rfl)) zad (nomark _)) (zaf (zai (zch (PW.pt (zin (zbe (pv 2)) (zff (zb4 (zbe (pv 3)))))) (zba (by rfl) T.g_NO) (pv 1)))) zak) (zac (zax (zaj za7 (zap (zah K) (pv 4) zae (fun _ _ => rfl)) zad (nomark _)) (zaf (zai (zch (zbe (pv 2)) (zba (by rfl) T.g_YES) (zba (by rfl) T.g_NO)))) zak) (zac (zax (PW.pt (zin (zb4 (zbe (pv 2))) (zff (PW.pt (zej (zb4 (zbe (pv 3))) (zc9 (zaj za7 (zap (zah K) (pv 4) zae (fun _ _ => rfl)) zad (nomark _)))))))) (zaf (zai (pv 1))) zak) (zac (zax (zaj (zbo K) (zap (zah K) (pv 4) zae (fun _ _ => rfl)) (zam (pa_c zad (pa_c zad zab))) (by with_unfolding_all rfl)) (zaf (zai (zch (PW.pt (zin (zbe (pv 2)) (zff (zbe (pv 3))))) (zba (by rfl) T.g_YES) (zba (by rfl) T.g_NO)))) zak) (zac (zax (zbe (pv 3)) (zaf (zai (zba (by rfl) T.g_NO))) zak) (zaf (zai (zch (zaj za7 (zap (zah K) (pv 4) zae (fun _ _ => rfl)) zad (nomark _)) (zba (by rfl) T.g_YES) (zar C_Leftovers_numbered T.cl_Leftovers hr (by omega) (pv 0) (pa_c (zam (pa_c zad (pa_c (zap (zah K) (pv 4) zae (fun _ _ => rfl)) (pa_c (zap (zah K) (pv 4) zae (fun _ _ => rfl)) zab)))) zab))))))))))), ?_⟩
  refine za3 [some (.ref LA.p), some (nV l), some (.bl one), some (.bl other), none] rfl ?_
  trivial
  obtain ⟨wd, a, b, ek, ha, hb, hs, hc⟩ := zec K3 F h2 hl h0
  obtain ⟨rs, ad, e6, el, vs, ev, pv⟩ := L.form ek
  have evs : vs = [.str wd, nV (2 ^ a), nV (2 ^ b)] := by
    cases pv with
    | cons h1 pv => cases pv with
      | cons h2 pv => cases pv with
        | cons h3 pv => cases pv; rw [show _ = _ from h1, show _ = _ from h2, show _ = _ from h3]; rfl
  subst evs
  have q' : ∀ r, sB kd l one other = r → r < 2 + fs.length → Q (nV r) H := fun r e h => by subst e; exact q fs H (Up3.refl _ _) F (Nat.le_refl _) h L
  have q2 : ∀ H1, Same H H1 → ∀ r, sB kd l one other = r → r < 2 + fs.length → Q (nV r) H1 := fun H1 g r e h => by subst e; exact q fs H1 (Same.up3 g) F (Nat.le_refl _) h (L.same g)
  refine ⟨_, _, _, L.e1, T.cl_Leftovers, T.n_forms, _, zbh, LA.pf, rfl, _, .of e6, _, zal el, ad, rfl, _, .of ev, _, zaz, rfl, ?_⟩
  have nn : ∀ z : Str, ¬ wd = z → ¬ V.str wd = V.str z := fun z h e => h (V.str.inj e)
  rcases hc with ⟨hk1, rfl, rfl⟩ | ⟨rfl, rfl, rfl, rfl⟩ | ⟨rfl, rfl, rfl, rfl, rfl⟩
  · have es : sB kd 2 one other = sIn one other := by
      rcases (show kd = 0 ∨ kd = 1 by omega) with rfl | rfl <;> rfl
    rw [es] at q' q2
    rw [decide_eq_false (nn _ (by decide))]
    refine iteF ⟨ad, rfl, _, .of ev, _, zaz, rfl, ?_⟩
    rw [decide_eq_false (nn _ (by decide))]
    refine iteF ?_
    cases one <;> cases other
    · exact iteT (iteT (q' 2 rfl (by omega)))
    · refine iteT (iteF ⟨ad, rfl, _, .of ev, _, zaz, rfl, ?_⟩)
      rw [decide_eq_true rfl]
      exact iteT (q' 2 rfl (by omega))
    · refine iteF ⟨ad, rfl, _, .of ev, _, zaz, zaa (by simp), fun p1 H1 n1 => ⟨_, .inr (.of n1.at'), rfl, rfl, ?_⟩⟩
      rw [show inV (V.str "in") [V.str "in", V.str "same"] = true from by decide +kernel]
      exact iteT (iteT (iteF (q2 H1 n1.g 0 rfl (by omega))))
    · refine iteF ⟨ad, rfl, _, .of ev, _, zaz, zaa (by simp), fun p1 H1 n1 => ⟨_, .inr (.of n1.at'), rfl, rfl, ?_⟩⟩
      rw [show inV (V.str "in") [V.str "in", V.str "same"] = true from by decide +kernel]
      exact iteT (iteT (iteT (q2 H1 n1.g 1 rfl (by omega))))
  · rw [decide_eq_false (nn _ (by decide))]
    refine iteF ⟨ad, rfl, _, .of ev, _, zaz, rfl, ?_⟩
    rw [decide_eq_false (nn _ (by decide))]
    refine iteF ?_
    cases one <;> cases other
    · exact iteT (iteT (q' 2 rfl (by omega)))
    · refine iteT (iteF ⟨ad, rfl, _, .of ev, _, zaz, rfl, ?_⟩)
      rw [decide_eq_false (nn _ (by decide))]
      refine iteF ⟨ad, rfl, _, .of ev, _, zaz, zaa (by simp), fun p1 H1 n1 => ⟨_, .inr (.of n1.at'), rfl, rfl, ?_⟩⟩
      rw [show inV (V.str "next") [V.str "in", V.str "same"] = false from by decide +kernel]
      exact iteF (iteT (q2 H1 n1.g 0 rfl (by omega)))
    · refine iteF ⟨ad, rfl, _, .of ev, _, zaz, zaa (by simp), fun p1 H1 n1 => ⟨_, .inr (.of n1.at'), rfl, rfl, ?_⟩⟩
      rw [show inV (V.str "next") [V.str "in", V.str "same"] = false from by decide +kernel]
      refine iteF (iteF ⟨ad, rfl, _, .of (n1.g _ _ ev), _, zaz, rfl, ?_⟩)
      rw [decide_eq_false (nn _ (by decide))]
      have L1 := L.same n1.g
      refine iteF ⟨_, _, L1.e1, za5 (by decide) (by decide) (by decide), ad, rfl, _, .of (n1.g _ _ ev), _, zal (j := 2) rfl, ad, rfl, _, .of (n1.g _ _ ev), _, zal (j := 2) rfl, zaa (by simp), fun p4 H4 n4 => ?_⟩
      obtain ⟨k1, k2, k3, k4⟩ := zoe F
      have := F.len
      refine ⟨LA, p4, fs, sts, bareG "here" b b, rfl, L1.same n4.g, by omega, ⟨_, n4.at', .cons rfl (.cons rfl (.cons rfl .nil))⟩, fun H5 u5 L5 => ?_⟩
      rw [k4]
      exact q _ H5 ((Same.up3 (n1.g.trans n4.g)).trans u5) k1 k2 (by show 4 < _; omega) L5
    · refine iteF ⟨ad, rfl, _, .of ev, _, zaz, zaa (by simp), fun p1 H1 n1 => ⟨_, .inr (.of n1.at'), rfl, rfl, ?_⟩⟩
      rw [show inV (V.str "next") [V.str "in", V.str "same"] = false from by decide +kernel]
      exact iteF (iteT (q2 H1 n1.g 0 rfl (by omega)))
  · rw [decide_eq_false (nn _ (by decide))]
    refine iteF ⟨ad, rfl, _, .of ev, _, zaz, rfl, ?_⟩
    rw [decide_eq_true rfl]
    refine iteT ?_
    cases one
    · exact q' 0 rfl (by omega)
    · exact q' 1 rfl (by omega)
abbrev s_Leftovers_behind_form : Stmt := inClass (top 43) 10
theorem sc_Leftovers_behind_form : FnScope ["self", "left", "letter", "form", "without", "placed"] ["self", "left", "letter"] (defScope s_Leftovers_behind_form) := ⟨rfl, rfl, rfl, by decide +kernel, rfl, by decide +kernel, by decide +kernel⟩
theorem zql (T : Txt K mg w tw rw fa cLeftovers cSayError cs) (d : DfnM K cLeftovers "behind_form" "Leftovers.behind_form" s_Leftovers_behind_form ["self", "left", "letter"]) (C_Leftovers_behind_bare : CalM P w K mg base 2 cLeftovers "behind_bare" ["self", "left", "one", "other"] (zkk P w cLeftovers)) : CalM P w K mg base 3 cLeftovers "behind_form" ["self", "left", "letter"] (zki P w cLeftovers 0) := by
  refine d.cal sc_Leftovers_behind_form (fun vs H Q E h => ?_) (fun f cdv A outer s H vs Q E hr h => ?_)
  · obtain ⟨A, kd, i, j, n, l, c, fs, sts, rfl, _⟩ := h
    rfl
  obtain ⟨LA, kd, i, j, n, l, c, fs, sts, rfl, K3, L, F, S, hs300, h2, hl, h0, hc, _, q⟩ := h
  have h0 : lvl kd l = 0 := by omega
  refine ⟨_, (zac (zas (i := 3) sc_Leftovers_behind_form.nd rfl (Or.inr rfl) (zap (zbb K) (zbt (pv 0) (by rfl)) (pv 1) (fun _ _ => rfl))) (zac (zax (zaj za7 (zap (zah K) (pv 3) zae (fun _ _ => rfl)) zad (nomark _)) za2 zak) (zac (zax (zaj za7 (zap (zah K) (pv 3) zae (fun _ _ => rfl)) zad (nomark _)) za2 zak) (zac (zax (zaj za7 (zap (zah K) (pv 3) zae (fun _ _ => rfl)) zad (nomark _)) za2 zak) (zac (zax (zaj za7 (zap (zah K) (pv 3) zae (fun _ _ => rfl)) zad (nomark _)) za2 zak) (zaf (zai (zar C_Leftovers_behind_bare T.cl_Leftovers hr (by omega) (pv 0) (pa_c (pv 1) (pa_c (zbg zhl (zay zgj (pv 2) (zap (zah K) (pv 3) zae (fun _ _ => rfl))) zae (nomark _)) (pa_c (zbg zhl (zay zgj (pv 2) (zap (zah K) (pv 3) zae (fun _ _ => rfl))) zae (nomark _)) zab))))))))))), ?_⟩
  refine za3 [some (.ref LA.p), some (nV l), some (nV c), none, none, none] rfl ?_
  trivial
  obtain ⟨wd, a, b, ek, ha, hb, hs, hcs⟩ := zec K3 F h2 hl h0
  obtain ⟨rs, ad, e6, el, vs, ev, pv⟩ := L.form ek
  have evs : vs = [.str wd, nV (2 ^ a), nV (2 ^ b)] := by
    cases pv with
    | cons h1 pv => cases pv with
      | cons h2 pv => cases pv with
        | cons h3 pv => cases pv; rw [show _ = _ from h1, show _ = _ from h2, show _ = _ from h3]; rfl
  subst evs
  have nn : ∀ z : Str, z ∈ (["not", "and", "some set", "some place"] : List Str) → ¬ V.str wd = V.str z := fun z hz e => by
    have := V.str.inj e
    subst this
    simp only [List.mem_cons, List.not_mem_nil, or_false] at hz
    rcases hcs with ⟨_, _, hw⟩ | ⟨_, _, hw, _⟩ | ⟨_, _, hw, _⟩ <;> rcases hz with rfl | rfl | rfl | rfl <;> exact absurd hw (by decide)
  refine ⟨_, _, _, L.e1, T.cl_Leftovers, T.n_forms, _, zbh, LA.pf, rfl, _, .of e6, _, zal el, ad, rfl, _, .of ev, _, zaz, rfl, ?_⟩
  rw [decide_eq_false (nn _ (by decide))]
  refine iteF ⟨ad, rfl, _, .of ev, _, zaz, rfl, ?_⟩
  rw [decide_eq_false (nn _ (by decide))]
  refine iteF ⟨ad, rfl, _, .of ev, _, zaz, rfl, ?_⟩
  rw [decide_eq_false (nn _ (by decide))]
  refine iteF ⟨ad, rfl, _, .of ev, _, zaz, rfl, ?_⟩
  rw [decide_eq_false (nn _ (by decide))]
  refine iteF ⟨_, _, L.e1, za5 (by decide) (by decide) (by decide), ad, rfl, _, .of ev, _, zal (j := 1) rfl, _, rfl, ad, rfl, _, .of ev, _, zal (j := 2) rfl, _, rfl, ?_⟩
  rw [zdn (by omega) (by omega), zdn (by omega) (by omega)]
  refine ⟨LA, kd, i, j, n, l, bit c a, bit c b, fs, sts, rfl, K3, L, F, h2, hl, h0, fun fs' H' u' F' hf' hb' L' => ?_⟩
  rw [← hs c] at hb' ⊢
  exact q fs' sts H' u' F' hf' (S.more hf') (by omega) hb' L'
abbrev s_Leftovers_behind : Stmt := inClass (top 43) 9
theorem sc_Leftovers_behind : FnScope ["self", "left", "letter", "step"] ["self", "left", "letter"] (defScope s_Leftovers_behind) := ⟨rfl, rfl, rfl, by decide +kernel, rfl, by decide +kernel, by decide +kernel⟩
theorem zoz {lv : Nat} (hv1 : lv ≤ 1) (T : Txt K mg w tw rw fa cLeftovers cSayError cs) (d : DfnM K cLeftovers "behind" "Leftovers.behind" s_Leftovers_behind ["self", "left", "letter"]) (C_Leftovers_behind_form : CalM P w K mg base (3 + 2 * lv) cLeftovers "behind_form" ["self", "left", "letter"] (zki P w cLeftovers lv)) : CalM P w K mg base (3 + 2 * lv + 1) cLeftovers "behind" ["self", "left", "letter"] (zkj P w cLeftovers lv) := by
  refine d.cal sc_Leftovers_behind (fun vs H Q E h => ?_) (fun f cdv A outer s H vs Q E hr h => ?_)
  · obtain ⟨A, kd, i, j, n, l, c, fs, sts, rfl, _⟩ := h
    rfl
  obtain ⟨LA, kd, i, j, n, l, c, fs, sts, rfl, K3, L, F, S, hs, hl, hlv, hc, hcn, q⟩ := h
  have hu := zjs hr 8 (by omega)
  refine ⟨_, (zac (zax (PW.pt (zej (zaj za7 (pv 1) (zba (by rfl) T.g_NO) (nomark _)) (zc9 (zaj za7 (pv 1) (zba (by rfl) T.g_YES) (nomark _))))) (zaf (zai (pv 1))) zak) (zac (zas (i := 3) sc_Leftovers_behind.nd rfl (Or.inl rfl) (zam (pa_c (pv 1) (pa_c (pv 2) zab)))) (zds (zax (zaj (zjg hu) (pv 3) (zbt (pv 0) (by rfl)) (by with_unfolding_all rfl)) (zaf (zne hu (zbt (pv 0) (by rfl)) (pv 3) (zar C_Leftovers_behind_form T.cl_Leftovers hr (by omega) (pv 0) (pa_c (pv 1) (pa_c (pv 2) zab))) rfl)) zak) (zaf (zai (znn hu (zbt (pv 0) (by rfl)) (pv 3) (fun _ _ => rfl))))))), ?_⟩
  refine za3 [some (.ref LA.p), some (nV l), some (nV c), none] rfl ?_
  trivial
  by_cases h0 : l = 0
  · subst h0
    have e0 : sF kd i j n 0 c = 0 := by unfold sF; rfl
    rw [e0] at q
    exact iteT (q fs sts H (Up3.refl _ _) F (Nat.le_refl _) S (by omega) (by omega) L)
  rw [decide_eq_false (by omega)]
  refine iteF ?_
  by_cases h1 : l = 1
  · subst h1
    have e0 : sF kd i j n 1 c = 1 := by unfold sF; rfl
    rw [e0] at q
    exact iteT (q fs sts H (Up3.refl _ _) F (Nat.le_refl _) S (by omega) (by omega) L)
  rw [decide_eq_false (by omega)]
  refine iteF ⟨zaa (by simp), fun p1 H1 n1 => ?_⟩
  refine ⟨fun σ' H' => σ' = [some (.ref LA.p), some (nV l), some (nV c), some (.ref p1)] ∧ H' p1 = some (.tup [nV l, nV c]) ∧ ∃ fs' sts', Up3 LA H H' ∧ FT kd i j n fs' ∧ fs.length ≤ fs'.length ∧ StG kd i j n fs' sts' ∧ sts'.length ≤ sts.length + 2 * lv + 1 ∧ sF kd i j n l c < 2 + fs'.length ∧ Lg P w cLeftovers LA fs' sts' H' ∧ valV sts' [.inl (l : Int), .inl (c : Int)] = some (nV (sF kd i j n l c)), ?_, ?_⟩
  · trivial
    have L1 := L.same n1.g
    refine ⟨_, _, _, L1.e1, T.cl_Leftovers, T.n_steps, _, zfm, LA.ps, rfl, _, DGet.t (k := [.inl (l : Int), .inl (c : Int)]) L1.es n1.at', ?_⟩
    cases hv : valV sts [.inl (l : Int), .inl (c : Int)] with
    | some v =>
      obtain ⟨rfl, hb⟩ := S l c v hv
      exact iteF ⟨n1.at', Same.up3 n1.g, fs, F, Nat.le_refl _, sts, S, by omega, hb, L1, hv⟩
    | none =>
      refine iteT ⟨_, _, L1.e1, za5 (by decide) (by decide) (by decide), LA, kd, i, j, n, l, c, fs, sts, rfl, K3, L1, F, S, by omega, by omega, hl, hlv, hc, hcn, fun fs' sts' H' u' F' hf' S' hs' hb' L' => ?_⟩
      have ep1 := L1.tups u' _ _ n1.at'
      refine ⟨_, _, _, L'.e1, T.cl_Leftovers, T.n_steps, _, zfm, LA.ps, rfl, _, DPut.t (k := [.inl (l : Int), .inl (c : Int)]) L'.es ep1 (small1000 (by omega)), ?_⟩
      have u5 : Up3 LA H' (upd H' LA.ps (.dT (putK sts' [.inl (l : Int), .inl (c : Int)] (nV (sF kd i j n l c))))) := fun b o _ _ hb e => by rw [zan hb]; exact e
      obtain ⟨rs, e6, e7⟩ := L'.ef
      obtain ⟨ys, e8, ky, ef, ev⟩ := L'.en
      have ts5 := L'.tups u5
      refine ⟨ts5 _ _ ep1, (Same.up3 n1.g).trans (u'.trans u5), fs', F', hf', _, ?_, ?_, hb', ⟨?_, ⟨rs, ?_, L2.Paired.mapP e7 fun _ _ z => z.ts ts5⟩, ⟨ys, ?_, ky.ts ts5, ef, ev⟩, zau⟩, by rw [zh7, if_pos rfl]⟩
      · intro l' c' v' e
        rw [zh7] at e
        split at e
        · rename_i ee
          simp only [List.cons.injEq, Sum.inl.injEq, and_true] at ee
          obtain rfl : l' = l := by omega
          obtain rfl : c' = c := by omega
          cases e
          exact ⟨rfl, hb'⟩
        · exact S' l' c' v' e
      · have := zb0 sts' [.inl (l : Int), .inl (c : Int)] (nV (sF kd i j n l c))
        omega
      · exact L'.ins u5 L'.e1
      · rw [zan (zdz e6 L'.es (by intro z; cases z))]; exact e6
      · rw [zan (zdz e8 L'.es (by intro z; cases z))]; exact e8
  · rintro σ' H' ⟨rfl, ep1, fs', sts', u', F', hf', S', hs', hb', L', hv⟩
    trivial
    have z := DGet.t (k := [.inl (l : Int), .inl (c : Int)]) L'.es ep1
    rw [hv] at z
    exact ⟨_, _, _, L'.e1, T.cl_Leftovers, T.n_steps, _, zfm, LA.ps, rfl, _, z, q fs' sts' H' u' F' hf' S' hs' hb' L'⟩
theorem zqk (T : Txt K mg w tw rw fa cLeftovers cSayError cs) (d : DfnM K cLeftovers "behind_form" "Leftovers.behind_form" s_Leftovers_behind_form ["self", "left", "letter"]) (C_Leftovers_behind_bare : CalM P w K mg base 2 cLeftovers "behind_bare" ["self", "left", "one", "other"] (zkk P w cLeftovers)) (C_Leftovers_behind : CalM P w K mg base 4 cLeftovers "behind" ["self", "left", "letter"] (zkj P w cLeftovers 0)) (C_Leftovers_of_not : CalM P w K mg base 2 cLeftovers "of_not" ["self", "left"] (zg8 P w cLeftovers)) (C_Leftovers_of_some_place : CalM P w K mg base 2 cLeftovers "of_some_place" ["self", "bit", "unplaced", "lefts"] (zkh P w cLeftovers)) : CalM P w K mg base 5 cLeftovers "behind_form" ["self", "left", "letter"] (zki P w cLeftovers 1) := by
  refine d.cal sc_Leftovers_behind_form (fun vs H Q E h => ?_) (fun f cdv A outer s H vs Q E hr h => ?_)
  · obtain ⟨A, kd, i, j, n, l, c, fs, sts, rfl, _⟩ := h
    rfl
  obtain ⟨LA, kd, i, j, n, l, c, fs, sts, rfl, K3, L, F, S, hs300, h2, hl, hlv, hc, hcn, q⟩ := h
  have hcn := hcn rfl
  refine ⟨_, (zac (zas (i := 3) sc_Leftovers_behind_form.nd rfl (Or.inr rfl) (zap (zbb K) (zbt (pv 0) (by rfl)) (pv 1) (fun _ _ => rfl))) (zac (zax (zaj za7 (zap (zah K) (pv 3) zae (fun _ _ => rfl)) zad (nomark _)) (zaf (zai (zar C_Leftovers_of_not T.cl_Leftovers hr (by omega) (pv 0) (pa_c (zar C_Leftovers_behind T.cl_Leftovers hr (by omega) (pv 0) (pa_c (zap (zah K) (pv 3) zae (fun _ _ => rfl)) (pa_c (pv 2) zab))) zab)))) zak) (zac (zax (zaj za7 (zap (zah K) (pv 3) zae (fun _ _ => rfl)) zad (nomark _)) za2 zak) (zac (zax (zaj za7 (zap (zah K) (pv 3) zae (fun _ _ => rfl)) zad (nomark _)) za2 zak) (zac (zax (zaj za7 (zap (zah K) (pv 3) zae (fun _ _ => rfl)) zad (nomark _)) (zac (zp3 (i := 5) sc_Leftovers_behind_form.nd rfl (Or.inl rfl) ["inner"] [(2, "letter"), (0, "self")] (CompOk.of rfl (by rfl) (by rfl)) (by rfl) (zfg K (zap (zah K) (pv 3) zae (fun _ _ => rfl))) (fun _ _ _ _ _ => (za9 (i := 0) (show List.Nodup (["inner", "letter", "self"] : List Str) by decide +kernel) (by rfl) (Or.inl (by rfl)))) (fun _ _ _ _ _ => zca) (fun _ _ _ _ _ => (zar C_Leftovers_behind T.cl_Leftovers hr (by omega) (pv 2) (pa_c (pv 0) (pa_c (pv 1) zab))))) (zac (zc0 (zis K PySem.F.plainAttrs_list PySem.F.slot_list_append PySem.F.type_list_append zd0 (pv 5) (pa_c (zar C_Leftovers_behind T.cl_Leftovers hr (by omega) (pv 0) (pa_c (zap (zah K) (pv 3) zae (fun _ _ => rfl)) (pa_c (zay zsr (pv 2) (zap (zah K) (pv 3) zae (fun _ _ => rfl))) zab))) zab))) (zaf (zai (zar C_Leftovers_of_some_place T.cl_Leftovers hr (by omega) (pv 0) (pa_c (zap (zah K) (pv 3) zae (fun _ _ => rfl)) (pa_c (zar C_Leftovers_behind T.cl_Leftovers hr (by omega) (pv 0) (pa_c (zap (zah K) (pv 3) zae (fun _ _ => rfl)) (pa_c (pv 2) zab))) (pa_c (pv 5) zab)))))))) zak) (zaf (zai (zar C_Leftovers_behind_bare T.cl_Leftovers hr (by omega) (pv 0) (pa_c (pv 1) (pa_c (zbg zhl (zay zgj (pv 2) (zap (zah K) (pv 3) zae (fun _ _ => rfl))) zae (nomark _)) (pa_c (zbg zhl (zay zgj (pv 2) (zap (zah K) (pv 3) zae (fun _ _ => rfl))) zae (nomark _)) zab))))))))))), ?_⟩
  refine za3 [some (.ref LA.p), some (nV l), some (nV c), none, none, none] rfl ?_
  trivial
  by_cases h0 : lvl kd l = 0
  · obtain ⟨wd, a, b, ek, ha, hb, hs, hcs⟩ := zec K3 F h2 hl h0
    obtain ⟨rs, ad, e6, el, vs, ev, pv⟩ := L.form ek
    have evs : vs = [.str wd, nV (2 ^ a), nV (2 ^ b)] := by
      cases pv with
      | cons h1 pv => cases pv with
        | cons h2 pv => cases pv with
          | cons h3 pv => cases pv; rw [show _ = _ from h1, show _ = _ from h2, show _ = _ from h3]; rfl
    subst evs
    have nn : ∀ z : Str, z ∈ (["not", "and", "some set", "some place"] : List Str) → ¬ V.str wd = V.str z := fun z hz e => by
      have := V.str.inj e
      subst this
      simp only [List.mem_cons, List.not_mem_nil, or_false] at hz
      rcases hcs with ⟨_, _, hw⟩ | ⟨_, _, hw, _⟩ | ⟨_, _, hw, _⟩ <;> rcases hz with rfl | rfl | rfl | rfl <;> exact absurd hw (by decide)
    refine ⟨_, _, _, L.e1, T.cl_Leftovers, T.n_forms, _, zbh, LA.pf, rfl, _, .of e6, _, zal el, ad, rfl, _, .of ev, _, zaz, rfl, ?_⟩
    rw [decide_eq_false (nn _ (by decide))]
    refine iteF ⟨ad, rfl, _, .of ev, _, zaz, rfl, ?_⟩
    rw [decide_eq_false (nn _ (by decide))]
    refine iteF ⟨ad, rfl, _, .of ev, _, zaz, rfl, ?_⟩
    rw [decide_eq_false (nn _ (by decide))]
    refine iteF ⟨ad, rfl, _, .of ev, _, zaz, rfl, ?_⟩
    rw [decide_eq_false (nn _ (by decide))]
    refine iteF ⟨_, _, L.e1, za5 (by decide) (by decide) (by decide), ad, rfl, _, .of ev, _, zal (j := 1) rfl, _, rfl, ad, rfl, _, .of ev, _, zal (j := 2) rfl, _, rfl, ?_⟩
    rw [zdn (by omega) (by omega), zdn (by omega) (by omega)]
    refine ⟨LA, kd, i, j, n, l, bit c a, bit c b, fs, sts, rfl, K3, L, F, h2, hl, h0, fun fs' H' u' F' hf' hb' L' => ?_⟩
    rw [← hs c] at hb' ⊢
    exact q fs' sts H' u' F' hf' (S.more hf') (by omega) hb' L'
  rcases zo2 K3 F h2 hl h0 with ⟨rfl, rfl, rfl, ek⟩ | ⟨rfl, u, rfl, hu, ek⟩
  · obtain ⟨rs, ad, e6, el, vs, ev, pv⟩ := L.form ek
    have evs : vs = [.str "not", nV 2] := by
      cases pv with
      | cons h1 pv => cases pv with
        | cons h2 pv => cases pv; rw [show _ = _ from h1, show _ = _ from h2]; rfl
    subst evs
    refine ⟨_, _, _, L.e1, T.cl_Leftovers, T.n_forms, _, zbh, LA.pf, rfl, _, .of e6, _, zal el, ad, rfl, _, .of ev, _, zaz, rfl, ?_⟩
    rw [decide_eq_true rfl]
    refine iteT ⟨_, _, L.e1, za5 (by decide) (by decide) (by decide), _, _, L.e1, za5 (by decide) (by decide) (by decide), ad, rfl, _, .of ev, _, zal (j := 1) rfl, ?_⟩
    have hfl : (full 1 i j n).length = 2 := rfl
    refine ⟨LA, 1, i, j, n, 2, c, _, sts, rfl, K3, L, F, S, by omega, by omega, by decide, hc, (fun h => absurd h (by decide)), fun fs' sts' H' u' F' hf' S' hs' hb' L' => ?_⟩
    have ef := ft1 F'
    have e2 : sF 1 i j n 2 c = sIn (bit c i) (bit c j) := rfl
    have e3 : sF 1 i j n 3 c = if bit c i = true then (if bit c j = true then 0 else 1) else 3 := rfl
    have hle : sF 1 i j n 2 c ≤ 2 := by rw [e2]; unfold sIn; split; split <;> omega; omega
    have hlt : sF 1 i j n 3 c < 2 + fs'.length := by rw [e3, ef, hfl]; split; split <;> omega; omega
    refine ⟨LA, i, j, n, sF 1 i j n 2 c, fs', sts', rfl, L', .inr ef, hle, fun H5 u5 => ⟨fun h5 L5 => ?_, fun h5 L5 => ?_⟩⟩
    · have ee : 1 - sF 1 i j n 2 c = sF 1 i j n 3 c := by
        rw [e2] at h5
        rw [e2, e3]
        unfold sIn at h5 ⊢
        revert h5
        cases bit c i <;> cases bit c j <;> decide
      rw [ee]
      exact q fs' sts' H5 (u'.trans u5) F' hf' S' (by omega) hlt L5
    · have ee : sF 1 i j n 3 c = 3 := by
        rw [e2] at h5
        rw [e3]
        unfold sIn at h5
        cases hb : bit c i
        · rfl
        · rw [hb] at h5; cases hb2 : bit c j <;> rw [hb2] at h5 <;> exact absurd h5 (by decide)
      rw [ee] at q
      rw [← ef] at L5
      exact q fs' sts' H5 (u'.trans u5) F' hf' S' (by omega) (by rw [ef, hfl]; omega) L5
  · obtain ⟨rs, ad, e6, el, vs, ev, pv⟩ := L.form ek
    obtain ⟨ae, hae, evs⟩ : ∃ ae, H ae = some (.tup []) ∧ vs = [.str "some place", nV (2 ^ n), nV u, .ref ae] := by
      cases pv with
      | cons h1 pv => cases pv with
        | cons h2 pv => cases pv with
          | cons h3 pv => cases pv with
            | cons h4 pv =>
              cases pv
              obtain ⟨ae, e4, h4⟩ := h4
              exact ⟨ae, h4, by rw [show _ = _ from h1, show _ = _ from h2, show _ = _ from h3, e4]; rfl⟩
    subst evs
    have nn : ∀ z : Str, ¬ ("some place" : Str) = z → ¬ V.str "some place" = V.str z := fun z h e => h (V.str.inj e)
    refine ⟨_, _, _, L.e1, T.cl_Leftovers, T.n_forms, _, zbh, LA.pf, rfl, _, .of e6, _, zal el, ad, rfl, _, .of ev, _, zaz, rfl, ?_⟩
    rw [decide_eq_false (nn _ (by decide))]
    refine iteF ⟨ad, rfl, _, .of ev, _, zaz, rfl, ?_⟩
    rw [decide_eq_false (nn _ (by decide))]
    refine iteF ⟨ad, rfl, _, .of ev, _, zaz, rfl, ?_⟩
    rw [decide_eq_false (nn _ (by decide))]
    refine iteF ⟨ad, rfl, _, .of ev, _, zaz, rfl, ?_⟩
    rw [decide_eq_true rfl]
    refine iteT ?_
    obtain ⟨bo, bt, bf, b16⟩ := zq7 K3.hn hcn
    have hFl := F.len
    refine ⟨ad, rfl, _, .of ev, _, zal (j := 3) rfl, ae, rfl, ⟨_, .of hae⟩, zmm (K := K) (a := ae) (xs := []) (fun _ => True) id (by decide) (.of hae) trivial (fun D i σ H x hi => absurd hi (Nat.not_lt_zero _)) ?_⟩
    intro D H1 hD g1 eD
    have L1 := L.same g1
    obtain ⟨rs1, e61, _⟩ := L1.ef
    have nDf : D ≠ LA.pf := fun z => by rw [z, e6] at hD; cases hD
    have ev1 := g1 _ _ ev
    refine ⟨.inl ⟨_, .of eD⟩, _, _, L1.e1, za5 (by decide) (by decide) (by decide), ad, rfl, _, .of ev1, _, zal (j := 2) rfl, ad, rfl, _, .of ev1, _, zal (j := 1) rfl, _, rfl, ?_⟩
    rw [bo]
    have hu0 : lvl 2 u = 0 := by rcases hu with rfl | ⟨rfl, _⟩ <;> rfl
    have hul : u < 2 + fs.length := by rcases hu with rfl | ⟨rfl, _⟩ <;> omega
    refine ⟨LA, 2, i, j, n, u, c + 2 ^ n, fs, sts, rfl, K3, L1, F, S, by omega, hul, by omega, b16, (fun h => absurd h (by decide)), fun fs2 sts2 H2 u2 F2 hf2 S2 hs2 hb2 L2 => ?_⟩
    have eD2 := L1.lst u2 nDf eD
    refine ⟨D, rfl, _, eD2, by decide, ?_⟩
    have nDp : D ≠ LA.p := fun z => by rw [z, L.e1] at hD; cases hD
    obtain ⟨ys2, e8, _⟩ := L2.en
    have nDn : D ≠ LA.pn := zdz eD2 e8 (by intro z; cases z)
    have nDs : D ≠ LA.ps := zdz eD2 L2.es (by intro z; cases z)
    have u3 : Up3 LA H (upd H2 D (.lst (List.map id [] ++ [nV (sF 2 i j n u (c + 2 ^ n))]))) := fun b o h1 h2 h3 e => by
      have hb : b ≠ D := fun z => by rw [z, hD] at e; cases e
      rw [zan hb]
      exact u2 b o h1 h2 h3 (g1 b o e)
    have L3 : Lg P w cLeftovers LA fs2 sts2 (upd H2 D (.lst (List.map id [] ++ [nV (sF 2 i j n u (c + 2 ^ n))]))) := by
      obtain ⟨rs2, e62, e72⟩ := L2.ef
      obtain ⟨ys2, e8, ky, ef, ev2⟩ := L2.en
      have tsD : TupS H2 (upd H2 D (.lst (List.map id [] ++ [nV (sF 2 i j n u (c + 2 ^ n))]))) := TupS.wr eD2 _
      exact ⟨by rw [zan (Ne.symm nDp)]; exact L2.e1, ⟨rs2, by rw [zan (Ne.symm nDf)]; exact e62, _root_.L2.Paired.mapP e72 fun _ _ z => z.ts tsD⟩, ⟨ys2, by rw [zan (Ne.symm nDn)]; exact e8, ky.ts tsD, ef, ev2⟩, by rw [zan (Ne.symm nDs)]; exact L2.es⟩
    have eD3 : upd H2 D (.lst (List.map id [] ++ [nV (sF 2 i j n u (c + 2 ^ n))])) D = some (.lst ([sF 2 i j n u (c + 2 ^ n)].map nV)) := by rw [zau]; rfl
    have ev3 := L.tups u3 _ _ ev
    generalize upd H2 D (.lst (List.map id [] ++ [nV (sF 2 i j n u (c + 2 ^ n))])) = H3 at u3 L3 eD3 ev3 ⊢
    have hF2l := F2.len
    refine ⟨_, _, L3.e1, za5 (by decide) (by decide) (by decide), ad, rfl, _, .of ev3, _, zal (j := 1) rfl, _, _, L3.e1, za5 (by decide) (by decide) (by decide), ad, rfl, _, .of ev3, _, zal (j := 2) rfl, ?_⟩
    refine ⟨LA, 2, i, j, n, u, c, fs2, sts2, rfl, K3, L3, F2, S2, by omega, by omega, by omega, hc, (fun h => absurd h (by decide)), fun fs4 sts4 H4 u4 F4 hf4 S4 hs4 hb4 L4 => ?_⟩
    have eD4 := L3.lst u4 nDf eD3
    have hF4l := F4.len
    refine ⟨LA, 2 ^ n, sF 2 i j n u c, D, [sF 2 i j n u (c + 2 ^ n)], fs4, sts4, rfl, L4, by omega, eD4, nDf, ?_⟩
    rcases hu with rfl | ⟨rfl, h3⟩
    · have a1 : sF 2 i j n 2 (c + 2 ^ n) = 0 := by show (if bit (c + 2 ^ n) n = true then 0 else _) = 0; rw [if_pos bt]
      have a2 : sF 2 i j n 2 c = if bit c i = true then 4 else 2 := by show (if bit c n = true then 0 else _) = _; rw [bf]; rfl
      have a3 : sF 2 i j n 3 c = if bit c i = true then 5 else 3 := rfl
      rw [a1]
      rw [a2] at hb4 ⊢
      refine .inl ⟨.inr rfl, by split <;> decide, fun H5 u5 L5 => ?_⟩
      have hu' : (if bit c i = true then 4 else 2) = 2 ∨ ((if bit c i = true then 4 else 2) = 4 ∧ 3 ≤ fs4.length) := by
        cases hb : bit c i
        · exact .inl rfl
        · rw [hb, if_pos rfl] at hb4
          exact .inr ⟨rfl, by omega⟩
      obtain ⟨k1, k2, k3, k4⟩ := zm4 F4 hu'
      rw [k4]
      have a4 : (if bit c i = true then 4 else 2) + 1 = sF 2 i j n 3 c := by rw [a3]; cases bit c i <;> rfl
      rw [a4] at k3 ⊢
      exact q _ sts4 H5 (u3.trans (u4.trans u5)) k1 (by omega) (S4.more k2) (by omega) k3 L5
    · have a1 : sF 2 i j n 4 (c + 2 ^ n) = 1 := by show (if bit (c + 2 ^ n) n = true then 1 else 0) = 1; rw [if_pos bt]
      rw [a1]
      exact .inr ⟨rfl, fun H5 u5 L5 => q fs4 sts4 H5 (u3.trans (u4.trans u5)) F4 (by omega) S4 (by omega) (by show 1 < _; omega) L5⟩
abbrev s_Leftovers_at_end : Stmt := inClass (top 43) 12
theorem sc_Leftovers_at_end : FnScope ["self", "left", "form"] ["self", "left"] (defScope s_Leftovers_at_end) := ⟨rfl, rfl, rfl, by decide +kernel, rfl, by decide +kernel, by decide +kernel⟩
theorem zn0 (T : Txt K mg w tw rw fa cLeftovers cSayError cs) (d : DfnM K cLeftovers "at_end" "Leftovers.at_end" s_Leftovers_at_end ["self", "left"]) : CalM P w K mg base 1 cLeftovers "at_end" ["self", "left"] (ze3 P w cLeftovers 0) := by
  refine d.cal sc_Leftovers_at_end (fun vs H Q E h => ?_) (fun f cdv A outer s H vs Q E hr h => ?_)
  · obtain ⟨A, kd, i, j, n, l, fs, sts, rfl, _⟩ := h
    rfl
  obtain ⟨LA, kd, i, j, n, l, fs, sts, rfl, K3, L, F, hl, hlv, q⟩ := h
  refine ⟨_, (zac (zas (i := 2) sc_Leftovers_at_end.nd rfl (Or.inl rfl) (zap (zbb K) (zbt (pv 0) (by rfl)) (pv 1) (fun _ _ => rfl))) (zac (zax (zaj za7 (zap (zah K) (pv 2) zae (fun _ _ => rfl)) zad (nomark _)) za2 zak) (zac (zax (zaj za7 (zap (zah K) (pv 2) zae (fun _ _ => rfl)) zad (nomark _)) za2 zak) (zac (zax (zaj za7 (zap (zah K) (pv 2) zae (fun _ _ => rfl)) zad (nomark _)) za2 zak) (zac (zax (zaj za7 (zap (zah K) (pv 2) zae (fun _ _ => rfl)) zad (nomark _)) za2 zak) (zaf (zai (zbg (zbo K) (zap (zah K) (pv 2) zae (fun _ _ => rfl)) (zam (pa_c zad (pa_c zad zab))) (by with_unfolding_all rfl))))))))), ?_⟩
  refine za3 [some (.ref LA.p), some (nV l), none] rfl ?_
  trivial
  have key : ∃ (k : Str) (ks : List Key2), (noG :: yesG :: fs)[l]? = some (kS k :: ks) ∧ k ∈ (["no", "yes", "in", "next", "here"] : List Str) := by
    rcases (show l = 0 ∨ l = 1 ∨ 2 ≤ l by omega) with rfl | rfl | h2
    · exact ⟨_, _, rfl, by decide⟩
    · exact ⟨_, _, rfl, by decide⟩
    · obtain ⟨wd, a, b, ek, ha, hb, hs, hcs⟩ := zec K3 F h2 hl (by omega)
      refine ⟨wd, _, ek, ?_⟩
      rcases hcs with ⟨_, _, rfl⟩ | ⟨_, _, rfl, _⟩ | ⟨_, _, rfl, _⟩ <;> decide
  obtain ⟨k, ks, ek, hk⟩ := key
  obtain ⟨rs, ad, e6, el, vs, ev, pv⟩ := L.form ek
  cases pv with
  | cons h1 pv =>
  rename_i v0 vs0
  cases (show v0 = V.str k from h1)
  have nn : ∀ z : Str, z ∈ (["not", "and", "some set", "some place"] : List Str) → ¬ V.str k = V.str z := fun z hz e => by
    have := V.str.inj e
    subst this
    revert hk hz
    simp only [List.mem_cons, List.not_mem_nil, or_false]
    rintro hk hz
    rcases hz with rfl | rfl | rfl | rfl <;> exact absurd hk (by decide)
  refine ⟨_, _, _, L.e1, T.cl_Leftovers, T.n_forms, _, zbh, LA.pf, rfl, _, .of e6, _, zal el, ad, rfl, _, .of ev, _, zaz, rfl, ?_⟩
  rw [decide_eq_false (nn _ (by decide))]
  refine iteF ⟨ad, rfl, _, .of ev, _, zaz, rfl, ?_⟩
  rw [decide_eq_false (nn _ (by decide))]
  refine iteF ⟨ad, rfl, _, .of ev, _, zaz, rfl, ?_⟩
  rw [decide_eq_false (nn _ (by decide))]
  refine iteF ⟨ad, rfl, _, .of ev, _, zaz, rfl, ?_⟩
  rw [decide_eq_false (nn _ (by decide))]
  exact iteF ⟨ad, rfl, _, .of ev, _, zaz, zaa (by simp), fun p1 H1 n1 => ⟨_, .inr (.of n1.at'), rfl, rfl, q _ H1 n1.g⟩⟩
theorem znz (T : Txt K mg w tw rw fa cLeftovers cSayError cs) (d : DfnM K cLeftovers "at_end" "Leftovers.at_end" s_Leftovers_at_end ["self", "left"]) (C_Leftovers_at_end : CalM P w K mg base 1 cLeftovers "at_end" ["self", "left"] (ze3 P w cLeftovers 0)) : CalM P w K mg base 2 cLeftovers "at_end" ["self", "left"] (ze3 P w cLeftovers 1) := by
  refine d.cal sc_Leftovers_at_end (fun vs H Q E h => ?_) (fun f cdv A outer s H vs Q E hr h => ?_)
  · obtain ⟨A, kd, i, j, n, l, fs, sts, rfl, _⟩ := h
    rfl
  obtain ⟨LA, kd, i, j, n, l, fs, sts, rfl, K3, L, F, hl, hlv, q⟩ := h
  refine ⟨_, (zac (zas (i := 2) sc_Leftovers_at_end.nd rfl (Or.inl rfl) (zap (zbb K) (zbt (pv 0) (by rfl)) (pv 1) (fun _ _ => rfl))) (zac (zax (zaj za7 (zap (zah K) (pv 2) zae (fun _ _ => rfl)) zad (nomark _)) (zaf (zai (zk5 (zar C_Leftovers_at_end T.cl_Leftovers hr (by omega) (pv 0) (pa_c (zap (zah K) (pv 2) zae (fun _ _ => rfl)) zab))))) zak) (zac (zax (zaj za7 (zap (zah K) (pv 2) zae (fun _ _ => rfl)) zad (nomark _)) za2 zak) (zac (zax (zaj za7 (zap (zah K) (pv 2) zae (fun _ _ => rfl)) zad (nomark _)) za2 zak) (zac (zax (zaj za7 (zap (zah K) (pv 2) zae (fun _ _ => rfl)) zad (nomark _)) (zaf (zai (za4 (zgz K rfl) (by rfl) T.b_any boot_any (pa_c (zbd ["inner"] [(0, "self")] (CompOk.of rfl (by rfl) (by rfl)) (by rfl) (zfg K (zap (zah K) (pv 2) zae (fun _ _ => rfl))) (fun _ _ _ _ _ => (za9 (i := 0) (show List.Nodup (["inner", "self"] : List Str) by decide +kernel) (by rfl) (Or.inl (by rfl)))) (fun _ _ _ _ _ => zca) (fun _ _ _ _ _ => (zar C_Leftovers_at_end T.cl_Leftovers hr (by omega) (pv 1) (pa_c (pv 0) zab)))) zab)))) zak) (zaf (zai (zbg (zbo K) (zap (zah K) (pv 2) zae (fun _ _ => rfl)) (zam (pa_c zad (pa_c zad zab))) (by with_unfolding_all rfl))))))))), ?_⟩
  refine za3 [some (.ref LA.p), some (nV l), none] rfl ?_
  trivial
  by_cases h0 : lvl kd l = 0
  · have key : ∃ (k : Str) (ks : List Key2), (noG :: yesG :: fs)[l]? = some (kS k :: ks) ∧ k ∈ (["no", "yes", "in", "next", "here"] : List Str) := by
      rcases (show l = 0 ∨ l = 1 ∨ 2 ≤ l by omega) with rfl | rfl | h2
      · exact ⟨_, _, rfl, by decide⟩
      · exact ⟨_, _, rfl, by decide⟩
      · obtain ⟨wd, a, b, ek, ha, hb, hs, hcs⟩ := zec K3 F h2 hl (by omega)
        refine ⟨wd, _, ek, ?_⟩
        rcases hcs with ⟨_, _, rfl⟩ | ⟨_, _, rfl, _⟩ | ⟨_, _, rfl, _⟩ <;> decide
    obtain ⟨k, ks, ek, hk⟩ := key
    obtain ⟨rs, ad, e6, el, vs, ev, pv⟩ := L.form ek
    cases pv with
    | cons h1 pv =>
    rename_i v0 vs0
    cases (show v0 = V.str k from h1)
    have nn : ∀ z : Str, z ∈ (["not", "and", "some set", "some place"] : List Str) → ¬ V.str k = V.str z := fun z hz e => by
      have := V.str.inj e
      subst this
      revert hk hz
      simp only [List.mem_cons, List.not_mem_nil, or_false]
      rintro hk hz
      rcases hz with rfl | rfl | rfl | rfl <;> exact absurd hk (by decide)
    refine ⟨_, _, _, L.e1, T.cl_Leftovers, T.n_forms, _, zbh, LA.pf, rfl, _, .of e6, _, zal el, ad, rfl, _, .of ev, _, zaz, rfl, ?_⟩
    rw [decide_eq_false (nn _ (by decide))]
    refine iteF ⟨ad, rfl, _, .of ev, _, zaz, rfl, ?_⟩
    rw [decide_eq_false (nn _ (by decide))]
    refine iteF ⟨ad, rfl, _, .of ev, _, zaz, rfl, ?_⟩
    rw [decide_eq_false (nn _ (by decide))]
    refine iteF ⟨ad, rfl, _, .of ev, _, zaz, rfl, ?_⟩
    rw [decide_eq_false (nn _ (by decide))]
    exact iteF ⟨ad, rfl, _, .of ev, _, zaz, zaa (by simp), fun p1 H1 n1 => ⟨_, .inr (.of n1.at'), rfl, rfl, q _ H1 n1.g⟩⟩
  have h2 : 2 ≤ l := by
    rcases (show l = 0 ∨ l = 1 ∨ 2 ≤ l by omega) with rfl | rfl | h2
    · exact absurd (by unfold lvl; split <;> first | rfl | contradiction) h0
    · exact absurd (by unfold lvl; split <;> first | rfl | contradiction) h0
    · exact h2
  rcases zo2 K3 F h2 hl h0 with ⟨rfl, rfl, rfl, ek⟩ | ⟨rfl, u, rfl, hu, ek⟩
  · obtain ⟨rs, ad, e6, el, vs, ev, pv⟩ := L.form ek
    have evs : vs = [.str "not", nV 2] := by
      cases pv with
      | cons h1 pv => cases pv with
        | cons h2 pv => cases pv; rw [show _ = _ from h1, show _ = _ from h2]; rfl
    subst evs
    refine ⟨_, _, _, L.e1, T.cl_Leftovers, T.n_forms, _, zbh, LA.pf, rfl, _, .of e6, _, zal el, ad, rfl, _, .of ev, _, zaz, rfl, ?_⟩
    rw [decide_eq_true rfl]
    exact iteT ⟨_, _, L.e1, za5 (by decide) (by decide) (by decide), ad, rfl, _, .of ev, _, zal (j := 1) rfl, LA, 1, i, j, n, 2, _, sts, rfl, K3, L, F, by omega, by decide, fun b H1 g1 => ⟨_, rfl, q _ H1 g1⟩⟩
  · obtain ⟨rs, ad, e6, el, vs, ev, pv⟩ := L.form ek
    obtain ⟨ae, hae, evs⟩ : ∃ ae, H ae = some (.tup []) ∧ vs = [.str "some place", nV (2 ^ n), nV u, .ref ae] := by
      cases pv with
      | cons h1 pv => cases pv with
        | cons h2 pv => cases pv with
          | cons h3 pv => cases pv with
            | cons h4 pv =>
              cases pv
              obtain ⟨ae, e4, h4⟩ := h4
              exact ⟨ae, h4, by rw [show _ = _ from h1, show _ = _ from h2, show _ = _ from h3, e4]; rfl⟩
    subst evs
    have nn : ∀ z : Str, ¬ ("some place" : Str) = z → ¬ V.str "some place" = V.str z := fun z h e => h (V.str.inj e)
    refine ⟨_, _, _, L.e1, T.cl_Leftovers, T.n_forms, _, zbh, LA.pf, rfl, _, .of e6, _, zal el, ad, rfl, _, .of ev, _, zaz, rfl, ?_⟩
    rw [decide_eq_false (nn _ (by decide))]
    refine iteF ⟨ad, rfl, _, .of ev, _, zaz, rfl, ?_⟩
    rw [decide_eq_false (nn _ (by decide))]
    refine iteF ⟨ad, rfl, _, .of ev, _, zaz, rfl, ?_⟩
    rw [decide_eq_false (nn _ (by decide))]
    refine iteF ⟨ad, rfl, _, .of ev, _, zaz, rfl, ?_⟩
    rw [decide_eq_true rfl]
    refine iteT ⟨ad, rfl, _, .of ev, _, zal (j := 3) rfl, ae, rfl, ⟨_, .of hae⟩, zmm (K := K) (a := ae) (xs := []) (fun _ => True) id (by decide) (.of hae) trivial (fun D i σ H x hi => absurd hi (Nat.not_lt_zero _)) ?_⟩
    intro D H1 hD g1 eD
    exact ⟨D, rfl, [], .of eD, q _ H1 g1⟩
end
end K12
namespace SM
open PySem PySem.Spec PyProof.Rows L2 SS
def zf4 (CF CS : Addr) : Sp := fun vs H Q E => ∃ v fv, vs = [v, fv] ∧ Exp H 12 v ∧ Ask H fv ∧ (frB H fv = false → ∀ a H', Same H H' → H' a = none → E (.ref CF) (some a) H') ∧ (frB H fv = true → ¬ SayOk H treeWords 4 v fv → ∀ a H', Same H H' → H' a = none → E (.ref CS) (some a) H') ∧ (frB H fv = true → SayOk H treeWords 4 v fv → ∀ H', Same H H' → Q .non H')
structure Good (H : Hp) (v fv : V) (b : Addr) (tl : List Str) (kd : Nat) : Prop where
  fv : fv = .ref b
  eb : H b = some (.lst (tl.map V.str))
  htl : tl ∈ frames12
  hk : kd ≤ 2
  rp : Rep H v (say3 kd)
theorem Good.frB {H : Hp} {v fv : V} {b : Addr} {tl : List Str} {kd : Nat} (g : Good H v fv b tl kd) : SS.frB H fv = true := by
  rw [g.fv]
  unfold SS.frB
  simp only [g.eb]
  exact (fr12 g.htl).2.2.2.1
def zf2 (CF CS CR : Addr) : Sp := fun vs H Q E => ∃ (v fv : V) (r : Addr) (rs : List Int), vs = [v, fv, .ref r] ∧ H r = some (.lst (rs.map V.int)) ∧ rs.length ≤ 60 ∧ Exp H 12 v ∧ Ask H fv ∧
  ((frB H fv = false ∧ ∀ a H', Same H H' → H' a = none → E (.ref CF) (some a) H') ∨ (frB H fv = true ∧ ¬ SayOk H treeWords 4 v fv ∧ ∀ a H', Same H H' → H' a = none → E (.ref CS) (some a) H') ∨
  ∃ b tl kd, Good H v fv b tl kd ∧ (((∃ x ∈ rs, ¬ (0 ≤ x ∧ x < 2 ^ tl.length)) ∧ ∀ a H', Same H H' → H' a = none → E (.ref CR) (some a) H') ∨ (∃ row : List Nat, rs = row.map (fun (n : Nat) => (n : Int)) ∧ (∀ l ∈ row, l < 2 ^ tl.length) ∧ ∀ t H', Same H H' → Q (.bl t) H')))
def zii (cs : List Addr) : Sp := fun vs H Q _ => ∃ (v fv : V) (r : Addr) (rs : List Int), vs = [v, fv, .ref r] ∧ H r = some (.lst (rs.map V.int)) ∧ rs.length ≤ 60 ∧ Exp H 12 v ∧ Ask H fv ∧
  ((frB H fv = false ∧ ∀ D H', Same H H' → H' D = some (.lst [.str "NoFrame"]) → Q (.ref D) H') ∨ (frB H fv = true ∧ ¬ SayOk H treeWords 4 v fv ∧ ∀ D H', Same H H' → H' D = some (.lst [.str "NoSaying"]) → Q (.ref D) H') ∨
  ∃ b tl kd, Good H v fv b tl kd ∧ (((∃ x ∈ rs, ¬ (0 ≤ x ∧ x < 2 ^ tl.length)) ∧ ∀ D H', Same H H' → H' D = some (.lst [.str "NoRow"]) → Q (.ref D) H') ∨ (∃ row : List Nat, rs = row.map (fun (n : Nat) => (n : Int)) ∧ (∀ l ∈ row, l < 2 ^ tl.length) ∧ ∀ t D H', Same H H' → H' D = some (.lst [.bl t]) → Q (.ref D) H')))
def zkf : Sp := fun vs H Q _ => ∃ n : Int, vs = [.int n] ∧ 0 ≤ n ∧ ∀ v H', Same H H' → Ask H' v → frB H' v = false → Q v H'
def badAll (l : Lit) : Bool := frames12.all fun tl => badL treeWords 4 tl l
def zic : Sp := fun vs H Q _ => ∃ n : Int, vs = [.int n] ∧ 0 ≤ n ∧ ∀ l v H', Same H H' → LitAt H' l v → badAll l = true → Q v H'
def nms12 : List Str := ["NoText", "NoFrame", "NoRow", "NoSaying"]
def zkd (cs : List Addr) : Sp := fun vs H Q _ => ∃ (a : Addr) (ci : Nat), vs = [.ref a] ∧ (ci = 1 ∨ ci = 2 ∨ ci = 3) ∧ H a = some (excO a (.ref (cs.getD ci 0))) ∧ ∀ D H', Same H H' → H' D = some (.lst [.str (nms12.getD ci "")]) → Q (.ref D) H'
def okT : V → Bool
  | .str z => decide (z.length ≤ 1000)
  | .int _ => true
  | .non => true
  | _ => false
theorem zia {H : Hp} : ∀ {v : V}, okT v = true → Thing H v
  | .str z, h => Thing.str (of_decide_eq_true h)
  | .int _, _ => ⟨⟨_, .int _⟩, fun z e => by cases e⟩
  | .non, _ => ⟨⟨_, .non⟩, fun z e => by cases e⟩
  | .bl _, h => by cases h
  | .ref _, h => by cases h
  | .ty _, h => by cases h
theorem zi5 {H : Hp} {xs : List V} (h : xs.length ≤ 1000) (h2 : xs.all okT = true) : Things H xs := ⟨h, fun y hy => zia (List.all_eq_true.mp h2 y hy)⟩
theorem za6 {H : Hp} {a : Addr} {xs : List V} (e : H a = some (.lst xs)) (h : xs.length ≤ 1000) (h2 : xs.all okT = true) (hf : frameB xs = false) : Ask H (.ref a) ∧ frB H (.ref a) = false := by
  refine ⟨⟨⟨⟨_, .lst e⟩, fun z e => by cases e⟩, fun a' ys ea ee => ?_⟩, ?_⟩
  · cases ea; rw [e] at ee; cases ee; exact zi5 h h2
  · unfold frB; simp only [e]; exact hf
theorem zmu {H : Hp} {a : Addr} {xs : List V} (e : H a = some (.tup xs)) : Ask H (.ref a) ∧ frB H (.ref a) = false := by
  refine ⟨⟨⟨⟨_, .tup e⟩, fun z e => by cases e⟩, fun a' ys ea ee => ?_⟩, ?_⟩
  · cases ea; rw [e] at ee; cases ee
  · unfold frB; simp only [e]
theorem zck {H : Hp} {v : V} (h : okT v = true) : Ask H v ∧ frB H v = false := by
  refine ⟨⟨zia h, fun a ys ea ee => ?_⟩, ?_⟩
  · subst ea; cases h
  · cases v with
    | ref a => cases h
    | _ => rfl
theorem Ask.same {H H' : Hp} {v : V} (ak : Ask H v) (g : Same H H') : Ask H' v ∧ frB H' v = frB H v := by
  obtain ⟨⟨k, kd⟩, hz⟩ := ak.t
  cases kd with
  | lst e =>
    rename_i a xs
    refine ⟨⟨ak.t.same g, fun a' ys ea ee => ?_⟩, ?_⟩
    · cases ea
      rw [g _ _ e] at ee
      cases ee
      exact (ak.ts a xs rfl e).same g
    · unfold frB; simp only [e, g _ _ e]
  | tup e =>
    refine ⟨⟨ak.t.same g, fun a' ys ea ee => ?_⟩, ?_⟩
    · cases ea
      rw [g _ _ e] at ee
      cases ee
    · unfold frB; simp only [e, g _ _ e]
  | dK e =>
    refine ⟨⟨ak.t.same g, fun a' ys ea ee => ?_⟩, ?_⟩
    · cases ea
      rw [g _ _ e] at ee
      cases ee
    · unfold frB; simp only [e, g _ _ e]
  | non => exact ⟨⟨ak.t.same g, fun a' ys ea ee => (by cases ea)⟩, rfl⟩
  | bl b => exact ⟨⟨ak.t.same g, fun a' ys ea ee => (by cases ea)⟩, rfl⟩
  | int b => exact ⟨⟨ak.t.same g, fun a' ys ea ee => (by cases ea)⟩, rfl⟩
  | str b => exact ⟨⟨ak.t.same g, fun a' ys ea ee => (by cases ea)⟩, rfl⟩
end SM
namespace K12
open PySem PySem.Spec PyProof.Rows L2 SS SM
local macro_rules | `(tactic| trivial) => `(tactic| simp only [exists_eq', rEqI, rNeI, rInDc, rLenD, rLenT, rDictOf, rMaxL, rIndex, rCatTN, rCatTE, tDNewN, tDNewTN, tDisp1T, rNeM, rRange2, rListRng, rRepN, rPopAt, rSetL, gSub, ipI, tDGet, tDGet2, sDPut, iEnum, iEZ, iZipL, tTry, iRng3, rIndexT, tFld, sFld, tMeth, tMake, gLst, rNotInN, sDPutN, tDGetN, tDNew2, rSortS, tRaise, tTryA, rIsX, rIsXT, rInsert, iZip, rInD, rIxD, rLen, rAll, rAny, rSum, rListOf, rEqS, rNeS, rSlTN, rStrB, tTupN, tLstN, rSlLN, rCatN, cxK, cxP, cxW, tSeq, tIfS, tTest, tB, tOp, tUn, tC, tAnd, tOr, tNot, tAndV, tOrV, tNotV, tIf, tNext, tBreak, tCont, tDrop, tRet, tRetN, gName, gNil, gCons, gTup, tAsg, tPar, tAug, rI, rI0, rU, rEq, rNe, tChain, tNil, tCons, tTup, tLst, tCall, tCB, tNoPart, tPart, tSl, rSlT, rSlL, rSlS, rIxL, rIxT, rIxS, rIn, tBM0, tBM, tyV, rAppend, rExtend, rCat, rZfill, rEqD, iList, iTup, iStr, iRng1, iRng2, tYes, tDisp, tPairs, zpw, zpv, zhg, zky, zfd, zfe, List.set_cons_zero, List.set_cons_succ, List.nil_append, List.cons_append, List.append_nil, V.int.injEq, V.str.injEq, V.bl.injEq, V.ref.injEq, V.ty.injEq, List.cons.injEq, and_true, true_and, exists_eq_left, exists_eq_left', exists_and_left, exists_eq, exists_const, if_true, if_false, ite_true, ite_false, zpx, zpy, zpz, zp0, zp1, Option.some.injEq, exists_eq_right, exists_eq_right', and_assoc, reduceCtorEq, false_and, and_false, false_or, or_false, exists_false])
seal PE PT PW PA PS PSs
section
variable {P : Program} {w : World} {K : PySem.W.Frag} {mg : Str → Option Value} {base : Heap} {tw rw fa cLeftovers cSayError : Addr} {cs : List Addr}
abbrev s_check_frame : Stmt := top 36
theorem zei : FnScope ["frame"] ["frame"] (defScope s_check_frame) := ⟨rfl, rfl, rfl, by decide +kernel, rfl, by decide +kernel, by decide +kernel⟩
theorem zjh (T : Txt K mg w tw rw fa cLeftovers cSayError cs) (d : Dfn K mg "check_frame" s_check_frame ["frame"]) (C_is_frame : Cal P w K mg base 4 "is_frame" ["thing"] zpm) : CalE P w K mg base 5 "check_frame" ["frame"] (zes (cs.getD 1 0)) := by
  refine d.calE zei (fun vs H Q E h => ?_) (fun f cdv A outer s H vs Q E hr h R => ?_)
  · obtain ⟨v, rfl, _⟩ := h
    rfl
  obtain ⟨v, rfl, ask, q, qx⟩ := h
  refine ⟨_, (zaf (zax (zb4 (zbe (zag C_is_frame hr (by omega) (by rfl) (pa_c (pv 0) zab)))) (zaf (zdt R rfl (by rfl) T.m_NoFrame T.x_NoFrame F.excBase_ValueError (pa_c zad zab))) zak)), ?_⟩
  refine za3 [some v] rfl ?_
  trivial
  refine ⟨v, rfl, ask.t, ask.ts, fun H1 g1 => ⟨_, rfl, ?_⟩⟩
  cases hb : frB H v with
  | true => exact iteF (q hb H1 g1)
  | false => exact iteT ⟨zaa (by simp), fun a0 n0 => qx hb a0 H1 g1 n0⟩
abbrev s_check_let : Stmt := top 37
theorem zge : FnScope ["saying", "frame"] ["saying", "frame"] (defScope s_check_let) := ⟨rfl, rfl, rfl, by decide +kernel, rfl, by decide +kernel, by decide +kernel⟩
theorem zll (T : Txt K mg w tw rw fa cLeftovers cSayError cs) (d : Dfn K mg "check_let" s_check_let ["saying", "frame"]) (C_check_frame : CalE P w K mg base 5 "check_frame" ["frame"] (zes (cs.getD 1 0))) (C_is_saying : Cal P w K mg base 30 "is_saying" ["thing", "frame"] (zie treeWords 4)) : CalE P w K mg base 31 "check_let" ["saying", "frame"] (zf4 (cs.getD 1 0) (cs.getD 3 0)) := by
  refine d.calE zge (fun vs H Q E h => ?_) (fun f cdv A outer s H vs Q E hr h R => ?_)
  · obtain ⟨v, fv, rfl, _⟩ := h
    rfl
  obtain ⟨v, fv, rfl, ex, ask, q1, q2, q3⟩ := h
  refine ⟨_, (zac (zc0 (zdl R C_check_frame hr (by omega) (by rfl) (pa_c (pv 1) zab))) (zaf (zax (zb4 (zbe (zag C_is_saying hr (by omega) (by rfl) (pa_c (pv 0) (pa_c (pv 1) zab))))) (zaf (zdt R rfl (by rfl) T.m_NoSaying T.x_NoSaying F.excBase_ValueError (pa_c zad zab))) zak))), ?_⟩
  refine za3 [some v, some fv] rfl ?_
  trivial
  refine ⟨fv, rfl, ask, fun hb H1 g1 => ?_, fun hb => q1 hb⟩
  obtain ⟨a, tl, rfl, e, hfr, h4⟩ := zo6 hb
  have e1 := g1 _ _ e
  have th : Things H (tl.map V.str) := ask.ts a _ rfl e
  have back : SayOk H1 treeWords 4 v (.ref a) ↔ SayOk H treeWords 4 v (.ref a) := by
    constructor
    · rintro ⟨a', tl', s, ea, ee, f1, ⟨r, hw, hd, hp⟩, hl⟩
      cases ea
      have h1 := zfa r hw hd
      rw [zcj g1 ex] at h1
      obtain ⟨s', r', hw', hd'⟩ := zb3 h1
      have es := r.det (r'.same g1)
      subst es
      rw [e1] at ee
      have et : tl = tl' := zdi (HO.lst.inj (Option.some.inj ee))
      subst et
      exact ⟨a, tl, s, rfl, e, f1, ⟨r', hw', hd', hp⟩, hl⟩
    · rintro ⟨a', tl', s, ea, ee, f1, ⟨r, hw, hd, hp⟩, hl⟩
      cases ea
      exact ⟨a, tl', s, rfl, g1 _ _ ee, f1, ⟨r.same g1, hw, hd, hp⟩, hl⟩
  refine ⟨v, .ref a, rfl, ex.same g1, ⟨⟨_, .lst e1⟩, fun z e => by cases e⟩, (fun a' xs ea ee => by cases ea; rw [e1] at ee; cases ee; exact th.same g1), fun tb H2 g2 hb2 => ⟨_, rfl, ?_⟩⟩
  rw [back] at hb2
  cases tb with
  | true => exact iteF (q3 hb (hb2.mp rfl) H2 (g1.trans g2))
  | false => exact iteT ⟨zaa (by simp), fun a0 n0 => q2 hb (fun z => by cases hb2.mpr z) a0 H2 (g1.trans g2) n0⟩
abbrev s_holds_by : Stmt := top 53
theorem sc_holds_by : FnScope ["saying", "frame", "row", "leftovers", "left", "letter"] ["saying", "frame", "row"] (defScope s_holds_by) := ⟨rfl, rfl, rfl, by decide +kernel, rfl, by decide +kernel, by decide +kernel⟩
theorem zhn (T : Txt K mg w tw rw fa cLeftovers cSayError cs) (d : Dfn K mg "holds_by" s_holds_by ["saying", "frame", "row"]) (C_Leftovers : CalI P w K mg base 1 cLeftovers "Leftovers" ["self"] (zih P w cLeftovers)) (C_Leftovers_of_saying : CalM P w K mg base 4 cLeftovers "of_saying" ["self", "saying", "names"] (zif P w cLeftovers)) (C_Leftovers_behind : CalM P w K mg base 6 cLeftovers "behind" ["self", "left", "letter"] (zkj P w cLeftovers 1)) (C_Leftovers_at_end : CalM P w K mg base 2 cLeftovers "at_end" ["self", "left"] (ze3 P w cLeftovers 1)) : Cal P w K mg base 7 "holds_by" ["saying", "frame", "row"] zdp := by
  refine d.cal sc_holds_by (fun vs H Q E h => ?_) (fun f cdv A outer s H vs Q E hr h => ?_)
  · obtain ⟨v, b, r, kd, tl, row, rfl, _⟩ := h
    rfl
  obtain ⟨v, b, r, kd, tl, row, rfl, hk, rp, eb, htl, er, h60, hc, q⟩ := h
  obtain ⟨⟨f2, f3⟩, fo, hl4, hfr, hx, hX, hz⟩ := fr12 htl
  refine ⟨_, (zac (zas (i := 3) sc_holds_by.nd rfl (Or.inl rfl) (zni C_Leftovers hr (by omega) (by rfl))) (zac (zas (i := 4) sc_holds_by.nd rfl (Or.inl rfl) (zar C_Leftovers_of_saying T.cl_Leftovers hr (by omega) (pv 3) (pa_c (pv 0) (pa_c (pv 1) zab)))) (zac (zrk PassesOwn.never rfl (zbp K (pv 2)) (za9 (i := 5) sc_holds_by.nd (by rfl) (Or.inl (by rfl))) (zaf (zas (i := 4) sc_holds_by.nd rfl (Or.inl rfl) (zar C_Leftovers_behind T.cl_Leftovers hr (by omega) (pv 3) (pa_c (pv 4) (pa_c (pv 5) zab)))))) (zaf (zai (zar C_Leftovers_at_end T.cl_Leftovers hr (by omega) (pv 3) (pa_c (pv 4) zab))))))), ?_⟩
  refine za3 [some v, some (.ref b), some (.ref r), none, none, none] rfl ?_
  trivial
  intro p dx hp hdx ne
  refine ⟨p, dx, H, rfl, rfl, hp, hdx, ne, fun LA H1 ep L1 g1 z1 z2 z3 => ⟨rfl, ?_⟩⟩
  subst ep
  have nb : b ≠ LA.pf := fun z => by rw [z, z1] at eb; cases eb
  refine ⟨_, _, L1.e1, za5 (by decide) (by decide) (by decide), LA, b, v, kd, tl, rfl, L1, hk, rp.same g1, g1 _ _ eb, nb, htl, fun l fs H2 u2 F2 hl2 L2 => ?_⟩
  have g2 : Same H H2 := u2.same z1 z2 z3 g1
  refine ⟨⟨_, .of (g2 _ _ er)⟩, ?_⟩
  have K3 : Kd3 kd (tl.idxOf ("x" : Str)) (tl.idxOf ("X" : Str)) tl.length := ⟨hk, f3, hx, hX⟩
  have lvb : ∀ l, lvl kd l ≤ 1 := fun l => by unfold lvl; split <;> decide
  have p16 : ∀ c ∈ row, c < 16 := fun c mc => by
    have := hc c mc
    have : 2 ^ tl.length ≤ 2 ^ 3 := Nat.pow_le_pow_right (by decide) f3
    omega
  refine zqw (K := K) (a := r) (xs := row.map nV) (fun k σ H' => Same H H' ∧ ∃ fs sts l v5, σ = [some v, some (.ref b), some (.ref r), some (.ref LA.p), some (nV l), v5] ∧ FT kd (tl.idxOf ("x" : Str)) (tl.idxOf ("X" : Str)) tl.length fs ∧ StG kd (tl.idxOf ("x" : Str)) (tl.idxOf ("X" : Str)) tl.length fs sts ∧ sts.length ≤ 3 * k ∧ l < 2 + fs.length ∧ Lg P w cLeftovers LA fs sts H')
    ⟨g2, fs, [], l, none, rfl, F2, (fun l c v e => by cases e), Nat.zero_le _, hl2, L2⟩ (fun k σ H' _ z => .of (z.1 _ _ er)) ?_ ?_
  · rintro k y σ H' hy ⟨g, fs, sts, l, v5, rfl, F, S, hs, hl, L'⟩
    rw [List.getElem?_map] at hy
    obtain ⟨c, ec, rfl⟩ := Option.map_eq_some_iff.mp hy
    have hk' := (List.getElem?_eq_some_iff.mp ec).1
    have mc := List.mem_of_getElem? ec
    trivial
    refine ⟨_, _, L'.e1, za5 (by decide) (by decide) (by decide), LA, kd, _, _, _, l, c, fs, sts, rfl, K3, L', F, S, by omega, hl, lvb l, p16 c mc, (fun _ => hc c mc), fun fs' sts' H3 u3 F' hf' S' hs' hb' L3 => ?_⟩
    exact ⟨u3.same z1 z2 z3 g, fs', sts', _, rfl, F', S', by omega, hb', L3⟩
  · rintro σ H' ⟨g, fs, sts, l, v5, rfl, F, S, hs, hl, L'⟩
    trivial
    exact ⟨_, _, L'.e1, za5 (by decide) (by decide) (by decide), LA, kd, _, _, _, l, fs, sts, rfl, K3, L', F, hl, lvb l, fun t H3 g3 => q t H3 (g.trans g3)⟩
abbrev s_holds : Stmt := top 54
theorem zm8 : FnScope ["saying", "frame", "row"] ["saying", "frame", "row"] (defScope s_holds) := ⟨rfl, rfl, rfl, by decide +kernel, rfl, by decide +kernel, by decide +kernel⟩
theorem zli (T : Txt K mg w tw rw fa cLeftovers cSayError cs) (d : Dfn K mg "holds" s_holds ["saying", "frame", "row"]) (C_check_let : CalE P w K mg base 31 "check_let" ["saying", "frame"] (zf4 (cs.getD 1 0) (cs.getD 3 0))) (C_fits : CalE P w K mg base 5 "fits" ["frame", "row"] (zkl (cs.getD 2 0))) (C_holds_by : Cal P w K mg base 7 "holds_by" ["saying", "frame", "row"] zdp) : CalE P w K mg base 32 "holds" ["saying", "frame", "row"] (zf2 (cs.getD 1 0) (cs.getD 3 0) (cs.getD 2 0)) := by
  refine d.calE zm8 (fun vs H Q E h => ?_) (fun f cdv A outer s H vs Q E hr h R => ?_)
  · obtain ⟨v, fv, r, rs, rfl, _⟩ := h
    rfl
  obtain ⟨v, fv, r, rs, rfl, er, h60, ex, ask, h⟩ := h
  refine ⟨_, (zac (zc0 (zdl R C_check_let hr (by omega) (by rfl) (pa_c (pv 0) (pa_c (pv 1) zab)))) (zaf (zai (zcn (zdl R C_fits hr (by omega) (by rfl) (pa_c (pv 1) (pa_c (pv 2) zab))) (zcm (zag C_holds_by hr (by omega) (by rfl) (pa_c (pv 0) (pa_c (pv 1) (pa_c (pv 2) zab))))))))), ?_⟩
  refine za3 [some v, some fv, some (.ref r)] rfl ?_
  trivial
  rcases h with ⟨hf, q⟩ | ⟨hf, hn, q⟩ | ⟨b, tl, kd, G, h⟩
  · exact ⟨v, fv, rfl, ex, ask, fun _ => q, (fun h => by rw [hf] at h; cases h), (fun h => by rw [hf] at h; cases h)⟩
  · exact ⟨v, fv, rfl, ex, ask, (fun h => by rw [hf] at h; cases h), fun _ _ => q, fun _ hs => absurd hs hn⟩
  · obtain ⟨⟨f2, f3⟩, fo, hl4, hfr, hx, hX, hz⟩ := fr12 G.htl
    obtain ⟨w1, w2, w3⟩ := let12 tl G.htl kd (by have := G.hk; omega)
    have hft := G.frB
    obtain ⟨rfl, eb, htl, hk, rp⟩ := G
    have hok : SayOk H treeWords 4 v (.ref b) := ⟨b, tl, _, rfl, eb, hfr, ⟨rp, w2, w3, by rcases (show kd = 0 ∨ kd = 1 ∨ kd = 2 by omega) with rfl | rfl | rfl <;> decide⟩, w1⟩
    refine ⟨v, _, rfl, ex, ask, (fun h => by rw [hft] at h; cases h), fun _ hn => absurd hok hn, fun _ _ H1 g1 => ?_⟩
    rcases h with ⟨hbad, q⟩ | ⟨row, rfl, hrow, q⟩
    · exact ⟨b, r, tl, rs, rfl, g1 _ _ eb, fo, g1 _ _ er, by omega, .inr ⟨hbad, fun e H2 g2 he => q e H2 (g1.trans g2) he⟩⟩
    · refine ⟨b, r, tl, _, rfl, g1 _ _ eb, fo, g1 _ _ er, by omega, .inl ⟨row, rfl, hrow, fun H2 g2 => ⟨_, rfl, ?_⟩⟩⟩
      have g12 := g1.trans g2
      have er' : H r = some (.lst (row.map nV)) := by rw [er, List.map_map]; rfl
      rw [List.length_map] at h60
      cases fitB tl row with
      | false => exact iteF (q false H2 g12)
      | true => exact iteT ⟨v, b, r, kd, tl, row, rfl, hk, rp.same g12, g12 _ _ eb, htl, g12 _ _ er', h60, hrow, fun t H3 g3 => q t H3 (g12.trans g3)⟩
end
section
variable {P : Program} {w : World} {K : PySem.W.Frag} {mg : Str → Option Value} {base : Heap} {tw rw fa cLeftovers cSayError : Addr} {cs : List Addr}
abbrev s_law_names : Stmt := top 58
theorem sc_law_names : FnScope ["_law_e", "_law_some"] ["_law_e"] (defScope s_law_names) := ⟨rfl, rfl, rfl, by decide +kernel, rfl, by decide +kernel, by decide +kernel⟩
theorem zrx (T : Txt K mg w tw rw fa cLeftovers cSayError cs) (d : Dfn K mg "_law_names" s_law_names ["_law_e"]) : Cal P w K mg base 1 "_law_names" ["_law_e"] (zkd cs) := by
  refine d.cal sc_law_names (fun vs H Q E h => ?_) (fun f cdv A outer s H vs Q E hr h => ?_)
  · obtain ⟨a, ci, rfl, _⟩ := h
    rfl
  obtain ⟨a, ci, rfl, hci, ea, q⟩ := h
  have hu := zjs hr 8 (by decide)
  have kx : KExc K (cs.getD ci 0) := by
    rcases hci with rfl | rfl | rfl
    · exact T.kx1
    · exact T.kx2
    · exact T.kx3
  have iV : PySem.W.kitOne K (.ref (cs.getD ci 0)) (.type "ValueError") = some true := by
    rcases hci with rfl | rfl | rfl
    · exact T.iV1
    · exact T.iV2
    · exact T.iV3
  have kk : ∀ j, j < 9 → PySem.W.kitOne K (.ref (cs.getD ci 0)) (.ref (cs.getD j 0)) = some (decide (j = ci)) := by
    rcases hci with rfl | rfl | rfl
    · exact fun j hj => match j, hj with | 0, _ => T.q1_0 | 1, _ => T.q1_1 | 2, _ => T.q1_2 | 3, _ => T.q1_3 | 4, _ => T.q1_4 | 5, _ => T.q1_5 | 6, _ => T.q1_6 | 7, _ => T.q1_7 | 8, _ => T.q1_8 | _ + 9, h => absurd h (by omega)
    · exact fun j hj => match j, hj with | 0, _ => T.q2_0 | 1, _ => T.q2_1 | 2, _ => T.q2_2 | 3, _ => T.q2_3 | 4, _ => T.q2_4 | 5, _ => T.q2_5 | 6, _ => T.q2_6 | 7, _ => T.q2_7 | 8, _ => T.q2_8 | _ + 9, h => absurd h (by omega)
    · exact fun j hj => match j, hj with | 0, _ => T.q3_0 | 1, _ => T.q3_1 | 2, _ => T.q3_2 | 3, _ => T.q3_3 | 4, _ => T.q3_4 | 5, _ => T.q3_5 | 6, _ => T.q3_6 | 7, _ => T.q3_7 | 8, _ => T.q3_8 | _ + 9, h => absurd h (by omega)
  refine ⟨_, (zac (zas (i := 1) sc_law_names.nd rfl (Or.inl rfl) (zao (pa_c (zam (pa_c zad (pa_c (za4 (zbm K) (by rfl) T.b_isinstance boot_isinstance (pa_c (pv 0) (pa_c (zba (v := V.ref _) (by rfl) ⟨_, T.m_NoText, rfl⟩) zab))) zab))) (pa_c (zam (pa_c zad (pa_c (za4 (zbm K) (by rfl) T.b_isinstance boot_isinstance (pa_c (pv 0) (pa_c (zba (v := V.ref _) (by rfl) ⟨_, T.m_NoFrame, rfl⟩) zab))) zab))) (pa_c (zam (pa_c zad (pa_c (za4 (zbm K) (by rfl) T.b_isinstance boot_isinstance (pa_c (pv 0) (pa_c (zba (v := V.ref _) (by rfl) ⟨_, T.m_NoRow, rfl⟩) zab))) zab))) zab))))) (zac (zas (i := 1) sc_law_names.nd rfl (Or.inl rfl) (zay zbl (pv 1) (zao (pa_c (zam (pa_c zad (pa_c (za4 (zbm K) (by rfl) T.b_isinstance boot_isinstance (pa_c (pv 0) (pa_c (zba (v := V.ref _) (by rfl) ⟨_, T.m_NoSaying, rfl⟩) zab))) zab))) (pa_c (zam (pa_c zad (pa_c (za4 (zbm K) (by rfl) T.b_isinstance boot_isinstance (pa_c (pv 0) (pa_c (zba (v := V.ref _) (by rfl) ⟨_, T.m_NoTree, rfl⟩) zab))) zab))) zab))))) (zac (zas (i := 1) sc_law_names.nd rfl (Or.inl rfl) (zay zbl (pv 1) (zao (pa_c (zam (pa_c zad (pa_c (za4 (zbm K) (by rfl) T.b_isinstance boot_isinstance (pa_c (pv 0) (pa_c (zba (v := V.ref _) (by rfl) ⟨_, T.m_NoWidth, rfl⟩) zab))) zab))) (pa_c (zam (pa_c zad (pa_c (za4 (zbm K) (by rfl) T.b_isinstance boot_isinstance (pa_c (pv 0) (pa_c (zba (v := V.ref _) (by rfl) ⟨_, T.m_NoNumber, rfl⟩) zab))) zab))) zab))))) (zac (zas (i := 1) sc_law_names.nd rfl (Or.inl rfl) (zay zbl (pv 1) (zao (pa_c (zam (pa_c zad (pa_c (za4 (zbm K) (by rfl) T.b_isinstance boot_isinstance (pa_c (pv 0) (pa_c (zba (v := V.ref _) (by rfl) ⟨_, T.m_TooGreat, rfl⟩) zab))) zab))) (pa_c (zam (pa_c zad (pa_c (za4 (zbm K) (by rfl) T.b_isinstance boot_isinstance (pa_c (pv 0) (pa_c (zba (v := V.ref _) (by rfl) ⟨_, T.m_NoLine, rfl⟩) zab))) zab))) zab))))) (zac (zas (i := 1) sc_law_names.nd rfl (Or.inl rfl) (zay zbl (pv 1) (zao (pa_c (zam (pa_c zad (pa_c (zk5 (za4 (zj1 K) (by rfl) T.b_isinstance boot_isinstance (pa_c (pv 0) (pa_c (zbv (v := .ty "ValueError") (by rfl) T.b_ValueError (by rfl) (by rfl)) zab)))) zab))) zab)))) (zaf (zai (zbd ["_law_name", "_law_truth"] [] (CompOk.of rfl (by rfl) (by rfl)) (by rfl) (zbp K (pv 1)) (fun _ _ _ _ _ => (zhj K (n := 2) rfl (zcg (za9 (i := 0) (show List.Nodup (["_law_name", "_law_truth"] : List Str) by decide +kernel) (by rfl) (Or.inl (by rfl))) (zcg (za9 (i := 1) (show List.Nodup (["_law_name", "_law_truth"] : List Str) by decide +kernel) (by rfl) (Or.inl (by rfl))) zhi)))) (fun _ _ _ _ _ => (ziq (zbe (pv 1)))) (fun _ _ _ _ _ => (pv 0)))))))))), ?_⟩
  refine za3 [some (.ref a), none] rfl ?_
  trivial
  refine ⟨_, ea, kx, _, kk 0 (by decide), (zaa (by simp)), fun t0 H1 n1 => ⟨_, n1.g _ _ ea, kx, _, kk 1 (by decide), (zaa (by simp)), fun t1 H2 n2 => ⟨_, (n1.g.trans n2.g) _ _ ea, kx, _, kk 2 (by decide), (zaa (by simp)), fun t2 H3 n3 => ⟨(zaa (by simp)), fun l0 H4 n4 => ?_⟩⟩⟩⟩
  have g0 : Same H H4 := n1.g.trans (n2.g.trans (n3.g.trans n4.g))
  have c0 := n4.at'
  have u0 := (n2.g.trans (n3.g.trans n4.g)) _ _ n1.at'
  have u1 := (n3.g.trans n4.g) _ _ n2.at'
  have u2 := n4.g _ _ n3.at'
  refine ⟨_, g0 _ _ ea, kx, _, kk 3 (by decide), (zaa (by simp)), fun t3 Ha1 na1 => ⟨_, (g0.trans na1.g) _ _ ea, kx, _, kk 4 (by decide), (zaa (by simp)), fun t4 Hb1 nb1 => ⟨(zaa (by simp)), fun q1 Hc1 nc1 => ⟨_, (na1.g.trans (nb1.g.trans nc1.g)) _ _ c0, _, nc1.at', (zaa (by simp)), fun l1 Hd1 nd1 => ?_⟩⟩⟩⟩
  have k1 : Same H4 Hd1 := na1.g.trans (nb1.g.trans (nc1.g.trans nd1.g))
  have g1 : Same H Hd1 := g0.trans k1
  have c1 := nd1.at'
  replace u0 := k1 _ _ u0
  replace u1 := k1 _ _ u1
  replace u2 := k1 _ _ u2
  have u3 := (nb1.g.trans (nc1.g.trans nd1.g)) _ _ na1.at'
  have u4 := (nc1.g.trans nd1.g) _ _ nb1.at'
  refine ⟨_, g1 _ _ ea, kx, _, kk 5 (by decide), (zaa (by simp)), fun t5 Ha2 na2 => ⟨_, (g1.trans na2.g) _ _ ea, kx, _, kk 6 (by decide), (zaa (by simp)), fun t6 Hb2 nb2 => ⟨(zaa (by simp)), fun q2 Hc2 nc2 => ⟨_, (na2.g.trans (nb2.g.trans nc2.g)) _ _ c1, _, nc2.at', (zaa (by simp)), fun l2 Hd2 nd2 => ?_⟩⟩⟩⟩
  have k2 : Same Hd1 Hd2 := na2.g.trans (nb2.g.trans (nc2.g.trans nd2.g))
  have g2 : Same H Hd2 := g1.trans k2
  have c2 := nd2.at'
  replace u0 := k2 _ _ u0
  replace u1 := k2 _ _ u1
  replace u2 := k2 _ _ u2
  replace u3 := k2 _ _ u3
  replace u4 := k2 _ _ u4
  have u5 := (nb2.g.trans (nc2.g.trans nd2.g)) _ _ na2.at'
  have u6 := (nc2.g.trans nd2.g) _ _ nb2.at'
  refine ⟨_, g2 _ _ ea, kx, _, kk 7 (by decide), (zaa (by simp)), fun t7 Ha3 na3 => ⟨_, (g2.trans na3.g) _ _ ea, kx, _, kk 8 (by decide), (zaa (by simp)), fun t8 Hb3 nb3 => ⟨(zaa (by simp)), fun q3 Hc3 nc3 => ⟨_, (na3.g.trans (nb3.g.trans nc3.g)) _ _ c2, _, nc3.at', (zaa (by simp)), fun l3 Hd3 nd3 => ?_⟩⟩⟩⟩
  have k3 : Same Hd2 Hd3 := na3.g.trans (nb3.g.trans (nc3.g.trans nd3.g))
  have g3 : Same H Hd3 := g2.trans k3
  have c3 := nd3.at'
  replace u0 := k3 _ _ u0
  replace u1 := k3 _ _ u1
  replace u2 := k3 _ _ u2
  replace u3 := k3 _ _ u3
  replace u4 := k3 _ _ u4
  replace u5 := k3 _ _ u5
  replace u6 := k3 _ _ u6
  have u7 := (nb3.g.trans (nc3.g.trans nd3.g)) _ _ na3.at'
  have u8 := (nc3.g.trans nd3.g) _ _ nb3.at'
  refine ⟨_, g3 _ _ ea, kx, _, iV, (zaa (by simp)), fun t9 Ha4 na4 => ⟨(zaa (by simp)), fun q4 Hc4 nc4 => ⟨_, (na4.g.trans nc4.g) _ _ c3, _, nc4.at', (zaa (by simp)), fun l4 Hd4 nd4 => ?_⟩⟩⟩
  have k4 : Same Hd3 Hd4 := na4.g.trans (nc4.g.trans nd4.g)
  have g4 : Same H Hd4 := g3.trans k4
  have c4 := nd4.at'
  replace u0 := k4 _ _ u0
  replace u1 := k4 _ _ u1
  replace u2 := k4 _ _ u2
  replace u3 := k4 _ _ u3
  replace u4 := k4 _ _ u4
  replace u5 := k4 _ _ u5
  replace u6 := k4 _ _ u6
  replace u7 := k4 _ _ u7
  replace u8 := k4 _ _ u8
  have u9 := (nc4.g.trans nd4.g) _ _ na4.at'
  have c9 : Hd4 l4 = some (.lst [.ref t0, .ref t1, .ref t2, .ref t3, .ref t4, .ref t5, .ref t6, .ref t7, .ref t8, .ref t9]) := c4
  have hx : ∀ x ∈ ([.ref t0, .ref t1, .ref t2, .ref t3, .ref t4, .ref t5, .ref t6, .ref t7, .ref t8, .ref t9] : List V), ∃ (t : Addr) (nm : Str) (b : Bool), x = .ref t ∧ Hd4 t = some (.tup [.str nm, .bl b]) := by
    intro x hx
    simp only [List.mem_cons, List.not_mem_nil, or_false] at hx
    rcases hx with rfl | rfl | rfl | rfl | rfl | rfl | rfl | rfl | rfl | rfl
    · exact ⟨_, _, _, rfl, u0⟩
    · exact ⟨_, _, _, rfl, u1⟩
    · exact ⟨_, _, _, rfl, u2⟩
    · exact ⟨_, _, _, rfl, u3⟩
    · exact ⟨_, _, _, rfl, u4⟩
    · exact ⟨_, _, _, rfl, u5⟩
    · exact ⟨_, _, _, rfl, u6⟩
    · exact ⟨_, _, _, rfl, u7⟩
    · exact ⟨_, _, _, rfl, u8⟩
    · exact ⟨_, _, _, rfl, u9⟩
  refine ⟨⟨_, .of c9⟩, zmp (K := K) (a := l4) (xs := [.ref t0, .ref t1, .ref t2, .ref t3, .ref t4, .ref t5, .ref t6, .ref t7, .ref t8, .ref t9]) (fun σ => ∃ v w, σ = [v, w]) (pOf Hd4) (fOf Hd4) (by simp) (.of c9) ⟨_, _, rfl⟩ ?_ ?_⟩
  · rintro D i σ H' x hi hm hxi gg hD hD' ⟨v, w, rfl⟩
    obtain ⟨t, nm, b, rfl, et⟩ := hx x hm
    trivial
    refine ⟨_, .of (gg _ _ et), rfl, _, _, rfl, _, _, rfl, rfl, b, rfl, ?_⟩
    cases b with
    | true => exact iteT (zhy (by simp) hxi (za0 et) hD hD' gg ⟨_, _, rfl⟩ (ziz et).symm)
    | false => exact iteF (zhz hxi (za0 et) hD' gg ⟨_, _, rfl⟩)
  intro D H' hD g eD
  refine q D H' (g4.trans g) ?_
  rw [eD]
  rcases hci with rfl | rfl | rfl
  · simp only [List.filter_cons, List.filter_nil, za0 u0, za0 u1, za0 u2, za0 u3, za0 u4, za0 u5, za0 u6, za0 u7, za0 u8, za0 u9, Bool.not_true, Bool.false_eq_true, if_true, if_false, List.map_cons, List.map_nil, ziz u1, decide_true, decide_false, Nat.reduceEqDiff, reduceCtorEq]
    rfl
  · simp only [List.filter_cons, List.filter_nil, za0 u0, za0 u1, za0 u2, za0 u3, za0 u4, za0 u5, za0 u6, za0 u7, za0 u8, za0 u9, Bool.not_true, Bool.false_eq_true, if_true, if_false, List.map_cons, List.map_nil, ziz u2, decide_true, decide_false, Nat.reduceEqDiff, reduceCtorEq]
    rfl
  · simp only [List.filter_cons, List.filter_nil, za0 u0, za0 u1, za0 u2, za0 u3, za0 u4, za0 u5, za0 u6, za0 u7, za0 u8, za0 u9, Bool.not_true, Bool.false_eq_true, if_true, if_false, List.map_cons, List.map_nil, ziz u3, decide_true, decide_false, Nat.reduceEqDiff, reduceCtorEq]
    rfl
end
section
variable {P : Program} {w : World} {K : PySem.W.Frag} {mg : Str → Option Value} {base : Heap} {tw rw fa cLeftovers cSayError : Addr} {cs : List Addr}
abbrev s_law_end : Stmt := top 59
theorem sc_law_end : FnScope ["_law_saying", "_law_frame", "_law_row", "_law_error", "_law_found", "_law_e"] ["_law_saying", "_law_frame", "_law_row"] (defScope s_law_end) := ⟨rfl, rfl, rfl, by decide +kernel, rfl, by decide +kernel, by decide +kernel⟩
theorem zn2 (T : Txt K mg w tw rw fa cLeftovers cSayError cs) (d : Dfn K mg "_law_end" s_law_end ["_law_saying", "_law_frame", "_law_row"]) (C_holds : CalE P w K mg base 32 "holds" ["saying", "frame", "row"] (zf2 (cs.getD 1 0) (cs.getD 3 0) (cs.getD 2 0))) (C_law_names : Cal P w K mg base 1 "_law_names" ["_law_e"] (zkd cs)) : Cal P w K mg base 33 "_law_end" ["_law_saying", "_law_frame", "_law_row"] (zii cs) := by
  refine d.cal sc_law_end (fun vs H Q E h => ?_) (fun f cdv A outer s H vs Q E hr h => ?_)
  · obtain ⟨v, fv, r, rs, rfl, _⟩ := h
    rfl
  obtain ⟨v, fv, r, rs, rfl, er, h60, ex, ask, h⟩ := h
  refine ⟨_, (zac (zas (i := 3) sc_law_end.nd rfl (Or.inl rfl) zda) (zac (zas (i := 4) sc_law_end.nd rfl (Or.inl rfl) zda) (zac (zp2 C_holds hr (by omega) (by rfl) (pa_c (pv 0) (pa_c (pv 1) (pa_c (pv 2) zab))) (by rfl) T.m_SayError T.k_SayError rfl rfl rfl sc_law_end.nd (i := 4) rfl (Or.inl rfl) (j := 5) rfl rfl fun _ => (zaf (zas (i := 3) sc_law_end.nd rfl (Or.inl rfl) (pv 5)))) (zac (zax (zaj zrv (pv 3) zda (nomark _)) (zaf (zai (zao (pa_c (pv 4) zab)))) zak) (zaf (zai (zag C_law_names hr (by omega) (by rfl) (pa_c (pv 3) zab)))))))), ?_⟩
  refine za3 [some v, some fv, some (.ref r), none, none, none] rfl ?_
  trivial
  refine ⟨v, fv, r, rs, rfl, er, h60, ex, ask, ?_⟩
  have fin : ∀ (ci : Nat), (ci = 1 ∨ ci = 2 ∨ ci = 3) → (∀ D H', Same H H' → H' D = some (.lst [.str (nms12.getD ci "")]) → Q (.ref D) H') → ∀ (a : Addr) (H2 : Hp), Same H H2 → H2 a = none → ∀ (a' : Addr), some a = some a' → ∃ C, (Value.ref (cs.getD ci 0)) = Value.ref C ∧ PySem.W.mroIn K C (Value.ref cSayError) = some true ∧ ∀ (H3 : Hp), Same H2 H3 → H3 a' = some (excO a' (Value.ref (cs.getD ci 0))) → (∃ v_1, ([some v, some fv, some (V.ref r), some (V.ref a'), some V.non, some (V.ref a')] : L2.St)[5]? = some (some v_1)) ∧ if decide False = true then [V.non].length ≤ sizeLine ∧ ∀ (p : Addr) (H' : Hp), New H3 p (HO.lst [V.non]) H' → Q (V.ref p) H' else zkd cs [V.ref a'] H3 Q E0 := by
    intro ci hci q a H2 g2 _ a' e
    cases e
    refine ⟨_, rfl, ?_, fun H3 g3 e3 => ⟨⟨_, rfl⟩, iteF ⟨a, ci, rfl, hci, e3, fun D H4 g4 eD => q D H4 (g2.trans (g3.trans g4)) eD⟩⟩⟩
    rcases hci with rfl | rfl | rfl
    · exact T.ms1
    · exact T.ms2
    · exact T.ms3
  rcases h with ⟨hf, q⟩ | ⟨hf, hn, q⟩ | ⟨b, tl, kd, G, ⟨hbad, q⟩ | ⟨row, e, hrow, q⟩⟩
  · exact .inl ⟨hf, fin 1 (.inl rfl) q⟩
  · exact .inr (.inl ⟨hf, hn, fin 3 (.inr (.inr rfl)) q⟩)
  · exact .inr (.inr ⟨b, tl, kd, G, .inl ⟨hbad, fin 2 (.inr (.inl rfl)) q⟩⟩)
  · exact .inr (.inr ⟨b, tl, kd, G, .inr ⟨row, e, hrow, fun t H2 g2 => iteT ⟨zaa (by simp), fun p H3 n3 => q t p H3 (g2.trans n3.g) n3.at'⟩⟩⟩)
end
section
variable {P : Program} {w : World} {K : PySem.W.Frag} {mg : Str → Option Value} {base : Heap} {tw rw fa cLeftovers cSayError : Addr} {cs : List Addr}
abbrev s_law_no_frame : Stmt := top 60
theorem sc_law_no_frame : FnScope ["_law_number", "_law_some"] ["_law_number"] (defScope s_law_no_frame) := ⟨rfl, rfl, rfl, by decide +kernel, rfl, by decide +kernel, by decide +kernel⟩
theorem zqg (T : Txt K mg w tw rw fa cLeftovers cSayError cs) (d : Dfn K mg "_law_no_frame" s_law_no_frame ["_law_number"]) : Cal P w K mg base 1 "_law_no_frame" ["_law_number"] zkf := by
  refine d.cal sc_law_no_frame (fun vs H Q E h => ?_) (fun f cdv A outer s H0 vs Q E hr h => ?_)
  · obtain ⟨c, rfl, _⟩ := h
    rfl
  obtain ⟨c, rfl, hc0, q⟩ := h
  refine ⟨_, (zac (zas (i := 1) sc_law_no_frame.nd rfl (Or.inl rfl) (zao (pa_c (zao (pa_c zad (pa_c zad zab))) (pa_c (zao (pa_c zad (pa_c zad (pa_c zad zab)))) (pa_c (zao (pa_c zad (pa_c zad (pa_c zad (pa_c zad (pa_c zad zab)))))) (pa_c (zao (pa_c zad zab)) (pa_c (zao (pa_c zad zab)) (pa_c (zao (pa_c zad zab)) (pa_c (zao (pa_c zad zab)) (pa_c (zao (pa_c zad (pa_c zad zab))) (pa_c (zao (pa_c zad zab)) zab))))))))))) (zaf (zai (zap (zbb K) (zay zbl (pv 1) (zao (pa_c (zam (pa_c zad zab)) (pa_c zad (pa_c zda (pa_c zae (pa_c (zao (pa_c zae zab)) (pa_c (zao (pa_c zad (pa_c zda zab))) zab)))))))) (zay zbw (pv 0) zae) (fun _ _ => rfl))))), ?_⟩
  refine za3 [some (.int c), none] rfl ?_
  trivial
  refine ⟨zaa (by simp), fun p1 H1 n1 => ?_⟩
  refine ⟨zaa (by simp), fun p2 H2 n2 => ?_⟩
  refine ⟨zaa (by simp), fun p3 H3 n3 => ?_⟩
  refine ⟨zaa (by simp), fun p4 H4 n4 => ?_⟩
  refine ⟨zaa (by simp), fun p5 H5 n5 => ?_⟩
  refine ⟨zaa (by simp), fun p6 H6 n6 => ?_⟩
  refine ⟨zaa (by simp), fun p7 H7 n7 => ?_⟩
  refine ⟨zaa (by simp), fun p8 H8 n8 => ?_⟩
  refine ⟨zaa (by simp), fun p9 H9 n9 => ?_⟩
  refine ⟨zaa (by simp), fun p10 H10 n10 => ?_⟩
  refine ⟨zaa (by simp), fun p11 H11 n11 => ?_⟩
  refine ⟨zaa (by simp), fun p12 H12 n12 => ?_⟩
  refine ⟨zaa (by simp), fun p13 H13 n13 => ?_⟩
  refine ⟨zaa (by simp), fun p14 H14 n14 => ?_⟩
  refine ⟨_, n14.g _ _ (n13.g _ _ (n12.g _ _ (n11.g _ _ (n10.at')))), _, n14.at', zaa (by simp), fun p15 H15 n15 => ?_⟩
  have s15 := Same.refl H15
  have s14 := n15.g.trans s15
  have s13 := n14.g.trans s14
  have s12 := n13.g.trans s13
  have s11 := n12.g.trans s12
  have s10 := n11.g.trans s11
  have s9 := n10.g.trans s10
  have s8 := n9.g.trans s9
  have s7 := n8.g.trans s8
  have s6 := n7.g.trans s7
  have s5 := n6.g.trans s6
  have s4 := n5.g.trans s5
  have s3 := n4.g.trans s4
  have s2 := n3.g.trans s3
  have s1 := n2.g.trans s2
  have s0 := n1.g.trans s1
  have e1 := s1 _ _ n1.at'
  have e2 := s2 _ _ n2.at'
  have e3 := s3 _ _ n3.at'
  have e4 := s4 _ _ n4.at'
  have e5 := s5 _ _ n5.at'
  have e6 := s6 _ _ n6.at'
  have e7 := s7 _ _ n7.at'
  have e8 := s8 _ _ n8.at'
  have e9 := s9 _ _ n9.at'
  have e10 := s10 _ _ n10.at'
  have e11 := s11 _ _ n11.at'
  have e12 := s12 _ _ n12.at'
  have e13 := s13 _ _ n13.at'
  have e14 := s14 _ _ n14.at'
  have e15 := s15 _ _ n15.at'
  obtain ⟨y, hy, my⟩ := zmt (i := c) (xs := ([.ref p1, .ref p2, .ref p3, .ref p4, .ref p5, .ref p6, .ref p7, .ref p8, .ref p9, .ref p11, .str "x", .non, .int 7, .ref p12, .ref p13] : List V)) (n := 15) rfl (by decide)
  refine ⟨by decide, _, n15.lst, y, hy, ?_⟩
  simp only [List.mem_cons, List.not_mem_nil, or_false] at my
  rcases my with rfl | rfl | rfl | rfl | rfl | rfl | rfl | rfl | rfl | rfl | rfl | rfl | rfl | rfl | rfl
  · exact q _ _ s0 (za6 e1 (by decide) (by decide +kernel) (by decide +kernel)).1 (za6 e1 (by decide) (by decide +kernel) (by decide +kernel)).2
  · exact q _ _ s0 (za6 e2 (by decide) (by decide +kernel) (by decide +kernel)).1 (za6 e2 (by decide) (by decide +kernel) (by decide +kernel)).2
  · exact q _ _ s0 (za6 e3 (by decide) (by decide +kernel) (by decide +kernel)).1 (za6 e3 (by decide) (by decide +kernel) (by decide +kernel)).2
  · exact q _ _ s0 (za6 e4 (by decide) (by decide +kernel) (by decide +kernel)).1 (za6 e4 (by decide) (by decide +kernel) (by decide +kernel)).2
  · exact q _ _ s0 (za6 e5 (by decide) (by decide +kernel) (by decide +kernel)).1 (za6 e5 (by decide) (by decide +kernel) (by decide +kernel)).2
  · exact q _ _ s0 (za6 e6 (by decide) (by decide +kernel) (by decide +kernel)).1 (za6 e6 (by decide) (by decide +kernel) (by decide +kernel)).2
  · exact q _ _ s0 (za6 e7 (by decide) (by decide +kernel) (by decide +kernel)).1 (za6 e7 (by decide) (by decide +kernel) (by decide +kernel)).2
  · exact q _ _ s0 (za6 e8 (by decide) (by decide +kernel) (by decide +kernel)).1 (za6 e8 (by decide) (by decide +kernel) (by decide +kernel)).2
  · exact q _ _ s0 (za6 e9 (by decide) (by decide +kernel) (by decide +kernel)).1 (za6 e9 (by decide) (by decide +kernel) (by decide +kernel)).2
  · exact q _ _ s0 (zmu e11).1 (zmu e11).2
  · exact q _ _ s0 (zck (by decide +kernel)).1 (zck (by decide +kernel)).2
  · exact q _ _ s0 (zck (by decide +kernel)).1 (zck (by decide +kernel)).2
  · exact q _ _ s0 (zck (by decide +kernel)).1 (zck (by decide +kernel)).2
  · exact q _ _ s0 (za6 e12 (by decide) (by decide +kernel) (by decide +kernel)).1 (za6 e12 (by decide) (by decide +kernel) (by decide +kernel)).2
  · exact q _ _ s0 (za6 e13 (by decide) (by decide +kernel) (by decide +kernel)).1 (za6 e13 (by decide) (by decide +kernel) (by decide +kernel)).2
abbrev s_law_no_saying : Stmt := top 61
theorem sc_law_no_saying : FnScope ["_law_number", "_law_some"] ["_law_number"] (defScope s_law_no_saying) := ⟨rfl, rfl, rfl, by decide +kernel, rfl, by decide +kernel, by decide +kernel⟩
theorem zns (T : Txt K mg w tw rw fa cLeftovers cSayError cs) (d : Dfn K mg "_law_no_saying" s_law_no_saying ["_law_number"]) : Cal P w K mg base 1 "_law_no_saying" ["_law_number"] zic := by
  refine d.cal sc_law_no_saying (fun vs H Q E h => ?_) (fun f cdv A outer s H0 vs Q E hr h => ?_)
  · obtain ⟨c, rfl, _⟩ := h
    rfl
  obtain ⟨c, rfl, hc0, q⟩ := h
  refine ⟨_, (zac (zas (i := 1) sc_law_no_saying.nd rfl (Or.inl rfl) (zao (pa_c (zam (pa_c zad (pa_c zad (pa_c zad zab)))) (pa_c (zam (pa_c zad (pa_c zad (pa_c zad zab)))) (pa_c (zam (pa_c zad (pa_c zad (pa_c zad zab)))) (pa_c (zam (pa_c zad (pa_c zad (pa_c zad zab)))) zab)))))) (zac (zas (i := 1) sc_law_no_saying.nd rfl (Or.inl rfl) (zay zbl (pv 1) (zao (pa_c (zam (pa_c zad (pa_c zad (pa_c (zam (pa_c zad (pa_c zad (pa_c zad zab)))) zab)))) zab)))) (zac (zas (i := 1) sc_law_no_saying.nd rfl (Or.inl rfl) (zay zbl (pv 1) (zao (pa_c (zam (pa_c zad zab)) (pa_c (zam (pa_c zad (pa_c (zam (pa_c zad (pa_c zad (pa_c zad zab)))) zab))) (pa_c (zam (pa_c zad (pa_c zad (pa_c (zam (pa_c zad (pa_c zad (pa_c zad zab)))) zab)))) (pa_c zda (pa_c zad zab)))))))) (zac (zas (i := 1) sc_law_no_saying.nd rfl (Or.inl rfl) (zay zbl (pv 1) (zao (pa_c (zam (pa_c zad (pa_c zad (pa_c zad (pa_c zad zab))))) (pa_c (zao (pa_c zad (pa_c zad (pa_c zad zab)))) (pa_c (zam (pa_c zad (pa_c (zao (pa_c zad zab)) (pa_c zad zab)))) (pa_c (zam (pa_c zad (pa_c zad (pa_c zda zab)))) (pa_c (zam (pa_c zad (pa_c zae (pa_c zad zab)))) zab)))))))) (zac (zas (i := 1) sc_law_no_saying.nd rfl (Or.inl rfl) (zay zbl (pv 1) (zao (pa_c (zam (pa_c zad (pa_c (zqb (znf zad zae zp5) rfl rfl (by simp) (by decide)) (pa_c zad zab)))) (pa_c (zam (pa_c zad (pa_c (zao (pa_c zad zab)) (pa_c (zam (pa_c zad (pa_c zad (pa_c zad zab)))) zab)))) (pa_c (zam (pa_c (zao (pa_c zad zab)) (pa_c zad (pa_c zad zab)))) zab)))))) (zaf (zai (zap (zbb K) (zay zbl (pv 1) (zao (pa_c (zam (pa_c zad (pa_c zda (pa_c (zam (pa_c zad (pa_c zad (pa_c zad zab)))) zab)))) (pa_c (zam (pa_c zae (pa_c zad (pa_c zad zab)))) zab)))) (zay zbw (pv 0) zae) (fun _ _ => rfl))))))))), ?_⟩
  refine za3 [some (.int c), none] rfl ?_
  trivial
  refine ⟨zaa (by simp), fun p1 H1 n1 => ?_⟩
  refine ⟨zaa (by simp), fun p2 H2 n2 => ?_⟩
  refine ⟨zaa (by simp), fun p3 H3 n3 => ?_⟩
  refine ⟨zaa (by simp), fun p4 H4 n4 => ?_⟩
  refine ⟨zaa (by simp), fun p5 H5 n5 => ?_⟩
  refine ⟨zaa (by simp), fun p6 H6 n6 => ?_⟩
  refine ⟨zaa (by simp), fun p7 H7 n7 => ?_⟩
  refine ⟨zaa (by simp), fun p8 H8 n8 => ?_⟩
  refine ⟨_, n8.g _ _ (n7.g _ _ (n6.g _ _ (n5.at'))), _, n8.at', zaa (by simp), fun p9 H9 n9 => ?_⟩
  refine ⟨zaa (by simp), fun p10 H10 n10 => ?_⟩
  refine ⟨zaa (by simp), fun p11 H11 n11 => ?_⟩
  refine ⟨zaa (by simp), fun p12 H12 n12 => ?_⟩
  refine ⟨zaa (by simp), fun p13 H13 n13 => ?_⟩
  refine ⟨zaa (by simp), fun p14 H14 n14 => ?_⟩
  refine ⟨zaa (by simp), fun p15 H15 n15 => ?_⟩
  refine ⟨_, n15.g _ _ (n14.g _ _ (n13.g _ _ (n12.g _ _ (n11.g _ _ (n10.g _ _ (n9.at')))))), _, n15.at', zaa (by simp), fun p16 H16 n16 => ?_⟩
  refine ⟨zaa (by simp), fun p17 H17 n17 => ?_⟩
  refine ⟨zaa (by simp), fun p18 H18 n18 => ?_⟩
  refine ⟨zaa (by simp), fun p19 H19 n19 => ?_⟩
  refine ⟨zaa (by simp), fun p20 H20 n20 => ?_⟩
  refine ⟨zaa (by simp), fun p21 H21 n21 => ?_⟩
  refine ⟨zaa (by simp), fun p22 H22 n22 => ?_⟩
  refine ⟨zaa (by simp), fun p23 H23 n23 => ?_⟩
  refine ⟨_, n23.g _ _ (n22.g _ _ (n21.g _ _ (n20.g _ _ (n19.g _ _ (n18.g _ _ (n17.g _ _ (n16.at'))))))), _, n23.at', zaa (by simp), fun p24 H24 n24 => ?_⟩
  refine fun p25 h25 => ⟨zau, [(Sum.inr "Y", .int 1)], rfl, by decide, ?_⟩
  have n25 := New.mk' h25 (.dK (mergeK [] [(Sum.inr "Y", .int 1)]))
  rw [zpi]
  generalize upd H24 p25 (.dK (mergeK [] [(Sum.inr "Y", .int 1)])) = H25 at n25 ⊢
  refine ⟨zaa (by simp), fun p26 H26 n26 => ?_⟩
  refine ⟨zaa (by simp), fun p27 H27 n27 => ?_⟩
  refine ⟨zaa (by simp), fun p28 H28 n28 => ?_⟩
  refine ⟨zaa (by simp), fun p29 H29 n29 => ?_⟩
  refine ⟨zaa (by simp), fun p30 H30 n30 => ?_⟩
  refine ⟨zaa (by simp), fun p31 H31 n31 => ?_⟩
  refine ⟨zaa (by simp), fun p32 H32 n32 => ?_⟩
  refine ⟨_, n32.g _ _ (n31.g _ _ (n30.g _ _ (n29.g _ _ (n28.g _ _ (n27.g _ _ (n26.g _ _ (n25.g _ _ (n24.at')))))))), _, n32.at', zaa (by simp), fun p33 H33 n33 => ?_⟩
  refine ⟨zaa (by simp), fun p34 H34 n34 => ?_⟩
  refine ⟨zaa (by simp), fun p35 H35 n35 => ?_⟩
  refine ⟨zaa (by simp), fun p36 H36 n36 => ?_⟩
  refine ⟨zaa (by simp), fun p37 H37 n37 => ?_⟩
  refine ⟨_, n37.g _ _ (n36.g _ _ (n35.g _ _ (n34.g _ _ (n33.at')))), _, n37.at', zaa (by simp), fun p38 H38 n38 => ?_⟩
  have s38 := Same.refl H38
  have s37 := n38.g.trans s38
  have s36 := n37.g.trans s37
  have s35 := n36.g.trans s36
  have s34 := n35.g.trans s35
  have s33 := n34.g.trans s34
  have s32 := n33.g.trans s33
  have s31 := n32.g.trans s32
  have s30 := n31.g.trans s31
  have s29 := n30.g.trans s30
  have s28 := n29.g.trans s29
  have s27 := n28.g.trans s28
  have s26 := n27.g.trans s27
  have s25 := n26.g.trans s26
  have s24 := n25.g.trans s25
  have s23 := n24.g.trans s24
  have s22 := n23.g.trans s23
  have s21 := n22.g.trans s22
  have s20 := n21.g.trans s21
  have s19 := n20.g.trans s20
  have s18 := n19.g.trans s19
  have s17 := n18.g.trans s18
  have s16 := n17.g.trans s17
  have s15 := n16.g.trans s16
  have s14 := n15.g.trans s15
  have s13 := n14.g.trans s14
  have s12 := n13.g.trans s13
  have s11 := n12.g.trans s12
  have s10 := n11.g.trans s11
  have s9 := n10.g.trans s10
  have s8 := n9.g.trans s9
  have s7 := n8.g.trans s8
  have s6 := n7.g.trans s7
  have s5 := n6.g.trans s6
  have s4 := n5.g.trans s5
  have s3 := n4.g.trans s4
  have s2 := n3.g.trans s3
  have s1 := n2.g.trans s2
  have s0 := n1.g.trans s1
  have e1 := s1 _ _ n1.at'
  have e2 := s2 _ _ n2.at'
  have e3 := s3 _ _ n3.at'
  have e4 := s4 _ _ n4.at'
  have e5 := s5 _ _ n5.at'
  have e6 := s6 _ _ n6.at'
  have e7 := s7 _ _ n7.at'
  have e8 := s8 _ _ n8.at'
  have e9 := s9 _ _ n9.at'
  have e10 := s10 _ _ n10.at'
  have e11 := s11 _ _ n11.at'
  have e12 := s12 _ _ n12.at'
  have e13 := s13 _ _ n13.at'
  have e14 := s14 _ _ n14.at'
  have e15 := s15 _ _ n15.at'
  have e16 := s16 _ _ n16.at'
  have e17 := s17 _ _ n17.at'
  have e18 := s18 _ _ n18.at'
  have e19 := s19 _ _ n19.at'
  have e20 := s20 _ _ n20.at'
  have e21 := s21 _ _ n21.at'
  have e22 := s22 _ _ n22.at'
  have e23 := s23 _ _ n23.at'
  have e24 := s24 _ _ n24.at'
  have e25 := s25 _ _ n25.at'
  have e26 := s26 _ _ n26.at'
  have e27 := s27 _ _ n27.at'
  have e28 := s28 _ _ n28.at'
  have e29 := s29 _ _ n29.at'
  have e30 := s30 _ _ n30.at'
  have e31 := s31 _ _ n31.at'
  have e32 := s32 _ _ n32.at'
  have e33 := s33 _ _ n33.at'
  have e34 := s34 _ _ n34.at'
  have e35 := s35 _ _ n35.at'
  have e36 := s36 _ _ n36.at'
  have e37 := s37 _ _ n37.at'
  have e38 := s38 _ _ n38.at'
  obtain ⟨y, hy, my⟩ := zmt (i := c) (xs := ([.ref p1, .ref p2, .ref p3, .ref p4, .ref p7, .ref p10, .ref p12, .ref p14, .non, .str "x in X", .ref p17, .ref p18, .ref p20, .ref p21, .ref p22, .ref p26, .ref p29, .ref p31, .ref p35, .ref p36] : List V)) (n := 20) rfl (by decide)
  refine ⟨by decide, _, n38.lst, y, hy, ?_⟩
  simp only [List.mem_cons, List.not_mem_nil, or_false] at my
  rcases my with rfl | rfl | rfl | rfl | rfl | rfl | rfl | rfl | rfl | rfl | rfl | rfl | rfl | rfl | rfl | rfl | rfl | rfl | rfl | rfl
  · exact q (.tcons (.str "in") (.tcons (.str "X") (.tcons (.str "x") .tnil))) _ _ s0 ⟨_, _, _, rfl, e1, by simp, ⟨rfl, by decide +kernel⟩, ⟨_, _, rfl, ⟨rfl, by decide +kernel⟩, ⟨_, _, rfl, ⟨rfl, by decide +kernel⟩, rfl⟩⟩⟩ (by decide +kernel)
  · exact q (.tcons (.str "in") (.tcons (.str "x") (.tcons (.str "Z") .tnil))) _ _ s0 ⟨_, _, _, rfl, e2, by simp, ⟨rfl, by decide +kernel⟩, ⟨_, _, rfl, ⟨rfl, by decide +kernel⟩, ⟨_, _, rfl, ⟨rfl, by decide +kernel⟩, rfl⟩⟩⟩ (by decide +kernel)
  · exact q (.tcons (.str "same") (.tcons (.str "x") (.tcons (.str "X") .tnil))) _ _ s0 ⟨_, _, _, rfl, e3, by simp, ⟨rfl, by decide +kernel⟩, ⟨_, _, rfl, ⟨rfl, by decide +kernel⟩, ⟨_, _, rfl, ⟨rfl, by decide +kernel⟩, rfl⟩⟩⟩ (by decide +kernel)
  · exact q (.tcons (.str "left") (.tcons (.str "x") (.tcons (.str "x") .tnil))) _ _ s0 ⟨_, _, _, rfl, e4, by simp, ⟨rfl, by decide +kernel⟩, ⟨_, _, rfl, ⟨rfl, by decide +kernel⟩, ⟨_, _, rfl, ⟨rfl, by decide +kernel⟩, rfl⟩⟩⟩ (by decide +kernel)
  · exact q (.tcons (.str "some") (.tcons (.str "x") (.tcons (.tcons (.str "same") (.tcons (.str "x") (.tcons (.str "x") .tnil))) .tnil))) _ _ s0 ⟨_, _, _, rfl, e7, by simp, ⟨rfl, by decide +kernel⟩, ⟨_, _, rfl, ⟨rfl, by decide +kernel⟩, ⟨_, _, rfl, ⟨_, _, _, rfl, e6, by simp, ⟨rfl, by decide +kernel⟩, ⟨_, _, rfl, ⟨rfl, by decide +kernel⟩, ⟨_, _, rfl, ⟨rfl, by decide +kernel⟩, rfl⟩⟩⟩, rfl⟩⟩⟩ (by decide +kernel)
  · exact q (.tcons (.str "not") .tnil) _ _ s0 ⟨_, _, _, rfl, e10, by simp, ⟨rfl, by decide +kernel⟩, rfl⟩ (by decide +kernel)
  · exact q (.tcons (.str "and") (.tcons (.tcons (.str "same") (.tcons (.str "x") (.tcons (.str "x") .tnil))) .tnil)) _ _ s0 ⟨_, _, _, rfl, e12, by simp, ⟨rfl, by decide +kernel⟩, ⟨_, _, rfl, ⟨_, _, _, rfl, e11, by simp, ⟨rfl, by decide +kernel⟩, ⟨_, _, rfl, ⟨rfl, by decide +kernel⟩, ⟨_, _, rfl, ⟨rfl, by decide +kernel⟩, rfl⟩⟩⟩, rfl⟩⟩ (by decide +kernel)
  · exact q (.tcons (.str "some") (.tcons (.str "y") (.tcons (.tcons (.str "same") (.tcons (.str "y") (.tcons (.str "z") .tnil))) .tnil))) _ _ s0 ⟨_, _, _, rfl, e14, by simp, ⟨rfl, by decide +kernel⟩, ⟨_, _, rfl, ⟨rfl, by decide +kernel⟩, ⟨_, _, rfl, ⟨_, _, _, rfl, e13, by simp, ⟨rfl, by decide +kernel⟩, ⟨_, _, rfl, ⟨rfl, by decide +kernel⟩, ⟨_, _, rfl, ⟨rfl, by decide +kernel⟩, rfl⟩⟩⟩, rfl⟩⟩⟩ (by decide +kernel)
  · exact q .oth _ _ s0 ⟨_, .non, by decide, by decide⟩ (by decide +kernel)
  · exact q (.str "x in X") _ _ s0 ⟨rfl, by decide +kernel⟩ (by decide +kernel)
  · exact q (.tcons (.str "in") (.tcons (.str "x") (.tcons (.str "X") (.tcons (.str "X") .tnil)))) _ _ s0 ⟨_, _, _, rfl, e17, by simp, ⟨rfl, by decide +kernel⟩, ⟨_, _, rfl, ⟨rfl, by decide +kernel⟩, ⟨_, _, rfl, ⟨rfl, by decide +kernel⟩, ⟨_, _, rfl, ⟨rfl, by decide +kernel⟩, rfl⟩⟩⟩⟩ (by decide +kernel)
  · exact q .oth _ _ s0 ⟨_, .lst e18, by decide, by decide⟩ (by decide +kernel)
  · exact q (.tcons (.str "in") (.tcons .oth (.tcons (.str "X") .tnil))) _ _ s0 ⟨_, _, _, rfl, e20, by simp, ⟨rfl, by decide +kernel⟩, ⟨_, _, rfl, ⟨_, .lst e19, by decide, by decide⟩, ⟨_, _, rfl, ⟨rfl, by decide +kernel⟩, rfl⟩⟩⟩ (by decide +kernel)
  · exact q (.tcons (.str "in") (.tcons (.str "x") (.tcons .oth .tnil))) _ _ s0 ⟨_, _, _, rfl, e21, by simp, ⟨rfl, by decide +kernel⟩, ⟨_, _, rfl, ⟨rfl, by decide +kernel⟩, ⟨_, _, rfl, ⟨_, .non, by decide, by decide⟩, rfl⟩⟩⟩ (by decide +kernel)
  · exact q (.tcons (.str "same") (.tcons .oth (.tcons (.str "x") .tnil))) _ _ s0 ⟨_, _, _, rfl, e22, by simp, ⟨rfl, by decide +kernel⟩, ⟨_, _, rfl, ⟨_, .int _, by decide, by decide⟩, ⟨_, _, rfl, ⟨rfl, by decide +kernel⟩, rfl⟩⟩⟩ (by decide +kernel)
  · exact q (.tcons (.str "within") (.tcons .oth (.tcons (.str "X") .tnil))) _ _ s0 ⟨_, _, _, rfl, e26, by simp, ⟨rfl, by decide +kernel⟩, ⟨_, _, rfl, ⟨_, .dK e25, by decide, by decide⟩, ⟨_, _, rfl, ⟨rfl, by decide +kernel⟩, rfl⟩⟩⟩ (by decide +kernel)
  · exact q (.tcons (.str "some") (.tcons .oth (.tcons (.tcons (.str "in") (.tcons (.str "x") (.tcons (.str "X") .tnil))) .tnil))) _ _ s0 ⟨_, _, _, rfl, e29, by simp, ⟨rfl, by decide +kernel⟩, ⟨_, _, rfl, ⟨_, .lst e27, by decide, by decide⟩, ⟨_, _, rfl, ⟨_, _, _, rfl, e28, by simp, ⟨rfl, by decide +kernel⟩, ⟨_, _, rfl, ⟨rfl, by decide +kernel⟩, ⟨_, _, rfl, ⟨rfl, by decide +kernel⟩, rfl⟩⟩⟩, rfl⟩⟩⟩ (by decide +kernel)
  · exact q (.tcons .oth (.tcons (.str "x") (.tcons (.str "X") .tnil))) _ _ s0 ⟨_, _, _, rfl, e31, by simp, ⟨_, .lst e30, by decide, by decide⟩, ⟨_, _, rfl, ⟨rfl, by decide +kernel⟩, ⟨_, _, rfl, ⟨rfl, by decide +kernel⟩, rfl⟩⟩⟩ (by decide +kernel)
  · exact q (.tcons (.str "all") (.tcons .oth (.tcons (.tcons (.str "in") (.tcons (.str "x") (.tcons (.str "X") .tnil))) .tnil))) _ _ s0 ⟨_, _, _, rfl, e35, by simp, ⟨rfl, by decide +kernel⟩, ⟨_, _, rfl, ⟨_, .non, by decide, by decide⟩, ⟨_, _, rfl, ⟨_, _, _, rfl, e34, by simp, ⟨rfl, by decide +kernel⟩, ⟨_, _, rfl, ⟨rfl, by decide +kernel⟩, ⟨_, _, rfl, ⟨rfl, by decide +kernel⟩, rfl⟩⟩⟩, rfl⟩⟩⟩ (by decide +kernel)
  · exact q (.tcons .oth (.tcons (.str "x") (.tcons (.str "X") .tnil))) _ _ s0 ⟨_, _, _, rfl, e36, by simp, ⟨_, .int _, by decide, by decide⟩, ⟨_, _, rfl, ⟨rfl, by decide +kernel⟩, ⟨_, _, rfl, ⟨rfl, by decide +kernel⟩, rfl⟩⟩⟩ (by decide +kernel)
end
section
variable {P : Program} {w : World} {K : PySem.W.Frag} {mg : Str → Option Value} {base : Heap} {tw rw fa cLeftovers cSayError : Addr} {cs : List Addr}
abbrev s_law_cell_at : Stmt := top 56
theorem zeg : FnScope ["_law_script", "_law_k"] ["_law_script", "_law_k"] (defScope s_law_cell_at) := ⟨rfl, rfl, rfl, by decide +kernel, rfl, by decide +kernel, by decide +kernel⟩
theorem zqn (T : Txt K mg w tw rw fa cLeftovers cSayError cs) (d : Dfn K mg "_law_cell_at" s_law_cell_at ["_law_script", "_law_k"]) : Cal P w K mg base 1 "_law_cell_at" ["_law_script", "_law_k"] (zkm K) := by
  refine d.cal zeg (fun vs H Q E h => ?_) (fun f cdv A outer s H vs Q E hr h => ?_)
  · obtain ⟨a, ns, k, rfl, _⟩ := h
    rfl
  obtain ⟨a, ns, k, rfl, hS, h0, q⟩ := h
  refine ⟨_, (zac (zax (zaj zrt (pv 1) (za4 (zaq K) (by rfl) T.b_len boot_len (pa_c (pv 0) zab)) (nomark _)) (zaf (zai (zap (zbb K) (pv 0) (pv 1) (fun _ _ => rfl)))) zak) (zaf (zai zae))), ?_⟩
  refine za3 [some (.ref a), some (.int k)] rfl ?_
  trivial
  refine ⟨_, .inl hS, ite2 (fun c => ?_) (fun _ => q 0)⟩
  have c' := of_decide_eq_true c
  rw [List.length_map] at c'
  have hk : k.toNat < ns.length := by omega
  have ek : k = ((k.toNat : Nat) : Int) := by omega
  have e : atI (ns.map V.int) ((k.toNat : Nat) : Int) = some (.int ns[k.toNat]) := zal (by simp [hk])
  rw [← ek] at e
  exact ⟨_, hS, _, e, q _⟩
abbrev s_law_mixed : Stmt := top 57
theorem zga : FnScope ["_law_cell"] ["_law_cell"] (defScope s_law_mixed) := ⟨rfl, rfl, rfl, by decide +kernel, rfl, by decide +kernel, by decide +kernel⟩
theorem znt (T : Txt K mg w tw rw fa cLeftovers cSayError cs) (d : Dfn K mg "_law_mixed" s_law_mixed ["_law_cell"]) : Cal P w K mg base 1 "_law_mixed" ["_law_cell"] zid := by
  refine d.cal zga (fun vs H Q E h => ?_) (fun f cdv A outer s H vs Q E hr h => ?_)
  · obtain ⟨c, rfl, _⟩ := h
    rfl
  obtain ⟨c, rfl, q⟩ := h
  refine ⟨_, (zaf (zai (zay zbw (zay zrs (pv 0) zae) zae))), ?_⟩
  refine za3 [some (.int c)] rfl ?_
  trivial
  exact ⟨.inr ⟨by decide, by decide⟩, by decide, q _ (Int.emod_nonneg _ (by decide)) (Int.emod_lt_of_pos _ (by decide))⟩
abbrev sp_law (K : PySem.W.Frag) : Sp := zpl K
abbrev s_law : Stmt := top 62
theorem sc_law : FnScope ["_law_script", "_law_mixed_here", "_law_frame", "_law_saying", "_law_row", "_law_due", "_law_at", "_law_far", "_law_handed", "_law_found"] ["_law_script"] (defScope s_law) := ⟨rfl, rfl, rfl, by decide +kernel, rfl, by decide +kernel, by decide +kernel⟩
theorem zr0 {f : Addr} {fd : FuncData} (T : Txt K mg w tw rw fa cLeftovers cSayError cs) (F : Fun K "law" "law" s_law f fd) (C_law_cell_at : Cal P w K mg base 1 "_law_cell_at" ["_law_script", "_law_k"] (zkm K)) (C_law_mixed : Cal P w K mg base 1 "_law_mixed" ["_law_cell"] zid) (C_law_no_frame : Cal P w K mg base 1 "_law_no_frame" ["_law_number"] zkf) (C_law_no_saying : Cal P w K mg base 1 "_law_no_saying" ["_law_number"] zic) (C_law_end : Cal P w K mg base 33 "_law_end" ["_law_saying", "_law_frame", "_law_row"] (zii cs)) : FnOk P w K mg base CX0 34 f fd ["_law_script"] (sp_law K) := by
  refine F.ok sc_law (fun vs H Q E h => ?_) (fun cdv A outer s H vs Q E hr h => ?_)
  · obtain ⟨a, ns, rfl, _⟩ := h
    rfl
  obtain ⟨a, ns, rfl, hS, h63, q⟩ := h
  have hu := zjs hr 8 (by decide)
  refine ⟨_, (zac (zas (i := 1) sc_law.nd rfl (Or.inl rfl) (zag C_law_mixed hr (by omega) (by rfl) (pa_c (zag C_law_cell_at hr (by omega) (by rfl) (pa_c (pv 0) (pa_c zae zab))) zab))) (zac (zas (i := 2) sc_law.nd rfl (Or.inr rfl) (zap (zbb K) (zao (pa_c (zao (pa_c zad (pa_c zad zab))) (pa_c (zao (pa_c zad (pa_c zad zab))) (pa_c (zao (pa_c zad (pa_c zad (pa_c zad zab)))) zab)))) (zay zbw (pv 1) zae) (fun _ _ => rfl))) (zac (zas (i := 3) sc_law.nd rfl (Or.inl rfl) (zap (zbb K) (zao (pa_c (zam (pa_c zad (pa_c zad (pa_c zad zab)))) (pa_c (zam (pa_c zad (pa_c (zam (pa_c zad (pa_c zad (pa_c zad zab)))) zab))) (pa_c (zam (pa_c zad (pa_c zad (pa_c (zam (pa_c zad (pa_c zad (pa_c zad zab)))) zab)))) zab)))) (zay zbw (zay zcq (pv 1) zae) zae) (fun _ _ => rfl))) (zac (zas (i := 4) sc_law.nd rfl (Or.inl rfl) (zay zbl (zbd ["_law_cell"] [(2, "_law_frame")] (CompOk.of rfl (by rfl) (by rfl)) (by rfl) (zbp K (zdk (zkq K) (pv 0) (zdv zae) (zdv zae))) (fun _ _ _ _ _ => (za9 (i := 0) (show List.Nodup (["_law_cell", "_law_frame"] : List Str) by decide +kernel) (by rfl) (Or.inl (by rfl)))) (fun _ _ _ _ _ => zca) (fun _ _ _ _ _ => (zay zbw (zag C_law_mixed hr (by omega) (by rfl) (pa_c (pv 0) zab)) (zap (zbb K) (zao (pa_c zae (pa_c zae (pa_c zae (pa_c zae zab))))) (za4 (zaq K) (by rfl) T.b_len boot_len (pa_c (pv 1) zab)) (fun _ _ => rfl))))) (zao (pa_c zae zab)))) (zac (zas (i := 5) sc_law.nd rfl (Or.inl rfl) zad) (zds (zax (zaj znq (zay zbw (zay zcq (pv 1) zae) zae) zae (nomark _)) (zac (zas (i := 6) sc_law.nd rfl (Or.inl rfl) (zay zbw (zag C_law_mixed hr (by omega) (by rfl) (pa_c (zag C_law_cell_at hr (by omega) (by rfl) (pa_c (pv 0) (pa_c zae zab))) zab)) (zay ziu (za4 (zaq K) (by rfl) T.b_len boot_len (pa_c (pv 4) zab)) zae))) (zac (zas (i := 7) sc_law.nd rfl (Or.inl rfl) (zao (pa_c (zsn zrb zae) (pa_c (zap (zbb K) (zao (pa_c zae (pa_c zae zab))) (zay zit (za4 (zaq K) (by rfl) T.b_len boot_len (pa_c (pv 2) zab)) zae) (fun _ _ => rfl)) (pa_c zae (pa_c (zay zit (zay zit zae zae) (zay zbw (zag C_law_cell_at hr (by omega) (by rfl) (pa_c (pv 0) (pa_c zae zab))) (zay zox zae zae))) zab)))))) (zac (zas (i := 7) sc_law.nd rfl (Or.inl rfl) (zay zbl (pv 7) (zao (pa_c (zay ziu zae (zay zbw (zag C_law_cell_at hr (by omega) (by rfl) (pa_c (pv 0) (pa_c zae zab))) (zay zox zae zae))) zab)))) (zac (zc0 (zis K PySem.F.plainAttrs_list PySem.F.slot_list_insert PySem.F.type_list_insert zlr (pv 4) (pa_c (pv 6) (pa_c (zap (zbb K) (pv 7) (zay zbw (zay zcq (zag C_law_mixed hr (by omega) (by rfl) (pa_c (zag C_law_cell_at hr (by omega) (by rfl) (pa_c (pv 0) (pa_c zae zab))) zab)) zae) zae) (fun _ _ => rfl)) zab)))) (zaf (zas (i := 5) sc_law.nd rfl (Or.inl rfl) zad)))))) zak) (zds (zax (zaj za7 (zay zbw (zay zcq (pv 1) zae) zae) zae (nomark _)) (zac (zas (i := 3) sc_law.nd rfl (Or.inl rfl) (zag C_law_no_saying hr (by omega) (by rfl) (pa_c (zay zcq (pv 1) zae) zab))) (zaf (zas (i := 5) sc_law.nd rfl (Or.inl rfl) zad))) zak) (zds (zax (zaj za7 (zay zbw (zay zcq (pv 1) zae) zae) zae (nomark _)) (zac (zas (i := 2) sc_law.nd rfl (Or.inr rfl) (zag C_law_no_frame hr (by omega) (by rfl) (pa_c (zay zcq (pv 1) zae) zab))) (zaf (zas (i := 5) sc_law.nd rfl (Or.inl rfl) zad))) zak) (zac (zas (i := 8) sc_law.nd rfl (Or.inl rfl) (zir (zeo K) (by rfl) T.b_list boot_list (pa_c (pv 4) zab))) (zac (zas (i := 9) sc_law.nd rfl (Or.inl rfl) (zag C_law_end hr (by omega) (by rfl) (pa_c (pv 3) (pa_c (pv 2) (pa_c (pv 8) zab))))) (zac (zax (zaj (zqe K hu) (pv 8) (pv 4) (nomark _)) (zaf (zai zhk)) zak) (zac (zax (zaj zhl (pv 5) zad (nomark _)) (zaf (zai (zbg (zoy hu) (pv 9) (zao (pa_c (pv 5) zab)) (nomark _)))) zak) (zaf (zai (zcn (zbg za7 (za4 (zaq K) (by rfl) T.b_len boot_len (pa_c (pv 9) zab)) zae (nomark _)) (zcm (za4 zbq (by rfl) T.b_isinstance boot_isinstance (pa_c (zap (zbb K) (pv 9) zae (fun _ _ => rfl)) (pa_c (zbv (v := .ty "bool") (by rfl) T.b_bool boot_bool (by rfl)) zab))))))))))))))))))), ?_⟩
  refine za3 [some (.ref a), none, none, none, none, none, none, none, none, none] rfl ?_
  trivial
  refine ⟨a, ns, 0, rfl, hS, by decide, fun c0 => ⟨c0, rfl, fun m0 hm0 hm1 => ⟨zaa (by simp), fun f0 H1 n1 => ⟨zaa (by simp), fun f1 H2 n2 => ⟨zaa (by simp), fun f2 H3 n3 => ⟨zaa (by simp), fun fl H4 n4 => ⟨m0, rfl, by decide, _, n4.lst, ?_⟩⟩⟩⟩⟩⟩⟩
  have g04 : Same H H4 := n1.g.trans (n2.g.trans (n3.g.trans n4.g))
  obtain ⟨fr, tl, efr, htl, eat⟩ : ∃ (fr : Addr) (tl : List Str), H4 fr = some (.lst (tl.map V.str)) ∧ tl ∈ frames12 ∧ atI [V.ref f0, V.ref f1, V.ref f2] (m0 % 3) = some (.ref fr) := by
    obtain ⟨r, er⟩ : ∃ r : Nat, m0 % 3 = (r : Int) := ⟨(m0 % 3).toNat, by omega⟩
    rw [er]
    rcases (show r = 0 ∨ r = 1 ∨ r = 2 by omega) with rfl | rfl | rfl
    · exact ⟨f0, ["x", "X"], (n2.g.trans (n3.g.trans n4.g)) _ _ n1.at', by simp [frames12], zal (j := 0) rfl⟩
    · exact ⟨f1, ["X", "x"], (n3.g.trans n4.g) _ _ n2.at', by simp [frames12], zal (j := 1) rfl⟩
    · exact ⟨f2, ["x", "X", "y"], n4.g _ _ n3.at', by simp [frames12], zal (j := 2) rfl⟩
  obtain ⟨⟨l2, l3⟩, fo, hl4, hfr, hx, hX, hz⟩ := fr12 htl
  refine ⟨_, eat, zaa (by simp), fun s0 H5 n5 => ⟨zaa (by simp), fun s1 H6 n6 => ⟨zaa (by simp), fun s2 H7 n7 => ⟨zaa (by simp), fun s3 H8 n8 => ⟨zaa (by simp), fun s4 H9 n9 => ⟨zaa (by simp), fun sl Ha na => ?_⟩⟩⟩⟩⟩⟩
  have g4a : Same H4 Ha := n5.g.trans (n6.g.trans (n7.g.trans (n8.g.trans (n9.g.trans na.g))))
  have g0a := g04.trans g4a
  obtain ⟨sv, kd, hk, rp, esv⟩ : ∃ (sv : V) (kd : Nat), kd ≤ 2 ∧ Rep Ha sv (say3 kd) ∧ atI [V.ref s0, V.ref s2, V.ref s4] (m0 / 3 % 3) = some sv := by
    obtain ⟨r, er⟩ : ∃ r : Nat, m0 / 3 % 3 = (r : Int) := ⟨(m0 / 3 % 3).toNat, by omega⟩
    rw [er]
    rcases (show r = 0 ∨ r = 1 ∨ r = 2 by omega) with rfl | rfl | rfl
    · exact ⟨_, 0, by decide, .bare (by decide) ((n6.g.trans (n7.g.trans (n8.g.trans (n9.g.trans na.g)))) _ _ n5.at'), zal (j := 0) rfl⟩
    · exact ⟨_, 1, by decide, .neg ((n8.g.trans (n9.g.trans na.g)) _ _ n7.at') (.bare (by decide) ((n7.g.trans (n8.g.trans (n9.g.trans na.g))) _ _ n6.at')), zal (j := 1) rfl⟩
    · exact ⟨_, 2, by decide, .qu (by decide) (na.g _ _ n9.at') (.bare (by decide) ((n9.g.trans na.g) _ _ n8.at')), zal (j := 2) rfl⟩
  refine ⟨m0, rfl, ⟨by decide, by decide⟩, by decide, _, na.lst, _, esv, _, g0a.seq hS, fun lc Hb nb => ?_⟩
  rw [zop] at nb
  have hcl : (cutL ns (some 3) (some 33)).length ≤ 30 := by
    unfold cutL
    rw [List.length_take]
    have e1 : HT.sIx ns.length 0 (some 3) = min 3 ns.length := by unfold HT.sIx; simp only; split <;> omega
    have e2 : HT.sIx ns.length ns.length (some 33) = min 33 ns.length := by unfold HT.sIx; simp only; split <;> omega
    rw [e1, e2]
    omega
  have g0b := g0a.trans nb.g
  have efb := nb.g _ _ (g4a _ _ efr)
  refine ⟨⟨_, .of nb.at'⟩, zsy (n := (cutL ns (some 3) (some 33)).length) (fun σ => ∃ v, σ = [v, some (.ref fr)]) (fun _ y _ => ∃ c : Nat, y = nV c ∧ c < 2 ^ tl.length) (by omega) ⟨_, rfl⟩ (fun i H5 hi gg => ⟨_, ((cutL ns (some 3) (some 33)).map V.int)[i]'(by rw [List.length_map]; exact hi), .of (gg _ _ nb.at'), List.getElem?_eq_getElem _⟩) (fun H5 gg => ⟨_, .of (gg _ _ nb.at'), by rw [List.length_map]; exact Nat.le_refl _⟩) ?_ ?_⟩
  · rintro D2 i zs σ Hx y5 Hx' hi gg hD2 hD2' hll2 hy2 ⟨v, rfl⟩ ⟨rfl, yx⟩
    have yx := yx _ (.of (gg _ _ nb.at'))
    rw [List.getElem?_map] at yx
    obtain ⟨ce, _, rfl⟩ := Option.map_eq_some_iff.mp yx
    trivial
    refine ⟨ce, rfl, fun r0 hr0 hr1 => ⟨zaa (by simp), fun p5 H5 n5 => ⟨_, .inl (.of (n5.g _ _ (gg _ _ efb))), _, n5.lst, ?_⟩⟩⟩
    rw [List.length_map]
    have ep : atI [V.int 1, V.int 2, V.int 4, V.int 8] ((tl.length : Nat) : Int) = some (nV (2 ^ tl.length)) := by
      rcases (show tl.length = 2 ∨ tl.length = 3 by omega) with e | e <;> rw [e]
      · exact zal (j := 2) rfl
      · exact zal (j := 3) rfl
    have p0 : 0 < 2 ^ tl.length := Nat.two_pow_pos _
    refine ⟨_, ep, _, rfl, _, rfl, by omega, ?_⟩
    have b0 := Int.emod_nonneg r0 (show ((2 ^ tl.length : Nat) : Int) ≠ 0 by omega)
    have b1 := Int.emod_lt_of_pos r0 (show (0 : Int) < ((2 ^ tl.length : Nat) : Int) by omega)
    exact zq5 (fun j y H H' ts z => z) (by omega) hi hD2 (n5.g _ _ hD2') hll2 hy2 n5.g.tups (gg.trans n5.g) ⟨_, rfl⟩ ⟨(r0 % ((2 ^ tl.length : Nat) : Int)).toNat, by show V.int _ = V.int _; congr 1; omega, by omega⟩
  intro D2 ys Hc hD2 gc eD2 hyl hyc
  obtain ⟨row0, er0, hr0⟩ : ∃ row0 : List Nat, ys = row0.map nV ∧ ∀ c ∈ row0, c < 2 ^ tl.length := by
    have key : ∀ ys : List V, (∀ y ∈ ys, ∃ c : Nat, y = nV c ∧ c < 2 ^ tl.length) → ∃ row0 : List Nat, ys = row0.map nV ∧ ∀ c ∈ row0, c < 2 ^ tl.length := by
      intro ys
      induction ys with
      | nil => exact fun _ => ⟨[], rfl, fun _ h => nomatch h⟩
      | cons y ys ih =>
        intro h
        obtain ⟨r, e, hr⟩ := ih fun z hz => h z (List.mem_cons_of_mem _ hz)
        obtain ⟨c, ec, hc⟩ := h y List.mem_cons_self
        refine ⟨c :: r, by rw [ec, e]; rfl, fun z hz => ?_⟩
        rcases List.mem_cons.mp hz with rfl | hz
        · exact hc
        · exact hr z hz
    exact key ys fun y hy => by
      obtain ⟨j, hj⟩ := List.mem_iff_getElem?.mp hy
      exact hyc j y hj
  subst er0
  rw [List.length_map] at hyl
  have p1 : 1 < 2 ^ tl.length := Nat.one_lt_two_pow (by omega)
  refine ⟨zaa (by simp), fun q1 Hd nd => ⟨D2, rfl, _, nd.g _ _ eD2, _, nd.at', zaa (by rw [List.length_map]; simp only [List.length_cons, List.length_nil]; omega), fun r He ne => ?_⟩⟩
  have gbe : Same Hb He := gc.trans (nd.g.trans ne.g)
  have g0e := g0b.trans gbe
  have er : He r = some (.lst (((row0 ++ [1]).map fun (n : Nat) => (n : Int)).map V.int)) := by rw [ne.at', List.map_map, List.map_append]; rfl
  have hr1 : ∀ c ∈ row0 ++ [1], c < 2 ^ tl.length := fun c hc => by
    rcases List.mem_append.mp hc with h | h
    · exact hr0 c h
    · rw [List.mem_singleton.mp h]; exact p1
  have hrl : (row0 ++ [1]).length ≤ 31 := by rw [List.length_append]; simp only [List.length_cons, List.length_nil]; omega
  generalize row0 ++ [1] = row at er hr1 hrl
  have hnr : Hb r = none := gc.free (nd.g.free ne.nil)
  have efe := gbe _ _ efb
  have rpe := rp.same (nb.g.trans gbe)
  refine ⟨fun σ H' => Same Hb H' ∧ ∃ (rs : List Int) (due : Str) (v6 v7 : Option V), σ = [some (.ref a), some (.int m0), some (.ref fr), some sv, some (.ref r), some (.str due), v6, v7, none, none] ∧ H' r = some (.lst (rs.map V.int)) ∧ rs.length ≤ 40 ∧ ((due = "NoRow" ∧ ∃ x ∈ rs, ¬ (0 ≤ x ∧ x < 2 ^ tl.length)) ∨ (due = "" ∧ ∃ row : List Nat, rs = row.map (fun (n : Nat) => (n : Int)) ∧ ∀ l ∈ row, l < 2 ^ tl.length)), ?_, ?_⟩
  · trivial
    refine ⟨⟨by decide, by decide⟩, by decide, ite2 (fun _ => ?_) fun _ => ⟨gbe, _, er, by rw [List.length_map]; omega, .inr ⟨row, rfl, hr1⟩⟩⟩
    refine ⟨a, ns, 1, rfl, g0e.seq hS, by decide, fun c1 => ⟨c1, rfl, fun m1 hm1a hm1b => ⟨_, .inl (.of er), m1, rfl, by omega, zaa (by simp), fun k1 H1' n1' => ⟨_, .inl (.of (n1'.g _ _ efe)), _, n1'.lst, ?_⟩⟩⟩⟩
    have e48 : atI [V.int 4, V.int 8] (((tl.map V.str).length : Int) - 2) = some (nV (2 ^ tl.length)) := by
      rw [List.length_map]
      rcases (show tl.length = 2 ∨ tl.length = 3 by omega) with e | e <;> rw [e]
      · exact zal (j := 0) rfl
      · exact zal (j := 1) rfl
    refine ⟨_, e48, a, ns, 2, rfl, (g0e.trans n1'.g).seq hS, by decide, fun c2 => ⟨⟨by decide, by decide, by decide⟩, c2, rfl, by decide, zaa (by simp), fun k2 H2' n2' => ?_⟩⟩
    have g2' := g0e.trans (n1'.g.trans n2'.g)
    refine ⟨a, ns, 2, rfl, g2'.seq hS, by decide, fun c3 => ⟨⟨by decide, by decide, by decide⟩, c3, rfl, by decide, zaa (by simp), fun k3 H3' n3' => ⟨_, n3'.g _ _ n2'.at', _, n3'.at', zaa (by simp), fun k4 H4' n4' => ?_⟩⟩⟩
    have ge4 : Same He H4' := n1'.g.trans (n2'.g.trans (n3'.g.trans n4'.g))
    have er4 := ge4 _ _ er
    have hb0 := Int.emod_nonneg c2 (show (10 : Int) ^ Int.toNat 60 ≠ 0 by decide)
    have hb1 := Int.emod_nonneg c3 (show (10 : Int) ^ Int.toNat 60 ≠ 0 by decide)
    generalize c2 % (10 : Int) ^ Int.toNat 60 = y2 at *
    generalize c3 % (10 : Int) ^ Int.toNat 60 = y3 at *
    refine ⟨.inl ⟨_, .of er4⟩, a, ns, 1, rfl, (g0e.trans ge4).seq hS, by decide, fun c4 => ⟨c4, rfl, fun m4 hm4 _ => ⟨m4, rfl, ⟨by decide, by decide⟩, by decide, _, n4'.lst, ?_⟩⟩⟩
    have p8 : 2 ^ tl.length ≤ 2 ^ 3 := Nat.pow_le_pow_right (by decide) l3
    have pn : ((2 : Int) ^ tl.length) = ((2 ^ tl.length : Nat) : Int) := by simp
    obtain ⟨xb, exb, hxb⟩ : ∃ xb : Int, atI ([V.int (-1), nV (2 ^ tl.length), V.int 16, V.int (0 - 1 - y2)] ++ [V.int (16 + y3)]) (m4 / 40 % 5) = some (.int xb) ∧ ¬ (0 ≤ xb ∧ xb < 2 ^ tl.length) := by
      obtain ⟨r5, e5⟩ : ∃ r5 : Nat, m4 / 40 % 5 = (r5 : Int) := ⟨(m4 / 40 % 5).toNat, by omega⟩
      rw [e5, pn]
      rcases (show r5 = 0 ∨ r5 = 1 ∨ r5 = 2 ∨ r5 = 3 ∨ r5 = 4 by omega) with rfl | rfl | rfl | rfl | rfl
      · exact ⟨_, zal (j := 0) rfl, by omega⟩
      · exact ⟨_, zal (j := 1) rfl, by omega⟩
      · exact ⟨_, zal (j := 2) rfl, by omega⟩
      · exact ⟨_, zal (j := 3) rfl, by omega⟩
      · exact ⟨_, zal (j := 4) rfl, by omega⟩
    have hml : ((row.map fun (n : Nat) => (n : Int)).map V.int).length = row.length := by rw [List.length_map, List.length_map]
    have hq0 := Int.emod_nonneg m1 (show (row.length : Int) + 1 ≠ 0 by omega)
    have hq1 := Int.emod_lt_of_pos m1 (show (0 : Int) < (row.length : Int) + 1 by omega)
    refine ⟨_, exb, _, (m1 % ((row.length : Int) + 1)).toNat, by rw [hml]; omega, er4, by rw [hml]; omega, by rw [hml]; omega, fun H5' e5 => ?_⟩
    subst e5
    refine ⟨(gbe.trans ge4).wr hnr _, ((row.map fun (n : Nat) => (n : Int)).take (m1 % ((row.length : Int) + 1)).toNat ++ xb :: (row.map fun (n : Nat) => (n : Int)).drop (m1 % ((row.length : Int) + 1)).toNat), ?_, ?_, .inl ⟨xb, by simp, hxb⟩⟩
    · rw [zau, List.map_append, List.map_cons, List.map_take, List.map_drop]
    · simp only [List.length_append, List.length_cons, List.length_take, List.length_drop, List.length_map]
      omega
  rintro σ H' ⟨gA, rs, due, v6, v7, rfl, erA, hrsl, hdue⟩
  refine ⟨fun σ H'' => Same H' H'' ∧ ∃ (v : V) (due2 : Str), σ = [some (.ref a), some (.int m0), some (.ref fr), some v, some (.ref r), some (.str due2), v6, v7, none, none] ∧ ((due2 = "NoSaying" ∧ ∃ l, LitAt H'' l v ∧ badAll l = true) ∨ (due2 = due ∧ v = sv)), ?_, ?_⟩
  · trivial
    refine ⟨⟨by decide, by decide⟩, by decide, ite2 (fun _ => ?_) fun _ => ?_⟩
    · exact ⟨⟨by decide, by decide⟩, _, rfl, Int.ediv_nonneg hm0 (by decide), fun l v H1 g1 lt hb => ⟨g1, .inl ⟨l, lt, hb⟩⟩⟩
    · exact ⟨Same.refl _, .inr trivial⟩
  rintro σ H'' ⟨gB, v, due2, rfl, hv⟩
  refine ⟨fun σ H3 => Same H'' H3 ∧ ∃ (fv : V) (due3 : Str), σ = [some (.ref a), some (.int m0), some fv, some v, some (.ref r), some (.str due3), v6, v7, none, none] ∧ ((due3 = "NoFrame" ∧ Ask H3 fv ∧ frB H3 fv = false) ∨ (due3 = due2 ∧ fv = .ref fr)), ?_, ?_⟩
  · trivial
    refine ⟨⟨by decide, by decide⟩, by decide, ite2 (fun _ => ?_) fun _ => ?_⟩
    · exact ⟨⟨by decide, by decide⟩, _, rfl, Int.ediv_nonneg hm0 (by decide), fun v H1 g1 ak hf => ⟨g1, .inl ⟨ak, hf⟩⟩⟩
    · exact ⟨Same.refl _, .inr trivial⟩
  rintro σ H3 ⟨gC, fv, due3, rfl, hfv⟩
  trivial
  have er3 := gC _ _ (gB _ _ erA)
  refine ⟨_, .inl (.of er3), fun hd H4' n4' => ?_⟩
  have g34 := n4'.g
  have gBb : Same Hb H4' := gA.trans (gB.trans (gC.trans g34))
  have ef4 := gBb _ _ efb
  have rp4 := rp.same (nb.g.trans gBb)
  obtain ⟨w1, w2, w3⟩ := let12 tl htl kd (by omega)
  have th4 : Things H4' (tl.map V.str) := zg6 (by omega) (fun z hz => by have := hl4 z hz; omega)
  have askf : Ask H4' (.ref fr) := ⟨⟨⟨_, .lst ef4⟩, fun z e => by cases e⟩, fun a' ys ea ee => by cases ea; rw [ef4] at ee; cases ee; exact th4⟩
  have hff : frB H4' (.ref fr) = true := by unfold frB; simp only [ef4]; exact hfr
  have exv : Exp H4' 12 v := by
    rcases hv with ⟨_, l, lt, _⟩ | ⟨_, rfl⟩
    · exact (lt.same (gC.trans g34)).exp 12
    · exact rp4.exp w2 12
  have askv : Ask H4' fv := by
    rcases hfv with ⟨_, ak, _⟩ | ⟨_, rfl⟩
    · exact (ak.same g34).1
    · exact askf
  refine ⟨v, fv, hd, rs, rfl, n4'.at', by omega, exv, askv, ?_⟩
  have er4 := g34 _ _ er3
  rcases hfv with ⟨rfl, ak, hfb⟩ | ⟨rfl, rfl⟩
  · refine .inl ⟨by rw [(ak.same g34).2]; exact hfb, fun D H5 g5 eD => ?_⟩
    dsimp only
    refine ⟨rs, .of (g5 _ _ n4'.at'), rs, .of (g5 _ _ er4), ?_⟩
    rw [decide_eq_true rfl]
    refine iteF ?_
    rw [decide_eq_false (show ¬ Str.ofString "NoFrame" = Str.ofString "" by decide)]
    refine iteT ⟨zaa (by simp), fun p6 H6 n6 => ?_⟩
    have r6 := zcz (X := (cxOf CX0 P w K mg base ["_law_script", "_law_mixed_here", "_law_frame", "_law_saying", "_law_row", "_law_due", "_law_at", "_law_far", "_law_handed", "_law_found"] "law" (defScope s_law) f cdv A outer s H E).nox) (.of (n6.g _ _ eD)) (.of n6.at') rfl rfl
    have e6 : ([V.str "NoFrame"].length == [V.str "NoFrame"].length && (List.range [V.str "NoFrame"].length).all fun j => eqV ([V.str "NoFrame"].getD j .non) ([V.str "NoFrame"].getD j .non)) = true := by decide +kernel
    rw [e6] at r6
    exact ⟨true, r6.up (by omega), q H6⟩
  rcases hv with ⟨rfl, l, lt, hbad⟩ | ⟨rfl, rfl⟩
  · refine .inr (.inl ⟨hff, zpu ef4 ((lt.same (gC.trans g34)).bad (List.all_eq_true.mp hbad tl htl)), fun D H5 g5 eD => ?_⟩)
    dsimp only
    refine ⟨rs, .of (g5 _ _ n4'.at'), rs, .of (g5 _ _ er4), ?_⟩
    rw [decide_eq_true rfl]
    refine iteF ?_
    rw [decide_eq_false (show ¬ Str.ofString "NoSaying" = Str.ofString "" by decide)]
    refine iteT ⟨zaa (by simp), fun p6 H6 n6 => ?_⟩
    have r6 := zcz (X := (cxOf CX0 P w K mg base ["_law_script", "_law_mixed_here", "_law_frame", "_law_saying", "_law_row", "_law_due", "_law_at", "_law_far", "_law_handed", "_law_found"] "law" (defScope s_law) f cdv A outer s H E).nox) (.of (n6.g _ _ eD)) (.of n6.at') rfl rfl
    have e6 : ([V.str "NoSaying"].length == [V.str "NoSaying"].length && (List.range [V.str "NoSaying"].length).all fun j => eqV ([V.str "NoSaying"].getD j .non) ([V.str "NoSaying"].getD j .non)) = true := by decide +kernel
    rw [e6] at r6
    exact ⟨true, r6.up (by omega), q H6⟩
  have G : Good H4' _ (.ref fr) fr tl kd := ⟨rfl, ef4, htl, hk, rp4⟩
  refine .inr (.inr ⟨fr, tl, kd, G, ?_⟩)
  rcases hdue with ⟨rfl, hb⟩ | ⟨rfl, row', e', hr'⟩
  · refine .inl ⟨hb, fun D H5 g5 eD => ?_⟩
    dsimp only
    refine ⟨rs, .of (g5 _ _ n4'.at'), rs, .of (g5 _ _ er4), ?_⟩
    rw [decide_eq_true rfl]
    refine iteF ?_
    rw [decide_eq_false (show ¬ Str.ofString "NoRow" = Str.ofString "" by decide)]
    refine iteT ⟨zaa (by simp), fun p6 H6 n6 => ?_⟩
    have r6 := zcz (X := (cxOf CX0 P w K mg base ["_law_script", "_law_mixed_here", "_law_frame", "_law_saying", "_law_row", "_law_due", "_law_at", "_law_far", "_law_handed", "_law_found"] "law" (defScope s_law) f cdv A outer s H E).nox) (.of (n6.g _ _ eD)) (.of n6.at') rfl rfl
    have e6 : ([V.str "NoRow"].length == [V.str "NoRow"].length && (List.range [V.str "NoRow"].length).all fun j => eqV ([V.str "NoRow"].getD j .non) ([V.str "NoRow"].getD j .non)) = true := by decide +kernel
    rw [e6] at r6
    exact ⟨true, r6.up (by omega), q H6⟩
  · refine .inr ⟨row', e', hr', fun tt D H5 g5 eD => ?_⟩
    dsimp only
    refine ⟨rs, .of (g5 _ _ n4'.at'), rs, .of (g5 _ _ er4), ?_⟩
    rw [decide_eq_true rfl]
    refine iteF ?_
    rw [decide_eq_true rfl]
    refine iteF ⟨D, rfl, _, .inl (.of eD), ?_⟩
    rw [decide_eq_true (show (([V.bl tt].length : Nat) : Int) = 1 from rfl)]
    exact iteT ⟨D, rfl, _, .of eD, _, zaz, _, .bl tt, by decide, q H5⟩
end
section
variable {P : Program} {w : World} {K : PySem.W.Frag} {mg : Str → Option Value} {base : Heap} {f : Addr} {fd : FuncData} {tw rw fa cLeftovers cSayError : Addr} {cs : List Addr}
theorem all (T : Txt K mg w tw rw fa cLeftovers cSayError cs) (d_is_letter_with_figures : Dfn K mg "is_letter_with_figures" s_is_letter_with_figures ["thing", "letters"]) (d_is_place : Dfn K mg "is_place" s_is_place ["thing"]) (d_is_set : Dfn K mg "is_set" s_is_set ["thing"]) (d_is_name : Dfn K mg "is_name" s_is_name ["thing"]) (d_is_frame : Dfn K mg "is_frame" s_is_frame ["thing"]) (d_is_of_sort : Dfn K mg "is_of_sort" s_is_of_sort ["thing", "sort", "deepest"]) (d_has_form : Dfn K mg "has_form" s_has_form ["thing", "deepest"]) (d_inner_sayings : Dfn K mg "inner_sayings" s_inner_sayings ["saying"]) (d_is_bare : Dfn K mg "is_bare" s_is_bare ["saying"]) (d_count_parts : Dfn K mg "count_parts" s_count_parts ["saying"]) (d_is_any_saying : Dfn K mg "is_any_saying" s_is_any_saying ["thing"]) (d_is_let : Dfn K mg "is_let" s_is_let ["saying", "known", "barred", "most"]) (d_is_saying : Dfn K mg "is_saying" s_is_saying ["thing", "frame"]) (d_check_frame : Dfn K mg "check_frame" s_check_frame ["frame"]) (d_check_let : Dfn K mg "check_let" s_check_let ["saying", "frame"]) (d_bit_of : Dfn K mg "bit_of" s_bit_of ["name", "names"]) (d_worth_keeping : Dfn K mg "worth_keeping" s_worth_keeping ["lefts"]) (d_Leftovers___init__ : DfnI K cLeftovers "Leftovers.__init__" s_Leftovers___init__ ["self"]) (d_Leftovers_numbered : DfnM K cLeftovers "numbered" "Leftovers.numbered" s_Leftovers_numbered ["self", "form"]) (d_Leftovers_of_not : DfnM K cLeftovers "of_not" "Leftovers.of_not" s_Leftovers_of_not ["self", "left"]) (d_Leftovers_of_some_set : DfnM K cLeftovers "of_some_set" "Leftovers.of_some_set" s_Leftovers_of_some_set ["self", "bit", "lefts"]) (d_Leftovers_of_some_place : DfnM K cLeftovers "of_some_place" "Leftovers.of_some_place" s_Leftovers_of_some_place ["self", "bit", "unplaced", "lefts"]) (d_Leftovers_of_some : DfnM K cLeftovers "of_some" "Leftovers.of_some" s_Leftovers_of_some ["self", "name", "bit", "left"]) (d_Leftovers_of_saying : DfnM K cLeftovers "of_saying" "Leftovers.of_saying" s_Leftovers_of_saying ["self", "saying", "names"]) (d_Leftovers_behind : DfnM K cLeftovers "behind" "Leftovers.behind" s_Leftovers_behind ["self", "left", "letter"]) (d_Leftovers_behind_form : DfnM K cLeftovers "behind_form" "Leftovers.behind_form" s_Leftovers_behind_form ["self", "left", "letter"]) (d_Leftovers_behind_bare : DfnM K cLeftovers "behind_bare" "Leftovers.behind_bare" s_Leftovers_behind_bare ["self", "left", "one", "other"]) (d_Leftovers_at_end : DfnM K cLeftovers "at_end" "Leftovers.at_end" s_Leftovers_at_end ["self", "left"]) (d_is_whole : Dfn K mg "is_whole" s_is_whole ["thing"]) (d_is_below : Dfn K mg "is_below" s_is_below ["thing", "bound"]) (d_is_letter : Dfn K mg "is_letter" s_is_letter ["thing", "tracks"]) (d_check_row : Dfn K mg "check_row" s_check_row ["frame", "row"]) (d_count_with : Dfn K mg "count_with" s_count_with ["letters", "track"]) (d_each_place_once : Dfn K mg "each_place_once" s_each_place_once ["frame", "letters"]) (d_fits : Dfn K mg "fits" s_fits ["frame", "row"]) (d_holds_by : Dfn K mg "holds_by" s_holds_by ["saying", "frame", "row"]) (d_holds : Dfn K mg "holds" s_holds ["saying", "frame", "row"]) (d_law_cell_at : Dfn K mg "_law_cell_at" s_law_cell_at ["_law_script", "_law_k"]) (d_law_mixed : Dfn K mg "_law_mixed" s_law_mixed ["_law_cell"]) (d_law_names : Dfn K mg "_law_names" s_law_names ["_law_e"]) (d_law_end : Dfn K mg "_law_end" s_law_end ["_law_saying", "_law_frame", "_law_row"]) (d_law_no_frame : Dfn K mg "_law_no_frame" s_law_no_frame ["_law_number"]) (d_law_no_saying : Dfn K mg "_law_no_saying" s_law_no_saying ["_law_number"]) (F : Fun K "law" "law" s_law f fd) : FnOk P w K mg base CX0 34 f fd ["_law_script"] (sp_law K) := by
  have c1 := zst (P := P) (w := w) (base := base) T d_is_letter_with_figures
  have c2 := znr T d_is_place c1
  have c3 := zry T d_is_set c1
  have c4 := zss T d_is_name c2 c3
  have c5 := zn1 T d_is_frame c4
  have c6 := zi2 T d_is_of_sort d_has_form c2 c3 c4 12
  have c7 := znv (P := P) (w := w) (base := base) T d_inner_sayings
  have c8 := zlh T d_is_bare c7
  have c9 := zg4 T d_count_parts c7 13
  have c10 := zln T d_is_any_saying c6.1 c9
  have c11 := zmv (bw := treeWords) T d_is_let c7 c8 13
  have c12 := znu T d_is_saying c5 c10 c11
  have b1 := zlf (P := P) (w := w) (base := base) T d_is_whole
  have b2 := zlm T d_is_below b1
  have r1 := zhm T d_is_letter b2
  have r2 := zn4 T d_check_row r1
  have r3 := zlk (P := P) (w := w) (base := base) T d_count_with
  have r4 := zqf T d_each_place_once c2 r3
  have r5 := zqm T d_fits r2 r4
  have k1 := zjh T d_check_frame c5
  have k2 := zll T d_check_let k1 c12
  have m0 := zny (P := P) (w := w) (base := base) T d_Leftovers___init__
  have m1 := zqi (P := P) (w := w) (base := base) T d_Leftovers_numbered
  have m2 := zn5 (P := P) (w := w) (base := base) T d_bit_of
  have m3 := zqh (P := P) (w := w) (base := base) T d_worth_keeping
  have m4 := zqj T d_Leftovers_of_not m1
  have m5 := zr1 T d_Leftovers_of_some_place m3 m1
  have m6 := zr2 T d_Leftovers_of_some d_Leftovers_of_some_set c2 m5
  have m7 := znx T d_Leftovers_of_saying c8 m2 m1
  have m8 := znw T d_Leftovers_of_saying c8 m2 m1 m7 m4 m6
  have x1 := zr3 T d_Leftovers_behind_bare m1
  have x2 := zql T d_Leftovers_behind_form x1
  have x3 := zoz (lv := 0) (by decide) T d_Leftovers_behind x2
  have x4 := zqk T d_Leftovers_behind_form x1 x3 m4 m5
  have x5 := zoz (lv := 1) (by decide) T d_Leftovers_behind x4
  have x6 := zn0 (P := P) (w := w) (base := base) T d_Leftovers_at_end
  have x7 := znz T d_Leftovers_at_end x6
  have h1 := zhn T d_holds_by m0 m8 x5 x7
  have h2 := zli T d_holds k2 r5 h1
  have l1 := zqn (P := P) (w := w) (base := base) T d_law_cell_at
  have l2 := znt (P := P) (w := w) (base := base) T d_law_mixed
  have l3 := zrx (P := P) (w := w) (base := base) T d_law_names
  have l4 := zn2 T d_law_end h2 l3
  have l5 := zqg (P := P) (w := w) (base := base) T d_law_no_frame
  have l6 := zns (P := P) (w := w) (base := base) T d_law_no_saying
  exact zr0 T F l1 l2 l5 l6 l4
end
theorem txt_mk {K : PySem.W.Frag} {mg : Str → Option Value} {w : World} {tw rw fa cLeftovers cSayError dd0 dd1 dd2 dd3 dd4 dd5 dd6 dd7 dd8 : Addr} (h0 : mg "isinstance" = none) (h1 : mg "tuple" = none) (h2 : mg "str" = none) (h3 : mg "list" = none) (h4 : mg "int" = none) (h5 : mg "bool" = none) (h6 : mg "set" = none) (h7 : mg "len" = none) (h8 : mg "all" = none) (h9 : mg "any" = none) (h10 : mg "sum" = none) (h11 : mg "max" = none) (h12 : mg "min" = none) (h13 : mg "zip" = none) (h14 : mg "range" = none) (h15 : mg "enumerate" = none) (h16 : mg "sorted" = none) (h17 : mg "ValueError" = none) (h18 : GlV mg "FIGURES" (.str FIGS)) (h19 : GlV mg "LONGEST_NAME" (.int 4)) (h20 : GlV mg "SMALL_LETTERS" (.str SMALL)) (h21 : GlV mg "GREAT_LETTERS" (.str GREAT)) (h22 : GlV mg "MOST_NAMES" (.int 4)) (h23 : GlV mg "DEEPEST" (.int 12)) (h24 : GlV mg "MOST_PARTS" (.int 60)) (h25 : GlV mg "NO" (.int 0)) (h26 : GlV mg "YES" (.int 1)) (h27 : GlV mg "TELLING_WORDS" (.ref tw)) (h28 : ∀ H, SqT K H tw [.str "some", .str "all"]) (h29 : GlV mg "TREE_WORDS" (.ref rw)) (h30 : ∀ H, SqT K H rw [.str "left", .str "right", .str "above"]) (h31 : GlV mg "FORMS" (.ref fa)) (h32 : Forms K w fa) (h33 : mg "Leftovers" = some (.ref cLeftovers)) (h34 : Cls K cLeftovers) (h35 : NoAttr K cLeftovers "forms") (h36 : NoAttr K cLeftovers "numbers") (h37 : NoAttr K cLeftovers "steps") (h38 : mg "SayError" = some (.ref cSayError)) (h39 : mg "NoText" = some (.ref dd0)) (h40 : mg "NoFrame" = some (.ref dd1)) (h41 : mg "NoRow" = some (.ref dd2)) (h42 : mg "NoSaying" = some (.ref dd3)) (h43 : mg "NoTree" = some (.ref dd4)) (h44 : mg "NoWidth" = some (.ref dd5)) (h45 : mg "NoNumber" = some (.ref dd6)) (h46 : mg "TooGreat" = some (.ref dd7)) (h47 : mg "NoLine" = some (.ref dd8)) (h48 : KSup K cSayError) (h49 : KExc K dd1) (h50 : PySem.W.mroIn K dd1 (.ref cSayError) = some true) (h51 : PySem.W.kitOne K (.ref dd1) (.type "ValueError") = some true) (h52 : PySem.W.kitOne K (.ref dd1) (.ref dd0) = some false) (h53 : PySem.W.kitOne K (.ref dd1) (.ref dd1) = some true) (h54 : PySem.W.kitOne K (.ref dd1) (.ref dd2) = some false) (h55 : PySem.W.kitOne K (.ref dd1) (.ref dd3) = some false) (h56 : PySem.W.kitOne K (.ref dd1) (.ref dd4) = some false) (h57 : PySem.W.kitOne K (.ref dd1) (.ref dd5) = some false) (h58 : PySem.W.kitOne K (.ref dd1) (.ref dd6) = some false) (h59 : PySem.W.kitOne K (.ref dd1) (.ref dd7) = some false) (h60 : PySem.W.kitOne K (.ref dd1) (.ref dd8) = some false) (h61 : PySem.W.excIn K dd1 veM "ValueError.__new__" = true) (h62 : KExc K dd2) (h63 : PySem.W.mroIn K dd2 (.ref cSayError) = some true) (h64 : PySem.W.kitOne K (.ref dd2) (.type "ValueError") = some true) (h65 : PySem.W.kitOne K (.ref dd2) (.ref dd0) = some false) (h66 : PySem.W.kitOne K (.ref dd2) (.ref dd1) = some false) (h67 : PySem.W.kitOne K (.ref dd2) (.ref dd2) = some true) (h68 : PySem.W.kitOne K (.ref dd2) (.ref dd3) = some false) (h69 : PySem.W.kitOne K (.ref dd2) (.ref dd4) = some false) (h70 : PySem.W.kitOne K (.ref dd2) (.ref dd5) = some false) (h71 : PySem.W.kitOne K (.ref dd2) (.ref dd6) = some false) (h72 : PySem.W.kitOne K (.ref dd2) (.ref dd7) = some false) (h73 : PySem.W.kitOne K (.ref dd2) (.ref dd8) = some false) (h74 : PySem.W.excIn K dd2 veM "ValueError.__new__" = true) (h75 : KExc K dd3) (h76 : PySem.W.mroIn K dd3 (.ref cSayError) = some true) (h77 : PySem.W.kitOne K (.ref dd3) (.type "ValueError") = some true) (h78 : PySem.W.kitOne K (.ref dd3) (.ref dd0) = some false) (h79 : PySem.W.kitOne K (.ref dd3) (.ref dd1) = some false) (h80 : PySem.W.kitOne K (.ref dd3) (.ref dd2) = some false) (h81 : PySem.W.kitOne K (.ref dd3) (.ref dd3) = some true) (h82 : PySem.W.kitOne K (.ref dd3) (.ref dd4) = some false) (h83 : PySem.W.kitOne K (.ref dd3) (.ref dd5) = some false) (h84 : PySem.W.kitOne K (.ref dd3) (.ref dd6) = some false) (h85 : PySem.W.kitOne K (.ref dd3) (.ref dd7) = some false) (h86 : PySem.W.kitOne K (.ref dd3) (.ref dd8) = some false) (h87 : PySem.W.excIn K dd3 veM "ValueError.__new__" = true) : ∃ (qtw qrw qfa qcSayError : Addr) (cs : List Addr), Txt K mg w qtw qrw qfa cLeftovers qcSayError cs :=
  ⟨tw, rw, fa, cSayError, [dd0, dd1, dd2, dd3, dd4, dd5, dd6, dd7, dd8], ⟨h0, h1, h2, h3, h4, h5, h6, h7, h8, h9, h10, h11, h12, h13, h14, h15, h16, h17, h18, h19, h20, h21, h22, h23, h24, h25, h26, h27, h28, h29, h30, h31, h32, h33, h34, h35, h36, h37, h38, h39, h40, h41, h42, h43, h44, h45, h46, h47, h48, h49, h50, h51, h52, h53, h54, h55, h56, h57, h58, h59, h60, h61, h62, h63, h64, h65, h66, h67, h68, h69, h70, h71, h72, h73, h74, h75, h76, h77, h78, h79, h80, h81, h82, h83, h84, h85, h86, h87⟩⟩
end K12
open PySem PySem.W PyProof.Rows
namespace PySem.W.Fast
theorem tw6851853967490554228 : True := trivial
theorem tw323692680074578238 : True := trivial
theorem tw3101659376794041917 : True := trivial
theorem tw6020987453367845784 : True := trivial
theorem tw1208150314951897539 : True := trivial
theorem tw12118510513146740002 : True := trivial
theorem tw7079713147667871911 : True := trivial
theorem tw1993780686011474675 : True := trivial
theorem tw1949056288021527833 : True := trivial
theorem tw17703317706138737140 : True := trivial
theorem tw17036072153027684110 : True := trivial
theorem tw2729009394510686093 : True := trivial
theorem tw3205709106533471251 : True := trivial
theorem tw8423173711557771246 : True := trivial
theorem tw2725721390162621213 : True := trivial
theorem tw11845462877980642474 : True := trivial
theorem tw492713708759977930 : True := trivial
theorem tw4594337947595317908 : True := trivial
theorem tw1727259169213418733 : True := trivial
theorem tw6962907926450809083 : True := trivial
theorem tw4846114058173011864 : True := trivial
theorem tw11132305006430135072 : True := trivial
theorem tw8847633279636133664 : True := trivial
theorem tw7851799279662388378 : True := trivial
theorem tw1176211285438483992 : True := trivial
theorem tw3883890787641903472 : True := trivial
theorem tw4560539834546838068 : True := trivial
theorem tw18018023698839755795 : True := trivial
theorem tw3177889849276103326 : True := trivial
theorem tw5030540956233008586 : True := trivial
theorem tw1339860952107796482 : True := trivial
theorem tw10257884603792737189 : True := trivial
theorem tw18130244778629750606 : True := trivial
theorem tw13533047750079568831 : True := trivial
theorem tw12050620506085302866 : True := trivial
theorem tw8543746030643915102 : True := trivial
theorem tw5603986897113537018 : True := trivial
theorem tw1199826617605470618 : True := trivial
theorem tw2576087487028644592 : True := trivial
theorem tw3846085543315481599 : True := trivial
theorem tw851557656854356778 : True := trivial
theorem tw14442090869805096630 : True := trivial
theorem tw2985084925894165709 : True := trivial
theorem tw9872097877862211228 : True := trivial
theorem tw8860497082125027923 : True := trivial
theorem tw16026082880628075568 : True := trivial
theorem tw2775410856082368531 : True := trivial
theorem tw3520640012088225311 : True := trivial
theorem tw13567811557702078130 : True := trivial
theorem tw10370274465217403851 : True := trivial
theorem tw16008962053678798533 : True := trivial
theorem tw2811904069120478729 : True := trivial
theorem tw16902922012815895253 : True := trivial
theorem tw4595492857222306615 : True := trivial
theorem tw3507432397545792715 : True := trivial
theorem tw8923101534879453728 : True := trivial
theorem tw11439619525552230925 : True := trivial
theorem tw16460191121846283936 : True := trivial
theorem tw3501877116945245749 : True := trivial
theorem tw14645671227624397089 : True := trivial
theorem tw13585768443875556891 : True := trivial
theorem tw13521218434036241523 : True := trivial
theorem tw11246875015936208678 : True := trivial
theorem tw12390185301604734864 : True := trivial
theorem tw15695594611368772430 : True := trivial
theorem tw4216677627705155708 : True := trivial
theorem tw1099662760307324819 : True := trivial
theorem tw3752849972295971406 : True := trivial
theorem tw15897582317920044810 : True := trivial
theorem tw18255806568813630134 : True := trivial
theorem tw8605674089908395834 : True := trivial
theorem tw13022384351276775214 : True := trivial
theorem tw10225753818740897385 : True := trivial
theorem tw11529596268334546507 : True := trivial
theorem tw18161193531475245886 : True := trivial
theorem tw16249963897866260508 : True := trivial
theorem tw4756809252422738566 : True := trivial
theorem tw670897311683693087 : True := trivial
theorem tw12567081872173865627 : True := trivial
theorem tw3517746001227923714 : True := trivial
theorem tw17705549349436532891 : True := trivial
theorem tw13779231508800742347 : True := trivial
theorem tw3125723798714593812 : True := trivial
theorem tw1148541843933519004 : True := trivial
theorem tw17444726168517106811 : True := trivial
theorem tw8073959116417313840 : True := trivial
theorem tw16722690651748456668 : True := trivial
theorem tw16981604222929505720 : True := trivial
theorem tw9888361392854574589 : True := trivial
theorem tw5947021112469715105 : True := trivial
theorem tw16922712824325304489 : True := trivial
theorem tw418435271425858666 : True := trivial
theorem tw14222760590977981759 : True := trivial
theorem tw12445957552705883199 : True := trivial
theorem tw6243514409964415257 : True := trivial
theorem tw15184033502559822537 : True := trivial
theorem tw1406679342896006651 : True := trivial
theorem tw8399707042726483738 : True := trivial
theorem tw11745597477385705189 : True := trivial
theorem tw84319003384343196 : True := trivial
theorem tw11880413807686040419 : True := trivial
theorem tw10873213866508702305 : True := trivial
theorem tw345247272964583002 : True := trivial
theorem tw9439747461833588581 : True := trivial
theorem tw1564870254613206106 : True := trivial
theorem tw677241591734585809 : True := trivial
theorem tw2282721855852103253 : True := trivial
theorem tw10668949671140291544 : True := trivial
theorem tw17012825116118664909 : True := trivial
theorem tw2260280262483374053 : True := trivial
theorem tw6420514120848798458 : True := trivial
theorem tw7176700108040082716 : True := trivial
theorem tw17575157324794607634 : True := trivial
theorem tw6989884349922142126 : True := trivial
theorem tw15142684166120613547 : True := trivial
theorem tw14426613498373577921 : True := trivial
theorem tw17833411066947555564 : True := trivial
theorem tw16258971994594634426 : True := trivial
theorem tw17407484215425939642 : True := trivial
theorem tw6318336860000713340 : True := trivial
theorem tw4513453929267405321 : True := trivial
theorem tw9677714773194534488 : True := trivial
theorem tw12273780575692131970 : True := trivial
theorem tw3965726643468267236 : True := trivial
theorem tw12764669508471856825 : True := trivial
theorem tw111314140233274751 : True := trivial
theorem tw4339972262305651064 : True := trivial
theorem tw13566593407626771726 : True := trivial
theorem tw4546422719367091811 : True := trivial
theorem tw9172151953302647848 : True := trivial
theorem tw6559005250965050046 : True := trivial
theorem tw794743101615909697 : True := trivial
theorem tw3275702136807999540 : True := trivial
theorem tw1435830647487472482 : True := trivial
theorem tw10278877788108936374 : True := trivial
theorem tw11410287987800793601 : True := trivial
theorem tw2222922206395832837 : True := trivial
theorem tw5420054738699726764 : True := trivial
theorem tw14647829845670785001 : True := trivial
theorem tw11922069997012858027 : True := trivial
theorem tw2664428319774075099 : True := trivial
theorem tw10777822251477138996 : True := trivial
theorem tw16588829182231382013 : True := trivial
theorem tw12063897572261859515 : True := trivial
theorem tw13816334942068613256 : True := trivial
theorem tw13872159205416568778 : True := trivial
theorem tw3262585852538453514 : True := trivial
theorem tw9707266852914348393 : True := trivial
theorem tw3542675654363402199 : True := trivial
theorem tw9123910646906577074 : True := trivial
theorem tw12061227693915333334 : True := trivial
theorem tw7308118623108270045 : True := trivial
theorem tw4076699160602307259 : True := trivial
theorem tw2487722979281997038 : True := trivial
theorem tw1387459358761301249 : True := trivial
theorem tw6656126490443645802 : True := trivial
theorem tw17573627187061774905 : True := trivial
theorem tw6735092529013844344 : True := trivial
theorem tw17507111324737389350 : True := trivial
theorem tw4097653950280312026 : True := trivial
theorem tw15966819188995643392 : True := trivial
theorem tw9257266872570081632 : True := trivial
theorem tw17721682178518949035 : True := trivial
theorem tw7532974212746754188 : True := trivial
theorem tw17539032632391077237 : True := trivial
theorem tw9342384610376663387 : True := trivial
theorem tw16283920318310010929 : True := trivial
theorem tw15131671742790702316 : True := trivial
theorem tw10342747308175455186 : True := trivial
theorem tw3573212752373504558 : True := trivial
theorem tw15357127772422427429 : True := trivial
theorem tw2899184459003593490 : True := trivial
theorem tw7163342058018383461 : True := trivial
theorem tw2621184481235916313 : True := trivial
theorem tw8311665830833223684 : True := trivial
theorem tw11361452186826321459 : True := trivial
theorem tw17925005262780316500 : True := trivial
theorem tw13000021482458786517 : True := trivial
theorem tw16295366895089390443 : True := trivial
theorem tw4566990123059956285 : True := trivial
theorem tw17553358248270961657 : True := trivial
theorem tw8316370340484217189 : True := trivial
theorem tw5069327725188921824 : True := trivial
theorem tw3139321027121359527 : True := trivial
theorem tw3694772962203394318 : True := trivial
theorem tw15380057070881195048 : True := trivial
theorem tw8182577477363115779 : True := trivial
theorem tw14596686866176117815 : True := trivial
theorem tw15917200962210950595 : True := trivial
theorem tw12968462347979788754 : True := trivial
theorem tw383748666884489717 : True := trivial
theorem tw10176388785936964643 : True := trivial
theorem tw15355239932945721551 : True := trivial
theorem tw3411597002579359539 : True := trivial
theorem tw13848007345271990756 : True := trivial
theorem tw6261838492922057330 : True := trivial
theorem tw6334911332853999381 : True := trivial
theorem tw17726736317947924339 : True := trivial
theorem tw1952559612733735980 : True := trivial
theorem tw944469929625078340 : True := trivial
theorem tw7536077428261085869 : True := trivial
theorem tw11070949398608942020 : True := trivial
theorem tw7423621416467205645 : True := trivial
theorem tw3248561567521246143 : True := trivial
theorem tw13410213114254794645 : True := trivial
theorem tw10995199763437453086 : True := trivial
theorem tw13785155048978249099 : True := trivial
theorem tw5603043661782729900 : True := trivial
theorem tw4460827841014160669 : True := trivial
theorem tw11592779365953367843 : True := trivial
theorem tw608882420547821944 : True := trivial
theorem tw15249992436275899843 : True := trivial
theorem tw11690432775607723073 : True := trivial
theorem tw6234531691123596625 : True := trivial
theorem tw17983525073044364132 : True := trivial
theorem tw4409977302707679059 : True := trivial
theorem tw7188671647902510558 : True := trivial
theorem tw4974655896072304192 : True := trivial
theorem tw10375451257815913758 : True := trivial
theorem tw6692108791388975203 : True := trivial
theorem tw1733698117013358415 : True := trivial
theorem tw2085851505005113382 : True := trivial
theorem tw13254568172858206350 : True := trivial
theorem tw14330494622938182429 : True := trivial
theorem tw11061475104316026784 : True := trivial
theorem tw13249902302397955170 : True := trivial
theorem tw5258283980329016703 : True := trivial
theorem tw18152017835713736089 : True := trivial
theorem tw16092322189622099295 : True := trivial
theorem tw17272198344308482480 : True := trivial
theorem tw2759919892531136997 : True := trivial
theorem tw11468052740294660645 : True := trivial
theorem tw877268091972302416 : True := trivial
theorem tw17451687184043470161 : True := trivial
theorem tw3599275867513785213 : True := trivial
theorem tw15877160591967451591 : True := trivial
theorem tw5332734331628583632 : True := trivial
theorem tw6938634132599911169 : True := trivial
theorem tw17839778425233306864 : True := trivial
theorem tw11384540141401009030 : True := trivial
theorem tw13000400149810587502 : True := trivial
theorem tw7370238108179999231 : True := trivial
theorem tw17823871868229661709 : True := trivial
theorem tw1178101039044339412 : True := trivial
theorem tw17601303470843741276 : True := trivial
theorem tw1435903980925534433 : True := trivial
theorem tw3159827251978636800 : True := trivial
theorem tw6746867254197055632 : True := trivial
theorem tw6252039594859879173 : True := trivial
theorem tw4388996596654931300 : True := trivial
theorem tw15929277230920267949 : True := trivial
theorem tw18118579556403889363 : True := trivial
theorem tw980070320142598436 : True := trivial
theorem tw11768643569834236422 : True := trivial
theorem tw6350894800879020986 : True := trivial
theorem tw1021511657132153986 : True := trivial
theorem tw6210625765145029716 : True := trivial
theorem tw5940418340978483886 : True := trivial
theorem tw14249723986634788614 : True := trivial
theorem tw8331447477420205355 : True := trivial
theorem tw2598866940574926501 : True := trivial
theorem tw4655615605720856778 : True := trivial
theorem tw15422155972555499191 : True := trivial
theorem tw15172141268314826485 : True := trivial
theorem tw9003191626787035058 : True := trivial
theorem tw3841593686498175425 : True := trivial
theorem tw17840218320979270830 : True := trivial
theorem tw12212363118734324054 : True := trivial
theorem tw16280162171880933355 : True := trivial
theorem tw962388355792935310 : True := trivial
theorem tw4239789661842922801 : True := trivial
theorem tw8340798309167525313 : True := trivial
theorem tw6849932091666978304 : True := trivial
theorem tw15421468380505957020 : True := trivial
theorem tw1416542129078504623 : True := trivial
theorem tw14611111500634248994 : True := trivial
theorem tw7116263839785860098 : True := trivial
theorem tw2089222738475984067 : True := trivial
theorem tw2357088641691344382 : True := trivial
theorem tw146632075149647346 : True := trivial
theorem tw4813920368554712136 : True := trivial
theorem tw16841058475359051875 : True := trivial
theorem tw15800015172823376971 : True := trivial
theorem tw15752990730883978988 : True := trivial
theorem tw14764507171331474776 : True := trivial
theorem tw17324796903202687691 : True := trivial
theorem tw15204620865881903347 : True := trivial
theorem tw6797082723898379160 : True := trivial
theorem tw3238159703560511517 : True := trivial
theorem tw11912901994375483719 : True := trivial
theorem tw12093554342285852901 : True := trivial
theorem tw12190540376338061700 : True := trivial
theorem tw16630836310702764022 : True := trivial
theorem tw15299624103384810245 : True := trivial
theorem tw17897885503124248869 : True := trivial
theorem tw15660876165043242917 : True := trivial
theorem tw10888846846191543869 : True := trivial
theorem tw4315025575496373687 : True := trivial
theorem tw16076937936346994286 : True := trivial
theorem tw1903436425014067097 : True := trivial
theorem tw9120637219390184679 : True := trivial
theorem tw14578064184041102219 : True := trivial
theorem tw1251462056428656404 : True := trivial
theorem tw9450615888567115997 : True := trivial
theorem tw18255588141203821868 : True := trivial
theorem tw1470177641828499333 : True := trivial
theorem tw13947294162077615571 : True := trivial
theorem tw6873928040347877929 : True := trivial
theorem tw16008608046482416576 : True := trivial
theorem tw7547304234516639955 : True := trivial
theorem tw10682473891331058810 : True := trivial
theorem tw3375079248423688866 : True := trivial
theorem tw2503813822930752266 : True := trivial
theorem tw11706325578573728408 : True := trivial
theorem tw10511425812510741118 : True := trivial
theorem tw17962714440923114041 : True := trivial
theorem tw5428831449054857498 : True := trivial
theorem tw17028033423835418533 : True := trivial
theorem tw2181848987600234814 : True := trivial
theorem tw5767952390804611152 : True := trivial
theorem tw18170311254006669222 : True := trivial
theorem tw7298940027259992700 : True := trivial
theorem tw9175551608876225250 : True := trivial
theorem tw15633906997858953064 : True := trivial
theorem tw1196853365850709139 : True := trivial
theorem tw10006292988801253053 : True := trivial
theorem tw11995972997161703757 : True := trivial
theorem tw6855463096196505867 : True := trivial
theorem tw2676655492118236525 : True := trivial
theorem tw15847114598817907805 : True := trivial
theorem tw2743499212447765362 : True := trivial
theorem tw10240065185882823843 : True := trivial
theorem tw9122785712965177150 : True := trivial
theorem tw17004291205735628020 : True := trivial
theorem tw15698423079687018193 : True := trivial
theorem tw8556520081065064929 : True := trivial
theorem tw5786877467789495020 : True := trivial
theorem tw832105248250272684 : True := trivial
theorem tw16972848441121817024 : True := trivial
theorem tw3725259662846302259 : True := trivial
theorem tw12080304643439514575 : True := trivial
theorem tw9389114070102990024 : True := trivial
theorem tw10845380973259920467 : True := trivial
theorem tw1708896412312648030 : True := trivial
theorem tw10270090693968230658 : True := trivial
theorem tw6700330375391239790 : True := trivial
theorem tw2284310583851698529 : True := trivial
theorem tw13910013949531186315 : True := trivial
theorem tw902593557953601448 : True := trivial
theorem tw16571735410623480229 : True := trivial
theorem tw6149500198279178737 : True := trivial
theorem tw5743974385274411737 : True := trivial
theorem tw8996097976237820439 : True := trivial
theorem tw952365403845787731 : True := trivial
theorem tw751737881966784008 : True := trivial
theorem tw1564107376735263004 : True := trivial
theorem tw11400159966500721482 : True := trivial
theorem tw8364359217127843890 : True := trivial
theorem tw8219211642817647478 : True := trivial
theorem tw15644001705570442061 : True := trivial
theorem tw17870116260301151720 : True := trivial
theorem tw17418867571374131256 : True := trivial
theorem tw10019018913127254250 : True := trivial
theorem tw7402616190863057315 : True := trivial
theorem tw12328045971261373168 : True := trivial
theorem tw2722618188786533337 : True := trivial
theorem tw15573598284791520656 : True := trivial
theorem tw7718550466638578250 : True := trivial
theorem tw6811595987380140222 : True := trivial
theorem tw9373906779669143151 : True := trivial
theorem tw14241090781722561357 : True := trivial
theorem tw558163939971717932 : True := trivial
theorem tw17753979710589211061 : True := trivial
theorem tw202506632821204211 : True := trivial
theorem tw12730483775564142854 : True := trivial
theorem tw18283910035482516155 : True := trivial
theorem tw10299123077508525476 : True := trivial
theorem tw8710571662902812279 : True := trivial
theorem tw16759809866910679686 : True := trivial
theorem tw1136258496275553597 : True := trivial
theorem tw3358889727609873959 : True := trivial
theorem tw5929236969051704715 : True := trivial
theorem tw11293102839244084454 : True := trivial
theorem tw14699801226898525759 : True := trivial
theorem tw16918471786260540106 : True := trivial
theorem tw17737761869828971323 : True := trivial
theorem tw5240004201210954485 : True := trivial
theorem tw10200596369383935336 : True := trivial
theorem tw9431434300281841136 : True := trivial
theorem tw15536476331451340416 : True := trivial
theorem tw9409995838071190732 : True := trivial
theorem tw765332855269042946 : True := trivial
theorem tw4016769038370790571 : True := trivial
theorem tw7687262024824213532 : True := trivial
theorem tw2892369554276829203 : True := trivial
theorem tw14983962916040552864 : True := trivial
theorem tw14507229633992610422 : True := trivial
theorem tw10847821004299313085 : True := trivial
theorem tw11367562548279028150 : True := trivial
end PySem.W.Fast
set_option maxRecDepth 100000 in
set_option maxHeartbeats 0 in
theorem PySem.Challenge.cw_setsays_k12_holds_refused_holds : PySem.Challenge.rw_setsays_k12_holds_refused.Holds := by
  w_on; o_law; k_head; (case hw => w_witness2)
  k_fill
  refine L2.walk_ofK (l := PySem.Challenge.rw_setsays_k12_holds_refused) (n := 63) (k := 34) (x := "_law_script") (CX := L2.CX0) (sp := K12.sp_law) rfl (by decide) rfl ⟨rfl, by decide, by decide⟩ (fun w h Y => PySem.W.kIn_of Y) ?F (fun _ _ a ns hl _ hS => ⟨a, ns, rfl, hS, hl, fun _ => rfl⟩) fun _ _ _ _ z => z
  case F =>
    intro w mg fa h KX G hmg
    obtain ⟨tw, g_TELLING_WORDS, t_TELLING_WORDS⟩ : ∃ q, L2.GlV mg "TELLING_WORDS" (.ref q) ∧ ∀ H, L2.SqT (L2.KOf KX) H q [.str "some", .str "all"] := by
      dsimp only [L2.KOf]
      refine' L2.glt_mk KX G ?a ?l ?z ?r
      (case a => k_is); (case l => k_is); (case z => decide); (case r => exact .cons ⟨_, rfl⟩ (.cons ⟨_, rfl⟩ (.nil)))
    obtain ⟨rw, g_TREE_WORDS, t_TREE_WORDS⟩ : ∃ q, L2.GlV mg "TREE_WORDS" (.ref q) ∧ ∀ H, L2.SqT (L2.KOf KX) H q [.str "left", .str "right", .str "above"] := by
      dsimp only [L2.KOf]
      refine' L2.glt_mk KX G ?a ?l ?z ?r
      (case a => k_is); (case l => k_is); (case z => decide); (case r => exact .cons ⟨_, rfl⟩ (.cons ⟨_, rfl⟩ (.cons ⟨_, rfl⟩ (.nil))))
    obtain ⟨ff, g_FORMS, f_FORMS⟩ : ∃ q, L2.GlV mg "FORMS" (.ref q) ∧ SS.Forms (L2.KOf KX) w q := by
      dsimp only [L2.KOf]
      refine' SS.forms_mk KX G ?a ?lo ?l ?hk ?he
      (case a => k_is); (case lo => decide); (case l => k_is)
      (case hk => exact ⟨⟨_, _, rfl, rfl⟩, ⟨⟨_, _, rfl, rfl⟩, ⟨⟨_, _, rfl, rfl⟩, ⟨⟨_, _, rfl, rfl⟩, ⟨⟨_, _, rfl, rfl⟩, ⟨⟨_, _, rfl, rfl⟩, ⟨⟨_, _, rfl, rfl⟩, ⟨⟨_, _, rfl, rfl⟩, ⟨⟨_, _, rfl, rfl⟩, ⟨⟨_, _, rfl, rfl⟩, ⟨⟨_, _, rfl, rfl⟩, ⟨⟨_, _, rfl, rfl⟩, ⟨⟨_, _, rfl, rfl⟩, trivial⟩⟩⟩⟩⟩⟩⟩⟩⟩⟩⟩⟩⟩)
      refine' .cons ⟨⟨_, rfl⟩, _, rfl, SS.sqt_mk ?l0 ?z0 ?r0⟩ (.cons ⟨⟨_, rfl⟩, _, rfl, SS.sqt_mk ?l1 ?z1 ?r1⟩ (.cons ⟨⟨_, rfl⟩, _, rfl, SS.sqt_mk ?l2 ?z2 ?r2⟩ (.cons ⟨⟨_, rfl⟩, _, rfl, SS.sqt_mk ?l3 ?z3 ?r3⟩ (.cons ⟨⟨_, rfl⟩, _, rfl, SS.sqt_mk ?l4 ?z4 ?r4⟩ (.cons ⟨⟨_, rfl⟩, _, rfl, SS.sqt_mk ?l5 ?z5 ?r5⟩ (.cons ⟨⟨_, rfl⟩, _, rfl, SS.sqt_mk ?l6 ?z6 ?r6⟩ (.cons ⟨⟨_, rfl⟩, _, rfl, SS.sqt_mk ?l7 ?z7 ?r7⟩ (.cons ⟨⟨_, rfl⟩, _, rfl, SS.sqt_mk ?l8 ?z8 ?r8⟩ (.cons ⟨⟨_, rfl⟩, _, rfl, SS.sqt_mk ?l9 ?z9 ?r9⟩ (.cons ⟨⟨_, rfl⟩, _, rfl, SS.sqt_mk ?l10 ?z10 ?r10⟩ (.cons ⟨⟨_, rfl⟩, _, rfl, SS.sqt_mk ?l11 ?z11 ?r11⟩ (.cons ⟨⟨_, rfl⟩, _, rfl, SS.sqt_mk ?l12 ?z12 ?r12⟩ (.nil)))))))))))))
      (case l0 => k_is); (case z0 => decide); (case r0 => exact .cons ⟨_, rfl⟩ (.cons ⟨_, rfl⟩ (.nil)))
      (case l1 => k_is); (case z1 => decide); (case r1 => exact .cons ⟨_, rfl⟩ (.cons ⟨_, rfl⟩ (.nil)))
      (case l2 => k_is); (case z2 => decide); (case r2 => exact .cons ⟨_, rfl⟩ (.cons ⟨_, rfl⟩ (.nil)))
      (case l3 => k_is); (case z3 => decide); (case r3 => exact .cons ⟨_, rfl⟩ (.cons ⟨_, rfl⟩ (.nil)))
      (case l4 => k_is); (case z4 => decide); (case r4 => exact .cons ⟨_, rfl⟩ (.cons ⟨_, rfl⟩ (.nil)))
      (case l5 => k_is); (case z5 => decide); (case r5 => exact .cons ⟨_, rfl⟩ (.cons ⟨_, rfl⟩ (.nil)))
      (case l6 => k_is); (case z6 => decide); (case r6 => exact .cons ⟨_, rfl⟩ (.cons ⟨_, rfl⟩ (.nil)))
      (case l7 => k_is); (case z7 => decide); (case r7 => exact .cons ⟨_, rfl⟩ (.cons ⟨_, rfl⟩ (.nil)))
      (case l8 => k_is); (case z8 => decide); (case r8 => exact .cons ⟨_, rfl⟩ (.nil))
      (case l9 => k_is); (case z9 => decide); (case r9 => exact .cons ⟨_, rfl⟩ (.cons ⟨_, rfl⟩ (.nil)))
      (case l10 => k_is); (case z10 => decide); (case r10 => exact .cons ⟨_, rfl⟩ (.cons ⟨_, rfl⟩ (.nil)))
      (case l11 => k_is); (case z11 => decide); (case r11 => exact .cons ⟨_, rfl⟩ (.cons ⟨_, rfl⟩ (.nil)))
      (case l12 => k_is); (case z12 => decide); (case r12 => exact .cons ⟨_, rfl⟩ (.cons ⟨_, rfl⟩ (.nil)))
    obtain ⟨cLeftovers, m_Leftovers, cl_Leftovers, n_forms, n_numbers, n_steps, d_Leftovers___init__, d_Leftovers_numbered, d_Leftovers_of_not, d_Leftovers_of_some_set, d_Leftovers_of_some_place, d_Leftovers_of_some, d_Leftovers_of_saying, d_Leftovers_behind, d_Leftovers_behind_form, d_Leftovers_behind_bare, d_Leftovers_at_end⟩ : ∃ q : Addr, mg "Leftovers" = some (.ref q) ∧ L2.Cls (L2.KOf KX) q ∧ L2.NoAttr (L2.KOf KX) q "forms" ∧ L2.NoAttr (L2.KOf KX) q "numbers" ∧ L2.NoAttr (L2.KOf KX) q "steps" ∧ L2.DfnI (L2.KOf KX) q "Leftovers.__init__" K12.s_Leftovers___init__ ["self"] ∧ L2.DfnM (L2.KOf KX) q "numbered" "Leftovers.numbered" K12.s_Leftovers_numbered ["self", "form"] ∧ L2.DfnM (L2.KOf KX) q "of_not" "Leftovers.of_not" K12.s_Leftovers_of_not ["self", "left"] ∧ L2.DfnM (L2.KOf KX) q "of_some_set" "Leftovers.of_some_set" K12.s_Leftovers_of_some_set ["self", "bit", "lefts"] ∧ L2.DfnM (L2.KOf KX) q "of_some_place" "Leftovers.of_some_place" K12.s_Leftovers_of_some_place ["self", "bit", "unplaced", "lefts"] ∧ L2.DfnM (L2.KOf KX) q "of_some" "Leftovers.of_some" K12.s_Leftovers_of_some ["self", "name", "bit", "left"] ∧ L2.DfnM (L2.KOf KX) q "of_saying" "Leftovers.of_saying" K12.s_Leftovers_of_saying ["self", "saying", "names"] ∧ L2.DfnM (L2.KOf KX) q "behind" "Leftovers.behind" K12.s_Leftovers_behind ["self", "left", "letter"] ∧ L2.DfnM (L2.KOf KX) q "behind_form" "Leftovers.behind_form" K12.s_Leftovers_behind_form ["self", "left", "letter"] ∧ L2.DfnM (L2.KOf KX) q "behind_bare" "Leftovers.behind_bare" K12.s_Leftovers_behind_bare ["self", "left", "one", "other"] ∧ L2.DfnM (L2.KOf KX) q "at_end" "Leftovers.at_end" K12.s_Leftovers_at_end ["self", "left"] := by
      dsimp only [L2.KOf]
      refine' ⟨_, PySem.W.mg_of KX G ?Leftovers_m, ⟨?Leftovers_pg, ?Leftovers_hd, ?Leftovers_po, ?Leftovers_sa⟩, L2.noattr_mk ?Leftovers_n0, L2.noattr_mk ?Leftovers_n1, L2.noattr_mk ?Leftovers_n2, L2.dfni_mk ?Leftovers_y0 ?Leftovers_a0 ?Leftovers_i0 ?Leftovers_z0 ?Leftovers_l0 ?Leftovers_c0 ?Leftovers_k0 (fun _ _ _ _ _ _ => L2.fit1 fun _ => rfl), L2.dfnm_mk ?Leftovers_a1 ?Leftovers_i1 ?Leftovers_l1 ?Leftovers_c1 ?Leftovers_k1 (fun _ _ _ _ _ _ => L2.fit2 fun _ _ => rfl), L2.dfnm_mk ?Leftovers_a2 ?Leftovers_i2 ?Leftovers_l2 ?Leftovers_c2 ?Leftovers_k2 (fun _ _ _ _ _ _ => L2.fit2 fun _ _ => rfl), L2.dfnm_mk ?Leftovers_a3 ?Leftovers_i3 ?Leftovers_l3 ?Leftovers_c3 ?Leftovers_k3 (fun _ _ _ _ _ _ => L2.fit3 fun _ _ _ => rfl), L2.dfnm_mk ?Leftovers_a4 ?Leftovers_i4 ?Leftovers_l4 ?Leftovers_c4 ?Leftovers_k4 (fun _ _ _ _ _ _ => L2.fit4 fun _ _ _ _ => rfl), L2.dfnm_mk ?Leftovers_a5 ?Leftovers_i5 ?Leftovers_l5 ?Leftovers_c5 ?Leftovers_k5 (fun _ _ _ _ _ _ => L2.fit4 fun _ _ _ _ => rfl), L2.dfnm_mk ?Leftovers_a6 ?Leftovers_i6 ?Leftovers_l6 ?Leftovers_c6 ?Leftovers_k6 (fun _ _ _ _ _ _ => L2.fit3 fun _ _ _ => rfl), L2.dfnm_mk ?Leftovers_a7 ?Leftovers_i7 ?Leftovers_l7 ?Leftovers_c7 ?Leftovers_k7 (fun _ _ _ _ _ _ => L2.fit3 fun _ _ _ => rfl), L2.dfnm_mk ?Leftovers_a8 ?Leftovers_i8 ?Leftovers_l8 ?Leftovers_c8 ?Leftovers_k8 (fun _ _ _ _ _ _ => L2.fit3 fun _ _ _ => rfl), L2.dfnm_mk ?Leftovers_a9 ?Leftovers_i9 ?Leftovers_l9 ?Leftovers_c9 ?Leftovers_k9 (fun _ _ _ _ _ _ => L2.fit4 fun _ _ _ _ => rfl), L2.dfnm_mk ?Leftovers_a10 ?Leftovers_i10 ?Leftovers_l10 ?Leftovers_c10 ?Leftovers_k10 (fun _ _ _ _ _ _ => L2.fit2 fun _ _ => rfl)⟩
      (case Leftovers_m => k_is)
      (case Leftovers_pg => k_is)
      (case Leftovers_hd => k_is)
      (case Leftovers_po => k_is)
      (case Leftovers_sa => k_is)
      (case Leftovers_n0 => k_is)
      (case Leftovers_n1 => k_is)
      (case Leftovers_n2 => k_is)
      (case Leftovers_y0 => k_is)
      (case Leftovers_a0 => k_is)
      (case Leftovers_i0 => k_is)
      (case Leftovers_z0 => k_is)
      (case Leftovers_l0 => k_is)
      (case Leftovers_c0 => k_is)
      (case Leftovers_k0 => k_is)
      (case Leftovers_a1 => k_is)
      (case Leftovers_i1 => k_is)
      (case Leftovers_l1 => k_is)
      (case Leftovers_c1 => k_is)
      (case Leftovers_k1 => k_is)
      (case Leftovers_a2 => k_is)
      (case Leftovers_i2 => k_is)
      (case Leftovers_l2 => k_is)
      (case Leftovers_c2 => k_is)
      (case Leftovers_k2 => k_is)
      (case Leftovers_a3 => k_is)
      (case Leftovers_i3 => k_is)
      (case Leftovers_l3 => k_is)
      (case Leftovers_c3 => k_is)
      (case Leftovers_k3 => k_is)
      (case Leftovers_a4 => k_is)
      (case Leftovers_i4 => k_is)
      (case Leftovers_l4 => k_is)
      (case Leftovers_c4 => k_is)
      (case Leftovers_k4 => k_is)
      (case Leftovers_a5 => k_is)
      (case Leftovers_i5 => k_is)
      (case Leftovers_l5 => k_is)
      (case Leftovers_c5 => k_is)
      (case Leftovers_k5 => k_is)
      (case Leftovers_a6 => k_is)
      (case Leftovers_i6 => k_is)
      (case Leftovers_l6 => k_is)
      (case Leftovers_c6 => k_is)
      (case Leftovers_k6 => k_is)
      (case Leftovers_a7 => k_is)
      (case Leftovers_i7 => k_is)
      (case Leftovers_l7 => k_is)
      (case Leftovers_c7 => k_is)
      (case Leftovers_k7 => k_is)
      (case Leftovers_a8 => k_is)
      (case Leftovers_i8 => k_is)
      (case Leftovers_l8 => k_is)
      (case Leftovers_c8 => k_is)
      (case Leftovers_k8 => k_is)
      (case Leftovers_a9 => k_is)
      (case Leftovers_i9 => k_is)
      (case Leftovers_l9 => k_is)
      (case Leftovers_c9 => k_is)
      (case Leftovers_k9 => k_is)
      (case Leftovers_a10 => k_is)
      (case Leftovers_i10 => k_is)
      (case Leftovers_l10 => k_is)
      (case Leftovers_c10 => k_is)
      (case Leftovers_k10 => k_is)
    obtain ⟨ktw, krw, kfa, kcSayError, cs, T⟩ : ∃ (ktw krw kfa kcSayError : Addr) (cs : List Addr), K12.Txt (L2.KOf KX) mg w ktw krw kfa cLeftovers kcSayError cs := by
      dsimp only [L2.KOf]
      refine' K12.txt_mk (PySem.W.mg_none_of KX G ?t0) (PySem.W.mg_none_of KX G ?t1) (PySem.W.mg_none_of KX G ?t2) (PySem.W.mg_none_of KX G ?t3) (PySem.W.mg_none_of KX G ?t4) (PySem.W.mg_none_of KX G ?t5) (PySem.W.mg_none_of KX G ?t6) (PySem.W.mg_none_of KX G ?t7) (PySem.W.mg_none_of KX G ?t8) (PySem.W.mg_none_of KX G ?t9) (PySem.W.mg_none_of KX G ?t10) (PySem.W.mg_none_of KX G ?t11) (PySem.W.mg_none_of KX G ?t12) (PySem.W.mg_none_of KX G ?t13) (PySem.W.mg_none_of KX G ?t14) (PySem.W.mg_none_of KX G ?t15) (PySem.W.mg_none_of KX G ?t16) (PySem.W.mg_none_of KX G ?t17) (L2.glv_mk KX G ?t18 ?r18) (L2.glv_mk KX G ?t19 ?r19) (L2.glv_mk KX G ?t20 ?r20) (L2.glv_mk KX G ?t21 ?r21) (L2.glv_mk KX G ?t22 ?r22) (L2.glv_mk KX G ?t23 ?r23) (L2.glv_mk KX G ?t24 ?r24) (L2.glv_mk KX G ?t25 ?r25) (L2.glv_mk KX G ?t26 ?r26) g_TELLING_WORDS t_TELLING_WORDS g_TREE_WORDS t_TREE_WORDS g_FORMS f_FORMS m_Leftovers cl_Leftovers n_forms n_numbers n_steps (PySem.W.mg_of KX G ?t38) (PySem.W.mg_of KX G ?t39) (PySem.W.mg_of KX G ?t40) (PySem.W.mg_of KX G ?t41) (PySem.W.mg_of KX G ?t42) (PySem.W.mg_of KX G ?t43) (PySem.W.mg_of KX G ?t44) (PySem.W.mg_of KX G ?t45) (PySem.W.mg_of KX G ?t46) (PySem.W.mg_of KX G ?t47) ⟨?t48a, ?t48b, ?t48c⟩ ⟨?t49a, ?t49b, ?t49c, ?t49d, ?t49e, ?t49f⟩ ?t50 ?t51 ?t52 ?t53 ?t54 ?t55 ?t56 ?t57 ?t58 ?t59 ?t60 ?t61 ⟨?t62a, ?t62b, ?t62c, ?t62d, ?t62e, ?t62f⟩ ?t63 ?t64 ?t65 ?t66 ?t67 ?t68 ?t69 ?t70 ?t71 ?t72 ?t73 ?t74 ⟨?t75a, ?t75b, ?t75c, ?t75d, ?t75e, ?t75f⟩ ?t76 ?t77 ?t78 ?t79 ?t80 ?t81 ?t82 ?t83 ?t84 ?t85 ?t86 ?t87
      (case t0 => k_is)
      (case t1 => k_is)
      (case t2 => k_is)
      (case t3 => k_is)
      (case t4 => k_is)
      (case t5 => k_is)
      (case t6 => k_is)
      (case t7 => k_is)
      (case t8 => k_is)
      (case t9 => k_is)
      (case t10 => k_is)
      (case t11 => k_is)
      (case t12 => k_is)
      (case t13 => k_is)
      (case t14 => k_is)
      (case t15 => k_is)
      (case t16 => k_is)
      (case t17 => k_is)
      (case t18 => k_is); (case r18 => exact ⟨_, rfl⟩)
      (case t19 => k_is); (case r19 => exact ⟨_, rfl⟩)
      (case t20 => k_is); (case r20 => exact ⟨_, rfl⟩)
      (case t21 => k_is); (case r21 => exact ⟨_, rfl⟩)
      (case t22 => k_is); (case r22 => exact ⟨_, rfl⟩)
      (case t23 => k_is); (case r23 => exact ⟨_, rfl⟩)
      (case t24 => k_is); (case r24 => exact ⟨_, rfl⟩)
      (case t25 => k_is); (case r25 => exact ⟨_, rfl⟩)
      (case t26 => k_is); (case r26 => exact ⟨_, rfl⟩)
      (case t38 => k_is)
      (case t39 => k_is)
      (case t40 => k_is)
      (case t41 => k_is)
      (case t42 => k_is)
      (case t43 => k_is)
      (case t44 => k_is)
      (case t45 => k_is)
      (case t46 => k_is)
      (case t47 => k_is)
      (case t48a => k_is); (case t48b => k_is); (case t48c => k_is)
      (case t49a => k_is); (case t49b => k_is); (case t49c => k_is); (case t49d => k_is); (case t49e => k_is); (case t49f => k_is)
      (case t50 => k_is)
      (case t51 => kit_is)
      (case t52 => kit_is)
      (case t53 => kit_is)
      (case t54 => kit_is)
      (case t55 => kit_is)
      (case t56 => kit_is)
      (case t57 => kit_is)
      (case t58 => kit_is)
      (case t59 => kit_is)
      (case t60 => kit_is)
      (case t61 => k_exc)
      (case t62a => k_is); (case t62b => k_is); (case t62c => k_is); (case t62d => k_is); (case t62e => k_is); (case t62f => k_is)
      (case t63 => k_is)
      (case t64 => kit_is)
      (case t65 => kit_is)
      (case t66 => kit_is)
      (case t67 => kit_is)
      (case t68 => kit_is)
      (case t69 => kit_is)
      (case t70 => kit_is)
      (case t71 => kit_is)
      (case t72 => kit_is)
      (case t73 => kit_is)
      (case t74 => k_exc)
      (case t75a => k_is); (case t75b => k_is); (case t75c => k_is); (case t75d => k_is); (case t75e => k_is); (case t75f => k_is)
      (case t76 => k_is)
      (case t77 => kit_is)
      (case t78 => kit_is)
      (case t79 => kit_is)
      (case t80 => kit_is)
      (case t81 => kit_is)
      (case t82 => kit_is)
      (case t83 => kit_is)
      (case t84 => kit_is)
      (case t85 => kit_is)
      (case t86 => kit_is)
      (case t87 => k_exc)
    have d_is_letter_with_figures : L2.Dfn (L2.KOf KX) mg "is_letter_with_figures" K12.s_is_letter_with_figures ["thing", "letters"] := by
      dsimp only [L2.KOf]
      refine' L2.dfn_mk KX G ?a ?l ?c ?k (fun _ _ _ _ _ _ => L2.fit2 fun _ _ => rfl)
      (case a => k_is); (case l => k_is); (case c => k_is); (case k => k_is)
    have d_is_place : L2.Dfn (L2.KOf KX) mg "is_place" K12.s_is_place ["thing"] := by
      dsimp only [L2.KOf]
      refine' L2.dfn_mk KX G ?a ?l ?c ?k (fun _ _ _ _ _ _ => L2.fit1 fun _ => rfl)
      (case a => k_is); (case l => k_is); (case c => k_is); (case k => k_is)
    have d_is_set : L2.Dfn (L2.KOf KX) mg "is_set" K12.s_is_set ["thing"] := by
      dsimp only [L2.KOf]
      refine' L2.dfn_mk KX G ?a ?l ?c ?k (fun _ _ _ _ _ _ => L2.fit1 fun _ => rfl)
      (case a => k_is); (case l => k_is); (case c => k_is); (case k => k_is)
    have d_is_name : L2.Dfn (L2.KOf KX) mg "is_name" K12.s_is_name ["thing"] := by
      dsimp only [L2.KOf]
      refine' L2.dfn_mk KX G ?a ?l ?c ?k (fun _ _ _ _ _ _ => L2.fit1 fun _ => rfl)
      (case a => k_is); (case l => k_is); (case c => k_is); (case k => k_is)
    have d_is_frame : L2.Dfn (L2.KOf KX) mg "is_frame" K12.s_is_frame ["thing"] := by
      dsimp only [L2.KOf]
      refine' L2.dfn_mk KX G ?a ?l ?c ?k (fun _ _ _ _ _ _ => L2.fit1 fun _ => rfl)
      (case a => k_is); (case l => k_is); (case c => k_is); (case k => k_is)
    have d_is_of_sort : L2.Dfn (L2.KOf KX) mg "is_of_sort" K12.s_is_of_sort ["thing", "sort", "deepest"] := by
      dsimp only [L2.KOf]
      refine' L2.dfn_mk KX G ?a ?l ?c ?k (fun _ _ _ _ _ _ => L2.fit3 fun _ _ _ => rfl)
      (case a => k_is); (case l => k_is); (case c => k_is); (case k => k_is)
    have d_has_form : L2.Dfn (L2.KOf KX) mg "has_form" K12.s_has_form ["thing", "deepest"] := by
      dsimp only [L2.KOf]
      refine' L2.dfn_mk KX G ?a ?l ?c ?k (fun _ _ _ _ _ _ => L2.fit2 fun _ _ => rfl)
      (case a => k_is); (case l => k_is); (case c => k_is); (case k => k_is)
    have d_inner_sayings : L2.Dfn (L2.KOf KX) mg "inner_sayings" K12.s_inner_sayings ["saying"] := by
      dsimp only [L2.KOf]
      refine' L2.dfn_mk KX G ?a ?l ?c ?k (fun _ _ _ _ _ _ => L2.fit1 fun _ => rfl)
      (case a => k_is); (case l => k_is); (case c => k_is); (case k => k_is)
    have d_is_bare : L2.Dfn (L2.KOf KX) mg "is_bare" K12.s_is_bare ["saying"] := by
      dsimp only [L2.KOf]
      refine' L2.dfn_mk KX G ?a ?l ?c ?k (fun _ _ _ _ _ _ => L2.fit1 fun _ => rfl)
      (case a => k_is); (case l => k_is); (case c => k_is); (case k => k_is)
    have d_count_parts : L2.Dfn (L2.KOf KX) mg "count_parts" K12.s_count_parts ["saying"] := by
      dsimp only [L2.KOf]
      refine' L2.dfn_mk KX G ?a ?l ?c ?k (fun _ _ _ _ _ _ => L2.fit1 fun _ => rfl)
      (case a => k_is); (case l => k_is); (case c => k_is); (case k => k_is)
    have d_is_any_saying : L2.Dfn (L2.KOf KX) mg "is_any_saying" K12.s_is_any_saying ["thing"] := by
      dsimp only [L2.KOf]
      refine' L2.dfn_mk KX G ?a ?l ?c ?k (fun _ _ _ _ _ _ => L2.fit1 fun _ => rfl)
      (case a => k_is); (case l => k_is); (case c => k_is); (case k => k_is)
    have d_is_let : L2.Dfn (L2.KOf KX) mg "is_let" K12.s_is_let ["saying", "known", "barred", "most"] := by
      dsimp only [L2.KOf]
      refine' L2.dfn_mk KX G ?a ?l ?c ?k (fun _ _ _ _ _ _ => L2.fit4 fun _ _ _ _ => rfl)
      (case a => k_is); (case l => k_is); (case c => k_is); (case k => k_is)
    have d_is_saying : L2.Dfn (L2.KOf KX) mg "is_saying" K12.s_is_saying ["thing", "frame"] := by
      dsimp only [L2.KOf]
      refine' L2.dfn_mk KX G ?a ?l ?c ?k (fun _ _ _ _ _ _ => L2.fit2 fun _ _ => rfl)
      (case a => k_is); (case l => k_is); (case c => k_is); (case k => k_is)
    have d_check_frame : L2.Dfn (L2.KOf KX) mg "check_frame" K12.s_check_frame ["frame"] := by
      dsimp only [L2.KOf]
      refine' L2.dfn_mk KX G ?a ?l ?c ?k (fun _ _ _ _ _ _ => L2.fit1 fun _ => rfl)
      (case a => k_is); (case l => k_is); (case c => k_is); (case k => k_is)
    have d_check_let : L2.Dfn (L2.KOf KX) mg "check_let" K12.s_check_let ["saying", "frame"] := by
      dsimp only [L2.KOf]
      refine' L2.dfn_mk KX G ?a ?l ?c ?k (fun _ _ _ _ _ _ => L2.fit2 fun _ _ => rfl)
      (case a => k_is); (case l => k_is); (case c => k_is); (case k => k_is)
    have d_bit_of : L2.Dfn (L2.KOf KX) mg "bit_of" K12.s_bit_of ["name", "names"] := by
      dsimp only [L2.KOf]
      refine' L2.dfn_mk KX G ?a ?l ?c ?k (fun _ _ _ _ _ _ => L2.fit2 fun _ _ => rfl)
      (case a => k_is); (case l => k_is); (case c => k_is); (case k => k_is)
    have d_worth_keeping : L2.Dfn (L2.KOf KX) mg "worth_keeping" K12.s_worth_keeping ["lefts"] := by
      dsimp only [L2.KOf]
      refine' L2.dfn_mk KX G ?a ?l ?c ?k (fun _ _ _ _ _ _ => L2.fit1 fun _ => rfl)
      (case a => k_is); (case l => k_is); (case c => k_is); (case k => k_is)
    have d_is_whole : L2.Dfn (L2.KOf KX) mg "is_whole" K12.s_is_whole ["thing"] := by
      dsimp only [L2.KOf]
      refine' L2.dfn_mk KX G ?a ?l ?c ?k (fun _ _ _ _ _ _ => L2.fit1 fun _ => rfl)
      (case a => k_is); (case l => k_is); (case c => k_is); (case k => k_is)
    have d_is_below : L2.Dfn (L2.KOf KX) mg "is_below" K12.s_is_below ["thing", "bound"] := by
      dsimp only [L2.KOf]
      refine' L2.dfn_mk KX G ?a ?l ?c ?k (fun _ _ _ _ _ _ => L2.fit2 fun _ _ => rfl)
      (case a => k_is); (case l => k_is); (case c => k_is); (case k => k_is)
    have d_is_letter : L2.Dfn (L2.KOf KX) mg "is_letter" K12.s_is_letter ["thing", "tracks"] := by
      dsimp only [L2.KOf]
      refine' L2.dfn_mk KX G ?a ?l ?c ?k (fun _ _ _ _ _ _ => L2.fit2 fun _ _ => rfl)
      (case a => k_is); (case l => k_is); (case c => k_is); (case k => k_is)
    have d_check_row : L2.Dfn (L2.KOf KX) mg "check_row" K12.s_check_row ["frame", "row"] := by
      dsimp only [L2.KOf]
      refine' L2.dfn_mk KX G ?a ?l ?c ?k (fun _ _ _ _ _ _ => L2.fit2 fun _ _ => rfl)
      (case a => k_is); (case l => k_is); (case c => k_is); (case k => k_is)
    have d_count_with : L2.Dfn (L2.KOf KX) mg "count_with" K12.s_count_with ["letters", "track"] := by
      dsimp only [L2.KOf]
      refine' L2.dfn_mk KX G ?a ?l ?c ?k (fun _ _ _ _ _ _ => L2.fit2 fun _ _ => rfl)
      (case a => k_is); (case l => k_is); (case c => k_is); (case k => k_is)
    have d_each_place_once : L2.Dfn (L2.KOf KX) mg "each_place_once" K12.s_each_place_once ["frame", "letters"] := by
      dsimp only [L2.KOf]
      refine' L2.dfn_mk KX G ?a ?l ?c ?k (fun _ _ _ _ _ _ => L2.fit2 fun _ _ => rfl)
      (case a => k_is); (case l => k_is); (case c => k_is); (case k => k_is)
    have d_fits : L2.Dfn (L2.KOf KX) mg "fits" K12.s_fits ["frame", "row"] := by
      dsimp only [L2.KOf]
      refine' L2.dfn_mk KX G ?a ?l ?c ?k (fun _ _ _ _ _ _ => L2.fit2 fun _ _ => rfl)
      (case a => k_is); (case l => k_is); (case c => k_is); (case k => k_is)
    have d_holds_by : L2.Dfn (L2.KOf KX) mg "holds_by" K12.s_holds_by ["saying", "frame", "row"] := by
      dsimp only [L2.KOf]
      refine' L2.dfn_mk KX G ?a ?l ?c ?k (fun _ _ _ _ _ _ => L2.fit3 fun _ _ _ => rfl)
      (case a => k_is); (case l => k_is); (case c => k_is); (case k => k_is)
    have d_holds : L2.Dfn (L2.KOf KX) mg "holds" K12.s_holds ["saying", "frame", "row"] := by
      dsimp only [L2.KOf]
      refine' L2.dfn_mk KX G ?a ?l ?c ?k (fun _ _ _ _ _ _ => L2.fit3 fun _ _ _ => rfl)
      (case a => k_is); (case l => k_is); (case c => k_is); (case k => k_is)
    have d_law_cell_at : L2.Dfn (L2.KOf KX) mg "_law_cell_at" K12.s_law_cell_at ["_law_script", "_law_k"] := by
      dsimp only [L2.KOf]
      refine' L2.dfn_mk KX G ?a ?l ?c ?k (fun _ _ _ _ _ _ => L2.fit2 fun _ _ => rfl)
      (case a => k_is); (case l => k_is); (case c => k_is); (case k => k_is)
    have d_law_mixed : L2.Dfn (L2.KOf KX) mg "_law_mixed" K12.s_law_mixed ["_law_cell"] := by
      dsimp only [L2.KOf]
      refine' L2.dfn_mk KX G ?a ?l ?c ?k (fun _ _ _ _ _ _ => L2.fit1 fun _ => rfl)
      (case a => k_is); (case l => k_is); (case c => k_is); (case k => k_is)
    have d_law_names : L2.Dfn (L2.KOf KX) mg "_law_names" K12.s_law_names ["_law_e"] := by
      dsimp only [L2.KOf]
      refine' L2.dfn_mk KX G ?a ?l ?c ?k (fun _ _ _ _ _ _ => L2.fit1 fun _ => rfl)
      (case a => k_is); (case l => k_is); (case c => k_is); (case k => k_is)
    have d_law_end : L2.Dfn (L2.KOf KX) mg "_law_end" K12.s_law_end ["_law_saying", "_law_frame", "_law_row"] := by
      dsimp only [L2.KOf]
      refine' L2.dfn_mk KX G ?a ?l ?c ?k (fun _ _ _ _ _ _ => L2.fit3 fun _ _ _ => rfl)
      (case a => k_is); (case l => k_is); (case c => k_is); (case k => k_is)
    have d_law_no_frame : L2.Dfn (L2.KOf KX) mg "_law_no_frame" K12.s_law_no_frame ["_law_number"] := by
      dsimp only [L2.KOf]
      refine' L2.dfn_mk KX G ?a ?l ?c ?k (fun _ _ _ _ _ _ => L2.fit1 fun _ => rfl)
      (case a => k_is); (case l => k_is); (case c => k_is); (case k => k_is)
    have d_law_no_saying : L2.Dfn (L2.KOf KX) mg "_law_no_saying" K12.s_law_no_saying ["_law_number"] := by
      dsimp only [L2.KOf]
      refine' L2.dfn_mk KX G ?a ?l ?c ?k (fun _ _ _ _ _ _ => L2.fit1 fun _ => rfl)
      (case a => k_is); (case l => k_is); (case c => k_is); (case k => k_is)
    have L : ∃ fd : FuncData, (∀ (s : Shared) (v : Value), BindsTo s fd ⟨[v], []⟩ [("_law_script", v)]) ∧ L2.Fun (L2.KOf KX) "law" "law" K12.s_law fa fd := by
      dsimp only [L2.KOf]
      refine' L2.law_mk KX G hmg ?a ?l ?c ?k ?b
      (case a => k_is); (case l => k_is); (case c => k_is); (case k => k_is)
      exact fun s u => .of_eq rfl
    obtain ⟨fd, hb, F⟩ := L
    exact ⟨fd, hb, fun base _ _ => K12.all T d_is_letter_with_figures d_is_place d_is_set d_is_name d_is_frame d_is_of_sort d_has_form d_inner_sayings d_is_bare d_count_parts d_is_any_saying d_is_let d_is_saying d_check_frame d_check_let d_bit_of d_worth_keeping d_Leftovers___init__ d_Leftovers_numbered d_Leftovers_of_not d_Leftovers_of_some_set d_Leftovers_of_some_place d_Leftovers_of_some d_Leftovers_of_saying d_Leftovers_behind d_Leftovers_behind_form d_Leftovers_behind_bare d_Leftovers_at_end d_is_whole d_is_below d_is_letter d_check_row d_count_with d_each_place_once d_fits d_holds_by d_holds d_law_cell_at d_law_mixed d_law_names d_law_end d_law_no_frame d_law_no_saying F⟩
#print axioms PySem.Challenge.cw_setsays_k12_holds_refused_holds
