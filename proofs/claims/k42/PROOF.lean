import PyProof.Rows.All
import Wide.All
import OpenK.AllK
import Wide.FinOn
import Lean
import PyProof.EqAt
import PyProof.EqKinds
import PyProof.TupleCall
import PyProof.CodeObjX
import PyProof.NeKinds
import PyProof.ZipIter
import PyProof.EnumStmt
import PyProof.EnumMake
import KE.KDictOf
import PyProof.AttrMissHeap
import PyProof.Rows.SeqMore2
import PyProof.Rows.MinMaxN
import PyProof.DefMake
import PyProof.DefStmt
import PyProof.RaisesMany
import PyProof.ExcClass2
import PyProof.Rows.Own
import PyProof.Rows.CatchOwn
import PyProof.RulesDel
import KE.KIsAll
import PyProof.IsiH_list
import PyProof.ExcArgsOwn
import OpenK.KOwn
import PyProof.ExcBaseAll.ValueError
import PyProof.FString5
import PyProof.ListMulRoad
import PyProof.FactsAll.tuple_2
import PyProof.Rows.Range3
import PyProof.StrLawsReplace
import PyProof.StrBlockL
import PySem.Challenge.RW_setsays_k42_bare_ones_of_trees
set_option Elab.async false
set_option maxRecDepth 100000
namespace L2
open PySem PySem.Spec PyProof.Rows
abbrev Key := Sum Int Str
def blI (b : Bool) : Int := if b = true then 1 else 0
def isBl (k : Int) : Value → Bool
  | .bool b => k == blI b
  | _ => false
def keyIs : Key → Value → Bool
  | .inl k, v => Value.isInt k v || isBl k v
  | .inr x, v => Value.isStrOf x v
def keyH (w : World) : Key → Int
  | .inl k => hashInt k
  | .inr x => hashStr w x
theorem zjj {k : Int} : ∀ {v : Value}, isBl k v = true → ∃ b, k = blI b ∧ v = Value.bool b := by
  intro v h
  cases v
  case bool b => exact ⟨b, eq_of_beq h, rfl⟩
  all_goals exact absurd h Bool.false_ne_true
theorem zay : ∀ {k : Key} {v : Value}, keyIs k v = true → (∃ i t, k = Sum.inl i ∧ v = Value.int i t) ∨ (∃ x t, k = Sum.inr x ∧ v = Value.str x t) ∨ ∃ b, k = Sum.inl (blI b) ∧ v = Value.bool b
  | .inl i, v, h => by
    rcases (Bool.or_eq_true _ _).mp (show (Value.isInt i v || isBl i v) = true from h) with h | h
    · obtain ⟨t, e⟩ := Value.isInt_shape (k := i) (v := v) h
      exact .inl ⟨i, t, rfl, e⟩
    · obtain ⟨b, e, e'⟩ := zjj h
      exact .inr (.inr ⟨b, by rw [e], e'⟩)
  | .inr x, v, h => by
    obtain ⟨t, e⟩ := Value.isStrOf_shape (x := x) (v := v) h
    exact .inr (.inl ⟨x, t, rfl, e⟩)
theorem zla (i : Int) (t : Tok) : keyIs (.inl i) (.int i t) = true := by simp [keyIs, Value.isInt]
theorem znj (b : Bool) : keyIs (.inl (blI b)) (.bool b) = true := by simp [keyIs, isBl]
theorem zp0 {prog : Program} {w : World} {A : Around} {E : Value → Shared → Prop} {s : Shared} {b : Bool} {Q : Int → Shared → Prop} (h : Q (hashInt (blI b)) { s with toks := s.toks + 1 }) : wpAny (model prog w) A (pyHash (.bool b)) Q E s := by
  have hT : s.TypeIs (.bool b) "bool" := rfl
  have hr := rawHash_range (blI b)
  unfold pyHash
  refine wpAny_bind ?_
  rw [cRoomFor, if_neg (show ¬ [Value.bool b].any Value.onHeap = true from Bool.false_ne_true)]
  refine wpAny_pure (wpAny_bind (wpAny_specialOf hT PySem.F.slot_bool_hash.lookup ?_))
  show wpAny _ _ (if (some (Value.builtin "int.__hash__") == some Value.none) = true then _ else _) Q E s
  rw [if_neg (show ¬ (some (Value.builtin "int.__hash__") == some Value.none) = true from Bool.false_ne_true)]
  refine wpAny_bind (wpAny_specialOf hT PySem.F.slot_bool_hash.lookup ?_)
  show wpAny _ _ (callSpecialIfBoundUnlessNone? (.bool b) "__hash__" _ >>= _) Q E s
  refine wpAny_bind (wpAny_callSpecialIfBoundUnlessNone?_slot hT PySem.F.slot_bool_hash (wpAny_call_entry PySem.F.slot_bool_hash hT PySem.F.entry_int_hash ?_ (PySem.F.args_int_hash_1 _)))
  refine (show wpAny _ _ (do ret (← mkInt (rawHash (blI b)))) _ _ s from wpAny_ret_mkInt ?_)
  show wpAny _ _ (if (decide (-(2 : Int) ^ 63 ≤ rawHash (blI b)) && decide (rawHash (blI b) < 2 ^ 63)) = true then _ else _) Q E _
  rw [if_pos (by rw [decide_eq_true hr.1, decide_eq_true hr.2]; rfl)]
  exact wpAny_pure h
theorem zk9 (x : Str) (t : Tok) : keyIs (.inr x) (.str x t) = true := by simp [keyIs, Value.isStrOf]
theorem zin (a b : Int) : decide ((Sum.inl a : Key) = Sum.inl b) = (a == b) := by
  by_cases e : a = b
  · subst e; simp
  · have h : ¬ (Sum.inl a : Key) = Sum.inl b := fun q => e (Sum.inl.inj q)
    rw [decide_eq_false h]
    exact (beq_eq_false_iff_ne.mpr e).symm
theorem zq5 (a b : Str) : decide ((Sum.inr a : Key) = Sum.inr b) = decide (a = b) := by
  by_cases e : a = b
  · subst e; simp
  · have h : ¬ (Sum.inr a : Key) = Sum.inr b := fun q => e (Sum.inr.inj q)
    rw [decide_eq_false h, decide_eq_false e]
theorem zod (a : Int) (b : Str) : decide ((Sum.inl a : Key) = Sum.inr b) = false := decide_eq_false (fun q => nomatch q)
theorem zoc (a : Str) (b : Int) : decide ((Sum.inr a : Key) = Sum.inl b) = false := decide_eq_false (fun q => nomatch q)
def mixKind (prog : Program) (w : World) : PySem.KeyKind prog w Key where
  is := keyIs
  hash := keyH w
  inj := fun v a b ha hb => by
    rcases zay ha with ⟨i, t, rfl, rfl⟩ | ⟨x, t, rfl, rfl⟩ | ⟨c, rfl, rfl⟩
    · rcases zay hb with ⟨j, u, rfl, e⟩ | ⟨y, u, rfl, e⟩ | ⟨d, rfl, e⟩
      · injection e with e1 _; rw [e1]
      · exact nomatch e
      · exact nomatch e
    · rcases zay hb with ⟨j, u, rfl, e⟩ | ⟨y, u, rfl, e⟩ | ⟨d, rfl, e⟩
      · exact nomatch e
      · injection e with e1 _; rw [e1]
      · exact nomatch e
    · rcases zay hb with ⟨j, u, rfl, e⟩ | ⟨y, u, rfl, e⟩ | ⟨d, rfl, e⟩
      · exact nomatch e
      · exact nomatch e
      · injection e with e1; rw [e1]
  byValue := fun k v h => by
    rcases zay h with ⟨i, t, rfl, rfl⟩ | ⟨x, t, rfl, rfl⟩ | ⟨c, rfl, rfl⟩ <;> rfl
  pyHash := fun hv h => by
    rcases zay hv with ⟨i, t, rfl, rfl⟩ | ⟨x, t, rfl, rfl⟩ | ⟨c, rfl, rfl⟩
    · exact wpAny_pyHash_int h
    · exact wpAny_pyHash_str h
    · exact zp0 h
  eqBool := fun hu hv h => by
    rcases zay hu with ⟨i, t, rfl, rfl⟩ | ⟨x, t, rfl, rfl⟩ | ⟨c, rfl, rfl⟩
    · rcases zay hv with ⟨j, u, rfl, rfl⟩ | ⟨y, u, rfl, rfl⟩ | ⟨d, rfl, rfl⟩
      · rw [zin] at h; exact wpAny_eqBool_int h
      · rw [zod] at h; exact SeqAt.EqAt.int_str i t y u _ _ _ _ h
      · rw [zin] at h; exact SeqAt.EqAt.int_bool i t d _ _ _ _ h
    · rcases zay hv with ⟨j, u, rfl, rfl⟩ | ⟨y, u, rfl, rfl⟩ | ⟨d, rfl, rfl⟩
      · rw [zoc] at h; exact SeqAt.EqAt.str_int x t j u _ _ _ _ h
      · rw [zq5] at h; exact wpAny_eqBool_str h
      · rw [zoc] at h; exact SeqAt.EqAt.str_bool x t d _ _ _ _ h
    · rcases zay hv with ⟨j, u, rfl, rfl⟩ | ⟨y, u, rfl, rfl⟩ | ⟨d, rfl, rfl⟩
      · rw [zin] at h; exact SeqAt.EqAt.bool_int c j u _ _ _ _ h
      · rw [zod] at h; exact SeqAt.EqAt.bool_str c y u _ _ _ _ h
      · rw [zin, show (blI c == blI d) = (c == d) by cases c <;> cases d <;> rfl] at h
        exact SeqAt.EqAt.bool_bool c d _ _ _ _ h
  «strs» := fun k x t v h => by
    rcases zay h with ⟨i, u, rfl, e⟩ | ⟨y, u, rfl, e⟩ | ⟨d, rfl, e⟩
    · exact nomatch e
    · injection e with e1 _
      subst e1
      cases v <;> rfl
    · exact nomatch e
theorem zhd (prog : Program) (w : World) (i : Int) (t : Tok) : (mixKind prog w).is (.inl i) (.int i t) = true := zla i t
theorem zhc (prog : Program) (w : World) (x : Str) (t : Tok) : (mixKind prog w).is (.inr x) (.str x t) = true := zk9 x t
inductive V where
  | non | bl (b : Bool) | int (i : Int) | str (x : Str) | byt (b : Array UInt8) | flt (b : UInt64) | ref (a : Addr) | ty (n : String)
  deriving DecidableEq
def RelV : V → Value → Prop
  | .non, u => u = Value.none
  | .bl b, u => u = Value.bool b
  | .int i, u => ∃ t, u = Value.int i t
  | .str x, u => ∃ t, u = Value.str x t
  | .byt b, u => ∃ t, u = Value.bytes b t
  | .flt b, u => ∃ t, u = Value.float b t
  | .ref a, u => u = Value.ref a
  | .ty n, u => u = Value.type n
abbrev Vals : List V → List Value → Prop := Paired RelV
theorem Vals.length {xs : List V} {us : List Value} (r : Vals xs us) : xs.length = us.length := Paired.length r
theorem Vals.get : ∀ {xs : List V} {us : List Value} {i : Nat} {x : V}, Vals xs us → xs[i]? = some x → ∃ u, us[i]? = some u ∧ RelV x u
  | _, _, _, _, .nil, e => by simp at e
  | _, _, 0, _, .cons r _, e => by simp at e; subst e; exact ⟨_, rfl, r⟩
  | _, _, i + 1, x, .cons _ t, e => by
    obtain ⟨u, h1, h2⟩ := Vals.get (i := i) (x := x) t (by simpa using e)
    exact ⟨u, by simpa using h1, h2⟩
theorem Vals.append : ∀ {xs ys : List V} {us ws : List Value}, Vals xs us → Vals ys ws → Vals (xs ++ ys) (us ++ ws)
  | _, _, _, _, .nil, s => s
  | _, _, _, _, .cons r t, s => .cons r (Vals.append t s)
theorem Vals.take : ∀ {xs : List V} {us : List Value} (n : Nat), Vals xs us → Vals (xs.take n) (us.take n)
  | _, _, 0, _ => .nil
  | _, _, _ + 1, .nil => .nil
  | _, _, n + 1, .cons r t => .cons r (Vals.take n t)
theorem Vals.drop : ∀ {xs : List V} {us : List Value} (n : Nat), Vals xs us → Vals (xs.drop n) (us.drop n)
  | _, _, 0, r => r
  | _, _, _ + 1, .nil => .nil
  | _, _, n + 1, .cons _ t => Vals.drop n t
def RelO : Option V → Option Value → Prop
  | some v, some u => RelV v u
  | none, none => True
  | _, _ => False
def KV {κ : Type} : List (κ × V) → List (κ × Value) → Prop := Paired fun (p : κ × V) (q : κ × Value) => p.1 = q.1 ∧ RelV p.2 q.2
def kV : Key → V
  | .inl i => .int i
  | .inr x => .str x
inductive HO where
    | lst (xs : List V)
    | tup (xs : List V)
    | dK (kvs : List (Key × V)) | dT (kvs : List (List Key × V))
    | set (S : Int → Bool) (n : Nat)
    | ins (C dx : Addr) (fs : List (Str × V))
    | own (x : Addr)
    | xd (fs : List (Str × V))
    | met (f x : Addr)
    | rng (lo hi : Int)
    | frz (o : Obj) (u : HO)
    | tbl (qs : List (Pos × Str)) (ps : Array Value)
    | ext (φ : Heap → Prop)
abbrev Hp := Addr → Option HO
def upd (H : Hp) (a : Addr) (o : HO) : Hp := fun b => if b = a then some o else H b
theorem zap {H : Hp} {a : Addr} {o : HO} : upd H a o a = some o := by unfold upd; rw [if_pos rfl]
theorem zam {H : Hp} {a b : Addr} {o : HO} (h : b ≠ a) : upd H a o b = H b := by unfold upd; rw [if_neg h]
theorem zei {H : Hp} {a b : Addr} {o u : HO} (h : H a = some o) (h' : H b = some u) (d : o ≠ u) : a ≠ b := by
  intro e; subst e; rw [h] at h'; exact d (Option.some.inj h')
theorem zaq {H : Hp} {a b : Addr} {o : HO} (h : H a = some o) (h' : H b = none) : a ≠ b := by
  intro e; subst e; rw [h] at h'; cases h'
section
variable (P : Program) (w : World)
def CodeObj (o : Obj) (q : Str) : Prop := ∃ vs t, o.data = .fields vs ∧ vs[1]? = some (.str q t)
def ObjOk (H : Hp) (h : Heap) (a : Addr) : HO → Prop
  | .lst xs => xs.length ≤ sizeLine ∧ ∃ (its : List Value) (n : Nat), Vals xs its ∧ h.get? a = some { cls := .type "list", data := .seq its.toArray n }
  | .tup xs => xs.length ≤ sizeLine ∧ ∃ its : List Value, Vals xs its ∧ IsTup h a its.toArray
  | .dK kvs => kvs.length ≤ sizeLine ∧ (a == sysModules) = false ∧ ∃ vs, KV kvs vs ∧ h.DictOf (mixKind P w) a vs
  | .dT kvs => kvs.length ≤ sizeLine ∧ (a == sysModules) = false ∧ ∃ xs : List (List Key × Addr × Value),
      Paired (fun (p : List Key × V) (q : List Key × Addr × Value) => p.1 = q.1 ∧ H q.2.1 = some (.tup (p.1.map kV)) ∧ RelV p.2 q.2.2) kvs xs ∧
      ∃ o es ep, h.get? a = some o ∧ o.ExactDict ∧ o.data = .dict es ep ∧ es.toList = xs.map (entryOfKey (tupleKind (mixKind P w))) ∧ (xs.map (·.1)).Nodup
  | .set S n => h.SetOf (intKind P w) a S n
  | .ins C dx fs => H dx = some (.own a) ∧ fs.length ≤ 1000 ∧ dx ≠ a ∧ h.get? a = some (PySem.W.instObj C dx) ∧
      ∃ mA, h.Ns1 dx mA ∧ (∀ f, RelO (fs.lookup f) (mA f)) ∧ PySem.Within mA (fs.map (·.1))
  | .own _ => ∃ o, h.get? a = some o
  | .xd fs => ∃ mA, h.Ns1 a mA ∧ ∀ f, RelO (fs.lookup f) (mA f)
  | .rng lo hi => ∃ t u v, h.get? a = some { cls := .type "range", data := .fields #[.int lo t, .int hi u, .int 1 v] }
  | .frz o u => h.get? a = some o ∧ ObjOk H h a u
  | .tbl qs ps => ∃ more : Array Value, h.get? a = some { cls := .none, data := .fields (ps ++ more) } ∧ TriplesOk (ps ++ more).toList ∧ ∀ p ∈ qs, ∀ v, codeAmong p.1 (ps ++ more).toList = some v → ∃ c o, v = .ref c ∧ H c = some (.frz o (.own c)) ∧ CodeObj o p.2
  | .met f x => h.get? a = some (PySem.W.methodObj (.ref f) (.ref x))
  | .ext φ => φ h ∧ (∃ o, h.get? a = some o) ∧ ∀ h1 h2 : Heap, φ h1 → (∀ o, h1.get? a = some o → h2.get? a = some o) → φ h2
def HOk (H : Hp) (h : Heap) : Prop := ∀ a o, H a = some o → ObjOk P w H h a o
end
section
variable {P : Program} {w : World} {H H' : Hp} {h h' : Heap} {a : Addr} {o : HO}
theorem ObjOk.lt (x : ObjOk P w H h a o) : a < h.objs.size := by
  cases o with
  | lst xs => obtain ⟨_, _, _, _, e⟩ := x; exact Heap.lt_size e
  | tup xs => obtain ⟨_, _, _, p⟩ := x; exact p.lt
  | dK kvs => obtain ⟨_, _, _, _, o, _, _, e, _⟩ := x; exact Heap.lt_size e
  | dT kvs => obtain ⟨_, _, _, _, o, _, _, e, _⟩ := x; exact Heap.lt_size e
  | set S n => obtain ⟨o, _, _, _, e, _⟩ := x; exact Heap.lt_size e
  | ins C dx fs => obtain ⟨_, _, _, e, _⟩ := x; exact Heap.lt_size e
  | own y => obtain ⟨_, e⟩ := x; exact Heap.lt_size e
  | xd fs => obtain ⟨_, ⟨_, _, _, e, _⟩, _⟩ := x; exact Heap.lt_size e
  | rng lo hi => obtain ⟨_, _, _, e⟩ := x; exact Heap.lt_size e
  | frz ob u => obtain ⟨e, _⟩ := x; exact Heap.lt_size e
  | tbl qs ps => obtain ⟨_, e, _⟩ := x; exact Heap.lt_size e
  | met f y => exact Heap.lt_size (show h.get? a = some _ from x)
  | ext φ => obtain ⟨_, ⟨_, e⟩, _⟩ := x; exact Heap.lt_size e
theorem Paired.mapP {α β : Type} {F G : α → β → Prop} : ∀ {l₁ : List α} {l₂ : List β}, Paired F l₁ l₂ → (∀ a b, F a b → G a b) → Paired G l₁ l₂
  | _, _, .nil, _ => .nil
  | _, _, .cons r t, f => .cons (f _ _ r) (Paired.mapP t f)
theorem ObjOk.stay (x : ObjOk P w H h a o) (k : ∀ b u, (b = a ∨ H b = some (.own a)) → h.get? b = some u → h'.get? b = some u)
    (ho : ∀ b, H b = some (.own a) → H' b = some (.own a)) (hf : ∀ b o u q, CodeObj o q → H b = some (.frz o u) → H' b = some (.frz o u)) (ht : ∀ b xs, H b = some (.tup xs) → H' b = some (.tup xs)) : ObjOk P w H' h' a o := by
  induction o with
  | lst xs => obtain ⟨z, its, n, r, e⟩ := x; exact ⟨z, its, n, r, k _ _ (.inl rfl) e⟩
  | tup xs => obtain ⟨z, its, r, ob, e, c⟩ := x; exact ⟨z, its, r, ob, k _ _ (.inl rfl) e, c⟩
  | dK kvs => obtain ⟨z, y, vs, r, ob, es, ep, e, c⟩ := x; exact ⟨z, y, vs, r, ob, es, ep, k _ _ (.inl rfl) e, c⟩
  | dT kvs =>
    obtain ⟨z, y, xs, r, ob, es, ep, e, c⟩ := x
    exact ⟨z, y, xs, Paired.mapP r fun p q z => ⟨z.1, ht _ _ z.2.1, z.2.2⟩, ob, es, ep, k _ _ (.inl rfl) e, c⟩
  | set S n => obtain ⟨ob, es, ep, t, e, c⟩ := x; exact ⟨ob, es, ep, t, k _ _ (.inl rfl) e, c⟩
  | ins C dx fs =>
    obtain ⟨d, z, ne, e, mA, ⟨od, es, ep, e2, c⟩, r⟩ := x
    exact ⟨ho _ d, z, ne, k _ _ (.inl rfl) e, mA, ⟨od, es, ep, k _ _ (.inr d) e2, c⟩, r⟩
  | own y => obtain ⟨ob, e⟩ := x; exact ⟨ob, k _ _ (.inl rfl) e⟩
  | xd fs => obtain ⟨mA, ⟨od, es, ep, e, c⟩, r⟩ := x; exact ⟨mA, ⟨od, es, ep, k _ _ (.inl rfl) e, c⟩, r⟩
  | rng lo hi => obtain ⟨t, u, v, e⟩ := x; exact ⟨t, u, v, k _ _ (.inl rfl) e⟩
  | frz ob u ih => obtain ⟨e, q⟩ := x; exact ⟨k _ _ (.inl rfl) e, ih q⟩
  | tbl qs ps => obtain ⟨more, e, t, c⟩ := x; exact ⟨more, k _ _ (.inl rfl) e, t, fun p hp v q => let ⟨c1, o, r, z, co⟩ := c p hp v q; ⟨c1, o, r, hf _ _ _ _ co z, co⟩⟩
  | met f y =>
    have e : h.get? a = some (PySem.W.methodObj (.ref f) (.ref y)) := x
    show h'.get? a = some (PySem.W.methodObj (.ref f) (.ref y))
    exact k a _ (.inl rfl) e
  | ext φ => obtain ⟨p, ⟨o, e⟩, st⟩ := x; exact ⟨st _ _ p fun o q => k _ _ (.inl rfl) q, ⟨o, k _ _ (.inl rfl) e⟩, st⟩
theorem HOk.lt (x : HOk P w H h) (e : H a = some o) : a < h.objs.size := (x a o e).lt
theorem HOk.fresh (x : HOk P w H h) (e : h.objs.size ≤ a) : H a = none := by
  cases q : H a with
  | none => rfl
  | some u => exact absurd (Nat.lt_of_lt_of_le (x.lt q) e) (Nat.lt_irrefl _)
theorem HOk.kept (x : HOk P w H h) (k : ∀ b u, h.get? b = some u → h'.get? b = some u) : HOk P w H h' := fun a o e =>
  (x a o e).stay (fun b u _ q => k b u q) (fun _ q => q) (fun _ _ _ _ _ q => q) fun _ _ q => q
theorem HOk.laid (x : HOk P w H h) (k : ∀ b u, h.get? b = some u → h'.get? b = some u) (hp : h.objs.size ≤ a) (new : ObjOk P w (upd H a o) h' a o) : HOk P w (upd H a o) h' := fun b u e => by
  have hn := x.fresh hp
  by_cases hb : b = a
  · subst hb; rw [zap] at e; cases e; exact new
  · rw [zam hb] at e
    exact (x b u e).stay (fun c v _ q => k c v q) (fun c q => by rw [zam (zaq q hn)]; exact q) (fun c _ _ _ _ q => by rw [zam (zaq q hn)]; exact q) fun c xs q => by rw [zam (zaq q hn)]; exact q
end
def Rd (H : Hp) (a : Addr) (u : HO) : Prop := H a = some u ∨ ∃ o, H a = some (.frz o u)
theorem Rd.ok {P : Program} {w : World} {H : Hp} {h : Heap} {a : Addr} {u : HO} (r : Rd H a u) (x : HOk P w H h) : ObjOk P w H h a u := by
  rcases r with r | ⟨o, r⟩
  · exact x a u r
  · obtain ⟨_, q⟩ := x a _ r
    exact q
def Mut : Option HO → Prop
  | some (.lst _) => True
  | some (.dK _) => True
  | some (.dT _) => True
  | some (.set _ _) => True
  | some (.ins _ _ _) => True
  | some (.ext _) => True
  | _ => False
section
variable {P : Program} {w : World} {H : Hp} {h h' : Heap} {x e : Addr} {o' : HO}
theorem HOk.write (ok : HOk P w H h) (mu : Mut (H x)) (he : e = x ∨ H e = some (.own x)) (k : ∀ b u, b ≠ e → h.get? b = some u → h'.get? b = some u) (heo : ∃ u, h'.get? e = some u)
    (new : ObjOk P w (upd H x o') h' x o') : HOk P w (upd H x o') h' := fun b u q => by
  have nown : ∀ c y, H c = some (.own y) → c ≠ x := fun c y r z => by subst z; rw [r] at mu; exact mu
  have ntup : ∀ c xs, H c = some (.tup xs) → c ≠ x := fun c xs r z => by subst z; rw [r] at mu; exact mu
  have nfrz : ∀ c o y, H c = some (.frz o y) → c ≠ x := fun c o y r z => by subst z; rw [r] at mu; exact mu
  by_cases hb : b = x
  · subst hb; rw [zap] at q; cases q; exact new
  · rw [zam hb] at q
    by_cases hbe : b = e
    · have q' : H b = some (.own x) := by
        rcases he with z | z
        · exact absurd (hbe.trans z) hb
        · rw [hbe]; exact z
      rw [q] at q'; cases q'
      obtain ⟨v, hv⟩ := heo
      exact ⟨v, by rw [hbe]; exact hv⟩
    · refine (ok b u q).stay (fun c v hc r => k c v ?_ r) (fun c r => by rw [zam (nown c b r)]; exact r) (fun c o y _ _ r => by rw [zam (nfrz c o y r)]; exact r) fun c xs r => by rw [zam (ntup c xs r)]; exact r
      rcases hc with rfl | hc
      · exact hbe
      · rintro rfl
        rcases he with z | z
        · exact nown c b hc z
        · rw [hc] at z; cases z; exact hb rfl
end
structure Un (fs ex : List Addr) (H H' : Hp) (h h' : Heap) : Prop where
  keep : ∀ b o, h.get? b = some o → H b = none → b ∉ fs → b ∉ ex → h'.get? b = some o
  slot : ∀ b o, h.get? b = some o → H b = none → b ∈ fs → b ∉ ex → ∃ sl, h'.get? b = some { o with slots := sl }
  free : ∀ b o, h.get? b = some o → H b = none → b ∉ ex → H' b = none
  there : ∀ b o, h.get? b = some o → b ∉ ex → ∃ o', h'.get? b = some o'
  tups : ∀ b xs, H b = some (.tup xs) → H' b = some (.tup xs)
  frzs : ∀ b o u, H b = some (.frz o u) → H' b = some (.frz o u)
  tbls : ∀ b qs ps, H b = some (.tbl qs ps) → H' b = some (.tbl qs ps)
section
variable {fs fs' ex ex' : List Addr} {H H1 H2 : Hp} {h h1 h2 h' : Heap} {a x e : Addr} {o : HO}
theorem Un.any (u : Un fs ex H H1 h h1) {b : Addr} {ob : Obj} (q : h.get? b = some ob) (n : H b = none) (hx : b ∉ ex) : ∃ sl, h1.get? b = some { ob with slots := sl } := by
  by_cases hb : b ∈ fs
  · exact u.slot b ob q n hb hx
  · exact ⟨ob.slots, u.keep b ob q n hb hx⟩
theorem Un.kept (k : ∀ b u, h.get? b = some u → h'.get? b = some u) : Un fs ex H H h h' :=
  ⟨fun b ob q _ _ _ => k b ob q, fun b ob q _ _ _ => ⟨ob.slots, k b ob q⟩, fun _ _ _ n _ => n, fun b ob q _ => ⟨ob, k b ob q⟩, fun _ _ q => q, fun _ _ _ q => q, fun _ _ _ q => q⟩
theorem Un.refl : Un fs ex H H h h := Un.kept fun _ _ q => q
theorem Un.laid (k : ∀ b u, h.get? b = some u → h'.get? b = some u) (hp : h.objs.size ≤ a) (hn : H a = none) : Un fs ex H (upd H a o) h h' where
  keep := fun b u q _ _ _ => k b u q
  slot := fun b u q _ _ _ => ⟨u.slots, k b u q⟩
  free := fun b u q n _ => by rw [zam (Nat.ne_of_lt (Nat.lt_of_lt_of_le (Heap.lt_size q) hp))]; exact n
  there := fun b u q _ => ⟨u, k b u q⟩
  tups := fun b xs q => by rw [zam (zaq q hn)]; exact q
  frzs := fun b u xs q => by rw [zam (zaq q hn)]; exact q
  tbls := fun b qs ps q => by rw [zam (zaq q hn)]; exact q
theorem Un.write (mu : Mut (H x)) (he : e = x ∨ H e = some (.own x)) (k : ∀ b u, b ≠ e → h.get? b = some u → h'.get? b = some u) (heo : ∃ u, h'.get? e = some u) : Un fs ex H (upd H x o) h h' := by
  have hx : ∀ b, H b = none → b ≠ x := fun b n z => by subst z; rw [n] at mu; exact mu
  have hb : ∀ b, H b = none → b ≠ e := fun b n z => by
    subst z
    rcases he with r | r
    · exact hx b n r
    · rw [n] at r; cases r
  have hm : ∀ b u, H b = some u → ¬ Mut (some u) → b ≠ x := fun b u q nm z => by subst z; rw [q] at mu; exact nm mu
  refine ⟨fun b u q n _ _ => k b u (hb b n) q, fun b u q n _ _ => ⟨u.slots, k b u (hb b n) q⟩, fun b u q n _ => by rw [zam (hx b n)]; exact n, fun b u q _ => ?_,
    fun b xs q => by rw [zam (hm b _ q fun z => z)]; exact q, fun b u xs q => by rw [zam (hm b _ q fun z => z)]; exact q, fun b qs ps q => by rw [zam (hm b _ q fun z => z)]; exact q⟩
  by_cases hbe : b = e
  · subst hbe; exact heo
  · exact ⟨u, k b u hbe q⟩
end
def trk (h : Heap) (H : Hp) : List Addr := (List.range h.objs.size).filter fun a => (H a).isSome
def hidT (h : Heap) (H : Hp) : Heap := PySem.W.hideAll h (trk h H)
theorem zlf (h : Heap) (H : Hp) : (hidT h H).objs.size = h.objs.size := PySem.W.hideAll_size _ _
theorem znn {h : Heap} {H : Hp} {b : Addr} {o : Obj} (e : h.get? b = some o) (n : H b = none) : (hidT h H).get? b = some o :=
  PySem.W.hideAll_get _ e fun hm => by
    have q : (H b).isSome = true := (List.mem_filter.mp hm).2
    rw [n] at q; simp at q
theorem zpr {h : Heap} {H : Hp} {b : Addr} {o : Obj} (e : (hidT h H).get? b = some o) : h.get? b = some o ∧ H b = none := by
  have e' : h.get? b = some o := PySem.W.of_hideAll (trk h H) e
  refine ⟨e', ?_⟩
  cases q : H b with
  | none => rfl
  | some x =>
    have hm : b ∈ trk h H := List.mem_filter.mpr ⟨List.mem_range.mpr (Heap.lt_size e'), by simp [q]⟩
    have z : (hidT h H).get? b = none := PySem.W.hideAll_none (trk h H) hm
    rw [z] at e; cases e
def allNews (g h : Heap) (L : Addr) : List (Addr × Obj) := (List.range h.objs.size).filterMap fun a => if a = L ∨ (g.get? a).isSome = true then none else (h.get? a).map fun o => (a, o)
def rest (g h : Heap) (L d : Addr) : List (Addr × Obj) := (allNews g h L).filter fun p => decide (p.1 ≠ d)
structure Mod (K : PySem.W.Frag) (mg : Str → Option Value) (base : Heap) : Prop where
  kin : K.In base
  glob : base.Ns mainGlobals mg
  blt : ∃ mb, base.Ns builtinsNs mb ∧ ∀ x : Str, x ≠ "__name__" → mb x = bootBuiltins x
  nolimit : base.NoLimit
structure Cx where
  prog : Program
  w : World
  K : PySem.W.Frag
  mg : Str → Option Value
  base : Heap
  A : Around
  N : List Str
  s₀ : Shared
  H₀ : Hp
  env : Env
  outer : List Env
  stack : List Env
  ex : List Addr
  fn : Str → Bool
  calm : Bool
  pn : List (Addr × Obj)
  xe : Value → Shared → Prop
def frs (l : List Env) : List Addr := l.filterMap (·.frame)
abbrev Cx.fs (X : Cx) : List Addr := frs X.outer
def Vis (sc : Scope) (x : Str) : Prop := sc.names.lookup x = some .local ∨ sc.names.lookup x = some .cell ∨ sc.names.lookup x = some .free
def Loc (sc : Scope) (x : Str) : Prop := sc.names.lookup x = some .local ∨ sc.names.lookup x = some .cell
def Look (env : Env) (h : Heap) (m : Str → Option Value) (x : Str) (u : Value) : Prop :=
  (env.kindOf x = some .local ∧ m x = some u) ∨ ((env.kindOf x = some .cell ∨ env.kindOf x = some .free) ∧ ∃ c, env.cells.lookup x = some c ∧ h.IsCell c (some u))
structure Cx.Ok (X : Cx) : Prop where
  mod : Mod X.K X.mg X.base
  kind : X.env.scope.kind = .function
  glob : X.env.globals = mainGlobals
  blt : X.env.builtins = builtinsNs
  above : X.s₀.heap.objs.size ≤ X.env.locals
  inj : ∀ x y c, X.env.cells.lookup x = some c → X.env.cells.lookup y = some c → x = y
  has : ∀ x, (X.env.kindOf x = some .cell ∨ X.env.kindOf x = some .free) → ∃ c, X.env.cells.lookup x = some c
  cab : ∀ x c, X.fn x = true → X.env.cells.lookup x = some c → X.s₀.heap.objs.size ≤ c
  hd : X.calm = true → X.A.handled = none
  frames : X.A.frames = some X.stack
  stk : X.stack = X.outer ∨ (X.stack = X.env :: X.outer ∧ X.env.frame = some X.env.locals)
  exf : ∀ b ∈ X.ex, b ≠ X.env.locals ∧ ∀ x c, X.env.cells.lookup x = some c → c ≠ b
  bs : ∀ b o, X.base.get? b = some o → X.s₀.heap.get? b = some o ∧ X.H₀ b = none
  bsz : X.base.objs.size ≤ X.s₀.heap.objs.size
  noex : ∀ b o, X.base.get? b = some o → b ∉ X.ex
  exfs : ∀ b ∈ X.ex, b ∉ X.fs
  funs : X.s₀.heap.FunFrames X.base X.outer
  frf : ∀ b ∈ X.fs, X.H₀ b = none
structure Inv (X : Cx) (pins : List (Addr × Obj)) (σ : List (Option V)) (H : Hp) (s : Shared) : Prop where
  ok : X.Ok
  os : s.os = X.s₀.os
  bare : AllBare s.gens
  base : Un X.fs X.ex X.H₀ H X.s₀.heap s.heap
  loc : ∃ m, s.heap.Ns X.env.locals m ∧ ∀ (i : Nat) (x : Str) (v : V), X.N[i]? = some x → σ[i]? = some (some v) → Vis X.env.scope x → ∃ u, RelV v u ∧ Look X.env s.heap m x u
  cell : ∀ x c, X.env.cells.lookup x = some c → ∃ v, s.heap.IsCell c v
  free : H X.env.locals = none
  freeC : ∀ x c, X.env.cells.lookup x = some c → H c = none
  pin : ∀ p ∈ X.pn ++ pins, s.heap.get? p.1 = some p.2 ∧ H p.1 = none ∧ p.1 ≠ X.env.locals ∧ p.1 ∉ X.fs ∧ ∀ v, p.2.data ≠ .cell v
  hok : HOk X.prog X.w H s.heap
  len : σ.length = X.N.length
section
variable {X : Cx} {pins : List (Addr × Obj)} {σ : List (Option V)} {H H' : Hp} {s : Shared} {h' : Heap}
theorem Cx.Ok.nofr (ok : X.Ok) {b : Addr} {o : Obj} (e : X.base.get? b = some o) : b ∉ X.fs := fun hb => by
  have := (ok.funs.mem hb).1
  rw [e] at this; cases this
theorem Inv.bs (I : Inv X pins σ H s) : ∀ b o, X.base.get? b = some o → s.heap.get? b = some o ∧ H b = none := fun b o e =>
  ⟨I.base.keep b o (I.ok.bs b o e).1 (I.ok.bs b o e).2 (I.ok.nofr e) (I.ok.noex b o e), I.base.free b o (I.ok.bs b o e).1 (I.ok.bs b o e).2 (I.ok.noex b o e)⟩
theorem Inv.bk (I : Inv X pins σ H s) : ∀ b o, X.base.get? b = some o → s.heap.get? b = some o := fun b o e => (I.bs b o e).1
theorem Inv.mod (I : Inv X pins σ H s) : Mod X.K X.mg X.base := I.ok.mod
theorem Inv.kIn (I : Inv X pins σ H s) : X.K.In s.heap := I.ok.mod.kin.keeps I.bk
theorem Inv.lt (I : Inv X pins σ H s) : X.env.locals < s.heap.objs.size := let ⟨_, hn, _⟩ := I.loc; hn.lt
theorem Inv.sz (I : Inv X pins σ H s) : X.s₀.heap.objs.size ≤ s.heap.objs.size := Nat.le_trans I.ok.above (Nat.le_of_lt I.lt)
theorem Inv.nofs (I : Inv X pins σ H s) {a : Addr} (h : s.heap.objs.size ≤ a) : a ∉ X.fs := fun hb => by
  obtain ⟨_, o, ho, _⟩ := I.ok.funs.mem hb
  exact absurd (Nat.lt_of_lt_of_le (Heap.lt_size ho) (Nat.le_trans I.sz h)) (Nat.lt_irrefl _)
theorem Inv.cne (I : Inv X pins σ H s) : ∀ x c, X.env.cells.lookup x = some c → c ≠ X.env.locals := fun x c e z => by
  obtain ⟨v, o, ho, hd⟩ := I.cell x c e
  obtain ⟨m, ⟨o', es, ep, ho', hd', _⟩, _⟩ := I.loc
  rw [z, ho'] at ho; cases ho; rw [hd'] at hd; cases hd
theorem Inv.funs (I : Inv X pins σ H s) : s.heap.FunFrames X.base X.outer := by
  have all : ∀ (l : List Env), (∀ b ∈ frs l, b ∈ X.fs) → X.s₀.heap.FunFrames X.base l → s.heap.FunFrames X.base l := by
    intro l
    induction l with
    | nil => intro _ _; trivial
    | cons env r ih =>
      intro hs hl
      obtain ⟨hk, ⟨L, o, hf, hn, ho, hd⟩, hr⟩ := hl
      have hL : L ∈ X.fs := hs L (by unfold frs; rw [List.filterMap_cons, hf]; exact List.mem_cons_self)
      obtain ⟨sl, e⟩ := I.base.slot L o ho (I.ok.frf L hL) hL fun z => I.ok.exfs L z hL
      exact ⟨hk, ⟨L, _, hf, hn, e, hd⟩, ih (fun b hb => hs b (by unfold frs; rw [List.filterMap_cons, hf]; exact List.mem_cons_of_mem _ hb)) hr⟩
  exact all X.outer (fun _ hb => hb) I.ok.funs
theorem Inv.stack (I : Inv X pins σ H s) : s.heap.FunFrames X.base X.stack := by
  rcases I.ok.stk with e | ⟨e, hf⟩
  · rw [e]; exact I.funs
  · rw [e]
    obtain ⟨m, hn, _⟩ := I.loc
    refine .cons (by rw [I.ok.kind]; decide) hf hn ?_ I.funs
    exact Heap.get?_none_of_le (Nat.le_trans I.ok.bsz I.ok.above)
theorem Inv.stkSub (I : Inv X pins σ H s) : ∀ b ∈ frs X.stack, b ∈ X.env.locals :: X.fs := fun b hb => by
  rcases I.ok.stk with e | ⟨e, hf⟩
  · rw [e] at hb; exact List.mem_cons_of_mem _ hb
  · rw [e] at hb
    unfold frs at hb
    rw [List.filterMap_cons, hf] at hb
    exact hb
theorem Inv.stkFree (I : Inv X pins σ H s) : ∀ b ∈ frs X.stack, H b = none := fun b hb => by
  rcases List.mem_cons.mp (I.stkSub b hb) with e | hb
  · rw [e]; exact I.free
  · obtain ⟨_, o, ho, _⟩ := I.ok.funs.mem hb
    exact I.base.free b o ho (I.ok.frf b hb) fun z => I.ok.exfs b z hb
theorem Inv.step {g' : Array GenState} {t' : Nat} {d' : Drawn} {ch : List Addr} (I : Inv X pins σ H s)
    (hch : ∀ b ∈ ch, (b ∈ X.ex ∨ X.s₀.heap.objs.size ≤ b) ∧ b ≠ X.env.locals ∧ (∀ x c, X.env.cells.lookup x = some c → c ≠ b) ∧ ∀ p ∈ X.pn ++ pins, p.1 ≠ b)
    (keep : ∀ b o, b ≠ X.env.locals → b ∉ X.fs → b ∉ ch → s.heap.get? b = some o → H b = none → h'.get? b = some o)
    (slot : ∀ b o, b ≠ X.env.locals → b ∈ X.fs → b ∉ ch → s.heap.get? b = some o → H b = none → ∃ sl, h'.get? b = some { o with slots := sl }) (free : ∀ b o, b ∉ ch → s.heap.get? b = some o → H b = none → H' b = none)
    (there : ∀ b o, b ∉ ch → s.heap.get? b = some o → ∃ o', h'.get? b = some o')
    (tups : ∀ b xs, H b = some (.tup xs) → H' b = some (.tup xs)) (frzs : ∀ b o u, H b = some (.frz o u) → H' b = some (.frz o u)) (tbls : ∀ b qs ps, H b = some (.tbl qs ps) → H' b = some (.tbl qs ps))
    (ns : ∀ m, s.heap.Ns X.env.locals m → h'.Ns X.env.locals m) (hok : HOk X.prog X.w H' h') (hg : AllBare g') :
    Inv X pins σ H' { s with heap := h', gens := g', drawn := d', toks := t' } := by
  have neL : ∀ b o, X.s₀.heap.get? b = some o → b ≠ X.env.locals := fun b o e => Nat.ne_of_lt (Nat.lt_of_lt_of_le (Heap.lt_size e) I.ok.above)
  have neC : ∀ b o, X.s₀.heap.get? b = some o → b ∉ X.ex → b ∉ ch := fun b o e hx hb => by
    rcases (hch b hb).1 with z | z
    · exact hx z
    · exact absurd (Nat.lt_of_lt_of_le (Heap.lt_size e) z) (Nat.lt_irrefl _)
  have cellK : ∀ x c, X.env.cells.lookup x = some c → ∀ v, s.heap.IsCell c v → h'.IsCell c v := fun x c e v ⟨o, ho, hd⟩ => by
    have nch : c ∉ ch := fun z => (hch c z).2.2.1 x c e rfl
    by_cases hc : c ∈ X.fs
    · obtain ⟨sl, q⟩ := slot c o (I.cne x c e) hc nch ho (I.freeC x c e)
      exact ⟨_, q, hd⟩
    · exact ⟨o, keep c o (I.cne x c e) hc nch ho (I.freeC x c e), hd⟩
  refine ⟨I.ok, I.os, hg, ⟨fun b o e n hb hx => ?_, fun b o e n hb hx => ?_, fun b o e n hx => ?_, fun b o e hx => ?_, fun b xs e => tups b xs (I.base.tups b xs e), fun b o xs e => frzs b o xs (I.base.frzs b o xs e), fun b qs ps e => tbls b qs ps (I.base.tbls b qs ps e)⟩, ?_, fun x c e => ?_, ?_, fun x c e => ?_, fun p hp => ?_, hok, I.len⟩
  · exact keep b o (neL b o e) hb (neC b o e hx) (I.base.keep b o e n hb hx) (I.base.free b o e n hx)
  · obtain ⟨sl, e1⟩ := I.base.slot b o e n hb hx
    obtain ⟨sl', e2⟩ := slot b _ (neL b o e) hb (neC b o e hx) e1 (I.base.free b o e n hx)
    exact ⟨sl', e2⟩
  · obtain ⟨o', e1⟩ := I.base.there b o e hx
    exact free b o' (neC b o e hx) e1 (I.base.free b o e n hx)
  · obtain ⟨o', e1⟩ := I.base.there b o e hx
    exact there b o' (neC b o e hx) e1
  · obtain ⟨m, hn, hl⟩ := I.loc
    refine ⟨m, ns m hn, fun i x v e1 e2 e3 => ?_⟩
    obtain ⟨u, r, l⟩ := hl i x v e1 e2 e3
    refine ⟨u, r, ?_⟩
    rcases l with l | ⟨k, c, e, z⟩
    · exact .inl l
    · exact .inr ⟨k, c, e, cellK x c e _ z⟩
  · obtain ⟨v, z⟩ := I.cell x c e
    exact ⟨v, cellK x c e v z⟩
  · obtain ⟨m, ⟨o, _, _, ho, _⟩, _⟩ := I.loc
    exact free _ o (fun z => (hch _ z).2.1 rfl) ho I.free
  · obtain ⟨v, o, ho, hd⟩ := I.cell x c e
    exact free c o (fun z => (hch c z).2.2.1 x c e rfl) ho (I.freeC x c e)
  · obtain ⟨e, n, ne, nf, d⟩ := I.pin p hp
    have nch : p.1 ∉ ch := fun z => (hch p.1 z).2.2.2 p hp rfl
    exact ⟨keep p.1 p.2 ne nf nch e n, free p.1 p.2 nch e n, ne, nf, d⟩
theorem Inv.un {t' : Nat} (I : Inv X pins σ H s) (u : Un X.fs [] H H' s.heap h') (hok : HOk X.prog X.w H' h') : Inv X pins σ H' { s with heap := h', toks := t' } := by
  obtain ⟨m, ⟨o, es, ep, ho, r⟩, _⟩ := id I.loc
  obtain ⟨sl, hL⟩ := u.any ho I.free (by simp)
  exact I.step (g' := s.gens) (d' := s.drawn) (ch := []) (fun _ z => nomatch z) (fun b o _ hb _ e n => u.keep b o e n hb (by simp)) (fun b o _ hb _ e n => u.slot b o e n hb (by simp)) (fun b o _ e n => u.free b o e n (by simp)) (fun b o _ e => u.there b o e (by simp)) u.tups u.frzs u.tbls (fun m' hm => by
    obtain ⟨o', es', ep', ho', r'⟩ := hm
    rw [ho] at ho'; cases ho'
    exact ⟨_, es', ep', hL, r'⟩) hok I.bare
theorem Inv.call {g' : Array GenState} {t' : Nat} {d' : Drawn} {ch : List Addr} (I : Inv X pins σ H s) (u : Un (frs X.stack) ch H H' s.heap h') (hok : HOk X.prog X.w H' h') (hg : AllBare g')
    (hch : ∀ b ∈ ch, (b ∈ X.ex ∨ X.s₀.heap.objs.size ≤ b) ∧ b ≠ X.env.locals ∧ (∀ x c, X.env.cells.lookup x = some c → c ≠ b) ∧ ∀ p ∈ X.pn ++ pins, p.1 ≠ b) :
    Inv X pins σ H' { s with heap := h', gens := g', drawn := d', toks := t' } := by
  obtain ⟨m, ⟨o, es, ep, ho, r⟩, _⟩ := id I.loc
  obtain ⟨sl, hL⟩ := u.any ho I.free fun z => (hch _ z).2.1 rfl
  exact I.step (ch := ch) hch (fun b o hL hb hc e n => u.keep b o e n (fun z => (List.mem_cons.mp (I.stkSub b z)).elim hL hb) hc) (fun b o _ _ hc e n => u.any e n hc) (fun b o hc e n => u.free b o e n hc) (fun b o hc e => u.there b o e hc) u.tups u.frzs u.tbls (fun m' hm => by
    obtain ⟨o', es', ep', ho', r'⟩ := hm
    rw [ho] at ho'; cases ho'
    exact ⟨_, es', ep', hL, r'⟩) hok hg
theorem Inv.turned {t' : Nat} {it : Addr} (I : Inv X pins σ H s) (k : ∀ b o, b ≠ it → s.heap.get? b = some o → h'.get? b = some o) (hn : H it = none) (hL : it ≠ X.env.locals)
    (h1 : it ∈ X.ex ∨ X.s₀.heap.objs.size ≤ it) (h2 : ∀ x c, X.env.cells.lookup x = some c → c ≠ it) (h3 : ∀ p ∈ X.pn ++ pins, p.1 ≠ it) : Inv X pins σ H { s with heap := h', toks := t' } := by
  have nit : ∀ b u, H b = some u → b ≠ it := fun b u e z => by rw [z, hn] at e; cases e
  refine I.step (g' := s.gens) (d' := s.drawn) (ch := [it]) (fun b hb => ?_) (fun b o _ _ hc e _ => k b o (fun z => hc (by simp [z])) e) (fun b o _ _ hc e _ => ⟨o.slots, k b o (fun z => hc (by simp [z])) e⟩) (fun _ _ _ _ n => n)
    (fun b o hc e => ⟨o, k b o (fun z => hc (by simp [z])) e⟩) (fun _ _ e => e) (fun _ _ _ e => e) (fun _ _ _ e => e) (fun m hm => ?_) (fun b u e => ?_) I.bare
  · have e : b = it := by simpa using hb
    subst e
    exact ⟨h1, hL, h2, h3⟩
  · obtain ⟨o, es, ep, ho, r⟩ := hm
    exact ⟨o, es, ep, k _ o (Ne.symm hL) ho, r⟩
  · refine (I.hok b u e).stay (fun c v hc q => k c v ?_ q) (fun _ q => q) (fun _ _ _ _ _ q => q) fun _ _ q => q
    rcases hc with z | z
    · rw [z]; exact nit b u e
    · exact nit c _ z
theorem Inv.tok (I : Inv X pins σ H s) (t : Nat) : Inv X pins σ H { s with toks := t } := I.un (h' := s.heap) (t' := t) Un.refl I.hok
theorem Inv.kept {t' : Nat} (I : Inv X pins σ H s) (k : ∀ b u, s.heap.get? b = some u → h'.get? b = some u) : Inv X pins σ H { s with heap := h', toks := t' } := I.un (Un.kept k) (I.hok.kept k)
theorem Inv.laid {a : Addr} {o : HO} {t' : Nat} (I : Inv X pins σ H s) (k : ∀ b u, s.heap.get? b = some u → h'.get? b = some u) (hp : s.heap.objs.size ≤ a) (new : ObjOk X.prog X.w (upd H a o) h' a o) :
    Inv X pins σ (upd H a o) { s with heap := h', toks := t' } := I.un (Un.laid k hp (I.hok.fresh hp)) (I.hok.laid k hp new)
theorem Inv.write {x e : Addr} {o : HO} {t' : Nat} (I : Inv X pins σ H s) (mu : Mut (H x)) (he : e = x ∨ H e = some (.own x)) (k : ∀ b u, b ≠ e → s.heap.get? b = some u → h'.get? b = some u) (heo : ∃ u, h'.get? e = some u)
    (new : ObjOk X.prog X.w (upd H x o) h' x o) : Inv X pins σ (upd H x o) { s with heap := h', toks := t' } := I.un (Un.write mu he k heo) (I.hok.write mu he k heo new)
theorem Inv.pins_of {pins' : List (Addr × Obj)} (I : Inv X pins σ H s) (h : ∀ p ∈ pins', s.heap.get? p.1 = some p.2 ∧ H p.1 = none ∧ p.1 ≠ X.env.locals ∧ p.1 ∉ X.fs ∧ ∀ v, p.2.data ≠ .cell v) : Inv X pins' σ H s :=
  ⟨I.ok, I.os, I.bare, I.base, I.loc, I.cell, I.free, I.freeC, fun p hp => (List.mem_append.mp hp).elim (fun z => I.pin p (List.mem_append_left _ z)) (h p), I.hok, I.len⟩
theorem zij {N : List Str} (hN : N.Nodup) {i j : Nat} {x : Str} (a : N[i]? = some x) (b : N[j]? = some x) : i = j := by
  obtain ⟨h1, e1⟩ := List.getElem?_eq_some_iff.mp a
  obtain ⟨h2, e2⟩ := List.getElem?_eq_some_iff.mp b
  exact (List.getElem_inj hN).mp (e1.trans e2.symm)
theorem zft {M : Model} {A : Around} {E : Value → Shared → Prop} {i : Nat} {x : Str} {v : V} {u : Value} {Q : Unit → Shared → Prop} (I : Inv X pins σ H s) (hN : X.N.Nodup) (hi : X.N[i]? = some x) (hx : Loc X.env.scope x) (r : RelV v u)
    (h : ∀ s', Inv X pins (σ.set i (some v)) H s' → (∃ a, Heap.SameBut a s.heap s'.heap ∧ (a = X.env.locals ∨ X.env.cells.lookup x = some a)) → Q () s') (hf : X.fn x = true ∨ X.env.scope.names.lookup x = some .local := by first | exact .inl rfl | exact .inr rfl | assumption) : wpAny M A (storeName X.env x u) Q E s := by
  obtain ⟨m, hn, hl⟩ := id I.loc
  have hcls : (X.env.scope.kind == .class || (X.env.scope.kind == .module && X.env.locals != X.env.globals)) = false := by rw [I.ok.kind]; rfl
  have hiσ : i < σ.length := by rw [I.len]; exact (List.getElem?_eq_some_iff.mp hi).1
  have cne := I.cne
  have tracked : ∀ {a : Addr} {h' : Heap}, (∃ o, s.heap.get? a = some o ∧ H a = none) → Heap.SameBut a s.heap h' → HOk X.prog X.w H h' := fun {a h'} ha hs b ob e => by
    obtain ⟨_, _, hfree⟩ := ha
    refine (I.hok b ob e).stay (fun c w' hc q => (hs.2 c ?_).trans q) (fun _ q => q) (fun _ _ _ _ _ q => q) fun _ _ q => q
    rintro rfl
    rcases hc with rfl | hc
    · rw [hfree] at e; cases e
    · rw [hfree] at hc; cases hc
  rcases hx with hk | hk
  · refine wpAny_storeName_local hk hn (fun h' hn' hs => ?_) hcls
    obtain ⟨oL, _, _, hoL, _⟩ := id hn
    refine h _ ⟨I.ok, I.os, I.bare, ⟨fun b o e n hb hx => ?_, fun b o e n hb hx => ?_, I.base.free, fun b o e hx => ?_, I.base.tups, I.base.frzs, I.base.tbls⟩, ⟨_, hn', fun j y v' e1 e2 e3 => ?_⟩, fun y c e => ?_, I.free, I.freeC, fun p hp => ?_, tracked ⟨oL, hoL, I.free⟩ hs, by simpa using I.len⟩ ⟨_, hs, .inl rfl⟩
    · exact (hs.2 b (Nat.ne_of_lt (Nat.lt_of_lt_of_le (Heap.lt_size e) I.ok.above))).trans (I.base.keep b o e n hb hx)
    · obtain ⟨sl, e1⟩ := I.base.slot b o e n hb hx
      exact ⟨sl, (hs.2 b (Nat.ne_of_lt (Nat.lt_of_lt_of_le (Heap.lt_size e) I.ok.above))).trans e1⟩
    · obtain ⟨o', e1⟩ := I.base.there b o e hx
      exact ⟨o', (hs.2 b (Nat.ne_of_lt (Nat.lt_of_lt_of_le (Heap.lt_size e) I.ok.above))).trans e1⟩
    · by_cases hj : j = i
      · subst hj
        rw [hi] at e1; cases e1
        rw [List.getElem?_set_self hiσ] at e2
        cases e2
        exact ⟨u, r, .inl ⟨hk, by simp⟩⟩
      · rw [List.getElem?_set_ne (Ne.symm hj)] at e2
        obtain ⟨u', r', q⟩ := hl j y v' e1 e2 e3
        refine ⟨u', r', ?_⟩
        rcases q with ⟨k, e⟩ | ⟨k, c, e, z⟩
        · refine .inl ⟨k, ?_⟩
          have : y ≠ x := fun e => hj (zij hN e1 (e ▸ hi))
          simp [this, e]
        · exact .inr ⟨k, c, e, z.sameBut hs (cne y c e)⟩
    · obtain ⟨w', z⟩ := I.cell y c e
      exact ⟨w', z.sameBut hs (cne y c e)⟩
    · obtain ⟨e, n, ne, nf, d⟩ := I.pin p hp
      exact ⟨(hs.2 p.1 ne).trans e, n, ne, nf, d⟩
  · have hfn : X.fn x = true := by
      rcases hf with z | z
      · exact z
      · rw [z] at hk; cases hk
    obtain ⟨c, hc⟩ := I.ok.has x (.inl hk)
    obtain ⟨w', z⟩ := I.cell x c hc
    refine wpAny_storeName_cell I.ok.kind hk hc z (fun h' hc' hs => ?_)
    obtain ⟨oc, hoc, hocd⟩ := id z
    refine h { s with heap := h' } ⟨I.ok, I.os, I.bare, ⟨fun b o e n hb hx => ?_, fun b o e n hb hx => ?_, I.base.free, fun b o e hx => ?_, I.base.tups, I.base.frzs, I.base.tbls⟩, ⟨m, hn.sameBut hs (Ne.symm (cne x c hc)), fun j y v' e1 e2 e3 => ?_⟩, fun y c' e => ?_, I.free, I.freeC, fun p hp => ?_, tracked ⟨oc, hoc, I.freeC x c hc⟩ hs, by simpa using I.len⟩ ⟨c, hs, .inr hc⟩
    · exact (hs.2 b (Nat.ne_of_lt (Nat.lt_of_lt_of_le (Heap.lt_size e) (I.ok.cab x c hfn hc)))).trans (I.base.keep b o e n hb hx)
    · obtain ⟨sl, e1⟩ := I.base.slot b o e n hb hx
      exact ⟨sl, (hs.2 b (Nat.ne_of_lt (Nat.lt_of_lt_of_le (Heap.lt_size e) (I.ok.cab x c hfn hc)))).trans e1⟩
    · obtain ⟨o', e1⟩ := I.base.there b o e hx
      exact ⟨o', (hs.2 b (Nat.ne_of_lt (Nat.lt_of_lt_of_le (Heap.lt_size e) (I.ok.cab x c hfn hc)))).trans e1⟩
    · by_cases hj : j = i
      · subst hj
        rw [hi] at e1; cases e1
        rw [List.getElem?_set_self hiσ] at e2
        cases e2
        exact ⟨u, r, .inr ⟨.inl hk, c, hc, hc'⟩⟩
      · rw [List.getElem?_set_ne (Ne.symm hj)] at e2
        obtain ⟨u', r', q⟩ := hl j y v' e1 e2 e3
        refine ⟨u', r', ?_⟩
        rcases q with q | ⟨k, c', e, z'⟩
        · exact .inl q
        · refine .inr ⟨k, c', e, z'.sameBut hs ?_⟩
          rintro rfl
          exact hj (zij hN e1 (I.ok.inj _ _ _ e hc ▸ hi))
    · by_cases hcc : c' = c
      · subst hcc; exact ⟨_, hc'⟩
      · obtain ⟨w2, z2⟩ := I.cell y c' e
        exact ⟨w2, z2.sameBut hs hcc⟩
    · obtain ⟨e, n, ne, nf, d⟩ := I.pin p hp
      refine ⟨(hs.2 p.1 ?_).trans e, n, ne, nf, d⟩
      intro q
      rw [q, hoc] at e
      have q' : oc = p.2 := Option.some.inj e
      exact d w' (by rw [← q']; exact hocd)
theorem ze3 {M : Model} {A : Around} {E : Value → Shared → Prop} {i : Nat} {x : Str} {v : V} {u : Value} {Q : Unit → Shared → Prop} (I : Inv X pins σ H s) (hN : X.N.Nodup) (hi : X.N[i]? = some x) (hx : Loc X.env.scope x) (r : RelV v u)
    (h : ∀ s', Inv X pins (σ.set i (some v)) H s' → Q () s') (hf : X.fn x = true ∨ X.env.scope.names.lookup x = some .local := by first | exact .inl rfl | exact .inr rfl | assumption) : wpAny M A (storeName X.env x u) Q E s :=
  zft I hN hi hx r (fun s' I' _ => h s' I') hf
theorem Inv.call' {s' : Shared} {ch : List Addr} (I : Inv X pins σ H s) (ho : s'.os = s.os) (u : Un (frs X.stack) ch H H' s.heap s'.heap) (hok : HOk X.prog X.w H' s'.heap) (hg : AllBare s'.gens)
    (hch : ∀ b ∈ ch, (b ∈ X.ex ∨ X.s₀.heap.objs.size ≤ b) ∧ b ≠ X.env.locals ∧ (∀ x c, X.env.cells.lookup x = some c → c ≠ b) ∧ ∀ p ∈ X.pn ++ pins, p.1 ≠ b) : Inv X pins σ H' s' := by
  obtain ⟨h', g', d', t', o'⟩ := s'
  have e : o' = s.os := ho
  subst e
  exact I.call (g' := g') (t' := t') (d' := d') u hok hg hch
end
abbrev XK := Value → Option Addr → Hp → Prop
abbrev St := List (Option V)
abbrev VK := V → Hp → Prop
abbrev TE := St → Hp → VK → Prop
abbrev TT := St → Hp → (Bool → Hp → Prop) → Prop
abbrev TA := St → Hp → (List V → Hp → Prop) → Prop
structure Ends where
  nx : St → Hp → Prop
  rt : VK
  bk : St → Hp → Prop := fun _ _ => False
  ct : St → Hp → Prop := fun _ _ => False
abbrev TS := Ends → St → Hp → Prop
def EP (X : Cx) (pins : List (Addr × Obj)) (σ : St) (Q : VK) (u : Value) (s' : Shared) : Prop := ∃ v H', Inv X pins σ H' s' ∧ RelV v u ∧ Q v H'
def TP (X : Cx) (pins : List (Addr × Obj)) (σ : St) (Q : Bool → Hp → Prop) (b : Bool) (s' : Shared) : Prop := ∃ H', Inv X pins σ H' s' ∧ Q b H'
def AP (X : Cx) (pins : List (Addr × Obj)) (σ : St) (Q : List V → Hp → Prop) (us : List Value) (s' : Shared) : Prop := ∃ vs H', Inv X pins σ H' s' ∧ Vals vs us ∧ Q vs H'
def SP (X : Cx) (pins : List (Addr × Obj)) (D : Ends) (f : Flow) (s' : Shared) : Prop :=
  match f with
  | .next => ∃ σ' H', Inv X pins σ' H' s' ∧ D.nx σ' H'
  | .brk => ∃ σ' H', Inv X pins σ' H' s' ∧ D.bk σ' H'
  | .cont => ∃ σ' H', Inv X pins σ' H' s' ∧ D.ct σ' H'
  | .ret u => ∃ v σ' H', Inv X pins σ' H' s' ∧ RelV v u ∧ D.rt v H'
def PE (X : Cx) (e : Expr) (t : TE) : Prop :=
  ∀ (pins : List (Addr × Obj)) (s : Shared) (σ : St) (H : Hp) (Q : VK), Inv X pins σ H s → t σ H Q → wpAny (model X.prog X.w) X.A (eval e X.env) (EP X pins σ Q) X.xe s
def PT (X : Cx) (e : Expr) (t : TT) : Prop :=
  ∀ (pins : List (Addr × Obj)) (s : Shared) (σ : St) (H : Hp) (Q : Bool → Hp → Prop), Inv X pins σ H s → t σ H Q → wpAny (model X.prog X.w) X.A (isTrue e X.env (eval e X.env)) (TP X pins σ Q) X.xe s
def PW (X : Cx) (e : Expr) (t : TT) : Prop :=
  ∀ (whole : Sem Value) (pins : List (Addr × Obj)) (s : Shared) (σ : St) (H : Hp) (Q : Bool → Hp → Prop), Inv X pins σ H s → t σ H Q → wpAny (model X.prog X.w) X.A (isTrue e X.env whole) (TP X pins σ Q) X.xe s
theorem PW.pt {X : Cx} {e : Expr} {t : TT} (h : PW X e t) : PT X e t := h _
def PA (X : Cx) (es : List Expr) (t : TA) : Prop :=
  ∀ (pos : Pos) (pins : List (Addr × Obj)) (s : Shared) (σ : St) (H : Hp) (Q : List V → Hp → Prop), Inv X pins σ H s → t σ H Q → wpAny (model X.prog X.w) X.A (spliced (backTo pos (starEach es X.env))) (AP X pins σ Q) X.xe s
def PS (X : Cx) (st : Stmt) (t : TS) : Prop :=
  ∀ (pins : List (Addr × Obj)) (s : Shared) (σ : St) (H : Hp) (D : Ends), Inv X pins σ H s → t D σ H → wpAny (model X.prog X.w) X.A (exec st X.env) (SP X pins D) X.xe s
def PSs (X : Cx) (st : List Stmt) (t : TS) : Prop :=
  ∀ (pins : List (Addr × Obj)) (s : Shared) (σ : St) (H : Hp) (D : Ends), Inv X pins σ H s → t D σ H → wpAny (model X.prog X.w) X.A (execs st X.env) (SP X pins D) X.xe s
theorem thn {α : Type} {t : Sem α} {Q Q' : α → Shared → Prop} {M : Model} {A : Around} {E : Value → Shared → Prop} {s : Shared} (h : wpAny M A t Q E s) (hQ : ∀ a s, Q a s → Q' a s) : wpAny M A t Q' E s := wpAny_mono h hQ fun _ _ x => x
section
variable {X : Cx}
def tVar (i : Nat) : TE := fun σ H Q => ∃ v, σ[i]? = some (some v) ∧ Q v H
def tC (v : V) : TE := fun _ H Q => Q v H
theorem zn6 {i : Nat} {x : Str} {pos : Pos} (hN : X.N[i]? = some x) (hv : Vis X.env.scope x) (hd : (x == ("__debug__" : Str)) = false := by decide) (hcd : (x == ("__classdict__" : Str)) = false := by decide) : PE X (.Name x pos) (tVar i) := by
  intro pins s σ H Q I h
  obtain ⟨v, e, h⟩ := h
  obtain ⟨m, hn, hl⟩ := I.loc
  obtain ⟨u, r, l⟩ := hl i x v hN e hv
  have fin : EP X pins σ Q u s := ⟨v, H, I, r, h⟩
  rcases l with ⟨hk, hm⟩ | ⟨hk, c, hc, hcell⟩
  · exact wpAny_Name (wpAny_loadName_local I.ok.kind hk hn hm fin) hd
  · rcases hk with hk | hk
    · exact wpAny_Name (wpAny_loadName_cell I.ok.kind hk hc hcell fin) hd
    · exact wpAny_Name (wpAny_loadName_free I.ok.kind hk hc hcell fin hcd) hd
theorem zaf {i j pos} : PE X (.Constant (.int i) j pos) (tC (.int i)) := fun _ _ _ H _ I h => wpAny_Constant_int ⟨.int i, H, I.tok _, ⟨_, rfl⟩, h⟩
theorem zdi {b j pos} : PE X (.Constant (.bool b) j pos) (tC (.bl b)) := fun _ _ _ H _ I h => Constant_bool ⟨.bl b, H, I, rfl, h⟩
theorem zdz {j pos} : PE X (.Constant .none j pos) (tC .non) := fun _ _ _ H _ I h => Constant_none ⟨.non, H, I, rfl, h⟩
theorem zak {x j pos} : PE X (.Constant (.str x) j pos) (tC (.str x)) := fun _ _ _ H _ I h => Calls.Constant_str ⟨.str x, H, I.tok _, ⟨_, rfl⟩, h⟩
def Gl (X : Cx) (x : Str) : Prop := X.env.kindOf x = some .globalImplicit
theorem zfl {E : Value → Shared → Prop} {pins : List (Addr × Obj)} {s : Shared} {σ : St} {H : Hp} {x : Str} {u : Value} {pos : Pos} {Q : Value → Shared → Prop} (I : Inv X pins σ H s) (hg : Gl X x) (hm : X.mg x = some u) (h : Q u s)
    (hd : (x == ("__debug__" : Str)) = false := by decide) : wpAny (model X.prog X.w) X.A (eval (.Name x pos) X.env) Q E s :=
  Calls.Name_function_global I.ok.kind hg (Calls.loadGlobal_global (by rw [I.ok.glob]; exact I.mod.glob.keeps I.bk) hm h) hd
theorem zex {E : Value → Shared → Prop} {pins : List (Addr × Obj)} {s : Shared} {σ : St} {H : Hp} {x : Str} {u : Value} {pos : Pos} {Q : Value → Shared → Prop} (I : Inv X pins σ H s) (hg : Gl X x) (hm : X.mg x = none) (hv : bootBuiltins x = some u) (h : Q u s)
    (hn : x ≠ "__name__" := by decide) (hd : (x == ("__debug__" : Str)) = false := by decide) : wpAny (model X.prog X.w) X.A (eval (.Name x pos) X.env) Q E s := by
  obtain ⟨mb, h1, h2⟩ := I.mod.blt
  exact Calls.Name_function_global I.ok.kind hg (Calls.loadGlobal_builtin (by rw [I.ok.glob]; exact I.mod.glob.keeps I.bk) hm (by rw [I.ok.blt]; exact h1.keeps I.bk) ((h2 x hn).trans hv) h) hd
theorem zpc {x : Str} {v : V} {u : Value} {pos : Pos} (hg : Gl X x) (hm : X.mg x = some u) (r : RelV v u) (hd : (x == ("__debug__" : Str)) = false := by decide) : PE X (.Name x pos) (tC v) :=
  fun _ _ _ H _ I h => zfl I hg hm ⟨v, H, I, r, h⟩ hd
theorem zbw {x : Str} {v : V} {u : Value} {pos : Pos} (hg : Gl X x) (hm : X.mg x = none) (hv : bootBuiltins x = some u) (r : RelV v u) (hn : x ≠ "__name__" := by decide) (hd : (x == ("__debug__" : Str)) = false := by decide) : PE X (.Name x pos) (tC v) :=
  fun _ _ _ H _ I h => zex I hg hm hv ⟨v, H, I, r, h⟩ hn hd
variable {a b : Expr} {ta tb : TE} {pos : Pos}
def tB (t : TE) : TT := fun σ H Q => t σ H fun x H1 => ∃ c, x = .bl c ∧ Q c H1
theorem zba {e : Expr} {t : TE} (h : PE X e t) (he : ∀ whole, isTrue e X.env whole = (do let v ← whole; standAt e.pos; holding [v] (truthy v)) := by intro _; rfl) : PT X e (tB t) := by
  intro pins s σ H Q I hw
  refine isTrue_plain (thn (h pins s σ H _ I hw) fun v s1 ⟨x, H1, I1, r1, q1⟩ => ?_) (he _)
  obtain ⟨d, rfl, q⟩ := q1
  cases r1
  exact wpAny_truthy_bool ⟨H1, I1, q⟩
variable {tA tB' : TT} {rest : List Expr}
def tAnd (t u : TT) : TT := fun σ H Q => t σ H fun c H1 => if c = true then u σ H1 Q else Q false H1
def tOr (t u : TT) : TT := fun σ H Q => t σ H fun c H1 => if c = true then Q true H1 else u σ H1 Q
def tNot (t : TT) : TT := fun σ H Q => t σ H fun c H1 => Q (!c) H1
theorem zo3 (ha : PT X a tA) : PW X (.BoolOp .And [a] pos) tA := by
  intro wh pins s σ H Q I h
  refine isTrue_and (thn (ha pins s σ H Q I h) fun c s1 e => ?_)
  cases c with
  | true => exact isTrue_and_nil e
  | false => exact e
theorem zb9 (ha : PT X a tA) : PW X (.BoolOp .Or [a] pos) tA := by
  intro wh pins s σ H Q I h
  refine isTrue_or (thn (ha pins s σ H Q I h) fun c s1 e => ?_)
  cases c with
  | false => exact isTrue_or_nil e
  | true => exact e
theorem zqk (ha : PT X a tA) (hb : PW X (.BoolOp .And (b :: rest) pos) tB') : PW X (.BoolOp .And (a :: b :: rest) pos) (tAnd tA tB') := by
  intro wh pins s σ H Q I h
  refine isTrue_and (thn (ha pins s σ H _ I h) fun c s1 ⟨H1, I1, q1⟩ => ?_)
  cases c with
  | true => exact hb wh pins s1 σ H1 Q I1 q1
  | false => exact ⟨H1, I1, q1⟩
theorem zcz (ha : PT X a tA) (hb : PW X (.BoolOp .Or (b :: rest) pos) tB') : PW X (.BoolOp .Or (a :: b :: rest) pos) (tOr tA tB') := by
  intro wh pins s σ H Q I h
  refine isTrue_or (thn (ha pins s σ H _ I h) fun c s1 ⟨H1, I1, q1⟩ => ?_)
  cases c with
  | true => exact ⟨H1, I1, q1⟩
  | false => exact hb wh pins s1 σ H1 Q I1 q1
theorem zbx (ha : PT X a tA) : PT X (.UnaryOp .Not a pos) (tNot tA) := by
  intro pins s σ H Q I h
  exact isTrue_not (ha pins s σ H (fun c H1 => Q (!c) H1) I h)
def tAndV (ta tb : TE) : TE := fun σ H Q => ta σ H fun x H1 => ∃ c, x = .bl c ∧ if c = true then tb σ H1 Q else Q (.bl false) H1
def tOrV (ta tb : TE) : TE := fun σ H Q => ta σ H fun x H1 => ∃ c, x = .bl c ∧ if c = true then Q (.bl true) H1 else tb σ H1 Q
def tNotV (ta : TE) : TE := fun σ H Q => ta σ H fun x H1 => ∃ c, x = .bl c ∧ Q (.bl (!c)) H1
theorem zbi {op} {t : TE} (h : PE X a t) : PE X (.BoolOp op [a] pos) t := fun pins s σ H Q I hw => BoolOp_one (h pins s σ H Q I hw)
theorem zbo (ha : PE X a ta) (hb : PE X (.BoolOp .And (b :: rest) pos) tb) : PE X (.BoolOp .And (a :: b :: rest) pos) (tAndV ta tb) := by
  intro pins s σ H Q I h
  refine BoolOp_and (thn (ha pins s σ H _ I h) fun v s1 ⟨x, H1, I1, r1, q1⟩ => ?_)
  obtain ⟨c, rfl, q1⟩ := q1
  cases r1
  refine wpAny_truthy_bool ?_
  cases c with
  | true => exact hb pins s1 σ H1 Q I1 q1
  | false => exact ⟨.bl false, H1, I1, rfl, q1⟩
theorem zmv (ha : PE X a ta) (hb : PE X (.BoolOp .Or (b :: rest) pos) tb) : PE X (.BoolOp .Or (a :: b :: rest) pos) (tOrV ta tb) := by
  intro pins s σ H Q I h
  refine BoolOp_or (thn (ha pins s σ H _ I h) fun v s1 ⟨x, H1, I1, r1, q1⟩ => ?_)
  obtain ⟨c, rfl, q1⟩ := q1
  cases r1
  refine wpAny_truthy_bool ?_
  cases c with
  | false => exact hb pins s1 σ H1 Q I1 q1
  | true => exact ⟨.bl true, H1, I1, rfl, q1⟩
theorem zkj (ha : PE X a ta) : PE X (.UnaryOp .Not a pos) (tNotV ta) := by
  intro pins s σ H Q I h
  refine UnaryOp_ (thn (ha pins s σ H _ I h) fun v s1 ⟨x, H1, I1, r1, q1⟩ => ?_)
  obtain ⟨c, rfl, q1⟩ := q1
  cases r1
  exact not_of (wpAny_truthy_bool ⟨.bl (!c), H1, I1, rfl, q1⟩)
def tIf (t : TT) (ta tb : TE) : TE := fun σ H Q => t σ H fun c H1 => if c = true then ta σ H1 Q else tb σ H1 Q
theorem zcl {c : Expr} (hc : PT X c tA) (ha : PE X a ta) (hb : PE X b tb) : PE X (.IfExp c a b pos) (tIf tA ta tb) := by
  intro pins s σ H Q I h
  refine wpAny_IfExp (thn (hc pins s σ H _ I h) fun d s1 ⟨H1, I1, q1⟩ => ?_)
  cases d with
  | true => exact ha pins s1 σ H1 Q I1 q1
  | false => exact hb pins s1 σ H1 Q I1 q1
end
def SqL (K : PySem.W.Frag) (H : Hp) (a : Addr) (xs : List V) : Prop :=
  Rd H a (.lst xs) ∨
    ∃ (o : Obj) (its : Array Value) (n : Nat), K.lookup a = some o ∧ o.cls = .type "list" ∧ o.dict = none ∧ o.data = .seq its n ∧ its.size ≤ sizeLine ∧ Vals xs its.toList
def SqT (K : PySem.W.Frag) (H : Hp) (a : Addr) (xs : List V) : Prop :=
  Rd H a (.tup xs) ∨
    ∃ (o : Obj) (its : Array Value) (n : Nat), K.lookup a = some o ∧ o.cls = .type "tuple" ∧ o.data = .seq its n ∧ its.size ≤ sizeLine ∧ Vals xs its.toList
def absV : Value → Option V
  | .none => some .non
  | .bool b => some (.bl b)
  | .int i _ => some (.int i)
  | .str x _ => some (.str x)
  | .bytes b _ => some (.byt b)
  | .float b _ => some (.flt b)
  | .ref a => some (.ref a)
  | .type n => some (.ty n)
  | _ => none
theorem RelV.abs {x : V} {u : Value} (r : RelV x u) : absV u = some x := by
  cases x with
  | non => cases r; rfl
  | bl _ => cases r; rfl
  | int _ => obtain ⟨t, rfl⟩ := r; rfl
  | str _ => obtain ⟨t, rfl⟩ := r; rfl
  | byt _ => obtain ⟨t, rfl⟩ := r; rfl
  | flt _ => obtain ⟨t, rfl⟩ := r; rfl
  | ref _ => cases r; rfl
  | ty _ => cases r; rfl
theorem RelV.inj {x y : V} {u : Value} (r : RelV x u) (q : RelV y u) : x = y := Option.some.inj (r.abs.symm.trans q.abs)
theorem Vals.inj : ∀ {xs ys : List V} {us : List Value}, Vals xs us → Vals ys us → xs = ys
  | _, _, _, .nil, .nil => rfl
  | _, _, _, .cons r t, .cons r' t' => by rw [r.inj r', Vals.inj t t']
section
variable {X : Cx} {pins : List (Addr × Obj)} {σ : St} {H : Hp} {s : Shared} {a : Addr} {xs ys : List V}
theorem SqL.of {K : PySem.W.Frag} (h : H a = some (.lst xs)) : SqL K H a xs := .inl (.inl h)
theorem SqT.of {K : PySem.W.Frag} (h : H a = some (.tup xs)) : SqT K H a xs := .inl (.inl h)
theorem Inv.list (I : Inv X pins σ H s) (h : SqL X.K H a xs) : ∃ its : List Value, Vals xs its ∧ PlainL s.heap a its.toArray ∧ xs.length ≤ sizeLine := by
  rcases h with h | ⟨o, its, n, hk, hc, hd, hs, hz, r⟩
  · obtain ⟨z, its, n, r, e⟩ := h.ok I.hok
    exact ⟨its, r, ⟨_, n, e, rfl, rfl, rfl⟩, z⟩
  · refine ⟨its.toList, r, ⟨o, n, I.kIn a o hk, hc, hd, by simpa using hs⟩, ?_⟩
    have e := r.length
    simp only [Array.length_toList] at e
    omega
theorem Inv.tuple (I : Inv X pins σ H s) (h : SqT X.K H a xs) : ∃ its : List Value, Vals xs its ∧ IsTup s.heap a its.toArray ∧ xs.length ≤ sizeLine := by
  rcases h with h | ⟨o, its, n, hk, hc, hs, hz, r⟩
  · obtain ⟨z, its, r, p⟩ := h.ok I.hok
    exact ⟨its, r, p, z⟩
  · refine ⟨its.toList, r, ⟨o, I.kIn a o hk, hc, n, by simpa using hs⟩, ?_⟩
    have e := r.length
    simp only [Array.length_toList] at e
    omega
theorem Inv.list_inj (I : Inv X pins σ H s) (h : SqL X.K H a xs) (h' : SqL X.K H a ys) : xs = ys := by
  obtain ⟨its, r, ⟨o, n, e, _, _, d⟩, _⟩ := I.list h
  obtain ⟨its', r', ⟨o', n', e', _, _, d'⟩, _⟩ := I.list h'
  rw [e] at e'; cases e'
  rw [d] at d'
  injection d' with d1 _
  have : its = its' := by simpa using congrArg Array.toList d1
  subst this
  exact r.inj r'
theorem Inv.tuple_inj (I : Inv X pins σ H s) (h : SqT X.K H a xs) (h' : SqT X.K H a ys) : xs = ys := by
  obtain ⟨its, r, ⟨o, e, _, n, d⟩, _⟩ := I.tuple h
  obtain ⟨its', r', ⟨o', e', _, n', d'⟩, _⟩ := I.tuple h'
  rw [e] at e'; cases e'
  rw [d] at d'
  injection d' with d1 _
  have : its = its' := by simpa using congrArg Array.toList d1
  subst this
  exact r.inj r'
end
abbrev Cx.wish (X : Cx) (E : Value → Shared → Prop) : Cx := { X with xe := E }
abbrev Cx.nox (X : Cx) : Cx := X.wish fun _ _ => False
theorem Cx.Ok.wish {X : Cx} (ok : X.Ok) (E : Value → Shared → Prop) : (X.wish E).Ok :=
  ⟨ok.mod, ok.kind, ok.glob, ok.blt, ok.above, ok.inj, ok.has, ok.cab, ok.hd, ok.frames, ok.stk, ok.exf, ok.bs, ok.bsz, ok.noex, ok.exfs, ok.funs, ok.frf⟩
theorem Cx.Ok.unwish {X : Cx} {E : Value → Shared → Prop} (ok : (X.wish E).Ok) : X.Ok :=
  ⟨ok.mod, ok.kind, ok.glob, ok.blt, ok.above, ok.inj, ok.has, ok.cab, ok.hd, ok.frames, ok.stk, ok.exf, ok.bs, ok.bsz, ok.noex, ok.exfs, ok.funs, ok.frf⟩
section
variable {X : Cx} {pins : List (Addr × Obj)} {σ : St} {H : Hp} {s : Shared} {E : Value → Shared → Prop}
theorem Inv.wish (I : Inv X pins σ H s) (E : Value → Shared → Prop) : Inv (X.wish E) pins σ H s := ⟨I.ok.wish E, I.os, I.bare, I.base, I.loc, I.cell, I.free, I.freeC, I.pin, I.hok, I.len⟩
theorem Inv.unwish (I : Inv (X.wish E) pins σ H s) : Inv X pins σ H s := ⟨I.ok.unwish, I.os, I.bare, I.base, I.loc, I.cell, I.free, I.freeC, I.pin, I.hok, I.len⟩
theorem SP.unwish {D : Ends} {f : Flow} {s' : Shared} (h : SP (X.wish E) pins D f s') : SP X pins D f s' := by
  cases f with
  | next => obtain ⟨σ', H', I, q⟩ := h; exact ⟨σ', H', I.unwish, q⟩
  | brk => obtain ⟨σ', H', I, q⟩ := h; exact ⟨σ', H', I.unwish, q⟩
  | cont => obtain ⟨σ', H', I, q⟩ := h; exact ⟨σ', H', I.unwish, q⟩
  | ret u => obtain ⟨v, σ', H', I, r, q⟩ := h; exact ⟨v, σ', H', I.unwish, r, q⟩
theorem PSs.nox {st : List Stmt} {t : TS} (h : PSs X.nox st t) : PSs X st t := fun pins s σ H D I hw =>
  wpAny_mono (h pins s σ H D (I.wish _) hw) (fun _ _ q => q.unwish) fun _ _ z => False.elim z
end
section
variable {X : Cx} {st : Stmt} {rest : List Stmt} {t u : TS} {e : Expr} {te : TE} {pos : Pos}
def tNext : TS := fun D σ H => D.nx σ H
def tSeq (t u : TS) : TS := fun D σ H => t { D with nx := u D } σ H
theorem zag : PSs X [] tNext := fun _ _ σ H _ I h => wpAny_execs_nil ⟨σ, H, I, h⟩
theorem zac (h1 : PS X st t) (h2 : PSs X rest u) : PSs X (st :: rest) (tSeq t u) := by
  intro pins s σ H D I h
  refine wpAny_execs_cons (thn (h1 pins s σ H { D with nx := u D } I h) fun f s1 q => ?_)
  cases f with
  | next =>
    obtain ⟨σ', H', I', q⟩ := q
    exact h2 pins s1 σ' H' D I' q
  | ret v => exact q
  | brk => exact q
  | cont => exact q
theorem zad (h1 : PS X st t) : PSs X [st] t := by
  intro pins s σ H D I h
  refine wpAny_execs_cons (thn (h1 pins s σ H D I h) fun f s1 q => ?_)
  cases f with
  | next => exact wpAny_execs_nil q
  | ret v => exact q
  | brk => exact q
  | cont => exact q
def tBreak : TS := fun D σ H => D.bk σ H
def tCont : TS := fun D σ H => D.ct σ H
theorem Inv.quiet {pins : List (Addr × Obj)} {σ : St} {H : Hp} {s : Shared} (I : Inv X pins σ H s) : interactive X.env = false := by simp [interactive, I.ok.kind]
def tDrop (te : TE) : TS := fun D σ H => te σ H fun _ H1 => D.nx σ H1
theorem zbu (he : PE X e te) (hs : swapsWith e none pos.line X.env = pure false := by rfl) : PS X (.Expr e pos) (tDrop te) := by
  intro pins s σ H D I h
  exact wpAny_Expr_any (thn (he pins s σ H _ I h) fun v s1 ⟨x, H1, I1, r1, q1⟩ => ⟨σ, H1, I1, q1⟩) I.quiet hs
def tRet (te : TE) : TS := fun D σ H => te σ H D.rt
theorem zah (he : PE X e te) : PS X (.Return (some e) pos) (tRet te) := by
  intro pins s σ H D I h
  exact wpAny_Return_some (thn (he pins s σ H _ I h) fun v s1 ⟨x, H1, I1, r1, q1⟩ => ⟨x, σ, H1, I1, r1, q1⟩)
def tRetN : TS := fun D _ H => D.rt .non H
def tIfS (c : TT) (t u : TS) : TS := fun D σ H => c σ H fun b H1 => if b = true then t D σ H1 else u D σ H1
theorem zar {c : Expr} {a b : List Stmt} {tc : TT} (hc : PT X c tc) (ha : PSs X a t) (hb : PSs X b u) : PS X (.If c a b pos) (tIfS tc t u) := by
  intro pins s σ H D I h
  refine wpAny_If (thn (hc pins s σ H _ I h) fun d s1 ⟨H1, I1, q1⟩ => ?_)
  cases d with
  | true => exact ha pins s1 σ H1 D I1 q1
  | false => exact hb pins s1 σ H1 D I1 q1
def tNever : TS := fun _ _ _ => False
theorem zcj : PS X st tNever := fun _ _ _ _ _ _ h => h.elim
theorem za0 {sts : List Stmt} : PSs X sts tNever := fun _ _ _ _ _ _ h => h.elim
end
abbrev TG := V → St → Hp → (St → Hp → Prop) → Prop
abbrev TGs := List V → St → Hp → (St → Hp → Prop) → Prop
def PG (X : Cx) (target : Expr) (t : TG) : Prop :=
  ∀ (pins : List (Addr × Obj)) (s : Shared) (σ : St) (H : Hp) (v : V) (u : Value) (Q : St → Hp → Prop), Inv X pins σ H s → RelV v u → t v σ H Q →
    wpAny (model X.prog X.w) X.A (assign target X.env u) (fun _ s' => ∃ σ' H', Inv X pins σ' H' s' ∧ Q σ' H') X.xe s
def PGs (X : Cx) (ts : List Expr) (t : TGs) : Prop :=
  ∀ (pins : List (Addr × Obj)) (s : Shared) (σ : St) (H : Hp) (vs : List V) (us : List Value) (Q : St → Hp → Prop), Inv X pins σ H s → Vals vs us → t vs σ H Q →
    wpAny (model X.prog X.w) X.A (assignInOrder ((assignEach ts X.env).map (·.2)) us) (fun _ s' => ∃ σ' H', Inv X pins σ' H' s' ∧ Q σ' H') X.xe s
abbrev TSet := V → V → V → Hp → (Hp → Prop) → Prop
abbrev TIp := V → V → Hp → VK → Prop
section
variable {X : Cx} {pos : Pos}
def gName (i : Nat) : TG := fun v σ H Q => Q (σ.set i (some v)) H
theorem za1 {i : Nat} {x : Str} (hN : X.N.Nodup) (hi : X.N[i]? = some x) (hx : Loc X.env.scope x) (hf : X.fn x = true ∨ X.env.scope.names.lookup x = some .local := by first | exact .inl rfl | exact .inr rfl | assumption) : PG X (.Name x pos) (gName i) := by
  intro pins s σ H v u Q I r h
  exact wpAny_assign_Name (ze3 I hN hi hx r (fun s' I' => ⟨_, H, I', h⟩) hf)
def gNil : TGs := fun vs σ H Q => vs = [] ∧ Q σ H
def gCons (t : TG) (u : TGs) : TGs := fun vs σ H Q => ∃ v r, vs = v :: r ∧ t v σ H fun σ' H' => u r σ' H' Q
theorem zkg : PGs X [] gNil := by
  intro pins s σ H vs us Q I r h
  obtain ⟨e, h⟩ := h
  subst e
  cases r
  exact assignInOrder_nil ⟨σ, H, I, h⟩
theorem zdm {e : Expr} {es : List Expr} {t : TG} {u : TGs} (h1 : PG X e t) (h2 : PGs X es u)
    (hs : (assignEach (e :: es) X.env).map (·.2) = assign e X.env :: (assignEach es X.env).map (·.2) := by rfl) : PGs X (e :: es) (gCons t u) := by
  intro pins s σ H vs us Q I r h
  obtain ⟨v, vr, e1, h⟩ := h
  subst e1
  cases r with
  | cons r rr =>
    rw [hs]
    refine assignInOrder_cons (thn (h1 pins s σ H _ _ _ I r h) fun _ s1 ⟨σ1, H1, I1, q1⟩ => ?_)
    exact h2 pins s1 σ1 H1 _ _ Q I1 rr q1
def gTup (K : PySem.W.Frag) (n : Nat) (t : TGs) : TG := fun v σ H Q => ∃ a xs, v = .ref a ∧ SqT K H a xs ∧ xs.length = n ∧ t xs σ H Q
theorem zqp {es : List Expr} {k : Nat} {t : TGs} {n : Nat} (hc : X.calm = true) (h : PGs X es t)
    (hn : (assignEach es X.env).length = n := by rfl) (hst : (assignEach es X.env).findIdx? (·.1) = none := by rfl) : PG X (.Tuple es k pos) (gTup X.K n t) := by
  intro pins s σ H v u Q I r hw
  obtain ⟨a, xs, e1, hq, hl, hw⟩ := hw
  subst e1
  cases r
  obtain ⟨its, rv, ht, hz⟩ := I.tuple hq
  refine assign_Tuple_tuple (I.ok.hd hc) ht (by simp [hn, ← hl, rv.length]) hst fun h' hx => ?_
  have I1 : Inv X pins σ H { s with heap := h' } := I.kept (t' := s.toks) fun b o e => hx b o (Nat.ne_of_lt (Heap.lt_size e)) e
  exact h pins _ σ H xs _ Q I1 (by simpa using rv) hw
def gSub (to ti : TE) (t : TSet) : TG := fun v σ H Q => to σ H fun o H1 => ti σ H1 fun i H2 => t o i v H2 fun H3 => Q σ H3
def tAsg (te : TE) (g : TG) : TS := fun D σ H => te σ H fun x H1 => g x σ H1 D.nx
theorem zau {i : Nat} {x : Str} {e : Expr} {te : TE} {pos' : Pos} (hN : X.N.Nodup) (hi : X.N[i]? = some x) (hx : Loc X.env.scope x) (he : PE X e te) (hs : swapsWith e (some (.Name x pos')) pos.line X.env = pure false := by rfl) (hf : X.fn x = true ∨ X.env.scope.names.lookup x = some .local := by first | exact .inl rfl | exact .inr rfl | assumption) :
    PS X (.Assign [.Name x pos'] e pos) (tAsg te (gName i)) := by
  intro pins s σ H D I h
  refine wpAny_Assign_Name (thn (he pins s σ H _ I h) fun v s1 ⟨y, H1, I1, r1, q1⟩ => ?_) hs
  exact ze3 I1 hN hi hx r1 (fun s2 I2 => ⟨_, H1, I2, q1⟩) hf
def tPar (i j : Nat) (ta : TA) : TS := fun D σ H => ta σ H fun vs H1 => ∃ v w, vs = [v, w] ∧ D.nx ((σ.set i (some v)).set j (some w)) H1
def tAug (i : Nat) (te : TE) (ti : TIp) : TS := fun D σ H => ∃ x, σ[i]? = some (some x) ∧ te σ H fun y H1 => ti x y H1 fun z H2 => D.nx (σ.set i (some z)) H2
def ipI (f : Int → Int → Int) : TIp := fun x y H Q => ∃ i j, x = .int i ∧ y = .int j ∧ Q (.int (f i j)) H
end
section
variable {X : Cx} {pos : Pos}
def tWhile (c : TT) (tb : TS) : TS := fun D σ H => ∃ W : Nat → St → Hp → Prop, (∃ m, W m σ H) ∧ ∀ m σ H, W m σ H →
  c σ H fun b H1 => if b = true then ∃ N : St → Hp → Prop, (∀ σ' H', N σ' H' → ∃ m', m' < m ∧ W m' σ' H') ∧ tb { D with nx := N, ct := N, bk := D.nx } σ H1 else D.nx σ H1
theorem zmr {c : Expr} {body : List Stmt} {tc : TT} {tb : TS} (hp : PassesOwn (model X.prog X.w) X.A X.env X.xe) (hc : PT X c tc) (hb : PSs X body tb) : PS X (.While c body [] pos) (tWhile tc tb) := by
  intro pins s σ H D I h
  obtain ⟨W, ⟨m0, w0⟩, turn⟩ := h
  refine wpAny_While (codeAny_whileLoop (fun n s' => ∃ σ' H', Inv X pins σ' H' s' ∧ W n σ' H') ?_ m0 ⟨σ, H, I, w0⟩)
  rintro n s1 ⟨σ1, H1, I1, w1⟩
  refine wpAny_passesOwn hp (thn (hc pins s1 σ1 H1 _ I1 (turn n σ1 H1 w1)) fun b s2 ⟨H2, I2, q2⟩ => ?_)
  cases b with
  | true =>
    obtain ⟨N, hN, q2⟩ := q2
    rw [if_pos rfl]
    refine wpAny_passesOwn hp (thn (hb pins s2 σ1 H2 _ I2 q2) fun f s3 q3 => ?_)
    cases f with
    | next =>
      obtain ⟨σ3, H3, I3, n3⟩ := q3
      obtain ⟨m', hm, w3⟩ := hN σ3 H3 n3
      exact ⟨m', hm, σ3, H3, I3, w3⟩
    | cont =>
      obtain ⟨σ3, H3, I3, n3⟩ := q3
      obtain ⟨m', hm, w3⟩ := hN σ3 H3 n3
      exact ⟨m', hm, σ3, H3, I3, w3⟩
    | brk => exact q3
    | ret v => exact q3
  | false =>
    rw [if_neg Bool.false_ne_true]
    exact wpAny_execs_nil ⟨σ1, H2, I2, q2⟩
end
structure It where
  go : Nat → Hp → Prop
  yld : Nat → Hp → V → Hp → Prop
  stop : Nat → Hp → Prop
def FpOk (X : Cx) (pins : List (Addr × Obj)) (H : Hp) (b : Addr) : Prop :=
  H b = none ∧ b ≠ X.env.locals ∧ b ∉ X.fs ∧ (b ∈ X.ex ∨ X.s₀.heap.objs.size ≤ b) ∧ (∀ x c, X.env.cells.lookup x = some c → c ≠ b) ∧ ∀ p ∈ X.pn ++ pins, p.1 ≠ b
theorem Inv.fpOk {X : Cx} {pins : List (Addr × Obj)} {σ : St} {H H' : Hp} {s : Shared} {b : Addr} (I : Inv X pins σ H s) (hb : s.heap.objs.size ≤ b) (hn : H' b = none) : FpOk X pins H' b := by
  refine ⟨hn, Nat.ne_of_gt (Nat.lt_of_lt_of_le I.lt hb), I.nofs hb, .inr (Nat.le_trans I.sz hb), fun x c e z => ?_, fun p hp z => ?_⟩
  · obtain ⟨v, q⟩ := I.cell x c e
    exact absurd (Nat.lt_of_lt_of_le q.lt (by rw [z]; exact hb)) (Nat.lt_irrefl _)
  · exact absurd (Nat.lt_of_lt_of_le (Heap.lt_size (I.pin p hp).1) (by rw [z]; exact hb)) (Nat.lt_irrefl _)
structure Turn (P : Program) (w : World) (K : PySem.W.Frag) (tg : Expr) (J : It) (fp : List Addr) (it : Addr) (tn : Nat → Heap → Prop) : Prop where
  mem : it ∈ fp
  obj : ∀ i h, tn i h → ∀ b ∈ fp, ∃ o, h.get? b = some o ∧ ∀ v, o.data ≠ .cell v
  keep : ∀ i h h', tn i h → (∀ b ∈ fp, ∀ o, h.get? b = some o → h'.get? b = some o) → tn i h'
  item : ∀ (X : Cx), X.prog = P → X.w = w → X.K = K → X.calm = true → ∀ (i : Nat) (pins : List (Addr × Obj)) (s : Shared) (σ : St) (H : Hp) (E : Value → Shared → Prop), Inv X pins σ H s → (∀ b ∈ fp, FpOk X pins H b) → tn i s.heap → J.go i H →
    wpAny (model P w) X.A (pyNext (.ref it)) (fun r s1 => ∃ u, r = some u ∧
      wpAny (model P w) X.A (letOwnedTupleGo tg (.ref it) u) (fun _ s2 => ∃ x H', Inv X pins σ H' s2 ∧ RelV x u ∧ J.yld i H x H' ∧ tn (i + 1) s2.heap ∧ ∀ b ∈ fp, H' b = none) E s1) E s
  done : ∀ (X : Cx), X.prog = P → X.w = w → X.K = K → X.calm = true → ∀ (i : Nat) (pins : List (Addr × Obj)) (s : Shared) (σ : St) (H : Hp) (E : Value → Shared → Prop), Inv X pins σ H s → (∀ b ∈ fp, FpOk X pins H b) → tn i s.heap → J.stop i H →
    wpAny (model P w) X.A (pyNext (.ref it)) (fun r s1 => r = none ∧ Inv X pins σ H s1) E s
  self : ∀ (A : Around) (i : Nat) (s : Shared) (Q : Value → Shared → Prop) (E : Value → Shared → Prop), tn i s.heap → Q (.ref it) s → wpAny (model P w) A (pyIter (.ref it)) Q E s
abbrev TI := St → Hp → (It → Hp → Prop) → Prop
def PIE (X : Cx) (pins : List (Addr × Obj)) (σ : St) (tg : Expr) (R : It → Hp → Prop) (itv : Value) (s2 : Shared) : Prop :=
  ∃ (it : Addr) (fp : List Addr) (tn : Nat → Heap → Prop) (J : It) (H' : Hp), itv = .ref it ∧ Inv X pins σ H' s2 ∧ Turn X.prog X.w X.K tg J fp it tn ∧ tn 0 s2.heap ∧ (∀ b ∈ fp, FpOk X pins H' b) ∧ R J H'
def PI (X : Cx) (tg iter : Expr) (wi : TI) : Prop :=
  ∀ (pins : List (Addr × Obj)) (s : Shared) (σ : St) (H : Hp) (R : It → Hp → Prop), Inv X pins σ H s → wi σ H R →
    wpAny (model X.prog X.w) X.A (eval iter X.env) (fun v s1 => wpAny (model X.prog X.w) X.A (pyIter v) (PIE X pins σ tg R) X.xe s1) X.xe s
theorem zno {M : Model} {A : Around} {E : Value → Shared → Prop} {s : Shared} {tg : Expr} {it : Addr} {u : Value} {o : Obj} {n : String} {vs : Array Value} {Q : Unit → Shared → Prop} (ho : s.heap.get? it = some o) (hc : o.cls = .type n) (hd : o.data = .fields vs)
    (hn : ["enumerate", "zip", "dict_itemiterator", "dict_reverseitemiterator", "odict_iterator", "itertools.zip_longest", "itertools.pairwise"].contains n = false) (hQ : Q () s) : wpAny M A (letOwnedTupleGo tg (.ref it) u) Q E s := by
  unfold letOwnedTupleGo
  cases tg <;> first
    | exact wpAny_pure hQ
    | (cases u <;> first
        | exact wpAny_pure hQ
        | (refine wpAny_bind (wpAny_load ho ?_)
           rw [hc, hd]
           show wpAny M A (if (["enumerate", "zip", "dict_itemiterator", "dict_reverseitemiterator", "odict_iterator", "itertools.zip_longest", "itertools.pairwise"].contains n && vs[0]? == some (rawInt _)) = true then _ else _) Q E s
           rw [if_neg (by intro h; rw [hn, Bool.false_and] at h; cases h)]
           exact wpAny_pure hQ))
def Itl (K : PySem.W.Frag) (a : Addr) : It :=
  ⟨fun i H => ∃ xs x, SqL K H a xs ∧ xs[i]? = some x, fun i H x H' => H' = H ∧ ∀ xs, SqL K H a xs → xs[i]? = some x, fun i H => ∃ xs, SqL K H a xs ∧ xs.length ≤ i⟩
def Itt (K : PySem.W.Frag) (a : Addr) : It :=
  ⟨fun i H => ∃ xs x, SqT K H a xs ∧ xs[i]? = some x, fun i H x H' => H' = H ∧ ∀ xs, SqT K H a xs → xs[i]? = some x, fun i H => ∃ xs, SqT K H a xs ∧ xs.length ≤ i⟩
def Itr (lo : Int) (n : Nat) : It := ⟨fun i _ => i < n, fun i H x H' => H' = H ∧ x = .int (lo + i), fun i _ => n ≤ i⟩
theorem zjt {P : Program} {w : World} {K : PySem.W.Frag} {tg : Expr} (a it : Addr) : Turn P w K tg (Itl K a) [it] it (fun i h => h.IsListIter it a i) where
  mem := by simp
  obj := fun i h st b hb => by
    have e : b = it := by simpa using hb
    subst e
    obtain ⟨o, e, c, d⟩ := st
    exact ⟨o, e, fun v z => by rw [d] at z; cases z⟩
  keep := fun i h h' st k => st.at fun o e => k it (by simp) o e
  item := by
    intro X hP hw hK hc i pins s σ H E I hf st hg
    subst hP hw hK
    obtain ⟨xs, x, hq, hx⟩ := hg
    obtain ⟨its, rv, p, hz⟩ := I.list hq
    obtain ⟨u, hu, ru⟩ := rv.get hx
    obtain ⟨f0, f1, f2, f3, f4, f5⟩ := hf it (by simp)
    refine wpAny_pyNext_list_item st p.isList (x := u) (by simpa using hu) fun h' st' sb => ?_
    have I1 : Inv X pins σ H { s with heap := h' } := I.turned (t' := s.toks) (fun b o hb e => (sb.2 b hb).trans e) f0 f1 f3 f4 f5
    obtain ⟨o, e, c, d⟩ := id st'
    exact ⟨u, rfl, zno (s := { s with heap := h' }) e c d (by decide) ⟨x, H, I1, ru, ⟨rfl, fun ys hy => by rw [I.list_inj hy hq]; exact hx⟩, st', fun b hb => (hf b hb).1⟩⟩
  done := by
    intro X hP hw hK hc i pins s σ H E I hf st hg
    subst hP hw hK
    obtain ⟨xs, hq, hx⟩ := hg
    obtain ⟨its, rv, p, hz⟩ := I.list hq
    obtain ⟨f0, f1, f2, f3, f4, f5⟩ := hf it (by simp)
    have hl := rv.length
    exact wpAny_pyNext_list_end (I.ok.hd hc) st p.isList (by simp; omega) fun h' eb => ⟨rfl, I.turned (t' := s.toks) (fun b o hb e => eb b o hb e) f0 f1 f3 f4 f5⟩
  self := fun _ _ _ _ _ st h => wpAny_pyIter_listiter st h
theorem ziw {P : Program} {w : World} {K : PySem.W.Frag} {tg : Expr} (a it : Addr) : Turn P w K tg (Itt K a) [it] it (fun i h => h.IsTupleIter it a i) where
  mem := by simp
  obj := fun i h st b hb => by
    have e : b = it := by simpa using hb
    subst e
    obtain ⟨o, e, c, d⟩ := st
    exact ⟨o, e, fun v z => by rw [d] at z; cases z⟩
  keep := fun i h h' st k => st.at fun o e => k it (by simp) o e
  item := by
    intro X hP hw hK hc i pins s σ H E I hf st hg
    subst hP hw hK
    obtain ⟨xs, x, hq, hx⟩ := hg
    obtain ⟨its, rv, p, hz⟩ := I.tuple hq
    obtain ⟨u, hu, ru⟩ := rv.get hx
    obtain ⟨f0, f1, f2, f3, f4, f5⟩ := hf it (by simp)
    refine wpAny_pyNext_tuple_item st (show s.heap.IsTuple a its.toArray from p) (x := u) (by simpa using hu) fun h' st' sb => ?_
    have I1 : Inv X pins σ H { s with heap := h' } := I.turned (t' := s.toks) (fun b o hb e => (sb.2 b hb).trans e) f0 f1 f3 f4 f5
    obtain ⟨o, e, c, d⟩ := id st'
    exact ⟨u, rfl, zno (s := { s with heap := h' }) e c d (by decide) ⟨x, H, I1, ru, ⟨rfl, fun ys hy => by rw [I.tuple_inj hy hq]; exact hx⟩, st', fun b hb => (hf b hb).1⟩⟩
  done := by
    intro X hP hw hK hc i pins s σ H E I hf st hg
    subst hP hw hK
    obtain ⟨xs, hq, hx⟩ := hg
    obtain ⟨its, rv, p, hz⟩ := I.tuple hq
    obtain ⟨f0, f1, f2, f3, f4, f5⟩ := hf it (by simp)
    have hl := rv.length
    exact wpAny_pyNext_tuple_end (I.ok.hd hc) st (show s.heap.IsTuple a its.toArray from p) (by simp; omega) fun h' eb => ⟨rfl, I.turned (t' := s.toks) (fun b o hb e => eb b o hb e) f0 f1 f3 f4 f5⟩
  self := fun _ _ _ _ _ st h => wpAny_pyIter_tupleiter st h
theorem zix {P : Program} {w : World} {K : PySem.W.Frag} {tg : Expr} (it : Addr) (lo : Int) (n : Nat) : Turn P w K tg (Itr lo n) [it] it (fun i h => IsRangeIter h it (lo + (i : Nat) * 1) ((n : Int) - (i : Nat)) 1) where
  mem := by simp
  obj := fun i h st b hb => by
    have e : b = it := by simpa using hb
    subst e
    exact ⟨_, st, fun v z => by
      have z' : Data.fields _ = Data.cell v := z
      cases z'⟩
  keep := fun i h h' st k => k it (by simp) _ st
  item := by
    intro X hP hw hK hc i pins s σ H E I hf st hg
    subst hP hw hK
    obtain ⟨f0, f1, f2, f3, f4, f5⟩ := hf it (by simp)
    have W := Walks.range (prog := X.prog) (w := X.w) (I.ok.hd hc) it lo 1 n
    refine W.item i s _ _ hg st fun v h' tk hv st' kk => ?_
    obtain ⟨t, rfl⟩ := hv
    have I1 : Inv X pins σ H { s with heap := h', toks := tk } := I.turned (fun b o hb e => kk b o (by simpa using hb) e) f0 f1 f3 f4 f5
    refine ⟨_, rfl, zno (s := { s with heap := h', toks := tk }) (n := "range_iterator") st' rfl rfl (by decide) ⟨.int (lo + i), H, I1, ⟨t, ?_⟩, ⟨rfl, rfl⟩, st', fun b hb => (hf b hb).1⟩⟩
    rw [Int.mul_one]
  done := by
    intro X hP hw hK hc i pins s σ H E I hf st hg
    subst hP hw hK
    obtain ⟨f0, f1, f2, f3, f4, f5⟩ := hf it (by simp)
    exact wpAny_pyNext_range_end (I.ok.hd hc) st (by have : n ≤ i := hg; omega) fun h' eb => ⟨rfl, I.turned (t' := s.toks) (fun b o hb e => eb b o hb e) f0 f1 f3 f4 f5⟩
  self := fun _ _ _ _ _ st h => wpAny_pyIter_rangeiter st h
section
variable {X : Cx} {tg : Expr}
def iList (K : PySem.W.Frag) (tl : TE) : TI := fun σ H R => tl σ H fun x H1 => ∃ a, x = .ref a ∧ (∃ xs, SqL K H1 a xs) ∧ R (Itl K a) H1
def iTup (K : PySem.W.Frag) (tl : TE) : TI := fun σ H R => tl σ H fun x H1 => ∃ a, x = .ref a ∧ (∃ xs, SqT K H1 a xs) ∧ R (Itt K a) H1
theorem zo9 {l : Expr} {tl : TE} (hl : PE X l tl) : PI X tg l (iList X.K tl) := by
  intro pins s σ H R I h
  refine thn (hl pins s σ H _ I h) fun v s1 ⟨x, H1, I1, r1, q1⟩ => ?_
  obtain ⟨a, e, ⟨xs, hq⟩, q⟩ := q1
  subst e
  cases r1
  obtain ⟨its, rv, p, hz⟩ := I1.list hq
  refine wpAny_pyIter_list p.isList ?_
  refine ⟨s1.heap.objs.size, [s1.heap.objs.size], _, _, H1, rfl, I1.kept (t' := s1.toks) fun b o e => Heap.get?_push_of_some _ e, zjt a _, ⟨_, Heap.get?_push_size _ rfl, rfl, rfl⟩, fun b hb => ?_, q⟩
  have e : b = s1.heap.objs.size := by simpa using hb
  subst e
  exact I1.fpOk (Nat.le_refl _) (I1.hok.fresh (Nat.le_refl _))
theorem zqn {l : Expr} {tl : TE} (hl : PE X l tl) : PI X tg l (iTup X.K tl) := by
  intro pins s σ H R I h
  refine thn (hl pins s σ H _ I h) fun v s1 ⟨x, H1, I1, r1, q1⟩ => ?_
  obtain ⟨a, e, ⟨xs, hq⟩, q⟩ := q1
  subst e
  cases r1
  obtain ⟨its, rv, p, hz⟩ := I1.tuple hq
  refine wpAny_pyIter_tuple (show s1.heap.IsTuple a its.toArray from p) ?_
  refine ⟨s1.heap.objs.size, [s1.heap.objs.size], _, _, H1, rfl, I1.kept (t' := s1.toks) fun b o e => Heap.get?_push_of_some _ e, ziw a _, ⟨_, Heap.get?_push_size _ rfl, rfl, rfl⟩, fun b hb => ?_, q⟩
  have e : b = s1.heap.objs.size := by simpa using hb
  subst e
  exact I1.fpOk (Nat.le_refl _) (I1.hok.fresh (Nat.le_refl _))
theorem zmo {pins : List (Addr × Obj)} {σ : St} {H : Hp} {s : Shared} {R : It → Hp → Prop} {E : Value → Shared → Prop} {lo hi : Int} {t u v : Tok} {tk : Nat} (I : Inv X pins σ H s) (h1 : -(2 ^ 62) ≤ lo) (h2 : lo < 2 ^ 62) (h3 : -(2 ^ 62) ≤ hi) (h4 : hi < 2 ^ 62)
    (q : R (Itr lo (hi - lo).toNat) H) : wpAny (model X.prog X.w) X.A (pyIter (.ref s.heap.objs.size)) (PIE X pins σ tg R) E { s with heap := s.heap.push { cls := .type "range", data := .fields #[.int lo t, .int hi u, .int 1 v] }, toks := tk } := by
  refine wpAny_pyIter_range (IsRange.new ..) (small_one h1 h2 h3 h4) ?_
  have I1 : Inv X pins σ H { s with heap := s.heap.push { cls := .type "range", data := .fields #[.int lo t, .int hi u, .int 1 v] }, toks := tk } := I.kept fun b o e => Heap.get?_push_of_some _ e
  refine ⟨(s.heap.push { cls := .type "range", data := .fields #[.int lo t, .int hi u, .int 1 v] }).objs.size, [(s.heap.push { cls := .type "range", data := .fields #[.int lo t, .int hi u, .int 1 v] }).objs.size], _, _, H, rfl,
    I1.kept (t' := tk) fun b o e => Heap.get?_push_of_some _ e, zix _ lo (hi - lo).toNat, ?_, fun b hb => ?_, q⟩
  · have e1 : lo + ((0 : Nat) : Int) * 1 = lo := by simp
    have e2 : (((hi - lo).toNat : Nat) : Int) - ((0 : Nat) : Int) = Builtin.Range.rangeSize lo hi 1 := by rw [rangeSize_one]; split <;> omega
    show IsRangeIter _ _ (lo + ((0 : Nat) : Int) * 1) ((((hi - lo).toNat : Nat) : Int) - ((0 : Nat) : Int)) 1
    rw [e1, e2]
    exact Heap.get?_push_size _ rfl
  · have e : b = (s.heap.push { cls := .type "range", data := .fields #[.int lo t, .int hi u, .int 1 v] }).objs.size := by simpa using hb
    subst e
    exact I1.fpOk (Nat.le_refl _) (I1.hok.fresh (Nat.le_refl _))
def iRng1 (ta : TA) : TI := fun σ H R => ta σ H fun vs H1 => ∃ j : Int, vs = [.int j] ∧ -(2 ^ 62) ≤ j ∧ j < 2 ^ 62 ∧ R (Itr 0 j.toNat) H1
def iRng2 (ta : TA) : TI := fun σ H R => ta σ H fun vs H1 => ∃ i j : Int, vs = [.int i, .int j] ∧ (-(2 ^ 62) ≤ i ∧ i < 2 ^ 62 ∧ -(2 ^ 62) ≤ j ∧ j < 2 ^ 62) ∧ R (Itr i (j - i).toNat) H1
theorem zb0 {a : Expr} {ta : TA} {p pos : Pos} (hg : Gl X "range") (hm : X.mg "range" = none) (ha : PA X [a] ta) (hs : starEach [a] X.env = [(false, eval a X.env)] := by rfl) : PI X tg (.Call (.Name "range" p) [a] [] pos) (iRng1 ta) := by
  intro pins s σ H R I h
  refine Call_ (zex I hg hm boot_range (PyProof.Rows.callWith_type1 (thn (ha pos pins s σ H _ I h) fun us s1 ⟨vs, H1, I1, r1, q1⟩ => ?_) hs rfl))
  obtain ⟨j, e, q1, q2, q⟩ := q1
  subst e
  cases r1 with
  | cons r rr =>
    cases rr
    obtain ⟨t, rfl⟩ := r
    exact call_range_1 (zmo I1 (by omega) (by omega) q1 q2 (by simpa using q))
def tFor (wi : TI) (g : TG) (tb : TS) : TS := fun D σ H => wi σ H fun J H1 => ∃ W : Nat → Nat → St → Hp → Prop, (∃ m, W 0 m σ H1) ∧ ∀ i m σ H, W i m σ H →
  (J.stop i H ∧ D.nx σ H) ∨ (J.go i H ∧ ∃ N : St → Hp → Prop, (∀ σ' H', N σ' H' → ∃ m', m' < m ∧ W (i + 1) m' σ' H') ∧ ∀ x H', J.yld i H x H' → g x σ H' fun σ2 H2 => tb { D with nx := N, ct := N, bk := D.nx } σ2 H2)
def pinsAt (fp : List Addr) (h : Heap) : List (Addr × Obj) := fp.filterMap fun b => (h.get? b).map fun o => (b, o)
theorem zb7 {fp : List Addr} {h : Heap} {b : Addr} {o : Obj} (hb : b ∈ fp) (e : h.get? b = some o) : (b, o) ∈ pinsAt fp h := List.mem_filterMap.mpr ⟨b, hb, by rw [e]; rfl⟩
theorem zk2 {fp : List Addr} {h : Heap} {p : Addr × Obj} (hp : p ∈ pinsAt fp h) : p.1 ∈ fp ∧ h.get? p.1 = some p.2 := by
  obtain ⟨b, hb, e⟩ := List.mem_filterMap.mp hp
  cases q : h.get? b with
  | none => rw [q] at e; cases e
  | some o =>
    rw [q] at e
    have e' : (b, o) = p := Option.some.inj e
    subst e'
    exact ⟨hb, q⟩
theorem Inv.pinned {pins : List (Addr × Obj)} {σ : St} {H : Hp} {s : Shared} {fp : List Addr} (I : Inv X pins σ H s) (hf : ∀ b ∈ fp, FpOk X pins H b) (ho : ∀ b ∈ fp, ∃ o, s.heap.get? b = some o ∧ ∀ v, o.data ≠ .cell v) : Inv X (pins ++ pinsAt fp s.heap) σ H s :=
  I.pins_of fun p hp => (List.mem_append.mp hp).elim (fun z => I.pin p (List.mem_append_right _ z)) fun z => by
    obtain ⟨hb, e⟩ := zk2 z
    obtain ⟨f0, f1, f2, _⟩ := hf p.1 hb
    obtain ⟨o, e', d⟩ := ho p.1 hb
    rw [e] at e'; cases e'
    exact ⟨e, f0, f1, f2, d⟩
theorem Inv.unpinned {pins pl : List (Addr × Obj)} {σ : St} {H : Hp} {s : Shared} (I : Inv X (pins ++ pl) σ H s) : Inv X pins σ H s := I.pins_of fun p hp => I.pin p (List.mem_append_right _ (List.mem_append_left _ hp))
theorem zdw {iter : Expr} {body : List Stmt} {wi : TI} {g : TG} {tb : TS} {pos : Pos} (hp : PassesOwn (model X.prog X.w) X.A X.env X.xe) (hc : X.calm = true) (hi : PI X tg iter wi) (hg : PG X tg g) (hb : PSs X body tb)
    (hs : ∀ x, foldedSetIterable iter X.env x = pure x := by intro _; rfl) : PS X (.For tg iter body [] pos) (tFor wi g tb) := by
  intro pins s σ H D I h
  refine wpAny_For (thn (hi pins s σ H _ I h) fun v s1 h1 => thn h1 fun itv s2 h2 => ?_) hs
  obtain ⟨it, fp, tn, J, H2, e, I2, T, st2, f2, W, ⟨m0, w0⟩, turn⟩ := h2
  subst e
  have stat : ∀ {H' : Hp}, (∀ b ∈ fp, H' b = none) → ∀ b ∈ fp, FpOk X pins H' b := fun hn b hb => ⟨hn b hb, (f2 b hb).2⟩
  refine codeAny_forLoop_any (fun n s' => ∃ i σ' H', Inv X pins σ' H' s' ∧ tn i s'.heap ∧ (∀ b ∈ fp, H' b = none) ∧ W i n σ' H') ?_ m0 ⟨0, σ, H2, I2, st2, fun b hb => (f2 b hb).1, w0⟩
  rintro n s3 ⟨i, σ3, H3, I3, st3, fr3, w3⟩
  rcases turn i n σ3 H3 w3 with ⟨stop, qn⟩ | ⟨go, N, hN, step⟩
  · refine wpAny_passesOwn hp (thn (T.done X rfl rfl rfl hc i pins s3 σ3 H3 X.xe I3 (stat fr3) st3 stop) fun r s4 ⟨hr, I4⟩ => ?_)
    subst hr
    exact wpAny_execs_nil ⟨σ3, H3, I4, qn⟩
  · refine wpAny_passesOwn hp (thn (T.item X rfl rfl rfl hc i pins s3 σ3 H3 X.xe I3 (stat fr3) st3 go) fun r s4 ⟨u, hr, h4⟩ => ?_)
    subst hr
    refine wpAny_passesOwn hp (thn h4 fun _ s5 ⟨x, H5, I5, r5, y5, st5, fr5⟩ => ?_)
    have I5' := I5.pinned (stat fr5) (T.obj _ _ st5)
    refine wpAny_passesOwn hp (thn (hg _ s5 σ3 H5 x u _ I5' r5 (step x H5 y5)) fun _ s6 ⟨σ6, H6, I6, q6⟩ => ?_)
    refine wpAny_passesOwn hp (thn (hb _ s6 σ6 H6 _ I6 q6) fun f s7 q7 => ?_)
    have again : ∀ {σ7 : St} {H7 : Hp}, Inv X (pins ++ pinsAt fp s5.heap) σ7 H7 s7 → N σ7 H7 → ∃ m, m < n ∧ ∃ i σ' H', Inv X pins σ' H' s7 ∧ tn i s7.heap ∧ (∀ b ∈ fp, H' b = none) ∧ W i m σ' H' := fun {σ7 H7} I7 n7 => by
      obtain ⟨m', hm, w7⟩ := hN σ7 H7 n7
      refine ⟨m', hm, i + 1, σ7, H7, I7.unpinned, T.keep _ _ _ st5 fun b hb o e => (I7.pin (b, o) (List.mem_append_right _ (List.mem_append_right _ (zb7 hb e)))).1, fun b hb => ?_, w7⟩
      obtain ⟨o, e, d⟩ := T.obj _ _ st5 b hb
      exact (I7.pin (b, o) (List.mem_append_right _ (List.mem_append_right _ (zb7 hb e)))).2.1
    cases f with
    | next => obtain ⟨σ7, H7, I7, n7⟩ := q7; exact again I7 n7
    | cont => obtain ⟨σ7, H7, I7, n7⟩ := q7; exact again I7 n7
    | brk => obtain ⟨σ7, H7, I7, q7⟩ := q7; exact ⟨σ7, H7, I7.unpinned, q7⟩
    | ret v => obtain ⟨x7, σ7, H7, I7, r7, q7⟩ := q7; exact ⟨x7, σ7, H7, I7.unpinned, r7, q7⟩
end
theorem zns {K : PySem.W.Frag} {a : Addr} {xs : List V} {g : TG} {tb : TS} {D : Ends} {σ : St} {H : Hp} (Pv : Nat → St → Hp → Prop) (h0 : Pv 0 σ H) (hl : ∀ i σ H, i ≤ xs.length → Pv i σ H → SqL K H a xs)
    (hs : ∀ i x σ H, xs[i]? = some x → Pv i σ H → g x σ H fun σ2 H2 => tb { D with nx := Pv (i + 1), ct := Pv (i + 1), bk := D.nx } σ2 H2) (hd : ∀ σ H, Pv xs.length σ H → D.nx σ H) :
    ∃ W : Nat → Nat → St → Hp → Prop, (∃ m, W 0 m σ H) ∧ ∀ i m σ H, W i m σ H →
      ((Itl K a).stop i H ∧ D.nx σ H) ∨ ((Itl K a).go i H ∧ ∃ N : St → Hp → Prop, (∀ σ' H', N σ' H' → ∃ m', m' < m ∧ W (i + 1) m' σ' H') ∧ ∀ x H', (Itl K a).yld i H x H' → g x σ H' fun σ2 H2 => tb { D with nx := N, ct := N, bk := D.nx } σ2 H2) := by
  refine ⟨fun i m σ H => m = xs.length - i ∧ i ≤ xs.length ∧ Pv i σ H, ⟨xs.length, by simp, Nat.zero_le _, h0⟩, ?_⟩
  rintro i m σ H ⟨rfl, hi, p⟩
  have q := hl i σ H hi p
  by_cases hlt : i < xs.length
  · refine .inr ⟨⟨xs, xs[i], q, by simp [hlt]⟩, Pv (i + 1), fun σ' H' p' => ⟨xs.length - (i + 1), by omega, rfl, hlt, p'⟩, fun x H' y => ?_⟩
    obtain ⟨e, y⟩ := y
    subst e
    exact hs i x σ _ (y xs q) p
  · have e : i = xs.length := by omega
    subst e
    exact .inl ⟨⟨xs, q, Nat.le_refl _⟩, hd σ H p⟩
theorem zli {lo : Int} {n : Nat} {g : TG} {tb : TS} {D : Ends} {σ : St} {H : Hp} (Pv : Nat → St → Hp → Prop) (h0 : Pv 0 σ H)
    (hs : ∀ i σ H, i < n → Pv i σ H → g (.int (lo + i)) σ H fun σ2 H2 => tb { D with nx := Pv (i + 1), ct := Pv (i + 1), bk := D.nx } σ2 H2) (hd : ∀ σ H, Pv n σ H → D.nx σ H) :
    ∃ W : Nat → Nat → St → Hp → Prop, (∃ m, W 0 m σ H) ∧ ∀ i m σ H, W i m σ H →
      ((Itr lo n).stop i H ∧ D.nx σ H) ∨ ((Itr lo n).go i H ∧ ∃ N : St → Hp → Prop, (∀ σ' H', N σ' H' → ∃ m', m' < m ∧ W (i + 1) m' σ' H') ∧ ∀ x H', (Itr lo n).yld i H x H' → g x σ H' fun σ2 H2 => tb { D with nx := N, ct := N, bk := D.nx } σ2 H2) := by
  refine ⟨fun i m σ H => m = n - i ∧ i ≤ n ∧ Pv i σ H, ⟨n, by simp, Nat.zero_le _, h0⟩, ?_⟩
  rintro i m σ H ⟨rfl, hi, p⟩
  by_cases hlt : i < n
  · refine .inr ⟨hlt, Pv (i + 1), fun σ' H' p' => ⟨n - (i + 1), by omega, rfl, hlt, p'⟩, fun x H' y => ?_⟩
    obtain ⟨e, y⟩ := y
    subst e y
    exact hs i σ _ hlt p
  · have e : i = n := by omega
    subst e
    exact .inl ⟨Nat.le_refl _, hd σ H p⟩
abbrev R2 := V → V → Hp → VK → Prop
def OpR (X : Cx) (f : Value → Value → Sem Value) (r : R2) : Prop :=
  ∀ (pins : List (Addr × Obj)) (s : Shared) (σ : St) (H : Hp) (x y : V) (v u : Value) (Q : VK), Inv X pins σ H s → RelV x v → RelV y u → r x y H Q →
    wpAny (model X.prog X.w) X.A (f v u) (EP X pins σ Q) X.xe s
def UnR (X : Cx) (f : Value → Sem Value) (r : V → Hp → VK → Prop) : Prop :=
  ∀ (pins : List (Addr × Obj)) (s : Shared) (σ : St) (H : Hp) (x : V) (v : Value) (Q : VK), Inv X pins σ H s → RelV x v → r x H Q →
    wpAny (model X.prog X.w) X.A (f v) (EP X pins σ Q) X.xe s
def CallR (X : Cx) (f : Value) (r : List V → Hp → VK → Prop) : Prop :=
  ∀ (pins : List (Addr × Obj)) (s : Shared) (σ : St) (H : Hp) (xs : List V) (us : List Value) (Q : VK), Inv X pins σ H s → Vals xs us → r xs H Q →
    wpAny (model X.prog X.w) X.A (call f us) (EP X pins σ Q) X.xe s
def TruR (X : Cx) (r : V → Hp → (Bool → Hp → Prop) → Prop) : Prop :=
  ∀ (pins : List (Addr × Obj)) (s : Shared) (σ : St) (H : Hp) (x : V) (v : Value) (Q : Bool → Hp → Prop), Inv X pins σ H s → RelV x v → r x H Q →
    wpAny (model X.prog X.w) X.A (truthy v) (TP X pins σ Q) X.xe s
def tOp (r : R2) (ta tb : TE) : TE := fun σ H Q => ta σ H fun x H1 => tb σ H1 fun y H2 => r x y H2 Q
def tUn (r : V → Hp → VK → Prop) (ta : TE) : TE := fun σ H Q => ta σ H fun x H1 => r x H1 Q
def rI (C : Int → Int → Prop) (g : Int → Int → V) : R2 := fun x y H Q => ∃ i j, x = .int i ∧ y = .int j ∧ C i j ∧ Q (g i j) H
def rI0 (g : Int → Int → V) : R2 := fun x y H Q => ∃ i j, x = .int i ∧ y = .int j ∧ Q (g i j) H
def rU (g : Int → V) : V → Hp → VK → Prop := fun x H Q => ∃ i, x = .int i ∧ Q (g i) H
section
variable {X : Cx} {a b c : Expr} {ta tb tc : TE} {pos : Pos}
theorem binT (ha : PE X a ta) (hb : PE X b tb) {pins : List (Addr × Obj)} {s : Shared} {σ : St} {H : Hp} {R : V → V → Hp → Prop} (I : Inv X pins σ H s)
    (h : ta σ H fun x H1 => tb σ H1 fun y H2 => R x y H2) {Q : Value → Shared → Prop} {f : Value → Value → Sem Value}
    (hf : ∀ v u s2 x y H2, Inv X pins σ H2 s2 → RelV x v → RelV y u → R x y H2 → wpAny (model X.prog X.w) X.A (f v u) Q X.xe s2) :
    wpAny (model X.prog X.w) X.A (eval a X.env) (fun v s₁ => wpAny (model X.prog X.w) X.A (eval b X.env) (fun u s₂ => wpAny (model X.prog X.w) X.A (f v u) Q X.xe s₂) X.xe s₁) X.xe s := by
  refine thn (ha pins s σ H _ I h) fun v s1 ⟨x, H1, I1, r1, q1⟩ => ?_
  refine thn (hb pins s1 σ H1 _ I1 q1) fun u s2 ⟨y, H2, I2, r2, q2⟩ => ?_
  exact hf v u s2 x y H2 I2 r1 r2 q2
theorem za2 {op : Operator} {r : R2} (ho : OpR X (binaryOp op) r) (ha : PE X a ta) (hb : PE X b tb) : PE X (.BinOp a op b pos) (tOp r ta tb) := by
  intro pins s σ H Q I h
  exact wpAny_BinOp (binT ha hb I h fun v u s2 x y H2 I2 rx ry q => ho pins s2 σ H2 x y v u Q I2 rx ry q)
theorem zrj {op : UnaryOp} {r : V → Hp → VK → Prop} (ho : UnR X (unaryOp op) r) (ha : PE X a ta) : PE X (.UnaryOp op a pos) (tUn r ta) := by
  intro pins s σ H Q I h
  exact UnaryOp_ (thn (ha pins s σ H _ I h) fun v s1 ⟨x, H1, I1, r1, q1⟩ => ho pins s1 σ H1 x v Q I1 r1 q1)
theorem opI {f : Value → Value → Sem Value} {C : Int → Int → Prop} {g : Int → Int → Int}
    (rule : ∀ (i j : Int) (t u : Tok) (s : Shared) (Q : Value → Shared → Prop) (E : Value → Shared → Prop), C i j → Q (.int (g i j) s.toks) { s with toks := s.toks + 1 } → wpAny (model X.prog X.w) X.A (f (.int i t) (.int j u)) Q E s) :
    OpR X f (rI C fun i j => .int (g i j)) := by
  intro pins s σ H x y v u Q I rx ry h
  obtain ⟨i, j, rfl, rfl, hc, q⟩ := h
  obtain ⟨t, rfl⟩ := rx
  obtain ⟨t', rfl⟩ := ry
  exact rule i j t t' s _ _ hc ⟨.int (g i j), H, I.tok _, ⟨_, rfl⟩, q⟩
theorem opI0 {f : Value → Value → Sem Value} {g : Int → Int → Int}
    (rule : ∀ (i j : Int) (t u : Tok) (s : Shared) (Q : Value → Shared → Prop) (E : Value → Shared → Prop), Q (.int (g i j) s.toks) { s with toks := s.toks + 1 } → wpAny (model X.prog X.w) X.A (f (.int i t) (.int j u)) Q E s) :
    OpR X f (rI0 fun i j => .int (g i j)) := by
  intro pins s σ H x y v u Q I rx ry h
  obtain ⟨i, j, rfl, rfl, q⟩ := h
  obtain ⟨t, rfl⟩ := rx
  obtain ⟨t', rfl⟩ := ry
  exact rule i j t t' s _ _ ⟨.int (g i j), H, I.tok _, ⟨_, rfl⟩, q⟩
theorem opB0 {f : Value → Value → Sem Value} {g : Int → Int → Bool}
    (rule : ∀ (i j : Int) (t u : Tok) (s : Shared) (Q : Value → Shared → Prop) (E : Value → Shared → Prop), Q (.bool (g i j)) s → wpAny (model X.prog X.w) X.A (f (.int i t) (.int j u)) Q E s) :
    OpR X f (rI0 fun i j => .bl (g i j)) := by
  intro pins s σ H x y v u Q I rx ry h
  obtain ⟨i, j, rfl, rfl, q⟩ := h
  obtain ⟨t, rfl⟩ := rx
  obtain ⟨t', rfl⟩ := ry
  exact rule i j t t' s _ _ ⟨.bl (g i j), H, I, rfl, q⟩
def CDiv (i j : Int) : Prop := 0 < j ∧ j < 1073741824
def CPow (i j : Int) : Prop := 0 ≤ j ∧ j ≤ 1000000 ∧ i.natAbs < 2 ^ 64
def CMul (i j : Int) : Prop := (-(2 ^ 64) < i ∧ i < 2 ^ 64) ∨ (-(2 ^ 64) < j ∧ j < 2 ^ 64)
theorem CMul.ok {i j : Int} (h : CMul i j) : IntMulOk i j := by
  rcases h with ⟨h1, h2⟩ | ⟨h1, h2⟩
  · exact .of_left (intBits_le_64 h1 h2)
  · exact .of_right (intBits_le_64 h1 h2)
theorem ziv (k : Nat) : (0 : Int) ≤ 2 ^ k := by
  rw [two_pow_cast]
  exact Int.natCast_nonneg _
theorem zdc : OpR X (binaryOp .Add) (rI0 fun i j => .int (i + j)) := opI0 fun _ _ _ _ _ _ _ q => add_int q
theorem zn8 : OpR X (binaryOp .Sub) (rI0 fun i j => .int (i - j)) := opI0 fun _ _ _ _ _ _ _ q => sub_int q
theorem zko : OpR X (binaryOp .Mult) (rI CMul fun i j => .int (i * j)) := opI fun _ _ _ _ _ _ _ hc q => mul_int q hc.ok
theorem zfi : OpR X (binaryOp .FloorDiv) (rI CDiv fun i j => .int (i / j)) := opI fun i j _ _ _ _ _ hc q => by
  have h1 : (0 : Int) < j := hc.1
  have h2 : j < 1073741824 := hc.2
  exact floordiv_int (by omega) (by rw [Int.fdiv_eq_ediv_of_nonneg i (by omega)]; exact q) (.inl (PyProof.noPylong_small (by omega)))
theorem zca : OpR X (binaryOp .Mod) (rI (fun _ j => 0 < j) fun i j => .int (i % j)) := opI fun i j _ _ _ _ _ hc q => by
  have h1 : (0 : Int) < j := hc
  exact mod_int' (by omega) (by rw [Int.fmod_eq_emod_of_nonneg i (by omega)]; exact q)
theorem zqr : OpR X (binaryOp .Pow) (rI CPow fun i j => .int (i ^ j.toNat)) := opI fun _ _ _ _ _ _ _ hc q => pow_int_small hc.1 hc.2.1 hc.2.2 q
theorem zid : OpR X (binaryOp .LShift) (rI CPow fun i j => .int (i * 2 ^ j.toNat)) := opI fun _ _ _ _ _ _ _ hc q => lshift_int_small hc.1 hc.2.1 hc.2.2 q
theorem zn9 : OpR X (binaryOp .RShift) (rI (fun _ j => 0 ≤ j) fun i j => .int (i / 2 ^ j.toNat)) := opI fun i j _ _ _ _ _ hc q =>
  rshift_int hc (by rw [Int.fdiv_eq_ediv_of_nonneg i (ziv _)]; exact q)
theorem zif : OpR X (binaryOp .BitAnd) (rI0 fun i j => .int (Builtin.bitAnd i j)) := opI0 fun _ _ _ _ _ _ _ q => and_int q
theorem unI {f : Value → Sem Value} {g : Int → Int}
    (rule : ∀ (i : Int) (t : Tok) (s : Shared) (Q : Value → Shared → Prop) (E : Value → Shared → Prop), Q (.int (g i) s.toks) { s with toks := s.toks + 1 } → wpAny (model X.prog X.w) X.A (f (.int i t)) Q E s) :
    UnR X f (rU fun i => .int (g i)) := by
  intro pins s σ H x v Q I rx h
  obtain ⟨i, rfl, q⟩ := h
  obtain ⟨t, rfl⟩ := rx
  exact rule i t s _ _ ⟨.int (g i), H, I.tok _, ⟨_, rfl⟩, q⟩
theorem zqg : UnR X (unaryOp .USub) (rU fun i => .int (-i)) := unI fun _ _ _ _ _ q => neg_int q
end
def scal : V → V → Bool
  | .non, .non => true | .non, .int _ => true | .int _, .non => true | .non, .bl _ => true | .bl _, .non => true | .non, .str _ => true | .str _, .non => true
  | .int _, .int _ => true | .bl _, .bl _ => true | .str _, .str _ => true | .byt _, .byt _ => true
  | .int _, .str _ => true | .str _, .int _ => true | .bl _, .str _ => true | .str _, .bl _ => true
  | _, _ => false
def rEq : R2 := fun x y H Q => scal x y = true ∧ Q (.bl (decide (x = y))) H
def rNe : R2 := fun x y H Q => scal x y = true ∧ Q (.bl (!decide (x = y))) H
theorem zlq {i j : Int} : decide (V.int i = V.int j) = (i == j) := by
  rw [Bool.eq_iff_iff]
  simp
theorem zog {i j : Bool} : decide (V.bl i = V.bl j) = (i == j) := by
  rw [Bool.eq_iff_iff]
  simp
theorem zlp {i j : Str} : decide (V.str i = V.str j) = (i == j) := by
  rw [Bool.eq_iff_iff]
  simp
theorem zlr {i j : Array UInt8} : decide (V.byt i = V.byt j) = (i.toList == j.toList) := by
  rw [Bool.eq_iff_iff]
  cases i
  cases j
  simp
section
variable {X : Cx} {a b c : Expr} {ta tb tc : TE} {pos : Pos}
theorem zax {pins : List (Addr × Obj)} {σ : St} {H : Hp} {s : Shared} {Q : VK} {k k' : Bool} (I : Inv X pins σ H s) (q : Q (.bl k) H) (e : k = k') : EP X pins σ Q (.bool k') s := by
  subst e
  exact ⟨.bl k, H, I, rfl, q⟩
theorem za5 : OpR X (compareOp .Eq) rEq := by
  intro pins s σ H x y v u Q I rx ry h
  obtain ⟨hs, q⟩ := h
  cases x with
  | non =>
    cases rx
    cases y with
    | non => cases ry; exact PySem.EqNone.eq_none_none (zax I q (by simp))
    | bl j => cases ry; exact PySem.EqNone.eq_none_bool (zax I q (by simp))
    | int j => obtain ⟨t', rfl⟩ := ry; exact PySem.EqNone.eq_none_int (zax I q (by simp))
    | str j => obtain ⟨t', rfl⟩ := ry; exact PySem.EqNone.eq_none_str (zax I q (by simp))
    | _ => exact absurd (show false = true from hs) Bool.false_ne_true
  | bl i =>
    cases rx
    cases y with
    | non => cases ry; exact PySem.EqNone.eq_bool_none (zax I q (by simp))
    | bl j => cases ry; exact eq_bool (zax I q zog)
    | str j => obtain ⟨t', rfl⟩ := ry; exact PySem.EqMixed.eq_bool_str (zax I q (by simp))
    | _ => exact absurd (show false = true from hs) Bool.false_ne_true
  | int i =>
    obtain ⟨t, rfl⟩ := rx
    cases y with
    | non => cases ry; exact PySem.EqNone.eq_int_none (zax I q (by simp))
    | int j => obtain ⟨t', rfl⟩ := ry; exact eq_int (zax I q zlq)
    | str j => obtain ⟨t', rfl⟩ := ry; exact PySem.EqMixed.eq_int_str (zax I q (by simp))
    | _ => exact absurd (show false = true from hs) Bool.false_ne_true
  | str i =>
    obtain ⟨t, rfl⟩ := rx
    cases y with
    | non => cases ry; exact PySem.EqNone.eq_str_none (zax I q (by simp))
    | bl j => cases ry; exact PySem.EqMixed.eq_str_bool (zax I q (by simp))
    | int j => obtain ⟨t', rfl⟩ := ry; exact PySem.EqMixed.eq_str_int (zax I q (by simp))
    | str j => obtain ⟨t', rfl⟩ := ry; exact eq_str (zax I q zlp)
    | _ => exact absurd (show false = true from hs) Bool.false_ne_true
  | byt i =>
    obtain ⟨t, rfl⟩ := rx
    cases y with
    | byt j => obtain ⟨t', rfl⟩ := ry; exact PySem.W.eq_bytes (zax I q zlr)
    | _ => exact absurd (show false = true from hs) Bool.false_ne_true
  | _ => cases y <;> exact absurd (show false = true from hs) Bool.false_ne_true
theorem zkn : OpR X (compareOp .NotEq) rNe := by
  intro pins s σ H x y v u Q I rx ry h
  obtain ⟨hs, q⟩ := h
  cases x with
  | non =>
    cases rx
    cases y with
    | non => cases ry; exact PySem.EqNone.ne_none_none (zax I q (by simp))
    | bl j => cases ry; exact PySem.EqNone.ne_none_bool (zax I q (by simp))
    | int j => obtain ⟨t', rfl⟩ := ry; exact PySem.EqNone.ne_none_int (zax I q (by simp))
    | str j => obtain ⟨t', rfl⟩ := ry; exact PySem.EqNone.ne_none_str (zax I q (by simp))
    | _ => exact absurd (show false = true from hs) Bool.false_ne_true
  | bl i =>
    cases rx
    cases y with
    | non => cases ry; exact PySem.EqNone.ne_bool_none (zax I q (by simp))
    | bl j => cases ry; exact ne_bool (zax I q (congrArg not zog))
    | str j => obtain ⟨t', rfl⟩ := ry; exact PySem.EqMixed.ne_bool_str (zax I q (by simp))
    | _ => exact absurd (show false = true from hs) Bool.false_ne_true
  | int i =>
    obtain ⟨t, rfl⟩ := rx
    cases y with
    | non => cases ry; exact PySem.EqNone.ne_int_none (zax I q (by simp))
    | int j => obtain ⟨t', rfl⟩ := ry; exact ne_int (zax I q (congrArg not zlq))
    | str j => obtain ⟨t', rfl⟩ := ry; exact PySem.EqMixed.ne_int_str (zax I q (by simp))
    | _ => exact absurd (show false = true from hs) Bool.false_ne_true
  | str i =>
    obtain ⟨t, rfl⟩ := rx
    cases y with
    | non => cases ry; exact PySem.EqNone.ne_str_none (zax I q (by simp))
    | bl j => cases ry; exact PySem.EqMixed.ne_str_bool (zax I q (by simp))
    | int j => obtain ⟨t', rfl⟩ := ry; exact PySem.EqMixed.ne_str_int (zax I q (by simp))
    | str j => obtain ⟨t', rfl⟩ := ry; exact ne_str (zax I q (congrArg not zlp))
    | _ => exact absurd (show false = true from hs) Bool.false_ne_true
  | byt i =>
    obtain ⟨t, rfl⟩ := rx
    cases y with
    | byt j => obtain ⟨t', rfl⟩ := ry; exact PySem.W.ne_bytes (zax I q (congrArg not zlr))
    | _ => exact absurd (show false = true from hs) Bool.false_ne_true
  | _ => cases y <;> exact absurd (show false = true from hs) Bool.false_ne_true
theorem zpj : OpR X (compareOp .Lt) (rI0 fun i j => .bl (decide (i < j))) := opB0 fun _ _ _ _ _ _ _ q => lt_int q
theorem zqt : OpR X (compareOp .LtE) (rI0 fun i j => .bl (decide (i ≤ j))) := opB0 fun _ _ _ _ _ _ _ q => le_int q
theorem zi8 : OpR X (compareOp .Gt) (rI0 fun i j => .bl (decide (j < i))) := opB0 fun _ _ _ _ _ _ _ q => gt_int q
theorem zge : OpR X (compareOp .In) (fun x y H Q => ∃ i j, x = .str i ∧ y = .str j ∧ Q (.bl (!(Builtin.Str.occurrences j i 0 j.length 1).isEmpty)) H) := by
  intro pins s σ H x y v u Q I rx ry h
  obtain ⟨i, j, rfl, rfl, q⟩ := h
  obtain ⟨t, rfl⟩ := rx
  obtain ⟨t', rfl⟩ := ry
  exact in_str (zax I q rfl)
theorem zie : OpR X (compareOp .Is) (fun x y H Q => y = .non ∧ Q (.bl (decide (x = .non))) H) := by
  intro pins s σ H x y v u Q I rx ry h
  obtain ⟨rfl, q⟩ := h
  cases ry
  refine is_none_gen (zax I q ?_)
  cases x <;> first
    | (cases rx; rfl)
    | (obtain ⟨t, rfl⟩ := rx; rfl)
theorem zph : OpR X (compareOp .IsNot) (fun x y H Q => y = .non ∧ Q (.bl (!decide (x = .non))) H) := by
  intro pins s σ H x y v u Q I rx ry h
  obtain ⟨rfl, q⟩ := h
  cases ry
  refine isnot_none_gen (zax I q ?_)
  cases x <;> first
    | (cases rx; rfl)
    | (obtain ⟨t, rfl⟩ := rx; rfl)
theorem nomark (b : Expr) {op : CmpOp} (h : op ≠ .In := by decide) (h2 : op ≠ .NotIn := by decide) : behindInMarks op b = false := by
  have e1 : (op == CmpOp.In) = false := by cases op <;> first | rfl | exact absurd rfl h
  have e2 : (op == CmpOp.NotIn) = false := by cases op <;> first | rfl | exact absurd rfl h2
  cases b <;> simp [behindInMarks, e1, e2]
theorem zav {op : CmpOp} {r : R2} (ho : OpR X (compareOp op) r) (ha : PE X a ta) (hb : PE X b tb) (hm : behindInMarks op b = false) : PE X (.Compare a [op] [b] pos) (tOp r ta tb) := by
  intro pins s σ H Q I h
  exact wpAny_Compare1 (binT ha hb I h fun v u s2 x y H2 I2 rx ry q => ho pins s2 σ H2 x y v u Q I2 rx ry q) hm
def tTest (t : TE) : TT := fun σ H Q => t σ H fun x H' => ∃ k, x = .bl k ∧ Q k H'
theorem zai {op : CmpOp} {r : R2} (ho : OpR X (compareOp op) r) (ha : PE X a ta) (hb : PE X b tb) (hm : behindInMarks op b = false) : PT X (.Compare a [op] [b] pos) (tTest (tOp r ta tb)) := by
  intro pins s σ H Q I h
  refine wpAny_isTrue_Compare1 (thn (ha pins s σ H _ I h) fun v s1 ⟨x, H1, I1, r1, q1⟩ => thn (hb pins s1 σ H1 _ I1 q1) fun u s2 ⟨y, H2, I2, r2, q2⟩ =>
    thn (ho pins s2 σ H2 x y v u _ I2 r1 r2 q2) fun c s3 ⟨z, H3, I3, r3, k, e, q3⟩ => ?_) hm
  subst e
  cases r3
  exact wpAny_truthy_bool ⟨H3, I3, q3⟩
def tChain (r r' : R2) (ta tb tc : TE) : TE := fun σ H Q => ta σ H fun x H1 => tb σ H1 fun y H2 => r x y H2 fun z H3 => ∃ k, z = .bl k ∧
  (if k = true then tc σ H3 fun w' H4 => r' y w' H4 Q else Q (.bl false) H3)
theorem zfh {op op' : CmpOp} {r r' : R2} (ho : OpR X (compareOp op) r) (ho' : OpR X (compareOp op') r') (ha : PE X a ta) (hb : PE X b tb) (hc : PE X c tc)
    (hm : lastMarks [op, op'] [b, c] = false := by with_unfolding_all rfl) : PE X (.Compare a [op, op'] [b, c] pos) (tChain r r' ta tb tc) := by
  intro pins s σ H Q I h
  refine Compare_chain (thn (ha pins s σ H _ I h) fun v s1 ⟨x, H1, I1, r1, q1⟩ => chain_link (thn (hb pins s1 σ H1 _ I1 q1) fun u s2 ⟨y, H2, I2, r2, q2⟩ =>
    thn (ho pins s2 σ H2 x y v u _ I2 r1 r2 q2) fun d s3 ⟨z, H3, I3, r3, k, e, q3⟩ => ?_)) hm
  subst e
  cases r3
  refine wpAny_truthy_bool ?_
  cases k with
  | false => exact ite_ff ⟨.bl false, H3, I3, rfl, q3⟩
  | true => exact ite_tt (chain_last (thn (hc pins s3 σ H3 _ I3 q3) fun w' s4 ⟨z', H4, I4, r4, q4⟩ => ho' pins s4 σ H4 y z' u w' Q I4 r2 r4 q4))
theorem zfg {op op' : CmpOp} {r r' : R2} (ho : OpR X (compareOp op) r) (ho' : OpR X (compareOp op') r') (ha : PE X a ta) (hb : PE X b tb) (hc : PE X c tc)
    (hm : lastMarks [op, op'] [b, c] = false := by with_unfolding_all rfl) : PT X (.Compare a [op, op'] [b, c] pos) (tTest (tChain r r' ta tb tc)) := by
  intro pins s σ H Q I h
  refine isTrue_chain (thn (ha pins s σ H _ I h) fun v s1 ⟨x, H1, I1, r1, q1⟩ => test_link (thn (hb pins s1 σ H1 _ I1 q1) fun u s2 ⟨y, H2, I2, r2, q2⟩ =>
    thn (ho pins s2 σ H2 x y v u _ I2 r1 r2 q2) fun d s3 ⟨z, H3, I3, r3, k, e, q3⟩ => ?_)) hm
  subst e
  cases r3
  refine wpAny_truthy_bool ?_
  cases k with
  | false =>
    obtain ⟨k', e', q'⟩ := q3
    cases e'
    exact ite_ff ⟨H3, I3, q'⟩
  | true =>
    refine ite_tt (test_last (thn (hc pins s3 σ H3 _ I3 q3) fun w' s4 ⟨z', H4, I4, r4, q4⟩ => thn (ho' pins s4 σ H4 y z' u w' _ I4 r2 r4 q4) fun d' s5 ⟨z2, H5, I5, r5, k2, e2, q5⟩ => ?_))
    subst e2
    cases r5
    exact wpAny_truthy_bool ⟨H5, I5, q5⟩
def TruV (K : PySem.W.Frag) (x : V) (H : Hp) (k : Bool) : Prop :=
  match x with
  | .non => k = false
  | .bl b => k = b
  | .int i => k = (i != 0)
  | .str y => y.length ≤ sizeLine ∧ k = ((y.length : Int) != 0)
  | .byt y => y.size ≤ sizeLine ∧ k = ((y.size : Int) != 0)
  | .ref p => (∃ xs, SqL K H p xs ∧ k = !xs.isEmpty) ∨ (∃ xs, SqT K H p xs ∧ k = !xs.isEmpty) ∨ ∃ kvs, H p = some (.dK kvs) ∧ k = !kvs.isEmpty
  | _ => False
theorem zji {κ : Type} {kvs : List (κ × V)} {vs : List (κ × Value)} (r : KV kvs vs) : (!vs.isEmpty) = !kvs.isEmpty := by
  cases r <;> rfl
theorem ze0 {xs : List V} {its : List Value} (r : Vals xs its) : (!its.toArray.isEmpty) = !xs.isEmpty := by
  cases r <;> simp
theorem line63 : (sizeLine : Nat) < 2 ^ 63 := by rw [sizeLine_eq]; decide
theorem zqh : TruR X (fun x H Q => ∃ k, TruV X.K x H k ∧ Q k H) := by
  intro pins s σ H x v Q I rx h
  obtain ⟨k, e, q⟩ := h
  have hl := line63
  have hs : sizeLine = 16777216 := sizeLine_eq
  cases x with
  | non =>
    cases rx
    have e' : k = false := e
    subst e'
    exact truthy_none ⟨H, I, q⟩
  | bl b =>
    cases rx
    have e' : k = b := e
    subst e'
    exact wpAny_truthy_bool ⟨H, I, q⟩
  | int i =>
    obtain ⟨t, rfl⟩ := rx
    have e' : k = (i != 0) := e
    subst e'
    exact PySem.P.truthy_int ⟨H, I, q⟩
  | str y =>
    obtain ⟨t, rfl⟩ := rx
    obtain ⟨hy, e'⟩ : y.length ≤ sizeLine ∧ k = ((y.length : Int) != 0) := e
    subst e'
    exact PySem.P.truthy_str (by omega) ⟨H, I.tok _, q⟩
  | byt y =>
    obtain ⟨t, rfl⟩ := rx
    obtain ⟨hy, e'⟩ : y.size ≤ sizeLine ∧ k = ((y.size : Int) != 0) := e
    subst e'
    exact PySem.W.truthy_bytes (by omega) ⟨H, I.tok _, q⟩
  | ref p =>
    cases rx
    have e' : (∃ xs, SqL X.K H p xs ∧ k = !xs.isEmpty) ∨ (∃ xs, SqT X.K H p xs ∧ k = !xs.isEmpty) ∨ ∃ kvs, H p = some (.dK kvs) ∧ k = !kvs.isEmpty := e
    rcases e' with ⟨xs, hx, e'⟩ | ⟨xs, hx, e'⟩ | ⟨kvs, hx, e'⟩
    · subst e'
      obtain ⟨its, r, pl, hz⟩ := I.list hx
      have hlen := r.length
      exact wpAny_truthy_list pl.isList (by simp only [List.size_toArray]; omega) ⟨H, I.tok _, by rw [ze0 r]; exact q⟩
    · subst e'
      obtain ⟨its, r, pl, hz⟩ := I.tuple hx
      have hlen := r.length
      exact truthy_tuple pl (by simp only [List.size_toArray]; omega) ⟨H, I.tok _, by rw [ze0 r]; exact q⟩
    · subst e'
      obtain ⟨hz, hS, vs, r, m⟩ : kvs.length ≤ sizeLine ∧ (p == sysModules) = false ∧ ∃ vs, KV kvs vs ∧ s.heap.DictOf (mixKind X.prog X.w) p vs := I.hok p _ hx
      have hlen : kvs.length = vs.length := Paired.length r
      exact wpAny_truthy_dict hS m (by omega) ⟨H, I.tok _, by rw [zji r]; exact q⟩
  | _ => exact (show False from e).elim
theorem zmq (ha : PE X a ta) (he : ∀ whole, isTrue a X.env whole = (do let v ← whole; standAt a.pos; holding [v] (truthy v))) :
    PT X a (fun σ H Q => ta σ H fun x H' => ∃ k, TruV X.K x H' k ∧ Q k H') := by
  intro pins s σ H Q I h
  exact isTrue_plain (thn (ha pins s σ H _ I h) fun v s1 ⟨x, H1, I1, r1, q1⟩ => zqh pins s1 σ H1 x v Q I1 r1 q1) (he _)
theorem zbk : OpR X (binaryOp .Add) (fun x y H Q => ∃ i j, x = .str i ∧ y = .str j ∧ i.length + j.length ≤ sizeLine ∧ Q (.str (i ++ j)) H) := by
  intro pins s σ H x y v u Q I rx ry h
  obtain ⟨i, j, rfl, rfl, hz, q⟩ := h
  obtain ⟨t, rfl⟩ := rx
  obtain ⟨t', rfl⟩ := ry
  exact add_str (fun t' tk => ⟨.str (i ++ j), H, I.tok _, ⟨_, rfl⟩, q⟩) hz
theorem vals1 {x : V} {us : List Value} (r : Vals [x] us) : ∃ u, us = [u] ∧ RelV x u := by
  cases r with
  | cons r1 r2 => cases r2; exact ⟨_, rfl, r1⟩
theorem vals2 {x y : V} {us : List Value} (r : Vals [x, y] us) : ∃ u w', us = [u, w'] ∧ RelV x u ∧ RelV y w' := by
  cases r with
  | cons r1 r2 =>
    cases r2 with
    | cons r3 r4 => cases r4; exact ⟨_, _, rfl, r1, r3⟩
end
structure ObjM (h : Heap) (x dx C : Addr) (mA : Str → Option Value) : Prop where
  obj : h.get? x = some (PySem.W.instObj C dx)
  ns : h.Ns1 dx mA
  ne : dx ≠ x
theorem zk6 {h : Heap} {dx : Addr} {mA : Str → Option Value} (n : h.Ns1 dx mA) : ∃ od, h.get? dx = some od ∧ ∀ name, PySem.W.lookIn name od = some (mA name) := by
  obtain ⟨o, es, ep, ho, hd, hk, _, hm⟩ := n
  refine ⟨o, ho, fun name => ?_⟩
  have e := hm name
  unfold nsFind findBy at e
  rw [← Array.find?_toList] at e
  unfold PySem.W.lookIn
  rw [hd]
  dsimp only
  split
  · rename_i y q
    rw [q] at e
    exact congrArg some e
  · rename_i q
    rw [q] at e
    have a : es.toList.any (·.refKey) = false := by
      rw [List.any_eq_false]
      intro y hy
      obtain ⟨z, t, hkey⟩ := hk y (Array.mem_toList_iff.mp hy)
      simp [DictEntry.refKey, hkey]
    have a' : ¬ es.toList.any (·.refKey) = true := by rw [a]; exact Bool.false_ne_true
    rw [if_neg a']
    exact congrArg some e
theorem ObjM.look {h : Heap} {x dx C : Addr} {mA : Str → Option Value} (I : ObjM h x dx C mA) : ∃ od, PySem.W.InstAt h x (PySem.W.instObj C dx) C (some od) ∧ ∀ name, PySem.W.lookIn name od = some (mA name) :=
  let ⟨od, ho, hl⟩ := zk6 I.ns
  ⟨od, ⟨I.obj, rfl, rfl, ho⟩, hl⟩
section
variable {prog : Program} {w : World} {A : Around} {E : Value → Shared → Prop} {s : Shared} {K : PySem.W.Frag} {x dx C f : Addr} {mA : Str → Option Value} {name : Str} {v : Value}
theorem zp1 {expr : Bool} {Q : Value → Shared → Prop} (X : K.In s.heap) (I : ObjM s.heap x dx C mA) (hg : PySem.W.plainGet K C name = true) (hh : PySem.W.hasDictIn K C = true)
    (ha : PySem.W.findIn K (.ref C) name = some none) (hv : mA name = some v) (hv' : PySem.W.handedIn v = true) (h : Q v { s with toks := s.toks + 1 }) :
    wpAny (model prog w) A (getAttr (.ref x) name expr) Q E s := by
  obtain ⟨od, J, hl⟩ := I.look
  exact PySem.W.get_value X J (PySem.W.plainGet_of hg).1 (PySem.W.findObj_own hh ha rfl (by rw [hl, hv])) hv' h
theorem znp {pl : Sem Bool} {Q : Value × List Value → Shared → Prop} (X : K.In s.heap) (I : ObjM s.heap x dx C mA) (hg : PySem.W.plainGet K C name = true)
    (hf : PySem.W.findIn K (.ref C) name = some (some (.ref f))) (ht : PySem.W.isFn K (.ref f) = true) (hv : mA name = none) (h : Q (.ref f, [.ref x]) s) :
    wpAny (model prog w) A (getMethod (.ref x) name pl) Q E s := by
  obtain ⟨od, J, hl⟩ := I.look
  exact PySem.W.method_fn X J (PySem.W.plainGet_of hg).1 (PySem.W.plainGet_of hg).2 hf (beq_iff_eq.mp ht) (by show (PySem.W.lookIn name od).map (·.isSome) = some false; rw [hl, hv]; rfl) h
theorem zot {ns : List Str} {Q : Unit → Shared → Prop} (X : K.In s.heap) (I : ObjM s.heap x dx C mA)
    (hs : PySem.W.findIn K (.ref C) "__setattr__" = some (some (.builtin "object.__setattr__"))) (hp : PySem.W.plainOver K C = true) (ht : PySem.W.takerIn K C name = some none) (hh : PySem.W.hasDictIn K C = true)
    (hw : PySem.Within mA ns) (hsz : ns.length ≤ sizeLine)
    (h : ∀ h', ObjM h' x dx C (fun y => if y = name then some v else mA y) → Heap.SameBut dx s.heap h' → Q () { s with heap := h', toks := s.toks + 2 }) :
    wpAny (model prog w) A (setAttr (.ref x) name v) Q E s := by
  obtain ⟨od, J, hl⟩ := I.look
  refine PySem.W.set_plain X J hs (PySem.W.osa_open (s := { s with toks := s.toks + 1 }) (r := none) X J hp ht fun b => ?_)
  obtain ⟨cd, hc, hd'⟩ := PySem.W.any_some hh
  have hx : s.heap.get? x = some ⟨.ref C, some dx, .plain, #[]⟩ := I.obj
  refine wpAny_bind (wpAny_pure (wpAny_bind (wpAny_bind (wpAny_loadPart hx (wpAny_bind (PySem.W.Looks.here (s := { s with toks := s.toks + 1 }) (PySem.W.looks_clsIn X hc) ?_))))))
  rw [hd']
  refine wpAny_pure (a := some dx) (wpAny_bind (wpAny_pure (wpAny_bind ?_)))
  refine wpAny_nsSet1 (s := { s with toks := s.toks + 1 }) I.ns fun h' hn2 hs2 => ?_
  obtain ⟨oD, esD, epD, hoD, hdD, hcD⟩ := hn2.count (PySem.Within.cons name v hw)
  refine wpAny_bind (wpAny_lookBehind hoD (by rw [hdD]; exact pastItsLine_dict (Nat.le_trans hcD (by rw [List.length_cons]; omega))) ?_)
  exact wpAny_pure (h _ ⟨(hs2.2 _ (Ne.symm I.ne)).trans I.obj, hn2, I.ne⟩ hs2)
theorem zni {R : Result → Shared → Prop} {vs : List Value} {kw : List (Str × Value)} (X : K.In s.heap) (hm : PySem.W.makesIn K C = true)
    (hi : PySem.W.findIn K (.ref C) "__init__" = some (some (.ref f))) (hf : PySem.W.typeIn K (.ref f) = some (.type "function"))
    (h : codeAny (model prog w) (A.under (.builtin "type.__call__" ⟨.ref C :: vs, kw⟩)) (.call (.ref f) ⟨.ref (s.heap.objs.size + 1) :: vs, kw⟩) (PySem.W.InitBack (s.heap.objs.size + 1) R)
      { s with heap := (s.heap.push PySem.W.emptyDict).push (PySem.W.instObj C s.heap.objs.size) }) :
    codeAny (model prog w) A (.call (.ref C) ⟨vs, kw⟩) R s := by
  obtain ⟨hh, g, d, t, os⟩ := s
  exact PySem.W.make_core (PySem.W.makes_of X hm) (PySem.W.looks_findIn X hi) (fun self => PySem.W.bind_fn X self hf) (.inl rfl) h
end
def putF (f : Str) (v : V) : List (Str × V) → List (Str × V)
  | [] => [(f, v)]
  | (g, x) :: r => if g = f then (g, v) :: r else (g, x) :: putF f v r
theorem zd3 (f g : Str) (v : V) : ∀ fs : List (Str × V), (putF f v fs).lookup g = if g = f then some v else fs.lookup g
  | [] => by
    show List.lookup g [(f, v)] = _
    by_cases h : g = f
    · have hb : (g == f) = true := beq_iff_eq.mpr h
      simp only [List.lookup, hb, if_pos h]
    · have hb : (g == f) = false := beq_eq_false_iff_ne.mpr h
      simp only [List.lookup, hb, if_neg h]
  | (k, x) :: r => by
    have ih := zd3 f g v r
    rw [show putF f v ((k, x) :: r) = (if k = f then (k, v) :: r else (k, x) :: putF f v r) from rfl]
    by_cases hk : k = f
    · rw [if_pos hk]
      by_cases h : g = k
      · have hb : (g == k) = true := beq_iff_eq.mpr h
        simp only [List.lookup, hb, if_pos (h.trans hk)]
      · have hb : (g == k) = false := beq_eq_false_iff_ne.mpr h
        simp only [List.lookup, hb, if_neg (fun e : g = f => h (e.trans hk.symm))]
    · rw [if_neg hk]
      by_cases h : g = k
      · have hb : (g == k) = true := beq_iff_eq.mpr h
        simp only [List.lookup, hb, if_neg (fun e : g = f => hk (h.symm.trans e))]
      · have hb : (g == k) = false := beq_eq_false_iff_ne.mpr h
        simp only [List.lookup, hb]
        exact ih
theorem zd7 (f : Str) (v : V) : ∀ fs : List (Str × V), f ∈ (putF f v fs).map (·.1) ∧ ∀ g, g ∈ fs.map (·.1) → g ∈ (putF f v fs).map (·.1)
  | [] => ⟨by simp [putF], fun g h => by simp at h⟩
  | (k, x) :: r => by
    obtain ⟨i1, i2⟩ := zd7 f v r
    rw [show putF f v ((k, x) :: r) = (if k = f then (k, v) :: r else (k, x) :: putF f v r) from rfl]
    by_cases hk : k = f
    · rw [if_pos hk]
      subst hk
      exact ⟨by simp, fun g h => by simpa using h⟩
    · rw [if_neg hk]
      refine ⟨?_, fun g h => ?_⟩
      · rw [List.map_cons]
        exact List.mem_cons_of_mem _ i1
      · rw [List.map_cons] at h ⊢
        rcases List.mem_cons.mp h with e | e
        · exact List.mem_cons.mpr (.inl e)
        · exact List.mem_cons_of_mem _ (i2 g e)
theorem zbm (f : Str) (v : V) : ∀ fs : List (Str × V), (putF f v fs).length ≤ fs.length + 1
  | [] => by simp [putF]
  | (k, x) :: r => by
    have ih := zbm f v r
    rw [show putF f v ((k, x) :: r) = (if k = f then (k, v) :: r else (k, x) :: putF f v r) from rfl]
    by_cases hk : k = f
    · rw [if_pos hk, List.length_cons, List.length_cons]; omega
    · rw [if_neg hk, List.length_cons, List.length_cons]; omega
theorem RelO.some_of {v : V} {o : Option Value} (r : RelO (some v) o) : ∃ u, o = some u ∧ RelV v u := by
  cases o with
  | none => exact (show False from r).elim
  | some u => exact ⟨u, rfl, r⟩
theorem RelO.none_of {o : Option Value} (r : RelO none o) : o = none := by
  cases o with
  | none => rfl
  | some u => exact (show False from r).elim
theorem zlg {v : V} {u : Value} (r : RelV v u) : PySem.W.handedIn u = true := by
  cases v with
  | non => cases (show u = Value.none from r); rfl
  | bl b => cases (show u = Value.bool b from r); rfl
  | int i => obtain ⟨t, e⟩ := (show ∃ t, u = Value.int i t from r); cases e; rfl
  | str x => obtain ⟨t, e⟩ := (show ∃ t, u = Value.str x t from r); cases e; rfl
  | byt b => obtain ⟨t, e⟩ := (show ∃ t, u = Value.bytes b t from r); cases e; rfl
  | flt b => obtain ⟨t, e⟩ := (show ∃ t, u = Value.float b t from r); cases e; rfl
  | ref a => cases (show u = Value.ref a from r); rfl
  | ty n => cases (show u = Value.type n from r); rfl
section
variable {P : Program} {w : World} {H H' : Hp} {h h' : Heap} {a C dx : Addr} {fs fs' : List (Str × V)}
theorem zfm (hok : HOk P w H h) (e : H a = some (.ins C dx fs)) : ∃ mA, ObjM h a dx C mA ∧ (∀ f, RelO (fs.lookup f) (mA f)) ∧ PySem.Within mA (fs.map (·.1)) ∧ fs.length ≤ 1000 ∧ H dx = some (.own a) := by
  obtain ⟨d, z, ne, ob, mA, n, r, q⟩ := (show ObjOk P w H h a (.ins C dx fs) from hok a _ e)
  exact ⟨mA, ⟨ob, n, ne⟩, r, q, z, d⟩
end
structure Cls (K : PySem.W.Frag) (C : Addr) : Prop where
  pg : PySem.W.plainGet K C Str.empty = true
  hd : PySem.W.hasDictIn K C = true
  po : PySem.W.plainOver K C = true
  sa : PySem.W.findIn K (.ref C) "__setattr__" = some (some (.builtin "object.__setattr__"))
theorem Cls.get {K : PySem.W.Frag} {C : Addr} (c : Cls K C) (f : Str) : PySem.W.plainGet K C f = true := c.pg
def NoAttr (K : PySem.W.Frag) (C : Addr) (f : Str) : Prop := PySem.W.findIn K (.ref C) f = some none
theorem NoAttr.taker {K : PySem.W.Frag} {C : Addr} {f : Str} (n : NoAttr K C f) : PySem.W.takerIn K C f = some none := by
  unfold PySem.W.takerIn
  rw [show PySem.W.findIn K (.ref C) f = some none from n]
  rfl
structure Meth (K : PySem.W.Frag) (C : Addr) (m : Str) (f : Addr) : Prop where
  at_ : PySem.W.findIn K (.ref C) m = some (some (.ref f))
  fn : PySem.W.isFn K (.ref f) = true
  kp : PySem.W.keepIn K (.ref f) = true
section
variable {X : Cx} {pins : List (Addr × Obj)} {σ : St} {H : Hp} {s : Shared} {a C dx : Addr} {fs : List (Str × V)} {f : Str} {v : V} {A : Around} {E : Value → Shared → Prop}
theorem zjm {b : Bool} {Q : Value → Shared → Prop} (I : Inv X pins σ H s) (e : H a = some (.ins C dx fs)) (c : Cls X.K C) (n : NoAttr X.K C f) (l : fs.lookup f = some v)
    (h : ∀ u s', Inv X pins σ H s' → RelV v u → Q u s') : wpAny (model X.prog X.w) A (getAttr (.ref a) f b) Q E s := by
  obtain ⟨mA, O, r, _, _, _⟩ := zfm I.hok e
  obtain ⟨u, hu, ru⟩ := RelO.some_of (v := v) (o := mA f) (by rw [← l]; exact r f)
  exact zp1 I.kIn O (c.get f) c.hd n hu (zlg ru) (h u _ (I.tok _) ru)
theorem zjl {m : Str} {g : Addr} {pl : Sem Bool} {Q : Value × List Value → Shared → Prop} (I : Inv X pins σ H s) (e : H a = some (.ins C dx fs)) (c : Cls X.K C) (k : Meth X.K C m g) (l : fs.lookup m = none)
    (h : Q (.ref g, [.ref a]) s) : wpAny (model X.prog X.w) A (getMethod (.ref a) m pl) Q E s := by
  obtain ⟨mA, O, r, _, _, _⟩ := zfm I.hok e
  have hn : mA m = none := RelO.none_of (by rw [← l]; exact r m)
  exact znp I.kIn O (c.get m) k.at_ k.fn hn h
theorem ziz {y : V} {u : Value} {Q : Unit → Shared → Prop} (I : Inv X pins σ H s) (e : H a = some (.ins C dx fs)) (c : Cls X.K C) (n : NoAttr X.K C f) (hl : fs.length < 1000) (ry : RelV y u)
    (h : ∀ s', Inv X pins σ (upd H a (.ins C dx (putF f y fs))) s' → Q () s') : wpAny (model X.prog X.w) A (setAttr (.ref a) f u) Q E s := by
  obtain ⟨mA, O, r, wi, _, ho⟩ := zfm I.hok e
  have hz : (fs.map (·.1)).length ≤ sizeLine := by rw [List.length_map, sizeLine_eq]; omega
  refine zot I.kIn O c.sa c.po n.taker c.hd wi hz fun h' O' sb => h _ ?_
  have hd : ∃ o, h'.get? dx = some o := let ⟨o, _, _, e', _⟩ := O'.ns; ⟨o, e'⟩
  refine I.write (x := a) (e := dx) (by rw [e]; exact True.intro) (.inr ho) (fun b q hb z => (sb.2 b hb).trans z) hd ?_
  refine ⟨by rw [zam O.ne]; exact ho, ?_, O.ne, O'.obj, _, O'.ns, fun g => ?_, fun g hg => ?_⟩
  · have := zbm f y fs; omega
  · show RelO ((putF f y fs).lookup g) (if g = f then some u else mA g)
    rw [zd3]
    by_cases q : g = f
    · rw [if_pos q, if_pos q]; exact ry
    · rw [if_neg q, if_neg q]; exact r g
  · by_cases q : g = f
    · rw [q]; exact (zd7 f y fs).1
    · refine (zd7 f y fs).2 g (wi g fun z => hg ?_)
      show (if g = f then some u else mA g) = none
      rw [if_neg q]; exact z
theorem Inv.made (I : Inv X pins σ H s) : Inv X pins σ (upd (upd H s.heap.objs.size (.own (s.heap.objs.size + 1))) (s.heap.objs.size + 1) (.ins C s.heap.objs.size []))
    { s with heap := (s.heap.push PySem.W.emptyDict).push (PySem.W.instObj C s.heap.objs.size) } := by
  have e1 : (s.heap.push PySem.W.emptyDict).get? s.heap.objs.size = some PySem.W.emptyDict := Heap.get?_push_size s.heap rfl
  have e2 : ((s.heap.push PySem.W.emptyDict).push (PySem.W.instObj C s.heap.objs.size)).get? (s.heap.objs.size + 1) = some (PySem.W.instObj C s.heap.objs.size) := by
    have := Heap.get?_push_size (s.heap.push PySem.W.emptyDict) (o := PySem.W.instObj C s.heap.objs.size) rfl
    rwa [Heap.size_push] at this
  have e3 : (s.heap.push PySem.W.emptyDict).Ns s.heap.objs.size (fun _ => none) := ⟨PySem.W.emptyDict, #[], _, e1, rfl, (fun e he => absurd he (by simp)), fun _ => rfl⟩
  have I1 := I.laid (a := s.heap.objs.size) (o := .own (s.heap.objs.size + 1)) (h' := s.heap.push PySem.W.emptyDict) (t' := s.toks) (fun b u q => Heap.get?_push_of_some _ q) (Nat.le_refl _) ⟨_, e1⟩
  refine I1.laid (a := s.heap.objs.size + 1) (o := .ins C s.heap.objs.size []) (t' := s.toks) (fun b u q => Heap.get?_push_of_some _ q) (Nat.le_of_eq (Heap.size_push _ _)) ?_
  have ne : s.heap.objs.size ≠ s.heap.objs.size + 1 := Nat.ne_of_lt (Nat.lt_succ_self _)
  refine ⟨by rw [zam ne, zap], Nat.zero_le _, ne, e2, fun _ => none, (Heap.Ns1.of_empty e3).at fun o q => Heap.get?_push_of_some _ q, fun _ => True.intro, fun y hy => absurd rfl hy⟩
theorem zqc {prog : Program} {w : World} {env : Env} {e : Expr} {f : Str} {pos : Pos} {s : Shared} {Q : Value → Shared → Prop} (hb : attributeBase e f env (eval e env) = eval e env)
    (h : wpAny (model prog w) A (eval e env) (fun o s₁ => wpAny (model prog w) A (getAttr o f true) Q E s₁) E s) : wpAny (model prog w) A (eval (.Attribute e f pos) env) Q E s :=
  Attribute_any_ h (by rw [arm_eval_Attribute, hb])
end
def tFld (K : PySem.W.Frag) (ta : TE) (f : Str) : TE := fun σ H Q => ta σ H fun x H1 => ∃ a C dx fs v, x = .ref a ∧ H1 a = some (.ins C dx fs) ∧ Cls K C ∧ NoAttr K C f ∧ fs.lookup f = some v ∧ Q v H1
def sFld (K : PySem.W.Frag) (ta tv : TE) (f : Str) : TS := fun D σ H => tv σ H fun y H1 => ta σ H1 fun x H2 => ∃ a C dx fs, x = .ref a ∧ H2 a = some (.ins C dx fs) ∧ Cls K C ∧ NoAttr K C f ∧ fs.length < 1000 ∧
  D.nx σ (upd H2 a (.ins C dx (putF f y fs)))
section
variable {X : Cx} {o e value : Expr} {f : Str} {pos pos' tpos : Pos} {ta tv : TE}
theorem zcm (he : PE X e ta) (hb : attributeBase e f X.env (eval e X.env) = eval e X.env) : PE X (.Attribute e f pos) (tFld X.K ta f) := by
  intro pins s σ H Q I h
  refine zqc hb (thn (he pins s σ H _ I h) fun u s1 ⟨x, H1, I1, rx, a, C, dx, fs, v, ex, ea, c, n, l, q⟩ => ?_)
  subst ex
  obtain rfl : u = Value.ref a := rx
  exact zjm I1 ea c n l fun u' s2 I2 ru => ⟨v, H1, I2, ru, q⟩
theorem zib (ha : PE X o ta) (hv : PE X value tv) (hs : swapsWith value (some (.Attribute o f pos')) pos.line X.env = pure false) : PS X (.Assign [.Attribute o f pos'] value pos) (sFld X.K ta tv f) := by
  intro pins s σ H D I h
  refine plainObj_wpAny_Assign_Attribute (thn (hv pins s σ H _ I h) fun u s1 ⟨y, H1, I1, ry, q⟩ => thn (ha pins s1 σ H1 _ I1 q) fun ov s2 ⟨x, H2, I2, rx, a, C, dx, fs, ex, ea, c, n, l, q2⟩ => ?_) hs
  subst ex
  obtain rfl : ov = Value.ref a := rx
  exact ziz I2 ea c n l ry fun s3 I3 => ⟨σ, _, I3, q2⟩
end
section
variable {X : Cx} {pins : List (Addr × Obj)} {σ : St} {H : Hp} {s : Shared} {A : Around} {E : Value → Shared → Prop} {Q : Value → Shared → Prop} {c : Value} {b : Bool}
inductive TyOf (K : PySem.W.Frag) (H : Hp) : V → Value → Prop where
  | non : TyOf K H .non (.type "NoneType")
  | bl (x : Bool) : TyOf K H (.bl x) (.type "bool")
  | int (i : Int) : TyOf K H (.int i) (.type "int")
  | str (x : Str) : TyOf K H (.str x) (.type "str")
  | flt (x : UInt64) : TyOf K H (.flt x) (.type "float")
  | lst {a : Addr} {xs : List V} (e : H a = some (.lst xs)) : TyOf K H (.ref a) (.type "list")
  | frz {a : Addr} {o : Obj} {xs : List V} (e : H a = some (.frz o (.lst xs))) : TyOf K H (.ref a) (.type "list")
  | tup {a : Addr} {xs : List V} (e : H a = some (.tup xs)) : TyOf K H (.ref a) (.type "tuple")
  | dK {a : Addr} {kvs : List (Key × V)} (e : H a = some (.dK kvs)) : TyOf K H (.ref a) (.type "dict")
  | dT {a : Addr} {kvs : List (List Key × V)} (e : H a = some (.dT kvs)) : TyOf K H (.ref a) (.type "dict")
  | ins {a C dx : Addr} {fs : List (Str × V)} (e : H a = some (.ins C dx fs)) (cl : Cls K C) (ha : PySem.W.findIn K (.ref C) "__class__" = some (some (.builtin "object.__class__")))
      (hn : PySem.W.specialIn K (.builtin "object.__class__") "__get__" = some (some (.builtin "getset_descriptor.__get__"))) (htk : PySem.W.takesIn K (.builtin "object.__class__") = some true)
      (hm : PySem.W.mroIn K C (.type "object") = some true) : TyOf K H (.ref a) (.ref C)
theorem zlc {x : V} {u t : Value} (I : Inv X pins σ H s) (rx : RelV x u) (ty : TyOf X.K H x t) (e : PySem.W.kitOne X.K t c = some b) (h : ∀ tk, Q (.bool b) { s with toks := tk }) :
    wpAny (model X.prog X.w) A (call (.builtin "isinstance") [u, c]) Q E s := by
  cases ty with
  | non => cases (show u = Value.none from rx); exact PySem.W.kia_one PySem.W.kitx_none I.kIn True.intro e (fun z => nomatch z) h
  | bl y => cases (show u = Value.bool y from rx); exact PySem.W.kia_one PySem.W.kitx_bool I.kIn True.intro e (fun z => nomatch z) h
  | int i => obtain ⟨t, q⟩ := (show ∃ t, u = Value.int i t from rx); cases q; exact PySem.W.kia_one PySem.W.kitx_int I.kIn True.intro e (fun z => nomatch z) h
  | str y => obtain ⟨t, q⟩ := (show ∃ t, u = Value.str y t from rx); cases q; exact PySem.W.kia_one PySem.W.kitx_str I.kIn True.intro e (fun z => nomatch z) h
  | flt y => obtain ⟨t, q⟩ := (show ∃ t, u = Value.float y t from rx); cases q; exact PySem.W.kia_one PySem.W.kitx_float I.kIn True.intro e (fun z => nomatch z) h
  | @lst a xs ea =>
    cases (show u = Value.ref a from rx)
    obtain ⟨_, _, n, _, h1⟩ := (show ObjOk X.prog X.w H s.heap a (.lst xs) from I.hok a _ ea)
    exact PySem.W.kia_one PySem.W.kitx_list I.kIn ⟨_, h1, rfl⟩ e (fun z => nomatch z) h
  | @frz a ob xs ea =>
    cases (show u = Value.ref a from rx)
    obtain ⟨_, _, _, n, _, h1⟩ := (show ObjOk X.prog X.w H s.heap a (.frz ob (.lst xs)) from I.hok a _ ea)
    exact PySem.W.kia_one PySem.W.kitx_list I.kIn ⟨_, h1, rfl⟩ e (fun z => nomatch z) h
  | @tup a xs ea =>
    cases (show u = Value.ref a from rx)
    obtain ⟨_, _, _, p⟩ := (show ObjOk X.prog X.w H s.heap a (.tup xs) from I.hok a _ ea)
    obtain ⟨o, h1, h2, _⟩ := p
    exact PySem.W.kia_one PySem.W.kitx_tuple I.kIn ⟨o, h1, h2⟩ e (fun z => nomatch z) h
  | @dK a kvs ea =>
    cases (show u = Value.ref a from rx)
    obtain ⟨_, _, vs, _, p⟩ := (show ObjOk X.prog X.w H s.heap a (.dK kvs) from I.hok a _ ea)
    obtain ⟨o, es, ep, h1, h2, _⟩ := p
    exact PySem.W.kia_one PySem.W.kitx_dict I.kIn ⟨o, h1, h2.1⟩ e (fun z => nomatch z) h
  | @dT a kvs ea =>
    cases (show u = Value.ref a from rx)
    obtain ⟨_, _, xs, _, o, es, ep, h1, h2, _⟩ := (show ObjOk X.prog X.w H s.heap a (.dT kvs) from I.hok a _ ea)
    exact PySem.W.kia_one PySem.W.kitx_dict I.kIn ⟨o, h1, h2.1⟩ e (fun z => nomatch z) h
  | @ins a C dx fs ea cl ha hn htk hm =>
    cases (show u = Value.ref a from rx)
    obtain ⟨mA, O, _⟩ := zfm I.hok ea
    obtain ⟨od, J, _⟩ := O.look
    exact PySem.W.kia_one (PySem.W.kitx_own (cl.get _) cl.hd ha hn htk hm) I.kIn J e (fun z => nomatch z) h
end
structure Room (k : Nat) (A : Around) : Prop where
  hd : A.handled = none
  dp : A.depth + 3 * k + 5 < recursionLimit
  un : A.units + 16 * k + 200 < cLine
theorem Room.mono {j k : Nat} {A : Around} (r : Room k A) (h : j ≤ k) : Room j A := ⟨r.hd, by have := r.dp; omega, by have := r.un; omega⟩
theorem Room.deeper {k : Nat} {A : Around} (r : Room (k + 1) A) (env : Env) : Room k (A.deeper env) :=
  ⟨r.hd, by have := r.dp; show A.depth + 1 + 3 * k + 5 < _; omega, by have := r.un; show A.units + 3 + 16 * k + 200 < _; omega⟩
theorem zjg {A : Around} {C : Addr} {us : List Value} {kw : List (Str × Value)} : (A.under (.builtin "type.__call__" ⟨.ref C :: us, kw⟩)).depth = A.depth + 1 := by
  first | rfl | simp [Around.under, Code.weight, Code.isCreation, Code.isGuard, Code.isCaller, Code.frames, Code.isFrame, guardIds]
theorem zjf {A : Around} {C : Addr} {us : List Value} {kw : List (Str × Value)} : (A.under (.builtin "type.__call__" ⟨.ref C :: us, kw⟩)).units = A.units + 1 := by
  first | rfl | simp [Around.under, Code.cUnits, Code.frames, Code.isFrame]
theorem Room.make {k : Nat} {A : Around} (r : Room (k + 1) A) (C : Addr) (us : List Value) (kw : List (Str × Value)) : Room k (A.under (.builtin "type.__call__" ⟨.ref C :: us, kw⟩)) :=
  ⟨r.hd, by have := r.dp; rw [zjg]; omega, by have := r.un; rw [zjf]; omega⟩
theorem Room.depth {k : Nat} {A : Around} (r : Room k A) : A.depth < recursionLimit := by have := r.dp; omega
theorem Room.units {k : Nat} {A : Around} (r : Room k A) : A.units + 64 < cLine := by have := r.un; omega
def tNil : TA := fun _ H Q => Q [] H
def tCons (ta : TE) (tr : TA) : TA := fun σ H Q => ta σ H fun x H1 => tr σ H1 fun xs H2 => Q (x :: xs) H2
section
variable {X : Cx} {e : Expr} {es : List Expr} {te : TE} {t : TA} {pos : Pos}
theorem zab : PA X [] tNil := fun _ _ _ _ H Q I h => Calls.spliced_nil ⟨[], H, I, .nil, h⟩
theorem zpg (ha : PE X e te) (hr : PA X es t) (hs : starEach (e :: es) X.env = (false, eval e X.env) :: starEach es X.env := by rfl) : PA X (e :: es) (tCons te t) := by
  intro pos pins s σ H Q I h
  rw [hs]
  show wpAny _ _ (spliced ((false, eval e X.env) :: backTo pos (starEach es X.env))) _ _ s
  refine Calls.spliced_cons (thn (ha pins s σ H _ I h) fun u s1 ⟨x, H1, I1, r1, q1⟩ => ?_)
  exact thn (hr pos pins s1 σ H1 _ I1 q1) fun us s2 ⟨xs, H2, I2, r2, q2⟩ => ⟨x :: xs, H2, I2, .cons r1 r2, q2⟩
def tTup (t : TA) : TE := fun σ H Q => t σ H fun xs H1 => xs.length ≤ sizeLine ∧ ∀ p, H1 p = none → Q (.ref p) (upd H1 p (.tup xs))
def tLst (t : TA) : TE := fun σ H Q => t σ H fun xs H1 => xs.length ≤ sizeLine ∧ ∀ p, H1 p = none → Q (.ref p) (upd H1 p (.lst xs))
end
abbrev Sp := List V → Hp → VK → XK → Prop
abbrev CXT := List Env → Hp → Shared → XK → Value → Shared → Prop
structure Env0 (P : Program) (w : World) (K : PySem.W.Frag) (mg : Str → Option Value) (base : Heap) (A : Around) (outer : List Env) (s : Shared) (H : Hp) : Prop where
  frames : A.frames = some outer
  mod : Mod K mg base
  bs : ∀ b o, base.get? b = some o → s.heap.get? b = some o ∧ H b = none
  bsz : base.objs.size ≤ s.heap.objs.size
  funs : s.heap.FunFrames base outer
  frf : ∀ b ∈ frs outer, H b = none
  hok : HOk P w H s.heap
  bare : AllBare s.gens
def CE (outer : List Env) (P : Program) (w : World) (H : Hp) (s : Shared) (Q : VK) (u : Value) (s' : Shared) : Prop :=
  ∃ v H', s'.os = s.os ∧ AllBare s'.gens ∧ Un (frs outer) [] H H' s.heap s'.heap ∧ HOk P w H' s'.heap ∧ RelV v u ∧ Q v H'
def CR (CX : CXT) (outer : List Env) (P : Program) (w : World) (H : Hp) (s : Shared) (Q : VK) (E : XK) (r : Result) (s' : Shared) : Prop :=
  match r with
  | .ok (.ret u) => CE outer P w H s Q u s'
  | .ok _ => False
  | .error e => CX outer H s E e s'
structure FnOk (P : Program) (w : World) (K : PySem.W.Frag) (mg : Str → Option Value) (base : Heap) (CX : CXT) (k : Nat) (f : Addr) (fd : FuncData) (ps : List Str) (sp : Sp) : Prop where
  len : ∀ vs H Q E, sp vs H Q E → vs.length = ps.length
  run : ∀ (A : Around) (outer : List Env) (s : Shared) (H : Hp) (args : Args) (us : List Value) (vs : List V) (Q : VK) (E : XK), Room k A → Env0 P w K mg base A outer s H → BindsTo s fd args (ps.zip us) → Vals vs us → sp vs H Q E →
    codeAny (model P w) A (.call (.ref f) args) (CR CX outer P w H s Q E) s
theorem FnOk.mono {P : Program} {w : World} {K : PySem.W.Frag} {mg : Str → Option Value} {base : Heap} {CX : CXT} {j k : Nat} {f : Addr} {fd : FuncData} {ps : List Str} {sp : Sp} (F : FnOk P w K mg base CX j f fd ps sp) (h : j ≤ k) :
    FnOk P w K mg base CX k f fd ps sp := ⟨F.len, fun A outer s H args us vs Q E hr => F.run A outer s H args us vs Q E (hr.mono h)⟩
theorem Env0.make {P : Program} {w : World} {K : PySem.W.Frag} {mg : Str → Option Value} {base : Heap} {A : Around} {outer : List Env} {s : Shared} {H : Hp} (e : Env0 P w K mg base A outer s H) (C : Addr) (us : List Value) (kw : List (Str × Value)) :
    Env0 P w K mg base (A.under (.builtin "type.__call__" ⟨.ref C :: us, kw⟩)) outer s H := ⟨by first | exact e.frames | (simpa [Around.under, Code.envs, Code.isFrame, pushEnvs] using e.frames), e.mod, e.bs, e.bsz, e.funs, e.frf, e.hok, e.bare⟩
section
variable {X : Cx} {pins : List (Addr × Obj)} {σ : St} {H : Hp} {s s' : Shared}
theorem Inv.env0 (I : Inv X pins σ H s) : Env0 X.prog X.w X.K X.mg X.base X.A X.stack s H :=
  ⟨I.ok.frames, I.ok.mod, I.bs, Nat.le_trans I.ok.bsz I.sz, I.stack, I.stkFree, I.hok, I.bare⟩
theorem Inv.after {Q : VK} {u : Value} (I : Inv X pins σ H s) (h : CE X.stack X.prog X.w H s Q u s') : EP X pins σ Q u s' := by
  obtain ⟨v, H', os, bare, un, hok, r, q⟩ := h
  obtain ⟨hh, g, d, t, os'⟩ := s'
  obtain rfl : os' = s.os := os
  exact ⟨v, H', I.call (h' := hh) (g' := g) (d' := d) (t' := t) (ch := []) un hok bare (fun b z => absurd z (by simp)), r, q⟩
end
def tCall (sp : Sp) (dvs : List V) (E : XK) (t : TA) : TE := fun σ H Q => t σ H fun vs H1 => sp (vs ++ dvs) H1 Q E
def tMeth (C : Addr) (m : Str) (sp : Sp) (dvs : List V) (E : XK) (ta : TE) (t : TA) : TE := fun σ H Q => ta σ H fun x H1 => ∃ a dx fs, x = .ref a ∧ H1 a = some (.ins C dx fs) ∧ fs.lookup m = none ∧
  t σ H1 fun vs H2 => sp (x :: (vs ++ dvs)) H2 Q E
def tMake (C : Addr) (sp : Sp) (dvs : List V) (E : XK) (t : TA) : TE := fun σ H Q => t σ H fun vs H1 => ∀ x dx, H1 x = none → H1 dx = none → dx ≠ x →
  sp (.ref x :: (vs ++ dvs)) (upd (upd H1 dx (.own x)) x (.ins C dx [])) (fun v H2 => v = .non ∧ Q (.ref x) H2) E
def Binds (K : PySem.W.Frag) (fd : FuncData) (ps : List Str) (ds : List Value) : Prop :=
  ∀ (s : Shared) (us : List Value), K.In s.heap → (us ++ ds).length = ps.length → BindsTo s fd ⟨us, []⟩ (ps.zip (us ++ ds))
theorem Binds.all {K : PySem.W.Frag} {fd : FuncData} {ps : List Str} (h : ∀ us : List Value, us.length = ps.length → bindArgs fd ⟨us, []⟩ = pure (ps.zip us)) : Binds K fd ps [] := fun s us _ hl => by
  rw [List.append_nil] at hl ⊢
  exact .of_eq (h us hl)
def Passes (CX : CXT) (X : Cx) (E : XK) : Prop := ∀ (pins : List (Addr × Obj)) (σ : St) (H : Hp) (s : Shared) (e : Value) (s' : Shared), Inv X pins σ H s → CX X.stack H s E e s' → X.xe e s'
section
variable {X : Cx} {CX : CXT} {k : Nat} {f C : Addr} {fd : FuncData} {ps : List Str} {sp : Sp} {dvs : List V} {ds : List Value} {E : XK} {x m : Str} {p pos apos : Pos} {e o : Expr} {es : List Expr} {ta : TE} {t : TA}
theorem zn5 {pins : List (Addr × Obj)} {σ : St} {H : Hp} {s : Shared} {Q : VK} {us : List Value} {vs : List V} (F : FnOk X.prog X.w X.K X.mg X.base CX k f fd ps sp) (hr : Room k X.A) (hb : Binds X.K fd ps ds) (hd : Vals dvs ds) (hx : Passes CX X E)
    (I : Inv X pins σ H s) (r : Vals vs us) (h : sp (vs ++ dvs) H Q E) : wpAny (model X.prog X.w) X.A (call (.ref f) us) (EP X pins σ Q) X.xe s := by
  have r2 : Vals (vs ++ dvs) (us ++ ds) := r.append hd
  have hl : (us ++ ds).length = ps.length := by rw [← r2.length]; exact F.len _ _ _ _ h
  refine wpAny_call (codeAny_mono (F.run X.A X.stack s H ⟨us, []⟩ (us ++ ds) (vs ++ dvs) Q E hr I.env0 (hb s us I.kIn hl) r2 h) fun r s' hq => ?_)
  cases r with
  | error e => exact hx pins σ H s e s' I hq
  | ok fl =>
    cases fl with
    | ret u => exact I.after hq
    | next => exact False.elim hq
    | brk => exact False.elim hq
    | cont => exact False.elim hq
theorem zpe (F : FnOk X.prog X.w X.K X.mg X.base CX k f fd ps sp) (hr : Room k X.A) (hg : Gl X x) (hm : X.mg x = some (.ref f)) (hk : PySem.W.keepIn X.K (.ref f) = true) (hb : Binds X.K fd ps ds) (hd : Vals dvs ds) (hx : Passes CX X E)
    (ha : PA X (e :: es) t) (hdb : (x == ("__debug__" : Str)) = false := by decide) (he : starEach (e :: es) X.env = (false, eval e X.env) :: starEach es X.env := by rfl) (hpl : (backTo pos (starEach es X.env)).any (·.1) = false := by rfl) :
    PE X (.Call (.Name x p) (e :: es) [] pos) (tCall sp dvs E t) := by
  intro pins s σ H Q I h
  refine wpAny_Call_Name_kw (zfl I hg hm ?_ hdb)
  refine PySem.W.callWith_K (h₀ := X.base) I.ok.mod.kin hk (thn (ha pos pins s σ H _ I h) fun us s1 ⟨vs, H1, I1, r, q⟩ => ⟨I1.kIn, ?_⟩) he hpl
  exact zn5 F hr hb hd hx I1 r q
theorem zpb {pl : Sem Bool} (he : PE X o ta) (c : Cls X.K C) (hm : Meth X.K C m f) (F : FnOk X.prog X.w X.K X.mg X.base CX k f fd ps sp) (hr : Room k X.A) (hb : Binds X.K fd ps ds) (hd : Vals dvs ds) (hx : Passes CX X E) (ha : PA X (e :: es) t)
    (hst : starEach (e :: es) X.env = (false, eval e X.env) :: starEach es X.env := by rfl) (hpl : (backTo pos (starEach es X.env)).any (·.1) = false := by rfl)
    (ht : eval (.Call (.Attribute o m apos) (e :: es) [] pos) X.env = (do
      let ov ← eval o X.env
      standAt apos.atName
      let (f, first) ← holding [ov] (getMethod ov m pl)
      callWith pos f first (backTo pos (starEach (e :: es) X.env)) (backToKw pos (keywordEach [] X.env))) := by rfl) :
    PE X (.Call (.Attribute o m apos) (e :: es) [] pos) (tMeth C m sp dvs E ta t) := by
  intro pins s σ H Q I h
  refine PySem.W.methodCall_KW (pl := pl) (thn (he pins s σ H _ I h) fun u s1 ⟨x, H1, I1, rx, a, dx, fs, ex, ea, l, q⟩ => ?_) ht
  subst ex
  obtain rfl : u = Value.ref a := rx
  refine zjl I1 ea c hm l ?_
  refine PySem.W.callWith_K (first := [.ref a]) (h₀ := X.base) I.ok.mod.kin hm.kp (thn (ha pos pins s1 σ H1 _ I1 q) fun us s2 ⟨vs, H2, I2, r, q2⟩ => ⟨I2.kIn, ?_⟩) hst hpl
  exact zn5 (us := .ref a :: us) (vs := .ref a :: vs) F hr hb hd hx I2 (.cons rfl r) q2
structure Mk (K : PySem.W.Frag) (C f : Addr) : Prop where
  makes : PySem.W.makesIn K C = true
  init : PySem.W.findIn K (.ref C) "__init__" = some (some (.ref f))
  fn : PySem.W.isFn K (.ref f) = true
  kp : PySem.W.keepIn K (.ref C) = true
theorem zml {pins : List (Addr × Obj)} {σ : St} {H : Hp} {s : Shared} {Q : VK} {us : List Value} {vs : List V} (M : Mk X.K C f) (F : FnOk X.prog X.w X.K X.mg X.base CX k f fd ps sp) (hr : Room (k + 1) X.A) (hb : Binds X.K fd ps ds) (hd : Vals dvs ds)
    (hx : Passes CX X E) (I : Inv X pins σ H s) (r : Vals vs us)
    (h : ∀ x dx, H x = none → H dx = none → dx ≠ x → sp (.ref x :: (vs ++ dvs)) (upd (upd H dx (.own x)) x (.ins C dx [])) (fun v H2 => v = .non ∧ Q (.ref x) H2) E) :
    wpAny (model X.prog X.w) X.A (call (.ref C) us) (EP X pins σ Q) X.xe s := by
  have hq := h (s.heap.objs.size + 1) s.heap.objs.size (I.hok.fresh (Nat.le_succ _)) (I.hok.fresh (Nat.le_refl _)) (Nat.ne_of_lt (Nat.lt_succ_self _))
  have I2 := Inv.made (C := C) I
  have r2 : Vals (V.ref (s.heap.objs.size + 1) :: (vs ++ dvs)) (Value.ref (s.heap.objs.size + 1) :: (us ++ ds)) := .cons rfl (r.append hd)
  have hl : (Value.ref (s.heap.objs.size + 1) :: us ++ ds).length = ps.length := by
    have e := r2.length
    rw [F.len _ _ _ _ hq] at e
    exact e.symm
  refine wpAny_call (zni (f := f) I.kIn M.makes M.init (beq_iff_eq.mp M.fn) (codeAny_mono (F.run _ X.stack _ _ ⟨Value.ref (s.heap.objs.size + 1) :: us, []⟩ (Value.ref (s.heap.objs.size + 1) :: (us ++ ds)) _ _ E (hr.make C us [])
    (I2.env0.make C us []) (hb _ (Value.ref (s.heap.objs.size + 1) :: us) I2.kIn hl) r2 hq) fun r s' hq' => ?_))
  cases r with
  | error e => exact hx pins σ _ _ e s' I2 hq'
  | ok fl =>
    cases fl with
    | ret u =>
      obtain ⟨v, H', I3, rv, ev, q3⟩ := I2.after hq'
      subst ev
      exact ⟨rv, ⟨V.ref (s.heap.objs.size + 1), H', I3, rfl, q3⟩⟩
    | next => exact False.elim hq'
    | brk => exact False.elim hq'
    | cont => exact False.elim hq'
theorem zmx (M : Mk X.K C f) (F : FnOk X.prog X.w X.K X.mg X.base CX k f fd ps sp) (hr : Room (k + 1) X.A) (hg : Gl X x) (hm : X.mg x = some (.ref C)) (hb : Binds X.K fd ps ds) (hd : Vals dvs ds) (hx : Passes CX X E)
    (hdb : (x == ("__debug__" : Str)) = false := by decide) : PE X (.Call (.Name x p) [] [] pos) (tMake C sp dvs E tNil) := by
  intro pins s σ H Q I h
  refine wpAny_Call_Name_kw (zfl I hg hm ?_ hdb)
  exact PySem.W.callWith_K0 I.kIn M.kp (zml (us := []) M F hr hb hd hx I .nil h)
end
structure FnScope (N P : List Str) (sc : Scope) : Prop where
  kind : sc.kind = .function
  co : sc.isCoroutine = false
  gen : sc.isGenerator = false
  nd : N.Nodup
  pre : N.take P.length = P
  par : ∀ x ∈ P, sc.names.lookup x = some .local ∨ sc.names.lookup x = some .cell
  nofree : ∀ y ∈ sc.names, y.2 ≠ .free
theorem zgp {kindOf : Str → Option NameKind} {x : Str} : ∀ {binds : List (Str × Value)} {m : Str → Option Value}, (∀ v, (x, v) ∉ binds) → bindL kindOf binds m x = m x
  | [], _, _ => rfl
  | (n, v) :: r, m, h => by
    unfold bindL
    rw [zgp fun w hw => h w (List.mem_cons_of_mem _ hw)]
    split
    · have : x ≠ n := by rintro rfl; exact h v List.mem_cons_self
      simp [this]
    · rfl
theorem zgr {kindOf : Str → Option NameKind} {x : Str} : ∀ {binds : List (Str × Value)} {m : Str → Option Value}, (∀ v, (x, v) ∉ binds) → bindC kindOf binds m x = m x
  | [], _, _ => rfl
  | (n, v) :: r, m, h => by
    unfold bindC
    rw [zgr fun w hw => h w (List.mem_cons_of_mem _ hw)]
    split
    · rfl
    · have : x ≠ n := by rintro rfl; exact h v List.mem_cons_self
      simp [this]
theorem zgq {kindOf : Str → Option NameKind} {x : Str} {v : Value} : ∀ {P : List Str} {vs : List Value} {i : Nat} {m : Str → Option Value}, P.Nodup → P[i]? = some x → vs[i]? = some v → kindOf x = some .local →
    bindL kindOf (P.zip vs) m x = some v
  | [], _, _, _, _, h, _, _ => by simp at h
  | _ :: _, [], _, _, _, _, h, _ => by simp at h
  | p :: P, w :: vs, 0, m, nd, h1, h2, hk => by
    simp at h1 h2; subst h1; subst h2
    show bindL kindOf ((p, w) :: P.zip vs) m p = _
    unfold bindL
    rw [zgp fun v hv => (List.nodup_cons.mp nd).1 (List.of_mem_zip hv).1, if_pos hk]
    simp
  | p :: P, w :: vs, i + 1, m, nd, h1, h2, hk => by
    show bindL kindOf ((p, w) :: P.zip vs) m x = _
    unfold bindL
    exact zgq (i := i) (List.nodup_cons.mp nd).2 (by simpa using h1) (by simpa using h2) hk
theorem zgs {kindOf : Str → Option NameKind} {x : Str} {v : Value} : ∀ {P : List Str} {vs : List Value} {i : Nat} {m : Str → Option Value}, P.Nodup → P[i]? = some x → vs[i]? = some v → kindOf x ≠ some .local →
    bindC kindOf (P.zip vs) m x = some v
  | [], _, _, _, _, h, _, _ => by simp at h
  | _ :: _, [], _, _, _, _, h, _ => by simp at h
  | p :: P, w :: vs, 0, m, nd, h1, h2, hk => by
    simp at h1 h2; subst h1; subst h2
    show bindC kindOf ((p, w) :: P.zip vs) m p = _
    unfold bindC
    rw [zgr fun v hv => (List.nodup_cons.mp nd).1 (List.of_mem_zip hv).1, if_neg hk]
    simp
  | p :: P, w :: vs, i + 1, m, nd, h1, h2, hk => by
    show bindC kindOf ((p, w) :: P.zip vs) m x = _
    unfold bindC
    exact zgs (i := i) (List.nodup_cons.mp nd).2 (by simpa using h1) (by simpa using h2) hk
def start (N : List Str) (vs : List V) : St := vs.map some ++ List.replicate (N.length - vs.length) none
def cxOf (CX : CXT) (P : Program) (w : World) (K : PySem.W.Frag) (mg : Str → Option Value) (base : Heap) (N : List Str) (qual : Str) (scope : Scope) (f : Addr) (cd : Value) (A : Around) (outer : List Env) (s : Shared) (H : Hp) (E : XK) : Cx where
  prog := P
  w := w
  K := K
  mg := mg
  base := base
  A := A.deeper (envOfC qual scope s.heap.objs.size f cd)
  N := N
  s₀ := s
  H₀ := H
  env := envOfC qual scope s.heap.objs.size f cd
  outer := outer
  stack := envOfC qual scope s.heap.objs.size f cd :: outer
  ex := []
  calm := true
  fn := fun _ => true
  pn := []
  xe := fun e s' => wpAny (model P w) (A.deeper (envOfC qual scope s.heap.objs.size f cd)) (leaving (envOfC qual scope s.heap.objs.size f cd) e) (fun _ s'' => CX outer H s E e s'') (fun e' s'' => CX outer H s E e' s'') s'
theorem zir {sc : Scope} {n : Nat} {x : Str} (h : sc.names.lookup x = some .cell) : ∃ c, (cellsFrom n sc.names []).lookup x = some c := by
  have q := PySem.W.cellsFrom_some sc.names n [] (.inl h)
  exact Option.isSome_iff_exists.mp q
theorem zld {CX : CXT} {P : Program} {w : World} {K : PySem.W.Frag} {mg : Str → Option Value} {base : Heap} {N ps : List Str} {qual : Str} {scope : Scope} {f : Addr} {cd : Value} {A : Around} {outer : List Env} {s s1 : Shared} {H : Hp} {E : XK} {us : List Value} {vs : List V}
    (S : FnScope N ps scope) (hd : A.handled = none) (e0 : Env0 P w K mg base A outer s H) (hl : vs.length = ps.length) (r : Vals vs us)
    (x : InCallC s s.heap.objs.size (bindL (envOfC qual scope s.heap.objs.size f cd).kindOf (ps.zip us) fun _ => none) (cellsFrom (s.heap.objs.size + 1) scope.names []) (bindC (envOfC qual scope s.heap.objs.size f cd).kindOf (ps.zip us) fun _ => none) s1) :
    Inv (cxOf CX P w K mg base N qual scope f cd A outer s H E) [] (start N vs) H s1 := by
  have hpl : ps.length ≤ N.length := by have := congrArg List.length S.pre; rw [List.length_take] at this; omega
  obtain ⟨h1, tk, rfl, hk⟩ := x.done
  have noA : ∀ b : Addr, b ∉ (cxOf CX P w K mg base N qual scope f cd A outer s H E).ex := fun b z => absurd (show b ∈ ([] : List Addr) from z) (by simp)
  refine ⟨⟨e0.mod, S.kind, rfl, rfl, Nat.le_refl _, fun y z c h1 h2 => ?_, fun y hy => ?_, fun y c _ h => ?_, fun _ => hd, Around.frames_deeper e0.frames, .inr ⟨rfl, rfl⟩, fun b z => absurd z (noA b), e0.bs, e0.bsz, fun b _ _ => noA b, fun b z => absurd z (noA b), e0.funs, e0.frf⟩,
    rfl, e0.bare, Un.kept hk, ⟨_, x.toInCall.ns, fun i y v h1 h2 h3 => ?_⟩, fun y c h => ⟨_, x.cell y c h⟩, e0.hok.fresh (Nat.le_refl _), fun y c h => ?_, fun p hp => absurd (show p ∈ ([] : List (Addr × Obj)) from hp) (by simp), e0.hok.kept hk, ?_⟩
  · exact name_of_addr x.apart (PySem.mem_of_lookup h1) (PySem.mem_of_lookup h2)
  · have hy : scope.names.lookup y = some .cell ∨ scope.names.lookup y = some .free := hy
    rcases hy with hy | hy
    · exact zir hy
    · exact absurd rfl (S.nofree _ (PySem.mem_of_lookup hy))
  · exact Nat.le_of_lt (x.above y c (PySem.mem_of_lookup h))
  · have hi : i < vs.length := by
      unfold start at h2
      by_cases hi : i < vs.length
      · exact hi
      · rw [List.getElem?_append_right (by simpa using hi)] at h2
        rw [List.getElem?_replicate] at h2
        split at h2 <;> cases h2
    have ha : vs[i]? = some v := by
      unfold start at h2
      rw [List.getElem?_append_left (by simpa using hi), List.getElem?_map] at h2
      cases e : vs[i]? with
      | none => rw [e] at h2; cases h2
      | some a => rw [e] at h2; cases h2; rfl
    obtain ⟨u, hu, rv⟩ := r.get ha
    have hp : ps[i]? = some y := by
      rw [← S.pre, List.getElem?_take_of_lt (by omega)]; exact h1
    have ndP : ps.Nodup := by rw [← S.pre]; exact S.nd.sublist (List.take_sublist _ _)
    refine ⟨u, rv, ?_⟩
    rcases S.par y (List.mem_of_getElem? hp) with k | k
    · exact .inl ⟨k, zgq ndP hp hu k⟩
    · obtain ⟨c, e⟩ := zir (n := s.heap.objs.size + 1) k
      refine .inr ⟨.inl k, c, e, ?_⟩
      have q := x.cell y c e
      rw [zgs ndP hp hu (by show scope.names.lookup y ≠ _; rw [k]; decide)] at q
      exact q
  · exact e0.hok.fresh (Nat.le_of_lt (x.above y c (PySem.mem_of_lookup h)))
  · unfold start
    show _ = N.length
    rw [List.length_append, List.length_map, List.length_replicate]
    omega
theorem zrb {CX : CXT} {P : Program} {w : World} {K : PySem.W.Frag} {mg : Str → Option Value} {base : Heap} {k : Nat} {f : Addr} {name qual : Str} {params : Arguments} {body : List Stmt} {scope : Scope} {dV kV doc pm cdv ct oc : Value} {an od : Option Addr}
    {osl : Array (Option Value)} {N ps : List Str} {sp : Sp} (lk : K.lookup f = some ⟨oc, od, .func (PySem.W.fnOf name qual params body scope dV kV doc pm an cdv ct), osl⟩) (hcd : PySem.W.codeIn K cdv qual = true) (S : FnScope N ps scope)
    (len : ∀ vs H Q E, sp vs H Q E → vs.length = ps.length)
    (hbody : ∀ (A : Around) (outer : List Env) (s : Shared) (H : Hp) (vs : List V) (Q : VK) (E : XK), Room k (A.deeper (envOfC qual scope s.heap.objs.size f cdv)) → sp vs H Q E →
      ∃ t, PSs (cxOf CX P w K mg base N qual scope f cdv A outer s H E) body t ∧ t { nx := fun _ H' => Q .non H', rt := Q } (start N vs) H) :
    FnOk P w K mg base CX (k + 1) f (PySem.W.fnOf name qual params body scope dV kV doc pm an cdv ct) ps sp := by
  refine ⟨len, fun A outer s H args us vs Q E hr e0 hb r hsp => ?_⟩
  have hl := len _ _ _ _ hsp
  have KX : K.In s.heap := e0.mod.kin.keeps fun b o e => (e0.bs b o e).1
  have lim : s.heap.NoLimit := e0.mod.nolimit.keeps fun b o e => (e0.bs b o e).1
  have hkind : ∀ y ∈ ps.zip us, scope.names.lookup y.1 = some .local ∨ (scope.names.lookup y.1 = some .cell ∧ ((cellsFrom (s.heap.objs.size + 1) scope.names []).lookup y.1).isSome = true) := fun ⟨n, v⟩ hy => by
    rcases S.par n (List.of_mem_zip hy).1 with q | q
    · exact .inl q
    · exact .inr ⟨q, PySem.W.cellsFrom_some _ _ _ (.inl q)⟩
  refine codeAny_call_function hr.depth (KX _ _ lk) rfl S.co S.gen rfl (PySem.W.codeRec_of KX hcd) (hb _ _ _ _ ?_)
  refine wpAny_newFunctionEnv_cells S.kind hkind fun env he s1 x => ?_
  subst he
  refine ⟨lim.keeps x.toInCall.keep, codeAny_func ?_⟩
  obtain ⟨t, ht, hq⟩ := hbody A outer s H vs Q E (hr.deeper _) hsp
  have I : Inv (cxOf CX P w K mg base N qual scope f cdv A outer s H E) [] (start N vs) H s1 := zld S hr.hd e0 hl r x
  refine wpAny_mono (ht [] s1 (start N vs) H _ I hq) (fun fl s' hs => ?_) fun e s' hs => hs
  have fin : ∀ {σ' : St} {H' : Hp} {v : V} {u : Value}, Inv (cxOf CX P w K mg base N qual scope f cdv A outer s H E) [] σ' H' s' → RelV v u → Q v H' → CE outer P w H s Q u s' :=
    fun {σ' H' v u} J rv q => ⟨v, H', J.os, J.bare, J.base, J.hok, rv, q⟩
  cases fl with
  | ret u =>
    obtain ⟨v, σ', H', J, rv, q⟩ := hs
    exact fin J rv q
  | next =>
    obtain ⟨σ', H', J, q⟩ := hs
    exact fin (v := V.non) (u := Value.none) J rfl q
  | brk =>
    obtain ⟨_, _, _, q⟩ := hs
    exact False.elim q
  | cont =>
    obtain ⟨_, _, _, q⟩ := hs
    exact False.elim q
section
variable {X : Cx} {x : Str} {p pos : Pos} {e : Expr} {es : List Expr} {t : TA} {id T : String} {r : List V → Hp → VK → Prop}
def tCB (r : List V → Hp → VK → Prop) (t : TA) : TE := fun σ H Q => t σ H fun vs H1 => r vs H1 Q
theorem zm1 (hc : CallR X (.builtin id) r) (hg : Gl X x) (hm : X.mg x = none) (hv : bootBuiltins x = some (.builtin id)) (ha : PA X (e :: es) t) (hn : x ≠ "__name__" := by decide) (hdb : (x == ("__debug__" : Str)) = false := by decide)
    (he : starEach (e :: es) X.env = (false, eval e X.env) :: starEach es X.env := by rfl) (hpl : (backTo pos (starEach es X.env)).any (·.1) = false := by rfl) : PE X (.Call (.Name x p) (e :: es) [] pos) (tCB r t) := by
  intro pins s σ H Q I h
  refine wpAny_Call_Name_kw (zex I hg hm hv ?_ hn hdb)
  exact PyProof.Rows.callWith_builtin1 (thn (ha pos pins s σ H _ I h) fun us s1 ⟨vs, H1, I1, r1, q1⟩ => hc pins s1 σ H1 vs us Q I1 r1 q1) he hpl
theorem zkl (hc : CallR X (.type T) r) (hg : Gl X x) (hm : X.mg x = none) (hv : bootBuiltins x = some (.type T)) (ha : PA X (e :: es) t) (hn : x ≠ "__name__" := by decide) (hdb : (x == ("__debug__" : Str)) = false := by decide)
    (he : starEach (e :: es) X.env = (false, eval e X.env) :: starEach es X.env := by rfl) (hpl : (backTo pos (starEach es X.env)).any (·.1) = false := by rfl) : PE X (.Call (.Name x p) (e :: es) [] pos) (tCB r t) := by
  intro pins s σ H Q I h
  refine wpAny_Call_Name_kw (zex I hg hm hv ?_ hn hdb)
  exact PyProof.Rows.callWith_type1 (thn (ha pos pins s σ H _ I h) fun us s1 ⟨vs, H1, I1, r1, q1⟩ => hc pins s1 σ H1 vs us Q I1 r1 q1) he hpl
end
end L2
namespace HT
open PySem PyProof.Rows
section
open PySem.SeqAt
open PySem.AutoSeq1 (wpAny_loadPart')
open PySem.MeetsSeq PySem.MeetsSeq2 PySem.MeetsSeq3
end
section
variable {prog : Program} {w : World} {A : Around} {E : Value → Shared → Prop} {s : Shared}
def sIx (n d : Nat) : Option Int → Nat
  | none => d
  | some v => if v < 0 then (v + (n : Int)).toNat else min v.toNat n
theorem sIx_none (n d : Nat) : sIx n d none = d := rfl
theorem sIx_nat (n d k : Nat) : sIx n d (some (k : Int)) = min k n := by
  show (if (k : Int) < 0 then ((k : Int) + (n : Int)).toNat else min (k : Int).toNat n) = min k n
  rw [if_neg (by omega), Int.toNat_natCast]
theorem sIx_le (n d : Nat) (hd : d ≤ n) (o : Option Int) : sIx n d o ≤ n := by
  cases o with
  | none => exact hd
  | some v =>
    show (if v < 0 then (v + (n : Int)).toNat else min v.toNat n) ≤ n
    by_cases hv : v < 0
    · rw [if_pos hv]; omega
    · rw [if_neg hv]; exact Nat.min_le_right _ _
theorem clip_eq (v : Int) (n d : Nat) : (if v < 0 then max (v + (n : Int)) 0 else min v (n : Int)) = ((sIx n d (some v) : Nat) : Int) := by
  show (if v < 0 then max (v + (n : Int)) 0 else min v (n : Int)) = (((if v < 0 then (v + (n : Int)).toNat else min v.toNat n) : Nat) : Int)
  by_cases hv : v < 0
  · simp only [if_pos hv]; omega
  · simp only [if_neg hv]; omega
theorem zjr (lo hi : Option Int) (n : Nat) : Builtin.Slice.sliceAdjust lo hi 1 (n : Int) = (((sIx n 0 lo : Nat) : Int), ((sIx n n hi : Nat) : Int)) := by
  have h1 : ¬ ((1 : Int) < 0) := by omega
  unfold Builtin.Slice.sliceAdjust
  simp only [h1, if_false]
  refine Prod.ext ?_ ?_
  · cases lo with
    | none => rfl
    | some v => exact clip_eq v n 0
  · cases hi with
    | none => rfl
    | some v => exact clip_eq v n n
theorem zi6 (i j : Nat) : Builtin.Slice.slicePlaces (i : Int) (j : Int) 1 = j - i := by
  unfold Builtin.Slice.slicePlaces
  have h1 : (1 : Int) > 0 := by omega
  simp only [h1, if_true, Int.ediv_one]
  split <;> omega
theorem zep {v : Value} {o : Option Int} {Q : Option Int → Shared → Prop} (p : IsPart v o) (h : Q o s) : wpAny (model prog w) A (Builtin.Slice.slicePartIndex v) Q E s := by
  cases p with
  | none => exact slicePart_none h
  | int i t => exact slicePart_int h
theorem zdf {sl : Addr} {vl vu : Value} {lo hi : Option Int} {n : Nat} {Q : Int × Int × Nat → Shared → Prop} (hs : s.heap.IsSliceOf sl vl vu .none) (pl : IsPart vl lo) (pu : IsPart vu hi)
    (h : Q (((sIx n 0 lo : Nat) : Int), 1, sIx n n hi - sIx n 0 lo) s) : wpAny (model prog w) A (Builtin.Slice.sliceApplied (.ref sl) (pure (n : Int))) Q E s := by
  obtain ⟨os, hos, hcs, hds⟩ := id hs
  unfold Builtin.Slice.sliceApplied Builtin.Slice.sliceFields
  refine wpAny_bind (wpAny_bind (wpAny_field hos hds (x := vl) rfl (wpAny_bind (wpAny_field hos hds (x := vu) rfl (wpAny_bind (wpAny_field hos hds (x := .none) rfl (wpAny_pure ?_)))))))
  refine wpAny_bind (slicePart_none ?_)
  show wpAny _ _ (if ((1 : Int) == 0) = true then _ else _) _ _ s
  rw [if_neg (by decide)]
  refine wpAny_bind (zep pl (wpAny_bind (zep pu (wpAny_bind (wpAny_pure ?_)))))
  show wpAny _ _ (match Builtin.Slice.sliceAdjust lo hi 1 (n : Int) with | (lo, hi) => pure (lo, (1 : Int), Builtin.Slice.slicePlaces lo hi 1)) _ _ s
  rw [zjr lo hi n]
  show wpAny _ _ (pure (((sIx n 0 lo : Nat) : Int), (1 : Int), Builtin.Slice.slicePlaces ((sIx n 0 lo : Nat) : Int) ((sIx n n hi : Nat) : Int) 1)) _ _ s
  rw [zi6]
  exact wpAny_pure h
theorem zmt (xs : Array Value) (i k : Nat) : ((List.range k).filterMap fun (m : Nat) => xs[((i : Int) + (m : Int) * 1).toNat]?).toArray = ((xs.toList.drop i).take k).toArray := by
  have e : (fun (m : Nat) => xs[((i : Int) + (m : Int) * 1).toNat]?) = fun m => xs[i + m]? := by
    funext m
    have : ((i : Int) + (m : Int) * 1).toNat = i + m := by omega
    rw [this]
  rw [e]
  have := pick_run xs i k
  rw [List.filterMap_map] at this
  have e2 : ((fun x => xs[x]?) ∘ fun x => i + x) = fun m => xs[i + m]? := rfl
  rw [e2] at this
  rw [this]
theorem getItem_tuple_cut {t sl : Addr} {items : Array Value} {vl vu : Value} {lo hi : Option Int} {Q : Value → Shared → Prop} (ht : IsTup s.heap t items) (hs : s.heap.IsSliceOf sl vl vu .none) (pl : IsPart vl lo) (pu : IsPart vu hi)
    (hw : ¬ (sIx items.size 0 lo = 0 ∧ sIx items.size items.size hi = items.size))
    (h : Q (.ref s.heap.objs.size) { s with heap := s.heap.push { cls := .type "tuple", data := .seq ((items.toList.drop (sIx items.size 0 lo)).take (sIx items.size items.size hi - sIx items.size 0 lo)).toArray } })
    (hsz : items.size ≤ sizeLine) : wpAny (model prog w) A (getItem (.ref t) (.ref sl)) Q E s := by
  have htake : sizeOk (.seq ((items.toList.drop (sIx items.size 0 lo)).take (sIx items.size items.size hi - sIx items.size 0 lo)).toArray) := by
    show ((items.toList.drop (sIx items.size 0 lo)).take (sIx items.size items.size hi - sIx items.size 0 lo)).toArray.size ≤ sizeLine
    rw [List.size_toArray, List.length_take, List.length_drop, Array.length_toList]
    omega
  have hj : sIx items.size items.size hi ≤ items.size := sIx_le _ _ (Nat.le_refl _) hi
  obtain ⟨os, hos, hcs, hds⟩ := id hs
  have hTs : s.TypeIs (.ref sl) "slice" := ⟨os, hos, hcs⟩
  unfold getItem
  try with_reducible refine wpAny_holding ?_
  first | refine wpAny_bind (wpAny_pure ?_) | skip
  refine wpAny_bind (wpAny_sequenceKey ht.typeIs (by decide) ?_)
  refine wpAny_bind (wpAny_callSpecial?_slot (name := Str.ofString "__getitem__") ht.typeIs PyProof.Rows.slot_tuple_getitem
    (wpAny_call_entry PyProof.Rows.slot_tuple_getitem ht.typeIs entry_tuple_getitem ?_ (args_tuple_getitem _ _)))
  show wpAny _ _ (Builtin.Tuple.tupleItemsOf (.ref t) >>= _) _ _ s
  refine wpAny_bind (tupleItemsOf_ ht ?_)
  refine wpAny_bind (wpAny_typeOf hTs ?_)
  rw [if_pos (by decide)]
  refine wpAny_bind (zdf hs pl pu ?_)
  have hno : ¬ ((((sIx items.size 0 lo : Nat) : Int) == 0 && (1 : Int) == 1 && (sIx items.size items.size hi - sIx items.size 0 lo) == items.size) = true) := by
    intro q
    rw [Bool.and_eq_true, Bool.and_eq_true] at q
    have q1 : ((sIx items.size 0 lo : Nat) : Int) = 0 := eq_of_beq q.1.1
    have q2 : sIx items.size items.size hi - sIx items.size 0 lo = items.size := eq_of_beq q.2
    exact hw ⟨by omega, by omega⟩
  show wpAny _ _ (if (((sIx items.size 0 lo : Nat) : Int) == 0 && (1 : Int) == 1 && (sIx items.size items.size hi - sIx items.size 0 lo) == items.size) = true then _ else _) _ _ s
  rw [if_neg hno, zmt]
  first
    | exact wpAny_bind (m := Builtin.Tuple.tupleExact _) (wpAny_newObj_type (wpAny_pure ⟨_, rfl, wpAny_pure h⟩) htake)
    | exact wpAny_bind (m := Builtin.Tuple.tupleExact _) (wpAny_newObj_type (wpAny_bind (wpAny_pure (wpAny_pure ⟨_, rfl, wpAny_pure h⟩))) htake)
    | exact wpAny_bind (wpAny_bind (m := Builtin.Tuple.tupleExact _) (wpAny_newObj_type (wpAny_pure (wpAny_pure ⟨_, rfl, wpAny_pure h⟩)) htake))
    | exact wpAny_bind (wpAny_bind (m := Builtin.Tuple.tupleExact _) (wpAny_newObj_type (wpAny_pure ⟨_, rfl, wpAny_pure h⟩) htake))
end
end HT
namespace L2
open PySem PySem.Spec PyProof.Rows
abbrev TO := St → Hp → (Option Int → Hp → Prop) → Prop
def PO (X : Cx) (e : Option Expr) (t : TO) : Prop :=
  ∀ (pins : List (Addr × Obj)) (s : Shared) (σ : St) (H : Hp) (Q : Option Int → Hp → Prop), Inv X pins σ H s → t σ H Q →
    wpAny (model X.prog X.w) X.A (evalPart e X.env) (fun u s' => ∃ o H', Inv X pins σ H' s' ∧ IsPart u o ∧ Q o H') X.xe s
def tNoPart : TO := fun _ H Q => Q none H
def tPart (t : TE) : TO := fun σ H Q => t σ H fun x H1 => ∃ i, x = .int i ∧ Q (some i) H1
theorem zjk {ns : List Int} : ∀ {us : List Value}, Vals (ns.map V.int) us → IntsAre us ns := by
  induction ns with
  | nil => intro us r; rw [List.map_nil] at r; cases r; exact .nil
  | cons n ns ih =>
    intro us r
    rw [List.map_cons] at r
    cases r with
    | cons r1 r2 =>
      obtain ⟨t, e⟩ := r1
      subst e
      exact .cons n t (ih r2)
section
variable {X : Cx} {e : Expr} {te : TE} {lo hi : Option Expr} {tl th : TO} {pos p2 : Pos}
theorem zc1 : PO X none tNoPart := by
  intro pins s σ H Q I h
  rw [evalPart_none]
  exact wpAny_pure ⟨none, H, I, .none, h⟩
theorem zbz (h : PE X e te) : PO X (some e) (tPart te) := by
  intro pins s σ H Q I hw
  rw [evalPart_some]
  refine thn (h pins s σ H _ I hw) fun u s1 ⟨x, H1, I1, r1, q1⟩ => ?_
  obtain ⟨i, rfl, q⟩ := q1
  obtain ⟨t, rfl⟩ := r1
  exact ⟨some i, H1, I1, .int i t, q⟩
def SlR (X : Cx) (r : V → Option Int → Option Int → Hp → VK → Prop) : Prop :=
  ∀ (pins : List (Addr × Obj)) (s : Shared) (σ : St) (H : Hp) (x : V) (v vl vu : Value) (lo hi : Option Int) (sl : Addr) (Q : VK), Inv X pins σ H s → RelV x v → s.heap.IsSliceOf sl vl vu .none → IsPart vl lo → IsPart vu hi → r x lo hi H Q →
    ∃ T id, typeLookup (.type T) "__getitem__" = pure (some (.builtin id)) ∧ s.TypeIs v T ∧ wpAny (model X.prog X.w) X.A (getItem v (.ref sl)) (EP X pins σ Q) X.xe s
def tSl (r : V → Option Int → Option Int → Hp → VK → Prop) (te : TE) (tl th : TO) : TE := fun σ H Q => te σ H fun x H1 => tl σ H1 fun l H2 => th σ H2 fun u H3 => r x l u H3 Q
theorem zbv {r : V → Option Int → Option Int → Hp → VK → Prop} (hr : SlR X r) (he : PE X e te) (hl : PO X lo tl) (hu : PO X hi th) : PE X (.Subscript e (.Slice lo hi none p2) pos) (tSl r te tl th) := by
  intro pins s σ H Q I h
  refine Subscript_ (thn (he pins s σ H _ I h) fun v s1 ⟨x, H1, I1, r1, q1⟩ => ?_)
  refine wpAny_Slice (thn (hl pins s1 σ H1 _ I1 q1) fun vl s2 ⟨l, H2, I2, pl, q2⟩ => thn (hu pins s2 σ H2 _ I2 q2) fun vu s3 ⟨u, H3, I3, pu, q3⟩ => ?_)
  rw [evalPart_none]
  refine wpAny_pure ?_
  have I4 : Inv X pins σ H3 { s3 with heap := s3.heap.push { cls := .type "slice", data := .fields #[vl, vu, .none] } } := I3.kept (t' := s3.toks) fun b ob q => Heap.get?_push_of_some _ q
  obtain ⟨T, id, hT, ht, hg⟩ := hr pins { s3 with heap := s3.heap.push { cls := .type "slice", data := .fields #[vl, vu, .none] } } σ H3 x v vl vu l u s3.heap.objs.size Q I4 r1 (Heap.IsSliceOf.new ..) pl pu q3
  show wpAny (model X.prog X.w) X.A (subscriptTail e (.Slice lo hi none p2) v (.ref s3.heap.objs.size)) (EP X pins σ Q) X.xe { s3 with heap := s3.heap.push { cls := .type "slice", data := .fields #[vl, vu, .none] } }
  exact tail_any (ops := [.ref s3.heap.objs.size, v]) ht hT hg (by with_unfolding_all rfl)
def cutV (xs : List V) (lo hi : Option Int) : List V := (xs.drop (HT.sIx xs.length 0 lo)).take (HT.sIx xs.length xs.length hi - HT.sIx xs.length 0 lo)
theorem zec (xs : List V) (lo hi : Option Int) : (cutV xs lo hi).length ≤ xs.length := by
  unfold cutV
  rw [List.length_take, List.length_drop]
  omega
def rSlT (K : PySem.W.Frag) : V → Option Int → Option Int → Hp → VK → Prop := fun x lo hi H Q => ∃ a xs, x = .ref a ∧ SqT K H a xs ∧
  ¬ (HT.sIx xs.length 0 lo = 0 ∧ HT.sIx xs.length xs.length hi = xs.length) ∧ ∀ p, H p = none → Q (.ref p) (upd H p (.tup (cutV xs lo hi)))
theorem zqi : SlR X (rSlT X.K) := by
  intro pins s σ H x v vl vu lo hi sl Q I rx hs pl pu h
  obtain ⟨a, xs, rfl, hx, hw, q⟩ := h
  cases rx
  obtain ⟨its, r, ht, hz⟩ := I.tuple hx
  have hlen : its.toArray.size = xs.length := by rw [List.size_toArray]; exact r.length.symm
  refine ⟨"tuple", _, PyProof.Rows.slot_tuple_getitem.lookup, ht.typeIs, ?_⟩
  refine HT.getItem_tuple_cut ht hs pl pu (by rw [hlen]; exact hw) ?_ (by rw [hlen]; exact hz)
  rw [hlen]
  refine ⟨.ref s.heap.objs.size, _, I.laid (t' := s.toks) (o := .tup (cutV xs lo hi)) (fun b ob q => Heap.get?_push_of_some _ q) (Nat.le_refl _) ?_, rfl, q _ (I.hok.fresh (Nat.le_refl _))⟩
  exact ⟨Nat.le_trans (zec xs lo hi) hz, _, (r.drop (HT.sIx xs.length 0 lo)).take (HT.sIx xs.length xs.length hi - HT.sIx xs.length 0 lo), IsTup.new _ _⟩
end
def ixN (n : Nat) (i : Int) : Option Nat := if 0 ≤ i then (if i < n then some i.toNat else none) else if -(n : Int) ≤ i then some (i + n).toNat else none
def atI {α : Type} (xs : List α) (i : Int) : Option α := (ixN xs.length i).bind fun j => xs[j]?
theorem zpx {n : Nat} {i : Int} {j : Nat} (h : ixN n i = some j) : seqIndex? i n = some j ∧ j < n ∧ -(n : Int) ≤ i ∧ i < n := by
  unfold ixN at h
  by_cases h0 : 0 ≤ i
  · rw [if_pos h0] at h
    by_cases h1 : i < n
    · rw [if_pos h1] at h
      have e : i.toNat = j := Option.some.inj h
      exact ⟨by rw [seqIndex_of h0 h1, e], by omega, by omega, h1⟩
    · rw [if_neg h1] at h; cases h
  · rw [if_neg h0] at h
    by_cases h1 : -(n : Int) ≤ i
    · rw [if_pos h1] at h
      have e : (i + n).toNat = j := Option.some.inj h
      exact ⟨by rw [seqIndex_neg (by omega) h1, e], by omega, h1, by omega⟩
    · rw [if_neg h1] at h; cases h
theorem zhq {α : Type} {xs : List α} {i : Int} {v : α} (h : atI xs i = some v) : ∃ j, seqIndex? i xs.length = some j ∧ xs[j]? = some v ∧ j < xs.length ∧ -(xs.length : Int) ≤ i ∧ i < xs.length := by
  unfold atI at h
  cases e : ixN xs.length i with
  | none => rw [e] at h; cases h
  | some j =>
    rw [e] at h
    obtain ⟨h1, h2, h3, h4⟩ := zpx e
    exact ⟨j, h1, h, h2, h3, h4⟩
theorem zas {α : Type} {xs : List α} {j : Nat} {v : α} (h : xs[j]? = some v) : atI xs (j : Int) = some v := by
  have hj : j < xs.length := (List.getElem?_eq_some_iff.mp h).1
  have e : ixN xs.length (j : Int) = some j := by
    unfold ixN
    rw [if_pos (by omega), if_pos (by omega)]; simp
  unfold atI; rw [e]; exact h
theorem zn0 {α : Type} (xs : List α) (v : α) : atI (xs ++ [v]) (-1) = some v := by
  have hl : (xs ++ [v]).length = xs.length + 1 := by simp
  have e : ixN (xs ++ [v]).length (-1) = some xs.length := by
    unfold ixN
    rw [hl, if_neg (by decide), if_pos (by omega)]
    congr 1
    omega
  unfold atI
  rw [e]
  show (xs ++ [v])[xs.length]? = some v
  simp
def PlainIx (b : Expr) : Prop := ∀ o i, subscripted b false o i = operate [o, i] (getItem o i)
def IxR (X : Cx) (r : R2) : Prop :=
  ∀ (value slice : Expr) (pins : List (Addr × Obj)) (s : Shared) (σ : St) (H : Hp) (x y : V) (v u : Value) (Q : VK), Inv X pins σ H s → RelV x v → RelV y u → r x y H Q →
    subscripted slice false v u = operate [v, u] (getItem v u) → wpAny (model X.prog X.w) X.A (subscriptTail value slice v u) (EP X pins σ Q) X.xe s
def MtR (X : Cx) (id : String) (r : V → List V → Hp → VK → Prop) : Prop :=
  ∀ (pins : List (Addr × Obj)) (s : Shared) (σ : St) (H : Hp) (x : V) (xs : List V) (v : Value) (us : List Value) (Q : VK), Inv X pins σ H s → RelV x v → Vals xs us → r x xs H Q →
    wpAny (model X.prog X.w) X.A (call (.builtin id) (v :: us)) (EP X pins σ Q) X.xe s
section
variable {X : Cx} {a b : Expr} {ta tb : TE} {pos : Pos}
theorem zan {r : R2} (hr : IxR X r) (ha : PE X a ta) (hb : PE X b tb) (hs : PlainIx b) : PE X (.Subscript a b pos) (tOp r ta tb) := by
  intro pins s σ H Q I h
  exact Subscript_ (binT ha hb I h fun v u s2 x y H2 I2 rx ry q => hr a b pins s2 σ H2 x y v u Q I2 rx ry q (hs _ _))
def rIxL (K : PySem.W.Frag) : R2 := fun x y H Q => ∃ p xs i v, x = .ref p ∧ y = .int i ∧ SqL K H p xs ∧ atI xs i = some v ∧ Q v H
def rIxT (K : PySem.W.Frag) : R2 := fun x y H Q => ∃ p xs i v, x = .ref p ∧ y = .int i ∧ SqT K H p xs ∧ atI xs i = some v ∧ Q v H
def rIxS : R2 := fun x y H Q => ∃ z i c, x = .str z ∧ y = .int i ∧ z.length ≤ sizeLine ∧ atI z.cps.toList i = some c ∧ Q (.str ⟨#[c]⟩) H
theorem zpw : IxR X (rIxL X.K) := by
  intro value slice pins s σ H x y v u Q I rx ry h hs
  obtain ⟨p, xs, i, z, rfl, rfl, hq, he, q⟩ := h
  cases rx
  obtain ⟨t, rfl⟩ := ry
  obtain ⟨its, r, pl, hz⟩ := I.list hq
  obtain ⟨j, h1, h2, h3, h4, h5⟩ := zhq he
  obtain ⟨w, ew, rw'⟩ := r.get h2
  have hl := r.length
  have hn := line63
  have fin : EP X pins σ Q w s := ⟨z, H, I, rw', q⟩
  by_cases h0 : 0 ≤ i
  · have hj : i.toNat = j := by
      rw [seqIndex_of h0 h5] at h1
      exact Option.some.inj h1
    exact item_listR pl.isList h0 (by omega) (by rw [hj]; simpa using ew) fin hs
  · have hj : (i + (its.toArray.size : Int)).toNat = j := by
      rw [seqIndex_neg (by omega) h4] at h1
      rw [List.size_toArray, ← hl]
      exact Option.some.inj h1
    exact subscriptTail_builtinR (x := w) pl.isList.typeIs slot_list_getitem.lookup
      (wpAny_getItem_list_neg (Q := fun r s' => r = w ∧ EP X pins σ Q r s') pl.isList (by omega) (by rw [List.size_toArray] <;> omega) (by omega) (by rw [hj]; simpa using ew) ⟨rfl, fin⟩) hs
theorem zq7 : IxR X (rIxT X.K) := by
  intro value slice pins s σ H x y v u Q I rx ry h hs
  obtain ⟨p, xs, i, z, rfl, rfl, hq, he, q⟩ := h
  cases rx
  obtain ⟨t, rfl⟩ := ry
  obtain ⟨its, r, pl, hz⟩ := I.tuple hq
  obtain ⟨j, h1, h2, h3, h4, h5⟩ := zhq he
  obtain ⟨w, ew, rw'⟩ := r.get h2
  have hl := r.length
  have hn := line63
  have fin : EP X pins σ Q w s := ⟨z, H, I, rw', q⟩
  exact subscriptTail_builtinR (x := w) pl.typeIs slot_tuple_getitem.lookup
    (getItem_tuple (j := j) (Q := fun r s' => r = w ∧ EP X pins σ Q r s') pl (by omega) (by omega) (by rw [List.size_toArray, ← hl]; exact h1) (by simpa using ew) ⟨rfl, fin⟩) hs
theorem zez : IxR X rIxS := by
  intro value slice pins s σ H x y v u Q I rx ry h hs
  obtain ⟨z, i, c, rfl, rfl, hz, he, q⟩ := h
  obtain ⟨t, rfl⟩ := rx
  obtain ⟨t', rfl⟩ := ry
  obtain ⟨j, h1, h2, h3, h4, h5⟩ := zhq he
  have hl : z.cps.toList.length = z.length := by simp [Str.length]
  rw [hl] at h1 h4 h5
  have hn := line63
  exact tail_any (typeIs_str s z t) slot_str_getitem.lookup (getItem_str (c := c) (by
    have e1 : decide (i < -(2 ^ 63 : Int)) = false := decide_eq_false (by omega)
    have e2 : decide (i ≥ 2 ^ 63) = false := decide_eq_false (by omega)
    rw [e1, e2, Bool.or_false]) (by rw [h1]; simpa using h2) ⟨.str ⟨#[c]⟩, H, I.tok _, ⟨_, rfl⟩, q⟩) hs
def rSetL : V → V → V → Hp → (Hp → Prop) → Prop := fun o i v H Q => ∃ p xs k j, o = .ref p ∧ i = .int k ∧ H p = some (.lst xs) ∧ ixN xs.length k = some j ∧ Q (upd H p (.lst (xs.set j v)))
theorem zf5 (lo hi : Option Int) (n : Nat) : (sliceBounds lo hi none n).1 = ((HT.sIx n 0 lo : Nat) : Int) ∧ (sliceBounds lo hi none n).2.1 = ((HT.sIx n n hi : Nat) : Int) ∧ (sliceBounds lo hi none n).2.2 = 1 := by
  refine ⟨?_, ?_, rfl⟩
  · cases lo with
    | none => simp [sliceBounds, HT.sIx]
    | some i =>
      simp only [sliceBounds, HT.sIx, Option.getD_none, show (1 : Int) > 0 by decide, if_true]
      by_cases h : i < 0
      · simp only [h, if_true] <;> omega
      · simp only [h, if_false] <;> omega
  · cases hi with
    | none => simp [sliceBounds, HT.sIx]
    | some i =>
      simp only [sliceBounds, HT.sIx, Option.getD_none, show (1 : Int) > 0 by decide, if_true]
      by_cases h : i < 0
      · simp only [h, if_true] <;> omega
      · simp only [h, if_false] <;> omega
theorem ze7 (its : List Value) (lo hi : Option Int) : slicePick its.toArray lo hi none = ((its.drop (HT.sIx its.length 0 lo)).take (HT.sIx its.length its.length hi - HT.sIx its.length 0 lo)).toArray := by
  obtain ⟨h1, h2, h3⟩ := zf5 lo hi its.toArray.size
  unfold slicePick
  rw [h1, h2, h3]
  simp only [sliceRange_one, pick_run, List.size_toArray] <;> rfl
def rSlL (K : PySem.W.Frag) : V → Option Int → Option Int → Hp → VK → Prop := fun x lo hi H Q => ∃ a xs, x = .ref a ∧ SqL K H a xs ∧ ∀ p, H p = none → Q (.ref p) (upd H p (.lst (cutV xs lo hi)))
theorem zos : SlR X (rSlL X.K) := by
  intro pins s σ H x v vl vu lo hi sl Q I rx hs pl pu h
  obtain ⟨a, xs, rfl, hx, q⟩ := h
  cases rx
  obtain ⟨its, r, ht, hz⟩ := I.list hx
  have hlen := r.length
  refine ⟨"list", _, slot_list_getitem.lookup, ht.isList.typeIs, ?_⟩
  refine wpAny_getItem_list_slice ht.isList hs pl pu .none (by simp) ?_ (by rw [List.size_toArray] <;> omega)
  rw [ze7, ← hlen]
  refine ⟨.ref s.heap.objs.size, _, I.laid (t' := s.toks) (o := .lst (cutV xs lo hi)) (fun b ob q => Heap.get?_push_of_some _ q) (Nat.le_refl _) ?_, rfl, q _ (I.hok.fresh (Nat.le_refl _))⟩
  exact ⟨Nat.le_trans (zec xs lo hi) hz, _, 0, (r.drop (HT.sIx xs.length 0 lo)).take (HT.sIx xs.length xs.length hi - HT.sIx xs.length 0 lo), Heap.get?_push_size _ rfl⟩
def flatV : V → Bool
  | .non => true
  | .bl _ => true
  | .int _ => true
  | .str _ => true
  | _ => false
def eqV : V → V → Bool
  | .non, .non => true
  | .bl a, .bl b => a == b
  | .bl a, .int b => (if a then 1 else 0) == b
  | .int a, .bl b => a == (if b then 1 else 0)
  | .int a, .int b => a == b
  | .str a, .str b => a == b
  | _, _ => false
theorem zln {A : Around} {s : Shared} {y x : V} {u v : Value} (ry : RelV y u) (rx : RelV x v) (fy : flatV y = true) (fx : flatV x = true) : SeqAt.EqAt A s u v (eqV y x) := by
  cases y with
  | non =>
    cases ry
    cases x with
    | non => cases rx; exact SeqAt.EqAt.same _
    | bl b => cases rx; exact SeqAt.EqAt.none_bool b
    | int b => obtain ⟨t, rfl⟩ := rx; exact SeqAt.EqAt.none_int b t
    | str b => obtain ⟨t, rfl⟩ := rx; exact SeqAt.EqAt.none_str b t
    | _ => exact absurd (show false = true from fx) Bool.false_ne_true
  | bl a =>
    cases ry
    cases x with
    | non => cases rx; exact SeqAt.EqAt.bool_none a
    | bl b => cases rx; exact SeqAt.EqAt.bool_bool a b
    | int b => obtain ⟨t, rfl⟩ := rx; exact SeqAt.EqAt.bool_int a b t
    | str b => obtain ⟨t, rfl⟩ := rx; exact SeqAt.EqAt.bool_str a b t
    | _ => exact absurd (show false = true from fx) Bool.false_ne_true
  | int a =>
    obtain ⟨t', rfl⟩ := ry
    cases x with
    | non => cases rx; exact SeqAt.EqAt.int_none a t'
    | bl b => cases rx; exact SeqAt.EqAt.int_bool a t' b
    | int b => obtain ⟨t, rfl⟩ := rx; exact SeqAt.EqAt.int_int a t' b t
    | str b => obtain ⟨t, rfl⟩ := rx; exact SeqAt.EqAt.int_str a t' b t
    | _ => exact absurd (show false = true from fx) Bool.false_ne_true
  | str a =>
    obtain ⟨t', rfl⟩ := ry
    cases x with
    | non => cases rx; exact SeqAt.EqAt.str_none a t'
    | bl b => cases rx; exact SeqAt.EqAt.str_bool a t' b
    | int b => obtain ⟨t, rfl⟩ := rx; exact SeqAt.EqAt.str_int a t' b t
    | str b => obtain ⟨t, rfl⟩ := rx; exact SeqAt.EqAt.str_str a t' b t
    | _ => exact absurd (show false = true from fx) Bool.false_ne_true
  | _ => exact absurd (show false = true from fy) Bool.false_ne_true
def eqU (x : V) (u : Value) : Bool := match u with
  | .none => eqV .non x
  | .bool b => eqV (.bl b) x
  | .int i _ => eqV (.int i) x
  | .str z _ => eqV (.str z) x
  | _ => false
theorem zof {x y : V} {u : Value} (r : RelV y u) (f : flatV y = true) : eqU x u = eqV y x := by
  cases y with
  | non => cases r; rfl
  | bl b => cases r; rfl
  | int i => obtain ⟨t, rfl⟩ := r; rfl
  | str z => obtain ⟨t, rfl⟩ := r; rfl
  | _ => exact absurd (show false = true from f) Bool.false_ne_true
theorem zed {x : V} : ∀ {xs : List V} {us : List Value}, Vals xs us → xs.all flatV = true → us.any (eqU x) = xs.any fun y => eqV y x
  | _, _, .nil, _ => rfl
  | y :: xs, u :: us, .cons r t, f => by
    rw [List.all_cons, Bool.and_eq_true] at f
    rw [List.any_cons, List.any_cons, zof r f.1, zed t f.2]
theorem zcq {A : Around} {s : Shared} {x : V} {v : Value} (rx : RelV x v) (fx : flatV x = true) : ∀ {xs : List V} {us : List Value}, Vals xs us → xs.all flatV = true → ∀ u ∈ us, SeqAt.EqAt A s u v (eqU x u)
  | _, _, .nil, _ => fun u hu => by cases hu
  | y :: xs, u :: us, .cons r t, f => fun u' hu => by
    rw [List.all_cons, Bool.and_eq_true] at f
    rcases List.mem_cons.mp hu with rfl | hu
    · rw [zof r f.1]; exact zln r rx f.1 fx
    · exact zcq rx fx t f.2 u' hu
def inV (x : V) (xs : List V) : Bool := xs.any fun y => eqV y x
def rIn (K : PySem.W.Frag) (neg : Bool) : R2 := fun x y H Q => ∃ p xs, y = .ref p ∧ (SqL K H p xs ∨ SqT K H p xs) ∧ flatV x = true ∧ xs.all flatV = true ∧ Q (.bl (if neg then !inV x xs else inV x xs)) H
theorem zkp : OpR X (compareOp .In) (rIn X.K false) := by
  intro pins s σ H x y v u Q I rx ry h
  obtain ⟨p, xs, rfl, hq, fx, fs, q⟩ := h
  cases ry
  rcases hq with hq | hq
  · obtain ⟨its, r, pl, hz⟩ := I.list hq
    refine SeqAt.in_listAt (eqU x) pl.isList (fun w hw => zcq rx fx r fs w (by simpa using hw)) ⟨.bl _, H, I, rfl, ?_⟩
    rw [show its.toArray.any (eqU x) = its.any (eqU x) by simp, zed r fs]
    exact q
  · obtain ⟨its, r, pl, hz⟩ := I.tuple hq
    refine SeqAt.in_tupleAt (eqU x) pl (fun w hw => zcq rx fx r fs w (by simpa using hw)) ⟨.bl _, H, I, rfl, ?_⟩
    rw [show its.toArray.any (eqU x) = its.any (eqU x) by simp, zed r fs]
    exact q
theorem zgd : OpR X (compareOp .NotIn) (rIn X.K true) := by
  intro pins s σ H x y v u Q I rx ry h
  obtain ⟨p, xs, rfl, hq, fx, fs, q⟩ := h
  cases ry
  rcases hq with hq | hq
  · obtain ⟨its, r, pl, hz⟩ := I.list hq
    refine SeqAt.notIn_listAt (eqU x) pl.isList (fun w hw => zcq rx fx r fs w (by simpa using hw)) ⟨.bl _, H, I, rfl, ?_⟩
    rw [show its.toArray.any (eqU x) = its.any (eqU x) by simp, zed r fs]
    exact q
  · obtain ⟨its, r, pl, hz⟩ := I.tuple hq
    refine SeqAt.notIn_tupleAt (eqU x) pl (fun w hw => zcq rx fx r fs w (by simpa using hw)) ⟨.bl _, H, I, rfl, ?_⟩
    rw [show its.toArray.any (eqU x) = its.any (eqU x) by simp, zed r fs]
    exact q
theorem zgn : CallR X (.builtin "len") (fun xs H Q => ∃ p ys, xs = [.ref p] ∧ (SqL X.K H p ys ∨ SqT X.K H p ys) ∧ Q (.int ys.length) H) := by
  intro pins s σ H xs us Q I r h
  obtain ⟨p, ys, rfl, hq, q⟩ := h
  obtain ⟨u, rfl, rx⟩ := vals1 r
  cases rx
  have hn := line63
  rcases hq with hq | hq
  · obtain ⟨its, r', pl, hz⟩ := I.list hq
    have hlen := r'.length
    exact Calls.call_len_list pl.isList (by simp only [List.size_toArray] <;> omega) ⟨.int ys.length, H, I.tok _, ⟨s.toks + 1, by rw [List.size_toArray, hlen]⟩, q⟩
  · obtain ⟨its, r', pl, hz⟩ := I.tuple hq
    have hlen := r'.length
    exact len_tuple pl (by simp only [List.size_toArray] <;> omega) ⟨.int ys.length, H, I.tok _, ⟨s.toks + 1, by rw [List.size_toArray, hlen]⟩, q⟩
theorem zbp : CallR X (.builtin "len") (fun xs H Q => ∃ z, xs = [.str z] ∧ z.length ≤ sizeLine ∧ Q (.int z.length) H) := by
  intro pins s σ H xs us Q I r h
  obtain ⟨z, rfl, hz, q⟩ := h
  obtain ⟨u, rfl, t, rfl⟩ := vals1 r
  have hn := line63
  exact len_str (by omega) ⟨.int z.length, H, I.tok _, ⟨_, rfl⟩, q⟩
theorem zgm : CallR X (.type "list") (fun xs H Q => ∃ p ys, xs = [.ref p] ∧ (SqL X.K H p ys ∨ SqT X.K H p ys) ∧ ∀ l, H l = none → Q (.ref l) (upd H l (.lst ys))) := by
  intro pins s σ H xs us Q I r h
  obtain ⟨p, ys, rfl, hq, q⟩ := h
  obtain ⟨u, rfl, rx⟩ := vals1 r
  cases rx
  have fin : ∀ (its : List Value), Vals ys its → ys.length ≤ sizeLine → ∀ (h' : Heap) (c' : Nat), (∀ b o', s.heap.get? b = some o' → h'.get? b = some o') →
      h'.get? s.heap.objs.size = some { cls := .type "list", dict := none, data := .seq its.toArray c', slots := #[] } → EP X pins σ Q (.ref s.heap.objs.size) { s with heap := h' } := fun its r' hz h' c' kp e =>
    ⟨.ref s.heap.objs.size, _, I.laid (t' := s.toks) kp (Nat.le_refl _) (show ObjOk X.prog X.w _ h' _ (.lst ys) from ⟨hz, its, c', r', e⟩), rfl, q _ (I.hok.fresh (Nat.le_refl _))⟩
  rcases hq with hq | hq
  · obtain ⟨its, r', pl, hz⟩ := I.list hq
    have hlen := r'.length
    obtain ⟨o, ho, hc, n, hd⟩ := pl.isList
    exact call_list_seq p (.inl rfl) ho hc hd (fun h' c' kp e => fin its r' hz h' c' kp e) (by simp only [List.size_toArray] <;> omega)
  · obtain ⟨its, r', pl, hz⟩ := I.tuple hq
    have hlen := r'.length
    obtain ⟨o, ho, hc, n, hd⟩ := pl
    exact call_list_seq p (.inr rfl) ho hc hd (fun h' c' kp e => fin its r' hz h' c' kp e) (by simp only [List.size_toArray] <;> omega)
def tyV (K : PySem.W.Frag) (T : String) (x : V) (H : Hp) : Prop := match x with
  | .str _ => T = "str"
  | .int _ => T = "int"
  | .ref p => (T = "list" ∧ ∃ xs, SqL K H p xs) ∨ (T = "tuple" ∧ ∃ o, K.lookup p = some o ∧ o.cls = .type "tuple" ∧ o.dict = none) ∨
      (T = "dict" ∧ ((∃ kvs, H p = some (.dK kvs)) ∨ ∃ kvs, H p = some (.dT kvs))) ∨ (T = "set" ∧ ∃ S n, H p = some (.set S n))
  | _ => False
theorem zn1 {pins : List (Addr × Obj)} {σ : St} {H : Hp} {s : Shared} {T : String} {x : V} {v : Value} (I : Inv X pins σ H s) (r : RelV x v) (ty : tyV X.K T x H) :
    s.TypeIs v T ∧ ∀ a, v = .ref a → ∃ ob, s.heap.get? a = some ob ∧ ob.dict = none := by
  cases x with
  | str z =>
    obtain ⟨t, rfl⟩ := r
    cases (show T = "str" from ty)
    exact ⟨typeIs_str s z t, fun _ e => nomatch e⟩
  | int i =>
    obtain ⟨t, rfl⟩ := r
    cases (show T = "int" from ty)
    exact ⟨typeIs_int s i t, fun _ e => nomatch e⟩
  | ref p =>
    cases r
    rcases ty with ⟨rfl, xs, hq⟩ | ⟨rfl, o, hk, hc, hd⟩ | ⟨rfl, hk⟩ | ⟨rfl, S, n, hk⟩
    · obtain ⟨its, _, pl, _⟩ := I.list hq
      refine ⟨pl.isList.typeIs, fun a e => ?_⟩
      cases e
      obtain ⟨o, n, e, c, hd, _⟩ := pl
      exact ⟨o, e, hd⟩
    · refine ⟨⟨o, I.kIn p o hk, hc⟩, fun a e => ?_⟩
      cases e
      exact ⟨o, I.kIn _ o hk, hd⟩
    · have z : ∃ o, s.heap.get? p = some o ∧ o.ExactDict := by
        rcases hk with ⟨kvs, hk⟩ | ⟨kvs, hk⟩
        · obtain ⟨_, _, _, _, o, _, _, e, ex, _⟩ := I.hok p _ hk
          exact ⟨o, e, ex⟩
        · obtain ⟨_, _, _, _, o, _, _, e, ex, _⟩ := I.hok p _ hk
          exact ⟨o, e, ex⟩
      obtain ⟨o, e, ex⟩ := z
      refine ⟨⟨o, e, ex.1⟩, fun a e2 => ?_⟩
      cases e2
      exact ⟨o, e, ex.2.1⟩
    · obtain ⟨o, _, _, _, e, ex, _⟩ := I.hok p _ hk
      refine ⟨⟨o, e, ex.1⟩, fun a e2 => ?_⟩
      cases e2
      exact ⟨o, e, ex.2.1⟩
  | _ => exact False.elim ty
def tBM0 (K : PySem.W.Frag) (T : String) (r : V → List V → Hp → VK → Prop) (to : TE) : TE := fun σ H Q => to σ H fun x H1 => tyV K T x H1 ∧ r x [] H1 Q
def tBM (K : PySem.W.Frag) (T : String) (r : V → List V → Hp → VK → Prop) (to : TE) (t : TA) : TE := fun σ H Q => to σ H fun x H1 => tyV K T x H1 ∧ t σ H1 fun xs H2 => r x xs H2 Q
variable {o e : Expr} {es : List Expr} {to : TE} {t : TA} {name : Str} {apos cpos : Pos} {T id : String} {r : V → List V → Hp → VK → Prop}
theorem zqq (pa : PlainAttrs T) (slot : Slot T name id) (hty : typeOf (.builtin id) = pure (.type "method_descriptor")) (hm : MtR X id r) (ho : PE X o to)
    (hbase : attributeBase o name X.env (eval o X.env) = eval o X.env := by rfl) (hline : (apos.endLine == cpos.line) = true := by rfl) : PE X (.Call (.Attribute o name apos) [] [] cpos) (tBM0 X.K T r to) := by
  intro pins s σ H Q I h
  refine wpAny_Call_method0_late hbase hline (thn (ho pins s σ H _ I h) fun v s1 ⟨x, H1, I1, r1, ty, q1⟩ => ?_)
  obtain ⟨h1, h2⟩ := zn1 I1 r1 ty
  exact ⟨T, id, pa, slot, hty, h1, h2, Calls.callWith_builtin rfl (PySem.evalArgs_none (hm pins s1 σ H1 x [] v [] Q I1 r1 .nil q1))⟩
theorem zrk (pa : PlainAttrs T) (slot : Slot T name id) (hty : typeOf (.builtin id) = pure (.type "method_descriptor")) (hm : MtR X id r) (ho : PE X o to) (ha : PA X (e :: es) t)
    (hbase : attributeBase o name X.env (eval o X.env) = eval o X.env := by rfl)
    (hfew : ((backTo cpos (starEach (e :: es) X.env)).all (fun x => !x.1) && (backToKw cpos (keywordEach [] X.env)).all (fun x => x.1.isSome)
      && decide ((e :: es).length + ([] : List Keyword).length + (if ([] : List Keyword).isEmpty then 0 else 1) < 30)) = true := by rfl)
    (hline : (apos.endLine == cpos.line) = true := by rfl) (hs : starEach (e :: es) X.env = (false, eval e X.env) :: starEach es X.env := by rfl) (hplain : (backTo cpos (starEach es X.env)).any (·.1) = false := by rfl) :
    PE X (.Call (.Attribute o name apos) (e :: es) [] cpos) (tBM X.K T r to t) := by
  intro pins s σ H Q I h
  refine wpAny_Call_method_late hbase hfew hline rfl (thn (ho pins s σ H _ I h) fun v s1 ⟨x, H1, I1, r1, ty, q1⟩ => ?_)
  obtain ⟨h1, h2⟩ := zn1 I1 r1 ty
  refine ⟨T, id, pa, slot, hty, h1, h2, ?_⟩
  have hA := ha cpos pins s1 σ H1 _ I1 q1
  rw [hs] at hA ⊢
  refine Calls.callWith_builtin (by show (false || (backTo cpos (starEach es X.env)).any (·.1)) = false; rw [hplain] <;> rfl) (Calls.evalArgs_plain ?_)
  exact thn hA fun us s2 ⟨vs, H2, I2, r2, q2⟩ => hm pins s2 σ H2 x vs v us Q I2 r1 r2 q2
end
def MtM (X : Cx) (id : String) (r : V → List V → Hp → VK → Prop) : Prop :=
  ∀ (pins : List (Addr × Obj)) (s : Shared) (σ : St) (H : Hp) (x : V) (xs : List V) (v : Value) (us : List Value) (Q : VK), Inv X pins σ H s → RelV x v → Vals xs us → r x xs H Q →
    wpAny (model X.prog X.w) X.A (call (.builtin id) (v :: us)) (EP X pins σ Q) X.xe s
theorem Vals.one : ∀ {x : V} {us : List Value}, Vals [x] us → ∃ u, us = [u] ∧ RelV x u
  | _, _, .cons r .nil => ⟨_, rfl, r⟩
theorem Vals.zero : ∀ {us : List Value}, Vals [] us → us = []
  | _, .nil => rfl
theorem Vals.dropLast {xs : List V} {us : List Value} (h : Vals xs us) : Vals xs.dropLast us.dropLast := by
  induction h with
  | nil => exact .nil
  | cons r t ih =>
    cases t with
    | nil => exact .nil
    | cons q t' => exact .cons r ih
theorem zjq {α : Type} (l : List α) : l.eraseIdx (l.length - 1) = l.dropLast := by
  induction l with
  | nil => rfl
  | cons a r ih =>
    cases r with
    | nil => rfl
    | cons b r =>
      have e : (a :: b :: r).length - 1 = ((b :: r).length - 1) + 1 := by
        have h1 : (a :: b :: r).length = r.length + 2 := rfl
        have h2 : (b :: r).length = r.length + 1 := rfl
        omega
      rw [e, List.eraseIdx_cons_succ, ih]
      all_goals rfl
section
variable {X : Cx} {pins : List (Addr × Obj)} {σ : St} {H : Hp} {s : Shared} {l b : Addr} {xs ys zs : List V}
theorem Inv.lset {its its' : List Value} {n : Nat} {f : Array Value → Array Value} {t' : Nat} (I : Inv X pins σ H s) (hH : H l = some (.lst xs))
    (e : s.heap.get? l = some { cls := .type "list", data := .seq its.toArray n }) (hf : f its.toArray = its'.toArray) (hv : Vals ys its') (hz : ys.length ≤ sizeLine) :
    Inv X pins σ (upd H l (.lst ys)) { s with heap := s.heap.update l (Obj.mapSeq f), toks := t' } := by
  have q := PySem.IsL.update e f
  rw [hf] at q
  refine I.write (x := l) (e := l) (by rw [hH]; exact trivial) (.inl rfl) (fun b' u hb hu => (Heap.get?_update_other s.heap (Obj.mapSeq f) (Ne.symm hb)).trans hu) ⟨_, q⟩ ?_
  exact ⟨hz, its', _, hv, q⟩
theorem Inv.lnew {its : List Value} {t' : Nat} (I : Inv X pins σ H s) (hv : Vals ys its) (hz : ys.length ≤ sizeLine) :
    Inv X pins σ (upd H s.heap.objs.size (.lst ys)) { s with heap := s.heap.push { cls := .type "list", data := .seq its.toArray }, toks := t' } :=
  I.laid (fun _ _ q => Heap.get?_push_of_some _ q) (Nat.le_refl _) ⟨hz, its, 0, hv, Heap.get?_push_size _ rfl⟩
theorem Inv.fresh (I : Inv X pins σ H s) : H s.heap.objs.size = none := I.hok.fresh (Nat.le_refl _)
theorem Inv.lstM (I : Inv X pins σ H s) (hH : H l = some (.lst xs)) : xs.length ≤ sizeLine ∧ ∃ (its : List Value) (n : Nat), Vals xs its ∧ xs.length = its.length ∧ s.heap.get? l = some { cls := .type "list", data := .seq its.toArray n } := by
  obtain ⟨z, its, n, r, e⟩ := I.hok l _ hH
  exact ⟨z, its, n, r, r.length, e⟩
theorem notLongL {n : Nat} (h : n ≤ sizeLine) : Builtin.List.listTooLong n = false := by
  unfold Builtin.List.listTooLong
  exact decide_eq_false (by omega)
end
section
variable {X : Cx}
def rAppend : V → List V → Hp → VK → Prop := fun x vs H Q => ∃ l xs y, x = .ref l ∧ vs = [y] ∧ H l = some (.lst xs) ∧ xs.length < sizeLine ∧ Q .non (upd H l (.lst (xs ++ [y])))
theorem zbr : MtM X "list.append" rAppend := by
  intro pins s σ H x vs v us Q I rx rv h
  obtain ⟨l, xs, y, rfl, rfl, hH, hz, q⟩ := h
  cases rx
  obtain ⟨u, rfl, ru⟩ := rv.one
  obtain ⟨z, its, n, r, hl, e⟩ := I.lstM hH
  refine call_meets F.slot_list_append ⟨_, e, rfl⟩ F.entry_list_append (F.args_list_append_2 _ _) (PySem.list_append l its.toArray n u (by rw [List.size_toArray]; omega)) ⟨e, ?_⟩
  refine ⟨.non, _, I.lset (its' := its ++ [u]) hH e (by simp) (r.append (.cons ru .nil)) ?_, rfl, q⟩
  rw [List.length_append, List.length_singleton]
  omega
def rExtend : V → List V → Hp → VK → Prop := fun x vs H Q => ∃ l b xs zs, x = .ref l ∧ vs = [.ref b] ∧ H l = some (.lst xs) ∧ H b = some (.lst zs) ∧ xs.length + zs.length ≤ sizeLine ∧ Q .non (upd H l (.lst (xs ++ zs)))
def rPop : V → List V → Hp → VK → Prop := fun x vs H Q => ∃ l xs y, x = .ref l ∧ vs = [] ∧ H l = some (.lst xs) ∧ xs[xs.length - 1]? = some y ∧ Q y (upd H l (.lst xs.dropLast))
theorem zq0 : MtM X "list.pop" rPop := by
  intro pins s σ H x vs v us Q I rx rv h
  obtain ⟨l, xs, y, rfl, rfl, hH, hy, q⟩ := h
  cases rx
  have hus := rv.zero
  subst hus
  obtain ⟨z, its, n, r, hl, e⟩ := I.lstM hH
  obtain ⟨u, hu, ru⟩ := r.get hy
  have hy' : its.toArray[its.toArray.size - 1]? = some u := by
    show its.toArray[its.length - 1]? = some u
    rw [← Array.getElem?_toList, ← hl]
    exact hu
  refine call_meets F.slot_list_pop ⟨_, e, rfl⟩ F.entry_list_pop (F.args_list_pop_1 _) (MeetsSeq.list_pop_last l its.toArray n u hy' (by rw [List.size_toArray]; omega)) ⟨e, ?_⟩
  refine ⟨y, _, I.lset (its' := its.dropLast) hH e ?_ r.dropLast ?_, ru, q⟩
  · show its.toArray.eraseIdxIfInBounds (its.toArray.size - 1) = its.dropLast.toArray
    rw [List.size_toArray, List.eraseIdxIfInBounds_toArray, zjq]
  · rw [List.length_dropLast]
    omega
def rPopAt : V → List V → Hp → VK → Prop := fun x vs H Q => ∃ l xs i k y, x = .ref l ∧ vs = [.int i] ∧ H l = some (.lst xs) ∧ -(2 ^ 63) ≤ i ∧ i < 2 ^ 63 ∧ seqIndex? i xs.length = some k ∧ xs[k]? = some y ∧ Q y (upd H l (.lst (xs.eraseIdx k)))
def rCat : R2 := fun x y H Q => ∃ l b xs zs, x = .ref l ∧ y = .ref b ∧ H l = some (.lst xs) ∧ H b = some (.lst zs) ∧ xs.length + zs.length ≤ sizeLine ∧ ∀ p, H p = none → Q (.ref p) (upd H p (.lst (xs ++ zs)))
theorem zqv : OpR X (binaryOp .Add) rCat := by
  intro pins s σ H x y v u Q I rx ry h
  obtain ⟨l, b, xs, zs, rfl, rfl, hH, hB, hz, q⟩ := h
  cases rx
  cases ry
  obtain ⟨z, its, n, r, hl, e⟩ := I.lstM hH
  obtain ⟨z2, its2, n2, r2, hl2, e2⟩ := I.lstM hB
  refine PySem.P.add_list e e2 ?_ (by rw [List.size_toArray, List.size_toArray]; omega)
  have ea : its.toArray ++ its2.toArray = (its ++ its2).toArray := by simp
  rw [ea]
  exact ⟨.ref _, _, I.lnew (t' := s.toks) (r.append r2) (by rw [List.length_append]; omega), rfl, q _ I.fresh⟩
end
end L2
namespace Att
open PySem PySem.W PySem.Calls PyProof.Rows
theorem zd8 {P : Params} {h : Heap} : ∀ (ns : List Int) (vs : List Value), WellAll P h vs (ns.map WData.int) → IntsAre vs ns := by
  intro ns
  induction ns with
  | nil =>
    intro vs w
    rw [List.map_nil] at w
    cases w
    exact .nil
  | cons n ns ih =>
    intro vs w
    rw [List.map_cons] at w
    cases w with
    | cons a b =>
      cases a
      exact .cons _ _ (ih _ b)
theorem zj9 {l : OpenLaw} {n : Nat} (hn : l.most = some n) {P : Params} {h : Heap} {args : List WData} {vals : List Value}
    (hpre : l.row.toRowW.claim.pre args = true) (hwl : WellAll P h vals args) :
    ∃ a vs ns, vals = [Value.ref a] ∧ args = [WData.list (ns.map WData.int)] ∧ h.get? a = some { cls := .type "list", data := .seq vs.toArray } ∧ IntsAre vs ns ∧ ns.length ≤ n := by
  have hsh : WShape.hasAll [] args [.list .int] = true := (pre_splitW hpre).1
  have hc : l.pre.holds [] { args := args } = true := (pre_splitW hpre).2
  obtain ⟨d, r, rfl, h1, h2⟩ := hasAllW_cons hsh
  obtain rfl := hasAllW_nil h2
  obtain ⟨xs, rfl, h3⟩ := hasW_list h1
  obtain ⟨ns, rfl⟩ := items_int h3
  have hlen : ns.length ≤ n := by
    unfold OpenLaw.pre at hc
    have h4 : (WTm.not (.lt (.lit (.int (n : Int))) (.len (.arg 0)))).holds [] { args := [.list (ns.map .int)] } = true := by
      have h4 := (holds_andW hc).1
      rw [hn] at h4
      exact h4
    have h5 := condW_of h4 (w_not (w_lt w_lit (w_len_list (w_arg rfl))))
    rw [List.length_map] at h5
    refine Nat.le_of_not_lt fun q => ?_
    have q' : (n : Int) < ((ns.length : Nat) : Int) := by omega
    first
      | (rw [decide_eq_true q'] at h5; exact absurd h5 (by decide))
      | (simp at h5; omega)
  cases hwl with
  | cons w1 w2 =>
    cases w2
    cases w1 with
    | list ho hall => exact ⟨_, _, ns, rfl, rfl, ho, zd8 ns _ hall, hlen⟩
theorem zke (l : OpenLaw) (args : List WData) : l.row.toRowW.claim.post args (.bool true) args = true :=
  postW_of (r := l.row.toRowW) (X := (true == true))
    (show WShape.has [] (.bool true) .bool = true by first | rfl | decide | simp [WShape.has, WShape.arms, WShape.armsAll])
    (show (WTm.eq .res (.lit (.bool true))).value [] { args := args, res := some (.bool true), after := args } = some (.bool (true == true)) from w_eq_bool (w_res rfl) w_lit) rfl
theorem attach_call {l : OpenLaw} {n : Nat} {q : Program} {loose : List Str} {XP : (Str → Option Value) → Heap → Prop} {YP : World → Heap → Prop} {d : DefRec}
    (hn : l.most = some n) (hdf : d.params.defaults = [])
    (call : ∀ (w : World) (s₀ s₁ : Shared) (mg mb : Str → Option Value) (fa : Addr) (o : Obj) (pm cd doc : Value) (a : Addr) (vs : List Value) (ns : List Int),
      Ground q loose [] XP w s₀ mg mb s₁.heap → YP w s₁.heap →
      s₁.heap.get? fa = some o → o.data = .func (docDef d.name d.params d.body d.scope pm cd doc) → s₁.heap.CodeRec cd d.name → mg d.name = some (.ref fa) →
      s₁.heap.get? a = some { cls := .type "list", data := .seq vs.toArray } → IntsAre vs ns → ns.length ≤ n → s₁.gens = #[] →
      codeAny (model l.prog w) callerA (.call (.ref fa) ⟨[.ref a], []⟩) (fun r s' => r = .ok (.ret (.bool true)) ∧ OldK s₁.heap s'.heap ∧ s'.os = s₁.os ∧ AllBare s'.gens) s₁) :
    WalkO q loose XP YP l.row.toRowW d [] (fun f vs => PySem.call f vs) := by
  intro w s₀ s₁ mg mb G Y fa o pm cd doc dV kV ho hd hcd hD hmg hg args vals as hpre hlay hrd hwl hlo
  obtain rfl : dV = .none := Dflts.none hD hdf
  obtain rfl : kV = .none := Dflts.noKw hD
  obtain ⟨a, vs, ns, rfl, rfl, hobj, hints, hlen⟩ := zj9 hn hpre hwl
  refine enter_call (codeAny_mono (call w s₀ s₁ mg mb fa o pm cd doc a vs ns G Y ho (fd_plain hd) hcd hmg hobj hints hlen hg) fun r s' hq => ?_)
  obtain ⟨rfl, h2, h3, h4⟩ := hq
  exact ⟨.inl ⟨.bool true, .bool true, [], rfl, fun _ => rfl, .bool true, zke l _, fun _ => ⟨List.Pairwise.nil, fun _ hm => (nomatch hm)⟩⟩, h2, h3, h4⟩
end Att
namespace L2
open PySem PySem.Spec PyProof.Rows
theorem zfr : ∀ {vs : List Value} {ns : List Int}, IntsAre vs ns → Vals (ns.map V.int) vs
  | _, _, .nil => .nil
  | _, _, .cons n t h => .cons ⟨t, rfl⟩ (zfr h)
abbrev KOf {K : PySem.W.Frag} {h : Heap} (_ : K.In h) : PySem.W.Frag := K
def inClass (s : Stmt) (j : Nat) : Stmt := match s with
  | .ClassDef _ _ _ body _ _ _ _ _ _ _ => body.getD j (.Pass ⟨0, 0, 0, 0⟩)
  | _ => .Pass ⟨0, 0, 0, 0⟩
def defArgs (s : Stmt) : Arguments := match s with
  | .FunctionDef _ a _ _ _ _ _ _ _ _ => a
  | _ => { posonlyargs := [], args := [], vararg := none, kwonlyargs := [], kw_defaults := [], kwarg := none, defaults := [] }
def defBody (s : Stmt) : List Stmt := match s with
  | .FunctionDef _ _ b _ _ _ _ _ _ _ => b
  | _ => []
def defScope (s : Stmt) : Scope := match s with
  | .FunctionDef _ _ _ _ _ _ sc _ _ _ => sc
  | _ => { kind := .function, names := [], isGenerator := false, isCoroutine := false }
abbrev CX0 : CXT := fun _ _ _ _ _ _ => False
abbrev E0 : XK := fun _ _ _ => False
theorem pass0 {X : Cx} : Passes CX0 X E0 := fun _ _ _ _ _ _ _ h => h.elim
structure Fun (K : PySem.W.Frag) (x qual : Str) (st : Stmt) (f : Addr) (fd : FuncData) : Prop where
  ex : ∃ (oc : Value) (od : Option Addr) (kV doc pm : Value) (an : Option Addr) (cdv ct : Value) (osl : Array (Option Value)),
    fd = PySem.W.fnOf x qual (defArgs st) (defBody st) (defScope st) .none kV doc pm an cdv ct ∧ K.lookup f = some ⟨oc, od, .func fd, osl⟩ ∧ PySem.W.codeIn K cdv qual = true
  kp : PySem.W.keepIn K (.ref f) = true
section
variable {P : Program} {w : World} {K : PySem.W.Frag} {mg : Str → Option Value} {base : Heap}
theorem Fun.ok {x qual : Str} {st : Stmt} {f : Addr} {fd : FuncData} {N ps : List Str} {k : Nat} {sp : Sp} (F : Fun K x qual st f fd) (S : FnScope N ps (defScope st)) (len : ∀ vs H Q E, sp vs H Q E → vs.length = ps.length)
    (hbody : ∀ (cdv : Value) (A : Around) (outer : List Env) (s : Shared) (H : Hp) (vs : List V) (Q : VK) (E : XK), Room k (A.deeper (envOfC qual (defScope st) s.heap.objs.size f cdv)) → sp vs H Q E →
      ∃ t, PSs (cxOf CX0 P w K mg base N qual (defScope st) f cdv A outer s H E).nox (defBody st) t ∧ t { nx := fun _ H' => Q .non H', rt := Q } (start N vs) H) : FnOk P w K mg base CX0 (k + 1) f fd ps sp := by
  obtain ⟨oc, od, kV, doc, pm, an, cdv, ct, osl, rfl, lk, hcd⟩ := F.ex
  refine zrb lk hcd S len fun A outer s H vs Q E hr hsp => ?_
  obtain ⟨t, h, q⟩ := hbody cdv A outer s H vs Q E hr hsp
  exact ⟨t, h.nox, q⟩
theorem Fun.binds {x qual : Str} {st : Stmt} {f : Addr} {fd : FuncData} {ps : List Str} (F : Fun K x qual st f fd)
    (h : ∀ (kV doc pm : Value) (an : Option Addr) (cdv ct : Value) (us : List Value), us.length = ps.length → bindArgs (PySem.W.fnOf x qual (defArgs st) (defBody st) (defScope st) .none kV doc pm an cdv ct) ⟨us, []⟩ = pure (ps.zip us)) : Binds K fd ps [] := by
  obtain ⟨oc, od, kV, doc, pm, an, cdv, ct, osl, rfl, lk, hcd⟩ := F.ex
  exact .all (h kV doc pm an cdv ct)
theorem zde {x qual : Str} {st : Stmt} {f : Addr} {oc : Value} {od an : Option Addr} {osl : Array (Option Value)} {kV doc pm cdv ct : Value} (l : K.lookup f = some ⟨oc, od, .func (PySem.W.fnOf x qual (defArgs st) (defBody st) (defScope st) .none kV doc pm an cdv ct), osl⟩)
    (c : PySem.W.codeIn K cdv qual = true) (k : PySem.W.keepIn K (.ref f) = true) : Fun K x qual st f (PySem.W.fnOf x qual (defArgs st) (defBody st) (defScope st) .none kV doc pm an cdv ct) := ⟨⟨oc, od, kV, doc, pm, an, cdv, ct, osl, rfl, l, c⟩, k⟩
end
theorem small1000 {n : Nat} (h : n ≤ 1000) : n < sizeLine := Nat.lt_of_le_of_lt h (by decide)
section
variable {X : Cx}
theorem pv (i : Nat) {x : Str} {pos : Pos} (hN : X.N[i]? = some x := by rfl) (hv : Vis X.env.scope x := by first | exact Or.inl rfl | exact Or.inr (Or.inl rfl) | exact Or.inr (Or.inr rfl)) (hd : (x == ("__debug__" : Str)) = false := by decide)
    (hcd : (x == ("__classdict__" : Str)) = false := by decide) : PE X (.Name x pos) (tVar i) := zn6 hN hv hd hcd
end
theorem iteF {A B : Prop} (h : B) : if false = true then A else B := by
  rw [if_neg Bool.false_ne_true]
  exact h
theorem iteT {A B : Prop} (h : A) : if true = true then A else B := by
  rw [if_pos rfl]
  exact h
theorem ite2 {c A B : Prop} [Decidable c] (h1 : c → A) (h2 : ¬ c → B) : if c then A else B := by
  by_cases h : c
  · rw [if_pos h]
    exact h1 h
  · rw [if_neg h]
    exact h2 h
def Same (H H' : Hp) : Prop := ∀ b o, H b = some o → H' b = some o
theorem Same.refl (H : Hp) : Same H H := fun _ _ h => h
theorem Same.trans {H H1 H2 : Hp} (a : Same H H1) (b : Same H1 H2) : Same H H2 := fun c o h => b c o (a c o h)
theorem Same.free {H H' : Hp} (e : Same H H') {l : Addr} (h : H' l = Option.none) : H l = Option.none := by
  cases q : H l with
  | none => rfl
  | some o =>
    rw [e l o q] at h
    cases h
theorem Same.seq {K : PySem.W.Frag} {H H' : Hp} {a : Addr} {xs : List V} (e : Same H H') (h : SqL K H a xs) : SqL K H' a xs := by
  rcases h with (h | ⟨o, h⟩) | h
  · exact .inl (.inl (e _ _ h))
  · exact .inl (.inr ⟨o, e _ _ h⟩)
  · exact .inr h
theorem zc6 (env : Env) : ∀ (names : List (Str × NameKind)) (cs : List (Str × Addr)),
    (∀ p ∈ names, p.2 = .free → ∃ c, env.cells.lookup p.1 = some c) → (∀ x c, cs.lookup x = some c → env.cells.lookup x = some c) →
    ∃ cl : List (Str × Addr), (forIn names cs fun (p : Str × NameKind) (r : List (Str × Addr)) => (if (p.2 == NameKind.free) = true then (do let c ← cellOf env p.1; pure (ForInStep.yield ((p.1, c) :: r))) else pure (ForInStep.yield r) : Sem (ForInStep (List (Str × Addr))))) = (pure cl : Sem (List (Str × Addr))) ∧
      (∀ x c, cl.lookup x = some c → env.cells.lookup x = some c) ∧ (∀ x, (cs.lookup x).isSome = true → (cl.lookup x).isSome = true) ∧ (∀ p ∈ names, p.2 = .free → (cl.lookup p.1).isSome = true)
  | [], cs, _, h2 => ⟨cs, rfl, h2, fun _ h => h, fun _ h => nomatch h⟩
  | (n, k) :: r, cs, h1, h2 => by
    have h1' : ∀ p ∈ r, p.2 = .free → ∃ c, env.cells.lookup p.1 = some c := fun p hp => h1 p (List.mem_cons_of_mem _ hp)
    by_cases hk : (k == NameKind.free) = true
    · have hk' : k = .free := by simpa using hk
      obtain ⟨c, hc⟩ := h1 (n, k) List.mem_cons_self hk'
      have h2' : ∀ x c', ((n, c) :: cs).lookup x = some c' → env.cells.lookup x = some c' := fun x c' e => by
        rw [List.lookup_cons] at e
        cases hx : x == n with
        | true =>
          rw [hx] at e
          have e1 : x = n := by simpa using hx
          rw [e1, hc]; exact e
        | false => rw [hx] at e; exact h2 x c' e
      obtain ⟨cl, e1, e2, e3, e4⟩ := zc6 env r ((n, c) :: cs) h1' h2'
      have hn : (((n, c) :: cs).lookup n).isSome = true := by rw [List.lookup_cons, beq_self_eq_true]; rfl
      refine ⟨cl, ?_, e2, fun x hx => e3 x ?_, fun p hp hf => ?_⟩
      · rw [List.forIn_cons]
        have q : cellOf env n = pure c := by unfold cellOf; rw [hc]
        simp only [hk, if_true, q]
        exact e1
      · rw [List.lookup_cons]
        cases x == n with
        | true => rfl
        | false => exact hx
      · rcases List.mem_cons.mp hp with e | hp
        · rw [e]; exact e3 n hn
        · exact e4 p hp hf
    · obtain ⟨cl, e1, e2, e3, e4⟩ := zc6 env r cs h1' h2
      refine ⟨cl, ?_, e2, e3, fun p hp hf => ?_⟩
      · rw [List.forIn_cons]
        have hkf : (k == NameKind.free) = false := by simpa using hk
        simp only [hkf, Bool.false_eq_true, if_false]
        exact e1
      · rcases List.mem_cons.mp hp with e | hp
        · rw [e] at hf; exact absurd (by simpa using hf) hk
        · exact e4 p hp hf
theorem ze1 {scope : Scope} {env : Env} (h : ∀ p ∈ scope.names, p.2 = .free → ∃ c, env.cells.lookup p.1 = some c) :
    ∃ cl, closureFor scope env = pure cl ∧ (∀ x c, cl.lookup x = some c → env.cells.lookup x = some c) ∧ (∀ p ∈ scope.names, p.2 = .free → ∃ c, cl.lookup p.1 = some c) := by
  obtain ⟨cl, e1, e2, _, e4⟩ := zc6 env scope.names [] h (fun x c e => by simp at e)
  refine ⟨cl, ?_, e2, fun p hp hf => Option.isSome_iff_exists.mp (e4 p hp hf)⟩
  have q : closureFor scope env = (forIn scope.names [] fun (p : Str × NameKind) (r : List (Str × Addr)) => (if (p.2 == NameKind.free) = true then (do let c ← cellOf env p.1; pure (ForInStep.yield ((p.1, c) :: r))) else pure (ForInStep.yield r) : Sem (ForInStep (List (Str × Addr))))) >>= pure := by
    unfold closureFor
    rfl
  rw [q, e1]
  rfl
theorem zda {env : Env} : ∀ {names : List (Str × NameKind)} {x : Str}, (∀ y ∈ names, y.2 ≠ .cell) →
    ((names.map fun (n, k) => if (k == NameKind.free && env.scope.kind == .function && env.kindOf n == some .cell) then (n, NameKind.cell) else (n, k)).lookup x = some .cell ∨
     (names.map fun (n, k) => if (k == NameKind.free && env.scope.kind == .function && env.kindOf n == some .cell) then (n, NameKind.cell) else (n, k)).lookup x = some .free) → (x, NameKind.free) ∈ names
  | [], _, _, h => by simp at h
  | (n, k) :: r, x, hc, h => by
    have ih := @zda env r x (fun y hy => hc y (List.mem_cons_of_mem _ hy))
    simp only [List.map_cons] at h
    cases hx : x == n with
    | true =>
      have e : x = n := by simpa using hx
      subst e
      by_cases hh : (k == NameKind.free && env.scope.kind == .function && env.kindOf x == some .cell) = true
      · have : k = .free := by
          simp only [Bool.and_eq_true] at hh
          simpa using hh.1.1
        subst this
        exact List.mem_cons_self
      · rw [if_neg hh] at h
        simp only [List.lookup_cons, hx] at h
        rcases h with h | h
        · have : k = .cell := Option.some.inj h
          exact absurd this (hc (x, k) List.mem_cons_self)
        · have : k = .free := Option.some.inj h
          subst this
          exact List.mem_cons_self
    | false =>
      refine List.mem_cons_of_mem _ (ih ?_)
      by_cases hh : (k == NameKind.free && env.scope.kind == .function && env.kindOf n == some .cell) = true
      · rw [if_pos hh] at h
        simpa only [List.lookup_cons, hx] using h
      · rw [if_neg hh] at h
        simpa only [List.lookup_cons, hx] using h
theorem zc9 {env : Env} : ∀ {names : List (Str × NameKind)} {x : Str}, names.lookup x = some .free →
    ((names.map fun (n, k) => if (k == NameKind.free && env.scope.kind == .function && env.kindOf n == some .cell) then (n, NameKind.cell) else (n, k)).lookup x = some .cell ∨
     (names.map fun (n, k) => if (k == NameKind.free && env.scope.kind == .function && env.kindOf n == some .cell) then (n, NameKind.cell) else (n, k)).lookup x = some .free)
  | [], _, h => by simp at h
  | (n, k) :: r, x, h => by
    have ih := @zc9 env r x
    simp only [List.map_cons]
    cases hx : x == n with
    | true =>
      simp only [List.lookup_cons, hx] at h
      have e : k = .free := Option.some.inj h
      subst e
      by_cases hh : (NameKind.free == NameKind.free && env.scope.kind == .function && env.kindOf n == some .cell) = true
      · rw [if_pos hh]; left; simp only [List.lookup_cons, hx]
      · rw [if_neg hh]; right; simp only [List.lookup_cons, hx]
    | false =>
      simp only [List.lookup_cons, hx] at h
      by_cases hh : (k == NameKind.free && env.scope.kind == .function && env.kindOf n == some .cell) = true
      · rw [if_pos hh]; simpa only [List.lookup_cons, hx] using ih h
      · rw [if_neg hh]; simpa only [List.lookup_cons, hx] using ih h
def cxB (X : Cx) (scope : Scope) (tn : List Str) (cp : List (Nat × Str)) (cl : List (Str × Addr)) (C : Addr) (s : Shared) (H : Hp) (fp : List Addr) : Cx :=
  { X with N := tn ++ cp.map (·.2), s₀ := s, H₀ := H, env := compEnvC scope cl C X.env, outer := X.stack, ex := fp, fn := fun _ => false, pn := [], xe := fun _ _ => False }
def stB (tn : List Str) (cp : List (Nat × Str)) (σ : St) : St := List.replicate tn.length none ++ cp.map fun p => (σ[p.1]?).getD none
structure CompOk (X : Cx) (scope : Scope) (cp : List (Nat × Str)) : Prop where
  kind : scope.kind = .function
  nocell : ∀ y ∈ scope.names, y.2 ≠ .cell
  names : ∀ y ∈ scope.names, y.2 = .local → scope.names.lookup y.1 = some .local
  free : ∀ y ∈ scope.names, y.2 = .free → X.env.kindOf y.1 = some .cell ∨ X.env.kindOf y.1 = some .free
  cap : ∀ p ∈ cp, X.N[p.1]? = some p.2 ∧ scope.names.lookup p.2 = some .free
section
variable {X : Cx} {pins : List (Addr × Obj)} {σ : St} {H : Hp} {s : Shared} {scope : Scope} {tn : List Str} {cp : List (Nat × Str)} {cl : List (Str × Addr)} {fp : List Addr}
theorem mem_of_lookup' {α : Type} : ∀ {l : List (Str × α)} {x : Str} {v : α}, l.lookup x = some v → (x, v) ∈ l
  | [], _, _, h => by simp at h
  | (n, k) :: r, x, v, h => by
    rw [List.lookup_cons] at h
    cases hx : x == n with
    | true =>
      rw [hx] at h
      have e : x = n := by simpa using hx
      have e2 : k = v := Option.some.inj h
      subst e e2
      exact List.mem_cons_self
    | false => rw [hx] at h; exact List.mem_cons_of_mem _ (mem_of_lookup' h)
theorem zhp {h₁ : Heap} {t' : Nat} {m0 : Str → Option Value} (I : Inv X pins σ H s) (O : CompOk X scope cp) (hcl1 : ∀ x c, cl.lookup x = some c → X.env.cells.lookup x = some c) (hcl2 : ∀ p ∈ scope.names, p.2 = .free → ∃ c, cl.lookup p.1 = some c)
    (hf : ∀ b ∈ fp, FpOk X pins H b ∧ b < s.heap.objs.size) (hns : h₁.Ns s.heap.objs.size m0) (hk : ∀ b o, s.heap.get? b = some o → h₁.get? b = some o) :
    Inv (cxB X scope tn cp cl s.heap.objs.size s H fp) [] (stB tn cp σ) H { s with heap := h₁, toks := t' } := by
  have ok : (cxB X scope tn cp cl s.heap.objs.size s H fp).Ok := by
    refine ⟨I.ok.mod, O.kind, I.ok.glob, I.ok.blt, Nat.le_refl _, fun x y c e1 e2 => I.ok.inj x y c (hcl1 x c e1) (hcl1 y c e2), fun x hx => ?_, fun x c hx => (by cases hx), I.ok.hd, I.ok.frames, .inl rfl, fun b hb => ⟨Nat.ne_of_lt (hf b hb).2, fun x c e => ?_⟩,
      fun b o e => I.bs b o e, Nat.le_trans I.ok.bsz I.sz, fun b o e hb => ?_, fun b hb hb' => ?_, I.stack, I.stkFree⟩
    · exact hcl2 (x, .free) (zda O.nocell hx) rfl
    · exact (hf b hb).1.2.2.2.2.1 x c (hcl1 x c e)
    · rcases (hf b hb).1.2.2.2.1 with z | z
      · exact I.ok.noex b o e z
      · exact absurd (Nat.lt_of_lt_of_le (Heap.lt_size e) (Nat.le_trans I.ok.bsz z)) (Nat.lt_irrefl _)
    · rcases List.mem_cons.mp (I.stkSub b hb') with z | z
      · exact (hf b hb).1.2.1 z
      · exact (hf b hb).1.2.2.1 z
  refine ⟨ok, rfl, I.bare, Un.kept hk, ⟨m0, hns, fun i x v e1 e2 e3 => ?_⟩, fun x c e => ?_, I.hok.fresh (Nat.le_refl _), fun x c e => I.freeC x c (hcl1 x c e), fun p hp => by simp [cxB] at hp, I.hok.kept hk, ?_⟩
  · -- a captured name
    have e1' : (tn ++ cp.map (·.2))[i]? = some x := e1
    have e2' : (List.replicate tn.length none ++ cp.map fun p => (σ[p.1]?).getD none)[i]? = some (some v) := e2
    by_cases hi : i < tn.length
    · rw [List.getElem?_append_left (by simpa using hi)] at e2'
      rw [List.getElem?_replicate, if_pos hi] at e2'
      cases e2'
    · rw [List.getElem?_append_right (by simpa using Nat.le_of_not_lt hi), List.length_replicate, List.getElem?_map] at e2'
      rw [List.getElem?_append_right (Nat.le_of_not_lt hi), List.getElem?_map] at e1'
      cases hp : cp[i - tn.length]? with
      | none => rw [hp] at e1'; cases e1'
      | some p =>
        rw [hp] at e1' e2'
        have e1'' : p.2 = x := Option.some.inj e1'
        have e2'' : (σ[p.1]?).getD none = some v := Option.some.inj e2'
        obtain ⟨c1, c2⟩ := O.cap p (List.mem_of_getElem? hp)
        rw [e1''] at c1 c2
        have hs : σ[p.1]? = some (some v) := by
          cases q : σ[p.1]? with
          | none => rw [q] at e2''; cases e2''
          | some z => rw [q] at e2''; exact congrArg some e2''
        have hk' := O.free (x, .free) (mem_of_lookup' c2) rfl
        have hvis : Vis X.env.scope x := by
          rcases hk' with z | z
          · exact .inr (.inl z)
          · exact .inr (.inr z)
        obtain ⟨m, hn, hl⟩ := I.loc
        obtain ⟨u, r, l⟩ := hl p.1 x v c1 hs hvis
        refine ⟨u, r, .inr ?_⟩
        rcases l with ⟨z, _⟩ | ⟨_, c, hc, o, ho, hd⟩
        · rcases hk' with y | y <;> (rw [z] at y; cases y)
        · obtain ⟨c', hc'⟩ := hcl2 (x, .free) (mem_of_lookup' c2) rfl
          have : c' = c := Option.some.inj ((hcl1 x c' hc').symm.trans hc)
          subst this
          exact ⟨zc9 c2, c', hc', o, hk c' o ho, hd⟩
  · obtain ⟨v, o, ho, hd⟩ := I.cell x c (hcl1 x c e)
    exact ⟨v, o, hk c o ho, hd⟩
  · show (stB tn cp σ).length = (tn ++ cp.map (·.2)).length
    unfold stB
    simp
theorem zma {σ' : St} {H' : Hp} {s' : Shared} {h' : Heap} {pinsB : List (Addr × Obj)} (I : Inv X pins σ H s) (hf : ∀ b ∈ fp, FpOk X pins H b)
    (J : Inv (cxB X scope tn cp cl s.heap.objs.size s H fp) pinsB σ' H' s') (hs : Heap.SameBut s.heap.objs.size s'.heap h') : Inv X pins σ H' { s' with heap := h' } := by
  have ne : ∀ b o, s.heap.get? b = some o → b ≠ s.heap.objs.size := fun b o e => Nat.ne_of_lt (Heap.lt_size e)
  have U : Un (frs X.stack) fp H H' s.heap h' := by
    have u : Un (frs X.stack) fp H H' s.heap s'.heap := J.base
    refine ⟨fun b o e n h1 h2 => (hs.2 b (ne b o e)).trans (u.keep b o e n h1 h2), fun b o e n h1 h2 => ?_, u.free, fun b o e h2 => ?_, u.tups, u.frzs, u.tbls⟩
    · obtain ⟨sl, q⟩ := u.slot b o e n h1 h2
      exact ⟨sl, (hs.2 b (ne b o e)).trans q⟩
    · obtain ⟨o', q⟩ := u.there b o e h2
      exact ⟨o', (hs.2 b (ne b o e)).trans q⟩
  have fr : H' s.heap.objs.size = none := J.free
  have hok : HOk X.prog X.w H' h' := fun b ob e => by
    refine (J.hok b ob e).stay (fun c v hc q => (hs.2 c ?_).trans q) (fun _ q => q) (fun _ _ _ _ _ q => q) fun _ _ q => q
    rintro rfl
    rcases hc with z | z
    · rw [← z, fr] at e; cases e
    · rw [fr] at z; cases z
  refine I.call' (s' := { s' with heap := h' }) (ch := fp) J.os U hok J.bare fun b hb => ?_
  obtain ⟨_, f1, _, f3, f4, f5⟩ := hf b hb
  exact ⟨f3, f1, f4, f5⟩
end
def PIfs (X : Cx) (ifs : List Expr) (t : TT) : Prop :=
  ∀ (pins : List (Addr × Obj)) (s : Shared) (σ : St) (H : Hp) (Q : Bool → Hp → Prop), Inv X pins σ H s → t σ H Q →
    wpAny (model X.prog X.w) X.A (forIn ifs true fun c r => if r = true then do let ok ← isTrue c X.env (eval c X.env); pure (ForInStep.yield ok) else pure (ForInStep.yield r)) (TP X pins σ Q) X.xe s
def tYes : TT := fun _ H Q => Q true H
theorem zb1 {X : Cx} : PIfs X [] tYes := fun _ _ _ H _ I h => wpAny_tests_nil ⟨H, I, h⟩
theorem zki {X : Cx} {c : Expr} {t : TT} (h : PT X c t) : PIfs X [c] t := fun pins s σ H Q I hw => wpAny_tests_one (h pins s σ H Q I hw)
theorem zgi {prog : Program} {w : World} {A : Around} {R : Result → Shared → Prop} {s : Shared} {elt target iter : Expr} {ifs : List Expr} {scope : Scope} {pos : Pos} {it acc : Value} {env : Env} (I : Nat → Shared → Prop)
    (turn : ∀ n s, I n s → wpAny (model prog w) A (pyNext it) (fun r s₁ => match r with
      | none => R (.ok .next) s₁
      | some v => wpAny (model prog w) A (letOwnedTupleGo target it v) (fun _ s₂ => wpAny (model prog w) A (assign target env v) (fun _ s₃ =>
          wpAny (model prog w) A (forIn ifs true fun c r => if r = true then do let ok ← isTrue c env (eval c env); pure (ForInStep.yield ok) else pure (ForInStep.yield r)) (fun ok s₄ =>
            if ok = true then wpAny (model prog w) A (eval elt env) (fun x s₅ =>
              wpAny (model prog w) A (call (.builtin "list.append") [acc, x]) (fun _ s₆ => ∃ m, m < n ∧ I m s₆) (fun _ _ => False) s₅) (fun _ _ => False) s₄
            else ∃ m, m < n ∧ I m s₄) (fun _ _ => False) s₃) (fun _ _ => False) s₂) (fun _ _ => False) s₁) (fun _ _ => False) s)
    (n : Nat) (h : I n s) :
    codeAny (model prog w) A (.compLoop (.ListComp elt [⟨target, iter, ifs, 0⟩] scope pos) 0 it acc env) R s := by
  refine codeAny_loop rfl I (fun n s hI => ?_) n h
  show wpAny _ A ((compTurn (.ListComp elt [⟨target, iter, ifs, 0⟩] scope pos) 0 it acc env).onRaise (fun x => do noteFrame x env; theTreesLotGoes x)) _ _ s
  refine wpAny_noted ?_
  rw [compTurn_list]
  refine wpAny_bind (wpAny_standAt (wpAny_bind (wpAny_mono (turn n s hI) (fun r s₁ h₁ => ?_) fun _ _ f => f.elim)))
  cases r with
  | none => exact wpAny_pure h₁
  | some v =>
    refine wpAny_bind (wpAny_mono h₁ (fun _ s₂ h₂ => ?_) fun _ _ f => f.elim)
    refine wpAny_bind (wpAny_mono h₂ (fun _ s₃ h₃ => wpAny_bind (wpAny_mono h₃ (fun ok s₄ h₄ => ?_) fun _ _ f => f.elim)) fun _ _ f => f.elim)
    cases ok with
    | false => exact wpAny_pure ⟨rfl, h₄⟩
    | true =>
      exact wpAny_bind (wpAny_bind (wpAny_mono h₄ (fun x s₅ h₅ => wpAny_bind (wpAny_mono h₅ (fun _ s₆ h₆ => wpAny_pure (wpAny_pure ⟨rfl, h₆⟩)) fun _ _ f => f.elim)) fun _ _ f => f.elim))
def tComp (tn : List Str) (cp : List (Nat × Str)) (wi : TI) (g : TG) (tif : TT) (te : TE) : TE := fun σ H Q => wi σ H fun J H1 => ∀ D, H1 D = none → ∃ W : Nat → Nat → St → Hp → Prop,
  (∃ m, W 0 m (stB tn cp σ) (upd H1 D (.lst []))) ∧ ∀ i m σb Hb, W i m σb Hb →
    (J.stop i Hb ∧ Q (.ref D) Hb) ∨ (J.go i Hb ∧ ∀ x H', J.yld i Hb x H' → g x σb H' fun σ2 H2 => tif σ2 H2 fun c H3 =>
      if c = true then te σ2 H3 fun y H4 => ∃ ys, H4 D = some (.lst ys) ∧ ys.length < sizeLine ∧ ∃ m', m' < m ∧ W (i + 1) m' σ2 (upd H4 D (.lst (ys ++ [y])))
      else ∃ m', m' < m ∧ W (i + 1) m' σ2 H3)
theorem zey {X : Cx} {elt tg iter : Expr} {ifs : List Expr} {scope : Scope} {pos cpos : Pos} {wi : TI} {g : TG} {tif : TT} {te : TE} (tn : List Str) (cp : List (Nat × Str)) (O : CompOk X scope cp) (hc : X.calm = true) (hi : PI X tg iter wi)
    (hg : ∀ cl C s H fp, PG (cxB X scope tn cp cl C s H fp) tg g) (hif : ∀ cl C s H fp, PIfs (cxB X scope tn cp cl C s H fp) ifs tif) (he : ∀ cl C s H fp, PE (cxB X scope tn cp cl C s H fp) elt te)
    (hs : ∀ x, foldedSetIterable iter X.env x = pure x) {pins : List (Addr × Obj)} {s : Shared} {σ : St} {H : Hp} {Q : VK} {R : Value → Shared → Prop} {use : Option (Value → Sem Unit)} (I : Inv X pins σ H s) (h : tComp tn cp wi g tif te σ H Q)
    (fin : ∀ (D C : Addr) (H5 : Hp) (s5 : Shared) (m : Str → Option Value), Inv X pins σ H5 s5 → FpOk X pins H5 C → s5.heap.Ns C m → Q (.ref D) H5 → compPost (model X.prog X.w) X.A X.xe use R (.ref D) C (.ok .next) s5) :
    wpAny (model X.prog X.w) X.A (comprehension (.ListComp elt [⟨tg, iter, ifs, 0⟩] scope pos) scope X.env cpos (newList []) false (eval iter X.env) use) R X.xe s := by
  obtain ⟨cl, hcl, hcl1, hcl2⟩ := ze1 (scope := scope) (env := X.env) fun p hp hf => I.ok.has p.1 (O.free p hp hf)
  refine wpAny_comprehension_free (use := use) rfl hs hcl O.kind O.names (thn (hi pins s σ H _ I h) fun v s1 h1 => thn h1 fun itv s2 h2 => ?_)
  obtain ⟨it, fp, tn', J, H2, rfl, I2, T, st2, f2, rest⟩ := h2
  refine wpAny_newObj_type ?_
  have I3 : Inv X pins σ (upd H2 s2.heap.objs.size (.lst [])) { s2 with heap := s2.heap.push { cls := .type "list", data := .seq ([] : List Value).toArray } } := I2.lnew (its := []) (t' := s2.toks) .nil (Nat.zero_le _)
  obtain ⟨W, ⟨m0, w0⟩, turn⟩ := rest s2.heap.objs.size I2.fresh
  have fpl : ∀ b ∈ fp, b < s2.heap.objs.size := fun b hb => by
    obtain ⟨o, e, _⟩ := T.obj _ _ st2 b hb
    exact Heap.lt_size e
  have f3 : ∀ b ∈ fp, FpOk X pins (upd H2 s2.heap.objs.size (.lst [])) b := fun b hb => ⟨by rw [zam (Nat.ne_of_lt (fpl b hb))]; exact (f2 b hb).1, (f2 b hb).2⟩
  have sz3 : (s2.heap.push { cls := .type "list", data := .seq ([] : List Value).toArray }).objs.size = s2.heap.objs.size + 1 := Heap.size_push ..
  refine wpAny_newFunctionEnv O.nocell (by intro y hy; simp at hy) (fun h₁ hns hsb => ?_) O.kind
  have hk1 : ∀ b o, (s2.heap.push { cls := .type "list", data := .seq ([] : List Value).toArray }).get? b = some o → h₁.get? b = some o := fun b o e =>
    hsb.extBut b o (Nat.ne_of_lt (Heap.lt_size e)) (Heap.get?_push_of_some _ e)
  have J3 := zhp (tn := tn) (cp := cp) (t' := s2.toks + ([] : List (Str × Value)).length) I3 O hcl1 hcl2 (fun b hb => ⟨f3 b hb, by rw [sz3]; exact Nat.lt_succ_of_lt (fpl b hb)⟩) hns hk1
  have st3 : tn' 0 h₁ := T.keep _ _ _ st2 fun b hb o e => hk1 b o (Heap.get?_push_of_some _ e)
  show codeAny _ _ (.compStart _ 0 (.ref it) (.ref s2.heap.objs.size) (compEnvC scope cl (s2.heap.push { cls := .type "list", data := .seq ([] : List Value).toArray }).objs.size X.env)) _ _
  generalize hXB : cxB X scope tn cp cl (s2.heap.push { cls := .type "list", data := .seq ([] : List Value).toArray }).objs.size { s2 with heap := s2.heap.push { cls := .type "list", data := .seq ([] : List Value).toArray } } (upd H2 s2.heap.objs.size (.lst [])) fp = XB at J3
  have hprog : XB.prog = X.prog := by rw [← hXB]; rfl
  have hw : XB.w = X.w := by rw [← hXB]; rfl
  have hK : XB.K = X.K := by rw [← hXB]; rfl
  have hA : XB.A = X.A := by rw [← hXB]; rfl
  have henv : XB.env = compEnvC scope cl (s2.heap.push { cls := .type "list", data := .seq ([] : List Value).toArray }).objs.size X.env := by rw [← hXB]; rfl
  have hcalm : XB.calm = true := by rw [← hXB]; exact hc
  have hxe : XB.xe = fun _ _ => False := by rw [← hXB]; rfl
  have hgB : PG XB tg g := by rw [← hXB]; exact hg _ _ _ _ _
  have hifB : PIfs XB ifs tif := by rw [← hXB]; exact hif _ _ _ _ _
  have heB : PE XB elt te := by rw [← hXB]; exact he _ _ _ _ _
  have fB : ∀ (pb : List (Addr × Obj)) (Hb : Hp), (∀ b ∈ fp, Hb b = none) → (∀ b ∈ fp, ∀ p ∈ XB.pn ++ pb, p.1 ≠ b) → ∀ b ∈ fp, FpOk XB pb Hb b := fun pb Hb hn hp b hb => by
    refine ⟨hn b hb, ?_, ?_, .inl (by rw [← hXB]; exact hb), fun x c e => ?_, hp b hb⟩
    · rw [henv]; show b ≠ (s2.heap.push { cls := .type "list", data := .seq ([] : List Value).toArray }).objs.size
      rw [sz3]; exact Nat.ne_of_lt (Nat.lt_succ_of_lt (fpl b hb))
    · rw [← hXB]
      show b ∉ frs X.stack
      intro z
      rcases List.mem_cons.mp (I2.stkSub b z) with y | y
      · exact (f2 b hb).2.1 y
      · exact (f2 b hb).2.2.1 y
    · rw [henv] at e
      exact (f2 b hb).2.2.2.2.1 x c (hcl1 x c e)
  have pn0 : XB.pn = [] := by rw [← hXB]; rfl
  have loop : ∀ s₃ : Shared, s₃ = { s2 with heap := h₁, toks := s2.toks + ([] : List (Str × Value)).length } →
      codeAny (model X.prog X.w) X.A (.compLoop (.ListComp elt [⟨tg, iter, ifs, 0⟩] scope pos) 0 (.ref it) (.ref s2.heap.objs.size) XB.env)
        (compPost (model X.prog X.w) X.A X.xe use R (.ref s2.heap.objs.size) (s2.heap.push { cls := .type "list", data := .seq ([] : List Value).toArray }).objs.size) s₃ := by
    rintro s₃ rfl
    refine zgi (fun n s' => ∃ i σb Hb, Inv XB [] σb Hb s' ∧ tn' i s'.heap ∧ (∀ b ∈ fp, Hb b = none) ∧ W i n σb Hb) ?_ m0 ⟨0, stB tn cp σ, _, J3, st3, fun b hb => (f3 b hb).1, w0⟩
    rintro n s4 ⟨i, σ4, H4, I4, st4, fr4, w4⟩
    rcases turn i n σ4 H4 w4 with ⟨stop, qn⟩ | ⟨go, step⟩
    · have d := T.done XB hprog hw hK hcalm i [] s4 σ4 H4 (fun _ _ => False) I4 (fB [] H4 fr4 (fun b hb p hp => by rw [pn0] at hp; simp at hp)) st4 stop
      rw [hA] at d
      refine thn d fun r s5 ⟨hr, I5⟩ => ?_
      subst hr
      obtain ⟨mm, hn5, _⟩ := id I5.loc
      have fr5 : H4 (s2.heap.push { cls := .type "list", data := .seq ([] : List Value).toArray }).objs.size = none := by
        have z := I5.free
        rw [henv] at z
        exact z
      have J5 : Inv X pins σ H4 s5 := by
        rw [← hXB] at I5
        exact zma (h' := s5.heap) I3 f3 I5 ⟨rfl, fun _ _ => rfl⟩
      exact fin _ _ H4 s5 mm J5 (I3.fpOk (Nat.le_refl _) fr5) (by rw [henv] at hn5; exact hn5) qn
    · have d := T.item XB hprog hw hK hcalm i [] s4 σ4 H4 (fun _ _ => False) I4 (fB [] H4 fr4 (fun b hb p hp => by rw [pn0] at hp; simp at hp)) st4 go
      rw [hA] at d
      refine thn d fun r s5 ⟨u, hr, h5⟩ => ?_
      subst hr
      refine thn h5 fun _ s6 ⟨x, H6, I6, r6, y6, st6, fr6⟩ => ?_
      have I6' := I6.pinned (fB [] H6 fr6 (fun b hb p hp => by rw [pn0] at hp; simp at hp)) (T.obj _ _ st6)
      have q6 := step x H6 y6
      have a1 := hgB _ s6 σ4 H6 x u _ I6' r6 q6
      rw [hxe, hprog, hw, hA] at a1
      refine thn a1 fun _ s7 ⟨σ7, H7, I7, q7⟩ => ?_
      have a2 := hifB _ s7 σ7 H7 _ I7 q7
      rw [hxe, hprog, hw, hA] at a2
      refine thn a2 fun ok s8 ⟨H8, I8, q8⟩ => ?_
      have again : ∀ {σ9 : St} {H9 : Hp} {s9 : Shared}, Inv XB ([] ++ pinsAt fp s6.heap) σ9 H9 s9 → (∃ m', m' < n ∧ W (i + 1) m' σ9 H9) → ∃ m, m < n ∧ ∃ i σb Hb, Inv XB [] σb Hb s9 ∧ tn' i s9.heap ∧ (∀ b ∈ fp, Hb b = none) ∧ W i m σb Hb := fun {σ9 H9 s9} I9 n9 => by
        obtain ⟨m', hm, w9⟩ := n9
        refine ⟨m', hm, i + 1, σ9, H9, I9.unpinned, T.keep _ _ _ st6 fun b hb o e => (I9.pin (b, o) (List.mem_append_right _ (List.mem_append_right _ (zb7 hb e)))).1, fun b hb => ?_, w9⟩
        obtain ⟨o, e, d⟩ := T.obj _ _ st6 b hb
        exact (I9.pin (b, o) (List.mem_append_right _ (List.mem_append_right _ (zb7 hb e)))).2.1
      cases ok with
      | false => exact again I8 q8
      | true =>
        show wpAny _ _ _ _ _ _
        have a3 := heB _ s8 σ7 H8 _ I8 q8
        rw [hxe, hprog, hw, hA] at a3
        refine thn a3 fun yv s9 ⟨y, H9, I9, r9, ys, hD, hlen, n9⟩ => ?_
        have a4 := zbr (X := XB) _ s9 σ7 H9 (.ref s2.heap.objs.size) [y] (.ref s2.heap.objs.size) [yv] (fun _ H' => ∃ m', m' < n ∧ W (i + 1) m' σ7 H') I9 rfl (.cons r9 .nil) ⟨_, ys, y, rfl, rfl, hD, hlen, n9⟩
        rw [hxe, hprog, hw, hA] at a4
        exact thn a4 fun _ s10 ⟨_, H10, I10, _, q10⟩ => again I10 q10
  rw [henv] at loop
  refine codeAny_compStart_list (loop _ rfl) (T.self _ 0 _ _ _ st3 (loop _ rfl))
theorem zbb {X : Cx} {elt tg iter : Expr} {ifs : List Expr} {scope : Scope} {pos : Pos} {wi : TI} {g : TG} {tif : TT} {te : TE} (tn : List Str) (cp : List (Nat × Str)) (O : CompOk X scope cp) (hc : X.calm = true) (hi : PI X tg iter wi)
    (hg : ∀ cl C s H fp, PG (cxB X scope tn cp cl C s H fp) tg g) (hif : ∀ cl C s H fp, PIfs (cxB X scope tn cp cl C s H fp) ifs tif) (he : ∀ cl C s H fp, PE (cxB X scope tn cp cl C s H fp) elt te)
    (hs : ∀ x, foldedSetIterable iter X.env x = pure x := by intro _; rfl) :
    PE X (.ListComp elt [⟨tg, iter, ifs, 0⟩] scope pos) (tComp tn cp wi g tif te) := by
  intro pins s σ H Q I h
  rw [eval_ListComp]
  refine zey tn cp O hc hi hg hif he hs I h fun D C H5 s5 m I5 f5 n5 q5 => ⟨m, n5, fun h' hs' => ⟨.ref D, H5, ?_, rfl, q5⟩⟩
  obtain ⟨f0, f1, f2, f3, f4, f5⟩ := f5
  exact I5.turned (t' := s5.toks) (fun b o hb e => (hs'.2 b hb).trans e) f0 f1 f3 f4 f5
theorem zo4 {X : Cx} {i : Nat} {x : Str} {elt tg iter : Expr} {ifs : List Expr} {scope : Scope} {pos pos' spos : Pos} {wi : TI} {g : TG} {tif : TT} {te : TE} (hN : X.N.Nodup) (hx : X.N[i]? = some x) (hl : Loc X.env.scope x) (tn : List Str) (cp : List (Nat × Str)) (O : CompOk X scope cp) (hc : X.calm = true) (hi : PI X tg iter wi)
    (hg : ∀ cl C s H fp, PG (cxB X scope tn cp cl C s H fp) tg g) (hif : ∀ cl C s H fp, PIfs (cxB X scope tn cp cl C s H fp) ifs tif) (he : ∀ cl C s H fp, PE (cxB X scope tn cp cl C s H fp) elt te)
    (hsw : swapsWith (.ListComp elt [⟨tg, iter, ifs, 0⟩] scope pos) (some (.Name x pos')) spos.line X.env = pure true := by rfl) (hs : ∀ x, foldedSetIterable iter X.env x = pure x := by intro _; rfl)
    (hf : X.fn x = true ∨ X.env.scope.names.lookup x = some .local := by first | exact .inl rfl | exact .inr rfl | assumption) :
    PS X (.Assign [.Name x pos'] (.ListComp elt [⟨tg, iter, ifs, 0⟩] scope pos) spos) (tAsg (tComp tn cp wi g tif te) (gName i)) := by
  intro pins s σ H D I h
  rw [exec_Assign_Name_used _ _ _ _ hsw]
  refine wpAny_bind (wpAny_standAt (wpAny_bind ?_))
  show wpAny _ X.A (do let _ ← comprehension (.ListComp elt [⟨tg, iter, ifs, 0⟩] scope pos) scope X.env _ (newList []) false (eval iter X.env) (some (assign (.Name x pos') X.env))) _ _ s
  refine wpAny_bind (wpAny_mono (zey tn cp O hc hi hg hif he hs (R := fun _ s' => SP X pins D .next s') I h fun E C H5 s5 m I5 f5 n5 q5 => ?_) (fun _ _ q => wpAny_pure (wpAny_pure q)) fun _ _ e => e)
  obtain ⟨f0, f1, f2, f3, f4, f5⟩ := f5
  show wpAny _ X.A (assign (.Name x pos') X.env (.ref E)) _ _ _
  refine wpAny_assign_Name (zft I5 hN hx hl (v := .ref E) rfl (fun s6 I6 ⟨a, sb, ha⟩ => ?_) hf)
  have ne : C ≠ a := by
    rcases ha with e | e
    · rw [e]; exact f1
    · exact fun z => f4 x a e z.symm
  refine ⟨m, n5.sameBut sb ne, fun h' hs' => ⟨_, H5, I6.turned (t' := s6.toks) (fun b o hb e => (hs'.2 b hb).trans e) f0 f1 f3 f4 f5, q5⟩⟩
def Its (z : Str) : It := ⟨fun i _ => i < z.cps.size, fun i H x H' => H' = H ∧ ∃ c, z.cps[i]? = some c ∧ x = .str ⟨#[c]⟩, fun i _ => z.cps.size ≤ i⟩
theorem zhv {P : Program} {w : World} {K : PySem.W.Frag} {tg : Expr} (z : Str) (t : Tok) (it : Addr) (ty : String) (hty : ty = "str_ascii_iterator" ∨ ty = "str_iterator") :
    Turn P w K tg (Its z) [it] it (fun i h => h.IsStrIter it ty z t i) where
  mem := by simp
  obj := fun i h st b hb => by
    have e : b = it := by simpa using hb
    subst e
    obtain ⟨o, e, c, d⟩ := st
    exact ⟨o, e, fun v z => by rw [d] at z; cases z⟩
  keep := fun i h h' st k => by
    obtain ⟨o, e, r⟩ := st
    exact ⟨o, k it (by simp) o e, r⟩
  item := by
    intro X hP hw hK hc i pins s σ H E I hf st hg
    subst hP hw hK
    obtain ⟨f0, f1, f2, f3, f4, f5⟩ := hf it (by simp)
    have hi : i < z.cps.size := hg
    have hx : z.cps[i]? = some z.cps[i] := by simp [hi]
    have nn : (["enumerate", "zip", "dict_itemiterator", "dict_reverseitemiterator", "odict_iterator", "itertools.zip_longest", "itertools.pairwise"].contains ty) = false := by
      rcases hty with e | e <;> (rw [e]; decide)
    have fin : ∀ h', h'.IsStrIter it ty z t (i + 1) → Heap.SameBut it s.heap h' → ∃ u, some (Value.str ⟨#[z.cps[i]]⟩ s.toks) = some u ∧
        wpAny (model X.prog X.w) X.A (letOwnedTupleGo tg (.ref it) u) (fun _ s2 => ∃ x H', Inv X pins σ H' s2 ∧ RelV x u ∧ (Its z).yld i H x H' ∧ s2.heap.IsStrIter it ty z t (i + 1) ∧ ∀ b ∈ [it], H' b = none) E { s with heap := h', toks := s.toks + 1 } := fun h' st' sb => by
      have I1 : Inv X pins σ H { s with heap := h', toks := s.toks + 1 } := I.turned (t' := s.toks + 1) (fun b o hb e => (sb.2 b hb).trans e) f0 f1 f3 f4 f5
      obtain ⟨o, e, c, d⟩ := id st'
      exact ⟨_, rfl, zno (s := { s with heap := h', toks := s.toks + 1 }) e c d nn ⟨.str ⟨#[z.cps[i]]⟩, H, I1, ⟨_, rfl⟩, ⟨rfl, _, hx, rfl⟩, st', fun b hb => (hf b hb).1⟩⟩
    rcases hty with e | e
    · subst e; exact wpAny_pyNext_ascii_item st hx fin
    · subst e; exact wpAny_pyNext_wide_item st hx fin
  done := by
    intro X hP hw hK hc i pins s σ H E I hf st hg
    subst hP hw hK
    obtain ⟨f0, f1, f2, f3, f4, f5⟩ := hf it (by simp)
    have hi : z.cps.size ≤ i := hg
    have hx : z.cps[i]? = none := by simp [hi]
    rcases hty with e | e
    · subst e; exact wpAny_pyNext_ascii_end (I.ok.hd hc) st hx fun h' eb => ⟨rfl, I.turned (t' := s.toks) (fun b o hb e => eb b o hb e) f0 f1 f3 f4 f5⟩
    · subst e; exact wpAny_pyNext_wide_end (I.ok.hd hc) st hx fun h' eb => ⟨rfl, I.turned (t' := s.toks) (fun b o hb e => eb b o hb e) f0 f1 f3 f4 f5⟩
  self := by
    intro A i s Q E st h
    rcases hty with e | e
    · subst e; exact wpAny_pyIter_striter_ascii st h
    · subst e; exact wpAny_pyIter_striter_wide st h
def iStr (tl : TE) : TI := fun σ H R => tl σ H fun x H1 => ∃ z, x = .str z ∧ R (Its z) H1
theorem zqo {X : Cx} {tg l : Expr} {tl : TE} (hl : PE X l tl) : PI X tg l (iStr tl) := by
  intro pins s σ H R I h
  refine thn (hl pins s σ H _ I h) fun v s1 ⟨x, H1, I1, r1, q1⟩ => ?_
  obtain ⟨z, e, q⟩ := q1
  subst e
  obtain ⟨t, rfl⟩ := r1
  have fo : ∀ b ∈ [s1.heap.objs.size], FpOk X pins H1 b := fun b hb => by
    have e : b = s1.heap.objs.size := by simpa using hb
    subst e
    exact I1.fpOk (Nat.le_refl _) (I1.hok.fresh (Nat.le_refl _))
  cases ha : z.cps.all (· < 128)
  · exact wpAny_pyIter_wide ha ⟨s1.heap.objs.size, [s1.heap.objs.size], _, _, H1, rfl, I1.kept (t' := s1.toks) fun b o e => Heap.get?_push_of_some _ e, zhv z t _ "str_iterator" (.inr rfl), ⟨_, Heap.get?_push_size _ rfl, rfl, rfl⟩, fo, q⟩
  · exact wpAny_pyIter_ascii ha ⟨s1.heap.objs.size, [s1.heap.objs.size], _, _, H1, rfl, I1.kept (t' := s1.toks) fun b o e => Heap.get?_push_of_some _ e, zhv z t _ "str_ascii_iterator" (.inl rfl), ⟨_, Heap.get?_push_size _ rfl, rfl, rfl⟩, fo, q⟩
def rSlS : V → Option Int → Option Int → Hp → VK → Prop := fun x lo hi H Q => ∃ z, x = .str z ∧ z.length ≤ sizeLine ∧ Q (.str (Txt.slice z lo hi)) H
theorem zn4 {X : Cx} : SlR X rSlS := by
  intro pins s σ H x v vl vu lo hi sl Q I rx hs pl pu h
  obtain ⟨z, rfl, hz, q⟩ := h
  obtain ⟨t, rfl⟩ := rx
  refine ⟨"str", _, F.slot_str_getitem.lookup, typeIs_str _ _ _, ?_⟩
  have go : ∀ (l u : Option (Int × Tok)), vl = partValue l → vu = partValue u → lo = l.map (·.1) → hi = u.map (·.1) → wpAny (model X.prog X.w) X.A (getItem (.str z t) (.ref sl)) (EP X pins σ Q) X.xe s := by
    rintro l u rfl rfl rfl rfl
    refine wpAny_getItem_str_slice (l := l) (u := u) (st := none) ?_ rfl ?_
    · obtain ⟨o, e, c, d⟩ := hs
      exact ⟨o, e, c, d⟩
    · exact post_val_or_str ⟨Nat.le_trans (Txt.slice_le z _ _) hz, fun t' k => ⟨.str _, H, I.tok _, ⟨_, rfl⟩, q⟩⟩
  cases pl with
  | none =>
    cases pu with
    | none => exact go none none rfl rfl rfl rfl
    | int j u => exact go none (some (j, u)) rfl rfl rfl rfl
  | int i t' =>
    cases pu with
    | none => exact go (some (i, t')) none rfl rfl rfl rfl
    | int j u => exact go (some (i, t')) (some (j, u)) rfl rfl rfl rfl
theorem zhm {X : Cx} : CallR X (.builtin "isinstance") (fun xs H Q => ∃ x T t b, xs = [x, .ty T] ∧ TyOf X.K H x t ∧ PySem.W.kitOne X.K t (.type T) = some b ∧ Q (.bl b) H) := by
  intro pins s σ H xs us Q I r h
  obtain ⟨x, T, t, b, rfl, ty, e, q⟩ := h
  obtain ⟨u, w', rfl, rx, ry⟩ := vals2 r
  cases (show w' = Value.type T from ry)
  exact zlc I rx ty e fun tk => ⟨.bl b, H, I.tok _, rfl, q⟩
section
open PyProof.Rows.LSm
theorem zis {bs : List Bool} : ∀ {us : List Value}, Vals (bs.map V.bl) us → BoolsAre us bs := by
  induction bs with
  | nil => intro us r; rw [List.map_nil] at r; cases r; exact .nil
  | cons b bs ih =>
    intro us r
    rw [List.map_cons] at r
    cases r with
    | cons r1 r2 =>
      cases (show _ = Value.bool b from r1)
      exact .cons b (ih r2)
theorem zho {X : Cx} (hc : X.calm = true) : CallR X (.builtin "all") (fun xs H Q => ∃ (p : Addr) (bs : List Bool), xs = [.ref p] ∧ SqL X.K H p (bs.map V.bl) ∧ Q (.bl (bs.all id)) H) := by
  intro pins s σ H xs us Q I r h
  obtain ⟨p, bs, rfl, hx, q⟩ := h
  obtain ⟨u, rfl, rx⟩ := vals1 r
  cases (show u = Value.ref p from rx)
  obtain ⟨vs, rv, pl, hz⟩ := I.list hx
  have hl := pl.isList
  have hb := zis rv
  have hlt : p < s.heap.objs.size := by obtain ⟨_, e, _⟩ := hl; exact Heap.lt_size e
  refine call_all_walk (wpAny_pyIter_list hl ?_)
  refine ⟨s.heap.objs.size, [s.heap.objs.size, p], [s.heap.objs.size], vs.toArray.size, _, _, fun i => (bs[i]?).getD true, rfl, Walks.list (A := X.A.in1) (I.ok.hd hc) _ p (Nat.ne_of_lt hlt) vs.toArray,
    ⟨⟨_, Heap.get?_push_size _ rfl, rfl, rfl⟩, hl.push _⟩, fun i v s' Q' E' hP hQ => ?_, fun h' tk hk => ?_⟩
  · obtain ⟨b, e, rfl⟩ := hb.get i v (by simpa using hP)
    simp only [e, Option.getD_some] at hQ
    exact wpAny_truthy_bool hQ
  · have e : ((List.range vs.toArray.size).all fun i => (bs[i]?).getD true) = bs.all id := by
      rw [List.size_toArray, hb.length]; exact range_all bs
    rw [e]
    exact ⟨.bl _, H, I.kept (kept_iter hk), rfl, q⟩
theorem zhn {X : Cx} (hc : X.calm = true) : CallR X (.builtin "any") (fun xs H Q => ∃ (p : Addr) (bs : List Bool), xs = [.ref p] ∧ SqL X.K H p (bs.map V.bl) ∧ Q (.bl (bs.any id)) H) := by
  intro pins s σ H xs us Q I r h
  obtain ⟨p, bs, rfl, hx, q⟩ := h
  obtain ⟨u, rfl, rx⟩ := vals1 r
  cases (show u = Value.ref p from rx)
  obtain ⟨vs, rv, pl, hz⟩ := I.list hx
  have hl := pl.isList
  have hb := zis rv
  have hlt : p < s.heap.objs.size := by obtain ⟨_, e, _⟩ := hl; exact Heap.lt_size e
  refine call_any_walk (wpAny_pyIter_list hl ?_)
  refine ⟨s.heap.objs.size, [s.heap.objs.size, p], [s.heap.objs.size], vs.toArray.size, _, _, fun i => (bs[i]?).getD false, rfl, Walks.list (A := X.A.in1) (I.ok.hd hc) _ p (Nat.ne_of_lt hlt) vs.toArray,
    ⟨⟨_, Heap.get?_push_size _ rfl, rfl, rfl⟩, hl.push _⟩, fun i v s' Q' E' hP hQ => ?_, fun h' tk hk => ?_⟩
  · obtain ⟨b, e, rfl⟩ := hb.get i v (by simpa using hP)
    simp only [e, Option.getD_some] at hQ
    exact wpAny_truthy_bool hQ
  · have e : ((List.range vs.toArray.size).any fun i => (bs[i]?).getD false) = bs.any id := by
      rw [List.size_toArray, hb.length]; exact range_any bs
    rw [e]
    exact ⟨.bl _, H, I.kept (kept_iter hk), rfl, q⟩
theorem zgk {X : Cx} (hc : X.calm = true) : CallR X (.builtin "sum") (fun xs H Q => ∃ (p : Addr) (ns : List Int), xs = [.ref p] ∧ SqL X.K H p (ns.map V.int) ∧ Q (.int ns.sum) H) := by
  intro pins s σ H xs us Q I r h
  obtain ⟨p, ns, rfl, hx, q⟩ := h
  obtain ⟨u, rfl, rx⟩ := vals1 r
  cases (show u = Value.ref p from rx)
  obtain ⟨vs, rv, pl, hz⟩ := I.list hx
  have hi := zjk rv
  obtain ⟨ys, hy⟩ := hi.allInts.items
  have hl' : s.heap.IsList p (intItems ys) := hy ▸ pl.isList
  refine sum_intListG (I.ok.hd hc) hl' fun h' tk t' hk => ?_
  have e1 : ns = ys.toList.map (·.1) := by
    rw [← nums_intItems, ← hy]
    exact (show numsOf vs.toArray.toList = ns from hi.numsOf).symm
  have e2 : preSum (numAt ys) ys.size = ns.sum := by
    rw [preSum_eq, List.take_of_length_le (by simp), e1]
  rw [e2]
  exact ⟨.int _, H, I.kept hk, ⟨_, rfl⟩, q⟩
end
def rZfill : V → List V → Hp → VK → Prop := fun x vs H Q => ∃ z i, x = .str z ∧ vs = [.int i] ∧ PadOk i = true ∧ Q (.str (Txt.zfill z i)) H
def EqOk (X : Cx) (k : Nat) (H : Hp) (x y : V) (b : Bool) : Prop := ∀ (pins : List (Addr × Obj)) (σ : St) (s : Shared) (A : Around) (u v : Value), A.units + k < cLine → Inv X pins σ H s → RelV x u → RelV y v → SeqAt.EqAt A s u v b
def RcOk (X : Cx) (k : Nat) (H : Hp) (x y : V) (b : Bool) : Prop := ∀ (pins : List (Addr × Obj)) (σ : St) (s : Shared) (A : Around) (u v : Value), A.units + k < cLine → Inv X pins σ H s → RelV x u → RelV y v → SeqAt.RcAt A s u v b
section
variable {X : Cx} {k : Nat} {H : Hp} {x y : V} {a b : Addr} {xs ys : List V}
theorem zlm (fx : flatV x = true) (fy : flatV y = true) : EqOk X k H x y (eqV x y) := fun _ _ _ _ _ _ _ _ rx ry => zln rx ry fx fy
theorem Vals.at {xs : List V} {us : List Value} (r : Vals xs us) {j : Nat} (h : j < us.length) : ∃ (h' : j < xs.length), RelV xs[j] us[j] := by
  have hl := r.length
  have h' : j < xs.length := by omega
  obtain ⟨u, e, q⟩ := r.get (i := j) (x := xs[j]) (by simp [h'])
  rw [List.getElem?_eq_getElem h] at e
  cases e
  exact ⟨h', q⟩
theorem zi5 (hx : SqL X.K H a xs) (hy : SqL X.K H b ys) (hl : xs.length = ys.length) (e : Nat → Bool) (he : ∀ j (h1 : j < xs.length) (h2 : j < ys.length), EqOk X k H xs[j] ys[j] (e j)) :
    RcOk X (k + 1) H (.ref a) (.ref b) ((List.range xs.length).all e) := fun pins σ s A u v hu I rx ry => by
  cases (show u = Value.ref a from rx)
  cases (show v = Value.ref b from ry)
  obtain ⟨us, r1, p1, _⟩ := I.list hx
  obtain ⟨vs, r2, p2, _⟩ := I.list hy
  have l1 := r1.length
  have l2 := r2.length
  have q := SeqAt.RcAt.lists (A := A) (e := e) p1.isList p2.isList (by rw [List.size_toArray, List.size_toArray]; omega) (by omega) fun j h1 h2 => by
    rw [List.size_toArray] at h1 h2
    obtain ⟨g1, q1⟩ := r1.at h1
    obtain ⟨g2, q2⟩ := r2.at h2
    exact he j g1 g2 pins σ s A.in1 _ _ (by show A.units + 1 + k < cLine; omega) I (by simpa using q1) (by simpa using q2)
  rw [List.size_toArray, ← l1] at q
  exact q
theorem zkd (hx : SqL X.K H a xs) (hy : SqL X.K H b ys) (hl : xs.length ≠ ys.length) : RcOk X k H (.ref a) (.ref b) false := fun pins σ s A u v hu I rx ry => by
  cases (show u = Value.ref a from rx)
  cases (show v = Value.ref b from ry)
  obtain ⟨us, r1, p1, _⟩ := I.list hx
  obtain ⟨vs, r2, p2, _⟩ := I.list hy
  have l1 := r1.length
  have l2 := r2.length
  exact SeqAt.RcAt.lists_lengths p1.isList p2.isList (by rw [List.size_toArray, List.size_toArray]; simp; omega) (by omega)
end
def rEqD (X : Cx) (k : Nat) : R2 := fun x y H Q => ∃ c, RcOk X k H x y c ∧ Q (.bl c) H
theorem zqu {X : Cx} {k : Nat} (hu : X.A.units + k < cLine) : OpR X (compareOp .Eq) (rEqD X k) := by
  intro pins s σ H x y v u Q I rx ry h
  obtain ⟨c, r, q⟩ := h
  exact r pins σ s X.A v u hu I rx ry _ _ _ _ ⟨.bl c, H, I, rfl, q⟩
def CW (D : Addr) (n : Nat) (Pv : Nat → List V → St → Hp → Prop) (i m : Nat) (σ : St) (H : Hp) : Prop := m = n - i ∧ i ≤ n ∧ ∃ ys, H D = some (.lst ys) ∧ ys.length ≤ i ∧ Pv i ys σ H
def CStep (D : Addr) (n i : Nat) (Pv : Nat → List V → St → Hp → Prop) (σ2 : St) (y : V) (H4 : Hp) : Prop :=
  ∃ ys, H4 D = some (.lst ys) ∧ ys.length < sizeLine ∧ ∃ m', m' < n - i ∧ CW D n Pv (i + 1) m' σ2 (upd H4 D (.lst (ys ++ [y])))
def CSkip (D : Addr) (n i : Nat) (Pv : Nat → List V → St → Hp → Prop) (σ2 : St) (H3 : Hp) : Prop := ∃ m', m' < n - i ∧ CW D n Pv (i + 1) m' σ2 H3
section
variable {D : Addr} {Q : VK} {g : TG} {tif : TT} {te : TE} {σ0 : St} {H1 : Hp} {n i : Nat} {Pv : Nat → List V → St → Hp → Prop}
theorem cstep {ys : List V} {y : V} {σ2 : St} {H4 : Hp} (hn : n ≤ sizeLine) (hi : i < n) (hD : H4 D = some (.lst ys)) (hl : ys.length ≤ i) (h : Pv (i + 1) (ys ++ [y]) σ2 (upd H4 D (.lst (ys ++ [y])))) : CStep D n i Pv σ2 y H4 :=
  ⟨ys, hD, by omega, n - (i + 1), by omega, rfl, hi, ys ++ [y], zap, by rw [List.length_append, List.length_singleton]; omega, h⟩
theorem cskip {ys : List V} {σ2 : St} {H3 : Hp} (hi : i < n) (hD : H3 D = some (.lst ys)) (hl : ys.length ≤ i) (h : Pv (i + 1) ys σ2 H3) : CSkip D n i Pv σ2 H3 :=
  ⟨n - (i + 1), by omega, rfl, hi, ys, hD, by omega, h⟩
theorem zhj {J : It} (Pv : Nat → List V → St → Hp → Prop) (hn : n ≤ sizeLine) (h0 : Pv 0 [] σ0 (upd H1 D (.lst [])))
    (hgo : ∀ i ys σ H, i < n → H D = some (.lst ys) → Pv i ys σ H → J.go i H) (hstop : ∀ ys σ H, H D = some (.lst ys) → Pv n ys σ H → J.stop n H)
    (hs : ∀ i ys σ H, i < n → H D = some (.lst ys) → ys.length ≤ i → Pv i ys σ H → ∀ x H', J.yld i H x H' → g x σ H' fun σ2 H2 => tif σ2 H2 fun c H3 =>
      if c = true then te σ2 H3 fun y H4 => CStep D n i Pv σ2 y H4 else CSkip D n i Pv σ2 H3)
    (hd : ∀ ys σ H, H D = some (.lst ys) → ys.length ≤ n → Pv n ys σ H → Q (.ref D) H) :
    ∃ W : Nat → Nat → St → Hp → Prop, (∃ m, W 0 m σ0 (upd H1 D (.lst []))) ∧ ∀ i m σb Hb, W i m σb Hb →
      (J.stop i Hb ∧ Q (.ref D) Hb) ∨ (J.go i Hb ∧ ∀ x H', J.yld i Hb x H' → g x σb H' fun σ2 H2 => tif σ2 H2 fun c H3 =>
        if c = true then te σ2 H3 fun y H4 => ∃ ys, H4 D = some (.lst ys) ∧ ys.length < sizeLine ∧ ∃ m', m' < m ∧ W (i + 1) m' σ2 (upd H4 D (.lst (ys ++ [y])))
        else ∃ m', m' < m ∧ W (i + 1) m' σ2 H3) := by
  refine ⟨CW D n Pv, ⟨n, by omega, Nat.zero_le _, [], zap, Nat.le_refl _, h0⟩, ?_⟩
  rintro i m σ H ⟨rfl, hi, ys, hD, hl, p⟩
  by_cases hlt : i < n
  · exact .inr ⟨hgo i ys σ H hlt hD p, hs i ys σ H hlt hD hl p⟩
  · have e : i = n := by omega
    subst e
    exact .inl ⟨hstop ys σ H hD p, hd ys σ H hD hl p⟩
theorem znz {z : Str} (Pv : Nat → List V → St → Hp → Prop) (hn : z.cps.size ≤ sizeLine) (h0 : Pv 0 [] σ0 (upd H1 D (.lst [])))
    (hs : ∀ i ys σ H c, i < z.cps.size → z.cps[i]? = some c → H D = some (.lst ys) → ys.length ≤ i → Pv i ys σ H → g (.str ⟨#[c]⟩) σ H fun σ2 H2 => tif σ2 H2 fun c H3 =>
      if c = true then te σ2 H3 fun y H4 => CStep D z.cps.size i Pv σ2 y H4 else CSkip D z.cps.size i Pv σ2 H3)
    (hd : ∀ ys σ H, H D = some (.lst ys) → ys.length ≤ z.cps.size → Pv z.cps.size ys σ H → Q (.ref D) H) :
    ∃ W : Nat → Nat → St → Hp → Prop, (∃ m, W 0 m σ0 (upd H1 D (.lst []))) ∧ ∀ i m σb Hb, W i m σb Hb →
      ((Its z).stop i Hb ∧ Q (.ref D) Hb) ∨ ((Its z).go i Hb ∧ ∀ x H', (Its z).yld i Hb x H' → g x σb H' fun σ2 H2 => tif σ2 H2 fun c H3 =>
        if c = true then te σ2 H3 fun y H4 => ∃ ys, H4 D = some (.lst ys) ∧ ys.length < sizeLine ∧ ∃ m', m' < m ∧ W (i + 1) m' σ2 (upd H4 D (.lst (ys ++ [y])))
        else ∃ m', m' < m ∧ W (i + 1) m' σ2 H3) :=
  zhj Pv hn h0 (fun i _ _ _ hi _ _ => hi) (fun _ _ _ _ _ => Nat.le_refl _) (fun i ys σ H hi hD hl p x H' y => by
    obtain ⟨e, c, hc, ex⟩ := y
    subst e ex
    exact hs i ys σ _ c hi hc hD hl p) hd
theorem zl2 {K : PySem.W.Frag} {a : Addr} {xs : List V} (Pv : Nat → List V → St → Hp → Prop) (hn : xs.length ≤ sizeLine) (h0 : Pv 0 [] σ0 (upd H1 D (.lst [])))
    (hl : ∀ i ys σ H, i ≤ xs.length → H D = some (.lst ys) → Pv i ys σ H → SqL K H a xs)
    (hs : ∀ i ys σ H x, i < xs.length → xs[i]? = some x → H D = some (.lst ys) → ys.length ≤ i → Pv i ys σ H → g x σ H fun σ2 H2 => tif σ2 H2 fun c H3 =>
      if c = true then te σ2 H3 fun y H4 => CStep D xs.length i Pv σ2 y H4 else CSkip D xs.length i Pv σ2 H3)
    (hd : ∀ ys σ H, H D = some (.lst ys) → ys.length ≤ xs.length → Pv xs.length ys σ H → Q (.ref D) H) :
    ∃ W : Nat → Nat → St → Hp → Prop, (∃ m, W 0 m σ0 (upd H1 D (.lst []))) ∧ ∀ i m σb Hb, W i m σb Hb →
      ((Itl K a).stop i Hb ∧ Q (.ref D) Hb) ∨ ((Itl K a).go i Hb ∧ ∀ x H', (Itl K a).yld i Hb x H' → g x σb H' fun σ2 H2 => tif σ2 H2 fun c H3 =>
        if c = true then te σ2 H3 fun y H4 => ∃ ys, H4 D = some (.lst ys) ∧ ys.length < sizeLine ∧ ∃ m', m' < m ∧ W (i + 1) m' σ2 (upd H4 D (.lst (ys ++ [y])))
        else ∃ m', m' < m ∧ W (i + 1) m' σ2 H3) :=
  zhj Pv hn h0 (fun i ys σ H hi hD p => ⟨xs, xs[i], hl i ys σ H (Nat.le_of_lt hi) hD p, by simp [hi]⟩) (fun ys σ H hD p => ⟨xs, hl _ ys σ H (Nat.le_refl _) hD p, Nat.le_refl _⟩) (fun i ys σ H hi hD hl' p x H' y => by
    obtain ⟨e, y⟩ := y
    subst e
    exact hs i ys σ _ x hi (y xs (hl i ys σ _ (Nat.le_of_lt hi) hD p)) hD hl' p) hd
end
section
variable {κ : Type} [DecidableEq κ]
def valV (kvs : List (κ × V)) (k : κ) : Option V := (kvs.find? fun kv => decide (kv.1 = k)).map (·.2)
def putK (kvs : List (κ × V)) (k : κ) (v : V) : List (κ × V) :=
  if (kvs.any fun kv => decide (kv.1 = k)) = true then kvs.map (fun kv => if kv.1 = k then (kv.1, v) else kv) else kvs ++ [(k, v)]
theorem zbe {p : κ × V} {r : List (κ × V)} {k : κ} (e : p.1 = k) : valV (p :: r) k = some p.2 := by simp [valV, List.find?_cons, e]
theorem zbf {p : κ × V} {r : List (κ × V)} {k : κ} (e : ¬ p.1 = k) : valV (p :: r) k = valV r k := by simp [valV, List.find?_cons, e]
theorem zce (k : κ) : ∀ kvs : List (κ × V), (kvs.any fun kv => decide (kv.1 = k)) = (valV kvs k).isSome
  | [] => rfl
  | p :: r => by
    rw [List.any_cons]
    by_cases e : p.1 = k
    · simp only [zbe e, decide_eq_true e, Bool.true_or, Option.isSome_some]
    · rw [zbf e, decide_eq_false e, Bool.false_or]; exact zce k r
theorem zhu (k j : κ) (y : V) : ∀ kvs : List (κ × V), valV (kvs.map fun kv => if kv.1 = k then (kv.1, y) else kv) j = (valV kvs j).map fun x => if j = k then y else x
  | [] => rfl
  | p :: r => by
    have ih := zhu k j y r
    rw [List.map_cons]
    by_cases h : p.1 = k
    · rw [if_pos h]
      by_cases e : p.1 = j
      · rw [zbe (p := (p.1, y)) e, zbe e, Option.map_some, if_pos (e.symm.trans h)]
      · rw [zbf (p := (p.1, y)) e, zbf e, ih]
    · rw [if_neg h]
      by_cases e : p.1 = j
      · rw [zbe (p := p) e, zbe e, Option.map_some, if_neg (fun z => h (e.trans z))]
      · rw [zbf (p := p) e, zbf e, ih]
theorem zfs (k j : κ) (y : V) : ∀ kvs : List (κ × V), valV kvs k = none → valV (kvs ++ [(k, y)]) j = if j = k then some y else valV kvs j
  | [], _ => by
    by_cases e : k = j
    · rw [if_pos e.symm]; exact zbe (p := (k, y)) e
    · rw [if_neg (fun z => e z.symm)]; exact zbf (p := (k, y)) e
  | p :: r, hn => by
    rw [List.cons_append]
    have hk : ¬ p.1 = k := fun z => by rw [zbe z] at hn; cases hn
    rw [zbf hk] at hn
    have ih := zfs k j y r hn
    by_cases e : p.1 = j
    · rw [zbe e, zbe e, if_neg (fun z => hk (e.trans z))]
    · rw [zbf e, zbf e, ih]
theorem zht (kvs : List (κ × V)) (k j : κ) (y : V) : valV (putK kvs k y) j = if j = k then some y else valV kvs j := by
  unfold putK
  by_cases a : (kvs.any fun kv => decide (kv.1 = k)) = true
  · rw [if_pos a, zhu]
    rw [zce] at a
    by_cases e : j = k
    · obtain ⟨x, hx⟩ := Option.isSome_iff_exists.mp a
      rw [if_pos e, e, hx, Option.map_some, if_pos rfl]
    · rw [if_neg e]
      cases valV kvs j with
      | none => rfl
      | some x => rw [Option.map_some, if_neg e]
  · rw [if_neg a]
    refine zfs k j y kvs ?_
    rw [zce] at a
    cases q : valV kvs k with
    | none => rfl
    | some x => rw [q] at a; exact (a rfl).elim
theorem zd6 (kvs : List (κ × V)) (k : κ) (v : V) : (putK kvs k v).length ≤ kvs.length + 1 := by
  unfold putK
  split
  · rw [List.length_map]; omega
  · rw [List.length_append, List.length_cons, List.length_nil]; omega
theorem zmp {kvs : List (κ × V)} {k : κ} (v : V) (h : valV kvs k = none) : putK kvs k v = kvs ++ [(k, v)] := by
  unfold putK
  rw [zce, h]
  exact if_neg (by decide)
theorem RelO.isSome_eq {o : Option V} {u : Option Value} (r : RelO o u) : o.isSome = u.isSome := by
  cases o with
  | none => cases u with
    | none => rfl
    | some _ => exact (show False from r).elim
  | some _ => cases u with
    | none => exact (show False from r).elim
    | some _ => rfl
theorem KV.val {kvs : List (κ × V)} {vs : List (κ × Value)} (r : KV kvs vs) (k : κ) : RelO (valV kvs k) (valueAt vs k) := by
  unfold KV at r
  induction r with
  | nil => exact True.intro
  | @cons p q ps qs h t ih =>
    obtain ⟨h1, h2⟩ := h
    by_cases e : p.1 = k
    · have e' : q.1 = k := h1.symm.trans e
      have b : valueAt (q :: qs) k = some q.2 := by simp [valueAt, List.find?_cons, e']
      rw [zbe e, b]; exact h2
    · have e' : ¬ q.1 = k := fun z => e (h1.trans z)
      have b : valueAt (q :: qs) k = valueAt qs k := by simp [valueAt, List.find?_cons, e']
      rw [zbf e, b]; exact ih
theorem KV.any {kvs : List (κ × V)} {vs : List (κ × Value)} (r : KV kvs vs) (k : κ) : (kvs.any fun kv => decide (kv.1 = k)) = vs.any fun kv => decide (kv.1 = k) := by
  unfold KV at r
  induction r with
  | nil => rfl
  | cons h t ih => rw [List.any_cons, List.any_cons, ih, h.1]
theorem KV.repl {kvs : List (κ × V)} {vs : List (κ × Value)} (r : KV kvs vs) (k : κ) {y : V} {u : Value} (ry : RelV y u) :
    KV (kvs.map fun kv => if kv.1 = k then (kv.1, y) else kv) (vs.map fun kv => if kv.1 = k then (kv.1, u) else kv) := by
  unfold KV at r ⊢
  induction r with
  | nil => exact .nil
  | @cons p q ps qs h t ih =>
    rw [List.map_cons, List.map_cons]
    refine .cons ?_ ih
    obtain ⟨h1, h2⟩ := h
    by_cases e : p.1 = k
    · rw [if_pos e, if_pos (h1.symm.trans e)]; exact ⟨h1, ry⟩
    · rw [if_neg e, if_neg (fun z => e (h1.trans z))]; exact ⟨h1, h2⟩
theorem KV.put {kvs : List (κ × V)} {vs : List (κ × Value)} (r : KV kvs vs) (k : κ) {y : V} {u : Value} (ry : RelV y u) : KV (putK kvs k y) (stored vs k u) := by
  unfold putK stored
  rw [r.any k]
  by_cases e : (vs.any fun kv => decide (kv.1 = k)) = true
  · rw [if_pos e, if_pos e]; exact r.repl k ry
  · rw [if_neg e, if_neg e]; exact Paired.snoc r ⟨rfl, ry⟩
theorem KV.length {kvs : List (κ × V)} {vs : List (κ × Value)} (r : KV kvs vs) : kvs.length = vs.length := Paired.length r
end
theorem zpv {P : Program} {w : World} {k : Key} {u : Value} (r : RelV (kV k) u) : (mixKind P w).is k u = true := by
  cases k with
  | inl i => obtain ⟨t, e⟩ := (show ∃ t, u = Value.int i t from r); subst e; exact zhd P w i t
  | inr x => obtain ⟨t, e⟩ := (show ∃ t, u = Value.str x t from r); subst e; exact zhc P w x t
theorem zq6 {a b : Key} (e : kV a = kV b) : a = b := by
  cases a with
  | inl i => cases b with
    | inl j => have e' : V.int i = V.int j := e; injection e' with e'; rw [e']
    | inr y => exact nomatch (show V.int i = V.str y from e)
  | inr x => cases b with
    | inl j => exact nomatch (show V.str x = V.int j from e)
    | inr y => have e' : V.str x = V.str y := e; injection e' with e'; rw [e']
theorem zgh {P : Program} {w : World} : ∀ {ks : List Key} {us : List Value}, Vals (ks.map kV) us → ItemsAre (mixKind P w) ks us
  | [], _, r => by rw [List.map_nil] at r; cases r; exact .nil
  | k :: ks, _, r => by
    rw [List.map_cons] at r
    cases r with
    | cons h t => exact .cons (zpv h) (zgh t)
abbrev KT (H : Hp) : List (List Key × V) → List (List Key × Addr × Value) → Prop := Paired fun p q => p.1 = q.1 ∧ H q.2.1 = some (.tup (p.1.map kV)) ∧ RelV p.2 q.2.2
theorem KT.val {H : Hp} {kvs : List (List Key × V)} {xs : List (List Key × Addr × Value)} (r : KT H kvs xs) (k : List Key) : RelO (valV kvs k) ((atKey xs k).map (·.2)) := by
  induction r with
  | nil => exact True.intro
  | @cons p q ps qs h t ih =>
    obtain ⟨h1, _, h2⟩ := h
    by_cases e : p.1 = k
    · have e' : q.1 = k := h1.symm.trans e
      have b : atKey (q :: qs) k = some q.2 := by simp [atKey, List.find?_cons, e']
      rw [zbe e, b]; exact h2
    · have e' : ¬ q.1 = k := fun z => e (h1.trans z)
      have b : atKey (q :: qs) k = atKey qs k := by simp [atKey, List.find?_cons, e']
      rw [zbf e, b]; exact ih
theorem KT.repl {H : Hp} {kvs : List (List Key × V)} {xs : List (List Key × Addr × Value)} (r : KT H kvs xs) (k : List Key) {y : V} {u : Value} (ry : RelV y u) :
    KT H (kvs.map fun kv => if kv.1 = k then (kv.1, y) else kv) (xs.map (putAt k u)) := by
  induction r with
  | nil => exact .nil
  | @cons p q ps qs h t ih =>
    rw [List.map_cons, List.map_cons]
    refine .cons ?_ ih
    obtain ⟨h1, h2, h3⟩ := h
    unfold putAt
    by_cases e : p.1 = k
    · rw [if_pos e, if_pos (h1.symm.trans e)]; exact ⟨h1, h2, ry⟩
    · rw [if_neg e, if_neg (fun z => e (h1.trans z))]; exact ⟨h1, h2, h3⟩
theorem KT.put {H : Hp} {kvs : List (List Key × V)} {xs : List (List Key × Addr × Value)} (r : KT H kvs xs) (k : List Key) {b : Addr} {y : V} {u : Value} (hb : H b = some (.tup (k.map kV))) (ry : RelV y u) :
    KT H (putK kvs k y) (storedH xs k b u) := by
  have e : (kvs.any fun kv => decide (kv.1 = k)) = (atKey xs k).isSome := by
    rw [zce, (r.val k).isSome_eq, Option.isSome_map]
  unfold putK storedH
  rw [e]
  by_cases q : (atKey xs k).isSome = true
  · rw [if_pos q, if_pos q]; exact r.repl k ry
  · rw [if_neg q, if_neg q]; exact Paired.snoc r ⟨rfl, hb, ry⟩
theorem KT.keeps {H H' : Hp} {kvs : List (List Key × V)} {xs : List (List Key × Addr × Value)} (r : KT H kvs xs) (ht : ∀ b ys, H b = some (.tup ys) → H' b = some (.tup ys)) : KT H' kvs xs :=
  Paired.mapP r fun _ _ z => ⟨z.1, ht _ _ z.2.1, z.2.2⟩
section
variable {P : Program} {w : World} {H : Hp} {h : Heap} {a : Addr}
theorem zqj {u : HO} (ok : HOk P w H h) (e : Rd H a u) : ObjOk P w H h a u := e.ok ok
theorem znv {kvs : List (Key × V)} (ok : HOk P w H h) (e : Rd H a (.dK kvs)) : kvs.length ≤ sizeLine ∧ (a == sysModules) = false ∧ ∃ vs, KV kvs vs ∧ h.DictOf (mixKind P w) a vs :=
  show ObjOk P w H h a (.dK kvs) from zqj ok e
theorem zrp {kvs : List (Key × V)} (ok : HOk P w H h) (e : H a = some (.dK kvs)) : kvs.length ≤ sizeLine ∧ (a == sysModules) = false ∧ ∃ vs, KV kvs vs ∧ h.DictOf (mixKind P w) a vs := znv ok (.inl e)
theorem zim {ks : List Key} (ok : HOk P w H h) (e : H a = some (.tup (ks.map kV))) : (tupleKind (mixKind P w)).is h ks a := by
  obtain ⟨_, its, r, o, h1, h2, n, h3⟩ := (show ObjOk P w H h a (.tup (ks.map kV)) from ok a _ e)
  exact ⟨o, its.toArray, n, h1, h2, h3, by simpa using zgh r⟩
theorem znt {kvs : List (List Key × V)} (ok : HOk P w H h) (e : Rd H a (.dT kvs)) : kvs.length ≤ sizeLine ∧ (a == sysModules) = false ∧
    ∃ xs, KT H kvs xs ∧ h.DictOfH (tupleKind (mixKind P w)) a xs := by
  obtain ⟨z, y, xs, r, o, es, ep, h1, h2, h3, h4, h5⟩ := (show ObjOk P w H h a (.dT kvs) from zqj ok e)
  refine ⟨z, y, xs, r, o, es, ep, h1, h2, h3, h4, fun x hx => ?_, h5⟩
  have all : ∀ {l : List (List Key × V)} {m : List (List Key × Addr × Value)}, KT H l m → ∀ x ∈ m, (tupleKind (mixKind P w)).is h x.1 x.2.1 := by
    intro l m q
    induction q with
    | nil => intro x hx; exact nomatch hx
    | @cons p q ps qs hq t ih =>
      intro x hx
      rcases List.mem_cons.mp hx with e | hx
      · subst e
        exact zim ok (by rw [← hq.1]; exact hq.2.1)
      · exact ih x hx
  exact all r x hx
theorem zro {kvs : List (List Key × V)} (ok : HOk P w H h) (e : H a = some (.dT kvs)) : kvs.length ≤ sizeLine ∧ (a == sysModules) = false ∧
    ∃ xs, KT H kvs xs ∧ h.DictOfH (tupleKind (mixKind P w)) a xs := znt ok (.inl e)
end
def KeyV (k : Key) (y : V) : Prop := y = kV k ∨ ∃ b, y = .bl b ∧ k = .inl (blI b)
theorem KeyV.is {P : Program} {w : World} {k : Key} {y : V} {u : Value} (h : KeyV k y) (r : RelV y u) : (mixKind P w).is k u = true := by
  rcases h with rfl | ⟨b, rfl, rfl⟩
  · exact zpv r
  · cases (show u = Value.bool b from r)
    exact znj b
def DGet (H : Hp) (a : Addr) (y : V) (r : Option V) : Prop :=
  (∃ kvs k, Rd H a (.dK kvs) ∧ KeyV k y ∧ r = valV kvs k) ∨ ∃ kvs k b, Rd H a (.dT kvs) ∧ y = .ref b ∧ H b = some (.tup (k.map kV)) ∧ r = valV kvs k
def DPut (H : Hp) (a : Addr) (y v : V) (H' : Hp) : Prop :=
  (∃ kvs k, H a = some (.dK kvs) ∧ KeyV k y ∧ kvs.length < sizeLine ∧ H' = upd H a (.dK (putK kvs k v))) ∨
  ∃ kvs k b, H a = some (.dT kvs) ∧ y = .ref b ∧ H b = some (.tup (k.map kV)) ∧ kvs.length < sizeLine ∧ H' = upd H a (.dT (putK kvs k v))
theorem DGet.t {H : Hp} {a b : Addr} {kvs : List (List Key × V)} {k : List Key} (e : H a = some (.dT kvs)) (eb : H b = some (.tup (k.map kV))) : DGet H a (.ref b) (valV kvs k) := .inr ⟨kvs, k, b, .inl e, rfl, eb, rfl⟩
theorem DPut.t {H : Hp} {a b : Addr} {kvs : List (List Key × V)} {k : List Key} {v : V} (e : H a = some (.dT kvs)) (eb : H b = some (.tup (k.map kV))) (hl : kvs.length < sizeLine) :
    DPut H a (.ref b) v (upd H a (.dT (putK kvs k v))) := .inr ⟨kvs, k, b, e, rfl, eb, hl, rfl⟩
section
variable {X : Cx} {pins : List (Addr × Obj)} {σ : St} {H : Hp} {s : Shared} {a : Addr} {y v : V} {u r : Value} {o : Option V} {A : Around} {E : Value → Shared → Prop}
theorem Inv.big (I : Inv X pins σ H s) : sysModules < s.heap.objs.size := by
  have h : mainGlobals < s.heap.objs.size := (I.mod.glob.keeps I.bk).lt
  exact Nat.lt_trans (by decide) h
theorem zlv {Q : Value → Shared → Prop} (hu : A.units + 1 < cLine) (I : Inv X pins σ H s) (g : DGet H a y (some v)) (ry : RelV y u) (h : ∀ w' s', Inv X pins σ H s' → RelV v w' → Q w' s') :
    wpAny (model X.prog X.w) A (getItem (.ref a) u) Q E s := by
  rcases g with ⟨kvs, k, e, ey, l⟩ | ⟨kvs, k, b, e, ey, eb, l⟩
  · obtain ⟨z, hd, vs, rel, dd⟩ := znv I.hok e
    obtain ⟨w', hw, rw'⟩ := RelO.some_of (v := v) (o := valueAt vs k) (by rw [l]; exact rel.val k)
    exact wpAny_getItem_of (ey.is ry) dd.mapOf hw (h w' _ (I.tok _) rw')
  · subst ey
    cases (show u = Value.ref b from ry)
    obtain ⟨z, hd, xs, rel, dd⟩ := znt I.hok e
    obtain ⟨w', hw, rw'⟩ := RelO.some_of (v := v) (o := (atKey xs k).map (·.2)) (by rw [l]; exact rel.val k)
    obtain ⟨p, hp, hp2⟩ := Option.map_eq_some_iff.mp hw
    refine wpAny_getItem_heap (tupleKind_room_in1 hu) (zim I.hok eb) dd hp ?_
    rw [hp2]
    exact h w' _ (I.tok _) rw'
theorem zp6 {Q : Value → Shared → Prop} (hu : A.units + 1 < cLine) (I : Inv X pins σ H s) (g : DGet H a y o) (ry : RelV y u) (h : ∀ s', Inv X pins σ H s' → Q (.bool (!o.isSome)) s') :
    wpAny (model X.prog X.w) A (compareOp .NotIn u (.ref a)) Q E s := by
  rcases g with ⟨kvs, k, e, ey, l⟩ | ⟨kvs, k, b, e, ey, eb, l⟩
  · obtain ⟨z, hd, vs, rel, dd⟩ := znv I.hok e
    refine wpAny_notIn_of (ey.is ry) hd dd.mapOf ?_
    rw [← (rel.val k).isSome_eq, ← l]
    exact h _ (I.tok _)
  · subst ey
    cases (show u = Value.ref b from ry)
    obtain ⟨z, hd, xs, rel, dd⟩ := znt I.hok e
    refine wpAny_notIn_heap (tupleKind_room_in1 hu) (zim I.hok eb) hd dd ?_
    have q := (rel.val k).isSome_eq
    rw [Option.isSome_map] at q
    rw [← q, ← l]
    exact h _ (I.tok _)
theorem zls {h' : Heap} {t' : Nat} {ob : HO} (I : Inv X pins σ H s) (mu : Mut (H a)) (hs : Heap.SameBut a s.heap h') (he : ∃ q, h'.get? a = some q) (new : ObjOk X.prog X.w (upd H a ob) h' a ob) :
    Inv X pins σ (upd H a ob) { s with heap := h', toks := t' } :=
  I.write (x := a) (e := a) mu (.inl rfl) (fun b q hb z => (hs.2 b hb).trans z) he new
theorem zrd {P : Program} {w : World} {H' : Hp} {h' : Heap} {kvs : List (Key × V)} {vs : List (Key × Value)} (z : kvs.length ≤ sizeLine) (hd : (a == sysModules) = false) (rel : KV kvs vs) (dd : h'.DictOf (mixKind P w) a vs) :
    ObjOk P w H' h' a (.dK kvs) := ⟨z, hd, vs, rel, dd⟩
theorem zlu {H' : Hp} {Q : Unit → Shared → Prop} (hu : A.units + 1 < cLine) (I : Inv X pins σ H s) (g : DPut H a y v H') (ry : RelV y u) (rv : RelV v r) (h : ∀ s', Inv X pins σ H' s' → Q () s') :
    wpAny (model X.prog X.w) A (setItem (.ref a) u r) Q E s := by
  rcases g with ⟨kvs, k, e, ey, l, eH⟩ | ⟨kvs, k, b, e, ey, eb, l, eH⟩
  · subst eH
    obtain ⟨z, hd, vs, rel, dd⟩ := zrp I.hok e
    have hz : vs.length ≤ sizeLine := by rw [← rel.length]; exact z
    have hl : (putK kvs k v).length ≤ sizeLine := by have := zd6 kvs k v; omega
    refine wpAny_setItem_pairs (hsz := hz) (ey.is ry) dd fun h' dd' hs => h _ ?_
    have he : ∃ q, h'.get? a = some q := let ⟨q, _, _, hq, _⟩ := dd'; ⟨q, hq⟩
    exact zls I (by rw [e]; exact True.intro) hs he (zrd hl hd (rel.put k rv) dd')
  · subst ey eH
    cases (show u = Value.ref b from ry)
    obtain ⟨z, hd, xs, rel, dd⟩ := zro I.hok e
    have hz : xs.length ≤ sizeLine := by rw [← Paired.length rel]; exact z
    have hl : (putK kvs k v).length ≤ sizeLine := by have := zd6 kvs k v; omega
    refine wpAny_setItem_heap (hsz := hz) (tupleKind_room_in1 hu) (zim I.hok eb) dd fun h' dd' hs => h _ ?_
    obtain ⟨q, es, ep, hq, h2, h3, h4, _, h5⟩ := dd'
    refine zls I (by rw [e]; exact True.intro) hs ⟨q, hq⟩ ⟨hl, hd, _, (rel.put k eb rv).keeps fun c ys ec => ?_, q, es, ep, hq, h2, h3, h4, h5⟩
    rw [zam (zei ec e (fun z => nomatch z))]
    exact ec
end
def NoSl (i : Expr) : Prop := ∀ ov iv, subscripted i false ov iv = operate [ov, iv] (getItem ov iv)
theorem zoo {prog : Program} {w : World} {A : Around} {E : Value → Shared → Prop} {s : Shared} {env : Env} {value slice : Expr} {pos : Pos} {T id : String} {Q : Value → Shared → Prop}
    (hl : typeLookup (.type T) "__getitem__" = pure (some (.builtin id))) (hs : NoSl slice)
    (h : wpAny (model prog w) A (eval value env) (fun o s₁ => wpAny (model prog w) A (eval slice env) (fun i s₂ => s₂.TypeIs o T ∧ wpAny (model prog w) A (getItem o i) Q E s₂) E s₁) E s) :
    wpAny (model prog w) A (eval (.Subscript value slice pos) env) Q E s := by
  refine Subscript_ (wpAny_mono h (fun o s₁ h₁ => wpAny_mono h₁ (fun i s₂ h₂ => ?_) fun _ _ x => x) fun _ _ x => x)
  obtain ⟨hT, h₂⟩ := h₂
  unfold subscriptTail
  refine wpAny_bind ?_
  rw [getitemInPython_of_ne hT.not_modules]
  refine wpAny_bind (wpAny_specialOf hT hl ?_)
  have fin : wpAny (model prog w) A (subscripted slice false o i) (fun r s₃ => wpAny (model prog w) A (letTemporaryGo value o r >>= fun _ => pure r) Q E s₃) E s₂ := by
    rw [hs o i]
    exact wpAny_operating (wpAny_mono h₂ (fun r s₃ h₃ => wpAny_bind (wpAny_letTemporaryGo (wpAny_pure h₃))) fun _ _ x => x)
  first
    | exact wpAny_pure (wpAny_bind fin)
    | exact wpAny_bind (wpAny_pure (wpAny_bind fin))
    | exact wpAny_bind fin
theorem zhh {X : Cx} {pins : List (Addr × Obj)} {σ : St} {H : Hp} {s : Shared} {a : Addr} {y : V} {o : Option V} (I : Inv X pins σ H s) (g : DGet H a y o) : s.TypeIs (.ref a) "dict" := by
  rcases g with ⟨kvs, k, e, _, _⟩ | ⟨kvs, k, b, e, _, _, _⟩
  · obtain ⟨_, _, vs, _, dd⟩ := znv I.hok e
    exact dd.typeIs
  · obtain ⟨_, _, xs, _, dd⟩ := znt I.hok e
    exact dd.typeIs
def tDGet (td ty : TE) : TE := fun σ H Q => td σ H fun x H1 => ty σ H1 fun y H2 => ∃ a v, x = .ref a ∧ DGet H2 a y (some v) ∧ Q v H2
def sDPut (td ty tv : TE) : TS := fun D σ H => tv σ H fun v H1 => td σ H1 fun x H2 => ty σ H2 fun y H3 => ∃ a H4, x = .ref a ∧ DPut H3 a y v H4 ∧ D.nx σ H4
section
variable {X : Cx} {o i e value : Expr} {pos pos' tpos : Pos} {td ty tv : TE}
theorem zpd (hu : X.A.units + 1 < cLine) (ho : PE X o td) (hi : PE X i ty) (hs : NoSl i) : PE X (.Subscript o i pos) (tDGet td ty) := by
  intro pins s σ H Q I h
  refine zoo PySem.F.slot_dict_getitem.lookup hs (thn (ho pins s σ H _ I h) fun u s1 ⟨x, H1, I1, rx, q1⟩ => thn (hi pins s1 σ H1 _ I1 q1) fun iv s2 ⟨y, H2, I2, ry, a, v, ex, g, q2⟩ => ?_)
  subst ex
  obtain rfl : u = Value.ref a := rx
  exact ⟨zhh I2 g, zlv hu I2 g ry fun w' s3 I3 rw' => ⟨v, H2, I3, rw', q2⟩⟩
theorem zo5 (hu : X.A.units + 1 < cLine) (ho : PE X o td) (hi : PE X i ty) (hv : PE X value tv) (hs : swapsWith value (some (.Subscript o i pos')) pos.line X.env = pure false) :
    PS X (.Assign [.Subscript o i pos'] value pos) (sDPut td ty tv) := by
  intro pins s σ H D I h
  refine wpAny_Assign_Subscript (thn (hv pins s σ H _ I h) fun r s1 ⟨v, H1, I1, rv, q1⟩ => thn (ho pins s1 σ H1 _ I1 q1) fun u s2 ⟨x, H2, I2, rx, q2⟩ => thn (hi pins s2 σ H2 _ I2 q2) fun iv s3 ⟨y, H3, I3, ry, a, H4, ex, g, q3⟩ => ?_) hs
  subst ex
  obtain rfl : u = Value.ref a := rx
  exact zlu hu I3 g ry rv fun s4 I4 => ⟨σ, H4, I4, q3⟩
end
theorem znu {P : Program} {w : World} {H : Hp} (h : Heap) (hb : sysModules < h.objs.size) : ObjOk P w H (h.push { cls := .type "dict", data := .dict #[] }) h.objs.size (.dT []) :=
  ⟨Nat.zero_le _, beq_eq_false_iff_ne.mpr (Ne.symm (Nat.ne_of_lt hb)), [], .nil, _, #[], 0, Heap.get?_push_size _ rfl, ⟨rfl, rfl, rfl⟩, rfl, rfl, List.nodup_nil⟩
def tDNewT : TE := fun _ H Q => ∀ p, H p = none → Q (.ref p) (upd H p (.dT []))
section
variable {X : Cx} {pos : Pos}
theorem zmy : PE X (.Dict [] [] pos) tDNewT := fun pins s σ H Q I h =>
  wpAny_Dict_empty ⟨.ref s.heap.objs.size, _, I.laid (a := s.heap.objs.size) (o := .dT []) (t' := s.toks) (fun _ _ q => Heap.get?_push_of_some _ q) (Nat.le_refl _) (znu s.heap I.big), rfl, h _ (I.hok.fresh (Nat.le_refl _))⟩
end
def tPairs : List (TE × TE) → St → Hp → (List (V × V) → Hp → Prop) → Prop
  | [], _, H, Q => Q [] H
  | (tk, tv) :: r, σ, H, Q => tk σ H fun x H1 => tv σ H1 fun y H2 => tPairs r σ H2 fun ps H3 => Q ((x, y) :: ps) H3
def mergeK (kvs more : List (Key × V)) : List (Key × V) := more.foldl (fun acc kv => putK acc kv.1 kv.2) kvs
def tDisp (trs : List (TE × TE)) : TE := fun σ H Q => ∀ p, H p = none → tPairs trs σ (upd H p (.dK [])) fun ps H2 => H2 p = some (.dK []) ∧ ∃ kvs : List (Key × V), ps = kvs.map (fun kv => (kV kv.1, kv.2)) ∧ kvs.length ≤ 15 ∧ Q (.ref p) (upd H2 p (.dK (mergeK [] kvs)))
def IsD (H : Hp) (a : Addr) : Prop := (∃ kvs, Rd H a (.dK kvs)) ∨ ∃ kvs, Rd H a (.dT kvs)
def tDGet2 (td ty tx : TE) : TE := fun σ H Q => td σ H fun x H1 => ∃ a, x = .ref a ∧ IsD H1 a ∧ ty σ H1 fun y H2 => tx σ H2 fun z H3 => ∃ o, DGet H3 a y o ∧ Q (o.getD z) H3
section
variable {κ : Type} [DecidableEq κ]
theorem zk3 : ∀ {l : List κ} {k : κ}, l.Nodup → ¬ k ∈ l → (l ++ [k]).Nodup
  | [], k, _, _ => by simp
  | a :: r, k, h, hk => by
    obtain ⟨h1, h2⟩ := List.nodup_cons.mp h
    show (a :: (r ++ [k])).Nodup
    refine List.nodup_cons.mpr ⟨fun m => ?_, zk3 h2 fun m => hk (List.mem_cons.mpr (Or.inr m))⟩
    rcases List.mem_append.mp m with q | q
    · exact h1 q
    · exact hk (List.mem_cons.mpr (Or.inl (List.mem_singleton.mp q).symm))
end
def notStar : Expr → Bool
  | .Starred _ _ => false
  | _ => true
theorem za9 {e : Expr} {es : List Expr} {env : Env} (h : notStar e = true) : starEach (e :: es) env = (false, eval e env) :: starEach es env := by
  cases e with
  | Starred v q => exact absurd (show false = true from h) Bool.false_ne_true
  | _ => rw [starEach.eq_def]
theorem zbn : ∀ {es : List Expr} {env : Env} {pos : Pos}, es.all notStar = true → (backTo pos (starEach es env)).any (·.1) = false
  | [], env, pos, _ => by rw [starEach.eq_def]; rfl
  | e :: r, env, pos, h => by
    rw [List.all_cons, Bool.and_eq_true] at h
    rw [za9 h.1]
    exact zbn h.2
section
variable {X : Cx} {x : Str} {p pos : Pos} {e : Expr} {es : List Expr} {te : TE} {t : TA} {T id : String} {r : List V → Hp → VK → Prop}
theorem pa_c (ha : PE X e te) (hr : PA X es t) (h : notStar e = true := by rfl) : PA X (e :: es) (tCons te t) := zpg ha hr (za9 h)
theorem za4 (hc : CallR X (.builtin id) r) (hg : Gl X x) (hm : X.mg x = none) (hv : bootBuiltins x = some (.builtin id)) (ha : PA X (e :: es) t) (hn : x ≠ "__name__" := by decide) (hdb : (x == ("__debug__" : Str)) = false := by decide)
    (h1 : notStar e = true := by rfl) (h2 : es.all notStar = true := by rfl) : PE X (.Call (.Name x p) (e :: es) [] pos) (tCB r t) := zm1 hc hg hm hv ha hn hdb (za9 h1) (zbn h2)
theorem zn7 (hc : CallR X (.type T) r) (hg : Gl X x) (hm : X.mg x = none) (hv : bootBuiltins x = some (.type T)) (ha : PA X (e :: es) t) (hn : x ≠ "__name__" := by decide) (hdb : (x == ("__debug__" : Str)) = false := by decide)
    (h1 : notStar e = true := by rfl) (h2 : es.all notStar = true := by rfl) : PE X (.Call (.Name x p) (e :: es) [] pos) (tCB r t) := zkl hc hg hm hv ha hn hdb (za9 h1) (zbn h2)
end
structure Dfn (K : PySem.W.Frag) (mg : Str → Option Value) (x : Str) (st : Stmt) (ps : List Str) : Prop where
  ex : ∃ f fd, Fun K x x st f fd ∧ Binds K fd ps [] ∧ mg x = some (.ref f)
structure Cal (P : Program) (w : World) (K : PySem.W.Frag) (mg : Str → Option Value) (base : Heap) (n : Nat) (x : Str) (ps : List Str) (sp : Sp) : Prop where
  ex : ∃ f fd, FnOk P w K mg base CX0 n f fd ps sp ∧ Binds K fd ps [] ∧ PySem.W.keepIn K (.ref f) = true ∧ mg x = some (.ref f)
section
variable {P : Program} {w : World} {K : PySem.W.Frag} {mg : Str → Option Value} {base : Heap}
theorem Dfn.cal {x : Str} {st : Stmt} {N ps : List Str} {k : Nat} {sp : Sp} (d : Dfn K mg x st ps) (S : FnScope N ps (defScope st)) (len : ∀ vs H Q E, sp vs H Q E → vs.length = ps.length)
    (hbody : ∀ (f : Addr) (cdv : Value) (A : Around) (outer : List Env) (s : Shared) (H : Hp) (vs : List V) (Q : VK) (E : XK), Room k (A.deeper (envOfC x (defScope st) s.heap.objs.size f cdv)) → sp vs H Q E →
      ∃ t, PSs (cxOf CX0 P w K mg base N x (defScope st) f cdv A outer s H E).nox (defBody st) t ∧ t { nx := fun _ H' => Q .non H', rt := Q } (start N vs) H) : Cal P w K mg base (k + 1) x ps sp := by
  obtain ⟨f, fd, F, b, m⟩ := d.ex
  exact ⟨f, fd, F.ok S len (hbody f), b, F.kp, m⟩
theorem Cal.mono {j k : Nat} {x : Str} {ps : List Str} {sp : Sp} (c : Cal P w K mg base j x ps sp) (h : j ≤ k) : Cal P w K mg base k x ps sp := by
  obtain ⟨f, fd, F, r⟩ := c.ex
  exact ⟨f, fd, F.mono h, r⟩
theorem Dfn.never {x : Str} {st : Stmt} {ps : List Str} {sp : Sp} (d : Dfn K mg x st ps) (no : ∀ vs H Q E, ¬ sp vs H Q E) : Cal P w K mg base 0 x ps sp := by
  obtain ⟨f, fd, F, b, m⟩ := d.ex
  exact ⟨f, fd, ⟨fun vs H Q E h => absurd h (no vs H Q E), fun A outer s H args us vs Q E _ _ _ _ h => absurd h (no vs H Q E)⟩, b, F.kp, m⟩
end
section
variable {X : Cx} {n k : Nat} {x : Str} {ps : List Str} {sp : Sp} {p pos : Pos} {e : Expr} {es : List Expr} {t : TA}
theorem zae (C : Cal X.prog X.w X.K X.mg X.base n x ps sp) (hr : Room k X.A) (hle : n ≤ k) (hg : Gl X x) (ha : PA X (e :: es) t) (hdb : (x == ("__debug__" : Str)) = false := by decide)
    (h1 : notStar e = true := by rfl) (h2 : es.all notStar = true := by rfl) : PE X (.Call (.Name x p) (e :: es) [] pos) (tCall sp [] E0 t) := by
  obtain ⟨f, fd, F, b, kp, m⟩ := C.ex
  exact zpe F (hr.mono hle) hg m kp b .nil pass0 ha hdb (za9 h1) (zbn h2)
def GlV (mg : Str → Option Value) (x : Str) (v : V) : Prop := ∃ u, mg x = some u ∧ RelV v u
theorem za7 {v : V} (hg : Gl X x) (h : GlV X.mg x v) (hd : (x == ("__debug__" : Str)) = false := by decide) : PE X (.Name x pos) (tC v) := by
  obtain ⟨u, m, r⟩ := h
  exact zpc hg m r hd
end
theorem CompOk.of {X : Cx} {scope : Scope} {cp : List (Nat × Str)} (kind : scope.kind = .function)
    (h1 : (scope.names.all fun y => y.2 != .cell && (y.2 != .local || scope.names.lookup y.1 == some .local) && (y.2 != .free || (X.env.scope.names.lookup y.1 == some .cell || X.env.scope.names.lookup y.1 == some .free))) = true)
    (h2 : (cp.all fun p => X.N[p.1]? == some p.2 && scope.names.lookup p.2 == some .free) = true) : CompOk X scope cp := by
  have g := List.all_eq_true.mp h1
  refine ⟨kind, fun y hy e => ?_, fun y hy e => ?_, fun y hy e => ?_, fun p hp => ?_⟩
  · have q := g y hy
    rw [Bool.and_eq_true, Bool.and_eq_true] at q
    rw [e] at q
    exact absurd q.1.1 (by decide)
  · have q := g y hy
    rw [Bool.and_eq_true, Bool.and_eq_true] at q
    have q := q.1.2
    rw [e] at q
    simpa using q
  · have q := g y hy
    rw [Bool.and_eq_true, Bool.and_eq_true] at q
    have q := q.2
    rw [e] at q
    have q : X.env.scope.names.lookup y.1 = some .cell ∨ X.env.scope.names.lookup y.1 = some .free := by simpa using q
    exact q
  · have q := List.all_eq_true.mp h2 p hp
    rw [Bool.and_eq_true] at q
    exact ⟨by simpa using q.1, by simpa using q.2⟩
inductive Kd (H : Hp) : V → String → Prop where
  | non : Kd H .non "NoneType"
  | bl (b : Bool) : Kd H (.bl b) "bool"
  | int (i : Int) : Kd H (.int i) "int"
  | str (z : Str) : Kd H (.str z) "str"
  | lst {a : Addr} {xs : List V} (e : H a = some (.lst xs)) : Kd H (.ref a) "list"
  | tup {a : Addr} {xs : List V} (e : H a = some (.tup xs)) : Kd H (.ref a) "tuple"
  | dK {a : Addr} {kvs : List (Key × V)} (e : H a = some (.dK kvs)) : Kd H (.ref a) "dict"
def kinds : List String := ["NoneType", "bool", "int", "str", "list", "tuple", "dict"]
def subT (k T : String) : Bool := k == T || (k == "bool" && T == "int")
theorem zq4 (K : PySem.W.Frag) : ∀ k ∈ kinds, ∀ T ∈ ["str", "list", "tuple", "bool", "int", "dict"], PySem.W.kitOne K (.type k) (.type T) = some (subT k T) := by
  intro k hk T hT
  simp only [kinds, List.mem_cons, List.not_mem_nil, or_false] at hk hT
  rcases hk with rfl | rfl | rfl | rfl | rfl | rfl | rfl <;> rcases hT with rfl | rfl | rfl | rfl | rfl | rfl <;> first | rfl | kernel_rfl
theorem Kd.ty {K : PySem.W.Frag} {H : Hp} {x : V} {k : String} (h : Kd H x k) : TyOf K H x (.type k) ∧ k ∈ kinds := by
  cases h with
  | non => exact ⟨.non, by decide⟩
  | bl b => exact ⟨.bl b, by decide⟩
  | int i => exact ⟨.int i, by decide⟩
  | str z => exact ⟨.str z, by decide⟩
  | lst e => exact ⟨.lst e, by decide⟩
  | tup e => exact ⟨.tup e, by decide⟩
  | dK e => exact ⟨.dK e, by decide⟩
theorem Kd.same {H H' : Hp} {x : V} {k : String} (h : Kd H x k) (g : Same H H') : Kd H' x k := by
  cases h with
  | non => exact .non
  | bl b => exact .bl b
  | int i => exact .int i
  | str z => exact .str z
  | lst e => exact .lst (g _ _ e)
  | tup e => exact .tup (g _ _ e)
  | dK e => exact .dK (g _ _ e)
theorem Kd.inj {H : Hp} {x : V} {k k' : String} (h : Kd H x k) (h' : Kd H x k') : k = k' := by
  cases h with
  | lst e => cases h' with | lst _ => rfl | tup e' => rw [e] at e'; cases e' | dK e' => rw [e] at e'; cases e'
  | tup e => cases h' with | lst e' => rw [e] at e'; cases e' | tup _ => rfl | dK e' => rw [e] at e'; cases e'
  | dK e => cases h' with | lst e' => rw [e] at e'; cases e' | tup e' => rw [e] at e'; cases e' | dK _ => rfl
  | non => cases h'; rfl
  | bl _ => cases h'; rfl
  | int _ => cases h'; rfl
  | str _ => cases h'; rfl
theorem zbj {X : Cx} : CallR X (.builtin "isinstance") (fun xs H Q => ∃ x T k, xs = [x, .ty T] ∧ Kd H x k ∧ T ∈ ["str", "list", "tuple", "bool", "int", "dict"] ∧ Q (.bl (subT k T)) H) := by
  intro pins s σ H xs us Q I r h
  obtain ⟨x, T, k, e, hk, hT, q⟩ := h
  obtain ⟨h1, h2⟩ := hk.ty (K := X.K)
  exact zhm pins s σ H xs us Q I r ⟨x, T, .type k, _, e, h1, zq4 X.K k h2 T hT, q⟩
theorem zbg {H : Hp} {p : Addr} (h : H p = none) (o : HO) : Same H (upd H p o) := fun b u q => by rw [zam (zaq q h)]; exact q
theorem Same.seqT {K : PySem.W.Frag} {H H' : Hp} {a : Addr} {xs : List V} (e : Same H H') (h : SqT K H a xs) : SqT K H' a xs := by
  rcases h with (h | ⟨o, h⟩) | h
  · exact .inl (.inl (e _ _ h))
  · exact .inl (.inr ⟨o, e _ _ h⟩)
  · exact .inr h
section
variable {H : Hp} {Q : VK} {v : V} {a : Option V} {r : St} {i : Nat}
theorem zaz {t : TS} {D : Ends} {σ : St} (σ' : St) (e : σ = σ') (h : t D σ' H) : t D σ H := by rw [e]; exact h
theorem zox : tVar 0 (some v :: r) H Q = Q v H := by simp [tVar]
theorem zow : tVar (i + 1) (a :: r) H Q = tVar i r H Q := rfl
theorem zfe {A B : Prop} : (if true = true then A else B) = A := if_pos rfl
theorem zff {A B : Prop} : (if false = true then A else B) = B := if_neg Bool.false_ne_true
theorem zoy {a b : Str} : (scal (.str a) (.str b) = true) = True := by simp [scal]
theorem zoz {a : Str} {b : Int} : (scal (.str a) (.int b) = true) = True := by simp [scal]
theorem zo0 {b : Str} {a : Int} : (scal (.int a) (.str b) = true) = True := by simp [scal]
theorem zo1 {a b : Int} : (scal (.int a) (.int b) = true) = True := by simp [scal]
theorem zo2 {a b : Bool} : (scal (.bl a) (.bl b) = true) = True := by simp [scal]
def cBody (tn : List Str) (cp : List (Nat × Str)) (g : TG) (tif : TT) (te : TE) (σ : St) (Q : VK) (J : It) (H1 : Hp) : Prop := ∀ D, H1 D = none → ∃ W : Nat → Nat → St → Hp → Prop,
  (∃ m, W 0 m (stB tn cp σ) (upd H1 D (.lst []))) ∧ ∀ i m σb Hb, W i m σb Hb →
    (J.stop i Hb ∧ Q (.ref D) Hb) ∨ (J.go i Hb ∧ ∀ x H', J.yld i Hb x H' → g x σb H' fun σ2 H2 => tif σ2 H2 fun c H3 =>
      if c = true then te σ2 H3 fun y H4 => ∃ ys, H4 D = some (.lst ys) ∧ ys.length < sizeLine ∧ ∃ m', m' < m ∧ W (i + 1) m' σ2 (upd H4 D (.lst (ys ++ [y])))
      else ∃ m', m' < m ∧ W (i + 1) m' σ2 H3)
theorem zg6 {tn : List Str} {cp : List (Nat × Str)} {wi : TI} {g : TG} {tif : TT} {te : TE} {σ : St} : tComp tn cp wi g tif te σ H Q = wi σ H fun J H1 => cBody tn cp g tif te σ Q J H1 := rfl
def fBody (g : TG) (tb : TS) (D : Ends) (σ : St) (J : It) (H1 : Hp) : Prop := ∃ W : Nat → Nat → St → Hp → Prop, (∃ m, W 0 m σ H1) ∧ ∀ i m σ H, W i m σ H →
  (J.stop i H ∧ D.nx σ H) ∨ (J.go i H ∧ ∃ N : St → Hp → Prop, (∀ σ' H', N σ' H' → ∃ m', m' < m ∧ W (i + 1) m' σ' H') ∧ ∀ x H', J.yld i H x H' → g x σ H' fun σ2 H2 => tb { D with nx := N, ct := N, bk := D.nx } σ2 H2)
theorem zkc {wi : TI} {g : TG} {tb : TS} {D : Ends} {σ : St} : tFor wi g tb D σ H = wi σ H fun J H1 => fBody g tb D σ J H1 := rfl
end
section
variable {tn : List Str} {cp : List (Nat × Str)} {g : TG} {tif : TT} {te : TE} {σ0 : St} {Q : VK} {H1 : Hp}
theorem zl7 {J : It} (n : Nat) (Pv : Addr → Nat → List V → St → Hp → Prop) (hn : n ≤ sizeLine) (h0 : ∀ D, H1 D = none → Pv D 0 [] (stB tn cp σ0) (upd H1 D (.lst [])))
    (hgo : ∀ D i ys σ H, H1 D = none → i < n → H D = some (.lst ys) → Pv D i ys σ H → J.go i H) (hstop : ∀ D ys σ H, H1 D = none → H D = some (.lst ys) → Pv D n ys σ H → J.stop n H)
    (hs : ∀ D i ys σ H x H', H1 D = none → i < n → H D = some (.lst ys) → ys.length ≤ i → Pv D i ys σ H → J.yld i H x H' → g x σ H' fun σ2 H2 => tif σ2 H2 fun c H3 =>
      if c = true then te σ2 H3 fun y H4 => CStep D n i (Pv D) σ2 y H4 else CSkip D n i (Pv D) σ2 H3)
    (hd : ∀ D ys σ H, H1 D = none → H D = some (.lst ys) → ys.length ≤ n → Pv D n ys σ H → Q (.ref D) H) : cBody tn cp g tif te σ0 Q J H1 := fun D hD =>
  zhj (Pv D) hn (h0 D hD) (fun i ys σ H => hgo D i ys σ H hD) (fun ys σ H => hstop D ys σ H hD) (fun i ys σ H hi hH hl p x H' y => hs D i ys σ H x H' hD hi hH hl p y) (fun ys σ H => hd D ys σ H hD)
theorem zrh {z : Str} (Pv : Addr → Nat → List V → St → Hp → Prop) (hn : z.cps.size ≤ sizeLine) (h0 : ∀ D, H1 D = none → Pv D 0 [] (stB tn cp σ0) (upd H1 D (.lst [])))
    (hs : ∀ D i ys σ H c, H1 D = none → i < z.cps.size → z.cps[i]? = some c → H D = some (.lst ys) → ys.length ≤ i → Pv D i ys σ H → g (.str ⟨#[c]⟩) σ H fun σ2 H2 => tif σ2 H2 fun c H3 =>
      if c = true then te σ2 H3 fun y H4 => CStep D z.cps.size i (Pv D) σ2 y H4 else CSkip D z.cps.size i (Pv D) σ2 H3)
    (hd : ∀ D ys σ H, H1 D = none → H D = some (.lst ys) → ys.length ≤ z.cps.size → Pv D z.cps.size ys σ H → Q (.ref D) H) : cBody tn cp g tif te σ0 Q (Its z) H1 := fun D hD =>
  znz (Pv D) hn (h0 D hD) (fun i ys σ H c => hs D i ys σ H c hD) (fun ys σ H => hd D ys σ H hD)
theorem zhk {K : PySem.W.Frag} {a : Addr} {xs : List V} (Pv : Addr → Nat → List V → St → Hp → Prop) (hn : xs.length ≤ sizeLine) (h0 : ∀ D, H1 D = none → Pv D 0 [] (stB tn cp σ0) (upd H1 D (.lst [])))
    (hl : ∀ D i ys σ H, H1 D = none → i ≤ xs.length → H D = some (.lst ys) → Pv D i ys σ H → SqL K H a xs)
    (hs : ∀ D i ys σ H x, H1 D = none → i < xs.length → xs[i]? = some x → H D = some (.lst ys) → ys.length ≤ i → Pv D i ys σ H → g x σ H fun σ2 H2 => tif σ2 H2 fun c H3 =>
      if c = true then te σ2 H3 fun y H4 => CStep D xs.length i (Pv D) σ2 y H4 else CSkip D xs.length i (Pv D) σ2 H3)
    (hd : ∀ D ys σ H, H1 D = none → H D = some (.lst ys) → ys.length ≤ xs.length → Pv D xs.length ys σ H → Q (.ref D) H) : cBody tn cp g tif te σ0 Q (Itl K a) H1 := fun D hD =>
  zl2 (Pv D) hn (h0 D hD) (fun i ys σ H => hl D i ys σ H hD) (fun i ys σ H x => hs D i ys σ H x hD) (fun ys σ H => hd D ys σ H hD)
theorem zok {K : PySem.W.Frag} {a : Addr} {xs : List V} (Pv : Addr → Nat → List V → St → Hp → Prop) (hn : xs.length ≤ sizeLine) (h0 : ∀ D, H1 D = none → Pv D 0 [] (stB tn cp σ0) (upd H1 D (.lst [])))
    (hl : ∀ D i ys σ H, H1 D = none → i ≤ xs.length → H D = some (.lst ys) → Pv D i ys σ H → SqT K H a xs)
    (hs : ∀ D i ys σ H x, H1 D = none → i < xs.length → xs[i]? = some x → H D = some (.lst ys) → ys.length ≤ i → Pv D i ys σ H → g x σ H fun σ2 H2 => tif σ2 H2 fun c H3 =>
      if c = true then te σ2 H3 fun y H4 => CStep D xs.length i (Pv D) σ2 y H4 else CSkip D xs.length i (Pv D) σ2 H3)
    (hd : ∀ D ys σ H, H1 D = none → H D = some (.lst ys) → ys.length ≤ xs.length → Pv D xs.length ys σ H → Q (.ref D) H) : cBody tn cp g tif te σ0 Q (Itt K a) H1 :=
  zl7 xs.length Pv hn h0 (fun D i ys σ H hD hi hH p => ⟨xs, xs[i], hl D i ys σ H hD (Nat.le_of_lt hi) hH p, by simp [hi]⟩) (fun D ys σ H hD hH p => ⟨xs, hl D _ ys σ H hD (Nat.le_refl _) hH p, Nat.le_refl _⟩) (fun D i ys σ H x H' hD hi hH hl' p y => by
    obtain ⟨e, y⟩ := y
    subst e
    exact hs D i ys σ _ x hD hi (y xs (hl D i ys σ _ hD (Nat.le_of_lt hi) hH p)) hH hl' p) hd
variable {tb : TS} {D : Ends}
theorem zhf {K : PySem.W.Frag} {a : Addr} {xs : List V} (Pv : Nat → St → Hp → Prop) (h0 : Pv 0 σ0 H1) (hl : ∀ i σ H, i ≤ xs.length → Pv i σ H → SqL K H a xs)
    (hs : ∀ i x σ H, xs[i]? = some x → Pv i σ H → g x σ H fun σ2 H2 => tb { D with nx := Pv (i + 1), ct := Pv (i + 1), bk := D.nx } σ2 H2) (hd : ∀ σ H, Pv xs.length σ H → D.nx σ H) : fBody g tb D σ0 (Itl K a) H1 := zns Pv h0 hl hs hd
theorem zdo {lo : Int} {n : Nat} (Pv : Nat → St → Hp → Prop) (h0 : Pv 0 σ0 H1)
    (hs : ∀ i σ H, i < n → Pv i σ H → g (.int (lo + i)) σ H fun σ2 H2 => tb { D with nx := Pv (i + 1), ct := Pv (i + 1), bk := D.nx } σ2 H2) (hd : ∀ σ H, Pv n σ H → D.nx σ H) : fBody g tb D σ0 (Itr lo n) H1 := zli Pv h0 hs hd
end
theorem zic {α : Type} (xs : List α) : ∀ (i k : Nat), ((List.range k).map fun m => i + m).filterMap (fun j => xs[j]?) = (xs.drop i).take k
  | i, 0 => by simp
  | i, k + 1 => by
    have ih := zic xs (i + 1) k
    rw [List.range_succ_eq_map, List.map_cons, List.map_map, List.filterMap_cons]
    have e : ((fun m => i + m) ∘ Nat.succ) = fun m => i + 1 + m := by funext m; simp [Function.comp]; omega
    rw [e]
    by_cases h : i < xs.length
    · rw [show i + 0 = i from rfl, List.getElem?_eq_getElem h, ih, List.drop_eq_getElem_cons h, List.take_succ_cons]
    · rw [show i + 0 = i from rfl, List.getElem?_eq_none (by omega), ih, List.drop_eq_nil_of_le (by omega), List.drop_eq_nil_of_le (by omega)]
      simp
def cutL {α : Type} (xs : List α) (lo hi : Option Int) : List α := (xs.drop (HT.sIx xs.length 0 lo)).take (HT.sIx xs.length xs.length hi - HT.sIx xs.length 0 lo)
theorem zq9 {a b : Nat} {A B : Int} (hA : A = a) (hB : B = b) : PySem.sliceRange A B 1 = (List.range (b - a)).map fun m => a + m := by
  subst hA hB
  unfold PySem.sliceRange
  simp only [show (1 : Int) > 0 by decide, if_true]
  have e3 : (if (a : Int) < (b : Int) then ((b : Int) - (a : Int) + 1 - 1) / 1 else 0).toNat = b - a := by
    split <;> omega
  rw [e3]
  refine List.map_congr_left fun m _ => ?_
  omega
theorem zj6 (lo hi : Option Int) (n : Nat) : Builtin.Str.strSliceIndices lo hi 1 n = (List.range (HT.sIx n n hi - HT.sIx n 0 lo)).map fun m => HT.sIx n 0 lo + m := by
  unfold Builtin.Str.strSliceIndices
  refine zq9 ?_ ?_
  · cases lo with
    | none => rfl
    | some v =>
      rw [← HT.clip_eq v n 0]
      simp only [show (1 : Int) > 0 by decide, if_true]
      split <;> omega
  · cases hi with
    | none => rfl
    | some v =>
      rw [← HT.clip_eq v n n]
      simp only [show (1 : Int) > 0 by decide, if_true]
      split <;> omega
theorem zf4 (z : Str) (lo hi : Option Int) : (Txt.slice z lo hi).cps.toList = cutL z.cps.toList lo hi := by
  have hl : z.cps.toList.length = z.length := by simp [Str.length]
  unfold Txt.slice cutL
  rw [hl, zj6]
  have p := zic z.cps.toList (HT.sIx z.length 0 lo) (HT.sIx z.length z.length hi - HT.sIx z.length 0 lo)
  have e : (fun (j : Nat) => z.cps.toList[j]?) = fun (j : Nat) => z.cps[j]? := by funext j; simp
  rw [e] at p
  split
  · rename_i h
    simp only [List.length_map, List.length_range, beq_self_eq_true, Bool.true_and, beq_iff_eq] at h
    have h1 := HT.sIx_le z.length z.length (Nat.le_refl _) hi
    have h3 := HT.sIx_le z.length 0 (Nat.zero_le _) lo
    have h0 : HT.sIx z.length 0 lo = 0 := by omega
    have h2 : HT.sIx z.length z.length hi - HT.sIx z.length 0 lo = z.length := h
    rw [h2, h0, List.drop_zero, List.take_of_length_le (by rw [hl]; exact Nat.le_refl _)]
  · rw [← p]
theorem zny {α : Type} (xs : List α) (lo hi : Option Int) : (cutL xs lo hi).length ≤ xs.length := by
  unfold cutL
  rw [List.length_take, List.length_drop]
  omega
theorem zct {α : Type} (xs : List α) (k : Nat) : cutL xs (some (k : Int)) none = xs.drop k := by
  unfold cutL
  rw [HT.sIx_nat, HT.sIx_none, List.take_of_length_le (by rw [List.length_drop]; exact Nat.le_refl _)]
  by_cases h : k ≤ xs.length
  · rw [Nat.min_eq_left h]
  · rw [Nat.min_eq_right (by omega), List.drop_eq_nil_of_le (Nat.le_refl _), List.drop_eq_nil_of_le (by omega)]
theorem zly {α : Type} (xs : List α) (k : Nat) : cutL xs none (some (k : Int)) = xs.take k := by
  unfold cutL
  rw [HT.sIx_nat, HT.sIx_none, List.drop_zero, Nat.sub_zero]
  by_cases h : k ≤ xs.length
  · rw [Nat.min_eq_left h]
  · rw [Nat.min_eq_right (by omega), List.take_of_length_le (Nat.le_refl _), List.take_of_length_le (by omega)]
theorem zjw (z : Str) : z.length = z.cps.toList.length := by simp [Str.length]
theorem zbd {α : Type} {c : α} {r : List α} : atI (c :: r) 0 = some c := zas (j := 0) rfl
theorem RcOk.up {X : Cx} {j k : Nat} {H : Hp} {x y : V} {b : Bool} (h : RcOk X j H x y b) (hjk : j ≤ k) : RcOk X k H x y b := fun pins σ s A u v hu => h pins σ s A u v (by omega)
theorem zaa {n : Nat} (h : n ≤ 1000) : n ≤ sizeLine := Nat.le_of_lt (small1000 h)
theorem zqd {α : Type} {xs : List α} {i : Int} {n : Nat} (hn : xs.length = n) (h0 : 0 < n) : ∃ v, atI xs (i % (n : Int)) = some v ∧ v ∈ xs := by
  have h1 : 0 ≤ i % (n : Int) := Int.emod_nonneg _ (by omega)
  have h2 : i % (n : Int) < n := Int.emod_lt_of_pos _ (by omega)
  have h3 : (i % (n : Int)).toNat < xs.length := by omega
  refine ⟨xs[(i % (n : Int)).toNat], ?_, List.getElem_mem h3⟩
  have e : i % (n : Int) = (((i % (n : Int)).toNat : Nat) : Int) := by omega
  have q : atI xs (((i % (n : Int)).toNat : Nat) : Int) = some xs[(i % (n : Int)).toNat] := zas (by simp)
  rw [← e] at q
  exact q
theorem zle {A : Around} {k : Nat} (hr : Room k A) (j : Nat) (h : j ≤ 64) : A.units + j < cLine := by have := hr.units; omega
section
variable {K : PySem.W.Frag} {h : Heap} {mg : Str → Option Value}
theorem dfn_mk {x : Str} {st : Stmt} {ps : List Str} {f : Addr} {oc : Value} {od an : Option Addr} {osl : Array (Option Value)} {kV doc pm cdv ct : Value} (X : K.In h) (G : h.Ns mainGlobals mg)
    (a : PySem.W.nsIn K mainGlobals x = some (some (.ref f))) (l : K.lookup f = some ⟨oc, od, .func (PySem.W.fnOf x x (defArgs st) (defBody st) (defScope st) .none kV doc pm an cdv ct), osl⟩)
    (c : PySem.W.codeIn K cdv x = true) (k : PySem.W.keepIn K (.ref f) = true)
    (hb : ∀ (kV doc pm : Value) (an : Option Addr) (cdv ct : Value) (us : List Value), us.length = ps.length → bindArgs (PySem.W.fnOf x x (defArgs st) (defBody st) (defScope st) .none kV doc pm an cdv ct) ⟨us, []⟩ = pure (ps.zip us)) : Dfn K mg x st ps :=
  ⟨f, _, zde l c k, (zde l c k).binds hb, PySem.W.mg_of X G a⟩
theorem law_mk {x y : Str} {st : Stmt} {f fa : Addr} {oc : Value} {od an : Option Addr} {osl : Array (Option Value)} {kV doc pm cdv ct : Value} (X : K.In h) (G : h.Ns mainGlobals mg) (hfa : mg x = some (.ref fa))
    (a : PySem.W.nsIn K mainGlobals x = some (some (.ref f))) (l : K.lookup f = some ⟨oc, od, .func (PySem.W.fnOf x x (defArgs st) (defBody st) (defScope st) .none kV doc pm an cdv ct), osl⟩)
    (c : PySem.W.codeIn K cdv x = true) (k : PySem.W.keepIn K (.ref f) = true) (hb : ∀ (s : Shared) (v : Value), BindsTo s (PySem.W.fnOf x x (defArgs st) (defBody st) (defScope st) .none kV doc pm an cdv ct) ⟨[v], []⟩ [(y, v)]) :
    ∃ fd : FuncData, (∀ (s : Shared) (v : Value), BindsTo s fd ⟨[v], []⟩ [(y, v)]) ∧ Fun K x x st fa fd := by
  have e := hfa.symm.trans (PySem.W.mg_of X G a)
  cases e
  exact ⟨_, hb, zde l c k⟩
theorem glv_mk {x : Str} {u : Value} {v : V} (X : K.In h) (G : h.Ns mainGlobals mg) (a : PySem.W.nsIn K mainGlobals x = some (some u)) (r : RelV v u) : GlV mg x v := ⟨u, PySem.W.mg_of X G a, r⟩
end
section
variable {CX : CXT} {P : Program} {w : World} {K : PySem.W.Frag} {mg : Str → Option Value} {base : Heap} {N : List Str} {x : Str} {sc : Scope} {f : Addr} {cdv : Value} {A : Around} {outer : List Env} {s : Shared} {H : Hp} {E : XK}
theorem cxK : (cxOf CX P w K mg base N x sc f cdv A outer s H E).K = K := rfl
theorem cxP : (cxOf CX P w K mg base N x sc f cdv A outer s H E).prog = P := rfl
theorem cxW : (cxOf CX P w K mg base N x sc f cdv A outer s H E).w = w := rfl
end
section
variable {X : Cx} {st : Stmt} {rest : List Stmt} {t u : TS} {e : Expr} {te : TE}
def tCut (t u : TS) : TS := fun D σ H => ∃ Pv : St → Hp → Prop, t { D with nx := Pv } σ H ∧ ∀ σ' H', Pv σ' H' → u D σ' H'
theorem zc0 (h1 : PS X st t) (h2 : PSs X rest u) : PSs X (st :: rest) (tCut t u) := by
  intro pins s σ H D I h
  obtain ⟨Pv, q1, q2⟩ := h
  refine wpAny_execs_cons (thn (h1 pins s σ H { D with nx := Pv } I q1) fun f s1 q => ?_)
  cases f with
  | next =>
    obtain ⟨σ', H', I', q⟩ := q
    exact h2 pins s1 σ' H' D I' (q2 σ' H' q)
  | ret v => exact q
  | brk => exact q
  | cont => exact q
end
local instance (priority := 10000) : BEq Key := instBEqOfDecidableEq
local instance (priority := 10000) : LawfulBEq Key := inferInstanceAs (LawfulBEq (Sum Int Str))
def onceK : List Key → List Key → List Key
  | acc, [] => acc
  | acc, k :: r => onceK (if k ∈ acc then acc else acc ++ [k]) r
theorem zer : ∀ (ks acc : List Key) (k : Key), onceK acc (ks ++ [k]) = if k ∈ onceK acc ks then onceK acc ks else onceK acc ks ++ [k]
  | [], acc, k => rfl
  | j :: r, acc, k => zer r _ k
theorem zco : ∀ (ks acc : List Key), (onceK acc ks).length ≤ acc.length + ks.length
  | [], acc => Nat.le_refl _
  | k :: r, acc => by
    have h := zco r (if k ∈ acc then acc else acc ++ [k])
    show (onceK (if k ∈ acc then acc else acc ++ [k]) r).length ≤ acc.length + (r.length + 1)
    split at h <;> rename_i c
    · rw [if_pos c]; omega
    · rw [if_neg c]
      rw [List.length_append, List.length_singleton] at h
      omega
theorem zd0 : ∀ (ks acc : List Key), acc.Nodup → ((onceK acc ks).length = acc.length + ks.length ↔ (acc ++ ks).Nodup)
  | [], acc, h => by simp [onceK, h]
  | k :: r, acc, h => by
    show (onceK (if k ∈ acc then acc else acc ++ [k]) r).length = acc.length + (r.length + 1) ↔ _
    by_cases c : k ∈ acc
    · rw [if_pos c]
      have l := zco r acc
      constructor
      · intro e; omega
      · intro e
        have := (List.nodup_append.mp e).2.2 k c k (List.mem_cons_self)
        exact absurd rfl this
    · rw [if_neg c]
      have h' : (acc ++ [k]).Nodup := zk3 h c
      have ih := zd0 r (acc ++ [k]) h'
      rw [List.length_append, List.length_singleton, List.append_assoc] at ih
      rw [show acc.length + (r.length + 1) = acc.length + 1 + r.length by omega]
      exact ih
theorem zkq (ks : List Key) : (onceK [] ks).length = ks.length ↔ ks.Nodup := by
  have h := zd0 ks [] List.nodup_nil
  simpa using h
section
variable {P : Program} {w : World} {A : Around} {R : Result → Shared → Prop} {it : Addr} {fp wr : List Addr} {G : Array GenState → Array GenState → Prop} {n : Nat} {Pv : Nat → Value → Prop} {St : Nat → Shared → Prop}
def SetIs (P : Program) (w : World) (h : Heap) (a : Addr) (ks : List Key) : Prop := h.SetOf (mixKind P w) a (fun k => decide (k ∈ onceK [] ks)) (onceK [] ks).length
theorem SetIs.kept {h h' : Heap} {a : Addr} {ks : List Key} (x : SetIs P w h a ks) (k : ∀ o, h.get? a = some o → h'.get? a = some o) : SetIs P w h' a ks := by
  obtain ⟨o, es, ep, t, ho, rest⟩ := x
  exact ⟨o, es, ep, t, k o ho, rest⟩
theorem zou {k : Key} {v : Value} (h : (mixKind P w).is k v = true) : v.scannable = true := by
  rcases zay h with ⟨i, t, rfl, rfl⟩ | ⟨x, t, rfl, rfl⟩ | ⟨c, rfl, rfl⟩ <;> rfl
theorem zj8 (W : WalksS P w A.in1 it fp wr G n Pv St) (a : Addr) (ha : a ∉ fp) (ks : List Key) (hn : ks.length = n) (hv : ∀ i v, Pv i v → ∀ k, ks[i]? = some k → (mixKind P w).is k v = true) (hb : n + 1 < scanBound) :
    ∀ (m i : Nat) (s : Shared), n - i = m → i ≤ n → St i s → SetIs P w s.heap a (ks.take i) → (∀ s', Moved (a :: wr) G s s' → SetIs P w s'.heap a ks → R (.ok (.ret .none)) s') →
      codeAny (model P w) A (.builtin "set.update.loop" ⟨[.ref a, .ref it], []⟩) R s := by
  have haw : a ∉ wr := fun h => ha (W.sub _ h)
  have up : ∀ b ∈ wr, b ∈ a :: wr := fun b h => List.mem_cons_of_mem _ h
  intro m
  induction m with
  | zero =>
    intro i s hm hi st x q
    obtain rfl : i = n := by omega
    rw [List.take_of_length_le (Nat.le_of_eq hn)] at x
    refine codeAny_builtin F.entry_set_update_loop ?_
    rw [Around.under_plainId F.plain_set_update_loop _]
    refine wpAny_bind (W.done s _ _ st fun s' mv => wpAny_pure (q s' (mv.mono up) (x.kept fun o e => mv.heap a _ haw e)))
  | succ m ih =>
    intro i s hm hi st x q
    have lt : i < n := by omega
    have hk : ks[i]? = some ks[i] := by simp [hn, lt]
    refine codeAny_builtin F.entry_set_update_loop ?_
    rw [Around.under_plainId F.plain_set_update_loop _]
    refine wpAny_bind (W.item i s _ _ lt st fun v s' pv st' mv => ?_)
    have is := hv i v pv _ hk
    have x' := x.kept (h' := s'.heap) fun o e => mv.heap a _ haw e
    refine wpAny_bind (m := holding [v] (setAdd a v)) (wpAny_holding ?_)
    unfold setAdd
    refine wpAny_holding (wpAny_bind ((mixKind P w).pyHash (k := ks[i]) is ?_))
    have room := zco (ks.take i) []
    rw [List.length_take, List.length_nil] at room
    refine wpAny_setAddHashed_of (knd := mixKind P w) (s := { s' with toks := s'.toks + 1 }) is (zou is) x' (by omega) fun h' sb x2 => ?_
    have x3 : SetIs P w h' a (ks.take (i + 1)) := by
      unfold SetIs
      rw [List.take_add_one, hk, Option.toList_some, zer]
      refine SetOf_congr x2 (fun k' => ?_) ?_
      · by_cases c : ks[i] ∈ onceK [] (ks.take i)
        · rw [if_pos c]
          by_cases e : k' = ks[i]
          · subst e; simp [c]
          · simp [e]
        · rw [if_neg c]
          simp [List.mem_append]
      · by_cases c : ks[i] ∈ onceK [] (ks.take i)
        · rw [if_pos c]; simp [c]
        · rw [if_neg c]; simp [c]
    refine wpAny_pure ⟨plainId_quiet F.plain_set_update_loop _, ih (i + 1) _ (by omega) lt (W.frame _ s' _ _ st' (Nat.le_succ _) fun b hb o e => ?_) x3 fun s2 mv2 x4 => ?_⟩
    · rw [sb.2 b (fun h => ha (h ▸ hb))]; exact e
    · refine q s2 (Moved.trans W.gtrans ((mv.mono up).then_heap (Nat.le_succ _) fun b o hb e => ?_) mv2) x4
      rw [sb.2 b (fun h => hb (h ▸ List.mem_cons_self))]; exact e
end
section
variable {P : Program} {w : World} {A : Around} {E : Value → Shared → Prop} {s : Shared}
set_option maxHeartbeats 3200000 in
theorem zgz {l : Addr} {its : Array Value} {ks : List Key} {Q : Value → Shared → Prop} (hh : A.handled = none) (hl : s.heap.IsList l its) (hk : ks.length = its.size) (hi : ∀ (i : Nat) v k, its[i]? = some v → ks[i]? = some k → (mixKind P w).is k v = true)
    (hb : its.size + 1 < scanBound)
    (h : ∀ (h' : Heap) (tk : Nat), SetIs P w h' s.heap.objs.size ks → (∀ b o, b < s.heap.objs.size → s.heap.get? b = some o → h'.get? b = some o) → Q (.ref s.heap.objs.size) { s with heap := h', toks := tk }) :
    wpAny (model P w) A (call (.type "set") [.ref l]) Q E s := by
  obtain ⟨c, tl, hmro⟩ := F.called_set.mro
  have made := F.called_set.made
  have sub := F.called_set.sub
  refine wpAny_call (codeAny_of_tree (wpAny_pure ⟨Code.quiet_builtin _ (by decide +kernel), codeAny_builtin F.entry_type_call ?_⟩))
  rw [Around.under_plain (weight_type_call_type "set" [.ref l] []) rfl]
  have a1 := F.called_set.notType
  have a2 := F.called_set.canCreate
  have a3 := F.typeCall_set_1 (.ref l)
  repeat (any_goals (first | assumption | wp_step))
  refine codeAny_mono (code_set_new_1 (.ref l) (E := E) (Q₁ := fun obj s1 => ∃ led : Bool, obj = .ref s.heap.objs.size ∧ s1 = { s with heap := s.heap.push { cls := .type "set", dict := none, data := .set #[] 0 (.fresh 0 0 led) } }) fun led => ⟨led, rfl, rfl⟩) fun r s1 hr => ?_
  cases r with
  | error e => exact hr
  | ok fl =>
    cases fl with
    | ret obj =>
      obtain ⟨led, rfl, rfl⟩ := hr
      have at0 : (s.heap.push { cls := .type "set", dict := none, data := .set #[] 0 (.fresh 0 0 led) }).get? s.heap.objs.size = some { cls := .type "set", dict := none, data := .set #[] 0 (.fresh 0 0 led) } := Heap.get?_push_size _ rfl
      have ty : Shared.TypeIs { s with heap := s.heap.push { cls := .type "set", dict := none, data := .set #[] 0 (.fresh 0 0 led) } } (.ref s.heap.objs.size) "set" := ⟨_, at0, rfl⟩
      have i1 := F.called_set.init.lookup
      have i2 := F.called_set.init.bind (.ref s.heap.objs.size)
      repeat (any_goals (first | assumption | wp_step))
      refine codeAny_mono (codeAny_call_builtin (R := wants (fun r s2 => r = .none ∧ ∃ h' tk, s2 = { s with heap := h', toks := tk } ∧ SetIs P w h' s.heap.objs.size ks ∧
          (∀ b o, b < s.heap.objs.size → s.heap.get? b = some o → h'.get? b = some o)) E) F.called_set.init.plain F.entry_set_init (check_set_init_1 ty ?_)) fun r2 s2 hr2 => ?_
      · obtain ⟨ol, ho, hc, nl, hd⟩ := hl
        obtain ⟨oc, od, oda, osl⟩ := ol
        simp only at hc hd
        subst hc; subst hd
        have ho' : (s.heap.push { cls := .type "set", dict := none, data := .set #[] 0 (.fresh 0 0 led) }).get? l = some { cls := .type "list", dict := od, data := .seq its nl, slots := osl } := Heap.get?_push_of_some _ ho
        have b1 := F.sub_list_set
        have b2 := F.sub_list_frozenset
        have b3 : (Value.type "list" == Value.type "dict") = false := by decide
        have hl1 : (s.heap.push { cls := .type "set", dict := none, data := .set #[] 0 (.fresh 0 0 led) }).IsList l its := ⟨_, ho', rfl, nl, rfl⟩
        unfold Builtin.«set.__init__» noKeywords Builtin.Frozenset.updateFrom
        generalize hPI : pyIter = PI
        wp_walk
        subst hPI
        refine wpAny_pyIter_list hl1 ?_
        refine wpAny_bind (wpAny_runValue ?_)
        have ll : l < s.heap.objs.size := Heap.lt_size ho
        have h3 : A.in1.in1.in1.handled = none := by simp [hh]
        have ne : l ≠ (s.heap.push { cls := .type "set", dict := none, data := .set #[] 0 (.fresh 0 0 led) }).objs.size := by rw [Heap.size_push]; exact Nat.ne_of_lt (Nat.lt_succ_of_lt ll)
        have nf : s.heap.objs.size ∉ [(s.heap.push { cls := .type "set", dict := none, data := .set #[] 0 (.fresh 0 0 led) }).objs.size, l] := by
          rw [Heap.size_push]
          intro z
          rcases List.mem_cons.mp z with z | z
          · exact absurd z (Nat.ne_of_lt (Nat.lt_succ_self _))
          · exact absurd (List.mem_singleton.mp z) (Nat.ne_of_gt ll)
        refine zj8 ((Walks.list h3 _ l ne its).toS) s.heap.objs.size nf ks hk (fun i v pv k e => hi i v k pv e) hb (its.size - 0) 0 _ (by omega) (Nat.zero_le _) ⟨⟨_, Heap.get?_push_size _ rfl, rfl, rfl⟩, (hl1.push _)⟩ ?x0 ?q0
        case x0 =>
          refine SetIs.kept (h := s.heap.push { cls := .type "set", dict := none, data := .set #[] 0 (.fresh 0 0 led) }) ?_ fun o e => Heap.get?_push_of_some _ e
          rw [List.take_zero]
          exact SetOf_congr ((setObjOf_fresh (knd := mixKind P w) led).setOf at0 (by unfold scanBound; omega)) (fun _ => rfl) rfl
        case q0 =>
          intro s' mv x'
          obtain ⟨h', g', d', tk', os'⟩ := s'
          have eg : g' = s.gens := mv.gens
          have ed : d' = s.drawn := mv.drawn
          have eo : os' = s.os := mv.os
          subst eg; subst ed; subst eo
          refine wpAny_pure (wpAny_pure ⟨rfl, h', tk', rfl, x', fun b o hb e => mv.heap b o ?_ (Heap.get?_push_of_some _ (Heap.get?_push_of_some _ e))⟩)
          rw [Heap.size_push]
          intro z
          rcases List.mem_cons.mp z with z | z
          · exact absurd z (Nat.ne_of_lt hb)
          · exact absurd (List.mem_singleton.mp z) (Nat.ne_of_lt (Nat.lt_succ_of_lt hb))
      · cases r2 with
        | error e => exact hr2
        | ok f2 =>
          cases f2 with
          | ret r =>
            obtain ⟨rfl, h', tk, rfl, x', k'⟩ := hr2
            repeat (any_goals (first | assumption | wp_step))
            exact h _ _ x' k'
          | _ => exact hr2.elim
    | _ => exact hr.elim
end
def setK (P : Program) (w : World) (a : Addr) (ks : List Key) : HO := .ext fun h => SetIs P w h a ks
theorem zhl {X : Cx} (hc : X.calm = true) : CallR X (.type "set") (fun xs H Q => ∃ (p : Addr) (ks : List Key), xs = [.ref p] ∧ SqL X.K H p (ks.map kV) ∧ ks.length ≤ 1000 ∧ ∀ a, H a = none → Q (.ref a) (upd H a (setK X.prog X.w a ks))) := by
  intro pins s σ H xs us Q I r h
  obtain ⟨p, ks, rfl, hx, hz, q⟩ := h
  obtain ⟨u, rfl, rx⟩ := vals1 r
  cases (show u = Value.ref p from rx)
  obtain ⟨vs, rv, pl, _⟩ := I.list hx
  have lv := rv.length
  rw [List.length_map] at lv
  refine zgz (ks := ks) (I.ok.hd hc) pl.isList (by rw [List.size_toArray]; exact lv) (fun i v k e1 e2 => ?_) (by rw [List.size_toArray]; unfold scanBound; omega) fun h' tk x k => ?_
  · have e1' : vs[i]? = some v := by simpa using e1
    obtain ⟨u, e, q⟩ := rv.get (i := i) (x := kV k) (by rw [List.getElem?_map, e2]; rfl)
    rw [e1'] at e
    cases e
    exact zpv q
  · refine ⟨.ref s.heap.objs.size, _, I.laid (t' := tk) (fun b u e => k b u (Heap.lt_size e) e) (Nat.le_refl _) ?_, rfl, q _ I.fresh⟩
    obtain ⟨o, es, ep, t, ho, rest⟩ := id x
    exact ⟨x, ⟨o, ho⟩, fun h1 h2 x1 k1 => x1.kept k1⟩
theorem zfq {X : Cx} : CallR X (.builtin "len") (fun xs H Q => ∃ (p : Addr) (ks : List Key), xs = [.ref p] ∧ H p = some (setK X.prog X.w p ks) ∧ ks.length ≤ 1000 ∧ Q (.int ((onceK [] ks).length : Int)) H) := by
  intro pins s σ H xs us Q I r h
  obtain ⟨p, ks, rfl, hx, hz, q⟩ := h
  obtain ⟨u, rfl, rx⟩ := vals1 r
  cases (show u = Value.ref p from rx)
  obtain ⟨x, _⟩ := I.hok p _ hx
  obtain ⟨o, es, ep, t, ho, hex, hd, _, _, _, hf, hn⟩ := x
  have room := zco ks []
  rw [List.length_nil] at room
  refine call_len_set ho hex hd hf (by rw [hn]; omega) ?_
  rw [hn]
  exact ⟨.int _, H, I.tok _, ⟨_, rfl⟩, q⟩
structure New (H : Hp) (p : Addr) (o : HO) (H' : Hp) : Prop where
  nil : H p = none
  g : Same H H'
  at' : H' p = some o
  eq : H' = upd H p o
theorem New.mk' {H : Hp} {p : Addr} (h : H p = none) (o : HO) : New H p o (upd H p o) := ⟨h, zbg h o, zap, rfl⟩
theorem New.lst {K : PySem.W.Frag} {H H' : Hp} {p : Addr} {xs : List V} (n : New H p (.lst xs) H') : SqL K H' p xs := .of n.at'
theorem Same.wr {H H' : Hp} {p : Addr} (g : Same H H') (h : H p = none) (o : HO) : Same H (upd H' p o) := fun b u e => by rw [zam (zaq e h)]; exact g b u e
section
variable {X : Cx} {e : Expr} {es : List Expr} {t : TA} {pos : Pos}
def tTupN (t : TA) : TE := fun σ H Q => t σ H fun xs H1 => xs.length ≤ sizeLine ∧ ∀ p H', New H1 p (.tup xs) H' → Q (.ref p) H'
def tLstN (t : TA) : TE := fun σ H Q => t σ H fun xs H1 => xs.length ≤ sizeLine ∧ ∀ p H', New H1 p (.lst xs) H' → Q (.ref p) H'
theorem za6 {x1} (h : PA X es t) : PE X (.Tuple es x1 pos) (tTupN t) := by
  intro pins s σ H Q I hq
  refine wpAny_Tuple_spliced (thn (h pos pins s σ H _ I hq) fun us s1 ⟨xs, H1, I1, r, z, q⟩ => ⟨by rw [← r.length]; exact z, ?_⟩)
  refine ⟨.ref s1.heap.objs.size, upd H1 s1.heap.objs.size (.tup xs), I1.laid (t' := s1.toks) (fun b u e => Heap.get?_push_of_some _ e) (Nat.le_refl _) ?_, rfl, q _ _ (.mk' I1.fresh _)⟩
  exact ⟨z, us, r, ⟨_, Heap.get?_push_size _ rfl, rfl, _, rfl⟩⟩
theorem za3 (h : PA X es t) : PE X (.List es pos) (tLstN t) := by
  intro pins s σ H Q I hq
  refine wpAny_List_spliced (thn (h pos pins s σ H _ I hq) fun us s1 ⟨xs, H1, I1, r, z, q⟩ => ⟨by rw [← r.length]; exact z, ?_⟩)
  refine ⟨.ref s1.heap.objs.size, upd H1 s1.heap.objs.size (.lst xs), I1.laid (t' := s1.toks) (fun b u e => Heap.get?_push_of_some _ e) (Nat.le_refl _) ?_, rfl, q _ _ (.mk' I1.fresh _)⟩
  exact ⟨z, us, 0, r, Heap.get?_push_size _ rfl⟩
def rSlLN (K : PySem.W.Frag) : V → Option Int → Option Int → Hp → VK → Prop := fun x lo hi H Q => ∃ a xs, x = .ref a ∧ SqL K H a xs ∧ ∀ p H', New H p (.lst (cutL xs lo hi)) H' → Q (.ref p) H'
theorem zmk : SlR X (rSlLN X.K) := fun pins s σ H x v vl vu lo hi sl Q I rx hs pl pu h => by
  obtain ⟨a, xs, e, hx, q⟩ := h
  exact zos pins s σ H x v vl vu lo hi sl Q I rx hs pl pu ⟨a, xs, e, hx, fun p np => q p _ (.mk' np _)⟩
def rCatN : R2 := fun x y H Q => ∃ l b xs zs, x = .ref l ∧ y = .ref b ∧ H l = some (.lst xs) ∧ H b = some (.lst zs) ∧ xs.length + zs.length ≤ sizeLine ∧ ∀ p H', New H p (.lst (xs ++ zs)) H' → Q (.ref p) H'
theorem zg7 : OpR X (binaryOp .Add) rCatN := fun pins s σ H x y v u Q I rx ry h => by
  obtain ⟨l, b, xs, zs, e1, e2, h1, h2, hz, q⟩ := h
  exact zqv pins s σ H x y v u Q I rx ry ⟨l, b, xs, zs, e1, e2, h1, h2, hz, fun p np => q p _ (.mk' np _)⟩
theorem zfp : CallR X (.type "list") (fun xs H Q => ∃ p ys, xs = [.ref p] ∧ (SqL X.K H p ys ∨ SqT X.K H p ys) ∧ ∀ l H', New H l (.lst ys) H' → Q (.ref l) H') := fun pins s σ H xs us Q I r h => by
  obtain ⟨p, ys, e, hq, q⟩ := h
  exact zgm pins s σ H xs us Q I r ⟨p, ys, e, hq, fun l nl => q l _ (.mk' nl _)⟩
theorem zgl (hc : X.calm = true) : CallR X (.type "set") (fun xs H Q => ∃ (p : Addr) (ks : List Key), xs = [.ref p] ∧ SqL X.K H p (ks.map kV) ∧ ks.length ≤ 1000 ∧ ∀ a H', New H a (setK X.prog X.w a ks) H' → Q (.ref a) H') := fun pins s σ H xs us Q I r h => by
  obtain ⟨p, ks, e, hx, hz, q⟩ := h
  exact zhl hc pins s σ H xs us Q I r ⟨p, ks, e, hx, hz, fun a na => q a _ (.mk' na _)⟩
end
section
variable {tn : List Str} {cp : List (Nat × Str)} {g : TG} {tif : TT} {te : TE} {σ0 : St} {Q : VK} {H1 : Hp} {K : PySem.W.Frag} {a : Addr} {xs : List V}
def PMap (S : St → Prop) (f : V → V) (xs : List V) (H1 : Hp) (i : Nat) (ys : List V) (σ : St) (H : Hp) : Prop := Same H1 H ∧ S σ ∧ ys = (xs.take i).map f
theorem zfo (S : St → Prop) (f : V → V) (hn : xs.length ≤ 1000) (hS : SqL K H1 a xs) (h0 : S (stB tn cp σ0))
    (hs : ∀ D i σ H x, i < xs.length → x ∈ xs → xs[i]? = some x → Same H1 H → H1 D = none → H D = some (.lst ((xs.take i).map f)) → S σ → g x σ H fun σ2 H2 => tif σ2 H2 fun c H3 =>
      if c = true then te σ2 H3 fun y H4 => CStep D xs.length i (PMap S f xs H1) σ2 y H4 else CSkip D xs.length i (PMap S f xs H1) σ2 H3)
    (hd : ∀ D H, H1 D = none → Same H1 H → H D = some (.lst (xs.map f)) → Q (.ref D) H) : cBody tn cp g tif te σ0 Q (Itl K a) H1 := by
  refine zhk (K := K) (a := a) (xs := xs) (fun D i ys σ H => PMap S f xs H1 i ys σ H) (zaa hn) (fun D hD => ⟨zbg hD _, h0, rfl⟩) (fun D i ys σ H _ _ _ p => p.1.seq hS) ?_ ?_
  · rintro D i ys σ H x hD hi hx hH hl ⟨p1, p2, rfl⟩
    exact hs D i σ H x hi (List.mem_of_getElem? hx) hx p1 hD hH p2
  · rintro D ys σ H hD hH hl ⟨p1, p2, rfl⟩
    rw [List.take_of_length_le (Nat.le_refl _)] at hH
    exact hd D H hD p1 hH
theorem zrf (S : St → Prop) (f : V → V) (hn : xs.length ≤ 1000) (hS : SqT K H1 a xs) (h0 : S (stB tn cp σ0))
    (hs : ∀ D i σ H x, i < xs.length → x ∈ xs → xs[i]? = some x → Same H1 H → H1 D = none → H D = some (.lst ((xs.take i).map f)) → S σ → g x σ H fun σ2 H2 => tif σ2 H2 fun c H3 =>
      if c = true then te σ2 H3 fun y H4 => CStep D xs.length i (PMap S f xs H1) σ2 y H4 else CSkip D xs.length i (PMap S f xs H1) σ2 H3)
    (hd : ∀ D H, H1 D = none → Same H1 H → H D = some (.lst (xs.map f)) → Q (.ref D) H) : cBody tn cp g tif te σ0 Q (Itt K a) H1 := by
  refine zok (K := K) (a := a) (xs := xs) (fun D i ys σ H => PMap S f xs H1 i ys σ H) (zaa hn) (fun D hD => ⟨zbg hD _, h0, rfl⟩) (fun D i ys σ H _ _ _ p => p.1.seqT hS) ?_ ?_
  · rintro D i ys σ H x hD hi hx hH hl ⟨p1, p2, rfl⟩
    exact hs D i σ H x hi (List.mem_of_getElem? hx) hx p1 hD hH p2
  · rintro D ys σ H hD hH hl ⟨p1, p2, rfl⟩
    rw [List.take_of_length_le (Nat.le_refl _)] at hH
    exact hd D H hD p1 hH
theorem zc5 {S : St → Prop} {f : V → V} {D : Addr} {i : Nat} {x y : V} {σ2 : St} {H4 : Hp} (hn : xs.length ≤ 1000) (hx : xs[i]? = some x) (hD : H1 D = none) (h4 : H4 D = some (.lst ((xs.take i).map f))) (g4 : Same H1 H4) (s2 : S σ2) (e : y = f x) :
    CStep D xs.length i (PMap S f xs H1) σ2 y H4 := by
  have hi : i < xs.length := (List.getElem?_eq_some_iff.mp hx).1
  refine cstep (zaa hn) hi h4 (by rw [List.length_map, List.length_take]; omega) ⟨g4.wr hD _, s2, ?_⟩
  rw [List.take_add_one, hx, List.map_append, e]
  rfl
def PFil (S : St → Prop) (p : V → Bool) (f : V → V) (xs : List V) (H1 : Hp) (i : Nat) (ys : List V) (σ : St) (H : Hp) : Prop := Same H1 H ∧ S σ ∧ ys = ((xs.take i).filter p).map f
theorem zrg (S : St → Prop) (p : V → Bool) (f : V → V) (hn : xs.length ≤ 1000) (hS : SqT K H1 a xs) (h0 : S (stB tn cp σ0))
    (hs : ∀ D i σ H x, i < xs.length → x ∈ xs → xs[i]? = some x → Same H1 H → H1 D = none → H D = some (.lst (((xs.take i).filter p).map f)) → S σ → g x σ H fun σ2 H2 => tif σ2 H2 fun c H3 =>
      if c = true then te σ2 H3 fun y H4 => CStep D xs.length i (PFil S p f xs H1) σ2 y H4 else CSkip D xs.length i (PFil S p f xs H1) σ2 H3)
    (hd : ∀ D H, H1 D = none → Same H1 H → H D = some (.lst ((xs.filter p).map f)) → Q (.ref D) H) : cBody tn cp g tif te σ0 Q (Itt K a) H1 := by
  refine zok (K := K) (a := a) (xs := xs) (fun D i ys σ H => PFil S p f xs H1 i ys σ H) (zaa hn) (fun D hD => ⟨zbg hD _, h0, rfl⟩) (fun D i ys σ H _ _ _ p => p.1.seqT hS) ?_ ?_
  · rintro D i ys σ H x hD hi hx hH hl ⟨p1, p2, rfl⟩
    exact hs D i σ H x hi (List.mem_of_getElem? hx) hx p1 hD hH p2
  · rintro D ys σ H hD hH hl ⟨p1, p2, rfl⟩
    rw [List.take_of_length_le (Nat.le_refl _)] at hH
    exact hd D H hD p1 hH
theorem zp9 {S : St → Prop} {p : V → Bool} {f : V → V} {D : Addr} {i : Nat} {x y : V} {σ2 : St} {H4 : Hp} (hn : xs.length ≤ 1000) (hx : xs[i]? = some x) (hp : p x = true) (hD : H1 D = none) (h4 : H4 D = some (.lst (((xs.take i).filter p).map f))) (g4 : Same H1 H4) (s2 : S σ2) (e : y = f x) :
    CStep D xs.length i (PFil S p f xs H1) σ2 y H4 := by
  have hi : i < xs.length := (List.getElem?_eq_some_iff.mp hx).1
  refine cstep (zaa hn) hi h4 ?_ ⟨g4.wr hD _, s2, ?_⟩
  · rw [List.length_map]
    have := List.length_filter_le p (xs.take i)
    rw [List.length_take] at this
    omega
  · rw [List.take_add_one, hx, List.filter_append, List.map_append, e]
    simp [hp]
theorem zqa {S : St → Prop} {p : V → Bool} {f : V → V} {D : Addr} {i : Nat} {x : V} {σ2 : St} {H3 : Hp} (hx : xs[i]? = some x) (hp : p x = false) (h3 : H3 D = some (.lst (((xs.take i).filter p).map f))) (g3 : Same H1 H3) (s2 : S σ2) :
    CSkip D xs.length i (PFil S p f xs H1) σ2 H3 := by
  have hi : i < xs.length := (List.getElem?_eq_some_iff.mp hx).1
  refine cskip hi h3 ?_ ⟨g3, s2, ?_⟩
  · rw [List.length_map]
    have := List.length_filter_le p (xs.take i)
    rw [List.length_take] at this
    omega
  · rw [List.take_add_one, hx, List.filter_append]
    simp [hp]
end
end L2
namespace SS
open PySem PySem.Spec PyProof.Rows L2
def SMALL : Str := "abcdefghijklmnopqrstuvwxyz"
def GREAT : Str := "ABCDEFGHIJKLMNOPQRSTUVWXYZ"
def FIGS : Str := "0123456789"
def signIn (c : Nat) (z : Str) : Bool := !(Builtin.Str.occurrences z ⟨#[c]⟩ 0 z.length 1).isEmpty
def nameB (z letters : Str) : Bool := match z.cps.toList with
  | [] => false
  | c :: r => decide (r.length ≤ 3) && signIn c letters && r.all fun d => signIn d FIGS
def isNm (x : V) (letters : Str) : Bool := match x with
  | .str z => nameB z letters
  | _ => false
def zop : Sp := fun vs H Q _ => ∃ x letters k, vs = [x, .str letters] ∧ Kd H x k ∧ (∀ z, x = .str z → z.length ≤ 1000) ∧ ∀ H', Same H H' → Q (.bl (isNm x letters)) H'
def ze5 (letters : Str) : Sp := fun vs H Q _ => ∃ x k, vs = [x] ∧ Kd H x k ∧ (∀ z, x = .str z → z.length ≤ 1000) ∧ ∀ H', Same H H' → Q (.bl (isNm x letters)) H'
structure Nam (z letters : Str) : Prop where
  ex : ∃ d ds, z.cps.toList = d :: ds ∧ d ∈ letters.cps.toList ∧ ds.length ≤ 3 ∧ ∀ x ∈ ds, x ∈ FIGS.cps.toList
theorem znl : ∀ c ∈ SMALL.cps.toList, signIn c SMALL = true := by decide +kernel
theorem zpz : ∀ c ∈ FIGS.cps.toList, signIn c FIGS = true := by decide +kernel
theorem zqz {z l : Str} (hl : ∀ c ∈ l.cps.toList, signIn c l = true) (h : Nam z l) : isNm (.str z) l = true := by
  obtain ⟨d, ds, e, h1, h2, h3⟩ := h.ex
  simp only [isNm, nameB, e]
  rw [hl d h1, decide_eq_true h2, Bool.true_and, Bool.true_and]
  exact List.all_eq_true.mpr fun x hx => zpz x (h3 x hx)
theorem zj7 (c : Nat) (z : Str) : signIn c z = decide (c ∈ z.cps.toList) := PySem.StrLaws.found_one z c
def Thing (H : Hp) (y : V) : Prop := (∃ k, Kd H y k) ∧ ∀ z, y = .str z → z.length ≤ 1000
theorem Thing.same {H H' : Hp} {y : V} (h : Thing H y) (g : Same H H') : Thing H' y := ⟨let ⟨k, q⟩ := h.1; ⟨k, q.same g⟩, h.2⟩
theorem Thing.str {H : Hp} {z : Str} (h : z.length ≤ 1000) : Thing H (.str z) := ⟨⟨_, .str z⟩, fun z' e => by cases e; exact h⟩
theorem Thing.tup {H : Hp} {a : Addr} {xs : List V} (e : H a = some (.tup xs)) : Thing H (.ref a) := ⟨⟨_, .tup e⟩, fun z' e => by cases e⟩
def isName (x : V) : Bool := isNm x SMALL || isNm x GREAT
def zmj : Sp := fun vs H Q _ => ∃ x, vs = [x] ∧ Thing H x ∧ ∀ H', Same H H' → Q (.bl (isName x)) H'
theorem zc2 {x : V} (h : isName x = true) : ∃ z, x = .str z := by
  cases x with
  | str z => exact ⟨z, rfl⟩
  | _ => exact absurd h (by simp [isName, isNm])
def frameB (xs : List V) : Bool := decide (xs.length ≤ 4) && xs.all isName && decide xs.Nodup
def frB (H : Hp) (x : V) : Bool := match x with
  | .ref a => match H a with
    | some (.lst xs) => frameB xs
    | _ => false
  | _ => false
def Things (H : Hp) (xs : List V) : Prop := xs.length ≤ 1000 ∧ ∀ y ∈ xs, Thing H y
def zoq : Sp := fun vs H Q _ => ∃ x, vs = [x] ∧ Thing H x ∧ (∀ a xs, x = .ref a → H a = some (.lst xs) → Things H xs) ∧ ∀ H', Same H H' → Q (.bl (frB H x)) H'
theorem zev : ∀ {xs : List V}, xs.all isName = true → ∃ ks : List Key, xs = ks.map kV ∧ (xs.Nodup ↔ ks.Nodup)
  | [], _ => ⟨[], rfl, by simp⟩
  | x :: r, h => by
    rw [List.all_cons, Bool.and_eq_true] at h
    obtain ⟨z, rfl⟩ := zc2 h.1
    obtain ⟨ks, e, n⟩ := zev h.2
    refine ⟨Sum.inr z :: ks, by rw [List.map_cons, ← e]; rfl, ?_⟩
    rw [List.nodup_cons, List.nodup_cons, n]
    refine and_congr_left fun _ => not_congr ?_
    rw [e, List.mem_map]
    constructor
    · rintro ⟨k, hk, e⟩
      have : k = Sum.inr z := zq6 (e.trans rfl)
      exact this ▸ hk
    · exact fun hk => ⟨_, hk, rfl⟩
def zj4 (K : PySem.W.Frag) : Sp := fun vs H Q _ => ∃ (a : Addr) (ns : List Int) (k : Int), vs = [.ref a, .int k] ∧ SqL K H a (ns.map V.int) ∧ 0 ≤ k ∧ ∀ c, Q (.int c) H
theorem znx {α β : Type} (f : α → β) (xs : List α) (lo hi : Option Int) : cutL (xs.map f) lo hi = (cutL xs lo hi).map f := by
  unfold cutL
  rw [List.length_map, List.map_take, List.map_drop]
end SS
namespace L2
open PySem PySem.Spec PyProof.Rows
section
variable {X : Cx} {k : Nat} {H : Hp} {a b : Addr} {xs ys : List V}
theorem zhg (a b : Str) : eqV (.str a) (.str b) = decide (a = b) := by
  by_cases h : a = b
  · subst h; simp [eqV]
  · simp [eqV, h]
theorem zmd : ∀ (xs ys : List Str), (xs.length == ys.length && (List.range xs.length).all fun j => eqV ((xs.map V.str).getD j .non) ((ys.map V.str).getD j .non)) = decide (xs = ys)
  | [], [] => rfl
  | [], y :: ys => by simp
  | x :: xs, [] => by simp
  | x :: xs, y :: ys => by
    have ih := zmd xs ys
    have e : (List.range (x :: xs).length).all (fun j => eqV (((x :: xs).map V.str).getD j .non) (((y :: ys).map V.str).getD j .non)) =
        (decide (x = y) && (List.range xs.length).all fun j => eqV ((xs.map V.str).getD j .non) ((ys.map V.str).getD j .non)) := by
      rw [List.length_cons, List.range_succ_eq_map, List.all_cons, List.all_map]
      exact congrArg (· && _) (zhg x y)
    rw [e]
    have e2 : ((x :: xs).length == (y :: ys).length) = (xs.length == ys.length) := by simp
    rw [e2]
    by_cases hx : x = y
    · subst hx
      rw [decide_eq_true rfl, Bool.true_and, ih]
      simp
    · rw [decide_eq_false hx, Bool.false_and, Bool.and_false]
      simp [hx]
theorem zb2 (xs : List Str) : (xs.map V.str).all flatV = true := by
  rw [List.all_eq_true]
  intro x hx
  obtain ⟨z, _, rfl⟩ := List.mem_map.mp hx
  rfl
def rEqS (K : PySem.W.Frag) : R2 := fun x y H Q => ∃ (a b : Addr) (xs ys : List Str), x = .ref a ∧ y = .ref b ∧ SqL K H a (xs.map V.str) ∧ SqL K H b (ys.map V.str) ∧ Q (.bl (decide (xs = ys))) H
def rNeS (K : PySem.W.Frag) : R2 := fun x y H Q => ∃ (a b : Addr) (xs ys : List Str), x = .ref a ∧ y = .ref b ∧ SqL K H a (xs.map V.str) ∧ SqL K H b (ys.map V.str) ∧ Q (.bl (!decide (xs = ys))) H
theorem zqs (hu : X.A.units + 8 < cLine) : OpR X (compareOp .NotEq) (rNeS X.K) := by
  intro pins s σ H x y v u Q I rx ry h
  obtain ⟨a, b, xs, ys, rfl, rfl, h1, h2, q⟩ := h
  cases (show v = Value.ref a from rx)
  cases (show u = Value.ref b from ry)
  obtain ⟨us, r1, p1, _⟩ := I.list h1
  obtain ⟨vs, r2, p2, _⟩ := I.list h2
  have l1 := r1.length
  have l2 := r2.length
  have hu' : X.A.units < cLine := by omega
  by_cases hl : us.length = vs.length
  · have z := SeqAt.RcNeAt.lists (A := X.A) (s := s) (e := fun j => eqV ((xs.map V.str).getD j .non) ((ys.map V.str).getD j .non)) p1.isList p2.isList (by rw [List.size_toArray, List.size_toArray]; exact hl) hu' fun j h1 h2 => by
      rw [List.size_toArray] at h1 h2
      obtain ⟨g1, q1⟩ := r1.at h1
      obtain ⟨g2, q2⟩ := r2.at h2
      have e1 : (xs.map V.str).getD j .non = (xs.map V.str)[j] := by rw [List.getD_eq_getElem?_getD, List.getElem?_eq_getElem g1]; rfl
      have e2 : (ys.map V.str).getD j .non = (ys.map V.str)[j] := by rw [List.getD_eq_getElem?_getD, List.getElem?_eq_getElem g2]; rfl
      rw [e1, e2]
      refine zln (by simpa using q1) (by simpa using q2) ?_ ?_
      · exact List.all_eq_true.mp (zb2 xs) _ (List.getElem_mem g1)
      · exact List.all_eq_true.mp (zb2 ys) _ (List.getElem_mem g2)
    have e := zmd xs ys
    rw [List.length_map] at l1 l2
    rw [show (xs.length == ys.length) = true by simp; omega, Bool.true_and] at e
    rw [List.size_toArray, ← l1, e] at z
    exact z _ _ _ _ ⟨.bl (!decide (xs = ys)), H, I, rfl, q⟩
  · have z := SeqAt.RcNeAt.lists_lengths (A := X.A) (s := s) p1.isList p2.isList (by rw [List.size_toArray, List.size_toArray]; simpa using hl) hu'
    have e : decide (xs = ys) = false := decide_eq_false fun h => by rw [h, List.length_map] at l1; rw [List.length_map] at l2; omega
    rw [e] at q
    exact z _ _ _ _ ⟨.bl true, H, I, rfl, q⟩
theorem zmn (ha : SqL X.K H a xs) (hb : SqL X.K H b []) : RcOk X (k + 1) H (.ref a) (.ref b) (decide (xs = [])) := by
  cases xs with
  | nil =>
    have r := zi5 (k := k) ha hb rfl (fun _ => true) fun j h1 _ => by simp at h1
    exact r
  | cons x r => exact zkd ha hb (by simp)
def rSlTN (K : PySem.W.Frag) : V → Option Int → Option Int → Hp → VK → Prop := fun x lo hi H Q => ∃ a xs, x = .ref a ∧ SqT K H a xs ∧
  ¬ (HT.sIx xs.length 0 lo = 0 ∧ HT.sIx xs.length xs.length hi = xs.length) ∧ ∀ p H', New H p (.tup (cutL xs lo hi)) H' → Q (.ref p) H'
theorem zor : SlR X (rSlTN X.K) := fun pins s σ H x v vl vu lo hi sl Q I rx hs pl pu h => by
  obtain ⟨a, xs, e, hx, hw, q⟩ := h
  exact zqi pins s σ H x v vl vu lo hi sl Q I rx hs pl pu ⟨a, xs, e, hx, hw, fun p np => q p _ (.mk' np _)⟩
def rStrB (f : Str → Bool) : V → List V → Hp → VK → Prop := fun x vs H Q => ∃ z, x = .str z ∧ vs = [] ∧ Q (.bl (f z)) H
end
section
variable {K : PySem.W.Frag} {h : Heap} {mg : Str → Option Value}
theorem glt_mk {x : Str} {p : Addr} {od : Option Addr} {its : Array Value} {n : Nat} {sl : Array (Option Value)} {xs : List V} (X : K.In h) (G : h.Ns mainGlobals mg) (a : PySem.W.nsIn K mainGlobals x = some (some (.ref p)))
    (l : K.lookup p = some ⟨.type "tuple", od, .seq its n, sl⟩) (z : its.size ≤ sizeLine) (r : Vals xs its.toList) : ∃ q, GlV mg x (.ref q) ∧ ∀ H, SqT K H q xs :=
  ⟨p, ⟨_, PySem.W.mg_of X G a, rfl⟩, fun H => .inr ⟨_, its, n, l, rfl, rfl, z, r⟩⟩
end
section
variable {X : Cx} (K : PySem.W.Frag)
theorem zat (h : X.K = K := by rfl) : OpR X (compareOp .In) (rIn K false) := h ▸ zkp
theorem zcn (h : X.K = K := by rfl) : OpR X (compareOp .NotIn) (rIn K true) := h ▸ zgd
theorem zal (h : X.K = K := by rfl) : IxR X (rIxL K) := h ▸ zpw
theorem zao (h : X.K = K := by rfl) : IxR X (rIxT K) := h ▸ zq7
theorem zf6 (h : X.K = K := by rfl) : SlR X (rSlLN K) := h ▸ zmk
theorem ze8 (h : X.K = K := by rfl) : SlR X (rSlTN K) := h ▸ zor
def rLen : List V → Hp → VK → Prop := fun xs H Q => ∃ p ys, xs = [.ref p] ∧ (SqL K H p ys ∨ SqT K H p ys) ∧ Q (.int (List.length ys)) H
theorem zaj (h : X.K = K := by rfl) : CallR X (.builtin "len") (rLen K) := h ▸ zgn
def rAll : List V → Hp → VK → Prop := fun xs H Q => ∃ (p : Addr) (bs : List Bool), xs = [.ref p] ∧ SqL K H p (bs.map V.bl) ∧ Q (.bl (bs.all id)) H
theorem za8 (hc : X.calm = true) (h : X.K = K := by rfl) : CallR X (.builtin "all") (rAll K) := h ▸ zho hc
def rAny : List V → Hp → VK → Prop := fun xs H Q => ∃ (p : Addr) (bs : List Bool), xs = [.ref p] ∧ SqL K H p (bs.map V.bl) ∧ Q (.bl (bs.any id)) H
theorem zgo (hc : X.calm = true) (h : X.K = K := by rfl) : CallR X (.builtin "any") (rAny K) := h ▸ zhn hc
def rSum : List V → Hp → VK → Prop := fun xs H Q => ∃ (p : Addr) (ns : List Int), xs = [.ref p] ∧ SqL K H p (ns.map V.int) ∧ Q (.int ns.sum) H
theorem zcu (hc : X.calm = true) (h : X.K = K := by rfl) : CallR X (.builtin "sum") (rSum K) := h ▸ zgk hc
def rListOf : List V → Hp → VK → Prop := fun xs H Q => ∃ p ys, xs = [.ref p] ∧ (SqL K H p ys ∨ SqT K H p ys) ∧ ∀ l H', New H l (.lst ys) H' → Q (.ref l) H'
theorem zej (h : X.K = K := by rfl) : CallR X (.type "list") (rListOf K) := h ▸ zfp
theorem zpi (hu : X.A.units + 8 < cLine) (h : X.K = K := by rfl) : OpR X (compareOp .NotEq) (rNeS K) := h ▸ zqs hu
theorem zbh {tg l : Expr} {tl : TE} (hl : PE X l tl) (h : X.K = K := by rfl) : PI X tg l (iList K tl) := h ▸ zo9 hl
theorem zkf {tg l : Expr} {tl : TE} (hl : PE X l tl) (h : X.K = K := by rfl) : PI X tg l (iTup K tl) := h ▸ zqn hl
variable {o e : Expr} {es : List Expr} {to : TE} {t : TA} {name : Str} {apos cpos : Pos} {T id : String} {r : V → List V → Hp → VK → Prop}
theorem zpf (pa : PlainAttrs T) (slot : Slot T name id) (hty : typeOf (.builtin id) = pure (.type "method_descriptor")) (hm : MtR X id r) (ho : PE X o to) (h : X.K = K := by rfl)
    (hbase : attributeBase o name X.env (eval o X.env) = eval o X.env := by rfl) (hline : (apos.endLine == cpos.line) = true := by rfl) : PE X (.Call (.Attribute o name apos) [] [] cpos) (tBM0 K T r to) := h ▸ zqq pa slot hty hm ho hbase hline
theorem zdb (pa : PlainAttrs T) (slot : Slot T name id) (hty : typeOf (.builtin id) = pure (.type "method_descriptor")) (hm : MtR X id r) (ho : PE X o to) (ha : PA X (e :: es) t) (h : X.K = K := by rfl)
    (hbase : attributeBase o name X.env (eval o X.env) = eval o X.env := by rfl)
    (hfew : ((backTo cpos (starEach (e :: es) X.env)).all (fun x => !x.1) && (backToKw cpos (keywordEach [] X.env)).all (fun x => x.1.isSome)
      && decide ((e :: es).length + ([] : List Keyword).length + (if ([] : List Keyword).isEmpty then 0 else 1) < 30)) = true := by rfl)
    (hline : (apos.endLine == cpos.line) = true := by rfl) (h1 : notStar e = true := by rfl) (h2 : es.all notStar = true := by rfl) :
    PE X (.Call (.Attribute o name apos) (e :: es) [] cpos) (tBM K T r to t) := h ▸ zrk pa slot hty hm ho ha hbase hfew hline (za9 h1) (zbn h2)
end
end L2
namespace SS
open PySem PySem.Spec PyProof.Rows L2
inductive Sy where
  | bare (w n m : Str)
  | neg (s : Sy)
  | two (w : Str) (s t : Sy)
  | qu (w n : Str) (s : Sy)
def rowWords : List Str := ["ahead", "next"]
def bareWords : List Str := ["in", "same", "within", "ahead", "next", "left", "right", "above"]
def Sy.depth : Sy → Nat
  | .bare _ _ _ => 1
  | .neg s => s.depth + 1
  | .two _ s t => max s.depth t.depth + 1
  | .qu _ _ s => s.depth + 1
def Sy.parts : Sy → Nat
  | .bare _ _ _ => 1
  | .neg s => s.parts + 1
  | .two _ s t => s.parts + t.parts + 1
  | .qu _ _ s => s.parts + 1
inductive Rep (H : Hp) : V → Sy → Prop where
  | bare {a : Addr} {w n m : Str} (hw : w ∈ bareWords) (e : H a = some (.tup [.str w, .str n, .str m])) : Rep H (.ref a) (.bare w n m)
  | neg {a : Addr} {x : V} {s : Sy} (e : H a = some (.tup [.str "not", x])) (h : Rep H x s) : Rep H (.ref a) (.neg s)
  | two {a : Addr} {w : Str} {x y : V} {s t : Sy} (hw : w ∈ (["and", "or"] : List Str)) (e : H a = some (.tup [.str w, x, y])) (h1 : Rep H x s) (h2 : Rep H y t) : Rep H (.ref a) (.two w s t)
  | qu {a : Addr} {w n : Str} {x : V} {s : Sy} (hw : w ∈ (["some", "all"] : List Str)) (e : H a = some (.tup [.str w, .str n, x])) (h : Rep H x s) : Rep H (.ref a) (.qu w n s)
theorem Rep.same {H H' : Hp} {v : V} {s : Sy} (r : Rep H v s) (g : Same H H') : Rep H' v s := by
  induction r with
  | bare hw e => exact .bare hw (g _ _ e)
  | neg e _ ih => exact .neg (g _ _ e) ih
  | two hw e _ _ ih1 ih2 => exact .two hw (g _ _ e) ih1 ih2
  | qu hw e _ ih => exact .qu hw (g _ _ e) ih
theorem Rep.tup {H : Hp} {v : V} {s : Sy} (r : Rep H v s) : ∃ a xs, v = .ref a ∧ H a = some (.tup xs) := by
  cases r with
  | bare hw e => exact ⟨_, _, rfl, e⟩
  | neg e _ => exact ⟨_, _, rfl, e⟩
  | two hw e _ _ => exact ⟨_, _, rfl, e⟩
  | qu hw e _ => exact ⟨_, _, rfl, e⟩
theorem zmb : ∀ w ∈ bareWords, inV (.str w) [.str "some", .str "all"] = false := by decide +kernel
theorem zlb : ∀ w ∈ (["and", "or"] : List Str), inV (.str w) [.str "some", .str "all"] = false := by decide +kernel
theorem zjv : ∀ w ∈ (["some", "all"] : List Str), inV (.str w) [.str "some", .str "all"] = true := by decide +kernel
theorem znf : inV (.str "not") [.str "some", .str "all"] = false := by decide +kernel
theorem zcr (z : Str) (l : List Str) : inV (.str z) (l.map V.str) = decide (z ∈ l) := by
  induction l with
  | nil => rfl
  | cons y r ih =>
    have e : inV (.str z) ((y :: r).map V.str) = (eqV (.str y) (.str z) || inV (.str z) (r.map V.str)) := rfl
    rw [e, ih, zhg]
    by_cases h : z = y
    · subst h; simp
    · have h' : ¬ y = z := fun q => h q.symm
      simp [h, h']
def isT (H : Hp) (x : V) : Bool := match x with
  | .ref a => match H a with
    | some (.tup _) => true
    | _ => false
  | _ => false
theorem Kd.isT {H : Hp} {x : V} {k : String} (h : Kd H x k) : subT k "tuple" = isT H x := by
  cases h with
  | lst e => simp only [SS.isT, e]; decide
  | tup e => simp only [SS.isT, e]; decide
  | dK e => simp only [SS.isT, e]; decide
  | _ => rfl
def zbt : Sp := fun vs H Q _ => ∃ a xs, vs = [.ref a] ∧ H a = some (.tup xs) ∧ xs.length ≤ 1000 ∧ (∀ y ∈ xs, ∃ k, Kd H y k) ∧ ∀ D H', H D = none → Same H H' → H' D = some (.lst (xs.filter (isT H))) → Q (.ref D) H'
def Sy.inner : Sy → List Sy
  | .bare _ _ _ => []
  | .neg s => [s]
  | .two _ s t => [s, t]
  | .qu _ _ s => [s]
theorem Rep.kd {H : Hp} {v : V} {s : Sy} (r : Rep H v s) : Kd H v "tuple" := by
  obtain ⟨a, xs, rfl, e⟩ := r.tup
  exact .tup e
theorem Rep.isT {H : Hp} {v : V} {s : Sy} (r : Rep H v s) : isT H v = true := by
  obtain ⟨a, xs, rfl, e⟩ := r.tup
  simp only [SS.isT, e]
theorem Rep.items {H : Hp} {v : V} {s : Sy} (r : Rep H v s) : ∃ a xs, v = .ref a ∧ H a = some (.tup xs) ∧ xs.length ≤ 3 ∧ (∀ y ∈ xs, ∃ k, Kd H y k) ∧ Paired (Rep H) (xs.filter (SS.isT H)) s.inner := by
  cases r with
  | bare hw e =>
    refine ⟨_, _, rfl, e, Nat.le_refl _, fun y hy => ?_, .nil⟩
    simp only [List.mem_cons, List.not_mem_nil, or_false] at hy
    rcases hy with rfl | rfl | rfl <;> exact ⟨_, .str _⟩
  | neg e h =>
    refine ⟨_, _, rfl, e, by simp, fun y hy => ?_, ?_⟩
    · simp only [List.mem_cons, List.not_mem_nil, or_false] at hy
      rcases hy with rfl | rfl
      · exact ⟨_, .str _⟩
      · exact ⟨_, h.kd⟩
    · rw [List.filter_cons_of_neg (by simp [SS.isT]), List.filter_cons_of_pos h.isT]
      exact .cons h .nil
  | two hw e h1 h2 =>
    refine ⟨_, _, rfl, e, by simp, fun y hy => ?_, ?_⟩
    · simp only [List.mem_cons, List.not_mem_nil, or_false] at hy
      rcases hy with rfl | rfl | rfl
      · exact ⟨_, .str _⟩
      · exact ⟨_, h1.kd⟩
      · exact ⟨_, h2.kd⟩
    · rw [List.filter_cons_of_neg (by simp [SS.isT]), List.filter_cons_of_pos h1.isT, List.filter_cons_of_pos h2.isT]
      exact .cons h1 (.cons h2 .nil)
  | qu hw e h =>
    refine ⟨_, _, rfl, e, by simp, fun y hy => ?_, ?_⟩
    · simp only [List.mem_cons, List.not_mem_nil, or_false] at hy
      rcases hy with rfl | rfl | rfl
      · exact ⟨_, .str _⟩
      · exact ⟨_, .str _⟩
      · exact ⟨_, h.kd⟩
    · rw [List.filter_cons_of_neg (by simp [SS.isT]), List.filter_cons_of_neg (by simp [SS.isT]), List.filter_cons_of_pos h.isT]
      exact .cons h .nil
def Sy.isBare : Sy → Bool
  | .bare _ _ _ => true
  | _ => false
def zcg : Sp := fun vs H Q _ => ∃ v s, vs = [v] ∧ Rep H v s ∧ ∀ H', Same H H' → Q (.bl s.isBare) H'
theorem Paired.at {α β : Type} {R : α → β → Prop} : ∀ {xs : List α} {ys : List β} {i : Nat} {x : α}, Paired R xs ys → xs[i]? = some x → ∃ y, ys[i]? = some y ∧ R x y
  | _, _, _, _, .nil, h => by simp at h
  | _, _, 0, _, .cons h _, e => by simp at e; subst e; exact ⟨_, rfl, h⟩
  | _, _, i + 1, _, .cons _ h, e => by simp only [List.getElem?_cons_succ] at e ⊢; exact Paired.at h e
theorem Paired.len {α β : Type} {R : α → β → Prop} : ∀ {xs : List α} {ys : List β}, Paired R xs ys → xs.length = ys.length
  | _, _, .nil => rfl
  | _, _, .cons _ h => by rw [List.length_cons, List.length_cons, Paired.len h]
theorem zd9 {s t : Sy} (h : t ∈ s.inner) : t.depth < s.depth ∧ t.parts < s.parts := by
  cases s with
  | bare w n m => exact nomatch h
  | neg s => rw [List.mem_singleton.mp h]; exact ⟨Nat.lt_succ_self _, Nat.lt_succ_self _⟩
  | two w s1 s2 =>
    have h : t = s1 ∨ t = s2 := by simpa [Sy.inner] using h
    have e1 : (Sy.two w s1 s2).depth = max s1.depth s2.depth + 1 := rfl
    have e2 : (Sy.two w s1 s2).parts = s1.parts + s2.parts + 1 := rfl
    rcases h with rfl | rfl <;> (rw [e1, e2]; omega)
  | qu w n s => rw [List.mem_singleton.mp h]; exact ⟨Nat.lt_succ_self _, Nat.lt_succ_self _⟩
theorem zf3 {α : Type} {xs : List α} (h : 1 ≤ xs.length) : ¬ (HT.sIx xs.length 0 (some 1) = 0 ∧ HT.sIx xs.length xs.length none = xs.length) := fun z => by
  have e : HT.sIx xs.length 0 (some ((1 : Nat) : Int)) = min 1 xs.length := HT.sIx_nat ..
  have e' : HT.sIx xs.length 0 (some 1) = min 1 xs.length := e
  rw [e'] at z
  omega
def isPl (z : Str) : Bool := isNm (.str z) SMALL
def isSt (z : Str) : Bool := isNm (.str z) GREAT
theorem zrn {z l : Str} (h : isNm (.str z) l = true) : ∃ c r, z.cps.toList = c :: r ∧ r.length ≤ 3 ∧ c ∈ l.cps.toList ∧ ∀ d ∈ r, d ∈ FIGS.cps.toList := by
  simp only [isNm, nameB] at h
  split at h
  · cases h
  · rename_i c r e
    rw [Bool.and_eq_true, Bool.and_eq_true, zj7, decide_eq_true_eq, decide_eq_true_eq, List.all_eq_true] at h
    exact ⟨c, r, e, h.1.1, h.1.2, fun d hd => by have := h.2 d hd; rw [zj7, decide_eq_true_eq] at this; exact this⟩
theorem zjd {z : Str} (h : isName (.str z) = true) : isPl z = true ∨ isSt z = true := by
  unfold isName at h
  rw [Bool.or_eq_true] at h
  exact h
theorem znw (w n : Str) (s : Sy) : (Sy.qu w n s).depth = s.depth + 1 ∧ (Sy.qu w n s).parts = s.parts + 1 := ⟨rfl, rfl⟩
end SS
namespace L2
open PySem PySem.Spec PyProof.Rows
section
variable {P : Program} {w : World} {A : Around} {E : Value → Shared → Prop} {s : Shared}
theorem zd1 {j t : Addr} {k : Nat} {its : Array Value} {y : Value} {Q : Value → Shared → Prop} (st : s.heap.IsTupleIter j t k) (tp : s.heap.IsTuple t its) (hy : its[k]? = some y)
    (q : ∀ h', h'.IsTupleIter j t (k + 1) → Heap.SameBut j s.heap h' → Q y { s with heap := h' }) : wpAny (model P w) A (Builtin.SmallTypes.nextOf (.ref j)) Q E s := by
  obtain ⟨oj, gj, cj, dj⟩ := id st
  obtain ⟨ot, gt, _, nt, dt⟩ := tp
  unfold Builtin.SmallTypes.nextOf
  refine wpAny_bind (wpAny_callSpecial?_slot (name := Str.ofString "__next__") st.typeIs F.slot_tuple_iterator_next (wpAny_call_entry F.slot_tuple_iterator_next st.typeIs F.entry_tuple_iterator_next ?_ (F.args_tuple_iterator_next_1 _)))
  show wpAny _ _ (field (.ref j) 0 >>= _) _ _ s
  refine wpAny_bind (wpAny_field gj dj (x := .ref t) rfl ?_)
  show wpAny _ _ (if (Value.ref t == Value.none) = true then _ else _) _ _ s
  rw [if_neg (show ¬ (Value.ref t == Value.none) = true from Bool.false_ne_true)]
  show wpAny _ _ (field (.ref j) 1 >>= _) _ _ s
  refine wpAny_bind (wpAny_field gj dj (x := .int k 0) rfl ?_)
  show wpAny _ _ (seqItems? (.ref t) >>= _) _ _ s
  refine wpAny_bind (wpAny_seqItems gt dt ?_)
  simp only [Int.toNat_natCast, hy]
  refine wpAny_bind (wpAny_setField gj dj (by simp) (wpAny_pure ⟨y, rfl, wpAny_pure (q _ ?_ (Heap.SameBut.update ..))⟩))
  exact ⟨_, Heap.get?_update_self _ gj (Obj.isFreed_of_fields (Obj.data_mapFields dj _)), (Obj.cls_mapFields ..).trans cj, by rw [Obj.data_mapFields dj]; simp [rawInt]⟩
theorem zjc {j t : Addr} {k : Nat} {its : Array Value} {Q : Value → Shared → Prop} (hh : A.handled = none) (st : s.heap.IsTupleIter j t k) (tp : s.heap.IsTuple t its) (hy : its[k]? = none)
    (q : ∀ h' e, Heap.ExtBut j s.heap h' → (∃ o, h'.get? e = some o ∧ o.cls = .type "StopIteration") → E (.ref e) { s with heap := h' }) : wpAny (model P w) A (Builtin.SmallTypes.nextOf (.ref j)) Q E s := by
  obtain ⟨oj, gj, cj, dj⟩ := id st
  obtain ⟨ot, gt, _, nt, dt⟩ := tp
  unfold Builtin.SmallTypes.nextOf
  refine wpAny_bind (wpAny_callSpecial?_slot (name := Str.ofString "__next__") st.typeIs F.slot_tuple_iterator_next (wpAny_call_entry F.slot_tuple_iterator_next st.typeIs F.entry_tuple_iterator_next ?_ (F.args_tuple_iterator_next_1 _)))
  show wpAny _ _ (field (.ref j) 0 >>= _) _ _ s
  refine wpAny_bind (wpAny_field gj dj (x := .ref t) rfl ?_)
  show wpAny _ _ (if (Value.ref t == Value.none) = true then _ else _) _ _ s
  rw [if_neg (show ¬ (Value.ref t == Value.none) = true from Bool.false_ne_true)]
  show wpAny _ _ (field (.ref j) 1 >>= _) _ _ s
  refine wpAny_bind (wpAny_field gj dj (x := .int k 0) rfl ?_)
  show wpAny _ _ (seqItems? (.ref t) >>= _) _ _ s
  refine wpAny_bind (wpAny_seqItems gt dt ?_)
  simp only [Int.toNat_natCast, hy]
  refine wpAny_bind (wpAny_rule (wpAny_bind (wpAny_setField gj dj (by simp) ?_)))
  show wpAny _ _ (newExc (.type "StopIteration") [] >>= _) _ _ _
  refine wpAny_bind ?_
  simp only [newExc, newTuple]
  refine wpAny_bind (wpAny_newObj_type ?_ (by size_fits))
  refine wpAny_bind (m := firstArgMember _ _) (wpAny_of_eq (a := Value.none) (by simp only [firstArgMember]; rfl) ?_)
  refine wpAny_newObj_type ?_ (by size_fits)
  simp only [raiseNew]
  refine wpAny_bind (wpAny_handled ?_)
  rw [show A.in1.handled = none from hh]
  refine wpAny_bind (wpAny_pure (wpAny_throw (q _ _ (((Heap.SameBut.update ..).extBut.push _).push _) ⟨_, Heap.get?_push_size _ rfl, rfl⟩)))
end
structure ZipT (h : Heap) (z ti ro j1 j2 t1 t2 : Addr) (f0 : Value) (i : Nat) : Prop where
  z : IsZip h z ti ro f0
  ti : IsPair h ti (.ref j1) (.ref j2)
  ro : ∃ a b, IsPair h ro a b
  j1 : h.IsTupleIter j1 t1 i
  j2 : h.IsTupleIter j2 t2 i
section
variable {P : Program} {w : World} {A : Around} {E : Value → Shared → Prop} {s : Shared} {z ti ro j1 j2 t1 t2 : Addr} {i : Nat} {its1 its2 : Array Value}
theorem zol {x y : Value} {Q : Option Value → Shared → Prop} (D : ZipApart z ti ro j1 j2 t1 t2) (Z : ZipT s.heap z ti ro j1 j2 t1 t2 .none i) (p1 : s.heap.IsTuple t1 its1) (p2 : s.heap.IsTuple t2 its2) (hx : its1[i]? = some x) (hy : its2[i]? = some y)
    (q : ∀ h', ZipT h' z ti ro j1 j2 t1 t2 (rawInt s.heap.objs.size) (i + 1) → IsPair h' s.heap.objs.size x y → h'.objs.size = s.heap.objs.size + 1 → (∀ c o, c ≠ z → c ≠ ro → c ≠ j1 → c ≠ j2 → s.heap.get? c = some o → h'.get? c = some o) →
      Q (some (.ref s.heap.objs.size)) { s with heap := h' }) : wpAny (model P w) A (pyNext (.ref z)) Q E s := by
  have hT : s.TypeIs (.ref z) "zip" := ⟨_, Z.z, rfl⟩
  obtain ⟨a, b, hro⟩ := Z.ro
  unfold pyNext
  refine wpAny_bind (wpAny_attempt (wpAny_callSpecial?_slot (name := Str.ofString "__next__") hT F.slot_zip_next (wpAny_call_entry F.slot_zip_next hT F.entry_zip_next ?_ (F.args_zip_next_1 _))))
  show wpAny _ _ (field (.ref z) 2 >>= _) _ _ _
  refine wpAny_bind (wpAny_field Z.z rfl (x := .bool false) rfl ?_)
  show wpAny _ _ (field (.ref z) 3 >>= _) _ _ _
  refine wpAny_bind (wpAny_field Z.z rfl (x := .ref ti) rfl ?_)
  refine wpAny_bind (wpAny_seqItems Z.ti rfl ?_)
  show wpAny _ _ (Builtin.SmallTypes.ownedTupleIsFree (.ref z) >>= _) _ _ _
  refine wpAny_bind ?_
  unfold Builtin.SmallTypes.ownedTupleIsFree
  refine wpAny_bind (wpAny_field Z.z rfl (x := .none) rfl (wpAny_pure ?_))
  simp only [if_true]
  refine wpAny_bind (wpAny_rule ?_)
  refine wpAny_bind (wpAny_field Z.z rfl (x := .ref ro) rfl ?_)
  refine wpAny_bind (wpAny_setField_rec Z.z (by simp) fun ha hza hsa => ?_)
  replace hza : IsZip ha z ti ro .ellipsis := hza
  refine wpAny_bind ?_
  simp only [List.zipIdx_cons, List.zipIdx_nil, List.forIn_cons, List.forIn_nil]
  refine wpAny_bind (wpAny_bind (wpAny_onRaise ?_))
  show wpAny _ _ (Builtin.SmallTypes.nextOf (.ref j1) >>= _) _ _ _
  refine wpAny_bind (zd1 (Z.j1.extBut hsa.extBut D.i1z) (p1.extBut hsa.extBut D.l1z) hx fun hb b1 hsb => wpAny_pure ?_)
  have rob : IsPair hb ro a b := hsb.extBut _ _ D.TOi1 (hsa.extBut _ _ D.TOz hro)
  refine wpAny_bind (wpAny_seqItems rob rfl ?_)
  refine wpAny_bind (wpAny_updateSeq_pair rob fun hc roc hsc => ?_)
  replace roc : IsPair hc ro x b := roc
  refine wpAny_bind (wpAny_letGo (wpAny_pure ?_))
  refine wpAny_bind (wpAny_bind (wpAny_onRaise ?_))
  show wpAny _ _ (Builtin.SmallTypes.nextOf (.ref j2) >>= _) _ _ _
  refine wpAny_bind (zd1 (((Z.j2.extBut hsa.extBut D.i2z).extBut hsb.extBut D.i12.symm).extBut hsc.extBut D.TOi2.symm) (((p2.extBut hsa.extBut D.l2z).extBut hsb.extBut D.l2i1).extBut hsc.extBut D.l2TO) hy fun hd d2 hsd => wpAny_pure ?_)
  have rod : IsPair hd ro x b := hsd.extBut _ _ D.TOi2 roc
  refine wpAny_bind (wpAny_seqItems rod rfl ?_)
  refine wpAny_bind (wpAny_updateSeq_pair rod fun he roe hse => ?_)
  replace roe : IsPair he ro x y := roe
  refine wpAny_bind (wpAny_letGo (wpAny_pure (wpAny_pure ?_)))
  refine wpAny_bind (wpAny_seqItems roe rfl ?_)
  refine wpAny_bind (wpAny_newTuple ?_)
  have sz : he.objs.size = s.heap.objs.size := by rw [hse.1, hsd.1, hsc.1, hsb.1, hsa.1]
  have ze : IsZip he z ti ro .ellipsis := hse.extBut _ _ D.TOz.symm (hsd.extBut _ _ D.i2z.symm (hsc.extBut _ _ D.TOz.symm (hsb.extBut _ _ D.i1z.symm hza)))
  have ke : ∀ c o, c ≠ z → c ≠ ro → c ≠ j1 → c ≠ j2 → s.heap.get? c = some o → he.get? c = some o := fun c o c1 c2 c3 c4 e =>
    hse.extBut _ _ c2 (hsd.extBut _ _ c4 (hsc.extBut _ _ c2 (hsb.extBut _ _ c3 (hsa.extBut _ _ c1 e))))
  have e1 : he.IsTupleIter j1 t1 (i + 1) := ((b1.extBut hsc.extBut D.TOi1.symm).extBut hsd.extBut D.i12).extBut hse.extBut D.TOi1.symm
  have e2 : he.IsTupleIter j2 t2 (i + 1) := d2.extBut hse.extBut D.TOi2.symm
  have zlt : z < he.objs.size := Heap.lt_size ze
  show wpAny _ _ (Builtin.SmallTypes.ownedTupleHandOut (.ref z) (.ref he.objs.size) >>= _) _ _ _
  refine wpAny_bind ?_
  unfold Builtin.SmallTypes.ownedTupleHandOut
  have zf : IsZip (he.push { cls := .type "tuple", data := .seq #[x, y] }) z ti ro .ellipsis := Heap.get?_push_of_some _ ze
  refine wpAny_bind (wpAny_setField_rec zf (by simp) fun hg zg hsg => ?_)
  replace zg : IsZip hg z ti ro (rawInt he.objs.size) := zg
  refine wpAny_setField_rec zg (by simp) fun hk zk hsk => ?_
  replace zk : IsZip hk z ti ro (rawInt he.objs.size) := zk
  have up : ∀ c o, c ≠ z → he.get? c = some o → hk.get? c = some o := fun c o c1 e => hsk.extBut _ _ c1 (hsg.extBut _ _ c1 (Heap.get?_push_of_some _ e))
  have tk : IsPair hk he.objs.size x y := hsk.extBut _ _ (Nat.ne_of_gt zlt) (hsg.extBut _ _ (Nat.ne_of_gt zlt) (Heap.get?_push_size _ rfl))
  have zk8 : hk.objs.size = he.objs.size + 1 := by rw [hsk.1, hsg.1, Heap.size_push]
  rw [sz] at zk tk zk8
  refine wpAny_pure ⟨_, rfl, wpAny_pure ?_⟩
  show Q (some (.ref he.objs.size)) _
  rw [sz]
  exact q hk ⟨zk, up _ _ D.TIz (ke _ _ D.TIz D.TITO D.TIi1 D.TIi2 Z.ti), ⟨_, _, up _ _ D.TOz roe⟩, e1.at fun o e => up _ o D.i1z e, e2.at fun o e => up _ o D.i2z e⟩ tk zk8 fun c o c1 c2 c3 c4 e => up c o c1 (ke c o c1 c2 c3 c4 e)
theorem zqf {Q : Option Value → Shared → Prop} (hh : A.handled = none) (D : ZipApart z ti ro j1 j2 t1 t2) (Z : ZipT s.heap z ti ro j1 j2 t1 t2 .none i) (p1 : s.heap.IsTuple t1 its1) (p2 : s.heap.IsTuple t2 its2) (hx : its1[i]? = none)
    (q : ∀ h', (∀ c o, c ≠ z → c ≠ ro → c ≠ j1 → c ≠ j2 → s.heap.get? c = some o → h'.get? c = some o) → Q none { s with heap := h' }) : wpAny (model P w) A (pyNext (.ref z)) Q E s := by
  have hT : s.TypeIs (.ref z) "zip" := ⟨_, Z.z, rfl⟩
  unfold pyNext
  refine wpAny_bind (wpAny_attempt (wpAny_callSpecial?_slot (name := Str.ofString "__next__") hT F.slot_zip_next (wpAny_call_entry F.slot_zip_next hT F.entry_zip_next ?_ (F.args_zip_next_1 _))))
  show wpAny _ _ (field (.ref z) 2 >>= _) _ _ _
  refine wpAny_bind (wpAny_field Z.z rfl (x := .bool false) rfl ?_)
  show wpAny _ _ (field (.ref z) 3 >>= _) _ _ _
  refine wpAny_bind (wpAny_field Z.z rfl (x := .ref ti) rfl ?_)
  refine wpAny_bind (wpAny_seqItems Z.ti rfl ?_)
  show wpAny _ _ (Builtin.SmallTypes.ownedTupleIsFree (.ref z) >>= _) _ _ _
  refine wpAny_bind ?_
  unfold Builtin.SmallTypes.ownedTupleIsFree
  refine wpAny_bind (wpAny_field Z.z rfl (x := .none) rfl (wpAny_pure ?_))
  simp only [if_true]
  refine wpAny_bind (wpAny_rule ?_)
  refine wpAny_bind (wpAny_field Z.z rfl (x := .ref ro) rfl ?_)
  refine wpAny_bind (wpAny_setField_rec Z.z (by simp) fun ha hza hsa => ?_)
  replace hza : IsZip ha z ti ro .ellipsis := hza
  refine wpAny_bind ?_
  simp only [List.zipIdx_cons, List.zipIdx_nil, List.forIn_cons, List.forIn_nil]
  refine wpAny_bind (wpAny_bind (wpAny_onRaise ?_))
  show wpAny _ _ (Builtin.SmallTypes.nextOf (.ref j1) >>= _) _ _ _
  refine wpAny_bind (zjc hh (Z.j1.extBut hsa.extBut D.i1z) (p1.extBut hsa.extBut D.l1z) hx fun hb e hsb ⟨oe, ge, ce⟩ => ?_)
  have zb : IsZip hb z ti ro .ellipsis := hsb _ _ D.i1z.symm hza
  have nez : e ≠ z := fun z' => by
    subst z'
    rw [zb] at ge
    cases ge
    simp at ce
  refine wpAny_setField_rec zb (by simp) fun hc _ hsc => ?_
  refine wpAny_bind (wpAny_isInstance (T := "StopIteration") (b := true) ⟨oe, hsc.extBut _ _ nez ge, ce⟩ isSubtype_stop ?_)
  exact wpAny_pure (q _ fun c o c1 _ c3 _ x => hsc.extBut _ _ c1 (hsb _ _ c3 (hsa.extBut _ _ c1 x)))
end
abbrev zt1 (h : Heap) (a : Addr) : Heap := h.push { cls := .type "tuple_iterator", data := .fields #[.ref a, .int 0 0] }
abbrev zt2 (h : Heap) (a b : Addr) : Heap := (zt1 h a).push { cls := .type "tuple_iterator", data := .fields #[.ref b, .int 0 0] }
abbrev zt3 (h : Heap) (a b : Addr) : Heap := (zt2 h a b).push { cls := .type "tuple", data := .seq #[.ref h.objs.size, .ref (zt1 h a).objs.size] }
abbrev zt4 (h : Heap) (a b : Addr) : Heap := (zt3 h a b).push { cls := .type "tuple", data := .seq #[.none, .none] }
abbrev zt5 (h : Heap) (a b : Addr) : Heap := (zt4 h a b).push { cls := .type "zip", data := .fields #[.none, .bool false, .bool false, .ref (zt2 h a b).objs.size, .ref (zt3 h a b).objs.size] }
theorem zqe (a b : Addr) (xs ys : Array Value) : Meets (Builtin.«zip.__new__» ⟨[.type "zip", .ref a, .ref b], []⟩) (fun _ R s => s.heap.IsTuple a xs ∧ s.heap.IsTuple b ys ∧ R (.ok (.ret (.ref (zt4 s.heap a b).objs.size))) { s with heap := zt5 s.heap a b }) :=
  .of_wp fun prog w A R s h => by
    obtain ⟨hp, g, d, tk, os⟩ := s
    obtain ⟨ha, hb, h⟩ := h
    have hsub := sub_zip
    have hA : Heap.IsTuple (Shared.heap ⟨hp, g, d, tk, os⟩) a xs := ha
    have hB : Heap.IsTuple (Shared.heap ⟨hp.push { cls := .type "tuple_iterator", data := .fields #[.ref a, .int 0 0] }, g, d, tk, os⟩) b ys := by
      obtain ⟨o, e, r⟩ := hb
      exact ⟨o, Heap.get?_push_of_some _ e, r⟩
    wp_walk using wpAny_pyIter_tuple hA, wpAny_pyIter_tuple hB
    exact ⟨_, rfl, h⟩
section
variable {P : Program} {w : World} {A : Around} {E : Value → Shared → Prop} {s : Shared}
theorem zom {a b : Addr} {xs ys : Array Value} {Q : Value → Shared → Prop} (ha : s.heap.IsTuple a xs) (hb : s.heap.IsTuple b ys)
    (q : ∀ h', ZipT h' (s.heap.objs.size + 4) (s.heap.objs.size + 2) (s.heap.objs.size + 3) s.heap.objs.size (s.heap.objs.size + 1) a b .none 0 → h'.objs.size = s.heap.objs.size + 5 → (∀ c o, s.heap.get? c = some o → h'.get? c = some o) → Q (.ref (s.heap.objs.size + 4)) { s with heap := h' }) :
    wpAny (model P w) A (call (.type "zip") [.ref a, .ref b]) Q E s := by
  refine callType_new F.called_zip (by decide) (F.typeCall_zip_2 _ _) (F.newCall_zip_2 _ _) (fun obj => F.args_object_init_3 obj _ _) F.entry_zip_new (zqe a b xs ys) ⟨ha, hb, ?_⟩
  have s1 : (zt1 s.heap a).objs.size = s.heap.objs.size + 1 := Heap.size_push ..
  have s2 : (zt2 s.heap a b).objs.size = s.heap.objs.size + 2 := by rw [Heap.size_push, s1]
  have s3 : (zt3 s.heap a b).objs.size = s.heap.objs.size + 3 := by rw [Heap.size_push, s2]
  have s4 : (zt4 s.heap a b).objs.size = s.heap.objs.size + 4 := by rw [Heap.size_push, s3]
  have s5 : (zt5 s.heap a b).objs.size = s.heap.objs.size + 5 := by rw [Heap.size_push, s4]
  have k5 : (zt5 s.heap a b).get? (zt4 s.heap a b).objs.size = some _ := Heap.get?_push_size _ rfl
  have k4 : (zt5 s.heap a b).get? (zt3 s.heap a b).objs.size = some _ := Heap.get?_push_of_some _ (Heap.get?_push_size _ rfl)
  have k3 : (zt5 s.heap a b).get? (zt2 s.heap a b).objs.size = some _ := Heap.get?_push_of_some _ (Heap.get?_push_of_some _ (Heap.get?_push_size _ rfl))
  have k2 : (zt5 s.heap a b).get? (zt1 s.heap a).objs.size = some _ := Heap.get?_push_of_some _ (Heap.get?_push_of_some _ (Heap.get?_push_of_some _ (Heap.get?_push_size _ rfl)))
  have k1 : (zt5 s.heap a b).get? s.heap.objs.size = some _ := Heap.get?_push_of_some _ (Heap.get?_push_of_some _ (Heap.get?_push_of_some _ (Heap.get?_push_of_some _ (Heap.get?_push_size _ rfl))))
  rw [s2, s3, s4] at k5
  rw [s1, s2] at k3
  rw [s3] at k4
  rw [s1] at k2
  show _ ∧ _
  rw [s4]
  exact ⟨⟨_, k5, rfl⟩, q _ ⟨k5, k3, ⟨_, _, k4⟩, ⟨_, k1, rfl, rfl⟩, ⟨_, k2, rfl, rfl⟩⟩ s5 fun c o x => Heap.get?_push_of_some _ (Heap.get?_push_of_some _ (Heap.get?_push_of_some _ (Heap.get?_push_of_some _ (Heap.get?_push_of_some _ x))))⟩
end
section
variable {X : Cx} {pins : List (Addr × Obj)} {σ : St} {H : Hp} {s : Shared} {h' : Heap}
theorem Inv.turnedL {t' : Nat} {L : List Addr} (I : Inv X pins σ H s) (k : ∀ b o, b ∉ L → s.heap.get? b = some o → h'.get? b = some o) (hL : ∀ b ∈ L, FpOk X pins H b) : Inv X pins σ H { s with heap := h', toks := t' } := by
  have no : ∀ b u, H b = some u → b ∉ L := fun b u e z => by rw [(hL b z).1] at e; cases e
  refine I.step (g' := s.gens) (d' := s.drawn) (ch := L) (fun b hb => ?_) (fun b o _ _ hc e _ => k b o hc e) (fun b o _ _ hc e _ => ⟨o.slots, k b o hc e⟩) (fun _ _ _ _ n => n)
    (fun b o hc e => ⟨o, k b o hc e⟩) (fun _ _ e => e) (fun _ _ _ e => e) (fun _ _ _ e => e) (fun m hm => ?_) (fun b u e => ?_) I.bare
  · obtain ⟨_, f1, _, f3, f4, f5⟩ := hL b hb
    exact ⟨f3, f1, f4, f5⟩
  · obtain ⟨o, es, ep, ho, r⟩ := hm
    exact ⟨o, es, ep, k _ o (fun z => (hL _ z).2.1 rfl) ho, r⟩
  · refine (I.hok b u e).stay (fun c v hc q => k c v ?_ q) (fun _ q => q) (fun _ _ _ _ _ q => q) fun _ _ q => q
    rcases hc with z | z
    · rw [z]; exact no b u e
    · exact no c _ z
theorem Inv.turnedNew {t' : Nat} {L : List Addr} {p : Addr} {o : HO} (I : Inv X pins σ H s) (k : ∀ b u, b ∉ L → s.heap.get? b = some u → h'.get? b = some u) (hL : ∀ b ∈ L, FpOk X pins H b) (hp : s.heap.objs.size ≤ p) (new : ObjOk X.prog X.w (upd H p o) h' p o)
    (hl : ∀ b ∈ L, ∃ u, h'.get? b = some u) : Inv X pins σ (upd H p o) { s with heap := h', toks := t' } := by
  have hn : H p = none := I.hok.fresh hp
  have no : ∀ b u, H b = some u → b ∉ L := fun b u e z => by rw [(hL b z).1] at e; cases e
  have ne : ∀ b u, H b = some u → upd H p o b = some u := fun b u e => by rw [zam (zaq e hn)]; exact e
  refine I.step (g' := s.gens) (d' := s.drawn) (ch := L) (fun b hb => ?_) (fun b u _ _ hc e _ => k b u hc e) (fun b u _ _ hc e _ => ⟨u.slots, k b u hc e⟩) (fun b u _ e z => ?_)
    (fun b u hc e => ⟨u, k b u hc e⟩) (fun b xs e => ne b _ e) (fun b ob u e => ne b _ e) (fun b _ _ e => ne b _ e) (fun m hm => ?_) (fun b u e => ?_) I.bare
  · obtain ⟨_, f1, _, f3, f4, f5⟩ := hL b hb
    exact ⟨f3, f1, f4, f5⟩
  · rw [zam (Nat.ne_of_lt (Nat.lt_of_lt_of_le (Heap.lt_size e) hp))]; exact z
  · obtain ⟨ob, es, ep, ho, r⟩ := hm
    exact ⟨ob, es, ep, k _ ob (fun z => (hL _ z).2.1 rfl) ho, r⟩
  · by_cases hb : b = p
    · subst hb; rw [zap] at e; cases e; exact new
    · rw [zam hb] at e
      refine (I.hok b u e).stay (fun c v hc q => k c v ?_ q) (fun c q => ne c _ q) (fun c _ _ _ _ q => ne c _ q) fun c xs q => ne c _ q
      rcases hc with z | z
      · rw [z]; exact no b u e
      · exact no c _ z
end
def Itz (K : PySem.W.Frag) (a b : Addr) : It :=
  ⟨fun i H => ∃ xs ys x y, SqT K H a xs ∧ SqT K H b ys ∧ xs[i]? = some x ∧ ys[i]? = some y,
   fun i H v H' => ∃ p x y, v = .ref p ∧ New H p (.tup [x, y]) H' ∧ (∀ xs, SqT K H a xs → xs[i]? = some x) ∧ ∀ ys, SqT K H b ys → ys[i]? = some y,
   fun i H => ∃ xs ys, SqT K H a xs ∧ SqT K H b ys ∧ xs.length ≤ i⟩
theorem zmi {P : Program} {w : World} {K : PySem.W.Frag} {elts : List Expr} {x1} {tpos : Pos} (z ti ro j1 j2 a b : Addr) (D : ZipApart z ti ro j1 j2 a b) :
    Turn P w K (.Tuple elts x1 tpos) (Itz K a b) [z, ti, ro, j1, j2] z (fun i h => ZipT h z ti ro j1 j2 a b .none i) where
  mem := by simp
  obj := fun i h st c hc => by
    obtain ⟨u, v, hro⟩ := st.ro
    obtain ⟨o1, e1, c1, d1⟩ := st.j1
    obtain ⟨o2, e2, c2, d2⟩ := st.j2
    simp only [List.mem_cons, List.not_mem_nil, or_false] at hc
    rcases hc with rfl | rfl | rfl | rfl | rfl
    · exact ⟨_, st.z, fun v q => nomatch q⟩
    · exact ⟨_, st.ti, fun v q => nomatch q⟩
    · exact ⟨_, hro, fun v q => nomatch q⟩
    · exact ⟨_, e1, fun v q => by rw [d1] at q; cases q⟩
    · exact ⟨_, e2, fun v q => by rw [d2] at q; cases q⟩
  keep := fun i h h' st k => by
    obtain ⟨u, v, hro⟩ := st.ro
    exact ⟨k z (by simp) _ st.z, k ti (by simp) _ st.ti, ⟨u, v, k ro (by simp) _ hro⟩, st.j1.at fun o e => k j1 (by simp) o e, st.j2.at fun o e => k j2 (by simp) o e⟩
  item := by
    intro X hP hw hK hc i pins s σ H E I hf st hg
    subst hP hw hK
    obtain ⟨xs, ys, x, y, hx, hy, ex, ey⟩ := hg
    obtain ⟨its1, r1, p1, _⟩ := I.tuple hx
    obtain ⟨its2, r2, p2, _⟩ := I.tuple hy
    obtain ⟨u, hu, ru⟩ := r1.get ex
    obtain ⟨v, hv, rv⟩ := r2.get ey
    have fz := hf z (by simp)
    refine zol D st (show s.heap.IsTuple a its1.toArray from p1) (show s.heap.IsTuple b its2.toArray from p2) (x := u) (y := v) (by simpa using hu) (by simpa using hv) fun h1 Z1 q1 sz1 k1 => ⟨_, rfl, ?_⟩
    refine wpAny_letOwnedTupleGo_zip Z1.z fun h2 z2 sb2 => ?_
    have hlt : ∀ c ∈ [z, ti, ro, j1, j2], c ≠ s.heap.objs.size := fun c hc => by
      obtain ⟨o, e, _⟩ : ∃ o, s.heap.get? c = some o ∧ True := by
        obtain ⟨u', v', hro⟩ := st.ro
        obtain ⟨o1, e1, _⟩ := st.j1
        obtain ⟨o2, e2, _⟩ := st.j2
        simp only [List.mem_cons, List.not_mem_nil, or_false] at hc
        rcases hc with rfl | rfl | rfl | rfl | rfl
        · exact ⟨_, st.z, trivial⟩
        · exact ⟨_, st.ti, trivial⟩
        · exact ⟨_, hro, trivial⟩
        · exact ⟨_, e1, trivial⟩
        · exact ⟨_, e2, trivial⟩
      exact Nat.ne_of_lt (Heap.lt_size e)
    have k2 : ∀ c o, c ∉ [z, ti, ro, j1, j2] → s.heap.get? c = some o → h2.get? c = some o := fun c o hc e => by
      have hz : c ≠ z := fun q => hc (by simp [q])
      exact sb2.extBut _ _ hz (k1 c o hz (fun q => hc (by simp [q])) (fun q => hc (by simp [q])) (fun q => hc (by simp [q])) e)
    have tup2 : h2.get? s.heap.objs.size = some { cls := .type "tuple", data := .seq #[u, v] } := sb2.extBut _ _ (Ne.symm (hlt z (by simp))) q1
    have st2 : ZipT h2 z ti ro j1 j2 a b .none (i + 1) := by
      obtain ⟨u', v', hro⟩ := Z1.ro
      exact ⟨z2, sb2.extBut _ _ D.TIz Z1.ti, ⟨u', v', sb2.extBut _ _ D.TOz hro⟩, Z1.j1.extBut sb2.extBut D.i1z, Z1.j2.extBut sb2.extBut D.i2z⟩
    have there : ∀ c ∈ [z, ti, ro, j1, j2], ∃ o, h2.get? c = some o := fun c hc => by
      obtain ⟨u', v', hro⟩ := st2.ro
      obtain ⟨o1, e1, _⟩ := st2.j1
      obtain ⟨o2, e2, _⟩ := st2.j2
      simp only [List.mem_cons, List.not_mem_nil, or_false] at hc
      rcases hc with rfl | rfl | rfl | rfl | rfl
      · exact ⟨_, st2.z⟩
      · exact ⟨_, st2.ti⟩
      · exact ⟨_, hro⟩
      · exact ⟨_, e1⟩
      · exact ⟨_, e2⟩
    have I2 : Inv X pins σ (upd H s.heap.objs.size (.tup [x, y])) { s with heap := h2, toks := s.toks } := I.turnedNew k2 hf (Nat.le_refl _) ⟨zaa (by simp), [u, v], .cons ru (.cons rv .nil), ⟨_, tup2, rfl, _, rfl⟩⟩ there
    refine ⟨.ref s.heap.objs.size, _, I2, rfl, ⟨_, x, y, rfl, .mk' I.fresh _, fun ws hw => by rw [I.tuple_inj hw hx]; exact ex, fun ws hw => by rw [I.tuple_inj hw hy]; exact ey⟩, st2, fun c hc => ?_⟩
    rw [zam (hlt c hc)]
    exact (hf c hc).1
  done := by
    intro X hP hw hK hc i pins s σ H E I hf st hg
    subst hP hw hK
    obtain ⟨xs, ys, hx, hy, hl⟩ := hg
    obtain ⟨its1, r1, p1, _⟩ := I.tuple hx
    obtain ⟨its2, r2, p2, _⟩ := I.tuple hy
    have l1 := r1.length
    exact zqf (I.ok.hd hc) D st (show s.heap.IsTuple a its1.toArray from p1) (show s.heap.IsTuple b its2.toArray from p2) (by simp; omega) fun h' k => ⟨rfl, I.turnedL (t' := s.toks) (fun c o hc e => k c o (fun q => hc (by simp [q])) (fun q => hc (by simp [q])) (fun q => hc (by simp [q])) (fun q => hc (by simp [q])) e) hf⟩
  self := fun _ _ _ _ _ st h => wpAny_pyIter_zip st.z h
def iZip (K : PySem.W.Frag) (ta : TA) : TI := fun σ H R => ta σ H fun vs H1 => ∃ a b, vs = [.ref a, .ref b] ∧ (∃ xs, SqT K H1 a xs) ∧ (∃ ys, SqT K H1 b ys) ∧ R (Itz K a b) H1
theorem zqm {X : Cx} {elts : List Expr} {x1} {tpos : Pos} {a b : Expr} {ta : TA} {p pos : Pos} (hg : Gl X "zip") (hm : X.mg "zip" = none) (ha : PA X [a, b] ta) (h1 : notStar a = true := by rfl) (h2 : notStar b = true := by rfl) : PI X (.Tuple elts x1 tpos) (.Call (.Name "zip" p) [a, b] [] pos) (iZip X.K ta) := by
  intro pins s σ H R I h
  have hs2 : starEach [b] X.env = [(false, eval b X.env)] := by rw [za9 h2, starEach.eq_def]
  have hs : starEach [a, b] X.env = [(false, eval a X.env), (false, eval b X.env)] := by rw [za9 h1, hs2]
  refine Call_ (zex I hg hm boot_zip (PyProof.Rows.callWith_type1 (thn (ha pos pins s σ H _ I h) fun us s1 ⟨vs, H1, I1, r1, q1⟩ => ?_) (by rw [hs, hs2]) (by rw [hs2]; rfl)))
  obtain ⟨p1, p2, e, ⟨xs, hx⟩, ⟨ys, hy⟩, q⟩ := q1
  subst e
  obtain ⟨u, v, rfl, ru, rv⟩ := vals2 r1
  cases (show u = Value.ref p1 from ru)
  cases (show v = Value.ref p2 from rv)
  obtain ⟨its1, _, t1, _⟩ := I1.tuple hx
  obtain ⟨its2, _, t2, _⟩ := I1.tuple hy
  have l1 : p1 < s1.heap.objs.size := by obtain ⟨_, e, _⟩ := t1; exact Heap.lt_size e
  have l2 : p2 < s1.heap.objs.size := by obtain ⟨_, e, _⟩ := t2; exact Heap.lt_size e
  refine zom (show s1.heap.IsTuple p1 its1.toArray from t1) (show s1.heap.IsTuple p2 its2.toArray from t2) fun h' Z sz k => wpAny_pyIter_zip Z.z ?_
  refine ⟨_, [s1.heap.objs.size + 4, s1.heap.objs.size + 2, s1.heap.objs.size + 3, s1.heap.objs.size, s1.heap.objs.size + 1], _, _, H1, rfl, I1.kept (t' := s1.toks) k, zmi _ _ _ _ _ p1 p2 (zipApart_new l1 l2), Z, fun c hc => ?_, q⟩
  have hle : s1.heap.objs.size ≤ c := by
    simp only [List.mem_cons, List.not_mem_nil, or_false] at hc
    rcases hc with rfl | rfl | rfl | rfl | rfl
    · exact Nat.le_add_right _ _
    · exact Nat.le_add_right _ _
    · exact Nat.le_add_right _ _
    · exact Nat.le_refl _
    · exact Nat.le_add_right _ _
  exact I1.fpOk hle (I1.hok.fresh hle)
theorem zo8 {X : Cx} (K : PySem.W.Frag) {elts : List Expr} {x1} {tpos : Pos} {a b : Expr} {ta : TA} {p pos : Pos} (hg : Gl X "zip") (hm : X.mg "zip" = none) (ha : PA X [a, b] ta) (h : X.K = K := by rfl) (h1 : notStar a = true := by rfl) (h2 : notStar b = true := by rfl) :
    PI X (.Tuple elts x1 tpos) (.Call (.Name "zip" p) [a, b] [] pos) (iZip K ta) := h ▸ zqm hg hm ha h1 h2
theorem zkh {X : Cx} (K : PySem.W.Frag) {es : List Expr} {k : Nat} {t : TGs} {n : Nat} {pos : Pos} (hc : X.calm = true) (h : PGs X es t) (hK : X.K = K := by rfl)
    (hn : (assignEach es X.env).length = n := by rfl) (hst : (assignEach es X.env).findIdx? (·.1) = none := by rfl) : PG X (.Tuple es k pos) (gTup K n t) := hK ▸ zqp hc h hn hst
section
variable {tn : List Str} {cp : List (Nat × Str)} {g : TG} {tif : TT} {te : TE} {σ0 : St} {Q : VK} {H1 : Hp} {K : PySem.W.Frag} {a b : Addr} {xs ys : List V}
theorem zre (S : St → Prop) (f : Nat → V) (hn : xs.length ≤ 1000) (hl : xs.length = ys.length) (ha : SqT K H1 a xs) (hb : SqT K H1 b ys) (h0 : S (stB tn cp σ0))
    (hs : ∀ D i σ H H' p x y, xs[i]? = some x → ys[i]? = some y → Same H1 H → H1 D = none → H D = some (.lst ((List.range i).map f)) → S σ → New H p (.tup [x, y]) H' → g (.ref p) σ H' fun σ2 H2 => tif σ2 H2 fun c H3 =>
      if c = true then te σ2 H3 fun v H4 => CStep D xs.length i (fun i ws σ H => Same H1 H ∧ S σ ∧ ws = (List.range i).map f) σ2 v H4 else CSkip D xs.length i (fun i ws σ H => Same H1 H ∧ S σ ∧ ws = (List.range i).map f) σ2 H3)
    (hd : ∀ D H, H1 D = none → Same H1 H → H D = some (.lst ((List.range xs.length).map f)) → Q (.ref D) H) : cBody tn cp g tif te σ0 Q (Itz K a b) H1 := by
  refine zl7 xs.length (fun D i ws σ H => Same H1 H ∧ S σ ∧ ws = (List.range i).map f) (zaa hn) (fun D hD => ⟨zbg hD _, h0, rfl⟩) (fun D i ws σ H hD hi hH p => ⟨xs, ys, xs[i], ys[i], p.1.seqT ha, p.1.seqT hb, by simp [hi], by simp [hl ▸ hi]⟩)
    (fun D ws σ H hD hH p => ⟨xs, ys, p.1.seqT ha, p.1.seqT hb, Nat.le_refl _⟩) ?_ ?_
  · rintro D i ws σ H v H' hD hi hH hlw ⟨p1, p2, rfl⟩ ⟨p, x, y, rfl, nw, ex, ey⟩
    exact hs D i σ H H' p x y (ex _ (p1.seqT ha)) (ey _ (p1.seqT hb)) p1 hD hH p2 nw
  · rintro D ws σ H hD hH hlw ⟨p1, p2, rfl⟩
    exact hd D H hD p1 hH
theorem zhi {S : St → Prop} {f : Nat → V} {D : Addr} {i : Nat} {v : V} {σ2 : St} {H4 : Hp} (hn : xs.length ≤ 1000) (hi : i < xs.length) (hD : H1 D = none) (h4 : H4 D = some (.lst ((List.range i).map f))) (g4 : Same H1 H4) (s2 : S σ2) (e : v = f i) :
    CStep D xs.length i (fun i ws σ H => Same H1 H ∧ S σ ∧ ws = (List.range i).map f) σ2 v H4 := by
  refine cstep (zaa hn) hi h4 (by rw [List.length_map, List.length_range]; exact Nat.le_refl _) ⟨g4.wr hD _, s2, ?_⟩
  rw [List.range_succ, List.map_append, e]
  rfl
end
def DctK (K : PySem.W.Frag) (w : World) (a : Addr) (f : Str → Option V) : Prop := (a == sysModules) = false ∧ ∃ (es : Array DictEntry) (n : Nat), K.lookup a = some ⟨.type "dict", none, .dict es n, #[]⟩ ∧ PySem.W.KeysLit w.params es.toList ∧ ∀ x, RelO (f x) (findBy Value.isStrOf es x)
section
variable {X : Cx} (K : PySem.W.Frag) (w : World)
def rInD (neg : Bool) : R2 := fun x y H Q => ∃ z a f, x = .str z ∧ y = .ref a ∧ DctK K w a f ∧ Q (.bl (if neg then !(f z).isSome else (f z).isSome)) H
theorem zgc (hK : X.K = K := by rfl) (hw : X.w = w := by rfl) : OpR X (compareOp .NotIn) (rInD K w true) := by
  subst hK hw
  intro pins s σ H x y v u Q I rx ry h
  obtain ⟨z, a, f, rfl, rfl, ⟨lo, es, n, hl, hk, hr⟩, q⟩ := h
  obtain ⟨t, rfl⟩ := rx
  cases (show u = Value.ref a from ry)
  refine wpAny_notIn_of (strKind_is X.prog X.w z t) lo (PySem.W.mapOf_K (prog := X.prog) I.kIn hl hk) ?_
  rw [← (hr z).isSome_eq]
  exact ⟨.bl _, H, I.tok _, rfl, q⟩
def rIxD : R2 := fun x y H Q => ∃ a z f v, x = .ref a ∧ y = .str z ∧ DctK K w a f ∧ f z = some v ∧ Q v H
theorem zq8 (hK : X.K = K := by rfl) (hw : X.w = w := by rfl) : IxR X (rIxD K w) := by
  subst hK hw
  intro value slice pins s σ H x y v u Q I rx ry h hs
  obtain ⟨a, z, f, r, rfl, rfl, ⟨lo, es, n, hl, hk, hr⟩, e, q⟩ := h
  cases (show v = Value.ref a from rx)
  obtain ⟨t, rfl⟩ := ry
  have hm := PySem.W.mapOf_K (prog := X.prog) I.kIn hl hk
  obtain ⟨w', hw', rw'⟩ := RelO.some_of (v := r) (o := findBy Value.isStrOf es z) (by rw [← e]; exact hr z)
  exact tail_any hm.typeIs slot_dict_getitem.lookup (wpAny_getItem_of (strKind_is X.prog X.w z t) hm hw' ⟨r, H, I.tok _, rw', q⟩) hs
end
section
variable {tn : List Str} {cp : List (Nat × Str)} {g : TG} {tif : TT} {te : TE} {σ0 : St} {Q : VK} {H1 : Hp} {K : PySem.W.Frag} {a : Addr} {xs : List V}
theorem zl5 (S : St → Prop) (f : Nat → V) (hn : xs.length ≤ 1000) (hS : SqL K H1 a xs) (h0 : S (stB tn cp σ0))
    (hs : ∀ D i σ H x, i < xs.length → xs[i]? = some x → Same H1 H → H1 D = none → H D = some (.lst ((List.range i).map f)) → S σ → g x σ H fun σ2 H2 => tif σ2 H2 fun c H3 =>
      if c = true then te σ2 H3 fun v H4 => CStep D xs.length i (fun i ws σ H => Same H1 H ∧ S σ ∧ ws = (List.range i).map f) σ2 v H4 else CSkip D xs.length i (fun i ws σ H => Same H1 H ∧ S σ ∧ ws = (List.range i).map f) σ2 H3)
    (hd : ∀ D H, H1 D = none → Same H1 H → H D = some (.lst ((List.range xs.length).map f)) → Q (.ref D) H) : cBody tn cp g tif te σ0 Q (Itl K a) H1 := by
  refine zhk (K := K) (a := a) (xs := xs) (fun D i ws σ H => Same H1 H ∧ S σ ∧ ws = (List.range i).map f) (zaa hn) (fun D hD => ⟨zbg hD _, h0, rfl⟩) (fun D i ys σ H _ _ _ p => p.1.seq hS) ?_ ?_
  · rintro D i ys σ H x hD hi hx hH hl ⟨p1, p2, rfl⟩
    exact hs D i σ H x hi hx p1 hD hH p2
  · rintro D ys σ H hD hH hl ⟨p1, p2, rfl⟩
    exact hd D H hD p1 hH
end
end L2
namespace SS
open PySem PySem.Spec PyProof.Rows L2
def forms : List (Str × List Str) := [("in", ["place", "set"]), ("same", ["place", "place"]), ("within", ["set", "set"]), ("ahead", ["place", "place"]), ("next", ["place", "place"]), ("left", ["place", "place"]), ("right", ["place", "place"]), ("above", ["place", "place"]),
  ("not", ["saying"]), ("and", ["saying", "saying"]), ("or", ["saying", "saying"]), ("some", ["name", "saying"]), ("all", ["name", "saying"])]
def sortB (form : V → Bool) (x : V) (s : Str) : Bool := if s = "place" then isNm x SMALL else if s = "set" then isNm x GREAT else if s = "name" then isName x else form x
def zipB (form : V → Bool) : List V → List Str → Bool
  | [], [] => true
  | x :: xs, s :: ss => sortB form x s && zipB form xs ss
  | _, _ => false
def formH (H : Hp) : Nat → V → Bool
  | 0, _ => false
  | n + 1, .ref a => match H a with
    | some (.tup (.str w :: r)) => match forms.lookup w with
      | some ss => zipB (formH H n) r ss
      | none => false
    | _ => false
  | _ + 1, _ => false
def Exp (H : Hp) : Nat → V → Prop
  | 0, v => Thing H v
  | n + 1, v => Thing H v ∧ ∀ a xs, v = .ref a → H a = some (.tup xs) → xs.length ≤ 1000 ∧ ∀ x ∈ xs, Exp H n x
theorem Exp.thing {H : Hp} : ∀ {n : Nat} {v : V}, Exp H n v → Thing H v
  | 0, _, h => h
  | _ + 1, _, h => h.1
theorem Thing.same_tup {H H' : Hp} {a : Addr} {xs : List V} (h : Thing H (.ref a)) (g : Same H H') (e : H' a = some (.tup xs)) : H a = some (.tup xs) := by
  obtain ⟨⟨k, hk⟩, _⟩ := h
  cases hk with
  | lst z => rw [g _ _ z] at e; cases e
  | tup z => rw [g _ _ z] at e; cases e; exact z
  | dK z => rw [g _ _ z] at e; cases e
theorem Exp.same {H H' : Hp} (g : Same H H') : ∀ {n : Nat} {v : V}, Exp H n v → Exp H' n v
  | 0, _, h => Thing.same h g
  | n + 1, v, h => ⟨h.1.same g, fun a xs ev e => by
    subst ev
    obtain ⟨h1, h2⟩ := h.2 a xs rfl (h.1.same_tup g e)
    exact ⟨h1, fun x hx => (h2 x hx).same g⟩⟩
theorem zel {f g : V → Bool} : ∀ {xs : List V} {ss : List Str}, (∀ x ∈ xs, f x = g x) → zipB f xs ss = zipB g xs ss
  | [], [], _ => rfl
  | [], _ :: _, _ => rfl
  | _ :: _, [], _ => rfl
  | x :: xs, s :: ss, h => by
    show (sortB f x s && zipB f xs ss) = (sortB g x s && zipB g xs ss)
    rw [zel fun y hy => h y (List.mem_cons_of_mem _ hy)]
    unfold sortB
    rw [h x List.mem_cons_self]
theorem zc3 {H H' : Hp} (g : Same H H') : ∀ {n : Nat} {v : V}, Exp H n v → formH H' n v = formH H n v
  | 0, _, _ => rfl
  | n + 1, v, h => by
    cases v with
    | ref a =>
      obtain ⟨⟨k, hk⟩, _⟩ := h.1
      cases hk with
      | lst z => simp only [formH, z, g _ _ z]
      | dK z => simp only [formH, z, g _ _ z]
      | tup z =>
        rename_i xs
        have hx := (h.2 a xs rfl z).2
        simp only [formH, z, g _ _ z]
        cases xs with
        | nil => rfl
        | cons x r =>
          cases x with
          | str wd =>
            simp only []
            cases forms.lookup wd with
            | none => rfl
            | some ss => exact zel fun y hy => zc3 g (hx y (List.mem_cons_of_mem _ hy))
          | _ => rfl
    | _ => rfl
theorem zhs {f : V → Bool} : ∀ {xs : List V} {ss : List Str}, xs.length ≠ ss.length → zipB f xs ss = false
  | [], [], h => absurd rfl h
  | [], _ :: _, _ => rfl
  | _ :: _, [], _ => rfl
  | x :: xs, s :: ss, h => by
    show (sortB f x s && zipB f xs ss) = false
    rw [zhs fun z => h (congrArg (· + 1) z), Bool.and_false]
theorem zek {f : V → Bool} : ∀ {xs : List V} {ss : List Str}, xs.length = ss.length → zipB f xs ss = (List.range xs.length).all fun i => sortB f (xs.getD i .non) (ss.getD i "")
  | [], [], _ => rfl
  | [], _ :: _, h => nomatch h
  | _ :: _, [], h => nomatch h
  | x :: xs, s :: ss, h => by
    show (sortB f x s && zipB f xs ss) = _
    rw [zek (Nat.succ.inj h), List.length_cons, List.range_succ_eq_map, List.all_cons, List.all_map]
    rfl
def ze6 (n : Nat) : Sp := fun vs H Q _ => ∃ v, vs = [v, .int n] ∧ Exp H n v ∧ ∀ H', Same H H' → Q (.bl (formH H n v)) H'
def zgx (n : Nat) : Sp := fun vs H Q _ => ∃ v s, vs = [v, .str s, .int n] ∧ Exp H n v ∧ ∀ H', Same H H' → Q (.bl (sortB (formH H n) v s)) H'
def sp_sort' : Nat → Sp
  | 0 => fun _ _ _ _ => False
  | n + 1 => zgx n
def wfB : Sy → Bool
  | .bare w n m => if w = "in" then isPl n && isSt m else if w = "within" then isSt n && isSt m else isPl n && isPl m
  | .neg s => wfB s
  | .two _ s t => wfB s && wfB t
  | .qu _ n s => isName (.str n) && wfB s
def letB (barred : List Str) (most : Nat) : List Str → Sy → Bool
  | known, .bare w n m => decide (known.length ≤ most) && decide (w ∉ barred) && (decide (n ∈ known) && decide (m ∈ known))
  | known, .neg s => decide (known.length ≤ most) && decide (("not" : Str) ∉ barred) && letB barred most known s
  | known, .two w s t => decide (known.length ≤ most) && decide (w ∉ barred) && (letB barred most known s && letB barred most known t)
  | known, .qu w n s => decide (known.length ≤ most) && decide (w ∉ barred) && (decide (n ∉ known) && letB barred most (known ++ [n]) s)
theorem Rep.det {H : Hp} {v : V} {s t : Sy} (r : Rep H v s) (q : Rep H v t) : s = t := by
  induction r generalizing t with
  | bare hw e =>
    cases q with
    | bare hw' e' => rw [e] at e'; cases e'; rfl
    | neg e' _ => rw [e] at e'; cases e'
    | two hw' e' h1 _ => rw [e] at e'; cases e'; cases h1
    | qu hw' e' h1 => rw [e] at e'; cases e'; cases h1
  | neg e _ ih =>
    cases q with
    | bare hw' e' => rw [e] at e'; cases e'
    | neg e' h' => rw [e] at e'; cases e'; rw [ih h']
    | two hw' e' _ _ => rw [e] at e'; cases e'
    | qu hw' e' _ => rw [e] at e'; cases e'
  | two hw e h1 h2 ih1 ih2 =>
    cases q with
    | bare hw' e' => rw [e] at e'; cases e'; cases h1
    | neg e' _ => rw [e] at e'; cases e'
    | two hw' e' a b => rw [e] at e'; cases e'; rw [ih1 a, ih2 b]
    | qu hw' e' b => rw [e] at e'; cases e'; cases h1
  | qu hw e h ih =>
    cases q with
    | bare hw' e' => rw [e] at e'; cases e'; cases h
    | neg e' _ => rw [e] at e'; cases e'
    | two hw' e' a b => rw [e] at e'; cases e'; cases a
    | qu hw' e' b => rw [e] at e'; cases e'; rw [ih b]
end SS
set_option maxHeartbeats 1000000
namespace SS
open PySem PySem.Spec PyProof.Rows L2
section
variable {f : V → Bool} {x y : V} {r : List V} {s1 s2 : Str}
theorem zdt : sortB f x "place" = isNm x SMALL := if_pos rfl
theorem zds : sortB f x "set" = isNm x GREAT := by unfold sortB; rw [if_neg (by decide +kernel), if_pos rfl]
theorem zj5 : sortB f x "name" = isName x := by unfold sortB; rw [if_neg (by decide +kernel), if_neg (by decide +kernel), if_pos rfl]
theorem zcb : sortB f x "saying" = f x := by unfold sortB; rw [if_neg (by decide +kernel), if_neg (by decide +kernel), if_neg (by decide +kernel)]
theorem zip_one : zipB f r [s1] = true ↔ ∃ x, r = [x] ∧ sortB f x s1 = true := by
  cases r with
  | nil => simp [zipB]
  | cons x r =>
    cases r with
    | nil => simp [zipB]
    | cons y r => simp [zipB]
theorem zip_two : zipB f r [s1, s2] = true ↔ ∃ x y, r = [x, y] ∧ sortB f x s1 = true ∧ sortB f y s2 = true := by
  cases r with
  | nil => simp [zipB]
  | cons x r =>
    cases r with
    | nil => simp [zipB]
    | cons y r =>
      cases r with
      | nil =>
        rw [show zipB f [x, y] [s1, s2] = (sortB f x s1 && (sortB f y s2 && true)) from rfl, Bool.and_true, Bool.and_eq_true]
        exact ⟨fun h => ⟨x, y, rfl, h⟩, fun ⟨x', y', e, h⟩ => by cases e; exact h⟩
      | cons z r => simp [zipB]
theorem zet {l : Str} (h : isNm x l = true) : ∃ z, x = .str z := by
  cases x with
  | str z => exact ⟨z, rfl⟩
  | _ => cases h
end
theorem znr {wd : Str} {ss : List Str} (h : forms.lookup wd = some ss) : (wd = "in" ∧ ss = (["place", "set"] : List Str)) ∨ (wd = "within" ∧ ss = (["set", "set"] : List Str)) ∨ (wd ∈ bareWords ∧ ¬ wd = ("in" : Str) ∧ ¬ wd = ("within" : Str) ∧ ss = (["place", "place"] : List Str)) ∨
    (wd = "not" ∧ ss = (["saying"] : List Str)) ∨ (wd ∈ (["and", "or"] : List Str) ∧ ss = (["saying", "saying"] : List Str)) ∨ (wd ∈ (["some", "all"] : List Str) ∧ ss = (["name", "saying"] : List Str)) := by
  have m := mem_of_lookup' h
  simp only [forms, List.mem_cons, List.not_mem_nil, or_false, Prod.mk.injEq] at m
  rcases m with ⟨rfl, rfl⟩ | ⟨rfl, rfl⟩ | ⟨rfl, rfl⟩ | ⟨rfl, rfl⟩ | ⟨rfl, rfl⟩ | ⟨rfl, rfl⟩ | ⟨rfl, rfl⟩ | ⟨rfl, rfl⟩ | ⟨rfl, rfl⟩ | ⟨rfl, rfl⟩ | ⟨rfl, rfl⟩ | ⟨rfl, rfl⟩ | ⟨rfl, rfl⟩
  · exact .inl ⟨rfl, rfl⟩
  · exact .inr (.inr (.inl ⟨by decide +kernel, by decide +kernel, by decide +kernel, rfl⟩))
  · exact .inr (.inl ⟨rfl, rfl⟩)
  · exact .inr (.inr (.inl ⟨by decide +kernel, by decide +kernel, by decide +kernel, rfl⟩))
  · exact .inr (.inr (.inl ⟨by decide +kernel, by decide +kernel, by decide +kernel, rfl⟩))
  · exact .inr (.inr (.inl ⟨by decide +kernel, by decide +kernel, by decide +kernel, rfl⟩))
  · exact .inr (.inr (.inl ⟨by decide +kernel, by decide +kernel, by decide +kernel, rfl⟩))
  · exact .inr (.inr (.inl ⟨by decide +kernel, by decide +kernel, by decide +kernel, rfl⟩))
  · exact .inr (.inr (.inr (.inl ⟨rfl, rfl⟩)))
  · exact .inr (.inr (.inr (.inr (.inl ⟨by decide +kernel, rfl⟩))))
  · exact .inr (.inr (.inr (.inr (.inl ⟨by decide +kernel, rfl⟩))))
  · exact .inr (.inr (.inr (.inr (.inr ⟨by decide +kernel, rfl⟩))))
  · exact .inr (.inr (.inr (.inr (.inr ⟨by decide +kernel, rfl⟩))))
theorem zjp : ∀ wd ∈ bareWords, forms.lookup wd = some (if wd = ("in" : Str) then (["place", "set"] : List Str) else if wd = ("within" : Str) then (["set", "set"] : List Str) else (["place", "place"] : List Str)) := by decide +kernel
theorem zjo : ∀ wd ∈ (["and", "or"] : List Str), forms.lookup wd = some (["saying", "saying"] : List Str) := by decide +kernel
theorem zjn : ∀ wd ∈ (["some", "all"] : List Str), forms.lookup wd = some (["name", "saying"] : List Str) := by decide +kernel
theorem zlh : forms.lookup ("not" : Str) = some (["saying"] : List Str) := by decide +kernel
theorem zb8 {H : Hp} : ∀ {n : Nat} {v : V}, formH H n v = true → ∃ s, Rep H v s ∧ wfB s = true ∧ s.depth ≤ n
  | 0, _, h => by cases h
  | n + 1, v, h => by
    cases v with
    | ref a =>
      simp only [formH] at h
      split at h
      · rename_i wd r e
        split at h
        · rename_i ss hs
          rcases znr hs with ⟨rfl, rfl⟩ | ⟨rfl, rfl⟩ | ⟨hw, n1, n2, rfl⟩ | ⟨rfl, rfl⟩ | ⟨hw, rfl⟩ | ⟨hw, rfl⟩
          · obtain ⟨x, y, rfl, h1, h2⟩ := zip_two.mp h
            rw [zdt] at h1
            rw [zds] at h2
            obtain ⟨z1, rfl⟩ := zet h1
            obtain ⟨z2, rfl⟩ := zet h2
            refine ⟨.bare "in" z1 z2, .bare (by decide +kernel) e, ?_, Nat.succ_le_succ (Nat.zero_le _)⟩
            show (if _ then _ else _) = true
            rw [if_pos rfl, Bool.and_eq_true]
            exact ⟨h1, h2⟩
          · obtain ⟨x, y, rfl, h1, h2⟩ := zip_two.mp h
            rw [zds] at h1 h2
            obtain ⟨z1, rfl⟩ := zet h1
            obtain ⟨z2, rfl⟩ := zet h2
            refine ⟨.bare "within" z1 z2, .bare (by decide +kernel) e, ?_, Nat.succ_le_succ (Nat.zero_le _)⟩
            show (if _ then _ else if _ then _ else _) = true
            rw [if_neg (by decide +kernel), if_pos rfl, Bool.and_eq_true]
            exact ⟨h1, h2⟩
          · obtain ⟨x, y, rfl, h1, h2⟩ := zip_two.mp h
            rw [zdt] at h1 h2
            obtain ⟨z1, rfl⟩ := zet h1
            obtain ⟨z2, rfl⟩ := zet h2
            refine ⟨.bare wd z1 z2, .bare hw e, ?_, Nat.succ_le_succ (Nat.zero_le _)⟩
            show (if _ then _ else if _ then _ else _) = true
            rw [if_neg n1, if_neg n2, Bool.and_eq_true]
            exact ⟨h1, h2⟩
          · obtain ⟨x, rfl, h1⟩ := zip_one.mp h
            rw [zcb] at h1
            obtain ⟨s, r, w1, d1⟩ := zb8 h1
            exact ⟨.neg s, .neg e r, w1, Nat.succ_le_succ d1⟩
          · obtain ⟨x, y, rfl, h1, h2⟩ := zip_two.mp h
            rw [zcb] at h1 h2
            obtain ⟨s, r, w1, d1⟩ := zb8 h1
            obtain ⟨t, q, w2, d2⟩ := zb8 h2
            refine ⟨.two wd s t, .two hw e r q, ?_, Nat.succ_le_succ (Nat.max_le.mpr ⟨d1, d2⟩)⟩
            show (wfB s && wfB t) = true
            rw [w1, w2]
            rfl
          · obtain ⟨x, y, rfl, h1, h2⟩ := zip_two.mp h
            rw [zj5] at h1
            rw [zcb] at h2
            obtain ⟨z1, rfl⟩ := zc2 h1
            obtain ⟨t, q, w2, d2⟩ := zb8 h2
            refine ⟨.qu wd z1 t, .qu hw e q, ?_, Nat.succ_le_succ d2⟩
            show (isName _ && wfB t) = true
            rw [h1, w2]
            rfl
        · cases h
      · cases h
    | _ => cases h
theorem zh9 {H : Hp} {v : V} {s : Sy} (r : Rep H v s) : ∀ {n : Nat}, wfB s = true → s.depth ≤ n → formH H n v = true := by
  induction r with
  | bare hw e =>
    rename_i a wd n1 m1
    intro n h d
    cases n with
    | zero => exact absurd d (by show ¬ 1 ≤ 0; decide)
    | succ n =>
      simp only [formH, e, zjp wd hw]
      by_cases c1 : wd = ("in" : Str)
      · rw [if_pos c1]
        have h' : (isPl n1 && isSt m1) = true := by have z : (if _ then _ else _) = true := h; rw [if_pos c1] at z; exact z
        rw [Bool.and_eq_true] at h'
        exact zip_two.mpr ⟨_, _, rfl, by rw [zdt]; exact h'.1, by rw [zds]; exact h'.2⟩
      · rw [if_neg c1]
        by_cases c2 : wd = ("within" : Str)
        · rw [if_pos c2]
          have h' : (isSt n1 && isSt m1) = true := by have z : (if _ then _ else if _ then _ else _) = true := h; rw [if_neg c1, if_pos c2] at z; exact z
          rw [Bool.and_eq_true] at h'
          exact zip_two.mpr ⟨_, _, rfl, by rw [zds]; exact h'.1, by rw [zds]; exact h'.2⟩
        · rw [if_neg c2]
          have h' : (isPl n1 && isPl m1) = true := by have z : (if _ then _ else if _ then _ else _) = true := h; rw [if_neg c1, if_neg c2] at z; exact z
          rw [Bool.and_eq_true] at h'
          exact zip_two.mpr ⟨_, _, rfl, by rw [zdt]; exact h'.1, by rw [zdt]; exact h'.2⟩
  | neg e _ ih =>
    intro n h d
    cases n with
    | zero => exact absurd d (Nat.not_succ_le_zero _)
    | succ n =>
      simp only [formH, e, zlh]
      exact zip_one.mpr ⟨_, rfl, by rw [zcb]; exact ih h (Nat.le_of_succ_le_succ d)⟩
  | two hw e _ _ ih1 ih2 =>
    rename_i s t _ _
    intro n h d
    cases n with
    | zero => exact absurd d (Nat.not_succ_le_zero _)
    | succ n =>
      have d' := Nat.max_le.mp (Nat.le_of_succ_le_succ d)
      have h' : (wfB s && wfB t) = true := h
      rw [Bool.and_eq_true] at h'
      simp only [formH, e, zjo _ hw]
      exact zip_two.mpr ⟨_, _, rfl, by rw [zcb]; exact ih1 h'.1 d'.1, by rw [zcb]; exact ih2 h'.2 d'.2⟩
  | qu hw e _ ih =>
    rename_i nm _ s _
    intro n h d
    cases n with
    | zero => exact absurd d (Nat.not_succ_le_zero _)
    | succ n =>
      have h' : (isName (.str nm) && wfB s) = true := h
      rw [Bool.and_eq_true] at h'
      simp only [formH, e, zjn _ hw]
      exact zip_two.mpr ⟨_, _, rfl, by rw [zj5]; exact h'.1, by rw [zcb]; exact ih h'.2 (Nat.le_of_succ_le_succ d)⟩
def zdl (n : Nat) : Sp := fun vs H Q _ => ∃ v s, vs = [v] ∧ Rep H v s ∧ s.depth < n ∧ ∀ H', Same H H' → Q (.int s.parts) H'
def AnySay (H : Hp) (v : V) (s : Sy) : Prop := Rep H v s ∧ wfB s = true ∧ s.depth ≤ 12 ∧ s.parts ≤ 60
def zf2 : Sp := fun vs H Q _ => ∃ v, vs = [v] ∧ Exp H 12 v ∧ ∀ b H', Same H H' → (b = true ↔ ∃ s, AnySay H v s) → Q (.bl b) H'
def zfz (K : PySem.W.Frag) (bw : List Str) (n : Nat) : Sp := fun vs H Q _ => ∃ v a ba s tl mo, vs = [v, .ref a, .ref ba, .int (mo : Nat)] ∧ Rep H v s ∧ s.depth < n ∧ H a = some (.lst (List.map V.str tl)) ∧ tl.length + s.depth ≤ 300 ∧ (∀ H, SqT K H ba (bw.map V.str)) ∧ ∀ H', Same H H' → Q (.bl (letB bw mo tl s)) H'
def SayOk (H : Hp) (bw : List Str) (mo : Nat) (v fv : V) : Prop := ∃ a tl s, fv = .ref a ∧ H a = some (.lst (List.map V.str tl)) ∧ frameB (List.map V.str tl) = true ∧ AnySay H v s ∧ letB bw mo tl s = true
def zh7 (bw : List Str) (mo : Nat) : Sp := fun vs H Q _ => ∃ v fv, vs = [v, fv] ∧ Exp H 12 v ∧ Thing H fv ∧ (∀ a xs, fv = .ref a → H a = some (.lst xs) → Things H xs) ∧ ∀ b H', Same H H' → (b = true ↔ SayOk H bw mo v fv) → Q (.bl b) H'
structure Forms (K : PySem.W.Frag) (w : World) (fa : Addr) : Prop where
  ex : ∃ f, DctK K w fa f ∧ ∀ x, (∃ ss b, forms.lookup x = some ss ∧ f x = some (.ref b) ∧ ∀ H, SqT K H b (List.map V.str ss)) ∨ (forms.lookup x = none ∧ f x = none)
def wordOf : Sy → Str
  | .bare w _ _ => w
  | .neg _ => "not"
  | .two w _ _ => w
  | .qu w _ _ => w
def letR (barred : List Str) (most : Nat) (known : List Str) : Sy → Bool
  | .bare _ n m => decide (n ∈ known) && decide (m ∈ known)
  | .neg s => letB barred most known s
  | .two _ s t => letB barred most known s && letB barred most known t
  | .qu _ n s => decide (n ∉ known) && letB barred most (known ++ [n]) s
theorem zpu (bw : List Str) (mo : Nat) (tl : List Str) (s : Sy) : letB bw mo tl s = (decide (tl.length ≤ mo) && decide (wordOf s ∉ bw) && letR bw mo tl s) := by cases s <;> rfl
theorem zjh {bw : List Str} {mo : Nat} {tl : List Str} {s : Sy} (nq : ∀ w n t, s ≠ .qu w n t) (hb : s.isBare = false) : letR bw mo tl s = s.inner.all (letB bw mo tl) := by
  cases s with
  | bare w n m => cases hb
  | neg s => simp [Sy.inner, letR]
  | two w s t => simp [Sy.inner, letR]
  | qu w n t => exact absurd rfl (nq w n t)
theorem zb6 {f : Sy → Bool} : ∀ (l : List Sy), ((List.range l.length).map fun i => ((l[i]?).map f).getD true).all id = l.all f
  | [] => rfl
  | x :: r => by
    rw [List.length_cons, List.range_succ_eq_map, List.map_cons, List.map_map, List.all_cons, List.all_cons, ← zb6 r]
    rfl
theorem zeu : ∀ {xs : List V}, xs.all isName = true → ∃ tl : List Str, xs = tl.map V.str
  | [], _ => ⟨[], rfl⟩
  | x :: r, h => by
    rw [List.all_cons, Bool.and_eq_true] at h
    obtain ⟨z, rfl⟩ := zc2 h.1
    obtain ⟨tl, e⟩ := zeu h.2
    exact ⟨z :: tl, by rw [List.map_cons, ← e]⟩
theorem zra {H : Hp} {x : V} (h : frB H x = true) : ∃ a tl, x = .ref a ∧ H a = some (.lst (List.map V.str tl)) ∧ frameB (List.map V.str tl) = true ∧ tl.length ≤ 4 := by
  cases x with
  | ref a =>
    simp only [frB] at h
    split at h
    · rename_i xs e
      have h' := h
      unfold frameB at h'
      rw [Bool.and_eq_true, Bool.and_eq_true, decide_eq_true_eq] at h'
      obtain ⟨tl, rfl⟩ := zeu h'.1.2
      exact ⟨a, tl, rfl, e, h, by have := h'.1.1; rw [List.length_map] at this; exact this⟩
    · cases h
  | _ => cases h
open L2
theorem zhw : ∀ {a b : List PySem.Str}, a.map V.str = b.map V.str → a = b
  | [], [], _ => rfl
  | [], _ :: _, h => by cases h
  | _ :: _, [], h => by cases h
  | x :: a, y :: b, h => by
    rw [List.map_cons, List.map_cons, List.cons.injEq] at h
    rw [V.str.inj h.1, zhw h.2]
inductive Lit where
  | str (z : Str)
  | oth
  | tnil
  | tcons (x r : Lit)
  deriving DecidableEq
def Oth (H : Hp) (v : V) : Prop := ∃ k, Kd H v k ∧ k ≠ "str" ∧ k ≠ "tuple"
def LitAt (H : Hp) : Lit → V → Prop
  | .str z, v => v = .str z ∧ z.length ≤ 1000
  | .oth, v => Oth H v
  | .tnil, v => ∃ a, v = .ref a ∧ H a = some (.tup [])
  | .tcons x r, v => ∃ a y ys, v = .ref a ∧ H a = some (.tup (y :: ys)) ∧ ys.length ≤ 100 ∧ LitAt H x y ∧ Items H r ys
where Items (H : Hp) : Lit → List V → Prop
  | .tcons x r, ys => ∃ z zs, ys = z :: zs ∧ LitAt H x z ∧ Items H r zs
  | .tnil, ys => ys = []
  | _, _ => False
abbrev Items := LitAt.Items
theorem Oth.same {H H' : Hp} {v : V} (g : Same H H') (h : Oth H v) : Oth H' v := let ⟨k, z, r⟩ := h; ⟨k, z.same g, r⟩
mutual
theorem LitAt.same {H H' : Hp} (g : Same H H') : ∀ {l : Lit} {v : V}, LitAt H l v → LitAt H' l v
  | .str z, _, h => h
  | .oth, _, h => Oth.same g h
  | .tnil, _, ⟨a, e, h⟩ => ⟨a, e, g _ _ h⟩
  | .tcons x r, _, ⟨a, y, ys, e, h, hl, h1, h2⟩ => ⟨a, y, ys, e, g _ _ h, hl, LitAt.same g h1, Items.same g h2⟩
theorem Items.same {H H' : Hp} (g : Same H H') : ∀ {l : Lit} {ys : List V}, Items H l ys → Items H' l ys
  | .tcons x r, _, ⟨z, zs, e, h1, h2⟩ => ⟨z, zs, e, LitAt.same g h1, Items.same g h2⟩
  | .tnil, _, h => h
  | .str _, _, h => h
  | .oth, _, h => h
end
theorem LitAt.thing {H : Hp} : ∀ {l : Lit} {v : V}, LitAt H l v → Thing H v
  | .str z, _, ⟨e, h⟩ => by subst e; exact .str h
  | .oth, v, ⟨k, h, h1, _⟩ => ⟨⟨k, h⟩, fun z e => by subst e; cases h; exact absurd rfl h1⟩
  | .tnil, _, ⟨a, e, h⟩ => by subst e; exact .tup h
  | .tcons x r, _, ⟨a, y, ys, e, h, _, _, _⟩ => by subst e; exact .tup h
mutual
theorem LitAt.exp {H : Hp} : ∀ (n : Nat) {l : Lit} {v : V}, LitAt H l v → Exp H n v
  | 0, _, _, h => h.thing
  | n + 1, .str z, _, h => ⟨h.thing, fun a xs e _ => by rw [h.1] at e; cases e⟩
  | n + 1, .oth, v, h => ⟨h.thing, fun a xs e e' => by
    subst e
    obtain ⟨k, hk, _, h2⟩ := h
    exact absurd (hk.inj (.tup e')) h2⟩
  | n + 1, .tnil, _, h => ⟨h.thing, fun a xs e e' => by
    obtain ⟨a', e1, e2⟩ := h
    rw [e] at e1
    cases e1
    rw [e2] at e'
    cases e'
    exact ⟨Nat.zero_le _, fun x hx => nomatch hx⟩⟩
  | n + 1, .tcons x r, _, h => ⟨h.thing, fun a xs e e' => by
    obtain ⟨a', y, ys, e1, e2, hl, h1, h2⟩ := h
    rw [e] at e1
    cases e1
    rw [e2] at e'
    cases e'
    refine ⟨by rw [List.length_cons]; omega, fun x' hx => ?_⟩
    rcases List.mem_cons.mp hx with rfl | hx
    · exact LitAt.exp n h1
    · exact Items.exp n h2 x' hx⟩
theorem Items.exp {H : Hp} : ∀ (n : Nat) {l : Lit} {ys : List V}, Items H l ys → ∀ y ∈ ys, Exp H n y
  | n, .tcons x r, _, ⟨z, zs, e, h1, h2⟩, y, hy => by
    subst e
    rcases List.mem_cons.mp hy with rfl | hy
    · exact LitAt.exp n h1
    · exact Items.exp n h2 y hy
  | n, .tnil, _, h, y, hy => by rw [show _ = [] from h] at hy; exact nomatch hy
  | n, .str _, _, h, y, hy => False.elim h
  | n, .oth, _, h, y, hy => False.elim h
end
theorem zdd {z l : Str} (h : isNm (.str z) l = true) : z.length ≤ 4 := by
  obtain ⟨c, r, e, hl, _⟩ := zrn h
  rw [zjw, e, List.length_cons]
  omega
theorem zng {z : Str} (h : isName (.str z) = true) : z.length ≤ 4 := (zjd h).elim zdd zdd
theorem zgv : ∀ w ∈ bareWords, w.length ≤ 1000 := by decide +kernel
theorem zmf {w n m : Str} (h : wfB (.bare w n m) = true) : n.length ≤ 4 ∧ m.length ≤ 4 := by
  have h' : (if w = ("in" : Str) then isPl n && isSt m else if w = ("within" : Str) then isSt n && isSt m else isPl n && isPl m) = true := h
  split at h'
  · rw [Bool.and_eq_true] at h'; exact ⟨zdd h'.1, zdd h'.2⟩
  · split at h'
    · rw [Bool.and_eq_true] at h'; exact ⟨zdd h'.1, zdd h'.2⟩
    · rw [Bool.and_eq_true] at h'; exact ⟨zdd h'.1, zdd h'.2⟩
theorem Exp.str {H : Hp} {z : Str} (h : z.length ≤ 1000) : ∀ n, Exp H n (.str z)
  | 0 => Thing.str h
  | n + 1 => ⟨Thing.str h, fun a xs e => by cases e⟩
theorem Exp.tup {H : Hp} {a : Addr} {xs : List V} {n : Nat} (e : H a = some (.tup xs)) (hl : xs.length ≤ 1000) (h : ∀ x ∈ xs, Exp H n x) : Exp H (n + 1) (.ref a) :=
  ⟨Thing.tup e, fun a' xs' ev e' => by cases ev; rw [e] at e'; cases e'; exact ⟨hl, h⟩⟩
theorem Rep.exp {H : Hp} {v : V} {s : Sy} (r : Rep H v s) : wfB s = true → ∀ n, Exp H n v := by
  induction r with
  | bare hw e =>
    intro h n
    obtain ⟨l1, l2⟩ := zmf h
    cases n with
    | zero => exact Thing.tup e
    | succ n =>
      refine Exp.tup e (by simp) fun x hx => ?_
      simp only [List.mem_cons, List.not_mem_nil, or_false] at hx
      rcases hx with rfl | rfl | rfl
      · exact Exp.str (zgv _ hw) n
      · exact Exp.str (by omega) n
      · exact Exp.str (by omega) n
  | neg e _ ih =>
    intro h n
    cases n with
    | zero => exact Thing.tup e
    | succ n =>
      refine Exp.tup e (by simp) fun x hx => ?_
      simp only [List.mem_cons, List.not_mem_nil, or_false] at hx
      rcases hx with rfl | rfl
      · exact Exp.str (by decide +kernel) n
      · exact ih h n
  | two hw e _ _ ih1 ih2 =>
    rename_i w _ _ s t _ _
    intro h n
    have h' : (wfB s && wfB t) = true := h
    rw [Bool.and_eq_true] at h'
    cases n with
    | zero => exact Thing.tup e
    | succ n =>
      refine Exp.tup e (by simp) fun x hx => ?_
      simp only [List.mem_cons, List.not_mem_nil, or_false] at hx
      rcases hx with rfl | rfl | rfl
      · refine Exp.str ?_ n
        have : ∀ w ∈ (["and", "or"] : List Str), w.length ≤ 1000 := by decide +kernel
        exact this w hw
      · exact ih1 h'.1 n
      · exact ih2 h'.2 n
  | qu hw e _ ih =>
    rename_i w nm _ s _
    intro h n
    have h' : (isName (.str nm) && wfB s) = true := h
    rw [Bool.and_eq_true] at h'
    cases n with
    | zero => exact Thing.tup e
    | succ n =>
      refine Exp.tup e (by simp) fun x hx => ?_
      simp only [List.mem_cons, List.not_mem_nil, or_false] at hx
      rcases hx with rfl | rfl | rfl
      · refine Exp.str ?_ n
        have : ∀ w ∈ (["some", "all"] : List Str), w.length ≤ 1000 := by decide +kernel
        exact this w hw
      · exact Exp.str (by have := zng h'.1; omega) n
      · exact ih h'.2 n
theorem zdp {H : Hp} {tl : List Str} (hl : tl.length ≤ 1000) (h : ∀ z ∈ tl, z.length ≤ 1000) : Things H (tl.map V.str) := by
  refine ⟨by rw [List.length_map]; exact hl, fun y hy => ?_⟩
  obtain ⟨z, mz, rfl⟩ := List.mem_map.mp hy
  exact .str (h z mz)
section
variable {K : PySem.W.Frag} {w : World} {h : Heap} {mg : Str → Option Value}
theorem sqt_mk {p : Addr} {od : Option Addr} {its : Array Value} {n : Nat} {sl : Array (Option Value)} {xs : List V} (l : K.lookup p = some ⟨.type "tuple", od, .seq its n, sl⟩) (z : its.size ≤ sizeLine) (r : Vals xs its.toList) : ∀ H, SqT K H p xs :=
  fun H => .inr ⟨_, its, n, l, rfl, rfl, z, r⟩
def Entry (K : PySem.W.Frag) (e : DictEntry) (p : Str × List Str) : Prop := (∃ t, e.key = .str p.1 t) ∧ ∃ b, e.val = .ref b ∧ ∀ H, SqT K H b (List.map V.str p.2)
theorem zb5 : ∀ {es : List DictEntry} {ps : List (Str × List Str)}, Paired (Entry K) es ps → ∀ x, (∃ ss b, ps.lookup x = some ss ∧ findBy Value.isStrOf es.toArray x = some (.ref b) ∧ ∀ H, SqT K H b (List.map V.str ss)) ∨ (ps.lookup x = none ∧ findBy Value.isStrOf es.toArray x = none)
  | _, _, .nil, x => .inr ⟨rfl, by simp [findBy]⟩
  | e :: es, p :: ps, .cons ⟨⟨t, ek⟩, b, ev, hb⟩ r, x => by
    have ih := zb5 r x
    unfold findBy at ih ⊢
    rw [List.find?_toArray] at ih ⊢
    rw [List.lookup_cons, List.find?_cons]
    by_cases h : x = p.1
    · subst h
      have e1 : Value.isStrOf p.1 e.key = true := by rw [ek]; simp [Value.isStrOf]
      rw [e1, beq_self_eq_true]
      exact .inl ⟨_, b, rfl, congrArg some ev, hb⟩
    · have h' : ¬ p.1 = x := fun q => h q.symm
      have e1 : Value.isStrOf x e.key = false := by rw [ek]; simp [Value.isStrOf, h']
      have e2 : (x == p.1) = false := by simp [h]
      rw [e1, e2]
      exact ih
theorem forms_mk {p : Addr} {es : Array DictEntry} {n : Nat} (X : K.In h) (G : h.Ns mainGlobals mg) (a : PySem.W.nsIn K mainGlobals "FORMS" = some (some (.ref p))) (lo : (p == sysModules) = false) (l : K.lookup p = some ⟨.type "dict", none, .dict es n, #[]⟩)
    (hk : PySem.W.KeysLit w.params es.toList) (he : Paired (Entry K) es.toList forms) : ∃ q, GlV mg "FORMS" (.ref q) ∧ Forms K w q := by
  refine ⟨p, ⟨_, PySem.W.mg_of X G a, rfl⟩, ⟨fun x => match findBy Value.isStrOf es x with | some (.ref b) => some (.ref b) | _ => none, ⟨lo, es, n, l, hk, fun x => ?_⟩, fun x => ?_⟩⟩
  · rcases zb5 he x with ⟨ss, b, e1, e2, _⟩ | ⟨e1, e2⟩
    · simp only [e2]; exact rfl
    · simp only [e2]; exact trivial
  · rcases zb5 he x with ⟨ss, b, e1, e2, hb⟩ | ⟨e1, e2⟩
    · exact .inl ⟨ss, b, e1, by simp only [e2], hb⟩
    · exact .inr ⟨e1, by simp only [e2]⟩
end
end SS
namespace L2
open PySem PySem.Spec PyProof.Rows
variable {X : Cx}
section
variable {X : Cx} {k : Nat} {H : Hp} {a b : Addr} {xs ys : List V}
def rEqI (K : PySem.W.Frag) : R2 := fun x y H Q => ∃ (a b : Addr) (xs ys : List Int), x = .ref a ∧ y = .ref b ∧ SqL K H a (xs.map V.int) ∧ SqL K H b (ys.map V.int) ∧ Q (.bl (decide (xs = ys))) H
def rNeI (K : PySem.W.Frag) : R2 := fun x y H Q => ∃ (a b : Addr) (xs ys : List Int), x = .ref a ∧ y = .ref b ∧ SqL K H a (xs.map V.int) ∧ SqL K H b (ys.map V.int) ∧ Q (.bl (!decide (xs = ys))) H
variable (K : PySem.W.Frag)
end
def TupS (H H' : Hp) : Prop := ∀ b xs, H b = some (.tup xs) → H' b = some (.tup xs)
theorem Same.tups {H H' : Hp} (g : Same H H') : TupS H H' := fun b xs e => g b _ e
theorem TupS.refl (H : Hp) : TupS H H := fun _ _ e => e
theorem TupS.trans {H H1 H2 : Hp} (a : TupS H H1) (b : TupS H1 H2) : TupS H H2 := fun c xs e => b c xs (a c xs e)
theorem TupS.wr {H : Hp} {p : Addr} {xs : List V} (h : H p = some (.lst xs)) (o : HO) : TupS H (upd H p o) := fun b ys e => by rw [zam (zei e h (by intro z; cases z))]; exact e
end L2
namespace SM
structure Mc where
  w : Nat
  ways : List (List Nat)
  ends : List Bool
def Mc.fin (m : Mc) (r : Nat) : Bool := m.ends.getD r false
theorem zo7 (n : Nat) : (2 : Int) ^ n = ((2 ^ n : Nat) : Int) := by
  induction n with
  | zero => rfl
  | succ n ih => rw [Int.pow_succ, Nat.pow_succ, ih]; omega
theorem zga {w : Nat} (h : w ≤ 4) : 1 ≤ 2 ^ w ∧ 2 ^ w ≤ 16 := by
  have : w = 0 ∨ w = 1 ∨ w = 2 ∨ w = 3 ∨ w = 4 := by omega
  rcases this with rfl | rfl | rfl | rfl | rfl <;> decide
open PySem PySem.Spec PyProof.Rows L2 SS
abbrev nV (n : Nat) : V := .int (n : Int)
theorem Paired.at2 {α β : Type} {R : α → β → Prop} : ∀ {xs : List α} {ys : List β} {i : Nat} {y : β}, Paired R xs ys → ys[i]? = some y → ∃ x, xs[i]? = some x ∧ R x y
  | _, _, _, _, .nil, h => by simp at h
  | _, _, 0, _, .cons h _, e => by simp at e; subst e; exact ⟨_, rfl, h⟩
  | _, _, i + 1, _, .cons _ h, e => by simp only [List.getElem?_cons_succ] at e ⊢; exact Paired.at2 h e
theorem Paired.snoc {α β : Type} {R : α → β → Prop} : ∀ {xs : List α} {ys : List β} {x : α} {y : β}, Paired R xs ys → R x y → Paired R (xs ++ [x]) (ys ++ [y])
  | _, _, _, _, .nil, h => .cons h .nil
  | _, _, _, _, .cons h t, z => .cons h (Paired.snoc t z)
end SM
namespace L2
open PySem PySem.Spec PyProof.Rows
theorem zq3 {h h' : Heap} {j a : Addr} {i : Nat} (x : h.IsListIter j a i) (k : ∀ o, h.get? j = some o → h'.get? j = some o) : h'.IsListIter j a i := by
  obtain ⟨o, e, r⟩ := x
  exact ⟨o, k o e, r⟩
theorem zq2 {h h' : Heap} {j a b : Addr} {i : Nat} (x : h.IsListIter j a i) (k : Heap.ExtBut b h h') (n : j ≠ b) : h'.IsListIter j a i := zq3 x fun o e => k j o n e
def ItzL (K : PySem.W.Frag) (a b : Addr) : It :=
  ⟨fun i H => ∃ xs ys x y, SqL K H a xs ∧ SqT K H b ys ∧ xs[i]? = some x ∧ ys[i]? = some y,
   fun i H v H' => ∃ p x y, v = .ref p ∧ New H p (.tup [x, y]) H' ∧ (∀ xs, SqL K H a xs → xs[i]? = some x) ∧ ∀ ys, SqT K H b ys → ys[i]? = some y,
   fun i H => ∃ xs ys, SqL K H a xs ∧ SqT K H b ys ∧ xs.length ≤ i⟩
def iZipL (K : PySem.W.Frag) (ta : TA) : TI := fun σ H R => ta σ H fun vs H1 => ∃ a b, vs = [.ref a, .ref b] ∧ (∃ xs, SqL K H1 a xs) ∧ (∃ ys, SqT K H1 b ys) ∧ R (ItzL K a b) H1
def Ite (K : PySem.W.Frag) (a : Addr) : It :=
  ⟨fun i H => ∃ xs x, SqL K H a xs ∧ xs[i]? = some x, fun i H v H' => ∃ p x, v = .ref p ∧ New H p (.tup [.int (i : Int), x]) H' ∧ ∀ xs, SqL K H a xs → xs[i]? = some x, fun i H => ∃ xs, SqL K H a xs ∧ xs.length ≤ i⟩
theorem zju {P : Program} {w : World} {K : PySem.W.Frag} {elts : List Expr} {x1} {tpos : Pos} (e it a : Addr) (hne : e ≠ it) :
    Turn P w K (.Tuple elts x1 tpos) (Ite K a) [e, it] e (fun i h => (∃ old, IsEnum h e it (i : Int) old) ∧ h.IsListIter it a i) where
  mem := by simp
  obj := fun i h st c hc => by
    obtain ⟨⟨old, se⟩, o1, e1, c1, d1⟩ := st
    simp only [List.mem_cons, List.not_mem_nil, or_false] at hc
    rcases hc with rfl | rfl
    · exact ⟨_, se, fun v q => nomatch q⟩
    · exact ⟨_, e1, fun v q => by rw [d1] at q; cases q⟩
  keep := fun i h h' st k => ⟨let ⟨old, se⟩ := st.1; ⟨old, k e (by simp) _ se⟩, zq3 st.2 fun o z => k it (by simp) o z⟩
  item := by
    intro X hP hw hK hc i pins s σ H E I hf st hg
    subst hP hw hK
    obtain ⟨xs, x, hx, ex⟩ := hg
    obtain ⟨its, r, pl, _⟩ := I.list hx
    obtain ⟨u, hu, ru⟩ := r.get ex
    obtain ⟨⟨old, se⟩, si⟩ := st
    refine wpAny_pyNext_enum_item se si pl.isList (x := u) (by simpa using hu) hne fun h1 eo1 si1 q1 sz1 k1 => ⟨_, rfl, ?_⟩
    refine wpAny_letOwnedTupleGo_enum eo1 fun h2 e2 sb2 => ?_
    have hlt : ∀ c ∈ [e, it], c ≠ s.heap.objs.size := fun c hc => by
      simp only [List.mem_cons, List.not_mem_nil, or_false] at hc
      rcases hc with rfl | rfl
      · exact Nat.ne_of_lt (Heap.lt_size se)
      · obtain ⟨o, z, _⟩ := si
        exact Nat.ne_of_lt (Heap.lt_size z)
    have k2 : ∀ c o, c ∉ [e, it] → s.heap.get? c = some o → h2.get? c = some o := fun c o hc z =>
      sb2.extBut _ _ (fun q => hc (by simp [q])) (k1 c o (fun q => hc (by simp [q])) (fun q => hc (by simp [q])) z)
    have tup2 := sb2.extBut _ _ (Ne.symm (hlt e (by simp))) q1
    have si2 : h2.IsListIter it a (i + 1) := zq2 si1 sb2.extBut (Ne.symm hne)
    have e2' : IsEnum h2 e it ((i + 1 : Nat) : Int) u := by rw [show ((i + 1 : Nat) : Int) = (i : Int) + 1 by omega]; exact e2
    have there : ∀ c ∈ [e, it], ∃ o, h2.get? c = some o := fun c hc => by
      simp only [List.mem_cons, List.not_mem_nil, or_false] at hc
      rcases hc with rfl | rfl
      · exact ⟨_, e2⟩
      · obtain ⟨o, z, _⟩ := si2
        exact ⟨o, z⟩
    have I2 : Inv X pins σ (upd H s.heap.objs.size (.tup [.int (i : Int), x])) { s with heap := h2, toks := s.toks + 1 } := I.turnedNew k2 hf (Nat.le_refl _) ⟨zaa (by simp), [.int i s.toks, u], .cons ⟨_, rfl⟩ (.cons ru .nil), ⟨_, tup2, rfl, _, rfl⟩⟩ there
    refine ⟨.ref s.heap.objs.size, _, I2, rfl, ⟨_, x, rfl, .mk' I.fresh _, fun ws hw => by rw [I.list_inj hw hx]; exact ex⟩, ⟨⟨_, e2'⟩, si2⟩, fun c hc => ?_⟩
    rw [zam (hlt c hc)]
    exact (hf c hc).1
  done := by
    intro X hP hw hK hc i pins s σ H E I hf st hg
    subst hP hw hK
    obtain ⟨xs, hx, hl⟩ := hg
    obtain ⟨its, r, pl, _⟩ := I.list hx
    have l1 := r.length
    obtain ⟨⟨old, se⟩, si⟩ := st
    exact wpAny_pyNext_enum_end (I.ok.hd hc) se si pl.isList (by simp; omega) fun h' k => ⟨rfl, I.turnedL (t' := s.toks) (fun c o hc z => k c o (fun q => hc (by simp [q])) z) hf⟩
  self := fun _ _ _ _ _ st h => let ⟨_, se⟩ := st.1; wpAny_pyIter_enum se h
def iEnum (K : PySem.W.Frag) (ta : TA) : TI := fun σ H R => ta σ H fun vs H1 => ∃ a, vs = [.ref a] ∧ (∃ xs, SqL K H1 a xs) ∧ R (Ite K a) H1
theorem zpa {X : Cx} {elts : List Expr} {x1} {tpos : Pos} {a : Expr} {ta : TA} {p pos : Pos} (hg : Gl X "enumerate") (hm : X.mg "enumerate" = none) (ha : PA X [a] ta) (h1 : notStar a = true := by rfl) : PI X (.Tuple elts x1 tpos) (.Call (.Name "enumerate" p) [a] [] pos) (iEnum X.K ta) := by
  intro pins s σ H R I h
  have hs : starEach [a] X.env = [(false, eval a X.env)] := by rw [za9 h1, starEach.eq_def]
  refine Call_ (zex I hg hm boot_enumerate (PyProof.Rows.callWith_type1 (thn (ha pos pins s σ H _ I h) fun us s1 ⟨vs, H1, I1, r1, q1⟩ => ?_) hs rfl))
  obtain ⟨p1, e, ⟨xs, hx⟩, q⟩ := q1
  subst e
  obtain ⟨u, rfl, ru⟩ := vals1 r1
  cases (show u = Value.ref p1 from ru)
  obtain ⟨its, _, t1, _⟩ := I1.list hx
  refine call_enumerate_list t1.isList fun h' se si sz k => wpAny_pyIter_enum se ?_
  refine ⟨_, [s1.heap.objs.size + 1, s1.heap.objs.size], _, _, H1, rfl, I1.kept (t' := s1.toks) k, zju _ _ p1 (Nat.succ_ne_self _), ⟨⟨_, se⟩, si⟩, fun c hc => ?_, q⟩
  have hle : s1.heap.objs.size ≤ c := by
    simp only [List.mem_cons, List.not_mem_nil, or_false] at hc
    rcases hc with rfl | rfl
    · exact Nat.le_add_right _ _
    · exact Nat.le_refl _
  exact I1.fpOk hle (I1.hok.fresh hle)
theorem zmu {X : Cx} (K : PySem.W.Frag) {elts : List Expr} {x1} {tpos : Pos} {a : Expr} {ta : TA} {p pos : Pos} (hg : Gl X "enumerate") (hm : X.mg "enumerate" = none) (ha : PA X [a] ta) (h : X.K = K := by rfl) (h1 : notStar a = true := by rfl) :
    PI X (.Tuple elts x1 tpos) (.Call (.Name "enumerate" p) [a] [] pos) (iEnum K ta) := h ▸ zpa hg hm ha h1
def rInDc (neg : Bool) : R2 := fun y x H Q => ∃ a o, x = .ref a ∧ DGet H a y o ∧ Q (.bl (if neg then !o.isSome else o.isSome)) H
section
variable {X : Cx} {o i value : Expr} {pos pos' : Pos} {td ty tv : TE}
theorem zi7 (hu : X.A.units + 8 < cLine) : OpR X (compareOp .NotIn) (rInDc true) := by
  intro pins s σ H y x v u Q I ry rx h
  obtain ⟨a, o, rfl, g, q⟩ := h
  obtain rfl : u = Value.ref a := rx
  exact zp6 (by omega) I g ry fun s3 I3 => ⟨.bl (!o.isSome), H, I3, rfl, q⟩
theorem zmz (hu : X.A.units + 8 < cLine) (ho : PE X o td) (hi : PE X i ty) (hs : NoSl i) : PE X (.Subscript o i pos) (tDGet td ty) := zpd (by omega) ho hi hs
theorem zms (hu : X.A.units + 8 < cLine) (ho : PE X o td) (hi : PE X i ty) (hv : PE X value tv) (hs : swapsWith value (some (.Subscript o i pos')) pos.line X.env = pure false) :
    PS X (.Assign [.Subscript o i pos'] value pos) (sDPut td ty tv) := zo5 (by omega) ho hi hv hs
def tDNewN : TE := fun _ H Q => ∀ p H', New H p (.dK []) H' → Q (.ref p) H'
def tDNewTN : TE := fun _ H Q => ∀ p H', New H p (.dT []) H' → Q (.ref p) H'
theorem zgb : PE X (.Dict [] [] pos) tDNewTN := fun pins s σ H Q I h => zmy pins s σ H Q I fun p np => h p _ (.mk' np _)
def rLenD : List V → Hp → VK → Prop := fun xs H Q => ∃ a kvs, xs = [V.ref a] ∧ H a = some (.dK kvs) ∧ Q (.int kvs.length) H
end
def rLenT : List V → Hp → VK → Prop := fun xs H Q => ∃ a kvs, xs = [V.ref a] ∧ H a = some (.dT kvs) ∧ Q (.int kvs.length) H
def PairV (H : Hp) (r : V) (kv : Key × V) : Prop := ∃ t, r = .ref t ∧ H t = some (.tup [kV kv.1, kv.2])
def rDictOf (K : PySem.W.Frag) : List V → Hp → VK → Prop := fun xs H Q => ∃ (p : Addr) (rs : List V) (kvs : List (Key × V)), xs = [.ref p] ∧ SqL K H p rs ∧ Paired (PairV H) rs kvs ∧ kvs.length ≤ 1000 ∧ ∀ d H', New H d (.dK (mergeK [] kvs)) H' → Q (.ref d) H'
def rMaxL (K : PySem.W.Frag) : List V → Hp → VK → Prop := fun xs H Q => ∃ (p : Addr) (ns : List Int), xs = [.ref p] ∧ SqL K H p (ns.map V.int) ∧ 0 < ns.length ∧ ∀ M, M ∈ ns → (∀ a ∈ ns, a ≤ M) → Q (.int M) H
def rIndex (K : PySem.W.Frag) : V → List V → Hp → VK → Prop := fun x vs H Q => ∃ (p : Addr) (ns : List Int) (k : Int), x = .ref p ∧ vs = [.int k] ∧ SqL K H p (ns.map V.int) ∧ k ∈ ns ∧ ns.length ≤ 1000 ∧ Q (.int (ns.idxOf k : Nat)) H
def rCatTN (K : PySem.W.Frag) : R2 := fun x y H Q => ∃ a b xs ys, x = .ref a ∧ y = .ref b ∧ SqT K H a xs ∧ SqT K H b ys ∧ xs ≠ [] ∧ ys ≠ [] ∧ xs.length + ys.length ≤ sizeLine ∧ ∀ p H', New H p (.tup (xs ++ ys)) H' → Q (.ref p) H'
def tDisp1T (tk tv : TE) : TE := fun σ H Q => ∀ p H1, New H p (.dT []) H1 → tk σ H1 fun y H2 => tv σ H2 fun z H3 => H3 p = some (.dT []) ∧ ∃ b ks, y = .ref b ∧ H3 b = some (.tup (ks.map kV)) ∧ Q (.ref p) (upd H3 p (.dT [(ks, z)]))
def NeOk (X : Cx) (k : Nat) (H : Hp) (x y : V) (b : Bool) : Prop := ∀ (pins : List (Addr × Obj)) (σ : St) (s : Shared) (A : Around) (u v : Value), A.units + k < cLine → Inv X pins σ H s → RelV x u → RelV y v → SeqAt.RcNeAt A s u v b
def rNeM (X : Cx) : R2 := fun x y H Q => ∃ c, NeOk X 8 H x y c ∧ Q (.bl c) H
def rRange2 : List V → Hp → VK → Prop := fun xs H Q => ∃ i j : Int, xs = [.int i, .int j] ∧ ∀ p H', New H p (.rng i j) H' → Q (.ref p) H'
def rListRng : List V → Hp → VK → Prop := fun xs H Q => ∃ (p : Addr) (i j : Int), xs = [.ref p] ∧ H p = some (.rng i j) ∧ (0 ≤ i ∧ i ≤ j ∧ j ≤ 1000) ∧ ∀ l H', New H l (.lst ((List.range (j - i).toNat).map fun (k : Nat) => V.int (i + k))) H' → Q (.ref l) H'
def rRepN : R2 := fun x y H Q => ∃ l k xs, x = .ref l ∧ y = .int k ∧ H l = some (.lst xs) ∧ -(2 ^ 63) ≤ k ∧ k < 2 ^ 63 ∧ xs.length * k.toNat ≤ sizeLine ∧ ∀ p H', New H p (.lst (List.replicate k.toNat xs).flatten) H' → Q (.ref p) H'
def Itez (K : PySem.W.Frag) (a b : Addr) : It :=
  ⟨fun i H => ∃ xs ys x y, SqT K H a xs ∧ SqT K H b ys ∧ xs[i]? = some x ∧ ys[i]? = some y,
   fun i H v H' => ∃ p r H1 x y, v = .ref r ∧ New H p (.tup [x, y]) H1 ∧ New H1 r (.tup [.int (i : Int), .ref p]) H' ∧ (∀ xs, SqT K H a xs → xs[i]? = some x) ∧ ∀ ys, SqT K H b ys → ys[i]? = some y,
   fun i H => ∃ xs ys, SqT K H a xs ∧ SqT K H b ys ∧ xs.length ≤ i⟩
def iEZ (K : PySem.W.Frag) (ta : TA) : TI := fun σ H R => ta σ H fun vs H1 => ∃ a b, vs = [.ref a, .ref b] ∧ (∃ xs, SqT K H1 a xs) ∧ (∃ ys, SqT K H1 b ys) ∧ R (Itez K a b) H1
section
variable {tn : List Str} {cp : List (Nat × Str)} {g : TG} {tif : TT} {te : TE} {σ0 : St} {Q : VK} {H1 : Hp} {lo : Int} {n : Nat}
def PRnF (S : St → Prop) (p : Nat → Bool) (f : Nat → V) (H1 : Hp) (i : Nat) (ys : List V) (σ : St) (H : Hp) : Prop := Same H1 H ∧ S σ ∧ ys = ((List.range i).filter p).map f
theorem zp7 (S : St → Prop) (p : Nat → Bool) (f : Nat → V) (hn : n ≤ 1000) (h0 : S (stB tn cp σ0))
    (hs : ∀ D i σ H, i < n → Same H1 H → H1 D = none → H D = some (.lst (((List.range i).filter p).map f)) → S σ → g (.int (lo + i)) σ H fun σ2 H2 => tif σ2 H2 fun c H3 =>
      if c = true then te σ2 H3 fun v H4 => CStep D n i (PRnF S p f H1) σ2 v H4 else CSkip D n i (PRnF S p f H1) σ2 H3)
    (hd : ∀ D H, H1 D = none → Same H1 H → H D = some (.lst (((List.range n).filter p).map f)) → Q (.ref D) H) : cBody tn cp g tif te σ0 Q (Itr lo n) H1 := by
  refine zl7 n (fun D => PRnF S p f H1) (zaa hn) (fun D hD => ⟨zbg hD _, h0, rfl⟩) (fun D i ys σ H _ hi _ _ => hi) (fun D ys σ H _ _ _ => Nat.le_refl _) ?_ ?_
  · rintro D i ys σ H x H' hD hi hH hl ⟨p1, p2, rfl⟩ ⟨rfl, rfl⟩
    exact hs D i σ _ hi p1 hD hH p2
  · rintro D ys σ H hD hH hl ⟨p1, p2, rfl⟩
    exact hd D H hD p1 hH
theorem zlz (p : Nat → Bool) (f : Nat → V) (i : Nat) : (((List.range i).filter p).map f).length ≤ i := by
  rw [List.length_map]
  have := List.length_filter_le p (List.range i)
  rw [List.length_range] at this
  exact this
theorem zio {S : St → Prop} {p : Nat → Bool} {f : Nat → V} {D : Addr} {i : Nat} {v : V} {σ2 : St} {H4 : Hp} (hn : n ≤ 1000) (hi : i < n) (hp : p i = true) (hD : H1 D = none) (h4 : H4 D = some (.lst (((List.range i).filter p).map f))) (g4 : Same H1 H4) (s2 : S σ2) (e : v = f i) : CStep D n i (PRnF S p f H1) σ2 v H4 := by
  subst e
  refine cstep (zaa hn) hi h4 (zlz p f i) ⟨g4.wr hD _, s2, ?_⟩
  rw [List.range_succ, List.filter_append, List.map_append]
  simp [hp]
theorem ziq {S : St → Prop} {p : Nat → Bool} {f : Nat → V} {D : Addr} {i : Nat} {σ2 : St} {H3 : Hp} (hi : i < n) (hp : p i = false) (h3 : H3 D = some (.lst (((List.range i).filter p).map f))) (g3 : Same H1 H3) (s2 : S σ2) : CSkip D n i (PRnF S p f H1) σ2 H3 := by
  refine cskip hi h3 (zlz p f i) ⟨g3, s2, ?_⟩
  rw [List.range_succ, List.filter_append]
  simp [hp]
end
def rCatTE : R2 := fun x y H Q => ∃ a b xs ys, x = .ref a ∧ y = .ref b ∧ H a = some (.tup xs) ∧ H b = some (.tup ys) ∧ xs.length + ys.length ≤ sizeLine ∧ ∀ p H', Same H H' → H' p = some (.tup (xs ++ ys)) → Q (.ref p) H'
theorem zfn {pos pos' : Pos} {v : Value} (l : List Value) (h : TriplesOk l) : codeAmong pos' (l ++ [rawInt pos.line, rawInt pos.col, v]) = match codeAmong pos' l with
    | some x => some x
    | none => if ((pos.line : Int) == (pos'.line : Int) && (pos.col : Int) == (pos'.col : Int)) = true then some v else none := by
  fun_induction TriplesOk l with
  | case1 => simp [codeAmong, rawInt]
  | case2 a t b u x rest ih =>
    simp only [List.cons_append, codeAmong]
    split
    · rfl
    · exact ih h
  | case3 l h1 h2 => exact h.elim
def TabOk (H : Hp) (P : Addr) (qs : List (Pos × Str)) : Prop := ∃ ps : Array Value, H P = some (.tbl qs ps)
theorem TabOk.same {H H' : Hp} {P : Addr} {qs : List (Pos × Str)} (T : TabOk H P qs) (g : Same H H') : TabOk H' P qs := let ⟨ps, h⟩ := T; ⟨ps, g _ _ h⟩
def KCode (K : PySem.W.Frag) (c P : Addr) : Prop := ∃ o vs file tf flags tg inF text tt, K.lookup c = some o ∧ o.cls = .type "code" ∧ o.data = .fields vs ∧ vs[11]? = some (.ref P) ∧ vs.getD 11 .none = .ref P ∧ vs.getD 18 .none = .str file tf ∧
  vs.getD 7 .none = .int flags tg ∧ vs.getD 9 .none = .bool inF ∧ vs.getD 10 .none = .int text tt ∧ c ≠ P
section
variable {X : Cx} {pins : List (Addr × Obj)} {σ : St} {H : Hp} {s : Shared}
theorem zp2 {E : Value → Shared → Prop} {c P : Addr} {qs : List (Pos × Str)} {pos : Pos} {line : Nat} {name qual : Str} {params : Arguments} {scope : Scope} {body : FuncBody} {Q : Value → Shared → Prop} (I : Inv X pins σ H s) (hc : X.env.code = .ref c) (kc : KCode X.K c P)
    (T : TabOk H P qs) (hq : (pos, qual) ∈ qs) (hone : ∀ p ∈ qs, p.1.line = pos.line → p.1.col = pos.col → p.2 = qual)
    (h : ∀ c' o H' s', Inv X pins σ H' s' → H' c' = some (.frz o (.own c')) → CodeObj o qual → Same H H' → Q (.ref c') s') :
    wpAny (model X.prog X.w) X.A (functionCode X.env pos line name qual params scope body) Q E s := by
  obtain ⟨ps0, hP⟩ := T
  obtain ⟨more, hop, htr, hcs⟩ := I.hok P _ hP
  obtain ⟨oc, vs, file, tf, flags, tg, inF, text, tt, lk, hcl, hd, h11', h11, h18, h7, h9, h10, hne⟩ := kc
  have ho : s.heap.get? c = some oc := I.kIn c oc lk
  generalize hps : ps0 ++ more = ps at hop htr hcs
  cases hf : codeAmong pos ps.toList with
  | some v =>
    obtain ⟨c', o, rfl, hc', co⟩ := hcs _ hq v hf
    unfold functionCode codeAt
    rw [hc, if_neg (show ¬ ((Value.ref c == Value.none) = true) from Bool.false_ne_true)]
    refine wpAny_bind (wpAny_fieldsOf ho hd ?_)
    rw [h11]
    refine wpAny_bind (wpAny_fieldsOf hop rfl ?_)
    rw [hf]
    exact wpAny_pure (h c' o H s I hc' co fun _ _ e => e)
  | none =>
    have ic : s.heap.IsCode c P ps := ⟨oc, vs, file, tf, flags, tg, inF, text, tt, _, ho, hd, h11, h18, h7, h9, h10, hop, rfl, htr, hne⟩
    refine wpAny_functionCodeX hc ic ⟨⟨oc, vs, ho, hcl, hd, h11'⟩, hop⟩ hf fun c' h' tk hx hge hlt hic hrec htab _ => ?_
    obtain ⟨c₂, o', vs', t', e, hc', hd', hv'⟩ := hrec
    cases e
    have nPn : ∀ b, H b = none → b ≠ P := fun b e z => by rw [z, hP] at e; cases e
    have hcn : H c' = none := I.hok.fresh hge
    have nc : ∀ b u, H b = some u → b ≠ c' := fun b u e z => by rw [z, hcn] at e; cases e
    have nP : ∀ b u, H b = some u → (∀ a b, u ≠ .tbl a b) → b ≠ P := fun b u e n z => by rw [z, hP] at e; cases e; exact n _ _ rfl
    have up : ∀ b u, H b = some u → upd H c' (.frz o' (.own c')) b = some u := fun b u e => by rw [zam (nc b u e)]; exact e
    have co : CodeObj o' qual := ⟨vs', t', hd', hv'⟩
    have I' : Inv X pins σ (upd H c' (.frz o' (.own c'))) { s with heap := h', toks := tk } := by
      refine I.un ⟨fun b o e n _ _ => hx b o (nPn b n) e, fun b o e n _ _ => ⟨o.slots, hx b o (nPn b n) e⟩, fun b o e n _ => ?_, fun b o e _ => ?_, fun b xs e => up b _ e, fun b o u e => up b _ e, fun b qs ps e => up b _ e⟩ fun b u e => ?_
      · rw [zam (Nat.ne_of_lt (Nat.lt_of_lt_of_le (Heap.lt_size e) hge))]; exact n
      · by_cases hb : b = P
        · subst hb; exact ⟨_, htab.2⟩
        · exact ⟨o, hx b o hb e⟩
      · by_cases hb : b = c'
        · subst hb
          rw [zap] at e; cases e
          exact ⟨hc', _, hc'⟩
        · rw [zam hb] at e
          by_cases hbP : b = P
          · subst hbP
            rw [hP] at e; cases e
            have hl : (ps ++ #[rawInt pos.line, rawInt pos.col, Value.ref c']).toList = ps.toList ++ [rawInt pos.line, rawInt pos.col, .ref c'] := by simp
            have e2 : ps0 ++ (more ++ #[rawInt pos.line, rawInt pos.col, Value.ref c']) = ps ++ #[rawInt pos.line, rawInt pos.col, Value.ref c'] := by rw [← Array.append_assoc, hps]
            refine ⟨more ++ #[rawInt pos.line, rawInt pos.col, .ref c'], by rw [e2]; exact htab.2, by rw [e2, hl]; exact TriplesOk_snoc _ _ _ _ htr, fun p hp v e => ?_⟩
            rw [e2, hl, zfn _ htr] at e
            cases hv : codeAmong p.1 ps.toList with
            | some x =>
              rw [hv] at e
              cases e
              obtain ⟨c1, o1, e1, e2, e3⟩ := hcs p hp _ hv
              exact ⟨c1, o1, e1, up c1 _ e2, e3⟩
            | none =>
              rw [hv] at e
              simp only at e
              split at e
              · rename_i hh
                cases e
                rw [Bool.and_eq_true] at hh
                have e1 : pos.line = p.1.line := by have := hh.1; simp at this; omega
                have e2 : pos.col = p.1.col := by have := hh.2; simp at this; omega
                exact ⟨c', o', rfl, zap, by rw [hone p hp e1.symm e2.symm]; exact co⟩
              · cases e
          · refine (I.hok b u e).stay (fun c w hc q => hx c w ?_ q) (fun c q => up c _ q) (fun c _ _ _ _ q => up c _ q) fun c xs q => up c _ q
            rcases hc with rfl | hc
            · exact hbP
            · exact nP c _ hc fun _ _ z => nomatch z
    exact h c' o' _ _ I' zap co up
def cloFd (name qual : Str) (params : Arguments) (body : FuncBody) (scope : Scope) (cl : List (Str × Addr)) (ct cd pm : Value) : FuncData :=
  { name, qualname := qual, params, body, scope, globals := mainGlobals, closure := cl, closureTuple := ct, code := cd, builtins := builtinsNs, defaults := .none, kwdefaults := .none, annotations := none, pyModule := pm, doc := .none }
def BltK (base : Heap) (mg : Str → Option Value) : Prop := ∃ bm o, mg "__builtins__" = some (.ref bm) ∧ bm ≠ builtinsNs ∧ base.get? bm = some o ∧ o.cls = .type "module" ∧ o.dict = some builtinsNs ∧ o.data = .plain
def NoDoc : FuncBody → Prop
  | .stmts b => docOf b = none
  | .expr _ => True
structure Made (X : Cx) (H H' : Hp) (name qual : Str) (params : Arguments) (body : FuncBody) (scope : Scope) (f : Addr) : Prop where
  old : Same H H'
  new : H f = none
  ex : ∃ cl ct c' oc pm, (∀ x c, cl.lookup x = some c → X.env.cells.lookup x = some c) ∧ (∀ p ∈ scope.names, p.2 = .free → ∃ c, cl.lookup p.1 = some c) ∧ H' c' = some (.frz oc (.own c')) ∧ CodeObj oc qual ∧
    H' f = some (.frz { cls := .type "function", data := .func (cloFd name qual params body scope cl ct (.ref c') pm) } (.own f))
theorem zpt {E : Value → Shared → Prop} {c P : Addr} {qs : List (Pos × Str)} {pos : Pos} {line : Nat} {name qual : Str} {params : Arguments} {scope : Scope} {body : FuncBody} {Q : Value → Shared → Prop} (I : Inv X pins σ H s) (hc : X.env.code = .ref c) (kc : KCode X.K c P) (kb : BltK X.base X.mg)
    (hfr : ∀ p ∈ scope.names, p.2 = .free → X.env.kindOf p.1 = some .cell ∨ X.env.kindOf p.1 = some .free) (nd : NoDoc body)
    (T : TabOk H P qs) (hq : (pos, qual) ∈ qs) (hone : ∀ p ∈ qs, p.1.line = pos.line → p.1.col = pos.col → p.2 = qual)
    (h : ∀ f H' s', Inv X pins σ H' s' → Made X H H' name qual params body scope f → Q (.ref f) s') :
    wpAny (model X.prog X.w) X.A (makeFunction name qual params body scope X.env [] [] [] pos line) Q E s := by
  obtain ⟨cl, hcl, hcl1, hcl2⟩ := ze1 (scope := scope) (env := X.env) fun p hp hf => I.ok.has p.1 (hfr p hp hf)
  obtain ⟨bm, ob, b1, b2, b3, b4, b5, b6⟩ := kb
  have tail : ∀ (ct : Value) (s1 : Shared), Inv X pins σ H s1 → wpAny (model X.prog X.w) X.A (do
      let fd : FuncData := { name, qualname := qual, params, body, scope, globals := X.env.globals, closure := cl, closureTuple := ct, code := ← functionCode X.env pos line name qual params scope body, builtins := ← builtinsFor X.env.globals X.env.builtins, defaults := .none, kwdefaults := .none, annotations := none, pyModule := (← nsGet X.env.globals "__name__").getD .none, doc := ← match body with | .stmts b => (match docOf b with | some s => mkText s | none => pure .none) | .expr _ => pure .none }
      newObj (.type "function") (.func fd)) Q E s1 := by
    intro ct s1 I1
    refine wpAny_bind (zp2 I1 hc kc T hq hone fun c' oc H' s' I' e1 co up => ?_)
    have hg : s'.heap.Ns X.env.globals X.mg := by rw [I'.ok.glob]; exact I'.mod.glob.keeps I'.bk
    refine wpAny_bind (wpAny_builtinsFor hg b1 b2 (I'.bk bm ob b3) b4 b5 b6 ?_)
    refine wpAny_bind (wpAny_nsGet hg ?_)
    have fin : wpAny (model X.prog X.w) X.A (newObj (.type "function") (.func { name, qualname := qual, params, body, scope, globals := X.env.globals, closure := cl, closureTuple := ct, code := .ref c', builtins := builtinsNs, defaults := .none, kwdefaults := .none, annotations := none, pyModule := (X.mg "__name__").getD .none, doc := .none })) Q E s' := by
      refine wpAny_newObj_type ?_ (by size_fits)
      rw [I'.ok.glob]
      have hfn : H' s'.heap.objs.size = none := I'.fresh
      have hfn0 : H s'.heap.objs.size = none := by
        cases e : H s'.heap.objs.size with
        | none => rfl
        | some u => rw [up _ u e] at hfn; cases hfn
      have nf : ∀ b u, H' b = some u → b ≠ s'.heap.objs.size := fun b u e z => by rw [z, hfn] at e; cases e
      have I2 := I'.laid (a := s'.heap.objs.size) (o := .frz { cls := .type "function", data := .func (cloFd name qual params body scope cl ct (.ref c') ((X.mg "__name__").getD .none)) } (.own s'.heap.objs.size)) (t' := s'.toks)
        (h' := s'.heap.push { cls := .type "function", data := .func (cloFd name qual params body scope cl ct (.ref c') ((X.mg "__name__").getD .none)) }) (fun b u e => Heap.get?_push_of_some _ e) (Nat.le_refl _) ⟨Heap.get?_push_size _ rfl, _, Heap.get?_push_size _ rfl⟩
      refine h _ _ _ I2 ⟨fun b u e => by rw [zam (nf b u (up b u e))]; exact up b u e, hfn0, cl, ct, c', oc, _, hcl1, hcl2, by rw [zam (nf c' _ e1)]; exact e1, co, zap⟩
    cases body with
    | expr e => exact wpAny_bind (wpAny_pure fin)
    | stmts b =>
      have nd' : docOf b = none := nd
      refine wpAny_bind ?_
      show wpAny _ _ (match docOf b with | some s => mkText s | none => pure .none) _ _ _
      rw [nd']
      exact wpAny_pure fin
  rw [makeFunction_eq]
  simp only [List.isEmpty_nil, if_true, List.zip_nil_right, List.filterMap_nil]
  refine wpAny_bind (wpAny_pure (wpAny_bind (wpAny_pure (wpAny_bind (wpAny_pure ?_)))))
  unfold makeTail
  rw [hcl]
  refine wpAny_bind (wpAny_pure ?_)
  show wpAny _ _ (if cl.isEmpty = true then _ else _) _ _ _
  by_cases he : cl.isEmpty = true
  · rw [if_pos he]
    exact wpAny_bind (wpAny_pure (tail .none s I))
  · rw [if_neg he]
    refine wpAny_bind (wpAny_newTextTuple ?_)
    exact (tail _ _ (I.kept (t' := s.toks) fun b o e => Heap.get?_push_of_some _ e))
end
def fnO (fd : FuncData) (f : Addr) : HO := .frz { cls := .type "function", data := .func fd } (.own f)
def Frz (H H' : Hp) : Prop := ∀ b o u, H b = some (.frz o u) → H' b = some (.frz o u)
theorem Frz.refl (H : Hp) : Frz H H := fun _ _ _ e => e
theorem Frz.trans {H H1 H2 : Hp} (a : Frz H H1) (b : Frz H1 H2) : Frz H H2 := fun c o u e => b c o u (a c o u e)
def CloH (P : Program) (w : World) (K : PySem.W.Frag) (mg : Str → Option Value) (base : Heap) (k : Nat) (H : Hp) (f : Addr) (n : Nat) (sp : Sp) : Prop :=
  ∀ (A : Around) (outer : List Env) (s : Shared) (H' : Hp) (us : List Value) (vs : List V) (Q : VK), Room k A → Env0 P w K mg base A outer s H' → Frz H H' → Vals vs us → vs.length = n → sp vs H' Q E0 →
    codeAny (model P w) A (.call (.ref f) ⟨us, []⟩) (CR CX0 outer P w H' s Q E0) s
theorem CloH.mono {P : Program} {w : World} {K : PySem.W.Frag} {mg : Str → Option Value} {base : Heap} {k : Nat} {H H1 : Hp} {f : Addr} {n : Nat} {sp : Sp} (c : CloH P w K mg base k H f n sp) (g : Frz H H1) : CloH P w K mg base k H1 f n sp :=
  fun A outer s H' us vs Q hr e0 fz => c A outer s H' us vs Q hr e0 (g.trans fz)
def tCallV (P : Program) (w : World) (K : PySem.W.Frag) (mg : Str → Option Value) (base : Heap) (k n : Nat) (sp : Sp) (i : Nat) (t : TA) : TE := fun σ H Q => ∃ f fd, σ[i]? = some (some (.ref f)) ∧ H f = some (fnO fd f) ∧
  t σ H fun vs H1 => H1 f = some (fnO fd f) ∧ CloH P w K mg base k H1 f n sp ∧ vs.length = n ∧ sp vs H1 Q E0
theorem znk (f : Addr) (fd : FuncData) : PySem.W.keepIn [(f, { cls := .type "function", data := .func fd })] (.ref f) = true := by
  unfold PySem.W.keepIn
  simp [List.lookup]
theorem zm0 {X : Cx} {x : Str} {i k n : Nat} {sp : Sp} {p pos : Pos} {e : Expr} {es : List Expr} {t : TA} (hN : X.N[i]? = some x) (hv : Vis X.env.scope x) (hr : Room k X.A) (ha : PA X (e :: es) t)
    (hd : (x == ("__debug__" : Str)) = false := by decide) (hcd : (x == ("__classdict__" : Str)) = false := by decide) (he : starEach (e :: es) X.env = (false, eval e X.env) :: starEach es X.env := by rfl) (hpl : (backTo pos (starEach es X.env)).any (·.1) = false := by rfl) :
    PE X (.Call (.Name x p) (e :: es) [] pos) (tCallV X.prog X.w X.K X.mg X.base k n sp i t) := by
  intro pins s σ H Q I h
  obtain ⟨f, fd, hs, hf, h⟩ := h
  refine wpAny_Call_Name_kw (thn (zn6 (pos := p) hN hv hd hcd pins s σ H (fun v H' => v = .ref f ∧ H' = H) I ⟨.ref f, hs, rfl, rfl⟩) fun u s1 ⟨v, H1, I1, r1, e1, e2⟩ => ?_)
  subst e1 e2
  cases (show u = Value.ref f from r1)
  have at1 : ∀ {H2 : Hp} {s2 : Shared}, Inv X pins σ H2 s2 → H2 f = some (fnO fd f) → PySem.W.Frag.In [(f, { cls := .type "function", data := .func fd })] s2.heap := fun {H2 s2} I2 hf2 a o e => by
    simp only [List.lookup] at e
    split at e
    · rename_i q
      cases e
      rw [beq_iff_eq.mp q]
      exact (I2.hok f _ hf2).1
    · cases e
  refine PySem.W.callWith_K (K := [(f, { cls := .type "function", data := .func fd })]) (h₀ := s1.heap) (at1 I1 hf) (znk f fd) (thn (ha pos pins s1 σ H1 _ I1 h) fun us s2 ⟨vs, H2, I2, r, hf2, c, hl, q⟩ => ⟨at1 I2 hf2, ?_⟩) he hpl
  refine wpAny_call (codeAny_mono (c X.A X.stack s2 H2 us vs Q hr I2.env0 (Frz.refl _) r hl q) fun r s' hq => ?_)
  cases r with
  | error e => exact False.elim hq
  | ok fl =>
    cases fl with
    | ret u => exact I2.after hq
    | next => exact False.elim hq
    | brk => exact False.elim hq
    | cont => exact False.elim hq
def tDef (X : Cx) (P : Addr) (qs : List (Pos × Str)) (name qual : Str) (params : Arguments) (body : FuncBody) (scope : Scope) (j : Nat) : TS := fun D σ H => TabOk H P qs ∧ ∀ f H', Made X H H' name qual params body scope f → D.nx (σ.set j (some (.ref f))) H'
def tLam (X : Cx) (P : Addr) (qs : List (Pos × Str)) (name qual : Str) (params : Arguments) (body : FuncBody) (scope : Scope) : TE := fun σ H Q => TabOk H P qs ∧ ∀ f H', Made X H H' name qual params body scope f → Q (.ref f) H'
section
variable {X : Cx} {c P : Addr} {qs : List (Pos × Str)} {pos : Pos} {name qual : Str} {params : Arguments} {scope : Scope}
theorem zo6 {j : Nat} {body : List Stmt} (hc : X.env.code = .ref c) (kc : KCode X.K c P) (kb : BltK X.base X.mg) (hfr : ∀ p ∈ scope.names, p.2 = .free → X.env.kindOf p.1 = some .cell ∨ X.env.kindOf p.1 = some .free) (nd : docOf body = none)
    (hq : (pos, qual) ∈ qs) (hone : ∀ p ∈ qs, p.1.line = pos.line → p.1.col = pos.col → p.2 = qual) (hd : params.defaults = []) (hk : params.kw_defaults = []) (ha : ∀ e, annTrees params none e = []) (hqual : qualnameIn X.env name name = qual)
    (hN : X.N.Nodup) (hj : X.N[j]? = some name) (hx : X.env.scope.names.lookup name = some .local) : PS X (.FunctionDef name params body [] none [] scope none name pos) (tDef X P qs name qual params (.stmts body) scope j) := by
  intro pins s σ H D I h
  obtain ⟨T, h⟩ := h
  rw [exec_def]
  have hdo : defaultsOf params X.env = ([], []) := by rw [defaultsOf_eq, hd, hk]; rfl
  simp only [hdo, ha, hqual]
  refine wpAny_bind (wpAny_standAt (wpAny_bind (wpAny_holding (wpAny_bind (wpAny_pure (wpAny_bind (wpAny_holding (wpAny_pure (wpAny_holding (wpAny_bind (wpAny_pure ?_)))))))))))
  refine zpt I hc kc kb hfr nd T hq hone fun f H' s' I' M => wpAny_bind (wpAny_standAt (wpAny_bind (wpAny_bindName ?_)))
  exact ze3 I' hN hj (.inl hx) (v := .ref f) rfl (fun s2 I2 => wpAny_pure ⟨_, H', I2, h f H' M⟩) (.inr hx)
end
def CellOf (X : Cx) (b : Addr) : Prop := ∃ x, X.env.cells.lookup x = some b
def Adopted (X : Cx) (σ : St) (H Hq : Hp) : Prop := (∀ b, ¬ CellOf X b → Hq b = H b) ∧ (∀ b, CellOf X b → H b = none) ∧ (∀ x y c, X.env.cells.lookup x = some c → X.env.cells.lookup y = some c → x = y) ∧ ∀ x c, X.env.cells.lookup x = some c → ∃ o v, Hq c = some (.frz o (.own c)) ∧ o.data = .cell v ∧
  ∀ (i : Nat) y, X.N[i]? = some x → σ[i]? = some (some y) → (X.env.kindOf x = some .cell ∨ X.env.kindOf x = some .free) → ∃ u, RelV y u ∧ v = some u
open Classical in
noncomputable def dropX (X : Cx) (H : Hp) : Hp := fun b => if CellOf X b then none else H b
def tCallA (X : Cx) (sp : Sp) (t : TA) : TE := fun σ H Q => t σ H fun vs H1 => ∀ Hq, Adopted X σ H1 Hq → sp vs Hq (fun v H2 => Q v (dropX X H2)) E0
theorem zm2 {X : Cx} {k : Nat} {f : Addr} {fd : FuncData} {ps : List Str} {sp : Sp} {x : Str} {p pos : Pos} {e : Expr} {es : List Expr} {t : TA} (F : FnOk X.prog X.w X.K X.mg X.base CX0 k f fd ps sp) (hr : Room k X.A) (hg : Gl X x) (hm : X.mg x = some (.ref f)) (hk : PySem.W.keepIn X.K (.ref f) = true) (hb : Binds X.K fd ps [])
    (hfn : ∀ x, X.fn x = true) (ha : PA X (e :: es) t) (hdb : (x == ("__debug__" : Str)) = false := by decide) (he : starEach (e :: es) X.env = (false, eval e X.env) :: starEach es X.env := by rfl) (hpl : (backTo pos (starEach es X.env)).any (·.1) = false := by rfl) :
    PE X (.Call (.Name x p) (e :: es) [] pos) (tCallA X sp t) := by
  classical
  intro pins s σ H Q I h
  refine wpAny_Call_Name_kw (zfl I hg hm ?_ hdb)
  refine PySem.W.callWith_K (h₀ := X.base) I.ok.mod.kin hk (thn (ha pos pins s σ H _ I h) fun us s1 ⟨vs, H1, I1, r, q⟩ => ⟨I1.kIn, ?_⟩) he hpl
  let Hq : Hp := fun b => if CellOf X b then (s1.heap.get? b).map fun o => .frz o (.own b) else H1 b
  have q1 : ∀ b, ¬ CellOf X b → Hq b = H1 b := fun b n => if_neg n
  have q2 : ∀ x c, X.env.cells.lookup x = some c → ∃ o v, s1.heap.get? c = some o ∧ o.data = .cell v ∧ Hq c = some (.frz o (.own c)) := fun x c e => by
    obtain ⟨v, o, ho, hd⟩ := I1.cell x c e
    exact ⟨o, v, ho, hd, by show (if CellOf X c then _ else _) = _; rw [if_pos ⟨x, e⟩, ho]; rfl⟩
  have tr : ∀ b u, H1 b = some u → ¬ CellOf X b := fun b u e ⟨x, z⟩ => by rw [I1.freeC x b z] at e; cases e
  have ad : Adopted X σ H1 Hq := ⟨q1, fun b ⟨x, z⟩ => I1.freeC x b z, I1.ok.inj, fun x c e => by
    obtain ⟨o, v, ho, hd, hq⟩ := q2 x c e
    refine ⟨o, v, hq, hd, fun i y e1 e2 e3 => ?_⟩
    obtain ⟨m, hn, hl⟩ := I1.loc
    obtain ⟨u, ru, l⟩ := hl i x y e1 e2 (by rcases e3 with z | z; exact .inr (.inl z); exact .inr (.inr z))
    rcases l with ⟨z, _⟩ | ⟨_, c', hc', o', ho', hd'⟩
    · rcases e3 with y' | y' <;> (rw [z] at y'; cases y')
    · rw [e] at hc'; cases hc'
      rw [ho] at ho'; cases ho'
      rw [hd] at hd'; cases hd'
      exact ⟨u, ru, rfl⟩⟩
  have low : ∀ b, CellOf X b → X.s₀.heap.objs.size ≤ b := fun b ⟨x, e⟩ => I1.ok.cab x b (hfn x) e
  have nfr : ∀ b ∈ frs X.stack, ¬ CellOf X b := fun b hb ⟨x, e⟩ => by
    rcases List.mem_cons.mp (I1.stkSub b hb) with z | z
    · exact I1.cne x b e z
    · obtain ⟨_, o, ho, _⟩ := I1.ok.funs.mem z
      exact absurd (Nat.lt_of_lt_of_le (Heap.lt_size ho) (low b ⟨x, e⟩)) (Nat.lt_irrefl _)
  have up : ∀ b u, H1 b = some u → Hq b = some u := fun b u e => by rw [q1 b (tr b u e)]; exact e
  have hokq : HOk X.prog X.w Hq s1.heap := fun b u e => by
    by_cases hc : CellOf X b
    · obtain ⟨x, ex⟩ := hc
      obtain ⟨o, v, ho, hd, hq⟩ := q2 x b ex
      rw [hq] at e; cases e
      exact ⟨ho, o, ho⟩
    · rw [q1 b hc] at e
      exact (I1.hok b u e).stay (fun _ _ _ z => z) (fun c z => up c _ z) (fun c _ _ _ _ z => up c _ z) fun c xs z => up c _ z
  have e0 := I1.env0
  have e0q : Env0 X.prog X.w X.K X.mg X.base X.A X.stack s1 Hq := ⟨e0.frames, e0.mod, fun b o e => ⟨(e0.bs b o e).1, by
    rw [q1 b fun hc => absurd (Nat.lt_of_lt_of_le (Heap.lt_size e) (Nat.le_trans I1.ok.bsz (low b hc))) (Nat.lt_irrefl _)]; exact (e0.bs b o e).2⟩, e0.bsz, e0.funs, fun b hb => by rw [q1 b (nfr b hb)]; exact e0.frf b hb, hokq, e0.bare⟩
  have hl : us.length = ps.length := by rw [← r.length]; exact F.len _ _ _ _ (q Hq ad)
  refine wpAny_call (codeAny_mono (F.run X.A X.stack s1 Hq ⟨us, []⟩ us vs _ E0 hr e0q (by have := hb s1 us I1.kIn (by rw [List.append_nil]; exact hl); rw [List.append_nil] at this; exact this) r (q Hq ad)) fun r s' hq => ?_)
  cases r with
  | error e => exact False.elim hq
  | ok fl =>
    cases fl with
    | next => exact False.elim hq
    | brk => exact False.elim hq
    | cont => exact False.elim hq
    | ret u =>
      obtain ⟨v, H2, os, bare, un, hok2, rv, qq⟩ := hq
      have c2 : ∀ x c, X.env.cells.lookup x = some c → ∃ o, s1.heap.get? c = some o ∧ H2 c = some (.frz o (.own c)) ∧ s'.heap.get? c = some o := fun x c e => by
        obtain ⟨o, v, ho, hd, hq⟩ := q2 x c e
        have z := un.frzs c o _ hq
        exact ⟨o, ho, z, (hok2 c _ z).1⟩
      have d1 : ∀ b, ¬ CellOf X b → dropX X H2 b = H2 b := fun b n => if_neg n
      have nmC : ∀ b o u q, CodeObj o q → H2 b = some (.frz o u) → ¬ CellOf X b := fun b o u q ⟨vs, t, hv, _⟩ e ⟨x, z⟩ => by
        obtain ⟨o', ho', z2, _⟩ := c2 x b z
        rw [z2] at e; cases e
        obtain ⟨v, o3, ho, hd⟩ := I1.cell x b z
        rw [ho'] at ho; cases ho
        rw [hv] at hd; cases hd
      have nm : ∀ b u, H2 b = some u → (∀ o a, u ≠ .frz o a) → ¬ CellOf X b := fun b u e n ⟨x, z⟩ => by
        obtain ⟨o, _, z2, _⟩ := c2 x b z
        rw [z2] at e; cases e
        exact n _ _ rfl
      refine I1.after ⟨v, dropX X H2, os, bare, ⟨fun b o e n hf hx => ?_, fun b o e n hf hx => ?_, fun b o e n hx => ?_, fun b o e hx => ?_, fun b xs e => ?_, fun b o a e => ?_, fun b qs ps e => ?_⟩, fun b u e => ?_, rv, qq⟩
      · by_cases hc : CellOf X b
        · obtain ⟨x, ex⟩ := hc
          obtain ⟨o', ho', _, z⟩ := c2 x b ex
          rw [e] at ho'; cases ho'
          exact z
        · exact un.keep b o e (by rw [q1 b hc]; exact n) hf hx
      · exact un.slot b o e (by rw [q1 b (nfr b hf)]; exact n) hf hx
      · by_cases hc : CellOf X b
        · exact if_pos hc
        · rw [d1 b hc]; exact un.free b o e (by rw [q1 b hc]; exact n) hx
      · exact un.there b o e hx
      · rw [d1 b (tr b _ e)]; exact un.tups b xs (up b _ e)
      · rw [d1 b (tr b _ e)]; exact un.frzs b o a (up b _ e)
      · rw [d1 b (tr b _ e)]; exact un.tbls b qs ps (up b _ e)
      · have hc : ¬ CellOf X b := fun hc => by
          have : dropX X H2 b = none := if_pos hc
          rw [this] at e; cases e
        rw [d1 b hc] at e
        exact (hok2 b u e).stay (fun _ _ _ z => z) (fun c z => by rw [d1 c (nm c _ z fun _ _ y => nomatch y)]; exact z) (fun c o a q co z => by rw [d1 c (nmC c o a q co z)]; exact z) fun c xs z => by rw [d1 c (nm c _ z fun _ _ y => nomatch y)]; exact z
theorem zeq {α β : Type} {R : α → β → Prop} : ∀ {xs : List α} {ys : List β}, Paired R xs ys → xs.length = ys.length
  | _, _, .nil => rfl
  | _, _, .cons _ t => by rw [List.length_cons, List.length_cons, zeq t]
theorem zl9 {α β : Type} {R : α → β → Prop} : ∀ {xs : List α} {ys : List β} {i : Nat} {x : α} {y : β}, Paired R xs ys → xs[i]? = some x → ys[i]? = some y → R x y
  | _, _, _, _, _, .nil, e, _ => by simp at e
  | _, _, 0, _, _, .cons r _, e1, e2 => by simp at e1 e2; subst e1 e2; exact r
  | _, _, i + 1, _, _, .cons _ t, e1, e2 => zl9 (i := i) t (by simpa using e1) (by simpa using e2)
theorem zhr : ∀ {ps : List Str} {us : List Value}, ps.Nodup → ((ps.zip us).map (·.1)).Nodup
  | [], _, _ => by simp
  | _ :: _, [], _ => by simp
  | p :: ps, u :: us, h => by
    rw [List.zip_cons_cons, List.map_cons]
    refine List.nodup_cons.mpr ⟨fun hm => ?_, zhr (List.nodup_cons.mp h).2⟩
    obtain ⟨q, hq, e⟩ := List.mem_map.mp hm
    have e' : q.1 = p := e
    exact (List.nodup_cons.mp h).1 (e' ▸ (List.of_mem_zip (show (q.1, q.2) ∈ ps.zip us from hq)).1)
theorem zik {x : Str} {u : Value} : ∀ {l : List (Str × Value)}, (l.map (·.1)).Nodup → (x, u) ∈ l → l.lookup x = some u
  | [], _, h => by simp at h
  | (y, v) :: l, nd, h => by
    rw [List.map_cons] at nd
    rw [List.lookup_cons]
    rcases List.mem_cons.mp h with e | h
    · cases e; simp
    · have : (x == y) = false := by
        rw [beq_eq_false_iff_ne]
        intro z
        exact (List.nodup_cons.mp nd).1 (z ▸ List.mem_map.mpr ⟨_, h, rfl⟩)
      rw [this]
      exact zik (List.nodup_cons.mp nd).2 h
theorem zme {ps : List Str} {us : List Value} {i : Nat} {x : Str} {u : Value} (nd : ps.Nodup) (h1 : ps[i]? = some x) (h2 : us[i]? = some u) : (ps.zip us).reverse.lookup x = some u := by
  refine zik ?_ (List.mem_reverse.mpr (List.mem_of_getElem? (i := i) (List.getElem?_zip_eq_some.mpr ⟨h1, h2⟩)))
  rw [List.map_reverse]
  exact (List.reverse_perm _).nodup_iff.mpr (zhr nd)
def envL (qual : Str) (scope : Scope) (cl : List (Str × Addr)) (L f : Addr) (cd : Value) : Env :=
  { scope := scope, locals := L, globals := mainGlobals, cells := cl, qual := qual ++ ".<locals>.", func := some f, code := cd, frame := some L, builtins := builtinsNs }
def InCl (cl : List (Str × Addr)) (b : Addr) : Prop := ∃ x, cl.lookup x = some b
open Classical in
noncomputable def dropL (cl : List (Str × Addr)) (H : Hp) : Hp := fun b => if InCl cl b then none else H b
open Classical in
noncomputable def mixL (cl : List (Str × Addr)) (H H2 : Hp) : Hp := fun b => if InCl cl b then H b else H2 b
noncomputable def cxL (P : Program) (w : World) (K : PySem.W.Frag) (mg : Str → Option Value) (base : Heap) (N : List Str) (qual : Str) (scope : Scope) (cl : List (Str × Addr)) (f : Addr) (cd : Value) (A : Around) (outer : List Env) (s : Shared) (H : Hp) : Cx where
  prog := P
  w := w
  K := K
  mg := mg
  base := base
  A := A.deeper (envL qual scope cl s.heap.objs.size f cd)
  N := N
  s₀ := s
  H₀ := dropL cl H
  env := envL qual scope cl s.heap.objs.size f cd
  outer := outer
  stack := envL qual scope cl s.heap.objs.size f cd :: outer
  ex := []
  calm := true
  fn := fun _ => false
  pn := []
  xe := fun _ _ => False
structure CloScope (own ps cap : List Str) (sc : Scope) : Prop where
  kind : sc.kind = .function
  co : sc.isCoroutine = false
  gen : sc.isGenerator = false
  nocell : ∀ y ∈ sc.names, y.2 ≠ .cell
  pre : own.take ps.length = ps
  nd : ps.Nodup
  par : ∀ x ∈ ps, sc.names.lookup x = some .local
  cap : ∀ x ∈ cap, sc.names.lookup x = some .free
def Caps (H : Hp) (cl : List (Str × Addr)) (cap : List Str) (cv : List V) : Prop := Paired (fun x v => ∃ c o u, cl.lookup x = some c ∧ H c = some (.frz o (.own c)) ∧ o.data = .cell (some u) ∧ RelV v u) cap cv
def stL (own : List Str) (vs cv : List V) : St := vs.map some ++ List.replicate (own.length - vs.length) none ++ cv.map some
section
variable {P : Program} {w : World} {K : PySem.W.Frag} {mg : Str → Option Value} {base : Heap} {A : Around} {outer : List Env} {s : Shared} {H : Hp} {own ps cap : List Str} {qual : Str} {scope : Scope} {cl : List (Str × Addr)} {f : Addr} {cd : Value} {vs cv : List V} {us : List Value}
theorem zbs {H : Hp} (hcl : ∀ x c, cl.lookup x = some c → ∃ o v, H c = some (.frz o (.own c)) ∧ o.data = .cell v) {b : Addr} {u : HO} (e : H b = some u) (n : ∀ o a, u ≠ .frz o a) : ¬ InCl cl b := fun ⟨x, z⟩ => by
  obtain ⟨o, v, z2, _⟩ := hcl x b z
  rw [z2] at e; cases e
  exact n _ _ rfl
theorem zlo {H : Hp} (hcl : ∀ x c, cl.lookup x = some c → ∃ o v, H c = some (.frz o (.own c)) ∧ o.data = .cell v) {b : Addr} {o : Obj} {a : HO} {q : Str} (co : CodeObj o q) (e : H b = some (.frz o a)) : ¬ InCl cl b := fun ⟨x, z⟩ => by
  obtain ⟨o, v, z2, z3⟩ := hcl x b z
  rw [z2] at e; cases e
  obtain ⟨vs, t, hv, _⟩ := co
  rw [hv] at z3; cases z3
theorem zpy {h1 : Heap} {tk : Nat} (S : CloScope own ps cap scope) (hd : A.handled = none) (e0 : Env0 P w K mg base A outer s H) (hl : vs.length = ps.length) (hlo : ps.length ≤ own.length) (r : Vals vs us)
    (hcl : ∀ x c, cl.lookup x = some c → ∃ o v, H c = some (.frz o (.own c)) ∧ o.data = .cell v) (hfr : ∀ p ∈ scope.names, p.2 = .free → ∃ c, cl.lookup p.1 = some c) (inj : ∀ x y c, cl.lookup x = some c → cl.lookup y = some c → x = y) (hcap : Caps H cl cap cv)
    (hns : h1.Ns s.heap.objs.size (fun x => (ps.zip us).reverse.lookup x)) (hk : ∀ b o, s.heap.get? b = some o → h1.get? b = some o) :
    Inv (cxL P w K mg base (own ++ cap) qual scope cl f cd A outer s H) [] (stL own vs cv) (dropL cl H) { s with heap := h1, toks := tk } := by
  classical
  have d1 : ∀ b, ¬ InCl cl b → dropL cl H b = H b := fun b n => if_neg n
  have dn : ∀ b, H b = none → dropL cl H b = none := fun b e => by
    by_cases hc : InCl cl b
    · exact if_pos hc
    · rw [d1 b hc]; exact e
  have noA : ∀ b : Addr, b ∉ (cxL P w K mg base (own ++ cap) qual scope cl f cd A outer s H).ex := fun b z => absurd (show b ∈ ([] : List Addr) from z) (by simp)
  have at' : ∀ x c, cl.lookup x = some c → ∃ o v, s.heap.get? c = some o ∧ o.data = .cell v := fun x c e => by
    obtain ⟨o, v, z, zd⟩ := hcl x c e
    exact ⟨o, v, (e0.hok c _ z).1, zd⟩
  have hok0 : HOk P w (dropL cl H) s.heap := fun b u e => by
    have hc : ¬ InCl cl b := fun hc => by
      have : dropL cl H b = none := if_pos hc
      rw [this] at e; cases e
    rw [d1 b hc] at e
    exact (e0.hok b u e).stay (fun _ _ _ z => z) (fun c z => by rw [d1 c (zbs hcl z fun _ _ y => nomatch y)]; exact z) (fun c o a q co z => by rw [d1 c (zlo hcl co z)]; exact z) fun c xs z => by rw [d1 c (zbs hcl z fun _ _ y => nomatch y)]; exact z
  refine ⟨⟨e0.mod, S.kind, rfl, rfl, Nat.le_refl _, inj, fun x hx => ?_, fun x c hx => (by cases hx), fun _ => hd, Around.frames_deeper e0.frames, .inr ⟨rfl, rfl⟩, fun b z => absurd z (noA b), fun b o e => ⟨(e0.bs b o e).1, dn b (e0.bs b o e).2⟩, e0.bsz, fun b _ _ => noA b, fun b z => absurd z (noA b), e0.funs, fun b hb => dn b (e0.frf b hb)⟩,
    rfl, e0.bare, Un.kept hk, ⟨_, hns, fun i x v e1 e2 e3 => ?_⟩, fun x c e => ?_, hok0.fresh (Nat.le_refl _), fun x c e => if_pos ⟨x, e⟩, fun p hp => absurd (show p ∈ ([] : List (Addr × Obj)) from hp) (by simp), hok0.kept hk, ?_⟩
  · have hx : scope.names.lookup x = some .cell ∨ scope.names.lookup x = some .free := hx
    rcases hx with z | z
    · exact absurd rfl (S.nocell _ (mem_of_lookup' z))
    · exact hfr (x, .free) (mem_of_lookup' z) rfl
  · have e1' : (own ++ cap)[i]? = some x := e1
    have e2' : (vs.map some ++ List.replicate (own.length - vs.length) none ++ cv.map some)[i]? = some (some v) := e2
    have lo : (vs.map some ++ List.replicate (own.length - vs.length) (none : Option V)).length = own.length := by rw [List.length_append, List.length_map, List.length_replicate]; omega
    by_cases hi : i < own.length
    · rw [List.getElem?_append_left (by omega)] at e2'
      by_cases hv : i < vs.length
      · rw [List.getElem?_append_left (by simpa using hv), List.getElem?_map] at e2'
        rw [List.getElem?_append_left hi] at e1'
        have ha : vs[i]? = some v := by
          cases q : vs[i]? with
          | none => rw [q] at e2'; cases e2'
          | some z => rw [q] at e2'; exact congrArg some (Option.some.inj (Option.some.inj e2'))
        obtain ⟨u, hu, ru⟩ := r.get ha
        have hp : ps[i]? = some x := by rw [← S.pre, List.getElem?_take_of_lt (by omega)]; exact e1'
        refine ⟨u, ru, .inl ⟨S.par x (List.mem_of_getElem? hp), ?_⟩⟩
        exact zme S.nd hp hu
      · rw [List.getElem?_append_right (by simpa using Nat.le_of_not_lt hv), List.getElem?_replicate] at e2'
        split at e2' <;> cases e2'
    · rw [List.getElem?_append_right (by omega), lo, List.getElem?_map] at e2'
      rw [List.getElem?_append_right (by omega)] at e1'
      have ha : cv[i - own.length]? = some v := by
        cases q : cv[i - own.length]? with
        | none => rw [q] at e2'; cases e2'
        | some z => rw [q] at e2'; exact congrArg some (Option.some.inj (Option.some.inj e2'))
      obtain ⟨c, o, u, hc, hz, hd', ru⟩ := zl9 hcap e1' ha
      exact ⟨u, ru, .inr ⟨.inr (S.cap x (List.mem_of_getElem? e1')), c, hc, o, hk c o (e0.hok c _ hz).1, hd'⟩⟩
  · obtain ⟨o, v, ho, hd'⟩ := at' x c e
    exact ⟨v, o, hk c o ho, hd'⟩
  · have := zeq hcap
    show (vs.map some ++ List.replicate (own.length - vs.length) none ++ cv.map some).length = (own ++ cap).length
    rw [List.length_append, List.length_append, List.length_map, List.length_replicate, List.length_map, List.length_append]
    omega
theorem zl4 {N : List Str} {pins : List (Addr × Obj)} {σ' : St} {H2 : Hp} {s' : Shared} {v : V} {u : Value} {Q : VK} (e0 : Env0 P w K mg base A outer s H) (hcl : ∀ x c, cl.lookup x = some c → ∃ o v, H c = some (.frz o (.own c)) ∧ o.data = .cell v)
    (J : Inv (cxL P w K mg base N qual scope cl f cd A outer s H) pins σ' H2 s') (rv : RelV v u) (q : (∀ b, InCl cl b → H2 b = none) → Q v (mixL cl H H2)) : CE outer P w H s Q u s' := by
  classical
  have d1 : ∀ b, ¬ InCl cl b → dropL cl H b = H b := fun b n => if_neg n
  have m1 : ∀ b, ¬ InCl cl b → mixL cl H H2 b = H2 b := fun b n => if_neg n
  have nc : ∀ b, H b = none → ¬ InCl cl b := fun b e ⟨x, z⟩ => by
    obtain ⟨o, v, z2, _⟩ := hcl x b z
    rw [z2] at e; cases e
  have un : Un (frs outer) [] (dropL cl H) H2 s.heap s'.heap := J.base
  have cellK : ∀ x c, cl.lookup x = some c → ∃ o, H c = some (.frz o (.own c)) ∧ s'.heap.get? c = some o ∧ H2 c = none := fun x c e => by
    obtain ⟨o, v, z, _⟩ := hcl x c e
    have ho := (e0.hok c _ z).1
    have dz : dropL cl H c = none := if_pos ⟨x, e⟩
    have nf : c ∉ frs outer := fun hb => by rw [e0.frf c hb] at z; cases z
    exact ⟨o, z, un.keep c o ho dz nf (by simp), un.free c o ho dz (by simp)⟩
  have nm : ∀ b u, H2 b = some u → ¬ InCl cl b := fun b u e ⟨x, z⟩ => by
    obtain ⟨_, _, _, z2⟩ := cellK x b z
    rw [z2] at e; cases e
  refine ⟨v, mixL cl H H2, J.os, J.bare, ⟨fun b o e n hf hx => un.keep b o e (by rw [d1 b (nc b n)]; exact n) hf hx, fun b o e n hf hx => un.slot b o e (by rw [d1 b (nc b n)]; exact n) hf hx, fun b o e n hx => by rw [m1 b (nc b n)]; exact un.free b o e (by rw [d1 b (nc b n)]; exact n) hx, un.there, fun b xs e => ?_, fun b o a e => ?_, fun b qs ps e => ?_⟩, fun b u e => ?_, rv, q fun b ⟨x, z⟩ => let ⟨_, _, _, z2⟩ := cellK x b z; z2⟩
  · have hc := zbs hcl e fun _ _ y => nomatch y
    rw [m1 b hc]; exact un.tups b xs (by rw [d1 b hc]; exact e)
  · by_cases hc : InCl cl b
    · show (if InCl cl b then H b else H2 b) = _
      rw [if_pos hc]; exact e
    · rw [m1 b hc]; exact un.frzs b o a (by rw [d1 b hc]; exact e)
  · have hc := zbs hcl e fun _ _ y => nomatch y
    rw [m1 b hc]; exact un.tbls b qs ps (by rw [d1 b hc]; exact e)
  · by_cases hc : InCl cl b
    · have e' : H b = some u := by rw [← e]; exact (if_pos hc).symm
      obtain ⟨x, z⟩ := hc
      obtain ⟨o, z1, z2, _⟩ := cellK x b z
      rw [z1] at e'; cases e'
      exact ⟨z2, o, z2⟩
    · rw [m1 b hc] at e
      exact (J.hok b u e).stay (fun _ _ _ z => z) (fun c z => by rw [m1 c (nm c _ z)]; exact z) (fun c _ _ _ _ z => by rw [m1 c (nm c _ z)]; exact z) fun c xs z => by rw [m1 c (nm c _ z)]; exact z
end
section
variable {P : Program} {w : World} {K : PySem.W.Frag} {mg : Str → Option Value} {base : Heap} {H : Hp} {own ps cap : List Str} {name qual : Str} {params : Arguments} {scope : Scope} {cl : List (Str × Addr)} {f c' : Addr} {oc : Obj} {ct pm : Value} {cv : List V} {k : Nat} {sp : Sp}
theorem Caps.frz {H H' : Hp} (g : Frz H H') : ∀ {cap : List Str} {cv : List V}, Caps H cl cap cv → Caps H' cl cap cv
  | _, _, .nil => .nil
  | _, _, .cons ⟨c, o, u, e1, e2, e3⟩ t => .cons ⟨c, o, u, e1, g _ _ _ e2, e3⟩ (Caps.frz g t)
theorem zl3 {body : List Stmt} (S : CloScope own ps cap scope) (hlo : ps.length ≤ own.length) (hf : H f = some (fnO (cloFd name qual params (.stmts body) scope cl ct (.ref c') pm) f)) (hcode : H c' = some (.frz oc (.own c'))) (co : CodeObj oc qual)
    (hcl : ∀ x c, cl.lookup x = some c → ∃ o v, H c = some (.frz o (.own c)) ∧ o.data = .cell v) (hfr : ∀ p ∈ scope.names, p.2 = .free → ∃ c, cl.lookup p.1 = some c) (inj : ∀ x y c, cl.lookup x = some c → cl.lookup y = some c → x = y) (hcap : Caps H cl cap cv)
    (hbind : ∀ us : List Value, us.length = ps.length → bindArgs (cloFd name qual params (.stmts body) scope cl ct (.ref c') pm) ⟨us, []⟩ = pure (ps.zip us))
    (hbody : ∀ (A : Around) (outer : List Env) (s : Shared) (H' : Hp) (vs : List V) (Q : VK), Room k (A.deeper (envL qual scope cl s.heap.objs.size f (.ref c'))) → Frz H H' → vs.length = ps.length → sp vs H' Q E0 →
      ∃ t, PSs (cxL P w K mg base (own ++ cap) qual scope cl f (.ref c') A outer s H') body t ∧ t { nx := fun _ H2 => (∀ b, InCl cl b → H2 b = none) → Q .non (mixL cl H' H2), rt := fun v H2 => (∀ b, InCl cl b → H2 b = none) → Q v (mixL cl H' H2) } (stL own vs cv) (dropL cl H')) : CloH P w K mg base (k + 1) H f ps.length sp := by
  intro A outer s H' us vs Q hr e0 fz r hl hsp
  have KX : K.In s.heap := e0.mod.kin.keeps fun b o e => (e0.bs b o e).1
  have lim : s.heap.NoLimit := e0.mod.nolimit.keeps fun b o e => (e0.bs b o e).1
  have ho := (e0.hok f _ (fz _ _ _ hf)).1
  have hoc := (e0.hok c' _ (fz _ _ _ hcode)).1
  obtain ⟨ws, t', cd1, cd2⟩ := co
  have hlu : us.length = ps.length := by rw [← r.length]; exact hl
  have hcl' : ∀ x c, cl.lookup x = some c → ∃ o v, H' c = some (.frz o (.own c)) ∧ o.data = .cell v := fun x c e => let ⟨o, v, z, d⟩ := hcl x c e; ⟨o, v, fz _ _ _ z, d⟩
  refine codeAny_call_function hr.depth ho rfl S.co S.gen rfl ⟨c', oc, ws, t', rfl, hoc, cd1, cd2⟩ ?_
  rw [hbind us hlu]
  refine wpAny_pure (wpAny_newFunctionEnv S.nocell (fun y hy => S.par y.1 (List.of_mem_zip (show (y.1, y.2) ∈ ps.zip us from hy)).1) (fun h1 hns hsb => ?_) S.kind)
  have hk : ∀ b o, s.heap.get? b = some o → h1.get? b = some o := fun b o e => hsb.extBut b o (Nat.ne_of_lt (Heap.lt_size e)) (Heap.get?_push_of_some _ e)
  refine ⟨lim.keeps hk, codeAny_func ?_⟩
  obtain ⟨t, ht, hq⟩ := hbody A outer s H' vs Q (hr.deeper _) fz hl hsp
  have I := zpy (qual := qual) (f := f) (cd := .ref c') (tk := s.toks + (ps.zip us).length) S hr.hd e0 hl hlo r hcl' hfr inj (hcap.frz fz) hns hk
  refine wpAny_mono (ht [] _ _ _ _ I hq) (fun fl s' hs => ?_) fun _ _ z => z.elim
  cases fl with
  | ret u =>
    obtain ⟨v, σ', H2, J, rv, q⟩ := hs
    exact zl4 e0 hcl' J rv q
  | next =>
    obtain ⟨σ', H2, J, q⟩ := hs
    exact zl4 (v := V.non) (u := Value.none) e0 hcl' J rfl q
  | brk =>
    obtain ⟨_, _, _, q⟩ := hs
    exact False.elim q
  | cont =>
    obtain ⟨_, _, _, q⟩ := hs
    exact False.elim q
end
structure FunC (K : PySem.W.Frag) (x : Str) (st : Stmt) (f : Addr) (fd : FuncData) (c : Addr) : Prop where
  ex : ∃ (oc : Value) (od : Option Addr) (kV doc pm : Value) (an : Option Addr) (ct : Value) (osl : Array (Option Value)),
    fd = PySem.W.fnOf x x (defArgs st) (defBody st) (defScope st) .none kV doc pm an (.ref c) ct ∧ K.lookup f = some ⟨oc, od, .func fd, osl⟩ ∧ PySem.W.codeIn K (.ref c) x = true
  kp : PySem.W.keepIn K (.ref f) = true
structure DfnC (K : PySem.W.Frag) (mg : Str → Option Value) (x : Str) (st : Stmt) (ps : List Str) (c P : Addr) : Prop where
  ex : ∃ f fd, FunC K x st f fd c ∧ Binds K fd ps [] ∧ mg x = some (.ref f)
  code : KCode K c P
theorem kcode_mk {K : PySem.W.Frag} {c P : Addr} {od : Option Addr} {vs : Array Value} {sl : Array (Option Value)} {file : Str} {tf tg tt : Tok} {flags text : Int} {inF : Bool} (l : K.lookup c = some ⟨.type "code", od, .fields vs, sl⟩)
    (e11 : vs[11]? = some (.ref P)) (e18 : vs[18]? = some (.str file tf)) (e7 : vs[7]? = some (.int flags tg)) (e9 : vs[9]? = some (.bool inF)) (e10 : vs[10]? = some (.int text tt)) (ne : c ≠ P) : KCode K c P := by
  have g : ∀ {i : Nat} {v : Value}, vs[i]? = some v → vs.getD i .none = v := fun {i v} e => by rw [Array.getD_eq_getD_getElem?, e]; rfl
  exact ⟨_, vs, file, tf, flags, tg, inF, text, tt, l, rfl, rfl, e11, g e11, g e18, g e7, g e9, g e10, ne⟩
theorem dfnc_mk {K : PySem.W.Frag} {h : Heap} {mg : Str → Option Value} {x : Str} {st : Stmt} {ps : List Str} {f c P : Addr} {oc : Value} {od an : Option Addr} {osl : Array (Option Value)} {kV doc pm ct : Value} (X : K.In h) (G : h.Ns mainGlobals mg)
    (a : PySem.W.nsIn K mainGlobals x = some (some (.ref f))) (l : K.lookup f = some ⟨oc, od, .func (PySem.W.fnOf x x (defArgs st) (defBody st) (defScope st) .none kV doc pm an (.ref c) ct), osl⟩)
    (cd : PySem.W.codeIn K (.ref c) x = true) (k : PySem.W.keepIn K (.ref f) = true) (kc : KCode K c P)
    (hb : ∀ (kV doc pm : Value) (an : Option Addr) (cdv ct : Value) (us : List Value), us.length = ps.length → bindArgs (PySem.W.fnOf x x (defArgs st) (defBody st) (defScope st) .none kV doc pm an cdv ct) ⟨us, []⟩ = pure (ps.zip us)) : DfnC K mg x st ps c P :=
  ⟨⟨f, _, ⟨⟨oc, od, kV, doc, pm, an, ct, osl, rfl, l, cd⟩, k⟩, (zde l cd k).binds hb, PySem.W.mg_of X G a⟩, kc⟩
section
variable {P : Program} {w : World} {K : PySem.W.Frag} {mg : Str → Option Value} {base : Heap}
theorem DfnC.cal {x : Str} {st : Stmt} {N ps : List Str} {k : Nat} {sp : Sp} {c Pt : Addr} (d : DfnC K mg x st ps c Pt) (S : FnScope N ps (defScope st)) (len : ∀ vs H Q E, sp vs H Q E → vs.length = ps.length)
    (hbody : ∀ (f : Addr) (A : Around) (outer : List Env) (s : Shared) (H : Hp) (vs : List V) (Q : VK) (E : XK), Room k (A.deeper (envOfC x (defScope st) s.heap.objs.size f (.ref c))) → sp vs H Q E →
      ∃ t, PSs (cxOf CX0 P w K mg base N x (defScope st) f (.ref c) A outer s H E).nox (defBody st) t ∧ t { nx := fun _ H' => Q .non H', rt := Q } (start N vs) H) : Cal P w K mg base (k + 1) x ps sp := by
  obtain ⟨f, fd, F, b, m⟩ := d.ex
  obtain ⟨oc, od, kV, doc, pm, an, ct, osl, rfl, lk, hcd⟩ := F.ex
  refine ⟨f, _, zrb lk hcd S len fun A outer s H vs Q E hr hsp => ?_, b, F.kp, m⟩
  obtain ⟨t, h, q⟩ := hbody f A outer s H vs Q E hr hsp
  exact ⟨t, h.nox, q⟩
end
def TabFor (q : Program) (K : PySem.W.Frag) (mg : Str → Option Value) (b : Addr) : Prop := ∃ d ∈ recsOf q, ∃ f oc od fd osl c, mg d.name = some (.ref f) ∧ K.lookup f = some ⟨oc, od, .func fd, osl⟩ ∧ fd.code = .ref c ∧ KCode K c b
theorem DfnC.tab {q : Program} {K : PySem.W.Frag} {mg : Str → Option Value} {x : Str} {st : Stmt} {ps : List Str} {c b : Addr} (d : DfnC K mg x st ps c b) (hx : ((recsOf q).any fun r => r.name == x) = true) : TabFor q K mg b := by
  obtain ⟨r, hr, e⟩ := List.any_eq_true.mp hx
  obtain ⟨f, fd, F, _, m⟩ := d.ex
  obtain ⟨oc, od, kV, doc, pm, an, ct, osl, rfl, lk, hcd⟩ := F.ex
  exact ⟨r, hr, f, oc, od, _, osl, c, by rw [beq_iff_eq.mp e]; exact m, lk, rfl, d.code⟩
def TabsOf (q : Program) (mg : Str → Option Value) (h : Heap) : Prop := ∀ d ∈ recsOf q, ∃ a o fd c P, mg d.name = some (.ref a) ∧ h.get? a = some o ∧ o.data = .func fd ∧ fd.code = .ref c ∧ h.IsCode c P #[] ∧ h.TableAt c P #[]
theorem TabFor.at {q : Program} {K : PySem.W.Frag} {mg : Str → Option Value} {h : Heap} {b : Addr} (t : TabFor q K mg b) (X : K.In h) (T : TabsOf q mg h) : ∃ c, h.TableAt c b #[] := by
  obtain ⟨d, hd, f, oc, od, fd, osl, c, m, lk, ec, kc⟩ := t
  obtain ⟨a, o, fd', c', P', m', ho, hf, hc, _, ta⟩ := T d hd
  rw [m] at m'; cases m'
  rw [X f _ lk] at ho; cases ho
  cases hf
  rw [ec] at hc; cases hc
  obtain ⟨o, vs, _, _, _, _, _, _, _, lk', _, hd', h11, _⟩ := kc
  obtain ⟨⟨o2, vs2, e1, e2, e3, e4⟩, e5⟩ := id ta
  rw [X c o lk'] at e1; cases e1
  rw [hd'] at e3; cases e3
  rw [h11] at e4; cases e4
  exact ⟨c, ta⟩
def OnlyT (ts : List (Addr × List (Pos × Str))) (H : Hp) : Prop := (∀ b, H b = none ∨ (∃ o xs, H b = some (.frz o (.lst xs))) ∨ ∃ qs, ts.lookup b = some qs ∧ H b = some (.tbl qs #[])) ∧ ∀ b qs, ts.lookup b = some qs → H b = some (.tbl qs #[])
theorem OnlyT.tab {ts : List (Addr × List (Pos × Str))} {H : Hp} (h : OnlyT ts H) {b : Addr} {qs : List (Pos × Str)} (e : ts.lookup b = some qs) : TabOk H b qs := ⟨#[], h.2 b qs e⟩
theorem zk7 {P : Program} {w : World} {K : PySem.W.Frag} {mg mb : Str → Option Value} {CX : CXT} {k : Nat} {fa a : Addr} {fd : FuncData} {x : Str} {sp : Sp} {s₁ : Shared} {vs : List Value} {ns : List Int} {ts : List (Addr × List (Pos × Str))}
    (KX : K.In s₁.heap) (hns : s₁.heap.Ns mainGlobals mg) (hb : s₁.heap.Ns builtinsNs mb) (hbb : ∀ x : Str, x ≠ "__name__" → mb x = bootBuiltins x) (hlim : s₁.heap.NoLimit) (hg : s₁.gens = #[])
    (ha : s₁.heap.get? a = some { cls := .type "list", data := .seq vs.toArray }) (hi : IntsAre vs ns) (hl : ns.length ≤ sizeLine) (hr : Room k callerA)
    (hbm : BltK s₁.heap mg) (hts : ∀ b qs, ts.lookup b = some qs → ∃ c, s₁.heap.TableAt c b #[]) (hKt : ∀ b qs, ts.lookup b = some qs → K.lookup b = none)
    (F : ∀ base : Heap, K.In base → base.Ns mainGlobals mg → BltK base mg → FnOk P w K mg base CX k fa fd [x] sp) (hbind : ∀ (s : Shared) (u : Value), BindsTo s fd ⟨[u], []⟩ [(x, u)])
    (hsp : ∀ H : Hp, OnlyT ts H → SqL K H a (ns.map V.int) → sp [.ref a] H (fun v _ => v = .bl true) fun _ _ _ => False)
    (hCX : ∀ H e s', CX [] H s₁ (fun _ _ _ => False) e s' → False) :
    codeAny (model P w) callerA (.call (.ref fa) ⟨[.ref a], []⟩) (fun r s' => r = .ok (.ret (.bool true)) ∧ OldK s₁.heap s'.heap ∧ s'.os = s₁.os ∧ AllBare s'.gens) s₁ := by
  have rv := zfr hi
  have lenV := hi.length
  have core : ∀ H : Hp, OnlyT ts H → SqL K H a (ns.map V.int) → HOk P w H s₁.heap → (∀ b, H b ≠ none → b = a ∨ ∃ qs, ts.lookup b = some qs) → (H a ≠ none → K.lookup a = none) →
      codeAny (model P w) callerA (.call (.ref fa) ⟨[.ref a], []⟩) (fun r s' => r = .ok (.ret (.bool true)) ∧ OldK s₁.heap s'.heap ∧ s'.os = s₁.os ∧ AllBare s'.gens) s₁ := by
    intro H hO hS hok hA hK
    have base_of : ∀ {b : Addr} {o : Obj}, s₁.heap.get? b = some o → H b = none → (hidT s₁.heap H).get? b = some o := fun e n => znn e n
    have noT : ∀ {b : Addr} {o : Obj}, s₁.heap.get? b = some o → (∀ q n, o.data ≠ .seq q n) → (∀ ps, o.data ≠ .fields ps ∨ o.cls ≠ .none) → H b = none := fun {b o} e n1 n2 => by
      cases q : H b with
      | none => rfl
      | some u =>
        rcases hA b (by rw [q]; simp) with e' | ⟨qs, e'⟩
        · subst e'
          rw [ha] at e; cases e
          exact absurd rfl (n1 _ _)
        · obtain ⟨c, _, e5⟩ := hts b qs e'
          rw [e5] at e; cases e
          rcases n2 #[] with z | z
          · exact absurd rfl z
          · exact absurd rfl z
    have noA : ∀ {b : Addr} {o : Obj} {es : Array DictEntry} {ep : Nat}, s₁.heap.get? b = some o → o.data = .dict es ep → H b = none := fun {b o es ep} e d => noT e (fun q n z => by rw [d] at z; cases z) fun ps => .inl fun z => by rw [d] at z; cases z
    have nsK : ∀ {b : Addr} {m : Str → Option Value}, s₁.heap.Ns b m → (hidT s₁.heap H).Ns b m := fun {b m} ⟨o, es, ep, e, d, r⟩ => ⟨o, es, ep, base_of e (noA e d), d, r⟩
    have hKb : K.In (hidT s₁.heap H) := fun b o e => base_of (KX b o e) (by
      cases q : H b with
      | none => rfl
      | some u =>
        rcases hA b (by rw [q]; simp) with e' | ⟨qs, e'⟩
        · subst e'
          rw [hK (by rw [q]; simp)] at e; cases e
        · rw [hKt b qs e'] at e; cases e)
    have hBb : BltK (hidT s₁.heap H) mg := by
      obtain ⟨bm, o, b1, b2, b3, b4, b5, b6⟩ := hbm
      exact ⟨bm, o, b1, b2, base_of b3 (noT b3 (fun q n z => by rw [b6] at z; cases z) fun ps => .inl fun z => by rw [b6] at z; cases z), b4, b5, b6⟩
    have hM : Mod K mg (hidT s₁.heap H) := ⟨hKb, nsK hns, ⟨mb, nsK hb, hbb⟩, let ⟨mc, h1, h2⟩ := hlim; ⟨mc, nsK h1, h2⟩⟩
    have e0 : Env0 P w K mg (hidT s₁.heap H) callerA [] s₁ H := ⟨rfl, hM, fun b o e => zpr e, Nat.le_of_eq (zlf _ _), trivial, fun b hb => absurd (show b ∈ ([] : List Addr) from hb) (by simp), hok, .of_eq hg⟩
    refine codeAny_mono ((F _ hKb (nsK hns) hBb).run callerA [] s₁ H ⟨[.ref a], []⟩ [.ref a] [.ref a] _ _ hr e0 (hbind s₁ (.ref a)) (.cons rfl .nil) (hsp H hO hS)) fun r s' h => ?_
    cases r with
    | error e => exact (hCX H e s' h).elim
    | ok fl =>
      cases fl with
      | next => exact False.elim h
      | brk => exact False.elim h
      | cont => exact False.elim h
      | ret u =>
        obtain ⟨v, H', os, bare, un, hok', r', q⟩ := h
        have q' : v = .bl true := q
        subst q'
        obtain rfl : u = Value.bool true := r'
        have was : ∀ b o, s₁.heap.get? b = some o → asItWas s₁.heap s'.heap b o := fun b o e => by
          rcases hO.1 b with z | ⟨ob, xs, z⟩ | ⟨qs, l, z⟩
          · exact .inl (un.keep b o e z (by intro z; exact absurd (show b ∈ ([] : List Addr) from z) (by simp)) (by simp))
          · have z2 := un.frzs b ob _ z
            obtain ⟨e1, _⟩ := hok b _ z
            obtain ⟨e2, _⟩ := hok' b _ z2
            rw [e] at e1; cases e1
            exact .inl e2
          · have z2 := un.tbls b qs _ z
            obtain ⟨more, e2, _⟩ := hok' b _ z2
            obtain ⟨c, ta⟩ := hts b qs l
            have e5 := ta.2
            rw [e5] at e; cases e
            exact .inr (.inl ⟨ta.isCodeTable, rfl, #[], more, rfl, e2⟩)
        exact ⟨rfl, ⟨was, fun b o e => un.there b o e (by simp)⟩, os, bare⟩
  have neA : ∀ qs, ts.lookup a = some qs → False := fun qs e => by
    obtain ⟨c, _, e5⟩ := hts a qs e
    rw [e5] at ha; cases ha
  have tabOk : ∀ (H : Hp) b qs, ts.lookup b = some qs → ObjOk P w H s₁.heap b (.tbl qs #[]) := fun H b qs e => by
    obtain ⟨c, _, e5⟩ := hts b qs e
    exact ⟨#[], by simpa using e5, trivial, fun p hp v z => by simp [codeAmong] at z⟩
  let HT : Hp := fun b => (ts.lookup b).map fun qs => .tbl qs #[]
  have hT1 : ∀ b qs, ts.lookup b = some qs → HT b = some (.tbl qs #[]) := fun b qs e => by show (ts.lookup b).map _ = _; rw [e]; rfl
  have hT2 : ∀ b, ts.lookup b = none → HT b = none := fun b e => by show (ts.lookup b).map _ = _; rw [e]; rfl
  cases hk : K.lookup a with
  | some o =>
    have e := KX a o hk
    rw [ha] at e
    cases e
    refine core HT ⟨fun b => ?_, hT1⟩ (.inr ⟨_, vs.toArray, _, hk, rfl, rfl, rfl, by rw [List.size_toArray, lenV]; exact hl, by simpa using rv⟩) (fun b u z => ?_) (fun b z => ?_) fun z => ?_
    · cases e : ts.lookup b with
      | none => exact .inl (hT2 b e)
      | some qs => exact .inr (.inr ⟨qs, rfl, hT1 b qs e⟩)
    · cases e : ts.lookup b with
      | none => rw [hT2 b e] at z; cases z
      | some qs => rw [hT1 b qs e] at z; cases z; exact tabOk _ b qs e
    · cases e : ts.lookup b with
      | none => exact absurd (hT2 b e) z
      | some qs => exact .inr ⟨qs, rfl⟩
    · cases e : ts.lookup a with
      | none => exact absurd (hT2 a e) z
      | some qs => exact (neA qs e).elim
  | none =>
    let H1 : Hp := fun b => if b = a then some (.frz { cls := .type "list", data := .seq vs.toArray } (.lst (ns.map V.int))) else HT b
    have h1a : H1 a = some (.frz { cls := .type "list", data := .seq vs.toArray } (.lst (ns.map V.int))) := if_pos rfl
    have h1b : ∀ b, b ≠ a → H1 b = HT b := fun b e => if_neg e
    refine core H1 ⟨fun b => ?_, fun b qs e => ?_⟩ (.inl (.inr ⟨{ cls := .type "list", data := .seq vs.toArray }, h1a⟩)) (fun b u z => ?_) (fun b z => ?_) fun _ => hk
    · by_cases hb : b = a
      · subst hb; exact .inr (.inl ⟨_, _, h1a⟩)
      · rw [h1b b hb]
        cases e : ts.lookup b with
        | none => exact .inl (hT2 b e)
        | some qs => exact .inr (.inr ⟨qs, rfl, hT1 b qs e⟩)
    · rw [h1b b fun z => neA qs (z ▸ e)]; exact hT1 b qs e
    · by_cases hb : b = a
      · subst hb
        rw [h1a] at z; cases z
        exact ⟨ha, by rw [List.length_map]; exact hl, vs, _, rv, ha⟩
      · rw [h1b b hb] at z
        cases e : ts.lookup b with
        | none => rw [hT2 b e] at z; cases z
        | some qs => rw [hT1 b qs e] at z; cases z; exact tabOk _ b qs e
    · by_cases hb : b = a
      · exact .inl hb
      · rw [h1b b hb] at z
        cases e : ts.lookup b with
        | none => exact absurd (hT2 b e) z
        | some qs => exact .inr ⟨qs, rfl⟩
theorem walk_ofT {l : PySem.W.OpenLaw} {n k : Nat} {q : Program} {loose : List Str} {XP : (Str → Option Value) → Heap → Prop} {YP : World → Heap → Prop} {d : DefRec} {K : Params → PySem.W.Frag} {CX : CXT} {sp : PySem.W.Frag → List (Addr × List (Pos × Str)) → Sp} {x : Str}
    (hn : l.most = some n) (hn2 : n ≤ sizeLine) (hdf : d.params.defaults = []) (hr : Room k callerA)
    (hY : ∀ (w : World) (h : Heap), YP w h → (K w.params).In h)
    (F : ∀ (w : World) (mg : Str → Option Value) (fa : Addr) (h : Heap), (K w.params).In h → h.Ns mainGlobals mg → mg d.name = some (.ref fa) →
      ∃ (fd : FuncData) (ts : List (Addr × List (Pos × Str))), (∀ (s : Shared) (u : Value), BindsTo s fd ⟨[u], []⟩ [(x, u)]) ∧ (∀ b qs, ts.lookup b = some qs → TabFor q (K w.params) mg b ∧ (K w.params).lookup b = none) ∧
        ∀ base : Heap, (K w.params).In base → base.Ns mainGlobals mg → BltK base mg → FnOk l.prog w (K w.params) mg base CX k fa fd [x] (sp (K w.params) ts))
    (hsp : ∀ (K : PySem.W.Frag) (ts : List (Addr × List (Pos × Str))) (H : Hp) (a : Addr) (ns : List Int), ns.length ≤ n → OnlyT ts H → SqL K H a (ns.map V.int) → sp K ts [.ref a] H (fun v _ => v = .bl true) fun _ _ _ => False)
    (hCX : ∀ (H : Hp) (s : Shared) (e : Value) (s' : Shared), CX [] H s (fun _ _ _ => False) e s' → False) :
    PySem.W.WalkO q loose XP YP l.row.toRowW d [] (fun f vs => PySem.call f vs) := by
  refine Att.attach_call hn hdf fun w s₀ s₁ mg mb fa o pm cd doc a vs ns G Y ho hd hcd hmg hobj hints hlen hg => ?_
  have KX := hY w _ Y
  obtain ⟨fd, ts, hb, ht, hF⟩ := F w mg fa _ KX G.T.g hmg
  exact zk7 KX G.T.g G.T.b G.T.builtins G.T.nolimit hg hobj hints (Nat.le_trans hlen hn2) hr G.T.bmain (fun b qs e => (ht b qs e).1.at KX G.T.tab) (fun b qs e => (ht b qs e).2) hF hb (fun H hO hS => hsp (K w.params) ts H a ns hlen hO hS) fun H e s' => hCX H s₁ e s'
theorem zob : ∀ {ts : List (Addr × List (Pos × Str))} {b : Addr} {qs : List (Pos × Str)}, ts.lookup b = some qs → (b, qs) ∈ ts
  | [], _, _, e => by simp at e
  | (a, q) :: ts, b, qs, e => by
    rw [List.lookup_cons] at e
    split at e
    · rename_i z
      cases e
      rw [show b = a from beq_iff_eq.mp z]; exact List.mem_cons_self
    · exact List.mem_cons_of_mem _ (zob e)
theorem ts_all {ts : List (Addr × List (Pos × Str))} {R : Addr → Prop} (h : ∀ p ∈ ts, R p.1) : ∀ b qs, ts.lookup b = some qs → R b := fun b qs e => h (b, qs) (zob e)
theorem zkm {X : Cx} {n k : Nat} {x : Str} {ps : List Str} {sp : Sp} {p pos : Pos} {e : Expr} {es : List Expr} {t : TA} (C : Cal X.prog X.w X.K X.mg X.base n x ps sp) (hr : Room k X.A) (hle : n ≤ k) (hg : Gl X x) (hfn : ∀ x, X.fn x = true) (ha : PA X (e :: es) t) (hdb : (x == ("__debug__" : Str)) = false := by decide)
    (h1 : notStar e = true := by rfl) (h2 : es.all notStar = true := by rfl) : PE X (.Call (.Name x p) (e :: es) [] pos) (tCallA X sp t) := by
  obtain ⟨f, fd, F, b, kp, m⟩ := C.ex
  exact zm2 F (hr.mono hle) hg m kp b hfn ha hdb (za9 h1) (zbn h2)
theorem zkk {X : Cx} {x : Str} (i k n : Nat) (sp : Sp) {m : Nat} {p pos : Pos} {e : Expr} {es : List Expr} {t : TA} (hr : Room m X.A) (hle : k ≤ m) (ha : PA X (e :: es) t) (hN : X.N[i]? = some x := by rfl) (hv : Vis X.env.scope x := by first | exact Or.inl rfl | exact Or.inr (Or.inl rfl) | exact Or.inr (Or.inr rfl))
    (hd : (x == ("__debug__" : Str)) = false := by decide) (hcd : (x == ("__classdict__" : Str)) = false := by decide) (h1 : notStar e = true := by rfl) (h2 : es.all notStar = true := by rfl) :
    PE X (.Call (.Name x p) (e :: es) [] pos) (tCallV X.prog X.w X.K X.mg X.base k n sp i t) := zm0 hN hv (hr.mono hle) ha hd hcd (za9 h1) (zbn h2)
def freeOk (env : Env) (sc : Scope) : Bool := sc.names.all fun p => p.2 != .free || (env.kindOf p.1 == some .cell || env.kindOf p.1 == some .free)
theorem freeOk.of {env : Env} {sc : Scope} (h : freeOk env sc = true) : ∀ p ∈ sc.names, p.2 = .free → env.kindOf p.1 = some .cell ∨ env.kindOf p.1 = some .free := fun p hp e => by
  have q := List.all_eq_true.mp h p hp
  rw [e] at q
  simpa using q
def oneOk (qs : List (Pos × Str)) (pos : Pos) (qual : Str) : Bool := qs.any (fun p => p.1.line == pos.line && p.1.col == pos.col && p.1.endLine == pos.endLine && p.1.endCol == pos.endCol && p.2 == qual) && qs.all fun p => p.1.line != pos.line || p.1.col != pos.col || p.2 == qual
theorem oneOk.one {qs : List (Pos × Str)} {pos : Pos} {qual : Str} (h : oneOk qs pos qual = true) : ∀ p ∈ qs, p.1.line = pos.line → p.1.col = pos.col → p.2 = qual := fun p hp e1 e2 => by
  have q := List.all_eq_true.mp (Bool.and_eq_true _ _ ▸ h : _ ∧ _).2 p hp
  rw [e1, e2] at q
  simpa using q
theorem oneOk.mem {qs : List (Pos × Str)} {pos : Pos} {qual : Str} (h : oneOk qs pos qual = true) : (pos, qual) ∈ qs := by
  obtain ⟨p, hp, e⟩ := List.any_eq_true.mp (Bool.and_eq_true _ _ ▸ h : _ ∧ _).1
  simp only [Bool.and_eq_true, beq_iff_eq] at e
  obtain ⟨⟨⟨⟨e1, e2⟩, e3⟩, e4⟩, e5⟩ := e
  have : p = (pos, qual) := by
    obtain ⟨⟨a, b, c, d⟩, z⟩ := p
    obtain ⟨a', b', c', d'⟩ := pos
    simp only at e1 e2 e3 e4 e5
    subst e1 e2 e3 e4 e5
    rfl
  rw [← this]; exact hp
section
variable {X : Cx} {c P : Addr} {qs : List (Pos × Str)} {pos : Pos} {params : Arguments} {scope : Scope}
theorem zql (qual : Str) {name : Str} {j : Nat} {body : List Stmt} (hc : X.env.code = .ref c) (kc : KCode X.K c P) (kb : BltK X.base X.mg) (hfr : freeOk X.env scope = true) (hq : oneOk qs pos qual = true) (hN : X.N.Nodup) (hj : X.N[j]? = some name) (hx : X.env.scope.names.lookup name = some .local) (nd : docOf body = none := by rfl)
    (hd : params.defaults = [] := by rfl) (hk : params.kw_defaults = [] := by rfl) (ha : ∀ e, annTrees params none e = [] := by intro e; rfl) (hqual : qualnameIn X.env name name = qual := by rfl) :
    PS X (.FunctionDef name params body [] none [] scope none name pos) (tDef X P qs name qual params (.stmts body) scope j) := zo6 hc kc kb (freeOk.of hfr) nd (oneOk.mem hq) (oneOk.one hq) hd hk ha hqual hN hj hx
end
open Classical
theorem Adopted.up {X : Cx} {σ : St} {H1 Hq : Hp} (ad : Adopted X σ H1 Hq) : Same H1 Hq := fun b u e => by
  have hc : ¬ CellOf X b := fun hc => by rw [ad.2.1 b hc] at e; cases e
  rw [ad.1 b hc]; exact e
def SameN (H H' : Hp) : Prop := ∀ b u, H b = some u → (∀ o a, u ≠ .frz o a) → H' b = some u
section
variable {cl : List (Str × Addr)} {H : Hp}
def ClOk (cl : List (Str × Addr)) (H : Hp) : Prop := ∀ x c, cl.lookup x = some c → ∃ o v, H c = some (.frz o (.own c)) ∧ o.data = .cell v
theorem ClOk.n (hcl : ClOk cl H) : SameN H (dropL cl H) := fun b u e n => by
  show (if InCl cl b then none else H b) = some u
  rw [if_neg (zbs hcl e n)]; exact e
theorem zq1 {H2 : Hp} (g : ∀ b, InCl cl b → H2 b = none) : Same H2 (mixL cl H H2) := fun b u e => by
  show (if InCl cl b then H b else H2 b) = some u
  rw [if_neg fun hc => by rw [g b hc] at e; cases e]; exact e
end
def CapAt (X : Cx) (σ : St) (cap : List Str) (cv : List V) : Prop := Paired (fun x v => ∃ i : Nat, X.N[i]? = some x ∧ σ[i]? = some (some v) ∧ (X.env.kindOf x = some .cell ∨ X.env.kindOf x = some .free)) cap cv
theorem zl8 {X : Cx} {σ : St} {H1 Hq : Hp} (ad : Adopted X σ H1 Hq) {cl : List (Str × Addr)} (h1 : ∀ x c, cl.lookup x = some c → X.env.cells.lookup x = some c) : ∀ {cap : List Str} {cv : List V}, (∀ x ∈ cap, ∃ c, cl.lookup x = some c) → CapAt X σ cap cv → Caps Hq cl cap cv
  | _, _, _, .nil => .nil
  | x :: _, _ :: _, hc, .cons ⟨i, e1, e2, e3⟩ t => by
    obtain ⟨c, lc⟩ := hc x List.mem_cons_self
    obtain ⟨o, v, z1, z2, z3⟩ := ad.2.2.2 x c (h1 x c lc)
    obtain ⟨u, ru, rfl⟩ := z3 i _ e1 e2 e3
    exact .cons ⟨c, o, u, lc, z1, z2, ru⟩ (zl8 ad h1 (fun y hy => hc y (List.mem_cons_of_mem _ hy)) t)
section
variable {X : Cx} {H H1 H1' Hq : Hp} {σ : St} {name qual : Str} {params : Arguments} {scope : Scope} {f : Addr} {own ps cap : List Str} {cv : List V} {k : Nat} {sp : Sp}
theorem Made.fn {body : FuncBody} (M : Made X H H1 name qual params body scope f) : ∃ fd, H1 f = some (fnO fd f) := by
  obtain ⟨cl, ct, c', oc, pm, _, _, _, _, h⟩ := M.ex
  exact ⟨_, h⟩
theorem znq {cl : List (Str × Addr)} {H' : Hp} (ad : Adopted X σ H1' Hq) (l1 : ∀ x c, cl.lookup x = some c → X.env.cells.lookup x = some c) (fz : Frz Hq H') : Frz H1' (dropL cl H') := fun b o u e => by
  have nc : ¬ InCl cl b := fun ⟨x, z⟩ => by rw [ad.2.1 b ⟨x, l1 x b z⟩] at e; cases e
  show (if InCl cl b then none else H' b) = _
  rw [if_neg nc]
  exact fz _ _ _ (ad.up _ _ e)
theorem Made.clo_s {body : List Stmt} (M : Made X H H1 name qual params (.stmts body) scope f) (g : Same H1 H1') (ad : Adopted X σ H1' Hq) (S : CloScope own ps cap scope) (hlo : ps.length ≤ own.length) (hcap : CapAt X σ cap cv)
    (hbind : ∀ (cl : List (Str × Addr)) (ct cd pm : Value) (us : List Value), us.length = ps.length → bindArgs (cloFd name qual params (.stmts body) scope cl ct cd pm) ⟨us, []⟩ = pure (ps.zip us))
    (hbody : ∀ (cl : List (Str × Addr)) (c' : Addr) (A : Around) (outer : List Env) (s : Shared) (H' : Hp) (vs : List V) (Q : VK), Room k (A.deeper (envL qual scope cl s.heap.objs.size f (.ref c'))) → ClOk cl H' → Frz Hq H' → Frz H1' (dropL cl H') → vs.length = ps.length → sp vs H' Q E0 →
      ∃ t, PSs (cxL X.prog X.w X.K X.mg X.base (own ++ cap) qual scope cl f (.ref c') A outer s H') body t ∧ t { nx := fun _ H2 => (∀ b, InCl cl b → H2 b = none) → Q .non (mixL cl H' H2), rt := fun v H2 => (∀ b, InCl cl b → H2 b = none) → Q v (mixL cl H' H2) } (stL own vs cv) (dropL cl H')) : CloH X.prog X.w X.K X.mg X.base (k + 1) Hq f ps.length sp := by
  obtain ⟨cl, ct, c', oc, pm, l1, l2, l3, l4, l5⟩ := M.ex
  have hcl : ClOk cl Hq := fun x c e => let ⟨o, v, z1, z2, _⟩ := ad.2.2.2 x c (l1 x c e); ⟨o, v, z1, z2⟩
  have up := ad.up
  refine zl3 S hlo (up _ _ (g _ _ l5)) (up _ _ (g _ _ l3)) l4 hcl l2 (fun x y c e1 e2 => ad.2.2.1 x y c (l1 x c e1) (l1 y c e2)) (zl8 ad l1 (fun x hx => l2 (x, .free) (mem_of_lookup' (S.cap x hx)) rfl) hcap) (hbind cl ct _ pm) fun A outer s H' vs Q hr fz hl hsp => ?_
  exact hbody cl c' A outer s H' vs Q hr (fun x c e => let ⟨o, v, z, d⟩ := hcl x c e; ⟨o, v, fz _ _ _ z, d⟩) fz (znq ad l1 fz) hl hsp
end
end L2
namespace SM
open PySem PySem.Spec PyProof.Rows L2 SS
def zj2 (K : PySem.W.Frag) (ts : List (Addr × List (Pos × Str))) : Sp := fun vs H Q _ => ∃ (a : Addr) (ns : List Int), vs = [.ref a] ∧ SqL K H a (ns.map V.int) ∧ ns.length ≤ 63 ∧ OnlyT ts H ∧ ∀ H', Q (.bl true) H'
def back (bs : List Nat) : Nat := bs.reverse.foldl (fun f b => 2 * f + b) 0
def cnt (m : Mc) : Nat → Nat → Nat
  | 0, r => if m.fin r = true then 1 else 0
  | k + 1, r => ((m.ways.getD r []).map (cnt m k)).sum
def cl (m : Mc) (k : Nat) : List Nat := (List.range m.ends.length).map (cnt m k)
def NoLen (H : Hp) (v : V) (n : Int) : Prop := (∃ r : Int, v = .int r ∧ ¬ (0 ≤ r ∧ r < n)) ∨ ∃ k, Kd H v k ∧ k ≠ "int"
def zfv : Sp := fun vs H Q _ => ∃ v, vs = [v] ∧ ((∃ r : Int, v = .int r ∧ Q (.bl true) H) ∨ ∃ k, Kd H v k ∧ k ≠ "int" ∧ Q (.bl false) H)
def zf1 : Sp := fun vs H Q _ => ∃ (v : V) (n : Int), vs = [v, .int n] ∧ ((∃ r : Int, v = .int r ∧ 0 ≤ r ∧ r < n ∧ Q (.bl true) H) ∨ (NoLen H v n ∧ Q (.bl false) H))
end SM
namespace L2
open PySem PySem.Spec PyProof.Rows PySem.W PySem.Calls
theorem zbc {X : Cx} : OpR X (compareOp .LtE) (fun x y H Q => ∃ i j, x = .str i ∧ y = .str j ∧ Q (.bl (!(decide (j.cps.toList < i.cps.toList)))) H) := by
  intro pins s σ H x y v u Q I rx ry h
  obtain ⟨i, j, rfl, rfl, q⟩ := h
  obtain ⟨t, rfl⟩ := rx
  obtain ⟨t', rfl⟩ := ry
  exact PySem.P.le_str (zax I q rfl)
open PySem PySem.Spec PyProof.Rows
section
variable {tn : List Str} {cp : List (Nat × Str)} {g : TG} {tif : TT} {te : TE} {σ0 : St} {Q : VK} {H1 : Hp}
theorem zqb {K : PySem.W.Frag} {a : Addr} {xs : List V} (S : St → Prop) (p : Nat → Bool) (f : Nat → V) (hn : xs.length ≤ 1000) (ha : SqL K H1 a xs) (h0 : S (stB tn cp σ0))
    (hs : ∀ D i σ H x pt H2, xs[i]? = some x → Same H1 H → H1 D = none → H D = some (.lst (((List.range i).filter p).map f)) → S σ → New H pt (.tup [.int (i : Int), x]) H2 → g (.ref pt) σ H2 fun σ2 H3 => tif σ2 H3 fun c H4 =>
      if c = true then te σ2 H4 fun v H5 => CStep D xs.length i (PRnF S p f H1) σ2 v H5 else CSkip D xs.length i (PRnF S p f H1) σ2 H4)
    (hd : ∀ D H, H1 D = none → Same H1 H → H D = some (.lst (((List.range xs.length).filter p).map f)) → Q (.ref D) H) : cBody tn cp g tif te σ0 Q (Ite K a) H1 := by
  refine zl7 xs.length (fun D => PRnF S p f H1) (zaa hn) (fun D hD => ⟨zbg hD _, h0, rfl⟩) (fun D i ys σ H _ hi _ q => ⟨xs, xs[i], q.1.seq ha, List.getElem?_eq_getElem hi⟩) (fun D ys σ H _ _ q => ⟨xs, q.1.seq ha, Nat.le_refl _⟩) ?_ ?_
  · rintro D i ys σ H x H' hD hi hH hl ⟨p1, p2, rfl⟩ ⟨pt, u, e, n1, ex⟩
    subst e
    exact hs D i σ H u pt H' (ex xs (p1.seq ha)) p1 hD hH p2 n1
  · rintro D ys σ H hD hH hl ⟨p1, p2, rfl⟩
    exact hd D H hD p1 hH
end
end L2
namespace SM
open PySem PySem.Spec PyProof.Rows L2 SS
def cw (row : List Nat) (k : Nat) : Nat := (row.filter fun l => l / 2 ^ k % 2 == 1).length
def isP (z : Str) : Bool := isNm (.str z) SMALL
def fitB (names : List Str) (row : List Nat) : Bool := (List.range names.length).all fun k => !isP (names.getD k (Str.ofString "")) || cw row k == 1
def NmOk (z : Str) : Prop := Nam z SMALL ∨ Nam z GREAT
def FrOk (names : List Str) : Prop := names.length ≤ 4 ∧ ∀ z ∈ names, NmOk z
def zdr : Sp := fun vs H Q _ => ∃ (r : Int) (k : Nat), vs = [.int r, nV k] ∧ k ≤ 4 ∧ Q (.bl (decide (0 ≤ r ∧ r < 2 ^ k))) H
def zf0 : Sp := fun vs H Q _ => ∃ (r : Addr) (row : List Nat) (k : Nat), vs = [.ref r, nV k] ∧ H r = some (.lst (row.map nV)) ∧ row.length ≤ 200 ∧ (∀ l ∈ row, l < 32) ∧ k ≤ 4 ∧ ∀ H', Same H H' → Q (nV (cw row k)) H'
def zjz : Sp := fun vs H Q _ => ∃ (f r : Addr) (names : List Str) (row : List Nat), vs = [.ref f, .ref r] ∧ H f = some (.lst (names.map V.str)) ∧ FrOk names ∧ H r = some (.lst (row.map nV)) ∧ row.length ≤ 200 ∧ (∀ l ∈ row, l < 32) ∧ ∀ H', Same H H' → Q (.bl (fitB names row)) H'
theorem zri : ∀ l, l < 32 → ∀ t, t < 5 → Builtin.bitAnd (((l : Nat) : Int) / 2 ^ t) 1 = if (l / 2 ^ t % 2 == 1) = true then 1 else 0 := by decide +kernel
theorem zoh (k : Nat) (hk : k ≤ 4) : ∀ (row : List Nat), (∀ l ∈ row, l < 32) → (row.map fun (l : Nat) => Builtin.bitAnd ((l : Int) / 2 ^ k) 1).sum = ((cw row k : Nat) : Int)
  | [], _ => rfl
  | l :: row, h => by
    have ih := zoh k hk row fun x hx => h x (List.mem_cons_of_mem _ hx)
    rw [List.map_cons, List.sum_cons, ih, zri l (h l (List.mem_cons_self ..)) k (by omega)]
    unfold cw
    rw [List.filter_cons]
    split
    · rw [List.length_cons]; omega
    · omega
theorem zcp {z : Str} (h : NmOk z) : z.length ≤ 1000 := by
  have key : ∀ l, Nam z l → z.length ≤ 1000 := fun l hl => by
    obtain ⟨d, ds, e, _, h3, _⟩ := hl.ex
    have : z.length = z.cps.toList.length := by simp [Str.length]
    rw [this, e, List.length_cons]
    omega
  rcases h with h | h
  · exact key _ h
  · exact key _ h
theorem zp5 (c : Nat) : decide (nV c = V.int 1) = (c == 1) := by
  by_cases h : c = 1
  · subst h; rfl
  · rw [decide_eq_false (fun e => h (by injection e with e; omega))]
    simp [h]
theorem zgy : ∀ d ∈ SMALL.cps.toList, (!decide ([d] < (Str.ofString "a").cps.toList)) = true ∧ (!decide ((Str.ofString "z").cps.toList < [d])) = true := by decide +kernel
theorem zea : ∀ d ∈ GREAT.cps.toList, (!decide ([d] < (Str.ofString "a").cps.toList)) = false ∧ signIn d SMALL = false := by decide +kernel
theorem zdn {z : Str} (h : NmOk z) : ∃ d ds, z.cps.toList = d :: ds ∧ (isP z = true → (!decide ([d] < (Str.ofString "a").cps.toList)) = true ∧ (!decide ((Str.ofString "z").cps.toList < [d])) = true) ∧ (isP z = false → (!decide ([d] < (Str.ofString "a").cps.toList)) = false) := by
  rcases h with h | h
  · obtain ⟨d, ds, e, h1, _⟩ := h.ex
    refine ⟨d, ds, e, fun _ => zgy d h1, fun hp => ?_⟩
    have : isP z = true := zqz znl h
    rw [this] at hp; cases hp
  · obtain ⟨d, ds, e, h1, _⟩ := h.ex
    refine ⟨d, ds, e, fun hp => ?_, fun _ => (zea d h1).1⟩
    have : isP z = false := by simp [isP, isNm, nameB, e, (zea d h1).2]
    rw [this] at hp; cases hp
open PySem
def bit (c k : Nat) : Bool := c / 2 ^ k % 2 == 1
end SM
namespace L2
open PySem PySem.Spec PyProof.Rows
def Itr3 (lo c : Int) (n : Nat) : It := ⟨fun i _ => i < n, fun i H x H' => H' = H ∧ x = .int (lo + i * c), fun i _ => n ≤ i⟩
def iRng3 (ta : TA) : TI := fun σ H R => ta σ H fun vs H1 => ∃ i j c : Int, vs = [.int i, .int j, .int c] ∧ c ≠ 0 ∧ Builtin.Range.small i j c = true ∧ (j - i).natAbs < 1000 ∧ c.natAbs < 1000 ∧ 0 ≤ Builtin.Range.rangeSize i j c ∧ R (Itr3 i c (Builtin.Range.rangeSize i j c).toNat) H1
structure DfnM (K : PySem.W.Frag) (C : Addr) (m q : Str) (st : Stmt) (ps : List Str) : Prop where
  ex : ∃ f fd, Fun K m q st f fd ∧ Binds K fd ps [] ∧ Meth K C m f
structure CalM (P : Program) (w : World) (K : PySem.W.Frag) (mg : Str → Option Value) (base : Heap) (n : Nat) (C : Addr) (m : Str) (ps : List Str) (sp : Sp) : Prop where
  ex : ∃ f fd, FnOk P w K mg base CX0 n f fd ps sp ∧ Binds K fd ps [] ∧ Meth K C m f
structure DfnI (K : PySem.W.Frag) (C : Addr) (q : Str) (st : Stmt) (ps : List Str) : Prop where
  ex : ∃ f fd, Fun K "__init__" q st f fd ∧ Binds K fd ps [] ∧ Mk K C f
structure CalI (P : Program) (w : World) (K : PySem.W.Frag) (mg : Str → Option Value) (base : Heap) (n : Nat) (C : Addr) (x : Str) (ps : List Str) (sp : Sp) : Prop where
  ex : ∃ f fd, FnOk P w K mg base CX0 n f fd ps sp ∧ Binds K fd ps [] ∧ Mk K C f
  mg : mg x = some (.ref C)
section
variable {P : Program} {w : World} {K : PySem.W.Frag} {mg : Str → Option Value} {base : Heap} {C : Addr}
theorem DfnM.cal {m q : Str} {st : Stmt} {N ps : List Str} {k : Nat} {sp : Sp} (d : DfnM K C m q st ps) (S : FnScope N ps (defScope st)) (len : ∀ vs H Q E, sp vs H Q E → vs.length = ps.length)
    (hbody : ∀ (f : Addr) (cdv : Value) (A : Around) (outer : List Env) (s : Shared) (H : Hp) (vs : List V) (Q : VK) (E : XK), Room k (A.deeper (envOfC q (defScope st) s.heap.objs.size f cdv)) → sp vs H Q E →
      ∃ t, PSs (cxOf CX0 P w K mg base N q (defScope st) f cdv A outer s H E).nox (defBody st) t ∧ t { nx := fun _ H' => Q .non H', rt := Q } (start N vs) H) : CalM P w K mg base (k + 1) C m ps sp := by
  obtain ⟨f, fd, F, b, M⟩ := d.ex
  exact ⟨f, fd, F.ok S len (hbody f), b, M⟩
theorem DfnI.cal {q x : Str} {st : Stmt} {N ps : List Str} {k : Nat} {sp : Sp} (d : DfnI K C q st ps) (hm : mg x = some (.ref C)) (S : FnScope N ps (defScope st)) (len : ∀ vs H Q E, sp vs H Q E → vs.length = ps.length)
    (hbody : ∀ (f : Addr) (cdv : Value) (A : Around) (outer : List Env) (s : Shared) (H : Hp) (vs : List V) (Q : VK) (E : XK), Room k (A.deeper (envOfC q (defScope st) s.heap.objs.size f cdv)) → sp vs H Q E →
      ∃ t, PSs (cxOf CX0 P w K mg base N q (defScope st) f cdv A outer s H E).nox (defBody st) t ∧ t { nx := fun _ H' => Q .non H', rt := Q } (start N vs) H) : CalI P w K mg base (k + 1) C x ps sp := by
  obtain ⟨f, fd, F, b, M⟩ := d.ex
  exact ⟨⟨f, fd, F.ok S len (hbody f), b, M⟩, hm⟩
end
section
variable {X : Cx} {C : Addr} {n k : Nat} {m x : Str} {ps : List Str} {sp : Sp} {p pos apos : Pos} {o e : Expr} {es : List Expr} {ta : TE} {t : TA}
theorem zck {pl : Sem Bool} (M : CalM X.prog X.w X.K X.mg X.base n C m ps sp) (c : Cls X.K C) (hr : Room k X.A) (hle : n ≤ k) (he : PE X o ta) (ha : PA X (e :: es) t)
    (h1 : notStar e = true := by rfl) (h2 : es.all notStar = true := by rfl)
    (ht : eval (.Call (.Attribute o m apos) (e :: es) [] pos) X.env = (do
      let ov ← eval o X.env
      standAt apos.atName
      let (f, first) ← holding [ov] (getMethod ov m pl)
      callWith pos f first (backTo pos (starEach (e :: es) X.env)) (backToKw pos (keywordEach [] X.env))) := by rfl) :
    PE X (.Call (.Attribute o m apos) (e :: es) [] pos) (tMeth C m sp [] E0 ta t) := by
  obtain ⟨f, fd, F, b, hm⟩ := M.ex
  exact zpb (pl := pl) he c hm F (hr.mono hle) b .nil pass0 ha (za9 h1) (zbn h2) ht
theorem zmw (M : CalI X.prog X.w X.K X.mg X.base n C x ps sp) (hr : Room k X.A) (hle : n + 1 ≤ k) (hg : Gl X x) (hdb : (x == ("__debug__" : Str)) = false := by decide) : PE X (.Call (.Name x p) [] [] pos) (tMake C sp [] E0 tNil) := by
  obtain ⟨f, fd, F, b, hm⟩ := M.ex
  exact zmx hm F (hr.mono hle) hg M.mg b .nil pass0 hdb
end
theorem zoe : ∀ (zs : List Str) (m : Nat) (h : m < zs.length), zs.idxOf zs[m] ≤ m
  | y :: r, 0, h => by simp
  | y :: r, m + 1, h => by
    rw [List.idxOf_cons]
    have := zoe r m (by simpa using h)
    cases (y == (y :: r)[m + 1])
    · simp only [cond_false, List.getElem_cons_succ]; omega
    · simp
def rIndexT (K : PySem.W.Frag) : V → List V → Hp → VK → Prop := fun x vs H Q => ∃ (p : Addr) (zs : List Str) (z : Str), x = .ref p ∧ vs = [.str z] ∧ SqL K H p (zs.map V.str) ∧ z ∈ zs ∧ zs.length ≤ 1000 ∧ Q (.int ((zs.idxOf z : Nat) : Int)) H
theorem zk4 {X : Cx} (hu : X.A.units + 8 < cLine) : MtR X "list.index" (rIndexT X.K) := by
  intro pins s σ H x xs v us Q I rx rs h
  obtain ⟨p, zs, z, rfl, rfl, hx, hk, hz, q⟩ := h
  cases rx
  obtain ⟨u, rfl, t, rfl⟩ := vals1 rs
  obtain ⟨vs, rv, pl, _⟩ := I.list hx
  have hlen := rv.length
  rw [List.length_map] at hlen
  have hv : ∀ (i : Nat) (hi : i < zs.length), ∃ (h : i < vs.length) (t : Tok), vs[i] = .str zs[i] t := fun i hi => by
    obtain ⟨h', y⟩ := rv.at (j := i) (by omega)
    rw [List.getElem_map] at y
    obtain ⟨t, e⟩ := (show ∃ t, vs[i] = Value.str zs[i] t from y)
    exact ⟨by omega, t, e⟩
  obtain ⟨⟨cls, dd, data, sl⟩, ho, hc, n, hd⟩ := pl.isList
  simp only at hc hd
  subst hc hd
  have hj : zs.idxOf z < zs.length := List.idxOf_lt_length_iff.mpr hk
  let e' : Value → Bool := fun | .str b _ => decide (b = z) | _ => false
  refine call_meets PySem.F.slot_list_index ⟨_, ho, rfl⟩ PySem.F.entry_list_index (PySem.F.args_list_index_2 _ _)
    (SeqAt.list_indexAt p vs.toArray n dd sl (.str z t) e' (zs.idxOf z) (by simp; omega) (by omega) ?_ ?_) ⟨ho, fun y hy => ?_, ?_⟩
  · obtain ⟨h, t', e⟩ := hv _ hj
    show e' vs[zs.idxOf z] = true
    rw [e]
    exact decide_eq_true (List.getElem_idxOf hj)
  · intro m hm hlt
    have hm' : m < zs.length := by simp at hm; omega
    obtain ⟨h, t', e⟩ := hv m hm'
    show e' vs[m] = false
    rw [e]
    refine decide_eq_false fun c => ?_
    have h2 : zs.idxOf z ≤ m := by
      rw [← c]
      exact zoe zs m hm'
    omega
  · obtain ⟨i, hi, rfl⟩ := List.getElem_of_mem (show y ∈ vs by simpa using hy)
    obtain ⟨h, t', e⟩ := hv i (by omega)
    rw [e]
    exact zlm (X := X) (k := 0) (H := H) (x := .str zs[i]) (y := .str z) rfl rfl pins σ s X.A.in1 _ _ (by show X.A.units + 1 + 0 < cLine; omega) I ⟨t', rfl⟩ ⟨t, rfl⟩
  · exact ⟨.int _, H, I.tok _, ⟨_, rfl⟩, q⟩
theorem zew {X : Cx} (K : PySem.W.Frag) (hu : X.A.units + 8 < cLine) (h : X.K = K := by rfl) : MtR X "list.index" (rIndexT K) := h ▸ zk4 hu
section
variable {K : PySem.W.Frag} {C : Addr}
theorem dfnm_mk {m q : Str} {st : Stmt} {ps : List Str} {f : Addr} {oc : Value} {od an : Option Addr} {osl : Array (Option Value)} {kV doc pm cdv ct : Value} (a : PySem.W.findIn K (.ref C) m = some (some (.ref f))) (i : PySem.W.isFn K (.ref f) = true)
    (l : K.lookup f = some ⟨oc, od, .func (PySem.W.fnOf m q (defArgs st) (defBody st) (defScope st) .none kV doc pm an cdv ct), osl⟩) (c : PySem.W.codeIn K cdv q = true) (k : PySem.W.keepIn K (.ref f) = true)
    (hb : ∀ (kV doc pm : Value) (an : Option Addr) (cdv ct : Value) (us : List Value), us.length = ps.length → bindArgs (PySem.W.fnOf m q (defArgs st) (defBody st) (defScope st) .none kV doc pm an cdv ct) ⟨us, []⟩ = pure (ps.zip us)) : DfnM K C m q st ps :=
  ⟨f, _, zde l c k, (zde l c k).binds hb, ⟨a, i, k⟩⟩
theorem dfni_mk {q : Str} {st : Stmt} {ps : List Str} {f : Addr} {oc : Value} {od an : Option Addr} {osl : Array (Option Value)} {kV doc pm cdv ct : Value} (mk : PySem.W.makesIn K C = true) (a : PySem.W.findIn K (.ref C) "__init__" = some (some (.ref f))) (i : PySem.W.isFn K (.ref f) = true) (kc : PySem.W.keepIn K (.ref C) = true)
    (l : K.lookup f = some ⟨oc, od, .func (PySem.W.fnOf "__init__" q (defArgs st) (defBody st) (defScope st) .none kV doc pm an cdv ct), osl⟩) (c : PySem.W.codeIn K cdv q = true) (k : PySem.W.keepIn K (.ref f) = true)
    (hb : ∀ (kV doc pm : Value) (an : Option Addr) (cdv ct : Value) (us : List Value), us.length = ps.length → bindArgs (PySem.W.fnOf "__init__" q (defArgs st) (defBody st) (defScope st) .none kV doc pm an cdv ct) ⟨us, []⟩ = pure (ps.zip us)) : DfnI K C q st ps :=
  ⟨f, _, zde l c k, (zde l c k).binds hb, ⟨mk, a, i, kc⟩⟩
theorem noattr_mk {f : Str} (h : PySem.W.findIn K (.ref C) f = some none) : NoAttr K C f := h
end
def gLst (K : PySem.W.Frag) (n : Nat) (t : TGs) : TG := fun v σ H Q => ∃ a xs, v = .ref a ∧ SqL K H a xs ∧ xs.length = n ∧ t xs σ H Q
end L2
namespace SM
structure Thg where
  w : Nat
  step : List Nat → List (List Nat)
  fin : List Nat → Bool
open PySem PySem.Spec PyProof.Rows L2 SS
theorem zit {c a : Nat} (hc : c < 32) (ha : a ≤ 4) : (!decide (Builtin.bitAnd (c : Int) ((2 ^ a : Nat) : Int) = 0)) = bit c a := by
  have h : ∀ (c : Fin 32) (a : Fin 5), (!decide (Builtin.bitAnd ((c : Nat) : Int) ((2 ^ (a : Nat) : Nat) : Int) = 0)) = bit c a := by decide +kernel
  exact h ⟨c, hc⟩ ⟨a, by omega⟩
theorem zb3 {f g : Str} {v : V} {r : List (Str × V)} (h : (f == g) = false) : List.lookup f ((g, v) :: r) = List.lookup f r := by simp only [List.lookup, h]
theorem zlk {f : Str} {v : V} {r : List (Str × V)} : List.lookup f ((f, v) :: r) = some v := by simp only [List.lookup, BEq.rfl]
def zeo : Sp := fun vs H Q _ => ∃ (b : Addr) (tl : List Str), vs = [.ref b] ∧ H b = some (.lst (tl.map V.str)) ∧ tl.length ≤ 4 ∧ (∀ z ∈ tl, z.length ≤ 4) ∧ frameB (tl.map V.str) = true ∧ ∀ H', Same H H' → Q .non H'
inductive Tr where
  | nil
  | node (l : Nat) (a b : Tr)
def Tr.size : Tr → Nat
  | .nil => 0
  | .node _ a b => 1 + a.size + b.size
def Tr.depth : Tr → Nat
  | .nil => 0
  | .node _ a b => 1 + max a.depth b.depth
def Tr.Let (n : Nat) : Tr → Prop
  | .nil => True
  | .node l a b => l < n ∧ a.Let n ∧ b.Let n
def Tr.up (z : Nat) (f : Nat → Nat → Nat → Nat) : Tr → Nat
  | .nil => z
  | .node l a b => f l (a.up z f) (b.up z f)
theorem Tr.depth_le : ∀ t : Tr, t.depth ≤ t.size
  | .nil => Nat.le_refl _
  | .node _ a b => by
    have := Tr.depth_le a
    have := Tr.depth_le b
    show 1 + max a.depth b.depth ≤ 1 + a.size + b.size
    omega
theorem Tr.up_lt2 {go : Nat → Nat → Nat → Nat} {L n z : Nat} (hz : z < n) (hgo : ∀ l a b, l < L → a < n → b < n → go l a b < n) : ∀ t : Tr, t.Let L → t.up z go < n
  | .nil, _ => hz
  | .node l a b, h => hgo l _ _ h.1 (Tr.up_lt2 hz hgo a h.2.1) (Tr.up_lt2 hz hgo b h.2.2)
def TreeV (H : Hp) : V → Tr → Prop
  | v, .nil => v = .non
  | v, .node l a b => ∃ p va vb, v = .ref p ∧ H p = some (.tup [nV l, va, vb]) ∧ TreeV H va a ∧ TreeV H vb b
theorem TreeV.ts {H H' : Hp} (g : TupS H H') : ∀ {v : V} {t : Tr}, TreeV H v t → TreeV H' v t
  | _, .nil, h => h
  | _, .node _ _ _, ⟨p, va, vb, e, z, h1, h2⟩ => ⟨p, va, vb, e, g _ _ z, TreeV.ts g h1, TreeV.ts g h2⟩
theorem TreeV.same {H H' : Hp} {v : V} {t : Tr} (h : TreeV H v t) (g : Same H H') : TreeV H' v t := h.ts g.tups
def zh1 (d : Nat) : Sp := fun vs H Q _ => ∃ (v : V) (t : Tr), vs = [v] ∧ TreeV H v t ∧ t.depth < d ∧ Q (nV t.size) H
end SM
namespace PySem
open AutoSeq1
theorem zd4 (l b : Addr) (items items2 : Array Value) (n n2 : Nat) (dd : Option Addr) (sl : Array (Option Value)) (hs0 : ¬(!items.isEmpty && Builtin.List.listTooLong (items.size + items2.size)) = true) (hs1 : items.size ≤ sizeLine) (hs2 : items.size + items2.size ≤ sizeLine + 1) :
    Meets (Builtin.«list.extend» ⟨[.ref l, .ref b], []⟩) (fun _ R s => s.heap.get? l = some { cls := .type "list", dict := none, data := .seq items n, slots := #[] } ∧ s.heap.get? b = some { cls := .type "tuple", dict := dd, data := .seq items2 n2, slots := sl } ∧ R (.ok (.ret Value.none)) { s with heap := s.heap.update l (Obj.mapSeq fun x => x ++ items2), toks := s.toks }) :=
  .of_wp fun pg wd Ar Re st0 hyp => by
    obtain ⟨hp0, ga, dr, tks, ost⟩ := st0
    obtain ⟨el, eb, fin⟩ := hyp
    have s1 := idx_int
    have s2 := AutoSeq1.sub_tuple_tuple
    have s3 := AutoSeq1.sub_list_list
    have s4 := AutoSeq1.sub_tuple_list
    have s5 := AutoSeq1.sub_list_tuple
    have fit : (items ++ items2).size ≤ sizeLine + 1 := by rw [Array.size_append]; omega
    wp_walk using (wpAny_updateSeq el rfl (hz := hs1) (_hz' := fit)), wpAny_loadPart' el, wpAny_loadPart' eb
    exact ⟨_, rfl, fin⟩
end PySem
namespace L2
open PySem PySem.Spec PyProof.Rows PySem.W PySem.Calls
def rExtendT (K : PySem.W.Frag) : V → List V → Hp → VK → Prop := fun x vs H Q => ∃ l b xs zs, x = .ref l ∧ vs = [.ref b] ∧ H l = some (.lst xs) ∧ SqT K H b zs ∧ xs.length + zs.length ≤ sizeLine ∧ Q .non (upd H l (.lst (xs ++ zs)))
theorem zje {X : Cx} : MtM X "list.extend" (rExtendT X.K) := by
  intro pins s σ H x vs v us Q I rx rv h
  obtain ⟨l, b, xs, zs, rfl, rfl, hH, hB, hz, q⟩ := h
  cases rx
  obtain ⟨u, rfl, ru⟩ := rv.one
  cases ru
  obtain ⟨z, its, n, r, hl, e⟩ := I.lstM hH
  obtain ⟨its2, r2, ⟨⟨c2, dd2, da2, sl2⟩, e2, hc2, n2, hd2⟩, _⟩ := I.tuple hB
  simp only at hc2 hd2
  subst hc2 hd2
  have hl2 := r2.length
  have hsz : its.toArray.size + its2.toArray.size ≤ sizeLine := by rw [List.size_toArray, List.size_toArray]; omega
  have hlong : ¬ (!its.toArray.isEmpty && Builtin.List.listTooLong (its.toArray.size + its2.toArray.size)) = true := by
    rw [notLongL hsz, Bool.and_false]
    exact Bool.false_ne_true
  refine call_meets F.slot_list_extend ⟨_, e, rfl⟩ F.entry_list_extend (F.args_list_extend_2 _ _)
    (zd4 l b its.toArray its2.toArray n n2 dd2 sl2 hlong (by rw [List.size_toArray]; omega) (by omega)) ⟨e, e2, ?_⟩
  refine ⟨.non, _, I.lset (its' := its ++ its2) hH e (by simp) (r.append r2) ?_, rfl, q⟩
  rw [List.length_append]
  omega
theorem zhb {X : Cx} (K : PySem.W.Frag) (h : X.K = K := by rfl) : MtM X "list.extend" (rExtendT K) := h ▸ zje
end L2
namespace SM
open PySem PySem.Spec PyProof.Rows L2 SS
inductive TrZ where
  | nil
  | node (l : Int) (a b : TrZ)
def TrZ.size : TrZ → Nat
  | .nil => 0
  | .node _ a b => 1 + a.size + b.size
def TrZ.lets : TrZ → List Int
  | .nil => []
  | .node l a b => l :: (b.lets ++ a.lets)
def TreeZ (H : Hp) : V → TrZ → Prop
  | v, .nil => v = .non
  | v, .node l a b => ∃ p va vb, v = .ref p ∧ H p = some (.tup [.int l, va, vb]) ∧ TreeZ H va a ∧ TreeZ H vb b
theorem TreeZ.ts {H H' : Hp} (g : TupS H H') : ∀ {v : V} {t : TrZ}, TreeZ H v t → TreeZ H' v t
  | _, .nil, h => h
  | _, .node _ _ _, ⟨p, va, vb, e, z, h1, h2⟩ => ⟨p, va, vb, e, g _ _ z, TreeZ.ts g h1, TreeZ.ts g h2⟩
theorem TreeZ.same {H H' : Hp} {v : V} {t : TrZ} (h : TreeZ H v t) (g : Same H H') : TreeZ H' v t := h.ts g.tups
def Tr.z : Tr → TrZ
  | .nil => .nil
  | .node l a b => .node l a.z b.z
theorem TreeV.z {H : Hp} : ∀ {v : V} {t : Tr}, TreeV H v t → TreeZ H v t.z
  | _, .nil, h => h
  | _, .node _ _ _, ⟨p, va, vb, e, z, h1, h2⟩ => ⟨p, va, vb, e, z, TreeV.z h1, TreeV.z h2⟩
theorem Tr.z_size : ∀ t : Tr, t.z.size = t.size
  | .nil => rfl
  | .node _ a b => by show 1 + a.z.size + b.z.size = 1 + a.size + b.size; rw [Tr.z_size a, Tr.z_size b]
def Tr.lets : Tr → List Nat
  | .nil => []
  | .node l a b => l :: (b.lets ++ a.lets)
def Tr.lets2 : Tr → List Nat
  | .nil => []
  | .node l a b => l :: (a.lets2 ++ b.lets2)
theorem Tr.z_lets : ∀ t : Tr, t.z.lets = t.lets.map fun (n : Nat) => (n : Int)
  | .nil => rfl
  | .node l a b => by
    show (l : Int) :: (b.z.lets ++ a.z.lets) = _
    rw [Tr.z_lets a, Tr.z_lets b, ← List.map_append]; rfl
theorem TrZ.lets_len : ∀ t : TrZ, t.lets.length = t.size
  | .nil => rfl
  | .node _ a b => by show (b.lets ++ a.lets).length + 1 = 1 + a.size + b.size; rw [List.length_append, TrZ.lets_len a, TrZ.lets_len b]; omega
theorem Tr.lets_let {L : Nat} : ∀ t : Tr, t.Let L → ∀ l ∈ t.lets, l < L
  | .nil, _, l, h => nomatch h
  | .node x a b, h, l, hl => by
    rcases List.mem_cons.mp hl with rfl | hl
    · exact h.1
    · rcases List.mem_append.mp hl with hl | hl
      · exact Tr.lets_let b h.2.2 l hl
      · exact Tr.lets_let a h.2.1 l hl
theorem zlx (xs ys : List Nat) (k : Nat) : cw (xs ++ ys) k = cw xs k + cw ys k := by unfold cw; rw [List.filter_append, List.length_append]
theorem zlw (x : Nat) (xs : List Nat) (k : Nat) : cw (x :: xs) k = cw [x] k + cw xs k := by rw [← zlx]; rfl
theorem Tr.cw_same (k : Nat) : ∀ t : Tr, cw t.lets k = cw t.lets2 k
  | .nil => rfl
  | .node l a b => by
    show cw (l :: (b.lets ++ a.lets)) k = cw (l :: (a.lets2 ++ b.lets2)) k
    rw [zlw, zlx, zlw l (a.lets2 ++ b.lets2), zlx, Tr.cw_same k a, Tr.cw_same k b]; omega
theorem Tr.fit_same (names : List Str) (t : Tr) : fitB names t.lets = fitB names t.lets2 := by
  unfold fitB
  congr 1
  funext k
  rw [Tr.cw_same]
def stk (ts : List TrZ) : List Int := ts.reverse.flatMap TrZ.lets
def stw (ts : List TrZ) : Nat := (ts.map fun t => 2 * t.size + 1).sum
theorem ze4 (ts : List TrZ) (t : TrZ) : stk (ts ++ [t]) = t.lets ++ stk ts := by unfold stk; rw [List.reverse_append]; simp
theorem zcf (ts : List TrZ) (t : TrZ) : stw (ts ++ [t]) = stw ts + (2 * t.size + 1) := by unfold stw; rw [List.map_append, List.sum_append]; simp
theorem zn3 (ts : List TrZ) : ts.length ≤ stw ts := by
  induction ts with
  | nil => simp [stw]
  | cons t ts ih => unfold stw at ih ⊢; rw [List.map_cons, List.sum_cons, List.length_cons]; omega
theorem zd2 {α : Type} (l : List α) : l = [] ∨ ∃ L b, l = L ++ [b] := by
  rcases List.eq_nil_or_concat l with h | ⟨L, b, h⟩
  · exact .inl h
  · exact .inr ⟨L, b, by rw [h, List.concat_eq_append]⟩
theorem zcd {α β : Type} {R : α → β → Prop} {y : β} : ∀ {ys : List β} {xs : List α}, Paired R xs (ys ++ [y]) → ∃ xs0 x, xs = xs0 ++ [x] ∧ Paired R xs0 ys ∧ R x y
  | [], _, .cons h .nil => ⟨[], _, rfl, .nil, h⟩
  | _ :: ys, _, .cons h t => let ⟨xs0, x, e, p, r⟩ := zcd (ys := ys) t; ⟨_ :: xs0, x, by rw [e]; rfl, .cons h p, r⟩
def zc8 : Sp := fun vs H Q _ => ∃ (v : V) (t : TrZ), vs = [v] ∧ TreeZ H v t ∧ t.size ≤ 100 ∧ ∀ D H', H D = none → Same H H' → H' D = some (.lst (t.lets.map V.int)) → Q (.ref D) H'
def zhx : Sp := fun vs H Q _ => ∃ (c : Addr) (ns : List Int) (L mo : Nat), vs = [.ref c, nV L, nV mo] ∧ H c = some (.lst (ns.map V.int)) ∧ ns.length ≤ 63 ∧ 1 ≤ L ∧ mo ≤ 60 ∧ ∀ D xs ts H', H D = none → Same H H' → H' D = some (.lst xs) → Paired (TreeV H') xs ts → ts.length ≤ 64 → (∀ t ∈ ts, t.Let L ∧ t.size ≤ mo) → Q (.ref D) H'
abbrev Rd := List Bool
def mkRel (wd : Str) (one other : Bool) (l r : Nat) : Nat :=
  if one = true then (if (if wd = "left" then l = 1 else if wd = "right" then r = 1 else (l = 1 ∨ r = 1)) then 2 else 3)
  else if other = true then 1 else if l ≠ 1 ∧ r ≠ 1 then 0 else if wd = "above" then 1 else 3
def mkN (wd : Str) (one other : Bool) (l r : Nat) : Nat :=
  if l = 2 ∨ r = 2 then 2 else if l = 3 ∨ r = 3 then 3 else
  if wd = "within" then (if one = true ∧ other = false then 3 else 0) else
  if wd = "in" then (if one = true then (if other = true then 2 else 3) else 0) else
  if wd = "same" then (if one = true ∨ other = true then (if one = true ∧ other = true then 2 else 3) else 0) else mkRel wd one other l r
def markN (wd : Str) (i j c l r : Nat) : Nat := mkN wd (bit c i) (bit c j) l r
theorem znh (wd : Str) (one other : Bool) (l r : Nat) : mkRel wd one other l r < 4 := by
  unfold mkRel
  repeat' split
  all_goals omega
theorem zoa (wd : Str) (one other : Bool) (l r : Nat) : mkN wd one other l r < 4 := by
  unfold mkN
  split; omega
  split; omega
  split
  · split <;> omega
  split
  · repeat' split
    all_goals omega
  split
  · repeat' split
    all_goals omega
  · exact znh _ _ _ _ _
def holdM (wd : Str) (m : Nat) : Bool := decide (m = 2) || (decide (wd = "within") && decide (m = 0))
def rds : Tr → Rd → List Rd
  | .nil, _ => []
  | .node _ a b, p => p :: (rds a (p ++ [false]) ++ rds b (p ++ [true]))
theorem zdv : ∀ (t : Tr) (p : Rd), (rds t p).length = t.size
  | .nil, _ => rfl
  | .node _ a b, p => by show (rds a _ ++ rds b _).length + 1 = 1 + a.size + b.size; rw [List.length_append, zdv a, zdv b]; omega
theorem zbl : ∀ {t : Tr} {p q : Rd}, q ∈ rds t p → p <+: q
  | .nil, _, _, h => nomatch h
  | .node _ a b, p, q, h => by
    rcases List.mem_cons.mp h with rfl | h
    · exact List.prefix_refl _
    · rcases List.mem_append.mp h with h | h
      · exact (List.prefix_append _ _).trans (zbl h)
      · exact (List.prefix_append _ _).trans (zbl h)
theorem zfd : ∀ {t : Tr} {p q : Rd}, q ∈ rds t p → q.length ≤ p.length + t.depth
  | .nil, _, _, h => nomatch h
  | .node _ a b, p, q, h => by
    have e : Tr.depth (.node ‹_› a b) = 1 + max a.depth b.depth := rfl
    rcases List.mem_cons.mp h with rfl | h
    · omega
    · rcases List.mem_append.mp h with h | h
      · have := zfd h
        rw [List.length_append, List.length_singleton] at this; omega
      · have := zfd h
        rw [List.length_append, List.length_singleton] at this; omega
theorem zdx {p q : Rd} {b c : Bool} (h1 : p ++ [b] <+: q) (h2 : p ++ [c] <+: q) : b = c := by
  obtain ⟨r1, rfl⟩ := h1
  obtain ⟨r2, e⟩ := h2
  rw [List.append_assoc, List.append_assoc] at e
  have := List.append_cancel_left e
  injection this with e1 _
  exact e1.symm
theorem zdy {p : Rd} {b : Bool} (h : p ++ [b] <+: p) : False := by
  have := h.length_le
  rw [List.length_append, List.length_singleton] at this
  omega
theorem zaw {t : Tr} {p : Rd} {b : Bool} : ¬ p ∈ rds t (p ++ [b]) := fun h => zdy (zbl h)
theorem zdu {a b : Tr} {p q : Rd} (h1 : q ∈ rds a (p ++ [false])) (h2 : q ∈ rds b (p ++ [true])) : False := Bool.noConfusion (zdx (zbl h1) (zbl h2))
theorem zia : ∀ (t : Tr) (p : Rd), (rds t p).Nodup
  | .nil, _ => List.nodup_nil
  | .node _ a b, p => by
    refine List.nodup_cons.mpr ⟨fun h => ?_, List.nodup_append.mpr ⟨zia a _, zia b _, fun x hx y hy e => ?_⟩⟩
    · rcases List.mem_append.mp h with h | h
      · exact zaw h
      · exact zaw h
    · subst e; exact zdu hx hy
theorem rds_node {l : Nat} {a b : Tr} {p q : Rd} : q ∈ rds (.node l a b) p ↔ q = p ∨ q ∈ rds a (p ++ [false]) ∨ q ∈ rds b (p ++ [true]) := by
  show q ∈ p :: (rds a _ ++ rds b _) ↔ _
  rw [List.mem_cons, List.mem_append]
def upM (wd : Str) (A B : Rd → Bool) : Tr → Rd → Nat
  | .nil, _ => 0
  | .node _ a b, p => mkN wd (A p) (B p) (upM wd A B a (p ++ [false])) (upM wd A B b (p ++ [true]))
theorem w_in : ¬ (("in" : Str) = "within") ∧ ¬ (("same" : Str) = "within") ∧ ¬ (("same" : Str) = "in") := by decide
theorem zcv (A B : Rd → Bool) : ∀ (t : Tr) (p : Rd), upM "within" A B t p = if (rds t p).all (fun q => !A q || B q) = true then 0 else 3
  | .nil, _ => rfl
  | .node l a b, p => by
    have ea := zcv A B a (p ++ [false])
    have eb := zcv A B b (p ++ [true])
    show mkN "within" (A p) (B p) (upM "within" A B a (p ++ [false])) (upM "within" A B b (p ++ [true])) = if (p :: (rds a (p ++ [false]) ++ rds b (p ++ [true]))).all _ = true then 0 else 3
    rw [ea, eb, List.all_cons, List.all_append]
    generalize (rds a (p ++ [false])).all _ = u
    generalize (rds b (p ++ [true])).all _ = v
    cases A p <;> cases B p <;> cases u <;> cases v <;> rfl
theorem zjs (x : Rd) (A B : Rd → Bool) (hA : ∀ q, A q = decide (q = x)) : ∀ (t : Tr) (p : Rd), upM "in" A B t p = if x ∈ rds t p then (if B x = true then 2 else 3) else 0
  | .nil, _ => rfl
  | .node l a b, p => by
    have ea := zjs x A B hA a (p ++ [false])
    have eb := zjs x A B hA b (p ++ [true])
    show mkN "in" (A p) (B p) (upM "in" A B a (p ++ [false])) (upM "in" A B b (p ++ [true])) = _
    rw [ea, eb, hA]
    by_cases h0 : p = x
    · subst h0
      rw [if_neg zaw, if_neg zaw, if_pos (rds_node.mpr (.inl rfl)), decide_eq_true rfl]
      unfold mkN
      rw [if_neg (by decide), if_neg (by decide), if_neg w_in.1, if_pos rfl, if_pos rfl]
    rw [decide_eq_false h0]
    by_cases h1 : x ∈ rds a (p ++ [false])
    · rw [if_pos h1, if_neg (fun h2 => zdu h1 h2), if_pos (rds_node.mpr (.inr (.inl h1)))]
      by_cases hb : B x = true
      · rw [if_pos hb]; rfl
      · rw [if_neg hb]; rfl
    by_cases h2 : x ∈ rds b (p ++ [true])
    · rw [if_neg h1, if_pos h2, if_pos (rds_node.mpr (.inr (.inr h2)))]
      by_cases hb : B x = true
      · rw [if_pos hb]; rfl
      · rw [if_neg hb]; rfl
    · rw [if_neg h1, if_neg h2, if_neg (fun h => (rds_node.mp h).elim (fun e => h0 e.symm) (fun h => h.elim h1 h2))]
      cases B p <;> decide +kernel
theorem ze2 (x y : Rd) (A B : Rd → Bool) (hA : ∀ q, A q = decide (q = x)) (hB : ∀ q, B q = decide (q = y)) : ∀ (t : Tr) (p : Rd), upM "same" A B t p = if x ∈ rds t p ∨ y ∈ rds t p then (if x = y then 2 else 3) else 0
  | .nil, _ => by rw [if_neg (fun h => h.elim (fun h => nomatch h) (fun h => nomatch h))]; rfl
  | .node l a b, p => by
    have ea := ze2 x y A B hA hB a (p ++ [false])
    have eb := ze2 x y A B hA hB b (p ++ [true])
    show mkN "same" (A p) (B p) (upM "same" A B a (p ++ [false])) (upM "same" A B b (p ++ [true])) = _
    rw [ea, eb, hA, hB]
    have hor : (x ∈ rds (.node l a b) p ∨ y ∈ rds (.node l a b) p) ↔ (p = x ∨ p = y) ∨ (x ∈ rds a (p ++ [false]) ∨ y ∈ rds a (p ++ [false])) ∨ (x ∈ rds b (p ++ [true]) ∨ y ∈ rds b (p ++ [true])) := by
      rw [rds_node, rds_node, eq_comm (a := x), eq_comm (a := y)]
      constructor
      · rintro ((h | h | h) | (h | h | h)) <;> simp [h]
      · rintro ((h | h) | (h | h) | (h | h)) <;> simp [h]
    by_cases exy : x = y
    · subst exy
      rw [if_pos (c := x = x) rfl]
      have : ∀ u v : Prop, [Decidable u] → [Decidable v] → ∀ c : Bool, mkN "same" c c (if u then 2 else 0) (if v then 2 else 0) = if c = true ∨ u ∨ v then 2 else 0 := by
        intro u v _ _ c
        by_cases hu : u <;> by_cases hv : v <;> cases c <;> simp only [hu, hv, if_true, if_false] <;> decide +kernel
      rw [this]
      simp only [hor, decide_eq_true_eq, or_self]
    · rw [if_neg exy]
      have : ∀ u v : Prop, [Decidable u] → [Decidable v] → ∀ c d : Bool, (c && d) = false → mkN "same" c d (if u then 3 else 0) (if v then 3 else 0) = if (c = true ∨ d = true) ∨ u ∨ v then 3 else 0 := by
        intro u v _ _ c d hcd
        by_cases hu : u <;> by_cases hv : v <;> cases c <;> cases d <;> first | exact Bool.noConfusion hcd | (simp only [hu, hv, if_true, if_false]; decide +kernel)
      rw [this _ _ _ _ (by rw [Bool.and_eq_false_iff]; by_cases h : p = x; exact .inr (decide_eq_false fun e => exy (h.symm.trans e)); exact .inl (decide_eq_false h))]
      simp only [hor, decide_eq_true_eq]
def relP (wd : Str) (x y : Rd) : Prop := if wd = "left" then y = x ++ [false] else if wd = "right" then y = x ++ [true] else (x <+: y ∧ x ≠ y)
theorem relP.pre {wd : Str} {x y : Rd} (h : relP wd x y) : x <+: y ∧ x ≠ y := by
  unfold relP at h
  split at h
  · subst h; exact ⟨List.prefix_append _ _, fun e => by have := congrArg List.length e; rw [List.length_append, List.length_singleton] at this; omega⟩
  split at h
  · subst h; exact ⟨List.prefix_append _ _, fun e => by have := congrArg List.length e; rw [List.length_append, List.length_singleton] at this; omega⟩
  · exact h
open Classical in
noncomputable def mkUp (wd : Str) (x y : Rd) (t : Tr) (p : Rd) : Nat := if x ∈ rds t p then (if relP wd x y then 2 else 3) else if y ∈ rds t p then (if wd = "above" ∨ y = p then 1 else 3) else 0
section
variable {wd : Str} {x y p : Rd} {t : Tr}
theorem mu0 (h : ¬ x ∈ rds t p) (h2 : ¬ y ∈ rds t p) : mkUp wd x y t p = 0 := by unfold mkUp; rw [if_neg h, if_neg h2]
theorem mu1 (h : ¬ x ∈ rds t p) (h2 : y ∈ rds t p) (h3 : wd = "above" ∨ y = p) : mkUp wd x y t p = 1 := by unfold mkUp; rw [if_neg h, if_pos h2, if_pos h3]
theorem mu3 (h : ¬ x ∈ rds t p) (h2 : y ∈ rds t p) (h3 : ¬ (wd = "above" ∨ y = p)) : mkUp wd x y t p = 3 := by unfold mkUp; rw [if_neg h, if_pos h2, if_neg h3]
theorem mu2 (h : x ∈ rds t p) (h2 : relP wd x y) : mkUp wd x y t p = 2 := by unfold mkUp; rw [if_pos h, if_pos h2]
theorem mu4 (h : x ∈ rds t p) (h2 : ¬ relP wd x y) : mkUp wd x y t p = 3 := by unfold mkUp; rw [if_pos h, if_neg h2]
theorem mu5 (h : ¬ x ∈ rds t p) : mkUp wd x y t p = 0 ∨ mkUp wd x y t p = 1 ∨ mkUp wd x y t p = 3 := by
  by_cases h2 : y ∈ rds t p
  · by_cases h3 : wd = "above" ∨ y = p
    · exact .inr (.inl (mu1 h h2 h3))
    · exact .inr (.inr (mu3 h h2 h3))
  · exact .inl (mu0 h h2)
theorem mu6 (h : x ∈ rds t p) : mkUp wd x y t p = 2 ∨ mkUp wd x y t p = 3 := by
  by_cases h2 : relP wd x y
  · exact .inl (mu2 h h2)
  · exact .inr (mu4 h h2)
theorem mu7 (h : ¬ x ∈ rds t p) (h2 : y ∈ rds t p) : mkUp wd x y t p = 1 ∨ mkUp wd x y t p = 3 := by
  by_cases h3 : wd = "above" ∨ y = p
  · exact .inl (mu1 h h2 h3)
  · exact .inr (mu3 h h2 h3)
end
theorem mkRelN {wd : Str} (hw : wd = "left" ∨ wd = "right" ∨ wd = "above") (one other : Bool) (l r : Nat) : mkN wd one other l r = if l = 2 ∨ r = 2 then 2 else if l = 3 ∨ r = 3 then 3 else mkRel wd one other l r := by
  unfold mkN
  have h1 : ¬ wd = "within" := by rcases hw with rfl | rfl | rfl <;> decide
  have h2 : ¬ wd = "in" := by rcases hw with rfl | rfl | rfl <;> decide
  have h3 : ¬ wd = "same" := by rcases hw with rfl | rfl | rfl <;> decide
  rw [if_neg h1, if_neg h2, if_neg h3]
theorem zgw {wd : Str} (hw : wd = "left" ∨ wd = "right" ∨ wd = "above") (x y : Rd) (A B : Rd → Bool) (hA : ∀ q, A q = decide (q = x)) (hB : ∀ q, B q = decide (q = y)) : ∀ (t : Tr) (p : Rd), (x ∈ rds t p → relP wd x y → y ∈ rds t p) → upM wd A B t p = mkUp wd x y t p
  | .nil, p, _ => by
    unfold mkUp
    rw [if_neg (fun h => nomatch h), if_neg (fun h => nomatch h)]; rfl
  | .node l a b, p, hy => by
    have hya : x ∈ rds a (p ++ [false]) → relP wd x y → y ∈ rds a (p ++ [false]) := fun h1 h2 => by
      have hp := (zbl h1).trans h2.pre.1
      rcases rds_node.mp (hy (rds_node.mpr (.inr (.inl h1))) h2) with rfl | h | h
      · exact (zdy hp).elim
      · exact h
      · exact Bool.noConfusion (zdx hp (zbl h))
    have hyb : x ∈ rds b (p ++ [true]) → relP wd x y → y ∈ rds b (p ++ [true]) := fun h1 h2 => by
      have hp := (zbl h1).trans h2.pre.1
      rcases rds_node.mp (hy (rds_node.mpr (.inr (.inr h1))) h2) with rfl | h | h
      · exact (zdy hp).elim
      · exact Bool.noConfusion (zdx hp (zbl h))
      · exact h
    have ea := zgw hw x y A B hA hB a (p ++ [false]) hya
    have eb := zgw hw x y A B hA hB b (p ++ [true]) hyb
    show mkN wd (A p) (B p) (upM wd A B a (p ++ [false])) (upM wd A B b (p ++ [true])) = _
    rw [ea, eb, hA, hB, mkRelN hw]
    by_cases h0 : p = x
    · subst h0
      rw [decide_eq_true rfl]
      by_cases h1 : y ∈ rds a (p ++ [false])
      · have h2 : ¬ y ∈ rds b (p ++ [true]) := fun h2 => zdu h1 h2
        have hpa := zbl h1
        have hne : ¬ y = p ++ [true] := fun e => by rw [e] at hpa; exact Bool.noConfusion (zdx hpa (List.prefix_refl _))
        rw [mu0 (t := b) zaw h2]
        rcases hw with rfl | rfl | rfl
        · by_cases e : y = p ++ [false]
          · rw [mu1 (t := a) zaw h1 (.inr e), mu2 (rds_node.mpr (.inl rfl)) (show relP "left" p y by unfold relP; rw [if_pos rfl]; exact e)]; generalize decide (p = y) = dd; cases dd <;> decide +kernel
          · rw [mu3 (t := a) zaw h1 (fun h => h.elim (by decide) e), mu4 (rds_node.mpr (.inl rfl)) (show ¬ relP "left" p y by unfold relP; rw [if_pos rfl]; exact e)]; rfl
        · rw [mu4 (t := .node l a b) (rds_node.mpr (.inl rfl)) (show ¬ relP "right" p y by unfold relP; rw [if_neg (by decide), if_pos rfl]; exact hne)]
          by_cases e : y = p ++ [false]
          · rw [mu1 (t := a) zaw h1 (.inr e)]; generalize decide (p = y) = dd; cases dd <;> decide +kernel
          · rw [mu3 (t := a) zaw h1 (fun h => h.elim (by decide) e)]; rfl
        · rw [mu1 (t := a) zaw h1 (.inl rfl), mu2 (rds_node.mpr (.inl rfl)) (show relP "above" p y by unfold relP; rw [if_neg (by decide), if_neg (by decide)]; exact ⟨(List.prefix_append _ _).trans hpa, fun e => by rw [← e] at hpa; exact zdy hpa⟩)]; generalize decide (p = y) = dd; cases dd <;> decide +kernel
      by_cases h2 : y ∈ rds b (p ++ [true])
      · have hpa := zbl h2
        have hne : ¬ y = p ++ [false] := fun e => by rw [e] at hpa; exact Bool.noConfusion (zdx hpa (List.prefix_refl _))
        rw [mu0 (t := a) zaw h1]
        rcases hw with rfl | rfl | rfl
        · rw [mu4 (t := .node l a b) (rds_node.mpr (.inl rfl)) (show ¬ relP "left" p y by unfold relP; rw [if_pos rfl]; exact hne)]
          by_cases e : y = p ++ [true]
          · rw [mu1 (t := b) zaw h2 (.inr e)]; generalize decide (p = y) = dd; cases dd <;> decide +kernel
          · rw [mu3 (t := b) zaw h2 (fun h => h.elim (by decide) e)]; rfl
        · by_cases e : y = p ++ [true]
          · rw [mu1 (t := b) zaw h2 (.inr e), mu2 (rds_node.mpr (.inl rfl)) (show relP "right" p y by unfold relP; rw [if_neg (by decide), if_pos rfl]; exact e)]; generalize decide (p = y) = dd; cases dd <;> decide +kernel
          · rw [mu3 (t := b) zaw h2 (fun h => h.elim (by decide) e), mu4 (rds_node.mpr (.inl rfl)) (show ¬ relP "right" p y by unfold relP; rw [if_neg (by decide), if_pos rfl]; exact e)]; rfl
        · rw [mu1 (t := b) zaw h2 (.inl rfl), mu2 (rds_node.mpr (.inl rfl)) (show relP "above" p y by unfold relP; rw [if_neg (by decide), if_neg (by decide)]; exact ⟨(List.prefix_append _ _).trans hpa, fun e => by rw [← e] at hpa; exact zdy hpa⟩)]; generalize decide (p = y) = dd; cases dd <;> decide +kernel
      · rw [mu0 (t := a) zaw h1, mu0 (t := b) zaw h2, mu4 (rds_node.mpr (.inl rfl)) (fun h => by
          rcases rds_node.mp (hy (rds_node.mpr (.inl rfl)) h) with e | h' | h'
          · exact h.pre.2 e.symm
          · exact h1 h'
          · exact h2 h')]
        rcases hw with rfl | rfl | rfl <;> cases decide (p = y) <;> decide +kernel
    rw [decide_eq_false h0]
    by_cases h1 : x ∈ rds a (p ++ [false])
    · have eb' := mu5 (wd := wd) (y := y) (fun h2 : x ∈ rds b (p ++ [true]) => zdu h1 h2)
      have ea' : mkUp wd x y a (p ++ [false]) = mkUp wd x y (.node l a b) p := by unfold mkUp; rw [if_pos h1, if_pos (rds_node.mpr (.inr (.inl h1)))]
      have e2 := mu6 (wd := wd) (y := y) (rds_node.mpr (.inr (.inl h1)) : x ∈ rds (.node l a b) p)
      rw [ea']
      rcases e2 with e2 | e2 <;> rcases eb' with e | e | e <;> rw [e2, e] <;> rfl
    by_cases h2 : x ∈ rds b (p ++ [true])
    · have eb' := mu5 (wd := wd) (y := y) h1
      have ea' : mkUp wd x y b (p ++ [true]) = mkUp wd x y (.node l a b) p := by unfold mkUp; rw [if_pos h2, if_pos (rds_node.mpr (.inr (.inr h2)))]
      have e2 := mu6 (wd := wd) (y := y) (rds_node.mpr (.inr (.inr h2)) : x ∈ rds (.node l a b) p)
      rw [ea']
      rcases e2 with e2 | e2 <;> rcases eb' with e | e | e <;> rw [e2, e] <;> rfl
    have hx : ¬ x ∈ rds (.node l a b) p := fun h => (rds_node.mp h).elim (fun e => h0 e.symm) (fun h => h.elim h1 h2)
    by_cases k0 : p = y
    · subst k0
      rw [mu0 h1 zaw, mu0 h2 zaw, mu1 hx (rds_node.mpr (.inl rfl)) (.inr rfl), decide_eq_true rfl]
      rcases hw with rfl | rfl | rfl <;> decide +kernel
    rw [decide_eq_false k0]
    have k0' : ¬ y = p := fun e => k0 e.symm
    by_cases k1 : y ∈ rds a (p ++ [false])
    · rw [mu0 h2 (fun k2 => zdu k1 k2)]
      have kk : y ∈ rds (.node l a b) p := rds_node.mpr (.inr (.inl k1))
      rcases hw with rfl | rfl | rfl
      · rw [mu3 hx kk (fun h => h.elim (by decide) k0')]
        rcases mu7 (wd := "left") h1 k1 with e | e <;> rw [e] <;> decide +kernel
      · rw [mu3 hx kk (fun h => h.elim (by decide) k0')]
        rcases mu7 (wd := "right") h1 k1 with e | e <;> rw [e] <;> decide +kernel
      · rw [mu1 h1 k1 (.inl rfl), mu1 hx kk (.inl rfl)]; decide +kernel
    by_cases k2 : y ∈ rds b (p ++ [true])
    · rw [mu0 h1 k1]
      have kk : y ∈ rds (.node l a b) p := rds_node.mpr (.inr (.inr k2))
      rcases hw with rfl | rfl | rfl
      · rw [mu3 hx kk (fun h => h.elim (by decide) k0')]
        rcases mu7 (wd := "left") h2 k2 with e | e <;> rw [e] <;> decide +kernel
      · rw [mu3 hx kk (fun h => h.elim (by decide) k0')]
        rcases mu7 (wd := "right") h2 k2 with e | e <;> rw [e] <;> decide +kernel
      · rw [mu1 h2 k2 (.inl rfl), mu1 hx kk (.inl rfl)]; decide +kernel
    · rw [mu0 h1 k1, mu0 h2 k2, mu0 hx (fun h => (rds_node.mp h).elim k0' (fun h => h.elim k1 k2))]
      rcases hw with rfl | rfl | rfl <;> decide +kernel
def lettr (ms : List (List Rd)) (p : Rd) : Nat → Nat
  | 0 => 0
  | k + 1 => lettr ms p k + if p ∈ ms.getD k [] then 2 ^ k else 0
def ltT (ms : List (List Rd)) (n : Nat) : Tr → Rd → Tr
  | .nil, _ => .nil
  | .node _ a b, p => .node (lettr ms p n) (ltT ms n a (p ++ [false])) (ltT ms n b (p ++ [true]))
theorem zil (ms : List (List Rd)) (p : Rd) : ∀ n, lettr ms p n < 2 ^ n
  | 0 => Nat.zero_lt_one
  | n + 1 => by
    have := zil ms p n
    show lettr ms p n + (if p ∈ ms.getD n [] then 2 ^ n else 0) < 2 ^ (n + 1)
    rw [Nat.pow_succ]
    by_cases h : p ∈ ms.getD n []
    · rw [if_pos h]; omega
    · rw [if_neg h]; omega
theorem zd5 (ms : List (List Rd)) (p : Rd) {n k : Nat} (hn : n ≤ 2) (hk : k < n) : bit (lettr ms p n) k = decide (p ∈ ms.getD k []) := by
  rcases (show n = 1 ∨ n = 2 by omega) with rfl | rfl
  · obtain rfl : k = 0 := by omega
    show bit (0 + if p ∈ ms.getD 0 [] then 2 ^ 0 else 0) 0 = _
    by_cases h : p ∈ ms.getD 0 []
    · rw [if_pos h, decide_eq_true h]; rfl
    · rw [if_neg h, decide_eq_false h]; rfl
  · show bit (0 + (if p ∈ ms.getD 0 [] then 2 ^ 0 else 0) + if p ∈ ms.getD 1 [] then 2 ^ 1 else 0) k = _
    rcases (show k = 0 ∨ k = 1 by omega) with rfl | rfl
    · by_cases h : p ∈ ms.getD 0 [] <;> by_cases h1 : p ∈ ms.getD 1 [] <;> simp only [h, h1, if_true, if_false, decide_true, decide_false] <;> rfl
    · by_cases h : p ∈ ms.getD 0 [] <;> by_cases h1 : p ∈ ms.getD 1 [] <;> simp only [h, h1, if_true, if_false, decide_true, decide_false] <;> rfl
theorem zfj (ms : List (List Rd)) (n : Nat) : ∀ (t : Tr) (p : Rd), (ltT ms n t p).size = t.size
  | .nil, _ => rfl
  | .node _ a b, p => by show 1 + (ltT ms n a _).size + (ltT ms n b _).size = 1 + a.size + b.size; rw [zfj ms n a, zfj ms n b]
theorem zhe (ms : List (List Rd)) (n : Nat) : ∀ (t : Tr) (p : Rd), (ltT ms n t p).Let (2 ^ n)
  | .nil, _ => trivial
  | .node _ a b, p => ⟨zil ms p n, zhe ms n a _, zhe ms n b _⟩
theorem zfk (ms : List (List Rd)) (n : Nat) : ∀ (t : Tr) (p : Rd), (ltT ms n t p).lets2 = (rds t p).map fun q => lettr ms q n
  | .nil, _ => rfl
  | .node _ a b, p => by
    show lettr ms p n :: ((ltT ms n a _).lets2 ++ (ltT ms n b _).lets2) = (p :: (rds a _ ++ rds b _)).map _
    rw [zfk ms n a, zfk ms n b, List.map_cons, List.map_append]
theorem zk5 (ms : List (List Rd)) {n i j : Nat} (hn : n ≤ 2) (hi : i < n) (hj : j < n) (wd : Str) : ∀ (t : Tr) (p : Rd), (ltT ms n t p).up 0 (markN wd i j) = upM wd (fun q => decide (q ∈ ms.getD i [])) (fun q => decide (q ∈ ms.getD j [])) t p
  | .nil, _ => rfl
  | .node _ a b, p => by
    show markN wd i j (lettr ms p n) ((ltT ms n a _).up 0 _) ((ltT ms n b _).up 0 _) = mkN wd _ _ _ _
    rw [zk5 ms hn hi hj wd a, zk5 ms hn hi hj wd b]
    unfold markN
    rw [zd5 ms p hn hi, zd5 ms p hn hj]
theorem zoi (ms : List (List Rd)) {n k : Nat} (hn : n ≤ 2) (hk : k < n) (t : Tr) (p : Rd) : cw (ltT ms n t p).lets2 k = ((rds t p).filter fun q => decide (q ∈ ms.getD k [])).length := by
  rw [zfk]
  unfold cw
  rw [List.filter_map, List.length_map]
  congr 1
  refine List.filter_congr fun q _ => ?_
  exact zd5 ms q hn hk
theorem zl1 {xs : List Rd} {r : Rd} (nd : xs.Nodup) (h : r ∈ xs) : (xs.filter fun q => decide (q ∈ [r])).length = 1 := by
  have : (xs.filter fun q => decide (q ∈ [r])) = [r] := by
    induction xs with
    | nil => cases h
    | cons x xs ih =>
      obtain ⟨hx, nd'⟩ := List.nodup_cons.mp nd
      rw [List.filter_cons]
      by_cases e : x = r
      · subst e
        rw [if_pos (by simp)]
        congr 1
        refine List.filter_eq_nil_iff.mpr fun q hq hh => hx ?_
        have : q = x := by simpa using hh
        rw [← this]; exact hq
      · rw [if_neg (by simpa using e)]
        exact ih nd' ((List.mem_cons.mp h).resolve_left fun z => e z.symm)
  rw [this]; rfl
theorem zl0 (xs : List Rd) (nd : xs.Nodup) : (xs.filter fun q => decide (q ∈ xs.take 2)).length = min 2 xs.length := by
  match xs, nd with
  | [], _ => rfl
  | [x], _ => simp
  | x :: y :: xs, nd =>
    obtain ⟨hx, nd1⟩ := List.nodup_cons.mp nd
    obtain ⟨hy, nd2⟩ := List.nodup_cons.mp nd1
    have e : (xs.filter fun q => decide (q ∈ (x :: y :: xs).take 2)) = [] := List.filter_eq_nil_iff.mpr fun q hq hh => by
      have : q = x ∨ q = y := by simpa using hh
      rcases this with rfl | rfl
      · exact hx (List.mem_cons_of_mem _ hq)
      · exact hy hq
    rw [List.filter_cons, if_pos (by simp), List.filter_cons, if_pos (by simp), e]
    simp
def dueB (wd : Str) (one other : List Rd) : Bool :=
  if wd = "in" then decide (one.headD [] ∈ other) else if wd = "same" then decide (one.headD [] = other.headD []) else
  if wd = "within" then one.all (fun q => decide (q ∈ other)) else if wd = "left" then decide (other.headD [] = one.headD [] ++ [false]) else
  if wd = "right" then decide (other.headD [] = one.headD [] ++ [true]) else decide (one.headD [] <+: other.headD [] ∧ one.headD [] ≠ other.headD [])
structure OneR (t : Tr) (m : List Rd) : Prop where
  ex : ∃ r, m = [r] ∧ r ∈ rds t []
theorem zrc {t : Tr} {wd : Str} {A B : List Rd}
    (h : (wd = "in" ∧ OneR t A) ∨ ((wd = "same" ∨ wd = "left" ∨ wd = "right" ∨ wd = "above") ∧ OneR t A ∧ OneR t B) ∨ (wd = "within" ∧ ∀ q ∈ A, q ∈ rds t [])) :
    holdM wd (upM wd (fun q => decide (q ∈ A)) (fun q => decide (q ∈ B)) t []) = dueB wd A B := by
  have one : ∀ r : Rd, ∀ q : Rd, decide (q ∈ [r]) = decide (q = r) := fun r q => by congr 1; simp
  rcases h with ⟨rfl, ⟨x, rfl, hx⟩⟩ | ⟨hw, ⟨x, rfl, hx⟩, ⟨y, rfl, hy⟩⟩ | ⟨rfl, hs⟩
  · rw [zjs x _ _ (one x), if_pos hx]
    unfold dueB holdM
    rw [if_pos rfl]
    show _ = decide (x ∈ B)
    by_cases hb : x ∈ B
    · rw [if_pos (decide_eq_true hb), decide_eq_true hb]; rfl
    · rw [if_neg (by simpa using hb), decide_eq_false hb]; decide +kernel
  · rcases hw with rfl | hw
    · rw [ze2 x y _ _ (one x) (one y), if_pos (.inl hx)]
      have d : dueB "same" [x] [y] = decide (x = y) := by unfold dueB; rw [if_neg (by decide), if_pos rfl]; rfl
      rw [d]
      unfold holdM
      by_cases e : x = y
      · rw [if_pos e, decide_eq_true e]; rfl
      · rw [if_neg e, decide_eq_false e]; decide +kernel
    · rw [zgw hw x y _ _ (one x) (one y) t [] (fun _ _ => hy)]
      have key : dueB wd [x] [y] = true ↔ relP wd x y := by
        unfold dueB relP
        rcases hw with rfl | rfl | rfl
        · rw [if_neg (by decide), if_neg (by decide), if_neg (by decide), if_pos rfl, if_pos rfl]
          exact decide_eq_true_iff
        · rw [if_neg (by decide), if_neg (by decide), if_neg (by decide), if_neg (by decide), if_pos rfl, if_neg (by decide), if_pos rfl]
          exact decide_eq_true_iff
        · rw [if_neg (by decide), if_neg (by decide), if_neg (by decide), if_neg (by decide), if_neg (by decide), if_neg (by decide), if_neg (by decide)]
          exact decide_eq_true_iff
      unfold holdM
      have hnw : ¬ wd = "within" := by rcases hw with rfl | rfl | rfl <;> decide
      rw [decide_eq_false hnw]
      by_cases e : relP wd x y
      · rw [mu2 hx e, key.mpr e]; rfl
      · rw [mu4 hx e]
        cases hd : dueB wd [x] [y] with
        | true => exact absurd (key.mp hd) e
        | false => rfl
  · rw [zcv]
    have d : dueB "within" A B = A.all (fun q => decide (q ∈ B)) := by unfold dueB; rw [if_neg (by decide), if_neg (by decide), if_pos rfl]
    rw [d]
    unfold holdM
    have : (rds t []).all (fun q => !decide (q ∈ A) || decide (q ∈ B)) = A.all fun q => decide (q ∈ B) := by
      rw [Bool.eq_iff_iff, List.all_eq_true, List.all_eq_true]
      constructor
      · intro h q hq
        have := h q (hs q hq)
        rw [decide_eq_true hq] at this
        exact this
      · intro h q hq
        by_cases ha : q ∈ A
        · rw [h q ha, Bool.or_true]
        · rw [decide_eq_false ha]; rfl
    rw [this]
    cases A.all fun q => decide (q ∈ B) <;> decide +kernel
end SM
namespace SS
open PySem PySem.Spec PyProof.Rows L2
abbrev ch (s : Str) : List Nat := s.cps.toList
theorem zoj (a b : Str) : ch (a ++ b) = ch a ++ ch b := by
  show (a ++ b).cps.toList = _
  rw [Str.cps_append, Array.toList_append]
theorem zl6 {a b : Str} (h : ch a = ch b) : a = b := Str.ext' (Array.toList_inj.mp h)
end SS
namespace SM
open PySem PySem.Spec PyProof.Rows L2 SS
def tx (q : Rd) : Str := ⟨(q.map fun b => if b = true then 114 else 108).toArray⟩
theorem zgj (q : Rd) : ch (tx q) = q.map fun b => if b = true then 114 else 108 := rfl
theorem tx_nil : tx [] = "" := by decide +kernel
theorem tx_l (q : Rd) : tx q ++ "l" = tx (q ++ [false]) := zl6 (by rw [zoj, zgj, zgj, List.map_append]; congr 1)
theorem tx_r (q : Rd) : tx q ++ "r" = tx (q ++ [true]) := zl6 (by rw [zoj, zgj, zgj, List.map_append]; congr 1)
theorem zn2 {p q : Rd} (h : tx p = tx q) : p = q := by
  have e : ch (tx p) = ch (tx q) := by rw [h]
  rw [zgj, zgj] at e
  refine List.map_inj_right (f := fun b : Bool => if b = true then 114 else 108) ?_ |>.mp e
  intro a b h
  cases a <;> cases b <;> first | rfl | exact absurd h (by decide)
theorem zem (q : Rd) : (tx q).length = q.length := by
  show (tx q).cps.size = _
  rw [← Array.length_toList]
  show (ch (tx q)).length = _
  rw [zgj, List.length_map]
theorem zmh (p q : Rd) : decide (V.str (tx p) = V.str (tx q)) = decide (p = q) := decide_eq_decide.mpr ⟨fun h => zn2 (V.str.inj h), fun h => by rw [h]⟩
abbrev txV (q : Rd) : V := .str (tx q)
theorem zon (p : Rd) (m : List Rd) : inV (txV p) (m.map txV) = decide (p ∈ m) := by
  induction m with
  | nil => rfl
  | cons q m ih =>
    rw [List.map_cons]
    show (eqV (txV q) (txV p) || inV (txV p) (m.map txV)) = _
    rw [ih, zhg, decide_eq_decide.mpr (show tx q = tx p ↔ q = p from ⟨zn2, fun h => by rw [h]⟩)]
    by_cases h : q = p
    · rw [decide_eq_true h, decide_eq_true (show p ∈ q :: m by rw [h]; exact List.mem_cons_self)]; rfl
    · rw [decide_eq_false h, Bool.false_or]
      exact decide_eq_decide.mpr ⟨List.mem_cons_of_mem _, fun z => (List.mem_cons.mp z).resolve_left fun e => h e.symm⟩
theorem zmg (q : Rd) (n : Nat) : Txt.slice (tx q) none (some (n : Int)) = tx (q.take n) := by
  refine zl6 ?_
  show (Txt.slice (tx q) none (some (n : Int))).cps.toList = _
  rw [zf4, zly, zgj, List.map_take]
  rfl
def toldN (b : Bool) : Nat := if b = true then 2 else 3
def sidesN (wd : Str) (l r : Nat) : List Nat := if wd = "left" then [l] else if wd = "right" then [r] else [l, r]
def zdk : Sp := fun vs H Q _ => ∃ b : Bool, vs = [.bl b] ∧ Q (nV (toldN b)) H
def zh3 : Sp := fun vs H Q _ => ∃ (wd : Str) (l r : Nat), vs = [.str wd, nV l, nV r] ∧ ∀ p H', Same H H' → H' p = some (.tup ((sidesN wd l r).map nV)) → Q (.ref p) H'
def zj0 : Sp := fun vs H Q _ => ∃ (wd : Str) (one other : Bool) (l r : Nat), vs = [.str wd, .bl one, .bl other, nV l, nV r] ∧ ∀ H', Same H H' → Q (nV (mkRel wd one other l r)) H'
def zj1 : Sp := fun vs H Q _ => ∃ (wd : Str) (one other : Bool) (l r : Nat), vs = [.str wd, .bl one, .bl other, nV l, nV r] ∧ ∀ H', Same H H' → Q (nV (mkN wd one other l r)) H'
def zh8 : Sp := fun vs H Q _ => ∃ (wd : Str) (m : Nat), vs = [.str wd, nV m] ∧ Q (.bl (holdM wd m)) H
theorem zlj (xs : List Nat) : (xs.map nV).all flatV = true := by
  rw [List.all_eq_true]; intro v hv; obtain ⟨_, _, rfl⟩ := List.mem_map.mp hv; rfl
theorem zp4 (l k : Nat) : eqV (nV l) (nV k) = decide (l = k) := by
  show ((l : Int) == (k : Int)) = _
  rw [Bool.eq_iff_iff, beq_iff_eq, decide_eq_true_iff]
  omega
theorem in2 (l r k : Nat) : inV (nV k) [nV l, nV r] = decide (l = k ∨ r = k) := by
  show (eqV (nV l) (nV k) || (eqV (nV r) (nV k) || false)) = _
  rw [zp4, zp4, Bool.or_false, Bool.decide_or]
theorem in1 (l k : Nat) : inV (nV k) [nV l] = decide (l = k) := by
  show (eqV (nV l) (nV k) || false) = _
  rw [zp4, Bool.or_false]
theorem znm (wd : Str) (l r : Nat) : inV (nV 1) ((sidesN wd l r).map nV) = decide (if wd = "left" then l = 1 else if wd = "right" then r = 1 else (l = 1 ∨ r = 1)) := by
  unfold sidesN
  by_cases h1 : wd = "left"
  · rw [if_pos h1]; rw [decide_eq_decide.mpr (show (if wd = "left" then l = 1 else if wd = "right" then r = 1 else (l = 1 ∨ r = 1)) ↔ l = 1 by rw [if_pos h1])]
    exact in1 l 1
  · rw [if_neg h1]
    by_cases h2 : wd = "right"
    · rw [if_pos h2]; rw [decide_eq_decide.mpr (show (if wd = "left" then l = 1 else if wd = "right" then r = 1 else (l = 1 ∨ r = 1)) ↔ r = 1 by rw [if_neg h1, if_pos h2])]
      exact in1 r 1
    · rw [if_neg h2]; rw [decide_eq_decide.mpr (show (if wd = "left" then l = 1 else if wd = "right" then r = 1 else (l = 1 ∨ r = 1)) ↔ (l = 1 ∨ r = 1) by rw [if_neg h1, if_neg h2])]
      exact in2 l r 1
structure SA where
  p : Addr
  dx : Addr
  pp : Addr
  pf : Addr
  pn : Addr
  ps : Addr
abbrev fl4 (x y z t : V) : List (Str × V) := [("parts", x), ("forms", y), ("numbers", z), ("steps", t)]
abbrev SA.fl (A : SA) : List (Str × V) := fl4 (.ref A.pp) (.ref A.pf) (.ref A.pn) (.ref A.ps)
theorem zb4 {x y z t : V} : List.lookup ("parts" : Str) (fl4 x y z t) = some x := zlk
theorem zll {x y z t : V} : List.lookup ("forms" : Str) (fl4 x y z t) = some y := (zb3 (by decide)).trans zlk
theorem zeb {x y z t : V} : List.lookup ("steps" : Str) (fl4 x y z t) = some t := (zb3 (by decide)).trans ((zb3 (by decide)).trans ((zb3 (by decide)).trans zlk))
theorem zcs {f : Str} {x y z t : V} (h1 : (f == ("parts" : Str)) = false) (h2 : (f == ("forms" : Str)) = false) (h3 : (f == ("numbers" : Str)) = false) (h4 : (f == ("steps" : Str)) = false) : List.lookup f (fl4 x y z t) = none := (zb3 h1).trans ((zb3 h2).trans ((zb3 h3).trans ((zb3 h4).trans rfl)))
theorem zp3 (x y z t : V) : putF "steps" t (putF "numbers" z (putF "forms" y (putF "parts" x []))) = fl4 x y z t := by
  show putF "steps" t (putF "numbers" z (putF "forms" y [("parts", x)])) = _
  have e1 : putF "forms" y [("parts", x)] = ([("parts", x), ("forms", y)] : List (Str × V)) := by
    show (if ("parts" : Str) = "forms" then _ else _) = _
    rw [if_neg (by decide)]; rfl
  rw [e1]
  have e2 : putF "numbers" z [("parts", x), ("forms", y)] = ([("parts", x), ("forms", y), ("numbers", z)] : List (Str × V)) := by
    show (if ("parts" : Str) = "numbers" then _ else _ :: (if ("forms" : Str) = "numbers" then _ else _)) = _
    rw [if_neg (by decide), if_neg (by decide)]; rfl
  rw [e2]
  show (if ("parts" : Str) = "steps" then _ else _ :: (if ("forms" : Str) = "steps" then _ else _ :: (if ("numbers" : Str) = "steps" then _ else _ :: _))) = _
  rw [if_neg (by decide), if_neg (by decide), if_neg (by decide)]; rfl
structure Si (C : Addr) (A : SA) (H0 H : Hp) : Prop where
  e1 : H A.p = some (.ins C A.dx A.fl)
  ep : H A.pp = some (.lst [])
  ef : ∃ rs, H A.pf = some (.lst rs) ∧ rs.length = 4
  es : H A.ps = some (.dT [])
  zp : H0 A.pp = none
  zs : H0 A.ps = none
  nf : A.pp ≠ A.pf
  g : Same H0 H
def StS (wd : Str) (i j : Nat) (sts : List (List Key × V)) : Prop := ∀ (c l r : Nat) v, valV sts [.inl 0, .inl (c : Int), .inl (l : Int), .inl (r : Int)] = some v → v = nV (markN wd i j c l r)
structure Sd (C : Addr) (A : SA) (a : Addr) (wd : Str) (i j : Nat) (sts : List (List Key × V)) (H : Hp) : Prop where
  e1 : H A.p = some (.ins C A.dx A.fl)
  ep : H A.pp = some (.lst [.ref a])
  ea : H a = some (.tup [.str wd, nV (2 ^ i), nV (2 ^ j)])
  ef : ∃ rs, H A.pf = some (.lst rs) ∧ rs.length = 4
  es : H A.ps = some (.dT sts)
  st : StS wd i j sts
def Up (ps : Addr) (H H' : Hp) : Prop := ∀ b o, b ≠ ps → H b = some o → H' b = some o
theorem Same.upS {ps : Addr} {H H' : Hp} (g : Same H H') : Up ps H H' := fun b o _ e => g b o e
theorem Up.trans {ps : Addr} {H H1 H2 : Hp} (a : Up ps H H1) (b : Up ps H1 H2) : Up ps H H2 := fun c o n e => b c o n (a c o n e)
theorem Up.frz {ps : Addr} {H H' : Hp} {sts : List (List Key × V)} (e : H ps = some (.dT sts)) (u : Up ps H H') : Frz H H' := fun b o x h => u b _ (fun z => by rw [z, e] at h; cases h) h
theorem Up.tups {ps : Addr} {H H' : Hp} {sts : List (List Key × V)} (e : H ps = some (.dT sts)) (u : Up ps H H') : TupS H H' := fun b o h => u b _ (fun z => by rw [z, e] at h; cases h) h
theorem Up.same {ps : Addr} {H0 H H' : Hp} (z : H0 ps = none) (g : Same H0 H) (u : Up ps H H') : Same H0 H' := fun b o h => u b o (fun e => by rw [e, z] at h; cases h) (g b o h)
section
variable {C : Addr} {A : SA} {a : Addr} {wd : Str} {i j : Nat} {sts sts' : List (List Key × V)} {H H' : Hp}
theorem Sd.ne1 (S : Sd C A a wd i j sts H) : A.p ≠ A.ps := zei S.e1 S.es (by intro z; cases z)
theorem Sd.up (S : Sd C A a wd i j sts H) (u : Up A.ps H H') (es : H' A.ps = some (.dT sts')) (st : StS wd i j sts') : Sd C A a wd i j sts' H' := by
  obtain ⟨rs, er, hl⟩ := S.ef
  exact ⟨u _ _ S.ne1 S.e1, u _ _ (zei S.ep S.es (by intro z; cases z)) S.ep, u _ _ (zei S.ea S.es (by intro z; cases z)) S.ea, ⟨rs, u _ _ (zei er S.es (by intro z; cases z)) er, hl⟩, es, st⟩
theorem Sd.same (S : Sd C A a wd i j sts H) (g : Same H H') : Sd C A a wd i j sts H' := S.up (Same.upS g) (g _ _ S.es) S.st
end
theorem Sd.drop {C : Addr} {A : SA} {a : Addr} {wd : Str} {i j : Nat} {sts : List (List Key × V)} {H : Hp} (S : Sd C A a wd i j sts H) {H' : Hp} (g : SameN H H') : Sd C A a wd i j sts H' := by
  obtain ⟨rs, er, hl⟩ := S.ef
  exact ⟨g _ _ S.e1 (fun _ _ z => nomatch z), g _ _ S.ep (fun _ _ z => nomatch z), g _ _ S.ea (fun _ _ z => nomatch z), ⟨rs, g _ _ er (fun _ _ z => nomatch z), hl⟩, g _ _ S.es (fun _ _ z => nomatch z), S.st⟩
theorem zps {cl : List (Str × Addr)} {ps : Addr} {H H2 : Hp} (u : Up ps (dropL cl H) H2) : Up ps H (mixL cl H H2) := fun b o hb e => by
  classical
  show (if InCl cl b then H b else H2 b) = some o
  by_cases hc : InCl cl b
  · rw [if_pos hc]; exact e
  · rw [if_neg hc]
    exact u b o hb (by show (if InCl cl b then none else H b) = some o; rw [if_neg hc]; exact e)
theorem zc4 {X : Cx} {σ : L2.St} {H1 Hq H2 : Hp} (ad : Adopted X σ H1 Hq) {b : Addr} {u : HO} (e : H1 b = some u) : dropX X H2 b = H2 b := by
  have hc : ¬ CellOf X b := fun hc => by rw [ad.2.1 b hc] at e; cases e
  exact if_neg hc
theorem Sd.dropX {X : Cx} {σ : L2.St} {H1 Hq H2 : Hp} (ad : Adopted X σ H1 Hq) {C : Addr} {A : SA} {a : Addr} {wd : Str} {i j : Nat} {sts sts' : List (List Key × V)} (S1 : Sd C A a wd i j sts H1) (S : Sd C A a wd i j sts' H2) : Sd C A a wd i j sts' (L2.dropX X H2) := by
  obtain ⟨rs, er, hl⟩ := S.ef
  obtain ⟨rs1, er1, hl1⟩ := S1.ef
  exact ⟨(zc4 ad S1.e1).trans S.e1, (zc4 ad S1.ep).trans S.ep, (zc4 ad S1.ea).trans S.ea, ⟨rs, (zc4 ad er1).trans er, hl⟩, (zc4 ad S1.es).trans S.es, S.st⟩
def treeW : List Str := ["in", "same", "within", "left", "right", "above"]
theorem zdj {wd : Str} (h : wd ∈ treeW) : ∀ z : Str, z ∈ (["not", "and", "some set", "some place", "or", "all", "some"] : List Str) → ¬ V.str wd = V.str z := fun z hz e => by
  have := V.str.inj e
  subst this
  revert h hz
  simp only [treeW, List.mem_cons, List.not_mem_nil, or_false]
  rintro h hz
  rcases hz with rfl | rfl | rfl | rfl | rfl | rfl | rfl <;> exact absurd h (by decide)
def zh2 (C : Addr) : Sp := fun vs H Q _ => ∃ (p dx : Addr) (H0 : Hp), vs = [.ref p] ∧ H = upd (upd H0 dx (.own p)) p (.ins C dx []) ∧ H0 p = none ∧ H0 dx = none ∧ dx ≠ p ∧ ∀ A H', A.p = p → Si C A H0 H' → Q .non H'
def zhy (C : Addr) : Sp := fun vs H Q _ => ∃ (A : SA) (b : Addr) (v : V) (H0 : Hp) (wd n m : Str) (tl : List Str) (i j : Nat), vs = [.ref A.p, v, .ref b] ∧ wd ∈ treeW ∧ Si C A H0 H ∧ Rep H v (.bare wd n m) ∧ H b = some (.lst (tl.map V.str)) ∧ tl.length ≤ 4 ∧ tl.idxOf n = i ∧ i < tl.length ∧ tl.idxOf m = j ∧ j < tl.length ∧
  ∀ a H', Sd C A a wd i j [] H' → Same H0 H' → Q (nV 0) H'
def zh0 (C : Addr) : Sp := fun vs H Q _ => ∃ (A : SA) (a : Addr) (wd : Str) (i j : Nat) (sts : List (List Key × V)), vs = [.ref A.p, nV 0] ∧ wd ∈ treeW ∧ Sd C A a wd i j sts H ∧ Q (nV 0) H
def zjx (C : Addr) : Sp := fun vs H Q _ => ∃ (A : SA) (a : Addr) (wd : Str) (i j : Nat) (sts : List (List Key × V)) (c l r : Nat), vs = [.ref A.p, nV 0, nV c, nV l, nV r] ∧ wd ∈ treeW ∧ Sd C A a wd i j sts H ∧ c < 32 ∧ i ≤ 4 ∧ j ≤ 4 ∧ ∀ H', Same H H' → Q (nV (markN wd i j c l r)) H'
def zjy (C : Addr) : Sp := fun vs H Q _ => ∃ (A : SA) (a : Addr) (wd : Str) (i j : Nat) (sts : List (List Key × V)) (c l r : Nat), vs = [.ref A.p, nV 0, nV c, nV l, nV r] ∧ wd ∈ treeW ∧ Sd C A a wd i j sts H ∧ sts.length ≤ 200 ∧ c < 32 ∧ i ≤ 4 ∧ j ≤ 4 ∧ ∀ H' sts', Up A.ps H H' → Sd C A a wd i j sts' H' → sts'.length ≤ sts.length + 1 → Q (nV (markN wd i j c l r)) H'
def zfx (C : Addr) : Sp := fun vs H Q _ => ∃ (A : SA) (a : Addr) (wd : Str) (i j : Nat) (sts : List (List Key × V)) (m : Nat), vs = [.ref A.p, nV 0, nV m] ∧ wd ∈ treeW ∧ Sd C A a wd i j sts H ∧ m < 4 ∧ ∀ H', Same H H' → Q (.bl (holdM wd m)) H'
def zcw (R : Nat → Hp → Prop) (go : Nat → Nat → Nat → Nat) (L n NN : Nat) : Sp := fun vs H Q _ => ∃ l a b k : Nat, vs = [nV l, nV a, nV b] ∧ R k H ∧ k < NN ∧ l < L ∧ a < n ∧ b < n ∧ ∀ H', Frz H H' → TupS H H' → R (k + 1) H' → Q (nV (go l a b)) H'
def ziy (P : Program) (w : World) (K : PySem.W.Frag) (mg : Str → Option Value) (base : Heap) (kc d : Nat) : Sp := fun vs H Q _ => ∃ (R : Nat → Hp → Prop) (go : Nat → Nat → Nat → Nat) (L n NN : Nat) (v : V) (z : Nat) (f : Addr) (fd : FuncData) (t : Tr) (k : Nat),
  vs = [v, nV z, .ref f] ∧ TreeV H v t ∧ t.depth < d ∧ t.Let L ∧ z < n ∧ (∀ l a b, l < L → a < n → b < n → go l a b < n) ∧ H f = some (fnO fd f) ∧ CloH P w K mg base kc H f 3 (zcw R go L n NN) ∧ R k H ∧ k + t.size ≤ NN ∧
  ∀ H', Frz H H' → TupS H H' → R (k + t.size) H' → Q (nV (t.up z go)) H'
structure BareT (tl : List Str) (wd n m : Str) (i j : Nat) : Prop where
  hw : wd ∈ treeW
  ei : tl.idxOf n = i
  hi : i < tl.length
  ej : tl.idxOf m = j
  hj : j < tl.length
  fr : frameB (tl.map V.str) = true
  ok : letB SS.rowWords 3 tl (.bare wd n m) = true
  wf : wfB (.bare wd n m) = true
def zdq (Pt : Addr) (qs : List (Pos × Str)) : Sp := fun vs H Q _ => ∃ (v b : V) (bf : Addr) (wd n m : Str) (tl : List Str) (i j : Nat) (t : Tr), vs = [v, .ref bf, b] ∧ TabOk H Pt qs ∧ Rep H v (.bare wd n m) ∧ H bf = some (.lst (tl.map V.str)) ∧ tl.length ≤ 3 ∧ BareT tl wd n m i j ∧ TreeV H b t ∧ t.Let (2 ^ tl.length) ∧ t.size ≤ 14 ∧ ∀ H', Same H H' → Q (.bl (holdM wd (t.up 0 (markN wd i j)))) H'
def zh5 : Sp := fun vs H Q _ => ∃ (b : Addr) (tl : List Str), vs = [.ref b] ∧ H b = some (.lst (tl.map V.str)) ∧ tl.length ≤ 3 ∧ (∀ z ∈ tl, z.length ≤ 4) ∧ frameB (tl.map V.str) = true ∧ ∀ H', Same H H' → Q .non H'
def zfy : Sp := fun vs H Q _ => ∃ (v : V) (b : Addr) (tl : List Str) (wd n m : Str) (i j : Nat), vs = [v, .ref b] ∧ Rep H v (.bare wd n m) ∧ H b = some (.lst (tl.map V.str)) ∧ tl.length ≤ 3 ∧ (∀ z ∈ tl, z.length ≤ 4) ∧ BareT tl wd n m i j ∧ ∀ H', Same H H' → Q .non H'
def zc7 : Sp := fun vs H Q _ => ∃ (f : Addr) (v : V) (names : List Str) (t : Tr), vs = [.ref f, v] ∧ H f = some (.lst (names.map V.str)) ∧ FrOk names ∧ TreeV H v t ∧ t.size ≤ 100 ∧ t.Let (2 ^ names.length) ∧ ∀ H', Same H H' → Q (.bl (fitB names t.lets2)) H'
def zfw (Pt : Addr) (qs : List (Pos × Str)) : Sp := fun vs H Q _ => ∃ (v b : V) (bf : Addr) (wd n m : Str) (tl : List Str) (i j : Nat) (t : Tr), vs = [v, .ref bf, b] ∧ TabOk H Pt qs ∧ Rep H v (.bare wd n m) ∧ H bf = some (.lst (tl.map V.str)) ∧ FrOk tl ∧ tl.length ≤ 3 ∧ (∀ z ∈ tl, z.length ≤ 4) ∧ BareT tl wd n m i j ∧ TreeV H b t ∧ t.Let (2 ^ tl.length) ∧ t.size ≤ 14 ∧
  ∀ H', Same H H' → Q (.bl (fitB tl t.lets2 && holdM wd (t.up 0 (markN wd i j)))) H'
abbrev rdL (m : List Rd) : HO := .lst (m.map txV)
def LnR (H : Hp) (v : V) (m : List Rd) : Prop := ∃ a, v = .ref a ∧ H a = some (rdL m)
def zh4 (d : Nat) : Sp := fun vs H Q _ => ∃ (v : V) (t : Tr) (p : Rd), vs = [v, txV p] ∧ TreeV H v t ∧ t.depth < d ∧ t.size ≤ 60 ∧ p.length + t.depth ≤ 200 ∧ ∀ D H', H D = none → Same H H' → H' D = some (rdL (rds t p)) → Q (.ref D) H'
def zh6 (d : Nat) : Sp := fun vs H Q _ => ∃ (v : V) (a : Addr) (t : Tr) (p : Rd) (xs : List V) (ms : List (List Rd)), vs = [v, txV p, .ref a] ∧ TreeV H v t ∧ t.depth < d ∧ p.length + t.depth ≤ 200 ∧ H a = some (.lst xs) ∧ Paired (LnR H) xs ms ∧ ms.length ≤ 2 ∧ (∀ m ∈ ms, m.length ≤ 100) ∧ ∀ v' H', Same H H' → TreeV H' v' (ltT ms ms.length t p) → Q v' H'
def zj3 : Sp := fun vs H Q _ => ∃ (a b : Addr) (wd : Str) (A B : List Rd), vs = [.str wd, .ref a, .ref b] ∧ wd ∈ treeW ∧ H a = some (rdL A) ∧ H b = some (rdL B) ∧ A.length ≤ 100 ∧ B.length ≤ 100 ∧ (∀ q ∈ A, q.length ≤ 200) ∧ (∀ q ∈ B, q.length ≤ 200) ∧ (wd ≠ "within" → A ≠ []) ∧ (wd ≠ "within" → wd ≠ "in" → B ≠ []) ∧ ∀ H', Same H H' → Q (.bl (dueB wd A B)) H'
def words42 (one other : Str) : List Str := if isP one = true then (if isP other = true then ["same", "left", "right", "above"] else ["in"]) else if isP other = true then [] else ["within"]
def zfu : Sp := fun vs H Q _ => ∃ one other : Str, vs = [.str one, .str other] ∧ NmOk one ∧ NmOk other ∧ ∀ D H', H D = none → Same H H' → H' D = some (.lst ((words42 one other).map V.str)) → Q (.ref D) H'
def zhz : Sp := fun vs H Q _ => ∃ (a : Addr) (n : Int) (b : Bool) (ts : List Rd), vs = [.ref a, .int n, .bl b] ∧ H a = some (rdL ts) ∧ ts ≠ [] ∧ ts.length ≤ 60 ∧ 0 ≤ n ∧ ∀ D H' m, H D = none → Same H H' → H' D = some (rdL m) → (b = true → ∃ r, m = [r] ∧ r ∈ ts) → (∀ q ∈ m, q ∈ ts) → m.length ≤ 60 → Q (.ref D) H'
structure MFit (tl : List Str) (t : Tr) (ms : List (List Rd)) (fit : Bool) : Prop where
  len : ms.length = tl.length
  few : ∀ m ∈ ms, m.length ≤ 60 ∧ ∀ q ∈ m, q ∈ rds t []
  eq : fit = fitB tl (ltT ms tl.length t []).lets2
  one : fit = true → ∀ k, k < tl.length → isP (tl.getD k (Str.ofString "")) = true → OneR t (ms.getD k [])
def frames42 : List (List Str) := [["x", "y4"], ["x1", "X1"], ["U", "u77"], ["Q", "Q0"], ["n"], ["z", "x3"]]
def zen (K : PySem.W.Frag) (Pt : Addr) (qs : List (Pos × Str)) : Sp := fun vs H Q _ => ∃ (fr am : Addr) (v : V) (tl : List Str) (t : Tr) (xs : List V) (ms : List (List Rd)) (fit : Bool), vs = [.ref fr, v, .ref am, .bl fit] ∧ TabOk H Pt qs ∧ H fr = some (.lst (tl.map V.str)) ∧ tl ∈ frames42 ∧ TreeV H v t ∧ t.size ≤ 14 ∧ H am = some (.lst xs) ∧ Paired (LnR H) xs ms ∧ MFit tl t ms fit ∧ ∀ H', Same H H' → Q (.bl true) H'
end SM
set_option maxHeartbeats 4000000
namespace L2
open PySem
theorem fit1 {P : List Value → Prop} (h : ∀ a, P [a]) : ∀ us : List Value, us.length = 1 → P us
  | [_], _ => h _
theorem fit2 {P : List Value → Prop} (h : ∀ a b, P [a, b]) : ∀ us : List Value, us.length = 2 → P us
  | [_, _], _ => h _ _
theorem fit3 {P : List Value → Prop} (h : ∀ a b c, P [a, b, c]) : ∀ us : List Value, us.length = 3 → P us
  | [_, _, _], _ => h _ _ _
theorem fit4 {P : List Value → Prop} (h : ∀ a b c d, P [a, b, c, d]) : ∀ us : List Value, us.length = 4 → P us
  | [_, _, _, _], _ => h _ _ _ _
theorem fit5 {P : List Value → Prop} (h : ∀ a b c d e, P [a, b, c, d, e]) : ∀ us : List Value, us.length = 5 → P us
  | [_, _, _, _, _], _ => h _ _ _ _ _
end L2
namespace K42
open PySem PySem.Spec PyProof.Rows L2 SS SM
local macro_rules | `(tactic| trivial) => `(tactic| simp only [exists_eq', rEqI, rNeI, rInDc, rLenD, rLenT, rDictOf, rMaxL, rIndex, rCatTN, rCatTE, tDNewN, tDNewTN, tDisp1T, rNeM, rRange2, rListRng, rRepN, rPopAt, rSetL, gSub, ipI, tDGet, tDGet2, sDPut, iEnum, iEZ, iZipL, tLam, tCallA, tCallV, tDef, iRng3, rIndexT, tFld, sFld, tMeth, tMake, gLst, rPop, rExtendT, iZip, rInD, rIxD, rLen, rAll, rAny, rSum, rListOf, rEqS, rNeS, rSlTN, rStrB, tTupN, tLstN, rSlLN, rCatN, cxK, cxP, cxW, tSeq, tIfS, tTest, tB, tOp, tUn, tC, tAnd, tOr, tNot, tAndV, tOrV, tNotV, tIf, tNext, tBreak, tCont, tDrop, tRet, tRetN, gName, gNil, gCons, gTup, tAsg, tPar, tAug, rI, rI0, rU, rEq, rNe, tChain, tNil, tCons, tTup, tLst, tCall, tCB, tNoPart, tPart, tSl, rSlT, rSlL, rSlS, rIxL, rIxT, rIxS, rIn, tBM0, tBM, tyV, rAppend, rExtend, rCat, rZfill, rEqD, iList, iTup, iStr, iRng1, iRng2, tYes, tDisp, tPairs, zox, zow, zg6, zkc, zfe, zff, List.set_cons_zero, List.set_cons_succ, List.nil_append, List.cons_append, List.append_nil, V.int.injEq, V.str.injEq, V.bl.injEq, V.ref.injEq, V.ty.injEq, List.cons.injEq, and_true, true_and, exists_eq_left, exists_eq_left', exists_and_left, exists_eq, exists_const, if_true, if_false, ite_true, ite_false, zoy, zoz, zo0, zo1, zo2, Option.some.injEq, exists_eq_right, exists_eq_right', and_assoc, reduceCtorEq, false_and, and_false, false_or, or_false, exists_false])
def top (i : Nat) : Stmt := PySem.Challenge.pw_setsays_k42_bare_ones_of_trees.main.body.getD i (.Pass ⟨0, 0, 0, 0⟩)
structure Txt (K : PySem.W.Frag) (mg : Str → Option Value) (w : World) (tw ow fa cStandings : Addr) : Prop where
  b_isinstance : mg "isinstance" = none
  b_tuple : mg "tuple" = none
  b_str : mg "str" = none
  b_list : mg "list" = none
  b_int : mg "int" = none
  b_bool : mg "bool" = none
  b_set : mg "set" = none
  b_len : mg "len" = none
  b_all : mg "all" = none
  b_any : mg "any" = none
  b_sum : mg "sum" = none
  b_max : mg "max" = none
  b_zip : mg "zip" = none
  b_range : mg "range" = none
  b_enumerate : mg "enumerate" = none
  g_FIGURES : GlV mg "FIGURES" (.str FIGS)
  g_LONGEST_NAME : GlV mg "LONGEST_NAME" (.int 4)
  g_SMALL_LETTERS : GlV mg "SMALL_LETTERS" (.str SMALL)
  g_GREAT_LETTERS : GlV mg "GREAT_LETTERS" (.str GREAT)
  g_MOST_NAMES : GlV mg "MOST_NAMES" (.int 4)
  g_MOST_TREE_NAMES : GlV mg "MOST_TREE_NAMES" (.int 3)
  g_DEEPEST : GlV mg "DEEPEST" (.int 12)
  g_MOST_PARTS : GlV mg "MOST_PARTS" (.int 60)
  g_WAITING : GlV mg "WAITING" (.int 0)
  g_SECOND : GlV mg "SECOND" (.int 1)
  g_YES : GlV mg "YES" (.int 2)
  g_NO : GlV mg "NO" (.int 3)
  g_TELLING_WORDS : GlV mg "TELLING_WORDS" (.ref tw)
  t_TELLING_WORDS : ∀ H, SqT K H tw [.str "some", .str "all"]
  g_ROW_WORDS : GlV mg "ROW_WORDS" (.ref ow)
  t_ROW_WORDS : ∀ H, SqT K H ow [.str "ahead", .str "next"]
  g_FORMS : GlV mg "FORMS" (.ref fa)
  f_FORMS : Forms K w fa
  m_Standings : mg "Standings" = some (.ref cStandings)
  cl_Standings : Cls K cStandings
  n_parts : NoAttr K cStandings "parts"
  n_forms : NoAttr K cStandings "forms"
  n_numbers : NoAttr K cStandings "numbers"
  n_steps : NoAttr K cStandings "steps"
seal PE PT PW PA PS PSs
section
variable {P : Program} {w : World} {K : PySem.W.Frag} {mg : Str → Option Value} {base : Heap} {tw ow fa cStandings : Addr}
abbrev s_is_letter_with_figures : Stmt := top 11
theorem zbq : FnScope ["thing", "letters"] ["thing", "letters"] (defScope s_is_letter_with_figures) := ⟨rfl, rfl, rfl, by decide +kernel, rfl, by decide +kernel, by decide +kernel⟩
theorem zrm (T : Txt K mg w tw ow fa cStandings) (d : Dfn K mg "is_letter_with_figures" s_is_letter_with_figures ["thing", "letters"]) : Cal P w K mg base 1 "is_letter_with_figures" ["thing", "letters"] zop := by
  refine d.cal zbq (fun vs H Q E h => ?_) (fun f cdv A outer s H vs Q E hr h => ?_)
  · obtain ⟨x, l, k, rfl, _⟩ := h
    rfl
  obtain ⟨x, l, k, rfl, hk, hz, q⟩ := h
  refine ⟨_, (zac (zar (PW.pt (zcz (zbx (zba (za4 zbj (by rfl) T.b_isinstance boot_isinstance (pa_c (pv 0) (pa_c (zbw (v := .ty "str") (by rfl) T.b_str boot_str (by rfl)) zab))))) (zcz (zai za5 (pv 0) zak (nomark _)) (zb9 (zai zi8 (za4 zbp (by rfl) T.b_len boot_len (pa_c (pv 0) zab)) (za7 (by rfl) T.g_LONGEST_NAME) (nomark _)))))) (zad (zah zdi)) zag) (zad (zah (zbo (zav zge (zan zez (pv 0) zaf (fun _ _ => rfl)) (pv 1) (by with_unfolding_all rfl)) (zbi (za4 (za8 K rfl) (by rfl) T.b_all boot_all (pa_c (zbb ["sign"] [] (CompOk.of rfl (by rfl) (by rfl)) (by rfl) (zqo (zbv zn4 (pv 0) (zbz zaf) zc1)) (fun _ _ _ _ _ => (za1 (i := 0) (show List.Nodup (["sign"] : List Str) by decide +kernel) (by rfl) (Or.inl (by rfl)))) (fun _ _ _ _ _ => zb1) (fun _ _ _ _ _ => (zav zge (pv 0) (za7 (by rfl) T.g_FIGURES) (by with_unfolding_all rfl)))) zab))))))), ?_⟩
  refine zaz [some x, some (.str l)] rfl ?_
  trivial
  refine ⟨k, hk, by decide, ?_⟩
  cases hk with
  | str z =>
    have hz' := hz z rfl
    have hl := zjw z
    rw [show (!subT "str" "str") = false by decide]
    trivial
    refine ite2 (fun c => ?_) (fun c => ?_)
    · have c' := of_decide_eq_true c
      subst c'
      exact q H (Same.refl H)
    have c' := of_decide_eq_false (Bool.eq_false_iff.mpr c)
    have ne : z.cps.toList ≠ [] := fun e => c' (ext_toList e)
    refine ⟨by have := small1000 hz'; omega, ?_⟩
    obtain ⟨c0, r0, e0⟩ := List.exists_cons_of_ne_nil ne
    have q' : ∀ H', Same H H' → Q (.bl (decide (r0.length ≤ 3) && signIn c0 l && r0.all fun d => signIn d FIGS)) H' := fun H' g => by
      have h := q H' g
      simp only [isNm, nameB, e0] at h
      exact h
    rw [e0, List.length_cons] at hl
    refine ite2 (fun c => ?_) (fun c => ?_)
    · have c2 := of_decide_eq_true c
      have h := q' H (Same.refl H)
      rw [show decide (r0.length ≤ 3) = false by simp; omega, Bool.false_and, Bool.false_and] at h
      exact h
    have c2 := of_decide_eq_false (Bool.eq_false_iff.mpr c)
    rw [show decide (r0.length ≤ 3) = true by simp; omega, Bool.true_and] at q'
    refine ⟨by have := small1000 hz'; omega, c0, by rw [e0]; exact zbd, ?_⟩
    refine ite2 (fun c => ?_) (fun c => ?_)
    · rw [show signIn c0 l = true from c, Bool.true_and] at q'
      have es : (Txt.slice z (some 1) none).cps.toList = r0 := by
        rw [zf4, show ((1 : Int)) = ((1 : Nat) : Int) from rfl, zct, e0]
        rfl
      have en : (Txt.slice z (some 1) none).cps.size = r0.length := by rw [← es]; simp
      refine ⟨by have := small1000 hz'; omega, ?_⟩
      refine zrh (fun D i ys σ H' => Same H H' ∧ (∃ v, σ = [v]) ∧ ys = (r0.take i).map fun d => V.bl (signIn d FIGS)) (by rw [en]; exact Nat.le_of_lt (small1000 (by omega))) (fun D hD => ⟨zbg hD _, ⟨none, rfl⟩, rfl⟩) ?_ ?_
      · rintro D i ys σ H' d hD hi hd hD' hys ⟨g, ⟨v, rfl⟩, rfl⟩
        trivial
        refine cstep (by rw [en]; exact Nat.le_of_lt (small1000 (by omega))) hi hD' hys ⟨fun b o e => ?_, ⟨_, rfl⟩, ?_⟩
        · rw [zam (zaq e hD)]; exact g b o e
        · rw [en] at hi
          have e1 : r0[i]? = some d := by rw [← es]; simpa using hd
          rw [List.take_add_one, e1, List.map_append]
          rfl
      · rintro D ys σ H' hD hD' hys ⟨g, _, rfl⟩
        rw [en, List.take_of_length_le (Nat.le_refl _)] at hD'
        refine ⟨_, rfl, r0.map fun d => signIn d FIGS, .of (by rw [hD', List.map_map]; rfl), ?_⟩
        have h := q' H' g
        rw [List.all_map]
        exact h
    · have h := q' H (Same.refl H)
      rw [show signIn c0 l = false from Bool.eq_false_iff.mpr c, Bool.false_and] at h
      exact h
  | non => exact q H (Same.refl H)
  | bl b => exact q H (Same.refl H)
  | int i => exact q H (Same.refl H)
  | lst e => exact q H (Same.refl H)
  | tup e => exact q H (Same.refl H)
  | dK e => exact q H (Same.refl H)
abbrev s_is_place : Stmt := top 12
theorem zg3 : FnScope ["thing"] ["thing"] (defScope s_is_place) := ⟨rfl, rfl, rfl, by decide +kernel, rfl, by decide +kernel, by decide +kernel⟩
theorem zna (T : Txt K mg w tw ow fa cStandings) (d : Dfn K mg "is_place" s_is_place ["thing"]) (C_is_letter_with_figures : Cal P w K mg base 1 "is_letter_with_figures" ["thing", "letters"] zop) : Cal P w K mg base 2 "is_place" ["thing"] (ze5 SMALL) := by
  refine d.cal zg3 (fun vs H Q E h => ?_) (fun f cdv A outer s H vs Q E hr h => ?_)
  · obtain ⟨x, k, rfl, _⟩ := h
    rfl
  obtain ⟨x, k, rfl, hk, hz, q⟩ := h
  refine ⟨_, (zad (zah (zae C_is_letter_with_figures hr (by omega) (by rfl) (pa_c (pv 0) (pa_c (za7 (by rfl) T.g_SMALL_LETTERS) zab))))), ?_⟩
  refine zaz [some x] rfl ?_
  trivial
  exact ⟨x, SMALL, k, rfl, hk, hz, q⟩
abbrev s_is_set : Stmt := top 13
theorem zka : FnScope ["thing"] ["thing"] (defScope s_is_set) := ⟨rfl, rfl, rfl, by decide +kernel, rfl, by decide +kernel, by decide +kernel⟩
theorem zqw (T : Txt K mg w tw ow fa cStandings) (d : Dfn K mg "is_set" s_is_set ["thing"]) (C_is_letter_with_figures : Cal P w K mg base 1 "is_letter_with_figures" ["thing", "letters"] zop) : Cal P w K mg base 2 "is_set" ["thing"] (ze5 GREAT) := by
  refine d.cal zka (fun vs H Q E h => ?_) (fun f cdv A outer s H vs Q E hr h => ?_)
  · obtain ⟨x, k, rfl, _⟩ := h
    rfl
  obtain ⟨x, k, rfl, hk, hz, q⟩ := h
  refine ⟨_, (zad (zah (zae C_is_letter_with_figures hr (by omega) (by rfl) (pa_c (pv 0) (pa_c (za7 (by rfl) T.g_GREAT_LETTERS) zab))))), ?_⟩
  refine zaz [some x] rfl ?_
  trivial
  exact ⟨x, GREAT, k, rfl, hk, hz, q⟩
abbrev s_is_name : Stmt := top 14
theorem zi2 : FnScope ["thing"] ["thing"] (defScope s_is_name) := ⟨rfl, rfl, rfl, by decide +kernel, rfl, by decide +kernel, by decide +kernel⟩
theorem zrl (T : Txt K mg w tw ow fa cStandings) (d : Dfn K mg "is_name" s_is_name ["thing"]) (C_is_place : Cal P w K mg base 2 "is_place" ["thing"] (ze5 SMALL)) (C_is_set : Cal P w K mg base 2 "is_set" ["thing"] (ze5 GREAT)) : Cal P w K mg base 3 "is_name" ["thing"] zmj := by
  refine d.cal zi2 (fun vs H Q E h => ?_) (fun f cdv A outer s H vs Q E hr h => ?_)
  · obtain ⟨x, rfl, _⟩ := h
    rfl
  obtain ⟨x, rfl, ⟨⟨k, hk⟩, hz⟩, q⟩ := h
  refine ⟨_, (zad (zah (zmv (zae C_is_place hr (by omega) (by rfl) (pa_c (pv 0) zab)) (zbi (zae C_is_set hr (by omega) (by rfl) (pa_c (pv 0) zab)))))), ?_⟩
  refine zaz [some x] rfl ?_
  trivial
  refine ⟨x, k, rfl, hk, hz, fun H1 g1 => ⟨_, rfl, ite2 (fun c => ?_) (fun c => ⟨x, k, rfl, hk.same g1, hz, fun H2 g2 => ?_⟩)⟩⟩
  · have h := q H1 g1
    rw [show isName x = true by unfold isName; rw [c, Bool.true_or]] at h
    exact h
  · have h := q H2 (g1.trans g2)
    rw [show isName x = isNm x GREAT by unfold isName; rw [Bool.eq_false_iff.mpr c, Bool.false_or]] at h
    exact h
abbrev s_is_frame : Stmt := top 15
theorem zg4 : FnScope ["thing"] ["thing"] (defScope s_is_frame) := ⟨rfl, rfl, rfl, by decide +kernel, rfl, by decide +kernel, by decide +kernel⟩
theorem znd (T : Txt K mg w tw ow fa cStandings) (d : Dfn K mg "is_frame" s_is_frame ["thing"]) (C_is_name : Cal P w K mg base 3 "is_name" ["thing"] zmj) : Cal P w K mg base 4 "is_frame" ["thing"] zoq := by
  refine d.cal zg4 (fun vs H Q E h => ?_) (fun f cdv A outer s H vs Q E hr h => ?_)
  · obtain ⟨x, rfl, _⟩ := h
    rfl
  obtain ⟨x, rfl, ⟨⟨k, hk⟩, hz⟩, hxs, q⟩ := h
  refine ⟨_, (zac (zar (PW.pt (zcz (zbx (zba (za4 zbj (by rfl) T.b_isinstance boot_isinstance (pa_c (pv 0) (pa_c (zbw (v := .ty "list") (by rfl) T.b_list boot_list (by rfl)) zab))))) (zb9 (zai zi8 (za4 (zaj K) (by rfl) T.b_len boot_len (pa_c (pv 0) zab)) (za7 (by rfl) T.g_MOST_NAMES) (nomark _))))) (zad (zah zdi)) zag) (zad (zah (zbo (za4 (za8 K rfl) (by rfl) T.b_all boot_all (pa_c (zbb ["name"] [] (CompOk.of rfl (by rfl) (by rfl)) (by rfl) (zbh K (pv 0)) (fun _ _ _ _ _ => (za1 (i := 0) (show List.Nodup (["name"] : List Str) by decide +kernel) (by rfl) (Or.inl (by rfl)))) (fun _ _ _ _ _ => zb1) (fun _ _ _ _ _ => (zae C_is_name hr (by omega) (by rfl) (pa_c (pv 0) zab)))) zab)) (zbi (zav za5 (za4 zfq (by rfl) T.b_len boot_len (pa_c (zn7 (zgl rfl) (by rfl) T.b_set boot_set (pa_c (pv 0) zab)) zab)) (za4 (zaj K) (by rfl) T.b_len boot_len (pa_c (pv 0) zab)) (nomark _))))))), ?_⟩
  refine zaz [some x] rfl ?_
  trivial
  refine ⟨k, hk, by decide, ?_⟩
  cases hk with
  | lst e =>
    rename_i a xs
    obtain ⟨hl, hy⟩ := hxs a xs rfl e
    have hS : SqL K H a xs := .of e
    have ef : frB H (.ref a) = frameB xs := by simp only [frB, e]
    rw [ef] at q
    refine iteF ⟨a, rfl, xs, .inl hS, ?_⟩
    refine ite2 (fun c => ?_) (fun c => ⟨a, rfl, ⟨xs, hS⟩, ?_⟩)
    · have c' := of_decide_eq_true c
      have h := q H (Same.refl H)
      rw [show frameB xs = false by unfold frameB; rw [decide_eq_false (by omega), Bool.false_and, Bool.false_and]] at h
      exact h
    have c' := of_decide_eq_false (Bool.eq_false_iff.mpr c)
    have ef2 : frameB xs = (xs.all isName && decide xs.Nodup) := by unfold frameB; rw [decide_eq_true (by omega), Bool.true_and]
    rw [ef2] at q
    refine zhk (K := K) (a := a) (xs := xs) (fun D i ys σ H' => Same H H' ∧ (∃ v, σ = [v]) ∧ ys = (xs.take i).map fun y => V.bl (isName y)) (zaa hl) (fun D hD => ⟨zbg hD _, ⟨none, rfl⟩, rfl⟩) (fun D i ys σ H' _ _ _ ⟨g, _⟩ => g.seq hS) ?_ ?_
    · rintro D i ys σ H' y hD hi hx hD' hys ⟨g, ⟨v, rfl⟩, rfl⟩
      trivial
      refine ⟨y, rfl, (hy y (List.mem_of_getElem? hx)).same g, fun H2 g2 => ?_⟩
      refine cstep (zaa hl) hi (g2 _ _ hD') hys ⟨fun b o e => ?_, ⟨_, rfl⟩, ?_⟩
      · rw [zam (zaq e hD)]; exact g2 b o (g b o e)
      · rw [List.take_add_one, hx, List.map_append]
        rfl
    · rintro D ys σ H' hD hD' hys ⟨g, _, rfl⟩
      rw [List.take_of_length_le (Nat.le_refl _)] at hD'
      refine ⟨D, rfl, xs.map isName, .of (by rw [hD', List.map_map]; rfl), ?_⟩
      rw [List.all_map, show (id ∘ isName) = isName from rfl]
      refine ite2 (fun ca => ?_) (fun ca => ?_)
      · obtain ⟨ks, ek, nk⟩ := zev ca
        have lk : ks.length = xs.length := by rw [ek, List.length_map]
        refine ⟨a, rfl, ks, ek ▸ g.seq hS, by omega, fun b H3 n3 => ⟨ks, n3.at', by omega, a, rfl, xs, .inl (n3.g.seq (g.seq hS)), ?_⟩⟩
        have h := q _ (g.trans n3.g)
        rw [ca, Bool.true_and] at h
        have ed : decide xs.Nodup = decide (((onceK [] ks).length : Int) = (xs.length : Int)) := by
          refine decide_eq_decide.mpr ?_
          rw [nk, ← zkq, lk]
          omega
        rw [ed] at h
        exact h
      · have h := q H' g
        rw [Bool.eq_false_iff.mpr ca, Bool.false_and] at h
        exact h
  | non => exact q H (Same.refl H)
  | bl b => exact q H (Same.refl H)
  | int i => exact q H (Same.refl H)
  | str z => exact q H (Same.refl H)
  | tup e =>
    have h := q H (Same.refl H)
    simp only [frB, e] at h
    exact h
  | dK e =>
    have h := q H (Same.refl H)
    simp only [frB, e] at h
    exact h
abbrev s_is_of_sort : Stmt := top 23
theorem zfa : FnScope ["thing", "sort", "deepest"] ["thing", "sort", "deepest"] (defScope s_is_of_sort) := ⟨rfl, rfl, rfl, by decide +kernel, rfl, by decide +kernel, by decide +kernel⟩
theorem zkv {n k : Nat} (hk : 3 ≤ k) (T : Txt K mg w tw ow fa cStandings) (d : Dfn K mg "is_of_sort" s_is_of_sort ["thing", "sort", "deepest"]) (C_is_place : Cal P w K mg base 2 "is_place" ["thing"] (ze5 SMALL)) (C_is_set : Cal P w K mg base 2 "is_set" ["thing"] (ze5 GREAT)) (C_is_name : Cal P w K mg base 3 "is_name" ["thing"] zmj)
    (C_has_form : Cal P w K mg base k "has_form" ["thing", "deepest"] (ze6 n)) : Cal P w K mg base (k + 1) "is_of_sort" ["thing", "sort", "deepest"] (zgx n) := by
  refine d.cal zfa (fun vs H Q E h => ?_) (fun f cdv A outer s H vs Q E hr h => ?_)
  · obtain ⟨v, s, rfl, _⟩ := h
    rfl
  obtain ⟨v, so, rfl, ex, q⟩ := h
  refine ⟨_, (zac (zar (zai za5 (pv 1) zak (nomark _)) (zad (zah (zae C_is_place hr (by omega) (by rfl) (pa_c (pv 0) zab)))) zag) (zac (zar (zai za5 (pv 1) zak (nomark _)) (zad (zah (zae C_is_set hr (by omega) (by rfl) (pa_c (pv 0) zab)))) zag) (zac (zar (zai za5 (pv 1) zak (nomark _)) (zad (zah (zae C_is_name hr (by omega) (by rfl) (pa_c (pv 0) zab)))) zag) (zad (zah (zae C_has_form hr (by omega) (by rfl) (pa_c (pv 0) (pa_c (pv 2) zab)))))))), ?_⟩
  refine zaz [some v, some (.str so), some (.int n)] rfl ?_
  trivial
  obtain ⟨⟨kd, hkd⟩, hz⟩ := ex.thing
  have e1 : ∀ b : Str, decide (V.str so = V.str b) = decide (so = b) := fun b => by simp
  unfold sortB at q
  refine ite2 (fun c => ?_) fun c => ?_
  · rw [if_pos (of_decide_eq_true c)] at q
    exact ⟨v, kd, rfl, hkd, hz, q⟩
  rw [if_neg (of_decide_eq_false (Bool.eq_false_iff.mpr c))] at q
  refine ite2 (fun c => ?_) fun c => ?_
  · rw [if_pos (of_decide_eq_true c)] at q
    exact ⟨v, kd, rfl, hkd, hz, q⟩
  rw [if_neg (of_decide_eq_false (Bool.eq_false_iff.mpr c))] at q
  refine ite2 (fun c => ?_) fun c => ?_
  · rw [if_pos (of_decide_eq_true c)] at q
    exact ⟨v, rfl, ⟨⟨kd, hkd⟩, hz⟩, q⟩
  rw [if_neg (of_decide_eq_false (Bool.eq_false_iff.mpr c))] at q
  exact ⟨v, rfl, ex, q⟩
abbrev s_has_form : Stmt := top 24
theorem sc_has_form : FnScope ["thing", "deepest", "sorts"] ["thing", "deepest"] (defScope s_has_form) := ⟨rfl, rfl, rfl, by decide +kernel, rfl, by decide +kernel, by decide +kernel⟩
theorem zky {n k : Nat} (T : Txt K mg w tw ow fa cStandings) (d : Dfn K mg "has_form" s_has_form ["thing", "deepest"]) (C_is_of_sort : Cal P w K mg base k "is_of_sort" ["thing", "sort", "deepest"] (sp_sort' n)) : Cal P w K mg base (k + 1) "has_form" ["thing", "deepest"] (ze6 n) := by
  refine d.cal sc_has_form (fun vs H Q E h => ?_) (fun f cdv A outer s H vs Q E hr h => ?_)
  · obtain ⟨v, rfl, _⟩ := h
    rfl
  obtain ⟨v, rfl, ex, q⟩ := h
  refine ⟨_, (zac (zar (PW.pt (zcz (zai za5 (pv 1) zaf (nomark _)) (zcz (zbx (zba (za4 zbj (by rfl) T.b_isinstance boot_isinstance (pa_c (pv 0) (pa_c (zbw (v := .ty "tuple") (by rfl) T.b_tuple boot_tuple (by rfl)) zab))))) (zb9 (zai za5 (za4 (zaj K) (by rfl) T.b_len boot_len (pa_c (pv 0) zab)) zaf (nomark _)))))) (zad (zah zdi)) zag) (zac (zar (PW.pt (zcz (zbx (zba (za4 zbj (by rfl) T.b_isinstance boot_isinstance (pa_c (zan (zao K) (pv 0) zaf (fun _ _ => rfl)) (pa_c (zbw (v := .ty "str") (by rfl) T.b_str boot_str (by rfl)) zab))))) (zb9 (zai (zgc K w) (zan (zao K) (pv 0) zaf (fun _ _ => rfl)) (za7 (by rfl) T.g_FORMS) (by with_unfolding_all rfl))))) (zad (zah zdi)) zag) (zac (zau (i := 2) sc_has_form.nd rfl (Or.inl rfl) (zan (zq8 K w) (za7 (by rfl) T.g_FORMS) (zan (zao K) (pv 0) zaf (fun _ _ => rfl)) (fun _ _ => rfl))) (zac (zar (zai zkn (za4 (zaj K) (by rfl) T.b_len boot_len (pa_c (pv 0) zab)) (za2 zdc zaf (za4 (zaj K) (by rfl) T.b_len boot_len (pa_c (pv 2) zab))) (nomark _)) (zad (zah zdi)) zag) (zad (zah (za4 (za8 K rfl) (by rfl) T.b_all boot_all (pa_c (zbb ["part", "sort"] [(1, "deepest")] (CompOk.of rfl (by rfl) (by rfl)) (by rfl) (zo8 K (by rfl) T.b_zip (pa_c (zbv (ze8 K) (pv 0) (zbz zaf) zc1) (pa_c (pv 2) zab))) (fun _ _ _ _ _ => (zkh K (n := 2) rfl (zdm (za1 (i := 0) (show List.Nodup (["part", "sort", "deepest"] : List Str) by decide +kernel) (by rfl) (Or.inl (by rfl))) (zdm (za1 (i := 1) (show List.Nodup (["part", "sort", "deepest"] : List Str) by decide +kernel) (by rfl) (Or.inl (by rfl))) zkg)))) (fun _ _ _ _ _ => zb1) (fun _ _ _ _ _ => (zae C_is_of_sort hr (by omega) (by rfl) (pa_c (pv 0) (pa_c (pv 1) (pa_c (za2 zn8 (pv 2) zaf) zab)))))) zab)))))))), ?_⟩
  refine zaz [some v, some (.int n), none] rfl ?_
  trivial
  cases n with
  | zero =>
    rw [decide_eq_true (show ((0 : Nat) : Int) = 0 from rfl)]
    exact iteT (q H (Same.refl H))
  | succ n =>
  rw [decide_eq_false (show ¬ ((n + 1 : Nat) : Int) = 0 by omega)]
  obtain ⟨⟨⟨kd, hkd⟩, hz⟩, hin⟩ := id ex
  refine iteF ⟨kd, hkd, by decide, ?_⟩
  cases hkd with
  | tup e =>
    rename_i a xs
    obtain ⟨hl, hx⟩ := hin a xs rfl e
    have hS : SqT K H a xs := .of e
    refine iteF ⟨a, rfl, xs, .inr hS, ?_⟩
    cases xs with
    | nil =>
      have h := q H (Same.refl H)
      simp only [formH, e] at h
      exact iteT h
    | cons x0 r =>
    rw [decide_eq_false (show ¬ (((x0 :: r).length : Nat) : Int) = 0 by rw [List.length_cons]; omega)]
    obtain ⟨⟨k0, hk0⟩, _⟩ := (hx x0 List.mem_cons_self).thing
    refine iteF ⟨a, rfl, _, hS, _, zbd, k0, hk0, by decide, ?_⟩
    cases hk0 with
    | str wd =>
      have q' : ∀ H', Same H H' → Q (.bl (match forms.lookup wd with | some ss => zipB (formH H n) r ss | none => false)) H' := fun H' g => by
        have h := q H' g
        simp only [formH, e] at h
        exact h
      obtain ⟨fm, hd, hf⟩ := T.f_FORMS.ex
      refine iteF ⟨a, rfl, _, hS, _, zbd, wd, rfl, fm, hd, ?_⟩
      rcases hf wd with ⟨ss, b, hls, hfw, hst⟩ | ⟨hls, hfw⟩
      · rw [hls] at q'
        replace q' : ∀ H', Same H H' → Q (.bl (zipB (formH H n) r ss)) H' := q'
        rw [hfw]
        refine iteF ⟨a, rfl, _, hS, _, zbd, wd, rfl, fm, hd, .ref b, hfw, a, rfl, _, .inr hS, b, rfl, _, .inr (hst H), ?_⟩
        rw [List.length_cons, List.length_map]
        by_cases hlen : r.length = ss.length
        · rw [decide_eq_true (show (((r.length + 1 : Nat)) : Int) = 1 + (ss.length : Int) by omega)]
          refine iteF ⟨a, rfl, _, hS, zf3 (by simp), fun p H1 n1 => ?_⟩
          have ec : cutL (V.str wd :: r) (some 1) none = r := by
            rw [show ((1 : Int)) = ((1 : Nat) : Int) from rfl, zct]
            rfl
          rw [ec] at n1
          have lr : r.length ≤ 1000 := by rw [List.length_cons] at hl; omega
          refine ⟨b, rfl, ⟨_, .of n1.at'⟩, ⟨_, hst H1⟩, zre (K := K) (a := p) (b := b) (xs := r) (ys := ss.map V.str) (fun σ => ∃ v1 v2, σ = [v1, v2, some (.int ((n + 1 : Nat) : Int))]) (fun i => .bl (sortB (formH H n) (r.getD i .non) (ss.getD i ""))) lr (by rw [List.length_map]; exact hlen) (.of n1.at') (hst H1) ⟨_, _, rfl⟩ ?_ ?_⟩
          · rintro D i σ G G' pp x y ex1 ey1 g hD hD' ⟨v1, v2, rfl⟩ nw
            rw [List.getElem?_map] at ey1
            obtain ⟨sx, es, rfl⟩ := Option.map_eq_some_iff.mp ey1
            have hi : i < r.length := (List.getElem?_eq_some_iff.mp ex1).1
            have mx : x ∈ r := List.mem_of_getElem? ex1
            have gx : Same H G' := n1.g.trans (g.trans nw.g)
            have exx := hx x (List.mem_cons_of_mem _ mx)
            trivial
            refine ⟨_, .of nw.at', rfl, _, _, rfl, _, _, rfl, rfl, ?_⟩
            have en : (((n + 1 : Nat) : Int) - 1) = (n : Int) := by omega
            rw [en]
            refine ⟨x, sx, rfl, exx.same gx, fun G2 g2 => zhi lr hi hD (g2 _ _ (nw.g _ _ hD')) (g.trans (nw.g.trans g2)) ⟨_, _, rfl⟩ ?_⟩
            have e1 : r.getD i .non = x := by rw [List.getD_eq_getElem?_getD, ex1]; rfl
            have e2 : ss.getD i "" = sx := by rw [List.getD_eq_getElem?_getD, es]; rfl
            rw [e1, e2]
            unfold sortB
            rw [zc3 gx exx]
          · intro D G hD g eD
            refine ⟨D, rfl, (List.range r.length).map fun i => sortB (formH H n) (r.getD i .non) (ss.getD i ""), .of (by rw [eD, List.map_map]; rfl), ?_⟩
            have h := q' G (n1.g.trans g)
            rw [zek hlen] at h
            rw [List.all_map]
            exact h
        · rw [decide_eq_false (show ¬ (((r.length + 1 : Nat)) : Int) = 1 + (ss.length : Int) by omega)]
          have h := q' H (Same.refl H)
          rw [zhs hlen] at h
          exact iteT h
      · rw [hls] at q'
        rw [hfw]
        exact iteT (q' H (Same.refl H))
    | _ =>
      have h := q H (Same.refl H)
      simp only [formH, e] at h
      exact iteT h
  | non => exact iteT (q H (Same.refl H))
  | bl b => exact iteT (q H (Same.refl H))
  | int i => exact iteT (q H (Same.refl H))
  | str z => exact iteT (q H (Same.refl H))
  | lst e =>
    have h := q H (Same.refl H)
    simp only [formH, e] at h
    exact iteT h
  | dK e =>
    have h := q H (Same.refl H)
    simp only [formH, e] at h
    exact iteT h
theorem ziu (T : Txt K mg w tw ow fa cStandings) (d1 : Dfn K mg "is_of_sort" s_is_of_sort ["thing", "sort", "deepest"]) (d2 : Dfn K mg "has_form" s_has_form ["thing", "deepest"]) (C1 : Cal P w K mg base 2 "is_place" ["thing"] (ze5 SMALL)) (C2 : Cal P w K mg base 2 "is_set" ["thing"] (ze5 GREAT)) (C3 : Cal P w K mg base 3 "is_name" ["thing"] zmj) :
    ∀ n, Cal P w K mg base (2 * n + 4) "has_form" ["thing", "deepest"] (ze6 n) ∧ Cal P w K mg base (2 * n + 5) "is_of_sort" ["thing", "sort", "deepest"] (zgx n)
  | 0 => by
    have c := zky (n := 0) T d2 ((d1.never (sp := sp_sort' 0) fun vs H Q E h => h).mono (Nat.zero_le 3) : Cal P w K mg base 3 _ _ _)
    exact ⟨c, zkv (by decide) T d1 C1 C2 C3 c⟩
  | n + 1 => by
    have ih := ziu T d1 d2 C1 C2 C3 n
    have c := zky (n := n + 1) T d2 ih.2
    exact ⟨c, zkv (by omega) T d1 C1 C2 C3 c⟩
end
section
variable {P : Program} {w : World} {K : PySem.W.Frag} {mg : Str → Option Value} {base : Heap} {tw ow fa cStandings : Addr}
abbrev s_law_cell_at : Stmt := top 62
theorem zef : FnScope ["_law_script", "_law_k"] ["_law_script", "_law_k"] (defScope s_law_cell_at) := ⟨rfl, rfl, rfl, by decide +kernel, rfl, by decide +kernel, by decide +kernel⟩
theorem zpq (T : Txt K mg w tw ow fa cStandings) (d : Dfn K mg "_law_cell_at" s_law_cell_at ["_law_script", "_law_k"]) : Cal P w K mg base 1 "_law_cell_at" ["_law_script", "_law_k"] (zj4 K) := by
  refine d.cal zef (fun vs H Q E h => ?_) (fun f cdv A outer s H vs Q E hr h => ?_)
  · obtain ⟨a, ns, k, rfl, _⟩ := h
    rfl
  obtain ⟨a, ns, k, rfl, hS, h0, q⟩ := h
  refine ⟨_, (zac (zar (zai zpj (pv 1) (za4 (zaj K) (by rfl) T.b_len boot_len (pa_c (pv 0) zab)) (nomark _)) (zad (zah (zan (zal K) (pv 0) (pv 1) (fun _ _ => rfl)))) zag) (zad (zah zaf))), ?_⟩
  refine zaz [some (.ref a), some (.int k)] rfl ?_
  trivial
  refine ⟨_, .inl hS, ite2 (fun c => ?_) (fun _ => q 0)⟩
  have c' := of_decide_eq_true c
  rw [List.length_map] at c'
  have hk : k.toNat < ns.length := by omega
  have ek : k = ((k.toNat : Nat) : Int) := by omega
  have e : atI (ns.map V.int) ((k.toNat : Nat) : Int) = some (.int ns[k.toNat]) := zas (by simp [hk])
  rw [← ek] at e
  exact ⟨_, hS, _, e, q _⟩
abbrev s_law_size : Stmt := top 63
theorem zg1 : FnScope ["_law_tree"] ["_law_tree"] (defScope s_law_size) := ⟨rfl, rfl, rfl, by decide +kernel, rfl, by decide +kernel, by decide +kernel⟩
theorem zig (T : Txt K mg w tw ow fa cStandings) (d : Dfn K mg "_law_size" s_law_size ["_law_tree"]) : ∀ dd, Cal P w K mg base (1 + dd) "_law_size" ["_law_tree"] (zh1 dd)
  | 0 => (d.never fun vs H Q E ⟨v, t, _, _, h, _⟩ => absurd h (Nat.not_lt_zero _)).mono (by omega)
  | dd + 1 => by
    have C_law_size := zig T d dd
    refine d.cal zg1 (fun vs H Q E h => ?_) (fun f cdv A outer s H vs Q E hr h => ?_)
    · obtain ⟨v, t, rfl, _⟩ := h
      rfl
    obtain ⟨v, t, rfl, tv, hd, q⟩ := h
    change Room (1 + dd) _ at hr
    refine ⟨_, (zac (zar (zai zie (pv 0) zdz (nomark _)) (zad (zah zaf)) zag) (zad (zah (za2 zdc (za2 zdc zaf (zae C_law_size hr (by omega) (by rfl) (pa_c (zan (zao K) (pv 0) zaf (fun _ _ => rfl)) zab))) (zae C_law_size hr (by omega) (by rfl) (pa_c (zan (zao K) (pv 0) zaf (fun _ _ => rfl)) zab)))))), ?_⟩
    refine zaz [some v] rfl ?_
    trivial
    cases t with
    | nil =>
      obtain rfl : v = .non := tv
      rw [decide_eq_true rfl]
      exact iteT q
    | node l x y =>
      obtain ⟨p, va, vb, rfl, ep, ta, tb⟩ := tv
      have hx : x.depth < dd := by have : 1 + max x.depth y.depth < dd + 1 := hd; omega
      have hy : y.depth < dd := by have : 1 + max x.depth y.depth < dd + 1 := hd; omega
      rw [decide_eq_false (fun h => nomatch h)]
      refine iteF ⟨p, rfl, _, .of ep, _, zas (j := 1) rfl, va, x, rfl, ta, hx, _, rfl, p, rfl, _, .of ep, _, zas (j := 2) rfl, vb, y, rfl, tb, hy, _, rfl, ?_⟩
      rw [show (1 : Int) + (x.size : Int) + (y.size : Int) = ((1 + x.size + y.size : Nat) : Int) by omega]
      exact q
abbrev s_law_trees : Stmt := top 64
theorem sc_law_trees : FnScope ["_law_cells", "_law_letters", "_law_most", "_law_pool", "_law_cell", "_law_mixed", "_law_letter", "_law_one", "_law_other"] ["_law_cells", "_law_letters", "_law_most"] (defScope s_law_trees) := ⟨rfl, rfl, rfl, by decide +kernel, rfl, by decide +kernel, by decide +kernel⟩
theorem zm3 (T : Txt K mg w tw ow fa cStandings) (d : Dfn K mg "_law_trees" s_law_trees ["_law_cells", "_law_letters", "_law_most"]) (C_law_size : Cal P w K mg base 62 "_law_size" ["_law_tree"] (zh1 61)) : Cal P w K mg base 63 "_law_trees" ["_law_cells", "_law_letters", "_law_most"] zhx := by
  refine d.cal sc_law_trees (fun vs H Q E h => ?_) (fun f cdv A outer s H vs Q E hr h => ?_)
  · obtain ⟨c, ns, L, mo, rfl, _⟩ := h
    rfl
  obtain ⟨c, ns, L, mo, rfl, ec, h63, hL, hmo, q⟩ := h
  refine ⟨_, (zac (zau (i := 3) sc_law_trees.nd rfl (Or.inl rfl) (za3 (pa_c zdz zab))) (zac (zdw PassesOwn.never rfl (zbh K (pv 0)) (za1 (i := 4) sc_law_trees.nd (by rfl) (Or.inl (by rfl))) (zac (zau (i := 5) sc_law_trees.nd rfl (Or.inl rfl) (za2 zca (za2 zko (pv 4) zaf) zaf)) (zac (zau (i := 6) sc_law_trees.nd rfl (Or.inl rfl) (za2 zca (pv 5) (pv 1))) (zac (zau (i := 7) sc_law_trees.nd rfl (Or.inl rfl) (zan (zal K) (pv 3) (za2 zca (za2 zfi (pv 5) zaf) (za4 (zaj K) (by rfl) T.b_len boot_len (pa_c (pv 3) zab))) (fun _ _ => rfl))) (zac (zau (i := 8) sc_law_trees.nd rfl (Or.inl rfl) (zan (zal K) (pv 3) (za2 zca (za2 zfi (pv 5) zaf) (za4 (zaj K) (by rfl) T.b_len boot_len (pa_c (pv 3) zab))) (fun _ _ => rfl))) (zc0 (zar (zai za5 (za2 zca (za2 zfi (pv 5) zaf) zaf) zaf (nomark _)) (zad (zau (i := 8) sc_law_trees.nd rfl (Or.inl rfl) (zan (zal K) (pv 3) (zrj zqg zaf) (fun _ _ => rfl)))) zag) (zad (zar (zai zpj (za2 zdc (zae C_law_size hr (by omega) (by rfl) (pa_c (pv 7) zab)) (zae C_law_size hr (by omega) (by rfl) (pa_c (pv 8) zab))) (pv 2) (nomark _)) (zad (zbu (zdb K PySem.F.plainAttrs_list PySem.F.slot_list_append PySem.F.type_list_append zbr (pv 3) (pa_c (za6 (pa_c (pv 6) (pa_c (pv 7) (pa_c (pv 8) zab)))) zab)))) zag)))))))) (zad (zah (pv 3))))), ?_⟩
  refine zaz [some (.ref c), some (nV L), some (nV mo), none, none, none, none, none, none] rfl ?_
  trivial
  refine ⟨zaa (by simp), fun p H1 n1 => ⟨⟨_, .of (n1.g _ _ ec)⟩, ?_⟩⟩
  have npc : c ≠ p := zaq ec n1.nil
  refine zhf (K := K) (a := c) (xs := ns.map V.int) (fun i σ H' => Same H H' ∧ (∃ v4 v5 v6 v7 v8, σ = [some (.ref c), some (nV L), some (nV mo), some (.ref p), v4, v5, v6, v7, v8]) ∧ ∃ xs ts, H' p = some (.lst xs) ∧ Paired (TreeV H') xs ts ∧ 0 < ts.length ∧ ts.length ≤ i + 1 ∧ ∀ t ∈ ts, t.Let L ∧ t.size ≤ mo)
    ⟨n1.g, ⟨_, _, _, _, _, rfl⟩, [.non], [.nil], n1.at', .cons rfl .nil, by simp, by simp, fun t ht => by rw [List.mem_singleton.mp ht]; exact ⟨trivial, by simp [Tr.size]⟩⟩ (fun i σ H' _ z => .of (z.1 _ _ ec)) ?_ ?_
  · rintro i y σ H' hy ⟨g, ⟨v4, v5, v6, v7, v8, rfl⟩, xs, ts, ep, pr, h0, hl, hg⟩
    rw [List.getElem?_map] at hy
    obtain ⟨z, ez, rfl⟩ := Option.map_eq_some_iff.mp hy
    have hxl := SS.Paired.len pr
    have hi := (List.getElem?_eq_some_iff.mp ez).1
    trivial
    have pick : ∀ e : Int, ∃ v t, atI xs (e % (xs.length : Int)) = some v ∧ TreeV H' v t ∧ t ∈ ts := fun e => by
      obtain ⟨v, hv, mv⟩ := zqd (i := e) (xs := xs) (n := xs.length) rfl (by omega)
      obtain ⟨j, hj, ej⟩ := List.getElem_of_mem mv
      obtain ⟨t, et, tv⟩ := SS.Paired.at pr (List.getElem?_eq_some_iff.mpr ⟨hj, ej⟩)
      exact ⟨v, t, hv, tv, List.mem_of_getElem? et⟩
    generalize z * 48271 % 999999999989 = mx
    obtain ⟨x1, t1, a1, tv1, m1⟩ := pick (mx / 16)
    obtain ⟨x2, t2, a2, tv2, m2⟩ := pick (mx / 1024)
    refine ⟨.inr ⟨by decide, by decide⟩, by decide, by omega, ⟨by decide, by decide⟩, _, .inl (.of ep), by omega, _, .of ep, _, a1, ⟨by decide, by decide⟩, _, .inl (.of ep), by omega, _, .of ep, _, a2, ?_⟩
    refine ⟨fun σ H'' => H' = H'' ∧ ∃ x t, TreeV H' x t ∧ t ∈ ts ∧ σ = [some (.ref c), some (nV L), some (nV mo), some (.ref p), some (.int z), some (.int mx), some (.int (mx % (L : Int))), some x1, some x], ?_, ?_⟩
    · trivial
      refine ⟨⟨by decide, by decide⟩, by decide, ite2 (fun _ => ?_) fun _ => ⟨x2, t2, tv2, m2, rfl⟩⟩
      rcases zd2 ts with rfl | ⟨ts0, t', rfl⟩
      · simp at h0
      obtain ⟨xs0, x', rfl, pr0, tx⟩ := zcd pr
      exact ⟨_, .of ep, _, zn0 xs0 x', x', t', tx, by simp, rfl⟩
    · rintro σ H'' ⟨rfl, x2, t2, tv2, m2, rfl⟩
      have d1 := Tr.depth_le t1
      have d2 := Tr.depth_le t2
      have s1 := (hg t1 m1).2
      have s2 := (hg t2 m2).2
      trivial
      refine ⟨x1, t1, rfl, tv1, by omega, x2, t2, rfl, tv2, by omega, _, rfl, _, rfl, ite2 (fun c' => ?_) fun _ => ⟨g, xs, ep, ts, pr, h0, by omega, hg⟩⟩
      have c'' := of_decide_eq_true c'
      refine ⟨.inl ⟨_, .of ep⟩, zaa (by simp), fun pt H5 n5 => ⟨_, n5.g _ _ ep, small1000 (by omega), ?_⟩⟩
      have tsA : TupS H' (upd H5 p (.lst (xs ++ [.ref pt]))) := n5.g.tups.trans (TupS.wr (n5.g _ _ ep) _)
      have q0 := Int.emod_nonneg mx (show (L : Int) ≠ 0 by omega)
      have q1 := Int.emod_lt_of_pos mx (show (0 : Int) < (L : Int) by omega)
      generalize mx % (L : Int) = r at n5 q0 q1
      obtain ⟨rn, rfl⟩ : ∃ rn : Nat, r = (rn : Int) := ⟨r.toNat, by omega⟩
      refine ⟨(g.trans n5.g).wr n1.nil _, xs ++ [.ref pt], zap, ts ++ [.node rn t1 t2], SM.Paired.snoc (L2.Paired.mapP pr fun _ _ z => TreeV.ts tsA z) (show TreeV _ (.ref pt) (.node rn t1 t2) from ⟨pt, x1, x2, rfl, TupS.wr (n5.g _ _ ep) _ _ _ n5.at', TreeV.ts tsA tv1, TreeV.ts tsA tv2⟩), by simp, by rw [List.length_append, List.length_singleton]; omega, fun t ht => ?_⟩
      rcases List.mem_append.mp ht with h | h
      · exact hg t h
      · rw [List.mem_singleton.mp h]
        exact ⟨⟨by omega, (hg t1 m1).1, (hg t2 m2).1⟩, by show 1 + t1.size + t2.size ≤ mo; omega⟩
  · rintro σ H' ⟨g, ⟨v4, v5, v6, v7, v8, rfl⟩, xs, ts, ep, pr, h0, hl, hg⟩
    rw [List.length_map] at hl
    trivial
    exact q p xs ts H' n1.nil g ep pr (by omega) hg
end
end K42
namespace L2
open PySem PySem.Spec PyProof.Rows
def SameB (D : Addr) (H H' : Hp) : Prop := ∀ b o, b ≠ D → H b = some o → H' b = some o
theorem Same.b {H H' : Hp} (g : Same H H') (D : Addr) : SameB D H H' := fun b o _ e => g b o e
theorem SameB.trans {D : Addr} {H H1 H2 : Hp} (a : SameB D H H1) (b : SameB D H1 H2) : SameB D H H2 := fun c o n e => b c o n (a c o n e)
theorem SameB.wr {D : Addr} {H : Hp} (o : HO) : SameB D H (upd H D o) := fun b u n e => by rw [zam n]; exact e
section
variable {tn : List Str} {cp : List (Nat × Str)} {g : TG} {tif : TT} {te : TE} {σ0 : St} {Q : VK} {H1 : Hp} {n : Nat}
def PGenL (S : St → Prop) (G : Addr → Nat → V → Hp → Prop) (H1 : Hp) (D : Addr) (i : Nat) (ys : List V) (σ : St) (H : Hp) : Prop := Same H1 H ∧ S σ ∧ ys.length = i ∧ ∀ j y, ys[j]? = some y → G D j y H
theorem zrq {J : It} (S : St → Prop) (G : Addr → Nat → V → Hp → Prop) (hn : n ≤ 1000) (h0 : S (stB tn cp σ0)) (hgo : ∀ i H, i < n → Same H1 H → J.go i H) (hstop : ∀ H, Same H1 H → J.stop n H)
    (hs : ∀ D i ys σ H x H', i < n → Same H1 H → H1 D = none → H D = some (.lst ys) → ys.length = i → (∀ j y, ys[j]? = some y → G D j y H) → S σ → J.yld i H x H' → g x σ H' fun σ2 H2 => tif σ2 H2 fun c H3 =>
      if c = true then te σ2 H3 fun v H4 => CStep D n i (PGenL S G H1 D) σ2 v H4 else CSkip D n i (PGenL S G H1 D) σ2 H3)
    (hd : ∀ D ys H, H1 D = none → Same H1 H → H D = some (.lst ys) → ys.length = n → (∀ j y, ys[j]? = some y → G D j y H) → Q (.ref D) H) : cBody tn cp g tif te σ0 Q J H1 := by
  refine zl7 n (fun D => PGenL S G H1 D) (zaa hn) (fun D hD => ⟨zbg hD _, h0, rfl, fun j y e => by simp at e⟩) (fun D i ys σ H _ hi _ p => hgo i H hi p.1) (fun D ys σ H _ _ p => hstop H p.1) ?_ ?_
  · rintro D i ys σ H x H' hD hi hH hl ⟨p1, p2, p3, p4⟩ hy
    exact hs D i ys σ H x H' hi p1 hD hH p3 p4 p2 hy
  · rintro D ys σ H hD hH hl ⟨p1, p2, p3, p4⟩
    exact hd D ys H hD p1 hH p3 p4
theorem zp8 {S : St → Prop} {G : Addr → Nat → V → Hp → Prop} {D : Addr} {i : Nat} {ys : List V} {v : V} {σ2 : St} {H H4 : Hp} (hG : ∀ j y H H', SameB D H H' → G D j y H → G D j y H') (hn : n ≤ 1000) (hi : i < n) (hD : H1 D = none) (h4 : H4 D = some (.lst ys)) (hl : ys.length = i)
    (hy : ∀ j y, ys[j]? = some y → G D j y H) (ts : SameB D H H4) (g4 : Same H1 H4) (s2 : S σ2) (e : G D i v H4) : CStep D n i (PGenL S G H1 D) σ2 v H4 := by
  refine cstep (zaa hn) hi h4 (by omega) ⟨g4.wr hD _, s2, by simp [hl], fun j y ej => ?_⟩
  by_cases h : j < ys.length
  · rw [List.getElem?_append_left h] at ej
    exact hG j y _ _ (ts.trans (SameB.wr _)) (hy j y ej)
  · rw [List.getElem?_append_right (by omega)] at ej
    have e0 : j - ys.length = 0 := by
      cases hj : j - ys.length with
      | zero => rfl
      | succ k => rw [hj] at ej; simp at ej
    rw [e0] at ej
    simp at ej
    subst ej
    have : j = i := by omega
    subst this
    exact hG _ _ _ _ (SameB.wr _) e
end
end L2
namespace K42
open PySem PySem.Spec PyProof.Rows L2 SS SM
local macro_rules | `(tactic| trivial) => `(tactic| simp only [exists_eq', rEqI, rNeI, rInDc, rLenD, rLenT, rDictOf, rMaxL, rIndex, rCatTN, rCatTE, tDNewN, tDNewTN, tDisp1T, rNeM, rRange2, rListRng, rRepN, rPopAt, rSetL, gSub, ipI, tDGet, tDGet2, sDPut, iEnum, iEZ, iZipL, tLam, tCallA, tCallV, tDef, iRng3, rIndexT, tFld, sFld, tMeth, tMake, gLst, rPop, rExtendT, iZip, rInD, rIxD, rLen, rAll, rAny, rSum, rListOf, rEqS, rNeS, rSlTN, rStrB, tTupN, tLstN, rSlLN, rCatN, cxK, cxP, cxW, tSeq, tIfS, tTest, tB, tOp, tUn, tC, tAnd, tOr, tNot, tAndV, tOrV, tNotV, tIf, tNext, tBreak, tCont, tDrop, tRet, tRetN, gName, gNil, gCons, gTup, tAsg, tPar, tAug, rI, rI0, rU, rEq, rNe, tChain, tNil, tCons, tTup, tLst, tCall, tCB, tNoPart, tPart, tSl, rSlT, rSlL, rSlS, rIxL, rIxT, rIxS, rIn, tBM0, tBM, tyV, rAppend, rExtend, rCat, rZfill, rEqD, iList, iTup, iStr, iRng1, iRng2, tYes, tDisp, tPairs, zox, zow, zg6, zkc, zfe, zff, List.set_cons_zero, List.set_cons_succ, List.nil_append, List.cons_append, List.append_nil, V.int.injEq, V.str.injEq, V.bl.injEq, V.ref.injEq, V.ty.injEq, List.cons.injEq, and_true, true_and, exists_eq_left, exists_eq_left', exists_and_left, exists_eq, exists_const, if_true, if_false, ite_true, ite_false, zoy, zoz, zo0, zo1, zo2, Option.some.injEq, exists_eq_right, exists_eq_right', and_assoc, reduceCtorEq, false_and, and_false, false_or, or_false, exists_false])
seal PE PT PW PA PS PSs
section
variable {P : Program} {w : World} {K : PySem.W.Frag} {mg : Str → Option Value} {base : Heap} {tw ow fa cStandings : Addr}
abbrev s_told : Stmt := top 46
theorem zov : FnScope ["truth"] ["truth"] (defScope s_told) := ⟨rfl, rfl, rfl, by decide +kernel, rfl, by decide +kernel, by decide +kernel⟩
theorem zm4 (T : Txt K mg w tw ow fa cStandings) (d : Dfn K mg "told" s_told ["truth"]) : Cal P w K mg base 1 "told" ["truth"] zdk := by
  refine d.cal zov (fun vs H Q E h => ?_) (fun f cdv A outer s H vs Q E hr h => ?_)
  · obtain ⟨b, rfl, _⟩ := h
    rfl
  obtain ⟨b, rfl, q⟩ := h
  refine ⟨_, (zad (zah (zcl (zba (pv 0)) (za7 (by rfl) T.g_YES) (za7 (by rfl) T.g_NO)))), ?_⟩
  refine zaz [some (.bl b)] rfl ?_
  trivial
  cases b <;> exact q
abbrev s_sides_asked : Stmt := top 47
theorem zee : FnScope ["word", "left", "right"] ["word", "left", "right"] (defScope s_sides_asked) := ⟨rfl, rfl, rfl, by decide +kernel, rfl, by decide +kernel, by decide +kernel⟩
theorem zm9 (T : Txt K mg w tw ow fa cStandings) (d : Dfn K mg "sides_asked" s_sides_asked ["word", "left", "right"]) : Cal P w K mg base 1 "sides_asked" ["word", "left", "right"] zh3 := by
  refine d.cal zee (fun vs H Q E h => ?_) (fun f cdv A outer s H vs Q E hr h => ?_)
  · obtain ⟨wd, l, r, rfl, _⟩ := h
    rfl
  obtain ⟨wd, l, r, rfl, q⟩ := h
  refine ⟨_, (zac (zar (zai za5 (pv 0) zak (nomark _)) (zad (zah (za6 (pa_c (pv 1) zab)))) zag) (zac (zar (zai za5 (pv 0) zak (nomark _)) (zad (zah (za6 (pa_c (pv 2) zab)))) zag) (zad (zah (za6 (pa_c (pv 1) (pa_c (pv 2) zab))))))), ?_⟩
  refine zaz [some (.str wd), some (nV l), some (nV r)] rfl ?_
  trivial
  by_cases h1 : wd = "left"
  · rw [decide_eq_true h1]
    exact iteT ⟨zaa (by simp), fun p H' n => q p H' n.g (by rw [n.at']; unfold sidesN; rw [if_pos h1]; rfl)⟩
  rw [decide_eq_false h1]
  refine iteF ?_
  by_cases h2 : wd = "right"
  · rw [decide_eq_true h2]
    exact iteT ⟨zaa (by simp), fun p H' n => q p H' n.g (by rw [n.at']; unfold sidesN; rw [if_neg h1, if_pos h2]; rfl)⟩
  rw [decide_eq_false h2]
  exact iteF ⟨zaa (by simp), fun p H' n => q p H' n.g (by rw [n.at']; unfold sidesN; rw [if_neg h1, if_neg h2]; rfl)⟩
abbrev s_mark_of_related : Stmt := top 48
theorem zch : FnScope ["word", "one", "other", "left", "right"] ["word", "one", "other", "left", "right"] (defScope s_mark_of_related) := ⟨rfl, rfl, rfl, by decide +kernel, rfl, by decide +kernel, by decide +kernel⟩
theorem zpn (T : Txt K mg w tw ow fa cStandings) (d : Dfn K mg "mark_of_related" s_mark_of_related ["word", "one", "other", "left", "right"]) (C_told : Cal P w K mg base 1 "told" ["truth"] zdk) (C_sides_asked : Cal P w K mg base 1 "sides_asked" ["word", "left", "right"] zh3) : Cal P w K mg base 2 "mark_of_related" ["word", "one", "other", "left", "right"] zj0 := by
  refine d.cal zch (fun vs H Q E h => ?_) (fun f cdv A outer s H vs Q E hr h => ?_)
  · obtain ⟨wd, one, other, l, r, rfl, _⟩ := h
    rfl
  obtain ⟨wd, one, other, l, r, rfl, q⟩ := h
  refine ⟨_, (zac (zar (zba (pv 1)) (zad (zah (zae C_told hr (by omega) (by rfl) (pa_c (zav (zat K) (za7 (by rfl) T.g_SECOND) (zae C_sides_asked hr (by omega) (by rfl) (pa_c (pv 0) (pa_c (pv 3) (pa_c (pv 4) zab)))) (by with_unfolding_all rfl)) zab)))) zag) (zac (zar (zba (pv 2)) (zad (zah (za7 (by rfl) T.g_SECOND))) zag) (zac (zar (zai (zcn K) (za7 (by rfl) T.g_SECOND) (za6 (pa_c (pv 3) (pa_c (pv 4) zab))) (by with_unfolding_all rfl)) (zad (zah (za7 (by rfl) T.g_WAITING))) zag) (zad (zah (zcl (zai za5 (pv 0) zak (nomark _)) (za7 (by rfl) T.g_SECOND) (za7 (by rfl) T.g_NO))))))), ?_⟩
  refine zaz [some (.str wd), some (.bl one), some (.bl other), some (nV l), some (nV r)] rfl ?_
  trivial
  unfold mkRel at q
  cases one with
  | true =>
    rw [if_pos rfl] at q
    refine iteT ⟨wd, l, r, rfl, fun p H1 g1 e1 => ⟨p, rfl, _, .inr (.of e1), rfl, zlj _, _, rfl, ?_⟩⟩
    have e : toldN (inV (V.int 1) ((sidesN wd l r).map nV)) = if (if wd = "left" then l = 1 else if wd = "right" then r = 1 else (l = 1 ∨ r = 1)) then 2 else 3 := by
      rw [show inV (V.int 1) ((sidesN wd l r).map nV) = _ from znm wd l r]
      unfold toldN
      simp only [decide_eq_true_eq]
    rw [e]
    exact q H1 g1
  | false =>
    rw [if_neg (by decide)] at q
    refine iteF ?_
    cases other with
    | true =>
      rw [if_pos rfl] at q
      exact iteT (q H (Same.refl H))
    | false =>
      rw [if_neg (by decide)] at q
      refine iteF ⟨zaa (by simp), fun p H1 n1 => ⟨_, .inr (.of n1.at'), rfl, rfl, ?_⟩⟩
      rw [show inV (V.int 1) [nV l, nV r] = _ from in2 l r 1]
      by_cases h : l = 1 ∨ r = 1
      · rw [decide_eq_true h]
        rw [if_neg (fun z => h.elim z.1 z.2)] at q
        refine iteF ?_
        by_cases h2 : wd = "above"
        · rw [if_pos h2] at q
          rw [decide_eq_true h2]
          exact iteT (q H1 n1.g)
        · rw [if_neg h2] at q
          rw [decide_eq_false h2]
          exact iteF (q H1 n1.g)
      · rw [decide_eq_false h]
        rw [if_pos ⟨fun z => h (.inl z), fun z => h (.inr z)⟩] at q
        exact iteT (q H1 n1.g)
abbrev s_mark_of : Stmt := top 49
theorem zi0 : FnScope ["word", "one", "other", "left", "right"] ["word", "one", "other", "left", "right"] (defScope s_mark_of) := ⟨rfl, rfl, rfl, by decide +kernel, rfl, by decide +kernel, by decide +kernel⟩
theorem zpo (T : Txt K mg w tw ow fa cStandings) (d : Dfn K mg "mark_of" s_mark_of ["word", "one", "other", "left", "right"]) (C_told : Cal P w K mg base 1 "told" ["truth"] zdk) (C_mark_of_related : Cal P w K mg base 2 "mark_of_related" ["word", "one", "other", "left", "right"] zj0) : Cal P w K mg base 3 "mark_of" ["word", "one", "other", "left", "right"] zj1 := by
  refine d.cal zi0 (fun vs H Q E h => ?_) (fun f cdv A outer s H vs Q E hr h => ?_)
  · obtain ⟨wd, one, other, l, r, rfl, _⟩ := h
    rfl
  obtain ⟨wd, one, other, l, r, rfl, q⟩ := h
  refine ⟨_, (zac (zar (PW.pt (zcz (zai (zat K) (za7 (by rfl) T.g_YES) (za6 (pa_c (pv 3) (pa_c (pv 4) zab))) (by with_unfolding_all rfl)) (zb9 (zai (zat K) (za7 (by rfl) T.g_NO) (za6 (pa_c (pv 3) (pa_c (pv 4) zab))) (by with_unfolding_all rfl))))) (zad (zah (zae C_told hr (by omega) (by rfl) (pa_c (zav (zat K) (za7 (by rfl) T.g_YES) (za6 (pa_c (pv 3) (pa_c (pv 4) zab))) (by with_unfolding_all rfl)) zab)))) zag) (zac (zar (zai za5 (pv 0) zak (nomark _)) (zad (zah (zcl (PW.pt (zqk (zba (pv 1)) (zo3 (zbx (zba (pv 2)))))) (za7 (by rfl) T.g_NO) (za7 (by rfl) T.g_WAITING)))) zag) (zac (zar (zai za5 (pv 0) zak (nomark _)) (zad (zah (zcl (zba (pv 1)) (zae C_told hr (by omega) (by rfl) (pa_c (pv 2) zab)) (za7 (by rfl) T.g_WAITING)))) zag) (zac (zar (zai za5 (pv 0) zak (nomark _)) (zad (zah (zcl (PW.pt (zcz (zba (pv 1)) (zb9 (zba (pv 2))))) (zae C_told hr (by omega) (by rfl) (pa_c (zbo (pv 1) (zbi (pv 2))) zab)) (za7 (by rfl) T.g_WAITING)))) zag) (zad (zah (zae C_mark_of_related hr (by omega) (by rfl) (pa_c (pv 0) (pa_c (pv 1) (pa_c (pv 2) (pa_c (pv 3) (pa_c (pv 4) zab)))))))))))), ?_⟩
  refine zaz [some (.str wd), some (.bl one), some (.bl other), some (nV l), some (nV r)] rfl ?_
  trivial
  unfold mkN at q
  have i2 : ∀ k : Nat, inV (nV k) [nV l, nV r] = decide (l = k ∨ r = k) := in2 l r
  refine ⟨zaa (by simp), fun p1 H1 n1 => ⟨_, .inr (.of n1.at'), rfl, rfl, ?_⟩⟩
  rw [show inV (V.int 2) [nV l, nV r] = _ from i2 2]
  by_cases h2 : l = 2 ∨ r = 2
  · rw [if_pos h2] at q
    rw [decide_eq_true h2]
    refine iteT ⟨zaa (by simp), fun p2 H2 n2 => ⟨_, .inr (.of n2.at'), rfl, rfl, _, rfl, ?_⟩⟩
    rw [show inV (V.int 2) [nV l, nV r] = _ from i2 2, decide_eq_true h2]
    exact q H2 (n1.g.trans n2.g)
  rw [if_neg h2] at q
  rw [decide_eq_false h2]
  refine iteF ⟨zaa (by simp), fun p2 H2 n2 => ⟨_, .inr (.of n2.at'), rfl, rfl, ?_⟩⟩
  have g2 := n1.g.trans n2.g
  rw [show inV (V.int 3) [nV l, nV r] = _ from i2 3]
  by_cases h3 : l = 3 ∨ r = 3
  · rw [if_pos h3] at q
    rw [decide_eq_true h3]
    refine iteT ⟨zaa (by simp), fun p3 H3 n3 => ⟨_, .inr (.of n3.at'), rfl, rfl, _, rfl, ?_⟩⟩
    rw [show inV (V.int 2) [nV l, nV r] = _ from i2 2, decide_eq_false h2]
    exact q H3 (g2.trans n3.g)
  rw [if_neg h3] at q
  rw [decide_eq_false h3]
  refine iteF ?_
  by_cases hw : wd = "within"
  · rw [if_pos hw] at q
    rw [decide_eq_true hw]
    refine iteT ?_
    cases one <;> cases other <;> exact q H2 g2
  rw [if_neg hw] at q
  rw [decide_eq_false hw]
  refine iteF ?_
  by_cases hi : wd = "in"
  · rw [if_pos hi] at q
    rw [decide_eq_true hi]
    refine iteT ?_
    cases one
    · exact iteF (q H2 g2)
    · refine iteT ⟨_, rfl, ?_⟩
      cases other <;> exact q H2 g2
  rw [if_neg hi] at q
  rw [decide_eq_false hi]
  refine iteF ?_
  by_cases hs : wd = "same"
  · rw [if_pos hs] at q
    rw [decide_eq_true hs]
    refine iteT ?_
    cases one <;> cases other
    · exact iteF (iteF (q H2 g2))
    · exact iteF (iteT (iteF ⟨_, rfl, q H2 g2⟩))
    · exact iteT (iteT ⟨_, rfl, q H2 g2⟩)
    · exact iteT (iteT ⟨_, rfl, q H2 g2⟩)
  rw [if_neg hs] at q
  rw [decide_eq_false hs]
  exact iteF ⟨wd, one, other, l, r, rfl, fun H3 g3 => q H3 (g2.trans g3)⟩
abbrev s_holds_with : Stmt := top 50
theorem zfb : FnScope ["word", "mark"] ["word", "mark"] (defScope s_holds_with) := ⟨rfl, rfl, rfl, by decide +kernel, rfl, by decide +kernel, by decide +kernel⟩
theorem znc (T : Txt K mg w tw ow fa cStandings) (d : Dfn K mg "holds_with" s_holds_with ["word", "mark"]) : Cal P w K mg base 1 "holds_with" ["word", "mark"] zh8 := by
  refine d.cal zfb (fun vs H Q E h => ?_) (fun f cdv A outer s H vs Q E hr h => ?_)
  · obtain ⟨wd, m, rfl, _⟩ := h
    rfl
  obtain ⟨wd, m, rfl, q⟩ := h
  refine ⟨_, (zad (zah (zmv (zav za5 (pv 1) (za7 (by rfl) T.g_YES) (nomark _)) (zbi (zbo (zav za5 (pv 0) zak (nomark _)) (zbi (zav za5 (pv 1) (za7 (by rfl) T.g_WAITING) (nomark _)))))))), ?_⟩
  refine zaz [some (.str wd), some (nV m)] rfl ?_
  trivial
  unfold holdM at q
  by_cases h : m = 2
  · subst h
    exact iteT q
  rw [decide_eq_false (show ¬ (m : Int) = 2 by omega)]
  rw [decide_eq_false h] at q
  refine iteF ?_
  by_cases hw : wd = "within"
  · rw [decide_eq_true hw] at q ⊢
    refine iteT ?_
    rw [decide_eq_decide.mpr (show ((m : Int) = 0) ↔ m = 0 by omega)]
    exact q
  · rw [decide_eq_false hw] at q ⊢
    exact iteF q
end
section
variable {P : Program} {w : World} {K : PySem.W.Frag} {mg : Str → Option Value} {base : Heap} {tw ow fa cStandings : Addr}
abbrev s_Standings___init__ : Stmt := inClass (top 54) 0
theorem zby : FnScope ["self"] ["self"] (defScope s_Standings___init__) := ⟨rfl, rfl, rfl, by decide +kernel, rfl, by decide +kernel, by decide +kernel⟩
theorem zm8 (T : Txt K mg w tw ow fa cStandings) (d : DfnI K cStandings "Standings.__init__" s_Standings___init__ ["self"]) : CalI P w K mg base 1 cStandings "Standings" ["self"] (zh2 cStandings) := by
  refine d.cal T.m_Standings zby (fun vs H Q E h => ?_) (fun f cdv A outer s H vs Q E hr h => ?_)
  · obtain ⟨p, dx, H0, rfl, _⟩ := h
    rfl
  obtain ⟨p, dx, H0, rfl, eH, e0, e1, ne, q⟩ := h
  refine ⟨_, (zac (zib (pv 0) (za3 zab) (by rfl)) (zac (zib (pv 0) (za3 (pa_c (za6 (pa_c (za7 (by rfl) T.g_WAITING) zab)) (pa_c (za6 (pa_c (za7 (by rfl) T.g_SECOND) zab)) (pa_c (za6 (pa_c (za7 (by rfl) T.g_YES) zab)) (pa_c (za6 (pa_c (za7 (by rfl) T.g_NO) zab)) zab))))) (by rfl)) (zac (zib (pv 0) zgb (by rfl)) (zad (zib (pv 0) zgb (by rfl)))))), ?_⟩
  refine zaz [some (.ref p)] rfl ?_
  trivial
  have gH : Same H0 H := by rw [eH]; exact ((Same.refl H0).wr e1 _).wr e0 _
  have ep : H p = some (.ins cStandings dx []) := by rw [eH, zap]
  refine ⟨zaa (by simp), fun pp H1 n1 => ?_⟩
  have ep1 := n1.g _ _ ep
  refine ⟨_, _, _, ep1, T.cl_Standings, T.n_parts, by simp, zaa (by simp), fun t0 H2 n2 => ⟨zaa (by simp), fun t1 H3 n3 => ⟨zaa (by simp), fun t2 H4 n4 => ⟨zaa (by simp), fun t3 H5 n5 => ⟨zaa (by simp), fun pf H6 n6 => ?_⟩⟩⟩⟩⟩
  have g25 := n2.g.trans (n3.g.trans (n4.g.trans n5.g))
  have g26 := g25.trans n6.g
  have ep6 := g26 _ _ zap
  have l1 : (putF "parts" (V.ref pp) []).length ≤ 1 := zbm "parts" (V.ref pp) []
  have l2 : (putF "forms" (V.ref pf) (putF "parts" (V.ref pp) [])).length ≤ _ := zbm "forms" (V.ref pf) (putF "parts" (V.ref pp) [])
  refine ⟨_, _, _, ep6, T.cl_Standings, T.n_forms, by omega, fun pn H7 n7 => ?_⟩
  have ep7 := n7.g _ _ zap
  refine ⟨_, _, _, ep7, T.cl_Standings, T.n_numbers, by omega, fun ps H8 n8 => ?_⟩
  have ep8 := n8.g _ _ zap
  have l3 : (putF "numbers" (V.ref pn) (putF "forms" (V.ref pf) (putF "parts" (V.ref pp) []))).length ≤ _ := zbm "numbers" (V.ref pn) (putF "forms" (V.ref pf) (putF "parts" (V.ref pp) []))
  refine ⟨_, _, _, ep8, T.cl_Standings, T.n_steps, by omega, q ⟨p, dx, pp, pf, pn, ps⟩ _ rfl ?_⟩
  have g01 : Same H0 H1 := gH.trans n1.g
  have g06 : Same H0 H6 := (g01.wr e0 _).trans g26
  have g07 : Same H0 H7 := (g06.wr e0 _).trans n7.g
  have g08 : Same H0 H8 := (g07.wr e0 _).trans n8.g
  have npp : pp ≠ p := Ne.symm (zaq ep n1.nil)
  have npf : pf ≠ p := Ne.symm (zaq (g25 _ _ zap) n6.nil)
  have nps : ps ≠ p := Ne.symm (zaq zap n8.nil)
  have epp5 : H5 pp = some (.lst []) := g25 _ _ (by rw [zam npp]; exact n1.at')
  have up6 : ∀ b o, b ≠ p → H6 b = some o → upd H8 p (.ins cStandings dx (putF "steps" (V.ref ps) (putF "numbers" (V.ref pn) (putF "forms" (V.ref pf) (putF "parts" (V.ref pp) []))))) b = some o := fun b o hb e => by
    rw [zam hb]
    refine n8.g _ _ ?_
    rw [zam hb]
    refine n7.g _ _ ?_
    rw [zam hb]
    exact e
  exact ⟨by rw [zap, zp3], up6 _ _ npp (n6.g _ _ epp5), ⟨_, up6 _ _ npf n6.at', rfl⟩, by rw [zam nps]; exact n8.at', gH.free n1.nil, (g07.wr e0 _).free n8.nil, zaq epp5 n6.nil, g08.wr e0 _⟩
abbrev s_Standings_part_of : Stmt := inClass (top 54) 2
theorem sc_Standings_part_of : FnScope ["self", "saying", "names", "word", "sort", "part"] ["self", "saying", "names"] (defScope s_Standings_part_of) := ⟨rfl, rfl, rfl, by decide +kernel, rfl, by decide +kernel, by decide +kernel⟩
theorem zm5 (T : Txt K mg w tw ow fa cStandings) (d : DfnM K cStandings "part_of" "Standings.part_of" s_Standings_part_of ["self", "saying", "names"]) (C_is_bare : Cal P w K mg base 2 "is_bare" ["saying"] zcg) : CalM P w K mg base 3 cStandings "part_of" ["self", "saying", "names"] (zhy cStandings) := by
  refine d.cal sc_Standings_part_of (fun vs H Q E h => ?_) (fun f cdv A outer s H vs Q E hr h => ?_)
  · obtain ⟨A, b, v, H0, wd, n, m, tl, i, j, rfl, _⟩ := h
    rfl
  obtain ⟨SA, b, v, H0, wd, n, m, tl, i, j, rfl, hw, I, r, eb, h4, ei, hi, ej, hj, q⟩ := h
  have hu := zle hr 8 (by decide)
  refine ⟨_, (zac (zau (i := 3) sc_Standings_part_of.nd rfl (Or.inl rfl) (zan (zao K) (pv 1) zaf (fun _ _ => rfl))) (zac (zar (zai za5 (pv 3) zak (nomark _)) za0 zag) (zac (zar (zai za5 (pv 3) zak (nomark _)) za0 zag) (zc0 (zar (zai za5 (pv 3) zak (nomark _)) za0 (zad (zar (zba (zae C_is_bare hr (by omega) (by rfl) (pa_c (pv 1) zab))) (zad (zau (i := 5) sc_Standings_part_of.nd rfl (Or.inl rfl) (za6 (pa_c (pv 3) (pa_c (za2 zid zaf (zdb K PySem.F.plainAttrs_list PySem.F.slot_list_index PySem.F.type_list_index (zew K hu) (pv 2) (pa_c (zan (zao K) (pv 1) zaf (fun _ _ => rfl)) zab))) (pa_c (za2 zid zaf (zdb K PySem.F.plainAttrs_list PySem.F.slot_list_index PySem.F.type_list_index (zew K hu) (pv 2) (pa_c (zan (zao K) (pv 1) zaf (fun _ _ => rfl)) zab))) zab)))))) za0))) (zac (zbu (zdb K PySem.F.plainAttrs_list PySem.F.slot_list_append PySem.F.type_list_append zbr (zcm (pv 0) (by rfl)) (pa_c (pv 5) zab))) (zad (zah (za2 zn8 (za4 (zaj K) (by rfl) T.b_len boot_len (pa_c (zcm (pv 0) (by rfl)) zab)) zaf)))))))), ?_⟩
  refine zaz [some (.ref SA.p), some v, some (.ref b), none, none, none] rfl ?_
  trivial
  have nn := zdj hw
  cases r with
  | bare hw' e =>
  rename_i a
  refine ⟨a, rfl, _, .of e, _, zbd, rfl, ?_⟩
  rw [decide_eq_false (nn _ (by decide))]
  refine iteF ⟨rfl, ?_⟩
  rw [decide_eq_false (nn _ (by decide))]
  refine iteF ⟨fun σ' H' => ∃ p4, σ' = [some (.ref SA.p), some (.ref a), some (.ref b), some (.str wd), none, some (.ref p4)] ∧ Same H H' ∧ H' p4 = some (.tup [.str wd, nV (2 ^ i), nV (2 ^ j)]), ?_, ?_⟩
  · trivial
    rw [decide_eq_false (fun z => nn "some" (by decide) (by rw [z]))]
    refine iteF ⟨_, _, rfl, .bare hw' e, fun H1 g1 => ⟨_, rfl, ?_⟩⟩
    refine iteT ?_
    have hn : n ∈ tl := List.idxOf_lt_length_iff.mp (by rw [ei]; exact hi)
    have hm : m ∈ tl := List.idxOf_lt_length_iff.mp (by rw [ej]; exact hj)
    have eb1 := g1 _ _ eb
    have e1 := g1 _ _ e
    have ep2 : ∀ k : Nat, (1 : Int) * 2 ^ ((k : Nat) : Int).toNat = ((2 ^ k : Nat) : Int) := fun k => by rw [Int.toNat_natCast, Int.one_mul]; simp
    refine ⟨.inl ⟨_, .of eb1⟩, _, .of e1, _, zas (j := 1) rfl, tl, n, rfl, .of eb1, hn, by omega, ⟨by omega, by omega, by decide⟩, .inl ⟨_, .of eb1⟩, _, .of e1, _, zas (j := 2) rfl, tl, m, rfl, .of eb1, hm, by omega, ⟨by omega, by omega, by decide⟩, zaa (by simp), fun p4 H4 n4 => ⟨g1.trans n4.g, ?_⟩⟩
    rw [n4.at', ei, ej, ep2, ep2]
  · rintro σ' H' ⟨p4, rfl, g, e4⟩
    trivial
    have I1 := g _ _ I.e1
    have I2 := g _ _ I.ep
    have I3 := g _ _ I.es
    obtain ⟨rs, I4, hrs⟩ := I.ef
    have I4 := g _ _ I4
    have n1 : SA.p ≠ SA.pp := zei I1 I2 (by intro z; cases z)
    have n2 : p4 ≠ SA.pp := zei e4 I2 (by intro z; cases z)
    have n3 : SA.ps ≠ SA.pp := zei I3 I2 (by intro z; cases z)
    refine ⟨_, _, _, I1, T.cl_Standings, T.n_parts, _, zb4, .inl ⟨_, .of I2⟩, SA.pp, rfl, _, I2, zaa (by simp), _, _, _, by rw [zam n1]; exact I1, T.cl_Standings, T.n_parts, _, zb4, SA.pp, rfl, _, .inl (.of zap), ?_⟩
    exact q p4 _ ⟨by rw [zam n1]; exact I1, zap, by rw [zam n2]; exact e4, ⟨rs, by rw [zam (Ne.symm I.nf)]; exact I4, hrs⟩, by rw [zam n3]; exact I3, fun c l r v e => by cases e⟩ ((I.g.trans g).wr I.zp _)
abbrev s_Standings_of_nothing : Stmt := inClass (top 54) 6
theorem sc_Standings_of_nothing : FnScope ["self", "number", "part"] ["self", "number"] (defScope s_Standings_of_nothing) := ⟨rfl, rfl, rfl, by decide +kernel, rfl, by decide +kernel, by decide +kernel⟩
theorem zm7 (T : Txt K mg w tw ow fa cStandings) (d : DfnM K cStandings "of_nothing" "Standings.of_nothing" s_Standings_of_nothing ["self", "number"]) : CalM P w K mg base 1 cStandings "of_nothing" ["self", "number"] (zh0 cStandings) := by
  refine d.cal sc_Standings_of_nothing (fun vs H Q E h => ?_) (fun f cdv A outer s H vs Q E hr h => ?_)
  · obtain ⟨A, a, wd, i, j, sts, rfl, _⟩ := h
    rfl
  obtain ⟨SA, a, wd, i, j, sts, rfl, hw, S, q⟩ := h
  have nn := zdj hw
  refine ⟨_, (zac (zau (i := 2) sc_Standings_of_nothing.nd rfl (Or.inl rfl) (zan (zal K) (zcm (pv 0) (by rfl)) (pv 1) (fun _ _ => rfl))) (zac (zar (zai za5 (zan (zao K) (pv 2) zaf (fun _ _ => rfl)) zak (nomark _)) za0 zag) (zac (zar (zai za5 (zan (zao K) (pv 2) zaf (fun _ _ => rfl)) zak (nomark _)) za0 zag) (zac (zar (zai za5 (zan (zao K) (pv 2) zaf (fun _ _ => rfl)) zak (nomark _)) za0 zag) (zac (zar (zai za5 (zan (zao K) (pv 2) zaf (fun _ _ => rfl)) zak (nomark _)) za0 zag) (zad (zah (za7 (by rfl) T.g_WAITING)))))))), ?_⟩
  refine zaz [some (.ref SA.p), some (nV 0), none] rfl ?_
  trivial
  refine ⟨_, _, _, S.e1, T.cl_Standings, T.n_parts, _, zb4, SA.pp, rfl, _, .of S.ep, _, zbd, a, rfl, _, .of S.ea, _, zbd, rfl, ?_⟩
  rw [decide_eq_false (nn _ (by decide))]
  refine iteF ⟨a, rfl, _, .of S.ea, _, zbd, rfl, ?_⟩
  rw [decide_eq_false (nn _ (by decide))]
  refine iteF ⟨a, rfl, _, .of S.ea, _, zbd, rfl, ?_⟩
  rw [decide_eq_false (nn _ (by decide))]
  refine iteF ⟨a, rfl, _, .of S.ea, _, zbd, rfl, ?_⟩
  rw [decide_eq_false (nn _ (by decide))]
  exact iteF q
abbrev s_Standings_with_whole : Stmt := inClass (top 54) 11
theorem sc_Standings_with_whole : FnScope ["self", "number", "standing", "part", "form"] ["self", "number", "standing"] (defScope s_Standings_with_whole) := ⟨rfl, rfl, rfl, by decide +kernel, rfl, by decide +kernel, by decide +kernel⟩
theorem zku (T : Txt K mg w tw ow fa cStandings) (d : DfnM K cStandings "with_whole" "Standings.with_whole" s_Standings_with_whole ["self", "number", "standing"]) (C_holds_with : Cal P w K mg base 1 "holds_with" ["word", "mark"] zh8) : CalM P w K mg base 2 cStandings "with_whole" ["self", "number", "standing"] (zfx cStandings) := by
  refine d.cal sc_Standings_with_whole (fun vs H Q E h => ?_) (fun f cdv A outer s H vs Q E hr h => ?_)
  · obtain ⟨A, a, wd, i, j, sts, m, rfl, _⟩ := h
    rfl
  obtain ⟨SA, a, wd, i, j, sts, m, rfl, hw, S, hm, q⟩ := h
  have nn := zdj hw
  refine ⟨_, (zac (zar (zai (zat K) (pv 2) (za6 (pa_c (za7 (by rfl) T.g_YES) (pa_c (za7 (by rfl) T.g_NO) zab))) (by with_unfolding_all rfl)) (zad (zah (zav za5 (pv 2) (za7 (by rfl) T.g_YES) (nomark _)))) zag) (zac (zau (i := 3) sc_Standings_with_whole.nd rfl (Or.inr rfl) (zan (zal K) (zcm (pv 0) (by rfl)) (pv 1) (fun _ _ => rfl))) (zac (zau (i := 4) sc_Standings_with_whole.nd rfl (Or.inl rfl) (zan (zal K) (zcm (pv 0) (by rfl)) (pv 2) (fun _ _ => rfl))) (zac (zar (zai za5 (zan (zao K) (pv 3) zaf (fun _ _ => rfl)) zak (nomark _)) za0 zag) (zac (zar (zai za5 (zan (zao K) (pv 3) zaf (fun _ _ => rfl)) zak (nomark _)) za0 zag) (zac (zar (zai (zat K) (zan (zao K) (pv 3) zaf (fun _ _ => rfl)) (za6 (pa_c zak (pa_c zak zab))) (by with_unfolding_all rfl)) za0 zag) (zad (zah (zae C_holds_with hr (by omega) (by rfl) (pa_c (zan (zao K) (pv 3) zaf (fun _ _ => rfl)) (pa_c (pv 2) zab))))))))))), ?_⟩
  refine zaz [some (.ref SA.p), some (nV 0), some (nV m), none, none] rfl ?_
  trivial
  refine ⟨zaa (by simp), fun p1 H1 n1 => ⟨_, .inr (.of n1.at'), rfl, rfl, ?_⟩⟩
  have S1 := S.same n1.g
  have ei : inV (nV m) [V.int 2, V.int 3] = decide (2 = m ∨ 3 = m) := in2 2 3 m
  rw [ei]
  by_cases h : 2 = m ∨ 3 = m
  · rw [decide_eq_true h]
    refine iteT ?_
    rcases h with rfl | rfl
    · exact q H1 n1.g
    · have : holdM wd 3 = false := by unfold holdM; rw [decide_eq_false (by decide), decide_eq_false (show ¬ (3 : Nat) = 0 by decide), Bool.and_false]; rfl
      rw [this] at q
      exact q H1 n1.g
  rw [decide_eq_false h]
  obtain ⟨rs, er, hrs⟩ := S1.ef
  have hm2 : m < rs.length := by omega
  refine iteF ⟨_, _, _, S1.e1, T.cl_Standings, T.n_parts, _, zb4, SA.pp, rfl, _, .of S1.ep, _, zbd, _, _, _, S1.e1, T.cl_Standings, T.n_forms, _, zll, SA.pf, rfl, _, .of er, _, zas (List.getElem?_eq_getElem hm2), a, rfl, _, .of S1.ea, _, zbd, rfl, ?_⟩
  rw [decide_eq_false (nn _ (by decide))]
  refine iteF ⟨a, rfl, _, .of S1.ea, _, zbd, rfl, ?_⟩
  rw [decide_eq_false (nn _ (by decide))]
  refine iteF ⟨a, rfl, _, .of S1.ea, _, zbd, zaa (by simp), fun p2 H2 n2 => ⟨_, .inr (.of n2.at'), rfl, rfl, ?_⟩⟩
  rw [show inV (V.str wd) [V.str "some set", V.str "some place"] = false by
    rw [show [V.str "some set", V.str "some place"] = (["some set", "some place"] : List Str).map V.str from rfl, zcr]
    refine decide_eq_false fun hm => ?_
    simp only [List.mem_cons, List.not_mem_nil, or_false] at hm
    rcases hm with rfl | rfl
    · exact nn _ (by decide) rfl
    · exact nn _ (by decide) rfl]
  exact iteF ⟨a, rfl, _, .of (n2.g _ _ S1.ea), _, zbd, wd, m, rfl, q H2 (n1.g.trans n2.g)⟩
end
section
variable {P : Program} {w : World} {K : PySem.W.Frag} {mg : Str → Option Value} {base : Heap} {tw ow fa cStandings : Addr}
abbrev s_Standings_above_unsettled : Stmt := inClass (top 54) 8
theorem sc_Standings_above_unsettled : FnScope ["self", "number", "letter", "left", "right", "part", "lefts", "rights"] ["self", "number", "letter", "left", "right"] (defScope s_Standings_above_unsettled) := ⟨rfl, rfl, rfl, by decide +kernel, rfl, by decide +kernel, by decide +kernel⟩
theorem zpk (T : Txt K mg w tw ow fa cStandings) (d : DfnM K cStandings "above_unsettled" "Standings.above_unsettled" s_Standings_above_unsettled ["self", "number", "letter", "left", "right"]) (C_mark_of : Cal P w K mg base 3 "mark_of" ["word", "one", "other", "left", "right"] zj1) : CalM P w K mg base 4 cStandings "above_unsettled" ["self", "number", "letter", "left", "right"] (zjx cStandings) := by
  refine d.cal sc_Standings_above_unsettled (fun vs H Q E h => ?_) (fun f cdv A outer s H vs Q E hr h => ?_)
  · obtain ⟨A, a, wd, i, j, sts, c, l, r, rfl, _⟩ := h
    rfl
  obtain ⟨SA, a, wd, i, j, sts, c, l, r, rfl, hw, S, hc, hi, hj, q⟩ := h
  have nn := zdj hw
  refine ⟨_, (zac (zau (i := 5) sc_Standings_above_unsettled.nd rfl (Or.inl rfl) (zan (zal K) (zcm (pv 0) (by rfl)) (pv 1) (fun _ _ => rfl))) (zac (zar (zai za5 (zan (zao K) (pv 5) zaf (fun _ _ => rfl)) zak (nomark _)) za0 zag) (zac (zar (zai za5 (zan (zao K) (pv 5) zaf (fun _ _ => rfl)) zak (nomark _)) za0 zag) (zac (zar (zai za5 (zan (zao K) (pv 5) zaf (fun _ _ => rfl)) zak (nomark _)) za0 zag) (zac (zar (zai za5 (zan (zao K) (pv 5) zaf (fun _ _ => rfl)) zak (nomark _)) za0 zag) (zad (zah (zae C_mark_of hr (by omega) (by rfl) (pa_c (zan (zao K) (pv 5) zaf (fun _ _ => rfl)) (pa_c (zav zkn (za2 zif (pv 2) (zan (zao K) (pv 5) zaf (fun _ _ => rfl))) zaf (nomark _)) (pa_c (zav zkn (za2 zif (pv 2) (zan (zao K) (pv 5) zaf (fun _ _ => rfl))) zaf (nomark _)) (pa_c (pv 3) (pa_c (pv 4) zab))))))))))))), ?_⟩
  refine zaz [some (.ref SA.p), some (nV 0), some (nV c), some (nV l), some (nV r), none, none, none] rfl ?_
  trivial
  refine ⟨_, _, _, S.e1, T.cl_Standings, T.n_parts, _, zb4, SA.pp, rfl, _, .of S.ep, _, zbd, a, rfl, _, .of S.ea, _, zbd, rfl, ?_⟩
  rw [decide_eq_false (nn _ (by decide))]
  refine iteF ⟨a, rfl, _, .of S.ea, _, zbd, rfl, ?_⟩
  rw [decide_eq_false (nn _ (by decide))]
  refine iteF ⟨a, rfl, _, .of S.ea, _, zbd, rfl, ?_⟩
  rw [decide_eq_false (nn _ (by decide))]
  refine iteF ⟨a, rfl, _, .of S.ea, _, zbd, rfl, ?_⟩
  rw [decide_eq_false (nn _ (by decide))]
  refine iteF ?_
  refine ⟨a, rfl, _, .of S.ea, _, zbd, a, rfl, _, .of S.ea, _, zas (j := 1) rfl, _, rfl, a, rfl, _, .of S.ea, _, zas (j := 2) rfl, _, rfl, ?_⟩
  rw [zit hc hi, zit hc hj]
  exact ⟨wd, bit c i, bit c j, l, r, rfl, q⟩
abbrev s_Standings_above : Stmt := inClass (top 54) 7
theorem sc_Standings_above : FnScope ["self", "number", "letter", "left", "right", "step"] ["self", "number", "letter", "left", "right"] (defScope s_Standings_above) := ⟨rfl, rfl, rfl, by decide +kernel, rfl, by decide +kernel, by decide +kernel⟩
theorem zpl (T : Txt K mg w tw ow fa cStandings) (d : DfnM K cStandings "above" "Standings.above" s_Standings_above ["self", "number", "letter", "left", "right"]) (C_told : Cal P w K mg base 1 "told" ["truth"] zdk) (C_Standings_above_unsettled : CalM P w K mg base 4 cStandings "above_unsettled" ["self", "number", "letter", "left", "right"] (zjx cStandings)) : CalM P w K mg base 5 cStandings "above" ["self", "number", "letter", "left", "right"] (zjy cStandings) := by
  refine d.cal sc_Standings_above (fun vs H Q E h => ?_) (fun f cdv A outer s H vs Q E hr h => ?_)
  · obtain ⟨A, a, wd, i, j, sts, c, l, r, rfl, _⟩ := h
    rfl
  obtain ⟨SA, a, wd, i, j, sts, c, l, r, rfl, hw, S, hs, hc, hi, hj, q⟩ := h
  have hu := zle hr 8 (by decide)
  refine ⟨_, (zac (zar (PW.pt (zcz (zai (zat K) (za7 (by rfl) T.g_YES) (za6 (pa_c (pv 3) (pa_c (pv 4) zab))) (by with_unfolding_all rfl)) (zb9 (zai (zat K) (za7 (by rfl) T.g_NO) (za6 (pa_c (pv 3) (pa_c (pv 4) zab))) (by with_unfolding_all rfl))))) (zad (zah (zae C_told hr (by omega) (by rfl) (pa_c (zav (zat K) (za7 (by rfl) T.g_YES) (za6 (pa_c (pv 3) (pa_c (pv 4) zab))) (by with_unfolding_all rfl)) zab)))) zag) (zac (zau (i := 5) sc_Standings_above.nd rfl (Or.inl rfl) (za6 (pa_c (pv 1) (pa_c (pv 2) (pa_c (pv 3) (pa_c (pv 4) zab)))))) (zc0 (zar (zai (zi7 hu) (pv 5) (zcm (pv 0) (by rfl)) (by with_unfolding_all rfl)) (zad (zms hu (zcm (pv 0) (by rfl)) (pv 5) (zck C_Standings_above_unsettled T.cl_Standings hr (by omega) (pv 0) (pa_c (pv 1) (pa_c (pv 2) (pa_c (pv 3) (pa_c (pv 4) zab))))) rfl)) zag) (zad (zah (zmz hu (zcm (pv 0) (by rfl)) (pv 5) (fun _ _ => rfl))))))), ?_⟩
  refine zaz [some (.ref SA.p), some (nV 0), some (nV c), some (nV l), some (nV r), none] rfl ?_
  trivial
  have i2 : ∀ k : Nat, inV (nV k) [nV l, nV r] = decide (l = k ∨ r = k) := in2 l r
  refine ⟨zaa (by simp), fun p1 H1 n1 => ⟨_, .inr (.of n1.at'), rfl, rfl, ?_⟩⟩
  rw [show inV (V.int 2) [nV l, nV r] = _ from i2 2]
  by_cases h2 : l = 2 ∨ r = 2
  · have ev : markN wd i j c l r = 2 := by unfold markN mkN; rw [if_pos h2]
    rw [ev] at q
    rw [decide_eq_true h2]
    refine iteT ⟨zaa (by simp), fun p2 H2 n2 => ⟨_, .inr (.of n2.at'), rfl, rfl, _, rfl, ?_⟩⟩
    rw [show inV (V.int 2) [nV l, nV r] = _ from i2 2, decide_eq_true h2]
    have g2 := n1.g.trans n2.g
    exact q H2 sts (Same.upS g2) (S.same g2) (by omega)
  rw [decide_eq_false h2]
  refine iteF ⟨zaa (by simp), fun p2 H2 n2 => ⟨_, .inr (.of n2.at'), rfl, rfl, ?_⟩⟩
  have g2 := n1.g.trans n2.g
  rw [show inV (V.int 3) [nV l, nV r] = _ from i2 3]
  by_cases h3 : l = 3 ∨ r = 3
  · have ev : markN wd i j c l r = 3 := by unfold markN mkN; rw [if_neg h2, if_pos h3]
    rw [ev] at q
    rw [decide_eq_true h3]
    refine iteT ⟨zaa (by simp), fun p3 H3 n3 => ⟨_, .inr (.of n3.at'), rfl, rfl, _, rfl, ?_⟩⟩
    rw [show inV (V.int 2) [nV l, nV r] = _ from i2 2, decide_eq_false h2]
    exact q H3 sts (Same.upS (g2.trans n3.g)) (S.same (g2.trans n3.g)) (by omega)
  rw [decide_eq_false h3]
  refine iteF ⟨zaa (by simp), fun p3 H3 n3 => ?_⟩
  have g3 := g2.trans n3.g
  have S3 := S.same g3
  refine ⟨fun σ' H' => σ' = [some (.ref SA.p), some (nV 0), some (nV c), some (nV l), some (nV r), some (.ref p3)] ∧ H' p3 = some (.tup [nV 0, nV c, nV l, nV r]) ∧ ∃ sts', Up SA.ps H H' ∧ Sd cStandings SA a wd i j sts' H' ∧ sts'.length ≤ sts.length + 1 ∧ valV sts' [.inl 0, .inl (c : Int), .inl (l : Int), .inl (r : Int)] = some (nV (markN wd i j c l r)), ?_, ?_⟩
  · trivial
    refine ⟨_, _, _, S3.e1, T.cl_Standings, T.n_steps, _, zeb, SA.ps, rfl, _, DGet.t (k := [.inl 0, .inl (c : Int), .inl (l : Int), .inl (r : Int)]) S3.es n3.at', ?_⟩
    cases hv : valV sts [.inl 0, .inl (c : Int), .inl (l : Int), .inl (r : Int)] with
    | some v =>
      have := S3.st c l r v hv
      subst this
      exact iteF ⟨n3.at', Same.upS g3, sts, S3, by omega, hv⟩
    | none =>
      refine iteT ⟨_, _, S3.e1, zcs (by decide) (by decide) (by decide) (by decide), SA, a, wd, i, j, sts, c, l, r, rfl, hw, S3, hc, hi, hj, fun H4 g4 => ?_⟩
      have S4 := S3.same g4
      have e4 := g4 _ _ n3.at'
      refine ⟨_, _, _, S4.e1, T.cl_Standings, T.n_steps, _, zeb, SA.ps, rfl, _, DPut.t (k := [.inl 0, .inl (c : Int), .inl (l : Int), .inl (r : Int)]) S4.es e4 (small1000 (by omega)), ?_⟩
      have u5 : Up SA.ps H4 (upd H4 SA.ps (.dT (putK sts [.inl 0, .inl (c : Int), .inl (l : Int), .inl (r : Int)] (nV (markN wd i j c l r))))) := fun b o hb e => by rw [zam hb]; exact e
      refine ⟨u5 _ _ (zei e4 S4.es (by intro z; cases z)) e4, (Same.upS (g3.trans g4)).trans u5, _, S4.up u5 zap ?_, ?_, by rw [zht, if_pos rfl]⟩
      · intro c' l' r' v' e
        rw [zht] at e
        split at e
        · rename_i ee
          simp only [List.cons.injEq, Sum.inl.injEq, and_true, true_and] at ee
          obtain rfl : c' = c := by omega
          obtain rfl : l' = l := by omega
          obtain rfl : r' = r := by omega
          cases e
          rfl
        · exact S4.st c' l' r' v' e
      · rw [zmp _ hv, List.length_append]; simp
  · rintro σ' H' ⟨rfl, e4, sts', u', S', hs', hv⟩
    trivial
    have z := DGet.t (k := [.inl 0, .inl (c : Int), .inl (l : Int), .inl (r : Int)]) S'.es e4
    rw [hv] at z
    exact ⟨_, _, _, S'.e1, T.cl_Standings, T.n_steps, _, zeb, SA.ps, rfl, _, z, q H' sts' u' S' hs'⟩
end
section
variable {P : Program} {w : World} {K : PySem.W.Frag} {mg : Str → Option Value} {base : Heap} {tw ow fa cStandings : Addr}
abbrev s_gone_up : Stmt := top 57
theorem zi4 : FnScope ["tree", "first", "coming"] ["tree", "first", "coming"] (defScope s_gone_up) := ⟨rfl, rfl, rfl, by decide +kernel, rfl, by decide +kernel, by decide +kernel⟩
theorem zes (T : Txt K mg w tw ow fa cStandings) (d : Dfn K mg "gone_up" s_gone_up ["tree", "first", "coming"]) : ∀ dd, Cal P w K mg base (8 + dd) "gone_up" ["tree", "first", "coming"] (ziy P w K mg base 6 dd)
  | 0 => (d.never fun vs H Q E ⟨R, go, L, n, NN, v, z, f, fd, t, k, _, _, h, _⟩ => absurd h (Nat.not_lt_zero _)).mono (by omega)
  | dd + 1 => by
    have C_gone_up := zes T d dd
    refine d.cal zi4 (fun vs H Q E h => ?_) (fun f cdv A outer s H vs Q E hr h => ?_)
    · obtain ⟨R, go, L, n, NN, v, z, pf, fd, t, k, rfl, _⟩ := h
      rfl
    obtain ⟨R, go, L, n, NN, v, z, pf, fd, t, k, rfl, tv, hd, hl, hz, hgo, ef, cl, hR, hk, q⟩ := h
    change Room (8 + dd) _ at hr
    refine ⟨_, (zac (zar (zai zie (pv 0) zdz (nomark _)) (zad (zah (pv 1))) zag) (zad (zah (zkk 2 6 3 (zcw R go L n NN) hr (by omega) (pa_c (zan (zao K) (pv 0) zaf (fun _ _ => rfl)) (pa_c (zae C_gone_up hr (by omega) (by rfl) (pa_c (zan (zao K) (pv 0) zaf (fun _ _ => rfl)) (pa_c (pv 1) (pa_c (pv 2) zab)))) (pa_c (zae C_gone_up hr (by omega) (by rfl) (pa_c (zan (zao K) (pv 0) zaf (fun _ _ => rfl)) (pa_c (pv 1) (pa_c (pv 2) zab)))) zab))))))), ?_⟩
    refine zaz [some v, some (nV z), some (.ref pf)] rfl ?_
    trivial
    cases t with
    | nil =>
      obtain rfl : v = .non := tv
      rw [decide_eq_true rfl]
      exact iteT (q H (Frz.refl H) (TupS.refl H) hR)
    | node l a b =>
      obtain ⟨p, va, vb, rfl, ep, ta, tb⟩ := tv
      have ha : a.depth < dd := by have : 1 + max a.depth b.depth < dd + 1 := hd; omega
      have hb : b.depth < dd := by have : 1 + max a.depth b.depth < dd + 1 := hd; omega
      have hsz : k + (1 + a.size + b.size) ≤ NN := hk
      rw [decide_eq_false (fun h => nomatch h)]
      exact iteF ⟨pf, rfl, fd, ef, p, rfl, _, .of ep, _, zbd, p, rfl, _, .of ep, _, zas (j := 1) rfl, R, go, L, n, NN, va, z, pf, fd, a, k, rfl, ta, ha, hl.2.1, hz, hgo, ef, cl, hR, by omega, fun H1 f1 g1 R1 => ⟨p, rfl, _, .of (g1 _ _ ep), _, zas (j := 2) rfl, R, go, L, n, NN, vb, z, pf, fd, b, k + a.size, rfl, tb.ts g1, hb, hl.2.2, hz, hgo, f1 _ _ _ ef, cl.mono f1, R1, by omega, fun H2 f2 g2 R2 =>
        ⟨(f1.trans f2) _ _ _ ef, cl.mono (f1.trans f2), rfl, l, a.up z go, b.up z go, k + a.size + b.size, rfl, R2, by omega, hl.1, Tr.up_lt2 hz hgo a hl.2.1, Tr.up_lt2 hz hgo b hl.2.2, fun H3 f3 g3 R3 => q H3 (f1.trans (f2.trans f3)) (g1.trans (g2.trans g3)) (by rw [show k + (Tr.node l a b).size = k + a.size + b.size + 1 by show k + (1 + a.size + b.size) = _; omega]; exact R3)⟩⟩⟩
abbrev s_tree_holds_by : Stmt := top 59
theorem sc_tree_holds_by : FnScope ["saying", "frame", "tree", "standings", "part", "coming"] ["saying", "frame", "tree"] (defScope s_tree_holds_by) := ⟨rfl, rfl, rfl, by decide +kernel, rfl, by decide +kernel, by decide +kernel⟩
abbrev qs_tree_holds_by : List (Pos × Str) := [(⟨269, 4, 270, 57⟩, "tree_holds_by.<locals>.coming")]
theorem zg8 {c Pt : Addr} (T : Txt K mg w tw ow fa cStandings) (d : DfnC K mg "tree_holds_by" s_tree_holds_by ["saying", "frame", "tree"] c Pt) (kb : BltK base mg) (dg : Dfn K mg "gone_up" s_gone_up ["tree", "first", "coming"]) (C_Standings : CalI P w K mg base 1 cStandings "Standings" ["self"] (zh2 cStandings)) (C_Standings_part_of : CalM P w K mg base 3 cStandings "part_of" ["self", "saying", "names"] (zhy cStandings)) (C_Standings_of_nothing : CalM P w K mg base 1 cStandings "of_nothing" ["self", "number"] (zh0 cStandings)) (C_Standings_above : CalM P w K mg base 5 cStandings "above" ["self", "number", "letter", "left", "right"] (zjy cStandings)) (C_Standings_with_whole : CalM P w K mg base 2 cStandings "with_whole" ["self", "number", "standing"] (zfx cStandings)) : Cal P w K mg base 25 "tree_holds_by" ["saying", "frame", "tree"] (zdq Pt qs_tree_holds_by) := by
  refine d.cal sc_tree_holds_by (fun vs H Q E h => ?_) (fun f A outer s H vs Q E hr h => ?_)
  · obtain ⟨v, b, bf, wd, n, m, tl, i, j, t, rfl, _⟩ := h
    rfl
  obtain ⟨v, b, bf, wd, n, m, tl, i, j, t, rfl, tab, rp, eb, h3, B, tv, hlt, h14, q⟩ := h
  have hi4 : i ≤ 4 := by have := B.hi; omega
  have hj4 : j ≤ 4 := by have := B.hj; omega
  have h32 : 2 ^ tl.length ≤ 16 := (zga (by omega)).2
  have hdp := Tr.depth_le t
  have C_gone_up := zes (P := P) (w := w) (base := base) T dg 15
  refine ⟨_, (zac (zau (i := 3) sc_tree_holds_by.nd rfl (Or.inr rfl) (zmw C_Standings hr (by omega) (by rfl))) (zac (zau (i := 4) sc_tree_holds_by.nd rfl (Or.inr rfl) (zck C_Standings_part_of T.cl_Standings hr (by omega) (pv 3) (pa_c (pv 0) (pa_c (pv 1) zab)))) (zac (zql (qs := qs_tree_holds_by) "tree_holds_by.<locals>.coming" (j := 5) rfl d.code kb (by rfl) (by rfl) sc_tree_holds_by.nd rfl rfl) (zad (zah (zck C_Standings_with_whole T.cl_Standings hr (by omega) (pv 3) (pa_c (pv 4) (pa_c (zkm C_gone_up hr (by omega) (by rfl) (fun _ => rfl) (pa_c (pv 2) (pa_c (zck C_Standings_of_nothing T.cl_Standings hr (by omega) (pv 3) (pa_c (pv 4) zab)) (pa_c (pv 5) zab)))) zab)))))))), ?_⟩
  refine zaz [some v, some (.ref bf), some b, none, none, none] rfl ?_
  trivial
  intro p dx hp hdx ne
  refine ⟨p, dx, H, rfl, rfl, hp, hdx, ne, fun SA H1 ep I => ⟨rfl, ?_⟩⟩
  subst ep
  refine ⟨_, _, I.e1, zcs (by decide) (by decide) (by decide) (by decide), SA, bf, v, H, wd, n, m, tl, i, j, rfl, B.hw, I, rp.same I.g, I.g _ _ eb, by omega, B.ei, B.hi, B.ej, B.hj, fun a H2 S2 g2 => ⟨tab.same g2, fun fl H3 M => ?_⟩⟩
  have g3 := g2.trans M.old
  have S3 := S2.same M.old
  refine ⟨_, _, S3.e1, zcs (by decide) (by decide) (by decide) (by decide), _, _, S3.e1, zcs (by decide) (by decide) (by decide) (by decide), SA, a, wd, i, j, [], rfl, B.hw, S3, fun Hq ad => ?_⟩
  have gq : Same H Hq := g3.trans ad.up
  have Sq := S3.same ad.up
  obtain ⟨fdl, efl⟩ := M.fn
  have cl : CloH P w K mg base 6 Hq fl 3 (zcw (fun k H' => ∃ sts, Sd cStandings SA a wd i j sts H' ∧ sts.length ≤ k ∧ Same H H') (markN wd i j) (2 ^ tl.length) 4 14) := by
    refine M.clo_s (own := ["letter", "left", "right"]) (ps := ["letter", "left", "right"]) (cap := ["part", "standings"]) (cv := [nV 0, .ref SA.p]) (k := 5) (Same.refl _) ad ⟨rfl, rfl, rfl, by decide +kernel, rfl, by decide +kernel, by decide +kernel, by decide +kernel⟩ (Nat.le_refl _) (.cons ⟨4, rfl, rfl, .inl rfl⟩ (.cons ⟨3, rfl, rfl, .inl rfl⟩ .nil)) (fun cl ct cd pm => L2.fit3 fun _ _ _ => rfl) ?_
    rintro clo c' A' outer' s' H' vs Q' hr hcl fz fz2 hl' ⟨l, x, y, k, rfl, ⟨sts, S', hs', gg⟩, hk, h1, h2, h3, q'⟩
    refine ⟨_, (zad (zah (zck C_Standings_above T.cl_Standings hr (by omega) (pv 4) (pa_c (pv 3) (pa_c (pv 0) (pa_c (pv 1) (pa_c (pv 2) zab))))))), ?_⟩
    refine zaz [some (nV l), some (nV x), some (nV y), some (nV 0), some (.ref SA.p)] rfl ?_
    trivial
    have Sd' := S'.drop hcl.n
    refine ⟨_, _, Sd'.e1, zcs (by decide) (by decide) (by decide) (by decide), SA, a, wd, i, j, sts, l, x, y, rfl, B.hw, Sd', by omega, by omega, hi4, hj4, fun H5 sts' u5 S5 hs5 hn => ?_⟩
    have um := zps u5
    have e5 : mixL clo H' H5 SA.ps = some (.dT sts') := zq1 hn _ _ S5.es
    exact q' _ (um.frz S'.es) (um.tups S'.es) ⟨sts', S'.up um e5 S5.st, by omega, um.same I.zs gg⟩
  refine ⟨_, markN wd i j, 2 ^ tl.length, 4, 14, b, 0, fl, fdl, t, 0, rfl, tv.same gq, by omega, hlt, by decide, (fun l x y _ _ _ => zoa _ _ _ _ _), ad.up _ _ efl, cl, ⟨[], Sq, Nat.zero_le _, gq⟩, by omega, fun H5 f5 t5 ⟨sts, S5, hs5, g5⟩ => ?_⟩
  have S6 := Sd.dropX ad S3 S5
  refine ⟨SA, a, wd, i, j, sts, t.up 0 (markN wd i j), rfl, B.hw, S6, Tr.up_lt2 (L := 2 ^ tl.length) (by decide) (fun l x y _ _ _ => zoa _ _ _ _ _) t hlt, fun H7 g7 => q H7 (Same.trans ?_ g7)⟩
  intro b' o' e'
  rw [zc4 ad (g3 _ _ e')]
  exact g5 _ _ e'
abbrev s_tree_holds : Stmt := top 60
theorem ze9 : FnScope ["saying", "frame", "tree"] ["saying", "frame", "tree"] (defScope s_tree_holds) := ⟨rfl, rfl, rfl, by decide +kernel, rfl, by decide +kernel, by decide +kernel⟩
theorem zkt {Pt : Addr} (T : Txt K mg w tw ow fa cStandings) (d : Dfn K mg "tree_holds" s_tree_holds ["saying", "frame", "tree"]) (C_check_tree_let : Cal P w K mg base 31 "check_tree_let" ["saying", "frame"] zfy) (C_tree_fits : Cal P w K mg base 4 "tree_fits" ["frame", "tree"] zc7) (C_tree_holds_by : Cal P w K mg base 25 "tree_holds_by" ["saying", "frame", "tree"] (zdq Pt qs_tree_holds_by)) : Cal P w K mg base 32 "tree_holds" ["saying", "frame", "tree"] (zfw Pt qs_tree_holds_by) := by
  refine d.cal ze9 (fun vs H Q E h => ?_) (fun f cdv A outer s H vs Q E hr h => ?_)
  · obtain ⟨v, b, bf, wd, n, m, tl, i, j, t, rfl, _⟩ := h
    rfl
  obtain ⟨v, b, bf, wd, n, m, tl, i, j, t, rfl, tab, rp, eb, fo, h3, hl, B, tv, hlt, h14, q⟩ := h
  refine ⟨_, (zac (zbu (zae C_check_tree_let hr (by omega) (by rfl) (pa_c (pv 0) (pa_c (pv 1) zab)))) (zad (zah (zbo (zae C_tree_fits hr (by omega) (by rfl) (pa_c (pv 1) (pa_c (pv 2) zab))) (zbi (zae C_tree_holds_by hr (by omega) (by rfl) (pa_c (pv 0) (pa_c (pv 1) (pa_c (pv 2) zab))))))))), ?_⟩
  refine zaz [some v, some (.ref bf), some b] rfl ?_
  trivial
  refine ⟨v, bf, tl, wd, n, m, i, j, rfl, rp, eb, h3, hl, B, fun H1 g1 => ⟨bf, b, tl, t, rfl, g1 _ _ eb, fo, tv.same g1, by omega, hlt, fun H2 g2 => ⟨_, rfl, ?_⟩⟩⟩
  have g12 := g1.trans g2
  cases hf : fitB tl t.lets2 with
  | false =>
    rw [hf] at q
    exact iteF (q H2 g12)
  | true =>
    rw [hf] at q
    exact iteT ⟨v, b, bf, wd, n, m, tl, i, j, t, rfl, tab.same g12, rp.same g12, g12 _ _ eb, h3, B, tv.same g12, hlt, h14, fun H3 g3 => q H3 (g12.trans g3)⟩
end
section
variable {P : Program} {w : World} {K : PySem.W.Frag} {mg : Str → Option Value} {base : Heap} {tw ow fa cStandings : Addr}
abbrev s_law_roads : Stmt := top 65
theorem zf8 : FnScope ["_law_tree", "_law_road"] ["_law_tree", "_law_road"] (defScope s_law_roads) := ⟨rfl, rfl, rfl, by decide +kernel, rfl, by decide +kernel, by decide +kernel⟩
theorem zih (T : Txt K mg w tw ow fa cStandings) (d : Dfn K mg "_law_roads" s_law_roads ["_law_tree", "_law_road"]) : ∀ dd, Cal P w K mg base (1 + dd) "_law_roads" ["_law_tree", "_law_road"] (zh4 dd)
  | 0 => (d.never fun vs H Q E ⟨v, t, p, _, _, h, _⟩ => absurd h (Nat.not_lt_zero _)).mono (by omega)
  | dd + 1 => by
    have C_law_roads := zih T d dd
    refine d.cal zf8 (fun vs H Q E h => ?_) (fun f cdv A outer s H vs Q E hr h => ?_)
    · obtain ⟨v, t, p, rfl, _⟩ := h
      rfl
    obtain ⟨v, t, rd, rfl, tv, hd, hz, hln, q⟩ := h
    change Room (1 + dd) _ at hr
    refine ⟨_, (zac (zar (zai zie (pv 0) zdz (nomark _)) (zad (zah (za3 zab))) zag) (zad (zah (za2 zg7 (za2 zg7 (za3 (pa_c (pv 1) zab)) (zae C_law_roads hr (by omega) (by rfl) (pa_c (zan (zao K) (pv 0) zaf (fun _ _ => rfl)) (pa_c (za2 zbk (pv 1) zak) zab)))) (zae C_law_roads hr (by omega) (by rfl) (pa_c (zan (zao K) (pv 0) zaf (fun _ _ => rfl)) (pa_c (za2 zbk (pv 1) zak) zab))))))), ?_⟩
    refine zaz [some v, some (txV rd)] rfl ?_
    trivial
    cases t with
    | nil =>
      obtain rfl : v = .non := tv
      rw [decide_eq_true rfl]
      exact iteT ⟨by decide, fun D H1 n1 => q D H1 n1.nil n1.g n1.at'⟩
    | node l x y =>
      obtain ⟨p, va, vb, rfl, ep, ta, tb⟩ := tv
      have hdp : (Tr.node l x y).depth = 1 + max x.depth y.depth := rfl
      have hx : x.depth < dd := by omega
      have hy : y.depth < dd := by omega
      have hsz : 1 + x.size + y.size ≤ 60 := hz
      rw [decide_eq_false (fun h => nomatch h)]
      refine iteF ?_
      have hll : (tx rd).length ≤ 200 := by rw [zem]; omega
      have sl : (tx rd).length + (Str.ofString "l").length ≤ sizeLine := zaa (by rw [show (Str.ofString "l").length = 1 from rfl]; omega)
      have sr : (tx rd).length + (Str.ofString "r").length ≤ sizeLine := zaa (by rw [show (Str.ofString "r").length = 1 from rfl]; omega)
      have lx := zdv x (rd ++ [false])
      have ly := zdv y (rd ++ [true])
      have l1 : (rd ++ [false]).length = rd.length + 1 := by rw [List.length_append, List.length_singleton]
      have l2 : (rd ++ [true]).length = rd.length + 1 := by rw [List.length_append, List.length_singleton]
      refine ⟨zaa (by simp), fun q1 H1 n1 => ⟨p, rfl, _, .of (n1.g _ _ ep), _, zas (j := 1) rfl, sl, ?_⟩⟩
      rw [tx_l]
      refine ⟨va, x, rd ++ [false], rfl, ta.same n1.g, hx, by omega, by omega, fun D1 H2 hD1 g2 e2 => ⟨D1, rfl, _, g2 _ _ n1.at', _, e2, zaa (by rw [List.length_map, List.length_singleton]; omega), fun q2 H3 n3 => ?_⟩⟩
      have g03 := n1.g.trans (g2.trans n3.g)
      refine ⟨p, rfl, _, .of (g03 _ _ ep), _, zas (j := 2) rfl, sr, ?_⟩
      rw [tx_r]
      refine ⟨vb, y, rd ++ [true], rfl, tb.same g03, hy, by omega, by omega, fun D2 H4 hD2 g4 e4 => ⟨D2, rfl, _, g4 _ _ n3.at', _, e4, zaa (by rw [List.length_append, List.length_map, List.length_map, List.length_singleton]; omega), fun q3 H5 n5 => ?_⟩⟩
      refine q q3 H5 ((g03.trans g4).free n5.nil) (g03.trans (g4.trans n5.g)) ?_
      rw [n5.at']
      show some (HO.lst _) = some (HO.lst ((rd :: (rds x _ ++ rds y _)).map txV))
      rw [List.map_cons, List.map_append]
      rfl
abbrev s_law_lettered : Stmt := top 66
theorem sc_law_lettered : FnScope ["_law_tree", "_law_road", "_law_marks", "_law_letter", "_law_track"] ["_law_tree", "_law_road", "_law_marks"] (defScope s_law_lettered) := ⟨rfl, rfl, rfl, by decide +kernel, rfl, by decide +kernel, by decide +kernel⟩
theorem zii (T : Txt K mg w tw ow fa cStandings) (d : Dfn K mg "_law_lettered" s_law_lettered ["_law_tree", "_law_road", "_law_marks"]) : ∀ dd, Cal P w K mg base (1 + dd) "_law_lettered" ["_law_tree", "_law_road", "_law_marks"] (zh6 dd)
  | 0 => (d.never fun vs H Q E ⟨v, a, t, p, xs, ms, _, _, h, _⟩ => absurd h (Nat.not_lt_zero _)).mono (by omega)
  | dd + 1 => by
    have C_law_lettered := zii T d dd
    refine d.cal sc_law_lettered (fun vs H Q E h => ?_) (fun f cdv A outer s H vs Q E hr h => ?_)
    · obtain ⟨v, a, t, p, xs, ms, rfl, _⟩ := h
      rfl
    obtain ⟨v, a, t, rd, xs, ms, rfl, tv, hd, hln, ea, pr, h2, hm, q⟩ := h
    change Room (1 + dd) _ at hr
    refine ⟨_, (zac (zar (zai zie (pv 0) zdz (nomark _)) (zad (zah zdz)) zag) (zac (zau (i := 3) sc_law_lettered.nd rfl (Or.inl rfl) zaf) (zac (zdw PassesOwn.never rfl (zb0 (by rfl) T.b_range (pa_c (za4 (zaj K) (by rfl) T.b_len boot_len (pa_c (pv 2) zab)) zab)) (za1 (i := 4) sc_law_lettered.nd (by rfl) (Or.inl (by rfl))) (zad (zar (zai (zat K) (pv 1) (zan (zal K) (pv 2) (pv 4) (fun _ _ => rfl)) (by with_unfolding_all rfl)) (zad (zau (i := 3) sc_law_lettered.nd rfl (Or.inl rfl) (za2 zdc (pv 3) (za2 zid zaf (pv 4))))) zag))) (zad (zah (za6 (pa_c (pv 3) (pa_c (zae C_law_lettered hr (by omega) (by rfl) (pa_c (zan (zao K) (pv 0) zaf (fun _ _ => rfl)) (pa_c (za2 zbk (pv 1) zak) (pa_c (pv 2) zab)))) (pa_c (zae C_law_lettered hr (by omega) (by rfl) (pa_c (zan (zao K) (pv 0) zaf (fun _ _ => rfl)) (pa_c (za2 zbk (pv 1) zak) (pa_c (pv 2) zab)))) zab))))))))), ?_⟩
    refine zaz [some v, some (txV rd), some (.ref a), none, none] rfl ?_
    trivial
    cases t with
    | nil =>
      obtain rfl : v = .non := tv
      rw [decide_eq_true rfl]
      exact iteT (q .non H (Same.refl H) rfl)
    | node l x y =>
      obtain ⟨p, va, vb, rfl, ep, ta, tb⟩ := tv
      have hdp : (Tr.node l x y).depth = 1 + max x.depth y.depth := rfl
      have hx : x.depth < dd := by omega
      have hy : y.depth < dd := by omega
      have hxl := SS.Paired.len pr
      rw [decide_eq_false (fun h => nomatch h)]
      refine iteF ⟨_, .inl (.of ea), ?_⟩
      rw [hxl]
      have hll : (tx rd).length ≤ 200 := by rw [zem]; omega
      have sl : (tx rd).length + (Str.ofString "l").length ≤ sizeLine := zaa (by rw [show (Str.ofString "l").length = 1 from rfl]; omega)
      have sr : (tx rd).length + (Str.ofString "r").length ≤ sizeLine := zaa (by rw [show (Str.ofString "r").length = 1 from rfl]; omega)
      have l1 : (rd ++ [false]).length = rd.length + 1 := by rw [List.length_append, List.length_singleton]
      have l2 : (rd ++ [true]).length = rd.length + 1 := by rw [List.length_append, List.length_singleton]
      refine ⟨by omega, by omega, ?_⟩
      rw [Int.toNat_natCast]
      refine zdo (fun k σ H' => H' = H ∧ ∃ v4, σ = [some (.ref p), some (txV rd), some (.ref a), some (nV (lettr ms rd k)), v4]) ⟨rfl, none, rfl⟩ ?_ ?_
      · rintro k σ H' hk ⟨rfl, v4, rfl⟩
        obtain ⟨u, eu, am, rfl, em⟩ := Paired.at2 pr (List.getElem?_eq_getElem hk)
        have egd : ms.getD k [] = ms[k] := by rw [List.getD_eq_getElem?_getD, List.getElem?_eq_getElem hk]; rfl
        trivial
        have flx : ∀ X : List Rd, (X.map txV).all flatV = true := fun X => by
          rw [List.all_eq_true]; intro v hv; obtain ⟨_, _, rfl⟩ := List.mem_map.mp hv; rfl
        refine ⟨_, .of ea, _, by rw [Int.zero_add]; exact zas eu, am, rfl, _, .inl (.of em), rfl, flx _, ?_⟩
        rw [zon]
        by_cases h : rd ∈ ms[k]
        · rw [decide_eq_true h]
          refine iteT ⟨⟨by omega, by omega, by decide⟩, ?_⟩
          show _ = ((lettr ms rd k + if rd ∈ ms.getD k [] then 2 ^ k else 0 : Nat) : Int)
          rw [egd, if_pos h, Int.zero_add, Int.toNat_natCast, Int.one_mul]
          simp
        · rw [decide_eq_false h]
          refine iteF ?_
          show _ = ((lettr ms rd k + if rd ∈ ms.getD k [] then 2 ^ k else 0 : Nat) : Int)
          rw [egd, if_neg h]
          rfl
      · rintro σ H' ⟨rfl, v4, rfl⟩
        trivial
        refine ⟨_, .of ep, _, zas (j := 1) rfl, sl, ?_⟩
        rw [tx_l]
        refine ⟨va, a, x, rd ++ [false], xs, ms, rfl, ta, hx, by omega, ea, pr, h2, hm, fun v1 H1 g1 t1 => ?_⟩
        refine ⟨_, .of (g1 _ _ ep), _, zas (j := 2) rfl, sr, ?_⟩
        rw [tx_r]
        refine ⟨vb, a, y, rd ++ [true], xs, ms, rfl, tb.same g1, hy, by omega, g1 _ _ ea, L2.Paired.mapP pr (fun _ _ ⟨z, e1, e2⟩ => ⟨z, e1, g1 _ _ e2⟩), h2, hm, fun v2 H2 g2 t2 => ⟨zaa (by simp), fun p5 H5 n5 => q (.ref p5) H5 (g1.trans (g2.trans n5.g)) ?_⟩⟩
        exact ⟨p5, v1, v2, rfl, n5.at', t1.same (g2.trans n5.g), t2.same n5.g⟩
end
section
variable {P : Program} {w : World} {K : PySem.W.Frag} {mg : Str → Option Value} {base : Heap} {tw ow fa cStandings : Addr}
abbrev s_law_due : Stmt := top 67
theorem zi1 : FnScope ["_law_word", "_law_one", "_law_other"] ["_law_word", "_law_one", "_law_other"] (defScope s_law_due) := ⟨rfl, rfl, rfl, by decide +kernel, rfl, by decide +kernel, by decide +kernel⟩
theorem zpp (T : Txt K mg w tw ow fa cStandings) (d : Dfn K mg "_law_due" s_law_due ["_law_word", "_law_one", "_law_other"]) : Cal P w K mg base 1 "_law_due" ["_law_word", "_law_one", "_law_other"] zj3 := by
  refine d.cal zi1 (fun vs H Q E h => ?_) (fun f cdv A outer s H vs Q E hr h => ?_)
  · obtain ⟨a, b, wd, A, B, rfl, _⟩ := h
    rfl
  obtain ⟨a, b, wd, A, B, rfl, hw, ea, eb, hA, hB, lA, lB, nA, nB, q⟩ := h
  refine ⟨_, (zac (zar (zai za5 (pv 0) zak (nomark _)) (zad (zah (zav (zat K) (zan (zal K) (pv 1) zaf (fun _ _ => rfl)) (pv 2) (by with_unfolding_all rfl)))) zag) (zac (zar (zai za5 (pv 0) zak (nomark _)) (zad (zah (zav za5 (zan (zal K) (pv 1) zaf (fun _ _ => rfl)) (zan (zal K) (pv 2) zaf (fun _ _ => rfl)) (nomark _)))) zag) (zac (zar (zai za5 (pv 0) zak (nomark _)) (zad (zah (za4 (za8 K rfl) (by rfl) T.b_all boot_all (pa_c (zbb ["_law_road"] [(2, "_law_other")] (CompOk.of rfl (by rfl) (by rfl)) (by rfl) (zbh K (pv 1)) (fun _ _ _ _ _ => (za1 (i := 0) (show List.Nodup (["_law_road", "_law_other"] : List Str) by decide +kernel) (by rfl) (Or.inl (by rfl)))) (fun _ _ _ _ _ => zb1) (fun _ _ _ _ _ => (zav (zat K) (pv 0) (pv 1) (by with_unfolding_all rfl)))) zab)))) zag) (zac (zar (zai za5 (pv 0) zak (nomark _)) (zad (zah (zav za5 (zan (zal K) (pv 2) zaf (fun _ _ => rfl)) (za2 zbk (zan (zal K) (pv 1) zaf (fun _ _ => rfl)) zak) (nomark _)))) zag) (zac (zar (zai za5 (pv 0) zak (nomark _)) (zad (zah (zav za5 (zan (zal K) (pv 2) zaf (fun _ _ => rfl)) (za2 zbk (zan (zal K) (pv 1) zaf (fun _ _ => rfl)) zak) (nomark _)))) zag) (zad (zah (zbo (zav zi8 (za4 zbp (by rfl) T.b_len boot_len (pa_c (zan (zal K) (pv 2) zaf (fun _ _ => rfl)) zab)) (za4 zbp (by rfl) T.b_len boot_len (pa_c (zan (zal K) (pv 1) zaf (fun _ _ => rfl)) zab)) (nomark _)) (zbi (zav za5 (zbv zn4 (zan (zal K) (pv 2) zaf (fun _ _ => rfl)) zc1 (zbz (za4 zbp (by rfl) T.b_len boot_len (pa_c (zan (zal K) (pv 1) zaf (fun _ _ => rfl)) zab)))) (zan (zal K) (pv 1) zaf (fun _ _ => rfl)) (nomark _))))))))))), ?_⟩
  refine zaz [some (.str wd), some (.ref a), some (.ref b)] rfl ?_
  trivial
  unfold dueB at q
  have at0 : ∀ X : List Rd, X ≠ [] → atI (X.map txV) 0 = some (txV (X.headD [])) := fun X h => by
    cases X with
    | nil => exact absurd rfl h
    | cons x X => exact zbd
  have hlen : ∀ X : List Rd, (∀ q ∈ X, q.length ≤ 200) → (tx (X.headD [])).length ≤ 200 := fun X h => by
    rw [zem]
    cases X with
    | nil => exact Nat.zero_le _
    | cons x X => exact h x List.mem_cons_self
  have flx : ∀ X : List Rd, (X.map txV).all flatV = true := fun X => by
    rw [List.all_eq_true]; intro v hv; obtain ⟨_, _, rfl⟩ := List.mem_map.mp hv; rfl
  have lx := hlen A lA
  have ly := hlen B lB
  have sl : (tx (A.headD [])).length + (Str.ofString "l").length ≤ sizeLine := zaa (by rw [show (Str.ofString "l").length = 1 from rfl]; omega)
  have sr : (tx (A.headD [])).length + (Str.ofString "r").length ≤ sizeLine := zaa (by rw [show (Str.ofString "r").length = 1 from rfl]; omega)
  by_cases w1 : wd = "in"
  · rw [if_pos w1] at q
    rw [decide_eq_true w1]
    refine iteT ⟨_, .of ea, _, at0 A (nA (by rw [w1]; decide)), _, .inl (.of eb), rfl, flx B, ?_⟩
    rw [zon]
    exact q H (Same.refl H)
  rw [if_neg w1] at q
  rw [decide_eq_false w1]
  refine iteF ?_
  by_cases w2 : wd = "same"
  · rw [if_pos w2] at q
    rw [decide_eq_true w2]
    refine iteT ⟨_, .of ea, _, at0 A (nA (by rw [w2]; decide)), _, .of eb, _, at0 B (nB (by rw [w2]; decide) (by rw [w2]; decide)), rfl, ?_⟩
    rw [zmh]
    exact q H (Same.refl H)
  rw [if_neg w2] at q
  rw [decide_eq_false w2]
  refine iteF ?_
  by_cases w3 : wd = "within"
  · rw [if_pos w3] at q
    rw [decide_eq_true w3]
    refine iteT ⟨⟨_, .of ea⟩, zfo (K := K) (a := a) (xs := A.map txV) (fun σ => ∃ v, σ = [v, some (.ref b)]) (fun v => .bl (inV v (B.map txV))) (by rw [List.length_map]; omega) (.of ea) ⟨_, rfl⟩ ?_ ?_⟩
    · rintro D3 i σ H3 x hi hm hx gg hD3 hD3' ⟨v, rfl⟩
      obtain ⟨z, mz, rfl⟩ := List.mem_map.mp hm
      trivial
      exact ⟨_, .inl (.of (gg _ _ eb)), rfl, flx B, zc5 (by rw [List.length_map]; omega) hx hD3 hD3' gg ⟨_, rfl⟩ rfl⟩
    intro D3 H3 hD3 g3 eD3
    have eD3' : H3 D3 = some (.lst ((A.map fun z => decide (z ∈ B)).map V.bl)) := by
      rw [eD3, List.map_map, List.map_map]
      congr 2
      refine List.map_congr_left fun z _ => ?_
      show V.bl (inV (txV z) (B.map txV)) = V.bl (decide (z ∈ B))
      rw [zon]
    refine ⟨D3, rfl, _, .of eD3', ?_⟩
    rw [show (A.map fun z => decide (z ∈ B)).all id = A.all fun z => decide (z ∈ B) by rw [List.all_map]; rfl]
    exact q H3 g3
  rw [if_neg w3] at q
  rw [decide_eq_false w3]
  have hA0 := at0 A (nA w3)
  have hB0 := at0 B (nB w3 w1)
  refine iteF ?_
  by_cases w4 : wd = "left"
  · rw [if_pos w4] at q
    rw [decide_eq_true w4]
    refine iteT ⟨_, .of eb, _, hB0, _, .of ea, _, hA0, _, rfl, sl, rfl, ?_⟩
    rw [tx_l, zmh]
    exact q H (Same.refl H)
  rw [if_neg w4] at q
  rw [decide_eq_false w4]
  refine iteF ?_
  by_cases w5 : wd = "right"
  · rw [if_pos w5] at q
    rw [decide_eq_true w5]
    refine iteT ⟨_, .of eb, _, hB0, _, .of ea, _, hA0, _, rfl, sr, rfl, ?_⟩
    rw [tx_r, zmh]
    exact q H (Same.refl H)
  rw [if_neg w5] at q
  rw [decide_eq_false w5]
  refine iteF ⟨_, .of eb, _, hB0, _, rfl, zaa (by omega), _, .of ea, _, hA0, _, rfl, zaa (by omega), ?_⟩
  rw [zem, zem]
  generalize A.headD [] = x at *
  generalize B.headD [] = y at *
  by_cases hl : x.length < y.length
  · rw [decide_eq_true (by omega)]
    refine iteT ⟨_, .of eb, _, hB0, _, .of ea, _, hA0, _, rfl, zaa (by omega), _, rfl, zaa (by omega), _, .of ea, _, hA0, rfl, ?_⟩
    rw [zem, zmg, zmh]
    rw [decide_eq_decide.mpr (show y.take x.length = x ↔ (x <+: y ∧ x ≠ y) from ⟨fun h => ⟨by rw [← h]; exact List.take_prefix _ _, fun e => by rw [e] at hl; omega⟩, fun h => (List.prefix_iff_eq_take.mp h.1).symm⟩)]
    exact q H (Same.refl H)
  · rw [decide_eq_false (by omega)]
    rw [decide_eq_false (show ¬ (x <+: y ∧ x ≠ y) from fun h => h.2 (h.1.eq_of_length_le (by omega)))] at q
    exact iteF (q H (Same.refl H))
abbrev s_law_words : Stmt := top 68
theorem zf7 : FnScope ["_law_one", "_law_other"] ["_law_one", "_law_other"] (defScope s_law_words) := ⟨rfl, rfl, rfl, by decide +kernel, rfl, by decide +kernel, by decide +kernel⟩
theorem zkr (T : Txt K mg w tw ow fa cStandings) (d : Dfn K mg "_law_words" s_law_words ["_law_one", "_law_other"]) : Cal P w K mg base 1 "_law_words" ["_law_one", "_law_other"] zfu := by
  refine d.cal zf7 (fun vs H Q E h => ?_) (fun f cdv A outer s H vs Q E hr h => ?_)
  · obtain ⟨one, other, rfl, _⟩ := h
    rfl
  obtain ⟨one, other, rfl, h1, h2, q⟩ := h
  obtain ⟨c1, r1, e1, p1, s1⟩ := zdn h1
  obtain ⟨c2, r2, e2, p2, s2⟩ := zdn h2
  refine ⟨_, (zac (zar (zfg zbc zbc zak (zan zez (pv 0) zaf (fun _ _ => rfl)) zak) (zac (zar (zfg zbc zbc zak (zan zez (pv 1) zaf (fun _ _ => rfl)) zak) (zad (zah (za3 (pa_c zak (pa_c zak (pa_c zak (pa_c zak zab))))))) zag) (zad (zah (za3 (pa_c zak zab))))) zag) (zac (zar (zfg zbc zbc zak (zan zez (pv 1) zaf (fun _ _ => rfl)) zak) (zad (zah (za3 zab))) zag) (zad (zah (za3 (pa_c zak zab)))))), ?_⟩
  refine zaz [some (.str one), some (.str other)] rfl ?_
  trivial
  have z1 : one.length ≤ sizeLine := zaa (zcp h1)
  have z2 : other.length ≤ sizeLine := zaa (zcp h2)
  have a1 : atI one.cps.toList 0 = some c1 := by rw [e1]; exact zbd
  have a2 : atI other.cps.toList 0 = some c2 := by rw [e2]; exact zbd
  unfold words42 at q
  refine ⟨z1, c1, a1, ?_⟩
  cases hp1 : isP one with
  | true =>
    rw [hp1, if_pos rfl] at q
    rw [(p1 hp1).1, (p1 hp1).2]
    refine iteT (iteT ⟨z2, c2, a2, ?_⟩)
    cases hp2 : isP other with
    | true =>
      rw [hp2, if_pos rfl] at q
      rw [(p2 hp2).1, (p2 hp2).2]
      exact iteT (iteT ⟨zaa (by simp), fun p H' n => q p H' n.nil n.g n.at'⟩)
    | false =>
      rw [hp2, if_neg (by decide)] at q
      rw [s2 hp2]
      exact iteF ⟨zaa (by simp), fun p H' n => q p H' n.nil n.g n.at'⟩
  | false =>
    rw [hp1, if_neg (by decide)] at q
    rw [s1 hp1]
    refine iteF ⟨z2, c2, a2, ?_⟩
    cases hp2 : isP other with
    | true =>
      rw [hp2, if_pos rfl] at q
      rw [(p2 hp2).1, (p2 hp2).2]
      exact iteT (iteT ⟨by decide, fun p H' n => q p H' n.nil n.g n.at'⟩)
    | false =>
      rw [hp2, if_neg (by decide)] at q
      rw [s2 hp2]
      exact iteF ⟨zaa (by simp), fun p H' n => q p H' n.nil n.g n.at'⟩
abbrev s_law_some : Stmt := top 69
theorem zg0 : FnScope ["_law_roads_here", "_law_number", "_law_single"] ["_law_roads_here", "_law_number", "_law_single"] (defScope s_law_some) := ⟨rfl, rfl, rfl, by decide +kernel, rfl, by decide +kernel, by decide +kernel⟩
theorem zm6 (T : Txt K mg w tw ow fa cStandings) (d : Dfn K mg "_law_some" s_law_some ["_law_roads_here", "_law_number", "_law_single"]) : Cal P w K mg base 1 "_law_some" ["_law_roads_here", "_law_number", "_law_single"] zhz := by
  refine d.cal zg0 (fun vs H Q E h => ?_) (fun f cdv A outer s H vs Q E hr h => ?_)
  · obtain ⟨a, n, b, ts, rfl, _⟩ := h
    rfl
  obtain ⟨a, n, b, ts, rfl, ea, ne, h60, hn, q⟩ := h
  refine ⟨_, (zac (zar (zba (pv 2)) (zad (zah (za3 (pa_c (zan (zal K) (pv 0) (za2 zca (pv 1) (za4 (zaj K) (by rfl) T.b_len boot_len (pa_c (pv 0) zab))) (fun _ _ => rfl)) zab)))) zag) (zad (zah (zbb ["_law_k"] [(0, "_law_roads_here"), (1, "_law_number")] (CompOk.of rfl (by rfl) (by rfl)) (by rfl) (zb0 (by rfl) T.b_range (pa_c (za4 (zaj K) (by rfl) T.b_len boot_len (pa_c (pv 0) zab)) zab)) (fun _ _ _ _ _ => (za1 (i := 0) (show List.Nodup (["_law_k", "_law_roads_here", "_law_number"] : List Str) by decide +kernel) (by rfl) (Or.inl (by rfl)))) (fun _ _ _ _ _ => (zki (zai za5 (za2 zif (za2 zn9 (pv 2) (za2 zca (pv 0) zaf)) zaf) zaf (nomark _)))) (fun _ _ _ _ _ => (zan (zal K) (pv 1) (pv 0) (fun _ _ => rfl))))))), ?_⟩
  refine zaz [some (.ref a), some (.int n), some (.bl b)] rfl ?_
  trivial
  have hpos : 0 < ts.length := List.length_pos_iff.mpr ne
  cases b with
  | true =>
    refine iteT ⟨_, .inl (.of ea), by rw [List.length_map]; omega, _, .of ea, ?_⟩
    have h0 := Int.emod_nonneg n (show ((ts.map txV).length : Int) ≠ 0 by rw [List.length_map]; omega)
    have h1 := Int.emod_lt_of_pos n (show (0 : Int) < ((ts.map txV).length : Int) by rw [List.length_map]; omega)
    rw [List.length_map] at h0 h1 ⊢
    generalize n % (ts.length : Int) = r at h0 h1
    obtain ⟨k, rfl⟩ : ∃ k : Nat, r = (k : Int) := ⟨r.toNat, by omega⟩
    have hk : k < ts.length := by omega
    refine ⟨txV ts[k], zas (by rw [List.getElem?_map, List.getElem?_eq_getElem hk]; rfl), zaa (by simp), fun p H' n' => q p H' [ts[k]] n'.nil n'.g n'.at' (fun _ => ⟨_, rfl, List.getElem_mem hk⟩) (fun z hz => by rw [List.mem_singleton.mp hz]; exact List.getElem_mem hk) (by simp)⟩
  | false =>
    refine iteF ⟨_, .inl (.of ea), by rw [List.length_map]; omega, by rw [List.length_map]; omega, ?_⟩
    rw [List.length_map, Int.toNat_natCast]
    refine zp7 (fun σ => ∃ v, σ = [v, some (.ref a), some (.int n)]) (fun k => decide (Builtin.bitAnd (n / 2 ^ (k % 29)) 1 = 1)) (fun k => txV (ts.getD k [])) (by omega) ⟨_, rfl⟩ ?_ ?_
    · rintro D k σ H3 hk gg hD hD' ⟨v, rfl⟩
      trivial
      have e29 : ((0 : Int) + (k : Int)) % 29 = ((k % 29 : Nat) : Int) := by omega
      rw [e29, Int.toNat_natCast]
      refine ⟨by decide, by omega, ?_⟩
      have egd : atI (ts.map txV) (0 + (k : Int)) = some (txV (ts.getD k [])) := by
        rw [Int.zero_add]
        refine zas ?_
        rw [List.getElem?_map, List.getD_eq_getElem?_getD, List.getElem?_eq_getElem hk]
        rfl
      by_cases h : Builtin.bitAnd (n / 2 ^ (k % 29)) 1 = 1
      · rw [decide_eq_true h]
        exact iteT ⟨_, .of (gg _ _ ea), _, egd, zio (by omega) hk (decide_eq_true h) hD hD' gg ⟨_, rfl⟩ rfl⟩
      · rw [decide_eq_false h]
        exact iteF (ziq hk (decide_eq_false h) hD' gg ⟨_, rfl⟩)
    intro D H3 hD g3 eD
    refine q D H3 (((List.range ts.length).filter fun k => decide (Builtin.bitAnd (n / 2 ^ (k % 29)) 1 = 1)).map fun k => ts.getD k []) hD g3 (by rw [eD]; unfold rdL; rw [List.map_map]; rfl) (fun h => by cases h) (fun z hz => ?_) ?_
    · obtain ⟨k, hk, rfl⟩ := List.mem_map.mp hz
      have hk := List.mem_range.mp (List.mem_filter.mp hk).1
      rw [List.getD_eq_getElem?_getD, List.getElem?_eq_getElem hk]
      exact List.getElem_mem hk
    · rw [List.length_map]
      have := List.length_filter_le (fun k => decide (Builtin.bitAnd (n / 2 ^ (k % 29)) 1 = 1)) (List.range ts.length)
      rw [List.length_range] at this
      omega
end
end K42
namespace SM
open PySem PySem.Spec PyProof.Rows L2 SS
theorem fr42 {tl : List Str} (h : tl ∈ frames42) : (1 ≤ tl.length ∧ tl.length ≤ 2) ∧ FrOk tl ∧ (∀ z ∈ tl, z.length ≤ 4) ∧ frameB (tl.map V.str) = true := by
  have nm : ∀ z ∈ (["x", "y4", "x1", "u77", "n", "z", "x3"] : List Str), Nam z SMALL := by
    intro z hz
    simp only [List.mem_cons, List.not_mem_nil, or_false] at hz
    rcases hz with rfl | rfl | rfl | rfl | rfl | rfl | rfl
    · exact ⟨120, [], by decide +kernel, by decide +kernel, by decide, by decide⟩
    · exact ⟨121, [52], by decide +kernel, by decide +kernel, by decide, by decide +kernel⟩
    · exact ⟨120, [49], by decide +kernel, by decide +kernel, by decide, by decide +kernel⟩
    · exact ⟨117, [55, 55], by decide +kernel, by decide +kernel, by decide, by decide +kernel⟩
    · exact ⟨110, [], by decide +kernel, by decide +kernel, by decide, by decide⟩
    · exact ⟨122, [], by decide +kernel, by decide +kernel, by decide, by decide⟩
    · exact ⟨120, [51], by decide +kernel, by decide +kernel, by decide, by decide +kernel⟩
  have nm2 : ∀ z ∈ (["X1", "U", "Q", "Q0"] : List Str), Nam z GREAT := by
    intro z hz
    simp only [List.mem_cons, List.not_mem_nil, or_false] at hz
    rcases hz with rfl | rfl | rfl | rfl
    · exact ⟨88, [49], by decide +kernel, by decide +kernel, by decide, by decide +kernel⟩
    · exact ⟨85, [], by decide +kernel, by decide +kernel, by decide, by decide⟩
    · exact ⟨81, [], by decide +kernel, by decide +kernel, by decide, by decide⟩
    · exact ⟨81, [48], by decide +kernel, by decide +kernel, by decide, by decide +kernel⟩
  have h1 : ∀ tl ∈ frames42, (1 ≤ tl.length ∧ tl.length ≤ 2) ∧ (∀ z ∈ tl, z ∈ (["x", "y4", "x1", "u77", "n", "z", "x3"] : List Str) ∨ z ∈ (["X1", "U", "Q", "Q0"] : List Str)) ∧ (∀ z ∈ tl, z.length ≤ 4) := by decide +kernel
  have h2 : ∀ tl ∈ frames42, frameB (tl.map V.str) = true := by decide +kernel
  obtain ⟨a, b, c⟩ := h1 tl h
  exact ⟨a, ⟨by omega, fun z hz => (b z hz).elim (fun e => .inl (nm z e)) fun e => .inr (nm2 z e)⟩, c, h2 tl h⟩
abbrev nameAt (tl : List Str) (k : Nat) : Str := tl.getD k (Str.ofString "")
theorem bare42 {tl : List Str} (h : tl ∈ frames42) {i j : Nat} (hi : i < tl.length) (hj : j < tl.length) {wd : Str} (hw : wd ∈ words42 (nameAt tl i) (nameAt tl j)) : BareT tl wd (nameAt tl i) (nameAt tl j) i j := by
  have key : ∀ tl ∈ frames42, ∀ i, i < tl.length → ∀ j, j < tl.length → ∀ wd ∈ words42 (nameAt tl i) (nameAt tl j), wd ∈ treeW ∧ tl.idxOf (nameAt tl i) = i ∧ letB SS.rowWords 3 tl (.bare wd (nameAt tl i) (nameAt tl j)) = true ∧ wfB (.bare wd (nameAt tl i) (nameAt tl j)) = true := by decide +kernel
  have key2 : ∀ tl ∈ frames42, ∀ i, i < tl.length → tl.idxOf (nameAt tl i) = i := by decide +kernel
  obtain ⟨h1, h2, h3, h4⟩ := key tl h i hi j hj wd hw
  exact ⟨h1, h2, hi, key2 tl h j hj, hj, (fr42 h).2.2.2, h3, h4⟩
theorem zmm {tl : List Str} {t : Tr} {ms : List (List Rd)} {fit : Bool} (h : tl ∈ frames42) (M : MFit tl t ms fit) {i j : Nat} (hi : i < tl.length) (hj : j < tl.length) {wd : Str} (hw : wd ∈ words42 (nameAt tl i) (nameAt tl j)) :
    (fitB tl (ltT ms tl.length t []).lets2 && holdM wd ((ltT ms tl.length t []).up 0 (markN wd i j))) = (fit && dueB wd (ms.getD i []) (ms.getD j [])) ∧
    (fit = true → (wd ≠ "within" → ms.getD i [] ≠ []) ∧ (wd ≠ "within" → wd ≠ "in" → ms.getD j [] ≠ [])) := by
  have h2 := (fr42 h).1.2
  rw [← M.eq]
  cases hf : fit with
  | false => exact ⟨rfl, fun h => by cases h⟩
  | true =>
    have one := M.one hf
    have few : ∀ k, ∀ q ∈ ms.getD k [], q ∈ rds t [] := fun k q hq => by
      by_cases hk : k < ms.length
      · rw [List.getD_eq_getElem?_getD, List.getElem?_eq_getElem hk] at hq
        exact (M.few _ (List.getElem_mem hk)).2 q hq
      · rw [List.getD_eq_getElem?_getD, List.getElem?_eq_none (by omega)] at hq
        cases hq
    have nz : ∀ k, OneR t (ms.getD k []) → ms.getD k [] ≠ [] := fun k ⟨r, e, _⟩ z => by rw [e] at z; cases z
    have pre : (wd = "in" ∧ OneR t (ms.getD i [])) ∨ ((wd = "same" ∨ wd = "left" ∨ wd = "right" ∨ wd = "above") ∧ OneR t (ms.getD i []) ∧ OneR t (ms.getD j [])) ∨ (wd = "within" ∧ ∀ q ∈ ms.getD i [], q ∈ rds t []) := by
      unfold words42 at hw
      cases p1 : isP (nameAt tl i) with
      | true =>
        rw [p1, if_pos rfl] at hw
        cases p2 : isP (nameAt tl j) with
        | true =>
          rw [p2, if_pos rfl] at hw
          simp only [List.mem_cons, List.not_mem_nil, or_false] at hw
          exact .inr (.inl ⟨hw, one i hi p1, one j hj p2⟩)
        | false =>
          rw [p2, if_neg (by decide)] at hw
          exact .inl ⟨List.mem_singleton.mp hw, one i hi p1⟩
      | false =>
        rw [p1, if_neg (by decide)] at hw
        cases p2 : isP (nameAt tl j) with
        | true => rw [p2, if_pos rfl] at hw; cases hw
        | false =>
          rw [p2, if_neg (by decide)] at hw
          exact .inr (.inr ⟨List.mem_singleton.mp hw, few i⟩)
    refine ⟨?_, fun _ => ?_⟩
    · rw [Bool.true_and, Bool.true_and, zk5 ms h2 hi hj wd t []]
      exact zrc pre
    · rcases pre with ⟨rfl, o⟩ | ⟨hw', o1, o2⟩ | ⟨rfl, _⟩
      · exact ⟨fun _ => nz i o, fun _ h => absurd rfl h⟩
      · exact ⟨fun _ => nz i o1, fun _ _ => nz j o2⟩
      · exact ⟨fun h => absurd rfl h, fun h => absurd rfl h⟩
theorem zgu {α : Type} {f g : α → Bool} {l : List α} (h : ∀ x ∈ l, f x = g x) : l.all f = l.all g := by
  induction l with
  | nil => rfl
  | cons x l ih => rw [List.all_cons, List.all_cons, h x List.mem_cons_self, ih fun y hy => h y (List.mem_cons_of_mem _ hy)]
theorem mfit1 {tl : List Str} {t : Tr} {ms : List (List Rd)} (h : tl ∈ frames42) (hl : ms.length = tl.length) (few : ∀ m ∈ ms, m.length ≤ 60 ∧ ∀ q ∈ m, q ∈ rds t [])
    (one : ∀ k, k < tl.length → isP (nameAt tl k) = true → rds t [] ≠ [] → OneR t (ms.getD k [])) : MFit tl t ms ((List.range tl.length).all fun k => !isP (nameAt tl k) || !(rds t []).isEmpty) := by
  have h2 := (fr42 h).1.2
  refine ⟨hl, few, ?_, fun hf k hk hp => one k hk hp ?_⟩
  · unfold fitB
    refine zgu fun k hk => ?_
    have hk := List.mem_range.mp hk
    rw [zoi ms h2 hk t []]
    cases hp : isP (nameAt tl k) with
    | false => rfl
    | true =>
      cases he : (rds t []).isEmpty with
      | true =>
        rw [List.isEmpty_iff.mp he]; rfl
      | false =>
        have hne : rds t [] ≠ [] := fun e => by rw [e] at he; cases he
        obtain ⟨r, e, hr⟩ := one k hk hp hne
        rw [e, zl1 (zia t []) hr]; rfl
  · have := List.all_eq_true.mp hf k (List.mem_range.mpr hk)
    rw [hp] at this
    intro e
    rw [e] at this
    cases this
theorem mfit2 {tl : List Str} {t : Tr} (h : tl ∈ frames42) : MFit tl t (List.replicate tl.length ((rds t []).take 2)) (!tl.any isP || decide ((rds t []).length = 1)) := by
  have h2 := (fr42 h).1.2
  have gd : ∀ k, k < tl.length → (List.replicate tl.length ((rds t []).take 2)).getD k [] = (rds t []).take 2 := fun k hk => by
    rw [List.getD_eq_getElem?_getD, List.getElem?_replicate, if_pos hk]; rfl
  have na : ∀ k (hk : k < tl.length), nameAt tl k = tl[k] := fun k hk => by
    show tl.getD k _ = _
    rw [List.getD_eq_getElem?_getD, List.getElem?_eq_getElem hk]; rfl
  refine ⟨List.length_replicate, fun m hm => ?_, ?_, fun hf k hk hp => ?_⟩
  · rw [(List.mem_replicate.mp hm).2]
    exact ⟨by rw [List.length_take]; omega, fun q hq => List.mem_of_mem_take hq⟩
  · unfold fitB
    rw [zgu (g := fun k => !isP (nameAt tl k) || decide ((rds t []).length = 1)) fun k hk => by
      have hk := List.mem_range.mp hk
      rw [zoi _ h2 hk t [], gd k hk, zl0 _ (zia t [])]
      congr 1
      rw [Bool.eq_iff_iff, beq_iff_eq, decide_eq_true_iff]
      omega]
    cases hd : decide ((rds t []).length = 1) with
    | true =>
      rw [Bool.or_true]
      symm
      rw [List.all_eq_true]
      intro k _
      rw [Bool.or_true]
    | false =>
      rw [Bool.or_false, Bool.eq_iff_iff, Bool.not_eq_true', List.all_eq_true]
      constructor
      · intro ha k hk
        have hk := List.mem_range.mp hk
        rw [Bool.or_false]
        cases hp : isP (nameAt tl k) with
        | false => rfl
        | true =>
          rw [na k hk] at hp
          have := List.any_eq_true.mpr ⟨_, List.getElem_mem hk, hp⟩
          rw [ha] at this; cases this
      · intro ha
        rw [Bool.eq_false_iff]
        intro hany
        obtain ⟨z, hz, hp⟩ := List.any_eq_true.mp hany
        obtain ⟨k, hk, rfl⟩ := List.getElem_of_mem hz
        have := ha k (List.mem_range.mpr hk)
        rw [na k hk, hp] at this
        cases this
  · have ha : tl.any isP = true := List.any_eq_true.mpr ⟨_, List.getElem_mem hk, by rw [← na k hk]; exact hp⟩
    rw [ha] at hf
    have h1 : (rds t []).length = 1 := of_decide_eq_true hf
    rw [gd k hk]
    match hr : rds t [], h1 with
    | [r], _ => exact ⟨r, rfl, by rw [hr]; exact List.mem_singleton.mpr rfl⟩
end SM
namespace K42
open PySem PySem.Spec PyProof.Rows L2 SS SM
local macro_rules | `(tactic| trivial) => `(tactic| simp only [exists_eq', rEqI, rNeI, rInDc, rLenD, rLenT, rDictOf, rMaxL, rIndex, rCatTN, rCatTE, tDNewN, tDNewTN, tDisp1T, rNeM, rRange2, rListRng, rRepN, rPopAt, rSetL, gSub, ipI, tDGet, tDGet2, sDPut, iEnum, iEZ, iZipL, tLam, tCallA, tCallV, tDef, iRng3, rIndexT, tFld, sFld, tMeth, tMake, gLst, rPop, rExtendT, iZip, rInD, rIxD, rLen, rAll, rAny, rSum, rListOf, rEqS, rNeS, rSlTN, rStrB, tTupN, tLstN, rSlLN, rCatN, cxK, cxP, cxW, tSeq, tIfS, tTest, tB, tOp, tUn, tC, tAnd, tOr, tNot, tAndV, tOrV, tNotV, tIf, tNext, tBreak, tCont, tDrop, tRet, tRetN, gName, gNil, gCons, gTup, tAsg, tPar, tAug, rI, rI0, rU, rEq, rNe, tChain, tNil, tCons, tTup, tLst, tCall, tCB, tNoPart, tPart, tSl, rSlT, rSlL, rSlS, rIxL, rIxT, rIxS, rIn, tBM0, tBM, tyV, rAppend, rExtend, rCat, rZfill, rEqD, iList, iTup, iStr, iRng1, iRng2, tYes, tDisp, tPairs, zox, zow, zg6, zkc, zfe, zff, List.set_cons_zero, List.set_cons_succ, List.nil_append, List.cons_append, List.append_nil, V.int.injEq, V.str.injEq, V.bl.injEq, V.ref.injEq, V.ty.injEq, List.cons.injEq, and_true, true_and, exists_eq_left, exists_eq_left', exists_and_left, exists_eq, exists_const, if_true, if_false, ite_true, ite_false, zoy, zoz, zo0, zo1, zo2, Option.some.injEq, exists_eq_right, exists_eq_right', and_assoc, reduceCtorEq, false_and, and_false, false_or, or_false, exists_false])
seal PE PT PW PA PS PSs
section
variable {P : Program} {w : World} {K : PySem.W.Frag} {mg : Str → Option Value} {base : Heap} {tw ow fa cStandings : Addr}
abbrev s_law_right : Stmt := top 70
theorem sc_law_right : FnScope ["_law_frame", "_law_tree", "_law_marks", "_law_fit", "_law_handed", "_law_whole", "_law_i", "_law_j", "_law_word", "_law_found", "_law_due_here"] ["_law_frame", "_law_tree", "_law_marks", "_law_fit"] (defScope s_law_right) := ⟨rfl, rfl, rfl, by decide +kernel, rfl, by decide +kernel, by decide +kernel⟩
theorem zi9 {Pt : Addr} (T : Txt K mg w tw ow fa cStandings) (d : Dfn K mg "_law_right" s_law_right ["_law_frame", "_law_tree", "_law_marks", "_law_fit"]) (C_law_lettered : Cal P w K mg base 16 "_law_lettered" ["_law_tree", "_law_road", "_law_marks"] (zh6 15)) (C_law_words : Cal P w K mg base 1 "_law_words" ["_law_one", "_law_other"] zfu) (C_law_due : Cal P w K mg base 1 "_law_due" ["_law_word", "_law_one", "_law_other"] zj3) (C_tree_holds : Cal P w K mg base 32 "tree_holds" ["saying", "frame", "tree"] (zfw Pt qs_tree_holds_by)) : Cal P w K mg base 33 "_law_right" ["_law_frame", "_law_tree", "_law_marks", "_law_fit"] (zen K Pt qs_tree_holds_by) := by
  refine d.cal sc_law_right (fun vs H Q E h => ?_) (fun f cdv A outer s H vs Q E hr h => ?_)
  · obtain ⟨fr, am, v, tl, t, xs, ms, fit, rfl, _⟩ := h
    rfl
  obtain ⟨fr, am, v, tl, t, xs, ms, fit, rfl, tab, efr, htl, tv, h14, eam, pr, M, q⟩ := h
  have hu := zle hr 8 (by decide)
  obtain ⟨⟨h1, h2⟩, fo, hl4, hfr⟩ := fr42 htl
  have hdp := Tr.depth_le t
  refine ⟨_, (zac (zau (i := 4) sc_law_right.nd rfl (Or.inl rfl) (zn7 (zej K) (by rfl) T.b_list boot_list (pa_c (pv 0) zab))) (zac (zau (i := 5) sc_law_right.nd rfl (Or.inl rfl) (zae C_law_lettered hr (by omega) (by rfl) (pa_c (pv 1) (pa_c zak (pa_c (pv 2) zab))))) (zac (zdw PassesOwn.never rfl (zb0 (by rfl) T.b_range (pa_c (za4 (zaj K) (by rfl) T.b_len boot_len (pa_c (pv 0) zab)) zab)) (za1 (i := 6) sc_law_right.nd (by rfl) (Or.inl (by rfl))) (zad (zdw PassesOwn.never rfl (zb0 (by rfl) T.b_range (pa_c (za4 (zaj K) (by rfl) T.b_len boot_len (pa_c (pv 0) zab)) zab)) (za1 (i := 7) sc_law_right.nd (by rfl) (Or.inl (by rfl))) (zad (zdw PassesOwn.never rfl (zbh K (zae C_law_words hr (by omega) (by rfl) (pa_c (zan (zal K) (pv 0) (pv 6) (fun _ _ => rfl)) (pa_c (zan (zal K) (pv 0) (pv 7) (fun _ _ => rfl)) zab)))) (za1 (i := 8) sc_law_right.nd (by rfl) (Or.inl (by rfl))) (zac (zau (i := 9) sc_law_right.nd rfl (Or.inl rfl) (zae C_tree_holds hr (by omega) (by rfl) (pa_c (za6 (pa_c (pv 8) (pa_c (zan (zal K) (pv 0) (pv 6) (fun _ _ => rfl)) (pa_c (zan (zal K) (pv 0) (pv 7) (fun _ _ => rfl)) zab)))) (pa_c (pv 4) (pa_c (pv 5) zab))))) (zac (zau (i := 10) sc_law_right.nd rfl (Or.inl rfl) (zbo (pv 3) (zbi (zae C_law_due hr (by omega) (by rfl) (pa_c (pv 8) (pa_c (zan (zal K) (pv 2) (pv 6) (fun _ _ => rfl)) (pa_c (zan (zal K) (pv 2) (pv 7) (fun _ _ => rfl)) zab))))))) (zad (zar (PW.pt (zcz (zbx (zba (za4 zbj (by rfl) T.b_isinstance boot_isinstance (pa_c (pv 9) (pa_c (zbw (v := .ty "bool") (by rfl) T.b_bool boot_bool (by rfl)) zab))))) (zcz (zai zkn (pv 9) (pv 10) (nomark _)) (zb9 (zai (zpi K hu) (pv 4) (pv 0) (nomark _)))))) (zad (zah zdi)) zag))))))))) (zad (zah zdi))))), ?_⟩
  refine zaz [some (.ref fr), some v, some (.ref am), some (.bl fit), none, none, none, none, none, none, none] rfl ?_
  trivial
  have few100 : ∀ m ∈ ms, m.length ≤ 100 := fun m hm => by have := (M.few m hm).1; omega
  have lnk : ∀ {H' : Hp}, Same H H' → Paired (LnR H') xs ms := fun g => L2.Paired.mapP pr (fun _ _ ⟨z, e1, e2⟩ => ⟨z, e1, g _ _ e2⟩)
  refine ⟨_, .inl (.of efr), fun l H1 n1 => ⟨v, am, t, [], xs, ms, congrArg (fun z => [v, V.str z, V.ref am]) tx_nil.symm, tv.same n1.g, by omega, by rw [List.length_nil]; omega, n1.g _ _ eam, lnk n1.g, by rw [M.len]; omega, few100, fun vw H2 g2 tw2 => ?_⟩⟩
  rw [M.len] at tw2
  have g02 := n1.g.trans g2
  have el2 := g2 _ _ n1.at'
  refine ⟨_, .inl (.of (g02 _ _ efr)), by rw [List.length_map]; omega, by rw [List.length_map]; omega, ?_⟩
  rw [List.length_map, Int.toNat_natCast]
  refine zdo (fun i σ H' => Same H2 H' ∧ ∃ v6 v7 v8 v9 v10, σ = [some (.ref fr), some v, some (.ref am), some (.bl fit), some (.ref l), some vw, v6, v7, v8, v9, v10]) ⟨Same.refl _, _, _, _, _, _, rfl⟩ ?_ ?_
  · rintro i σ H3 hi ⟨g3, v6, v7, v8, v9, v10, rfl⟩
    trivial
    have g03 := g02.trans g3
    refine ⟨_, .inl (.of (g03 _ _ efr)), by rw [List.length_map]; omega, by rw [List.length_map]; omega, ?_⟩
    rw [List.length_map, Int.toNat_natCast]
    refine zdo (fun j σ H' => Same H3 H' ∧ ∃ v7 v8 v9 v10, σ = [some (.ref fr), some v, some (.ref am), some (.bl fit), some (.ref l), some vw, some (.int (0 + (i : Int))), v7, v8, v9, v10]) ⟨Same.refl _, _, _, _, _, rfl⟩ ?_ ?_
    · rintro j σ H4 hj ⟨g4, v7, v8, v9, v10, rfl⟩
      trivial
      have g04 := g03.trans g4
      have nat' : ∀ k, k < tl.length → atI (tl.map V.str) (0 + (k : Int)) = some (.str (nameAt tl k)) := fun k hk => by
        rw [Int.zero_add]
        refine zas ?_
        rw [List.getElem?_map, List.getElem?_eq_getElem hk]
        show _ = some (V.str (tl.getD k _))
        rw [List.getD_eq_getElem?_getD, List.getElem?_eq_getElem hk]
        rfl
      have nmok : ∀ k, k < tl.length → NmOk (nameAt tl k) := fun k hk => by
        refine fo.2 _ ?_
        show tl.getD k _ ∈ tl
        rw [List.getD_eq_getElem?_getD, List.getElem?_eq_getElem hk]
        exact List.getElem_mem hk
      refine ⟨_, .of (g04 _ _ efr), _, nat' i hi, _, .of (g04 _ _ efr), _, nat' j hj, _, _, rfl, nmok i hi, nmok j hj, fun D H5 hD g5 eD => ⟨D, rfl, ⟨_, .of eD⟩, ?_⟩⟩
      refine zhf (K := K) (a := D) (xs := (words42 (nameAt tl i) (nameAt tl j)).map V.str) (fun k σ H' => Same H5 H' ∧ ∃ v8 v9 v10, σ = [some (.ref fr), some v, some (.ref am), some (.bl fit), some (.ref l), some vw, some (.int (0 + (i : Int))), some (.int (0 + (j : Int))), v8, v9, v10]) ⟨Same.refl _, _, _, _, rfl⟩ (fun k σ H' _ z => .of (z.1 _ _ eD)) ?_ ?_
      · rintro k y σ H6 hy ⟨g6, v8, v9, v10, rfl⟩
        rw [List.getElem?_map] at hy
        obtain ⟨wd, ew, rfl⟩ := Option.map_eq_some_iff.mp hy
        have hw := List.mem_of_getElem? ew
        have B := bare42 htl hi hj hw
        obtain ⟨R1, R2⟩ := zmm htl M hi hj hw
        have hbw : wd ∈ bareWords := by
          have := B.hw
          simp only [treeW, List.mem_cons, List.not_mem_nil, or_false] at this
          rcases this with rfl | rfl | rfl | rfl | rfl | rfl <;> decide
        have g26 := g3.trans (g4.trans (g5.trans g6))
        have g06 := g02.trans g26
        trivial
        refine ⟨_, .of (g06 _ _ efr), _, nat' i hi, _, .of (g06 _ _ efr), _, nat' j hj, zaa (by simp), fun p7 H7 n7 => ?_⟩
        have g27 := g26.trans n7.g
        have g07 := g06.trans n7.g
        refine ⟨.ref p7, vw, l, wd, _, _, tl, i, j, ltT ms tl.length t [], rfl, tab.same g07, .bare hbw n7.at', g27 _ _ el2, fo, by omega, hl4, B, tw2.same g27, zhe _ _ _ _, by rw [zfj]; omega, fun H8 g8 => ?_⟩
        rw [R1]
        have g28 := g27.trans g8
        have g08 := g07.trans g8
        dsimp only
        have tail : ∀ H9, Same H8 H9 → ∃ x, SqL K H9 l (List.map V.str x) ∧ ∃ x_7, SqL K H9 fr (List.map V.str x_7) ∧ if (!decide (x = x_7)) = true then Q (V.bl false) H9 else Same H5 H9 := fun H9 g9 => by
          refine ⟨tl, .of (g9 _ _ (g28 _ _ el2)), tl, .of (g9 _ _ (g08 _ _ efr)), ?_⟩
          rw [decide_eq_true rfl]
          exact iteF (g6.trans (n7.g.trans (g8.trans g9)))
        cases hf : fit with
        | false =>
          refine iteF ⟨_, .bl _, by decide, iteF ⟨rfl, ?_⟩⟩
          rw [Bool.false_and, decide_eq_true rfl]
          exact iteF (tail H8 (Same.refl _))
        | true =>
          obtain ⟨z1, z2⟩ := R2 hf
          have hm : ∀ k, k < tl.length → ∃ ax, atI xs (0 + (k : Int)) = some (.ref ax) ∧ H ax = some (rdL (ms.getD k [])) ∧ (ms.getD k []).length ≤ 60 ∧ ∀ q ∈ ms.getD k [], q.length ≤ 200 := fun k hk => by
            have hk' : k < ms.length := by rw [M.len]; exact hk
            have egd : ms.getD k [] = ms[k] := by rw [List.getD_eq_getElem?_getD, List.getElem?_eq_getElem hk']; rfl
            obtain ⟨u, eu, ax, rfl, em⟩ := Paired.at2 pr (List.getElem?_eq_getElem hk')
            refine ⟨ax, by rw [Int.zero_add]; exact zas eu, by rw [egd]; exact em, by rw [egd]; exact (M.few _ (List.getElem_mem hk')).1, fun q hq => ?_⟩
            rw [egd] at hq
            have := zfd ((M.few _ (List.getElem_mem hk')).2 q hq)
            rw [List.length_nil] at this
            omega
          obtain ⟨ai, x1, x2, x3, x4⟩ := hm i hi
          obtain ⟨aj, y1, y2, y3, y4⟩ := hm j hj
          refine iteT ⟨_, .of (g08 _ _ eam), _, x1, _, .of (g08 _ _ eam), _, y1, ai, aj, wd, _, _, rfl, B.hw, g08 _ _ x2, g08 _ _ y2, by omega, by omega, x4, y4, z1, z2, fun H9 g9 => ⟨_, .bl _, by decide, iteF ⟨rfl, ?_⟩⟩⟩
          rw [Bool.true_and, decide_eq_true rfl]
          exact iteF (tail H9 g9)
      · rintro σ H6 ⟨g6, v8, v9, v10, rfl⟩
        trivial
        exact g4.trans (g5.trans g6)
    · rintro σ H4 ⟨g4, v7, v8, v9, v10, rfl⟩
      trivial
      exact g3.trans g4
  · rintro σ H3 ⟨g3, v6, v7, v8, v9, v10, rfl⟩
    trivial
    exact q H3 (g02.trans g3)
end
section
variable {P : Program} {w : World} {K : PySem.W.Frag} {mg : Str → Option Value} {base : Heap} {tw ow fa cStandings : Addr}
abbrev s_law : Stmt := top 71
theorem sc_law : FnScope ["_law_script", "_law_number", "_law_frame", "_law_tree", "_law_roads_here", "_law_marks", "_law_fit", "_law_k", "_law_place", "_law_twice", "_law_good"] ["_law_script"] (defScope s_law) := ⟨rfl, rfl, rfl, by decide +kernel, rfl, by decide +kernel, by decide +kernel⟩
theorem zqy {Pt f : Addr} {fd : FuncData} (T : Txt K mg w tw ow fa cStandings) (F : Fun K "law" "law" s_law f fd) (C_law_cell_at : Cal P w K mg base 1 "_law_cell_at" ["_law_script", "_law_k"] (zj4 K)) (C_law_trees : Cal P w K mg base 63 "_law_trees" ["_law_cells", "_law_letters", "_law_most"] zhx) (C_law_roads : Cal P w K mg base 16 "_law_roads" ["_law_tree", "_law_road"] (zh4 15)) (C_law_some : Cal P w K mg base 1 "_law_some" ["_law_roads_here", "_law_number", "_law_single"] zhz) (C_law_right : Cal P w K mg base 33 "_law_right" ["_law_frame", "_law_tree", "_law_marks", "_law_fit"] (zen K Pt qs_tree_holds_by)) : FnOk P w K mg base CX0 65 f fd ["_law_script"] (zj2 K [(Pt, qs_tree_holds_by)]) := by
  refine F.ok sc_law (fun vs H Q E h => ?_) (fun cdv A outer s H vs Q E hr h => ?_)
  · obtain ⟨a, ns, rfl, _⟩ := h
    rfl
  obtain ⟨a, ns, rfl, hS, h63, hO, q⟩ := h
  have tab : TabOk H Pt qs_tree_holds_by := hO.tab (by simp [List.lookup])
  have hu := zle hr 8 (by decide)
  refine ⟨_, (zac (zau (i := 1) sc_law.nd rfl (Or.inl rfl) (za2 zca (zae C_law_cell_at hr (by omega) (by rfl) (pa_c (pv 0) (pa_c zaf zab))) (za2 zqr zaf zaf))) (zac (zau (i := 2) sc_law.nd rfl (Or.inl rfl) (zan (zal K) (za3 (pa_c (za3 (pa_c zak (pa_c zak zab))) (pa_c (za3 (pa_c zak (pa_c zak zab))) (pa_c (za3 (pa_c zak (pa_c zak zab))) (pa_c (za3 (pa_c zak (pa_c zak zab))) (pa_c (za3 (pa_c zak zab)) (pa_c (za3 (pa_c zak (pa_c zak zab))) zab))))))) (za2 zca (pv 1) zaf) (fun _ _ => rfl))) (zac (zdw PassesOwn.never rfl (zbh K (zae C_law_trees hr (by omega) (by rfl) (pa_c (zbv (zf6 K) (pv 0) (zbz zaf) (zbz zaf)) (pa_c zaf (pa_c zaf zab))))) (za1 (i := 3) sc_law.nd (by rfl) (Or.inl (by rfl))) (zac (zau (i := 1) sc_law.nd rfl (Or.inl rfl) (za2 zca (za2 zdc (za2 zko (pv 1) zaf) zaf) zaf)) (zac (zau (i := 4) sc_law.nd rfl (Or.inr rfl) (zae C_law_roads hr (by omega) (by rfl) (pa_c (pv 3) (pa_c zak zab)))) (zac (zau (i := 5) sc_law.nd rfl (Or.inl rfl) (za3 zab)) (zac (zau (i := 6) sc_law.nd rfl (Or.inl rfl) zdi) (zac (zdw PassesOwn.never rfl (zb0 (by rfl) T.b_range (pa_c (za4 (zaj K) (by rfl) T.b_len boot_len (pa_c (pv 2) zab)) zab)) (za1 (i := 7) sc_law.nd (by rfl) (Or.inl (by rfl))) (zc0 (zau (i := 8) sc_law.nd rfl (Or.inl rfl) (zfh zbc zbc zak (zan zez (zan (zal K) (pv 2) (pv 7) (fun _ _ => rfl)) zaf (fun _ _ => rfl)) zak)) (zc0 (zau (i := 6) sc_law.nd rfl (Or.inl rfl) (zbo (pv 6) (zbi (zmv (zkj (pv 8)) (zbi (zav zi8 (za4 (zaj K) (by rfl) T.b_len boot_len (pa_c (pv 4) zab)) zaf (nomark _))))))) (zad (zar (zai za5 (za4 (zaj K) (by rfl) T.b_len boot_len (pa_c (pv 4) zab)) zaf (nomark _)) (zad (zbu (zdb K PySem.F.plainAttrs_list PySem.F.slot_list_append PySem.F.type_list_append zbr (pv 5) (pa_c (za3 zab) zab)))) (zad (zbu (zdb K PySem.F.plainAttrs_list PySem.F.slot_list_append PySem.F.type_list_append zbr (pv 5) (pa_c (zae C_law_some hr (by omega) (by rfl) (pa_c (pv 4) (pa_c (za2 zfi (pv 1) (za2 zdc (za2 zko (pv 7) zaf) zaf)) (pa_c (pv 8) zab)))) zab))))))))) (zac (zar (zbx (zba (zae C_law_right hr (by omega) (by rfl) (pa_c (pv 2) (pa_c (pv 3) (pa_c (pv 5) (pa_c (pv 6) zab))))))) (zad (zah zdi)) zag) (zac (zo4 (i := 9) sc_law.nd rfl (Or.inl rfl) ["_law_name"] [(4, "_law_roads_here")] (CompOk.of rfl (by rfl) (by rfl)) (by rfl) (zbh K (pv 2)) (fun _ _ _ _ _ => (za1 (i := 0) (show List.Nodup (["_law_name", "_law_roads_here"] : List Str) by decide +kernel) (by rfl) (Or.inl (by rfl)))) (fun _ _ _ _ _ => zb1) (fun _ _ _ _ _ => (zbv (zf6 K) (pv 1) zc1 (zbz zaf)))) (zc0 (zau (i := 10) sc_law.nd rfl (Or.inl rfl) (zmv (zkj (za4 (zgo K rfl) (by rfl) T.b_any boot_any (pa_c (zbb ["_law_name"] [] (CompOk.of rfl (by rfl) (by rfl)) (by rfl) (zbh K (pv 2)) (fun _ _ _ _ _ => (za1 (i := 0) (show List.Nodup (["_law_name"] : List Str) by decide +kernel) (by rfl) (Or.inl (by rfl)))) (fun _ _ _ _ _ => zb1) (fun _ _ _ _ _ => (zfh zbc zbc zak (zan zez (pv 0) zaf (fun _ _ => rfl)) zak))) zab))) (zbi (zav za5 (za4 (zaj K) (by rfl) T.b_len boot_len (pa_c (pv 4) zab)) zaf (nomark _))))) (zad (zar (zbx (zba (zae C_law_right hr (by omega) (by rfl) (pa_c (pv 2) (pa_c (pv 3) (pa_c (pv 9) (pa_c (pv 10) zab))))))) (zad (zah zdi)) zag))))))))))) (zad (zah zdi))))), ?_⟩
  refine zaz [some (.ref a), none, none, none, none, none, none, none, none, none, none] rfl ?_
  trivial
  refine ⟨a, ns, 0, rfl, hS, by decide, fun c => ⟨⟨by decide, by decide, by decide⟩, _, rfl, by decide, zaa (by simp), fun l0 H0 n0 => ⟨zaa (by simp), fun l1 H1 n1 => ⟨zaa (by simp), fun l2 H2 n2 => ⟨zaa (by simp), fun l3 H3 n3 => ⟨zaa (by simp), fun l4 H4 n4 => ⟨zaa (by simp), fun l5 H5 n5 => ⟨zaa (by simp), fun l6 H6 n6 => ⟨by decide, _, .of n6.at', ?_⟩⟩⟩⟩⟩⟩⟩⟩⟩
  have hh := Int.emod_nonneg c (show (10 : Int) ^ Int.toNat 20 ≠ 0 by decide)
  generalize c % (10 : Int) ^ Int.toNat 20 = nu at hh
  have w0 := Int.emod_nonneg nu (show (6 : Int) ≠ 0 by decide)
  have w1 := Int.emod_lt_of_pos nu (show (0 : Int) < 6 by decide)
  have g06 : Same H H6 := n0.g.trans (n1.g.trans (n2.g.trans (n3.g.trans (n4.g.trans (n5.g.trans n6.g)))))
  obtain ⟨fr, tl, efr, htl, eat⟩ : ∃ (fr : Addr) (tl : List Str), H6 fr = some (.lst (tl.map V.str)) ∧ tl ∈ frames42 ∧ atI [V.ref l0, V.ref l1, V.ref l2, V.ref l3, V.ref l4, V.ref l5] (nu % 6) = some (.ref fr) := by
    obtain ⟨r, er⟩ : ∃ r : Nat, nu % 6 = (r : Int) := ⟨(nu % 6).toNat, by omega⟩
    rw [er]
    rcases (show r = 0 ∨ r = 1 ∨ r = 2 ∨ r = 3 ∨ r = 4 ∨ r = 5 by omega) with rfl | rfl | rfl | rfl | rfl | rfl
    · exact ⟨l0, ["x", "y4"], (n1.g.trans (n2.g.trans (n3.g.trans (n4.g.trans (n5.g.trans n6.g))))) _ _ n0.at', by simp [frames42], zas (j := 0) rfl⟩
    · exact ⟨l1, ["x1", "X1"], (n2.g.trans (n3.g.trans (n4.g.trans (n5.g.trans n6.g)))) _ _ n1.at', by simp [frames42], zas (j := 1) rfl⟩
    · exact ⟨l2, ["U", "u77"], (n3.g.trans (n4.g.trans (n5.g.trans n6.g))) _ _ n2.at', by simp [frames42], zas (j := 2) rfl⟩
    · exact ⟨l3, ["Q", "Q0"], (n4.g.trans (n5.g.trans n6.g)) _ _ n3.at', by simp [frames42], zas (j := 3) rfl⟩
    · exact ⟨l4, ["n"], (n5.g.trans n6.g) _ _ n4.at', by simp [frames42], zas (j := 4) rfl⟩
    · exact ⟨l5, ["z", "x3"], n6.g _ _ n5.at', by simp [frames42], zas (j := 5) rfl⟩
  obtain ⟨⟨f1, f2⟩, fo, hl4, hfr⟩ := fr42 htl
  refine ⟨_, eat, _, g06.seq hS, fun l7 H7 n7 => ?_⟩
  rw [znx] at n7
  have hcl := zny ns (some 2) (some 32)
  have g07 := g06.trans n7.g
  have efr7 := n7.g _ _ efr
  refine ⟨l7, _, 1, 14, rfl, n7.at', by omega, by decide, by decide, fun D xs ts H8 hD g8 eD pr hts hall => ⟨D, rfl, ⟨_, .of eD⟩, ?_⟩⟩
  have g08 := g07.trans g8
  have efr8 := g8 _ _ efr7
  have hxl := SS.Paired.len pr
  refine zhf (K := K) (a := D) (xs := xs) (fun i σ H' => Same H8 H' ∧ ∃ (nu : Int) (v3 v4 v5 v6 v7 v8 v9 v10 : Option V), 0 ≤ nu ∧ σ = [some (.ref a), some (.int nu), some (.ref fr), v3, v4, v5, v6, v7, v8, v9, v10]) ⟨Same.refl _, nu, _, _, _, _, _, _, _, _, hh, rfl⟩ (fun k σ H' _ z => .of (z.1 _ _ eD)) ?_ ?_
  · rintro i y σ H9 hy ⟨g9, nu, v3, v4, v5, v6, v7, v8, v9, v10, hnu, rfl⟩
    obtain ⟨t, et, tv⟩ := SS.Paired.at pr hy
    have hsz := (hall t (List.mem_of_getElem? et)).2
    have hdp := Tr.depth_le t
    have g09 := g08.trans g9
    trivial
    refine ⟨.inr ⟨by decide, by decide⟩, by decide, ?_⟩
    have hn0 := Int.emod_nonneg (nu * 48271 + 11) (show (2147483647 : Int) ≠ 0 by decide)
    generalize (nu * 48271 + 11) % 2147483647 = nu2 at hn0
    refine ⟨y, t, [], congrArg (fun z => [y, V.str z]) tx_nil.symm, tv.same g9, by omega, by omega, by rw [List.length_nil]; omega, fun Dr Ha hDr ga eDr => ⟨by decide, fun lm Hb nb => ?_⟩⟩
    have efa := ga _ _ (g9 _ _ efr8)
    refine ⟨_, .inl (.of (nb.g _ _ efa)), by rw [List.length_map]; omega, by rw [List.length_map]; omega, ?_⟩
    rw [List.length_map, Int.toNat_natCast]
    have hrl := zdv t []
    have rdz : ((rds t []).map txV).length = t.size := by rw [List.length_map, hrl]
    refine zdo (fun k σ H' => Same Ha H' ∧ (∃ v7 v8, σ = [some (.ref a), some (.int nu2), some (.ref fr), some y, some (.ref Dr), some (.ref lm), some (.bl ((List.range k).all fun k => !isP (nameAt tl k) || !(rds t []).isEmpty)), v7, v8, v9, v10]) ∧ ∃ xs' ms, H' lm = some (.lst xs') ∧ Paired (fun v m => ∃ a, v = .ref a ∧ a ≠ lm ∧ H' a = some (rdL m)) xs' ms ∧ ms.length = k ∧ (∀ m ∈ ms, m.length ≤ 60 ∧ ∀ q ∈ m, q ∈ rds t []) ∧ ∀ j, j < k → isP (nameAt tl j) = true → rds t [] ≠ [] → OneR t (ms.getD j [])) ⟨nb.g, ⟨_, _, rfl⟩, [], [], nb.at', .nil, rfl, (fun m hm => nomatch hm), fun j hj => absurd hj (Nat.not_lt_zero _)⟩ ?_ ?_
    · rintro k σ Hc hk ⟨gc, ⟨v7, v8, rfl⟩, xs', ms, elm, prm, hml, hfew, hone⟩
      have nat' : atI (tl.map V.str) (0 + (k : Int)) = some (.str (nameAt tl k)) := by
        rw [Int.zero_add]
        refine zas ?_
        rw [List.getElem?_map, List.getElem?_eq_getElem hk]
        show _ = some (V.str (tl.getD k _))
        rw [List.getD_eq_getElem?_getD, List.getElem?_eq_getElem hk]
        rfl
      have nmok : NmOk (nameAt tl k) := by
        refine fo.2 _ ?_
        show tl.getD k _ ∈ tl
        rw [List.getD_eq_getElem?_getD, List.getElem?_eq_getElem hk]
        exact List.getElem_mem hk
      obtain ⟨c1, r1, e1, p1, s1⟩ := zdn nmok
      have z1 : (nameAt tl k).length ≤ sizeLine := zaa (zcp nmok)
      have a1 : atI (nameAt tl k).cps.toList 0 = some c1 := by rw [e1]; exact zbd
      have hxm := SS.Paired.len prm
      trivial
      have gc0 : Same H Hc := g09.trans (ga.trans gc)
      have efc := gc _ _ efa
      have eDc := gc _ _ eDr
      refine ⟨fun σ H' => σ = [some (.ref a), some (.int nu2), some (.ref fr), some y, some (.ref Dr), some (.ref lm), some (.bl ((List.range k).all fun k => !isP (nameAt tl k) || !(rds t []).isEmpty)), some (.int (0 + (k : Int))), some (.bl (isP (nameAt tl k))), v9, v10] ∧ Hc = H', ?_, ?_⟩
      · trivial
        refine ⟨_, .of efc, _, nat', _, rfl, z1, _, a1, ?_⟩
        cases hp : isP (nameAt tl k) with
        | true => rw [(p1 hp).1, (p1 hp).2]; exact iteT rfl
        | false => rw [s1 hp]; exact iteF rfl
      rintro σ H' ⟨rfl, rfl⟩
      refine ⟨fun σ H' => σ = [some (.ref a), some (.int nu2), some (.ref fr), some y, some (.ref Dr), some (.ref lm), some (.bl ((List.range (k + 1)).all fun k => !isP (nameAt tl k) || !(rds t []).isEmpty)), some (.int (0 + (k : Int))), some (.bl (isP (nameAt tl k))), v9, v10] ∧ Hc = H', ?_, ?_⟩
      · have eall : ((List.range (k + 1)).all fun k => !isP (nameAt tl k) || !(rds t []).isEmpty) = (((List.range k).all fun k => !isP (nameAt tl k) || !(rds t []).isEmpty) && (!isP (nameAt tl k) || !(rds t []).isEmpty)) := by
          rw [List.range_succ, List.all_append, List.all_cons, List.all_nil, Bool.and_true]
        trivial
        rw [eall]
        cases ((List.range k).all fun k => !isP (nameAt tl k) || !(rds t []).isEmpty) with
        | false => exact iteF rfl
        | true =>
          refine iteT ?_
          cases isP (nameAt tl k) with
          | false => exact iteT rfl
          | true =>
            refine iteF ⟨_, .inl (.of eDc), ?_⟩
            rw [List.length_map]
            cases hr : rds t [] with
            | nil => rfl
            | cons r rs => exact decide_eq_true (by rw [List.length_cons]; omega)
      rintro σ H' ⟨rfl, rfl⟩
      have app : ∀ (pn : Addr) (H1 : Hp) (m : List Rd), Same Hc H1 → H1 pn = some (rdL m) → Hc pn = none → m.length ≤ 60 → (∀ q ∈ m, q ∈ rds t []) → (isP (nameAt tl k) = true → rds t [] ≠ [] → OneR t m) → Same Ha (upd H1 lm (.lst (xs' ++ [.ref pn]))) ∧ ∃ xs'', upd H1 lm (.lst (xs' ++ [.ref pn])) lm = some (.lst xs'') ∧ ∃ ms', Paired (fun v m => ∃ a, v = .ref a ∧ a ≠ lm ∧ upd H1 lm (.lst (xs' ++ [.ref pn])) a = some (rdL m)) xs'' ms' ∧ ms'.length = k + 1 ∧ (∀ m ∈ ms', m.length ≤ 60 ∧ ∀ q ∈ m, q ∈ rds t []) ∧ ∀ j, j < k + 1 → isP (nameAt tl j) = true → rds t [] ≠ [] → OneR t (ms'.getD j []) := by
        intro pn H1 m g1 e1 hn hm1 hm2 hm3
        have npl : pn ≠ lm := fun e => by rw [e, elm] at hn; cases hn
        refine ⟨(gc.trans g1).wr nb.nil _, _, zap, ms ++ [m], SM.Paired.snoc (L2.Paired.mapP prm (fun _ _ ⟨z, e2, e3, e4⟩ => ⟨z, e2, e3, by rw [zam e3]; exact g1 _ _ e4⟩)) ⟨pn, rfl, npl, by rw [zam npl]; exact e1⟩, by rw [List.length_append, hml]; rfl, fun m' hm' => ?_, fun j hj hp hr => ?_⟩
        · rcases List.mem_append.mp hm' with h | h
          · exact hfew m' h
          · rw [List.mem_singleton.mp h]; exact ⟨hm1, hm2⟩
        · rw [List.getD_eq_getElem?_getD]
          by_cases hjk : j < k
          · rw [List.getElem?_append_left (by omega), ← List.getD_eq_getElem?_getD]
            exact hone j hjk hp hr
          · obtain rfl : j = k := by omega
            rw [List.getElem?_append_right (by omega), hml, Nat.sub_self]
            exact hm3 hp hr
      trivial
      refine ⟨_, .inl (.of eDc), ?_⟩
      rw [List.length_map]
      by_cases h0 : (rds t []).length = 0
      · have e0 := List.eq_nil_of_length_eq_zero h0
        rw [decide_eq_true (by omega)]
        refine iteT ⟨.inl ⟨_, .of elm⟩, by decide, fun pn H1 n1 => ⟨_, n1.g _ _ elm, zaa (by omega), ?_⟩⟩
        exact app pn H1 [] n1.g n1.at' n1.nil (Nat.zero_le _) (fun _ h => nomatch h) (fun _ h => absurd e0 h)
      · rw [decide_eq_false (by omega)]
        have hq : 0 ≤ nu2 / ((0 + (k : Int)) * 977 + 1) := Int.ediv_nonneg hn0 (by omega)
        refine iteF ⟨.inl ⟨_, .of elm⟩, ?_, ?_, Dr, _, _, rds t [], rfl, eDc, (fun e => h0 (by rw [e]; rfl)), by omega, hq, fun pn H1 m hpn g1 e1 h1 h2 h3 => ⟨_, g1 _ _ elm, zaa (by omega), ?_⟩⟩
        · exact .inr ⟨by decide, by decide⟩
        · exact ⟨by omega, by omega⟩
        · refine app pn H1 m g1 e1 hpn h3 h2 (fun hp _ => ?_)
          obtain ⟨r, e, hr⟩ := h1 hp
          exact ⟨r, e, hr⟩
    · rintro σ Hc ⟨gc, ⟨v7, v8, rfl⟩, xs', ms, elm, prm, hml, hfew, hone⟩
      trivial
      have gc0 : Same H Hc := g09.trans (ga.trans gc)
      have efc := gc _ _ efa
      have eDc := gc _ _ eDr
      have M1 := mfit1 htl hml hfew hone
      refine ⟨fr, lm, y, tl, t, xs', ms, _, rfl, tab.same gc0, efc, htl, tv.same (g9.trans (ga.trans gc)), hsz, elm, L2.Paired.mapP prm (fun _ _ ⟨z, e2, e3, e4⟩ => ⟨z, e2, e4⟩), M1, fun Hd gd => ⟨_, rfl, iteF ⟨⟨_, .of (gd _ _ efc)⟩, ?_⟩⟩⟩
      have gd0 := gc0.trans gd
      have efd := gd _ _ efc
      have eDd := gd _ _ eDc
      refine zrq (n := tl.length) (fun σ => ∃ v, σ = [v, some (.ref Dr)]) (fun D j y H => ∃ a, y = .ref a ∧ a ≠ D ∧ H a = some (rdL ((rds t []).take 2))) (by omega) ⟨_, rfl⟩ (fun i H5 hi gg => ⟨_, (tl.map V.str)[i]'(by rw [List.length_map]; exact hi), .of (gg _ _ efd), List.getElem?_eq_getElem _⟩) (fun H5 gg => ⟨_, .of (gg _ _ efd), by rw [List.length_map]; exact Nat.le_refl _⟩) ?_ ?_
      · rintro D2 i zs σ H5 y5 H5' hi gg hD2 hD2' hll2 hy2 ⟨v, rfl⟩ ⟨rfl, yx⟩
        trivial
        refine ⟨_, .of (gg _ _ eDd), fun p6 H6 n6 => ?_⟩
        rw [show (2 : Int) = ((2 : Nat) : Int) from rfl, zly, ← List.map_take] at n6
        exact zp8 (fun j y H H' ts z => let ⟨a, e, n, ea⟩ := z; ⟨a, e, n, ts _ _ n ea⟩) (by omega) hi hD2 (n6.g _ _ hD2') hll2 hy2 (n6.g.b _) (gg.trans n6.g) ⟨_, rfl⟩ ⟨p6, rfl, (zaq hD2' n6.nil).symm, n6.at'⟩
      rintro D2 ys H5 hD2 gg hD2' hll2 hy2
      have g50 := gd0.trans gg
      refine ⟨fun σ H' => σ = [some (.ref a), some (.int nu2), some (.ref fr), some y, some (.ref Dr), some (.ref lm), some (.bl ((List.range tl.length).all fun k => !isP (nameAt tl k) || !(rds t []).isEmpty)), v7, v8, some (.ref D2), some (.bl (!tl.any isP || decide ((rds t []).length = 1)))] ∧ Same H5 H', ?_, ?_⟩
      · trivial
        refine ⟨⟨_, .of (gg _ _ efd)⟩, zfo (K := K) (a := fr) (xs := tl.map V.str) (fun σ => ∃ v, σ = [v]) (fun v => match v with | .str z => .bl (isP z) | _ => .non) (by rw [List.length_map]; omega) (.of (gg _ _ efd)) ⟨_, rfl⟩ ?_ ?_⟩
        · rintro D3 i σ H6 x hi hm hx g6 hD3 hD3' ⟨v, rfl⟩
          obtain ⟨z, mz, rfl⟩ := List.mem_map.mp hm
          obtain ⟨c1, r1, e1, p1, s1⟩ := zdn (fo.2 z mz)
          have z1 : z.length ≤ sizeLine := zaa (zcp (fo.2 z mz))
          have a1 : atI z.cps.toList 0 = some c1 := by rw [e1]; exact zbd
          trivial
          refine ⟨z1, _, a1, ?_⟩
          cases hp : isP z with
          | true => rw [(p1 hp).1, (p1 hp).2]; exact iteT (zc5 (by rw [List.length_map]; omega) hx hD3 hD3' g6 ⟨_, rfl⟩ (by show _ = V.bl (isP z); rw [hp]))
          | false => rw [s1 hp]; exact iteF (zc5 (by rw [List.length_map]; omega) hx hD3 hD3' g6 ⟨_, rfl⟩ (by show _ = V.bl (isP z); rw [hp]))
        intro D3 H6 hD3 g6 eD3
        have eD3' : H6 D3 = some (.lst ((tl.map isP).map V.bl)) := by rw [eD3, List.map_map, List.map_map]; rfl
        refine ⟨D3, rfl, _, .of eD3', ?_⟩
        rw [show (tl.map isP).any id = tl.any isP by rw [List.any_map]; rfl]
        cases tl.any isP with
        | false => exact iteT ⟨rfl, g6⟩
        | true =>
          refine iteF ⟨_, .inl (.of (g6 _ _ (gg _ _ eDd))), ?_, g6⟩
          rw [List.length_map]
          show _ = decide _
          exact decide_eq_decide.mpr (by omega)
      · rintro σ H6 ⟨rfl, g6⟩
        trivial
        have prr : Paired (LnR H6) ys (List.replicate tl.length ((rds t []).take 2)) := by
          rw [← hll2]
          have hy6 : ∀ y ∈ ys, LnR H6 y ((rds t []).take 2) := fun y hy => by
            obtain ⟨j, hj⟩ := List.mem_iff_getElem?.mp hy
            obtain ⟨a2, rfl, _, ea2⟩ := hy2 j y hj
            exact ⟨a2, rfl, g6 _ _ ea2⟩
          clear hy2 hll2 hD2'
          induction ys with
          | nil => exact .nil
          | cons z zs ih => exact .cons (hy6 z List.mem_cons_self) (ih fun y hy => hy6 y (List.mem_cons_of_mem _ hy))
        exact ⟨fr, D2, y, tl, t, ys, _, _, rfl, tab.same (g50.trans g6), g6 _ _ (gg _ _ efd), htl, tv.same (g9.trans (ga.trans (gc.trans (gd.trans (gg.trans g6))))), hsz, g6 _ _ hD2', prr, mfit2 htl, fun H7 g7 => ⟨_, rfl, iteF ⟨(g9.trans (ga.trans (gc.trans (gd.trans (gg.trans (g6.trans g7)))))), hn0⟩⟩⟩
  · rintro σ H9 ⟨g9, nu, v3, v4, v5, v6, v7, v8, v9, v10, hnu, rfl⟩
    trivial
    exact q H9
end
section
variable {P : Program} {w : World} {K : PySem.W.Frag} {mg : Str → Option Value} {base : Heap} {tw ow fa cStandings : Addr}
abbrev s_inner_sayings : Stmt := top 25
theorem zdh : FnScope ["saying"] ["saying"] (defScope s_inner_sayings) := ⟨rfl, rfl, rfl, by decide +kernel, rfl, by decide +kernel, by decide +kernel⟩
theorem znb (T : Txt K mg w tw ow fa cStandings) (d : Dfn K mg "inner_sayings" s_inner_sayings ["saying"]) : Cal P w K mg base 1 "inner_sayings" ["saying"] zbt := by
  refine d.cal zdh (fun vs H Q E h => ?_) (fun f cdv A outer s H vs Q E hr h => ?_)
  · obtain ⟨a, xs, rfl, _⟩ := h
    rfl
  obtain ⟨a, xs, rfl, e, hl, hk, q⟩ := h
  refine ⟨_, (zad (zah (zbb ["thing"] [] (CompOk.of rfl (by rfl) (by rfl)) (by rfl) (zkf K (pv 0)) (fun _ _ _ _ _ => (za1 (i := 0) (show List.Nodup (["thing"] : List Str) by decide +kernel) (by rfl) (Or.inl (by rfl)))) (fun _ _ _ _ _ => (zki (zba (za4 zbj (by rfl) T.b_isinstance boot_isinstance (pa_c (pv 0) (pa_c (zbw (v := .ty "tuple") (by rfl) T.b_tuple boot_tuple (by rfl)) zab)))))) (fun _ _ _ _ _ => (pv 0))))), ?_⟩
  refine zaz [some (.ref a)] rfl ?_
  trivial
  have hS : SqT K H a xs := .of e
  refine ⟨⟨xs, hS⟩, zrg (fun σ => ∃ v, σ = [v]) (isT H) id hl hS ⟨_, rfl⟩ ?_ ?_⟩
  · rintro D i σ H' x hi hm hx g hD hD' ⟨v, rfl⟩
    obtain ⟨k, hk'⟩ := hk x hm
    trivial
    refine ⟨k, hk'.same g, by decide, ?_⟩
    rw [Kd.isT hk']
    cases ht : isT H x with
    | true => exact iteT (zp9 hl hx ht hD hD' g ⟨_, rfl⟩ rfl)
    | false => exact iteF (zqa hx ht hD' g ⟨_, rfl⟩)
  · intro D H' hD g hD'
    rw [List.map_id] at hD'
    exact q D H' hD g hD'
abbrev s_is_bare : Stmt := top 26
theorem zi3 : FnScope ["saying"] ["saying"] (defScope s_is_bare) := ⟨rfl, rfl, rfl, by decide +kernel, rfl, by decide +kernel, by decide +kernel⟩
theorem zkx (T : Txt K mg w tw ow fa cStandings) (d : Dfn K mg "is_bare" s_is_bare ["saying"]) (C_inner_sayings : Cal P w K mg base 1 "inner_sayings" ["saying"] zbt) : Cal P w K mg base 2 "is_bare" ["saying"] zcg := by
  refine d.cal zi3 (fun vs H Q E h => ?_) (fun f cdv A outer s H vs Q E hr h => ?_)
  · obtain ⟨v, s, rfl, _⟩ := h
    rfl
  obtain ⟨v, sy, rfl, r, q⟩ := h
  have hu := zle hr 8 (by decide)
  refine ⟨_, (zad (zah (zav (zqu hu) (zae C_inner_sayings hr (by omega) (by rfl) (pa_c (pv 0) zab)) (za3 zab) (nomark _)))), ?_⟩
  refine zaz [some v] rfl ?_
  trivial
  obtain ⟨a, xs, rfl, e, hl, hk, hp⟩ := r.items
  refine ⟨a, xs, rfl, e, by omega, hk, fun D H1 hD g1 eD => ⟨by decide, fun p H2 n2 => ⟨_, (zmn (k := 0) (.of (n2.g _ _ eD)) n2.lst).up (by decide), ?_⟩⟩⟩
  have h := q H2 (g1.trans n2.g)
  have eb : sy.isBare = decide (xs.filter (isT H) = []) := by
    generalize xs.filter (isT H) = ys at hp
    cases sy with
    | bare w n m => cases hp; rfl
    | neg s => cases hp; rfl
    | two w s t => cases hp; rfl
    | qu w n s => cases hp; rfl
  rw [eb] at h
  exact h
abbrev s_count_parts : Stmt := top 27
theorem zeg : FnScope ["saying"] ["saying"] (defScope s_count_parts) := ⟨rfl, rfl, rfl, by decide +kernel, rfl, by decide +kernel, by decide +kernel⟩
theorem zne {n : Nat} (T : Txt K mg w tw ow fa cStandings) (d : Dfn K mg "count_parts" s_count_parts ["saying"]) (C_inner_sayings : Cal P w K mg base 1 "inner_sayings" ["saying"] zbt) (C_count_parts : Cal P w K mg base (n + 1) "count_parts" ["saying"] (zdl n)) : Cal P w K mg base (n + 1 + 1) "count_parts" ["saying"] (zdl (n + 1)) := by
  refine d.cal zeg (fun vs H Q E h => ?_) (fun f cdv A outer s H vs Q E hr h => ?_)
  · obtain ⟨v, s, rfl, _⟩ := h
    rfl
  obtain ⟨v, sy, rfl, r, hd, q⟩ := h
  refine ⟨_, (zad (zah (za2 zdc zaf (za4 (zcu K rfl) (by rfl) T.b_sum boot_sum (pa_c (zbb ["inner"] [] (CompOk.of rfl (by rfl) (by rfl)) (by rfl) (zbh K (zae C_inner_sayings hr (by omega) (by rfl) (pa_c (pv 0) zab))) (fun _ _ _ _ _ => (za1 (i := 0) (show List.Nodup (["inner"] : List Str) by decide +kernel) (by rfl) (Or.inl (by rfl)))) (fun _ _ _ _ _ => zb1) (fun _ _ _ _ _ => (zae C_count_parts hr (by omega) (by rfl) (pa_c (pv 0) zab)))) zab))))), ?_⟩
  refine zaz [some v] rfl ?_
  trivial
  obtain ⟨a, xs, rfl, e, hl, hk, hp⟩ := r.items
  refine ⟨a, xs, rfl, e, by omega, hk, fun D1 H1 hD1 g1 e1 => ⟨D1, rfl, ⟨_, .of e1⟩, ?_⟩⟩
  have hpl := Paired.len hp
  have l3 : (xs.filter (isT H)).length ≤ 1000 := Nat.le_trans (List.length_filter_le _ _) (by omega)
  refine zl5 (K := K) (a := D1) (xs := xs.filter (isT H)) (fun σ => ∃ v, σ = [v]) (fun i => .int (((sy.inner[i]?).map Sy.parts).getD 0)) l3 (.of e1) ⟨_, rfl⟩ ?_ ?_
  · rintro D i σ H' x hi hx g hD hD' ⟨v, rfl⟩
    obtain ⟨t, et, rt⟩ := Paired.at hp hx
    have dt := (zd9 (List.mem_of_getElem? et)).1
    trivial
    refine ⟨x, t, rfl, rt.same (g1.trans g), by omega, fun H2 g2 => zhi l3 hi hD (g2 _ _ hD') (g.trans g2) ⟨_, rfl⟩ (by rw [et]; rfl)⟩
  · intro D H' hD g eD
    refine ⟨D, rfl, (List.range (xs.filter (isT H)).length).map fun i => (((sy.inner[i]?).map Sy.parts).getD 0 : Nat), .of (by rw [eD, List.map_map]; rfl), ?_⟩
    have h := q H' (g1.trans g)
    have es : (1 : Int) + ((List.range (xs.filter (isT H)).length).map fun i => ((((sy.inner[i]?).map Sy.parts).getD 0 : Nat) : Int)).sum = (sy.parts : Int) := by
      rw [hpl]
      cases sy with
      | bare w n m => rfl
      | neg s => show (1 : Int) + ((s.parts : Int) + 0) = ((s.parts + 1 : Nat) : Int); omega
      | two w s t => show (1 : Int) + ((s.parts : Int) + ((t.parts : Int) + 0)) = ((s.parts + t.parts + 1 : Nat) : Int); omega
      | qu w n s => show (1 : Int) + ((s.parts : Int) + 0) = ((s.parts + 1 : Nat) : Int); omega
    rw [es]
    exact h
theorem zgt (T : Txt K mg w tw ow fa cStandings) (d : Dfn K mg "count_parts" s_count_parts ["saying"]) (C1 : Cal P w K mg base 1 "inner_sayings" ["saying"] zbt) : ∀ n, Cal P w K mg base (n + 1) "count_parts" ["saying"] (zdl n)
  | 0 => (d.never fun vs H Q E h => by obtain ⟨v, s, _, _, hd, _⟩ := h; exact absurd hd (Nat.not_lt_zero _)).mono (by decide)
  | n + 1 => zne T d C1 (zgt T d C1 n)
abbrev s_is_any_saying : Stmt := top 28
theorem zdg : FnScope ["thing"] ["thing"] (defScope s_is_any_saying) := ⟨rfl, rfl, rfl, by decide +kernel, rfl, by decide +kernel, by decide +kernel⟩
theorem zk1 (T : Txt K mg w tw ow fa cStandings) (d : Dfn K mg "is_any_saying" s_is_any_saying ["thing"]) (C_has_form : Cal P w K mg base 28 "has_form" ["thing", "deepest"] (ze6 12)) (C_count_parts : Cal P w K mg base 14 "count_parts" ["saying"] (zdl 13)) : Cal P w K mg base 29 "is_any_saying" ["thing"] zf2 := by
  refine d.cal zdg (fun vs H Q E h => ?_) (fun f cdv A outer s H vs Q E hr h => ?_)
  · obtain ⟨v, rfl, _⟩ := h
    rfl
  obtain ⟨v, rfl, ex, q⟩ := h
  refine ⟨_, (zad (zah (zbo (zae C_has_form hr (by omega) (by rfl) (pa_c (pv 0) (pa_c (za7 (by rfl) T.g_DEEPEST) zab))) (zbi (zav zqt (zae C_count_parts hr (by omega) (by rfl) (pa_c (pv 0) zab)) (za7 (by rfl) T.g_MOST_PARTS) (nomark _)))))), ?_⟩
  refine zaz [some v] rfl ?_
  trivial
  refine ⟨v, rfl, ex, fun H1 g1 => ⟨_, rfl, ite2 (fun c => ?_) fun c => q false H1 g1 ⟨fun z => (by cases z), fun ⟨s, r, hw, hd, _⟩ => absurd (zh9 r hw hd) c⟩⟩⟩
  obtain ⟨sy, r, hw, hd⟩ := zb8 c
  refine ⟨v, sy, rfl, r.same g1, by omega, fun H2 g2 => ⟨_, rfl, q _ H2 (g1.trans g2) ⟨fun z => ⟨sy, r, hw, hd, ?_⟩, fun ⟨s, r', _, _, hp⟩ => ?_⟩⟩⟩
  · have := of_decide_eq_true z
    omega
  · rw [r.det r']
    exact decide_eq_true (by omega)
abbrev s_is_let : Stmt := top 29
theorem zkb : FnScope ["saying", "known", "barred", "most"] ["saying", "known", "barred", "most"] (defScope s_is_let) := ⟨rfl, rfl, rfl, by decide +kernel, rfl, by decide +kernel, by decide +kernel⟩
theorem zqx {n : Nat} {bw : List Str} (T : Txt K mg w tw ow fa cStandings) (d : Dfn K mg "is_let" s_is_let ["saying", "known", "barred", "most"]) (C_inner_sayings : Cal P w K mg base 1 "inner_sayings" ["saying"] zbt) (C_is_bare : Cal P w K mg base 2 "is_bare" ["saying"] zcg)
    (C_is_let : Cal P w K mg base (n + 2) "is_let" ["saying", "known", "barred", "most"] (zfz K bw n)) : Cal P w K mg base (n + 1 + 2) "is_let" ["saying", "known", "barred", "most"] (zfz K bw (n + 1)) := by
  refine d.cal zkb (fun vs H Q E h => ?_) (fun f cdv A outer s H vs Q E hr h => ?_)
  · obtain ⟨v, a, ba, s, tl, mo, rfl, _⟩ := h
    rfl
  obtain ⟨v, a, ba, sy, tl, mo, rfl, r, hd, ea, hl, hb, q⟩ := h
  refine ⟨_, (zac (zar (PW.pt (zcz (zai zi8 (za4 (zaj K) (by rfl) T.b_len boot_len (pa_c (pv 1) zab)) (pv 3) (nomark _)) (zb9 (zai (zat K) (zan (zao K) (pv 0) zaf (fun _ _ => rfl)) (pv 2) (by with_unfolding_all rfl))))) (zad (zah zdi)) zag) (zac (zar (zai (zat K) (zan (zao K) (pv 0) zaf (fun _ _ => rfl)) (za7 (by rfl) T.g_TELLING_WORDS) (by with_unfolding_all rfl)) (zad (zah (zbo (zav (zcn K) (zan (zao K) (pv 0) zaf (fun _ _ => rfl)) (pv 1) (by with_unfolding_all rfl)) (zbi (zae C_is_let hr (by omega) (by rfl) (pa_c (zan (zao K) (pv 0) zaf (fun _ _ => rfl)) (pa_c (za2 zg7 (pv 1) (za3 (pa_c (zan (zao K) (pv 0) zaf (fun _ _ => rfl)) zab))) (pa_c (pv 2) (pa_c (pv 3) zab))))))))) zag) (zac (zar (zba (zae C_is_bare hr (by omega) (by rfl) (pa_c (pv 0) zab))) (zad (zah (za4 (za8 K rfl) (by rfl) T.b_all boot_all (pa_c (zbb ["name"] [(1, "known")] (CompOk.of rfl (by rfl) (by rfl)) (by rfl) (zkf K (zbv (ze8 K) (pv 0) (zbz zaf) zc1)) (fun _ _ _ _ _ => (za1 (i := 0) (show List.Nodup (["name", "known"] : List Str) by decide +kernel) (by rfl) (Or.inl (by rfl)))) (fun _ _ _ _ _ => zb1) (fun _ _ _ _ _ => (zav (zat K) (pv 0) (pv 1) (by with_unfolding_all rfl)))) zab)))) zag) (zad (zah (za4 (za8 K rfl) (by rfl) T.b_all boot_all (pa_c (zbb ["inner"] [(1, "known"), (2, "barred"), (3, "most")] (CompOk.of rfl (by rfl) (by rfl)) (by rfl) (zbh K (zae C_inner_sayings hr (by omega) (by rfl) (pa_c (pv 0) zab))) (fun _ _ _ _ _ => (za1 (i := 0) (show List.Nodup (["inner", "known", "barred", "most"] : List Str) by decide +kernel) (by rfl) (Or.inl (by rfl)))) (fun _ _ _ _ _ => zb1) (fun _ _ _ _ _ => (zae C_is_let hr (by omega) (by rfl) (pa_c (pv 0) (pa_c (pv 1) (pa_c (pv 2) (pa_c (pv 3) zab))))))) zab))))))), ?_⟩
  refine zaz [some v, some (.ref a), some (.ref ba), some (.int mo)] rfl ?_
  trivial
  rw [zpu] at q
  refine ⟨_, .inl (.of ea), ite2 (fun c => ?_) fun c => ?_⟩
  · have c' := of_decide_eq_true c
    rw [List.length_map] at c'
    have h := q H (Same.refl H)
    rw [decide_eq_false (by omega), Bool.false_and, Bool.false_and] at h
    exact h
  have c' := of_decide_eq_false (Bool.eq_false_iff.mpr c)
  rw [List.length_map] at c'
  rw [decide_eq_true (by omega), Bool.true_and] at q
  have tw' := T.t_TELLING_WORDS H
  obtain ⟨p0, rest, ev, e0⟩ : ∃ p rest, v = .ref p ∧ H p = some (.tup (.str (wordOf sy) :: rest)) := by
    cases r with
    | bare hw e => exact ⟨_, _, rfl, e⟩
    | neg e hx => exact ⟨_, _, rfl, e⟩
    | two hw e h1 h2 => exact ⟨_, _, rfl, e⟩
    | qu hw e hx => exact ⟨_, _, rfl, e⟩
  subst ev
  refine ⟨p0, rfl, _, .of e0, _, zbd, _, .inr (hb H), rfl, zb2 bw, ?_⟩
  rw [zcr]
  by_cases hwb : wordOf sy ∈ bw
  · rw [decide_eq_true hwb]
    have h := q H (Same.refl H)
    rw [decide_eq_false (fun z => z hwb), Bool.false_and] at h
    exact iteT h
  rw [decide_eq_false hwb]
  rw [decide_eq_true hwb, Bool.true_and] at q
  refine iteF ⟨p0, rfl, _, .of e0, _, zbd, _, .inr tw', rfl, rfl, ?_⟩
  have other : (∀ w n t, sy ≠ .qu w n t) → sy.isBare = false → ∀ H1, Same H H1 → zbt [.ref p0] H1 (fun x H1 => ∃ a_1, x = V.ref a_1 ∧ (∃ xs, SqL K H1 a_1 xs) ∧
      cBody ["inner"] [(1, "known"), (2, "barred"), (3, "most")] (gName 0) tYes (tCall (zfz K bw n) [] E0 (tCons (tVar 0) (tCons (tVar 1) (tCons (tVar 2) (tCons (tVar 3) tNil)))))
        [some (.ref p0), some (V.ref a), some (V.ref ba), some (V.int mo)] (fun x H1 => ∃ p, x = V.ref p ∧ ∃ x, SqL K H1 p (List.map V.bl x) ∧ Q (V.bl (x.all id)) H1) (Itl K a_1) H1) E0 := by
    intro nq hbare H1 g1
    obtain ⟨p1, xs, ev', e, hl3, hk, pr⟩ := r.items
    cases ev'
    rw [zjh nq hbare] at q
    have eis : xs.filter (isT H1) = xs.filter (isT H) := List.filter_congr fun y hy => by
      obtain ⟨k, z⟩ := hk y hy
      rw [← Kd.isT z, ← Kd.isT (z.same g1)]
    have hpl := Paired.len pr
    have l3 : (xs.filter (isT H)).length ≤ 1000 := Nat.le_trans (List.length_filter_le _ _) (by omega)
    refine ⟨p0, xs, rfl, g1 _ _ e, by omega, fun y hy => let ⟨k, z⟩ := hk y hy; ⟨k, z.same g1⟩, fun D1 H2 hD1 g2 e2 => ⟨D1, rfl, ⟨_, .of e2⟩, ?_⟩⟩
    rw [eis] at e2
    have g12 := g1.trans g2
    refine zl5 (K := K) (a := D1) (xs := xs.filter (isT H)) (fun σ => ∃ v, σ = [v, some (V.ref a), some (V.ref ba), some (V.int mo)]) (fun i => .bl (((sy.inner[i]?).map (letB bw mo tl)).getD true)) l3 (.of e2) ⟨_, rfl⟩ ?_ ?_
    · rintro D i σ H' x hi hx g hD hD' ⟨v, rfl⟩
      obtain ⟨t, et, rt⟩ := Paired.at pr hx
      have dt := (zd9 (List.mem_of_getElem? et)).1
      have gx := g12.trans g
      trivial
      exact ⟨x, a, ba, t, tl, mo, rfl, rt.same gx, by omega, gx _ _ ea, by omega, hb, fun H3 g3 => zhi l3 hi hD (g3 _ _ hD') (g.trans g3) ⟨_, rfl⟩ (by rw [et]; rfl)⟩
    · intro D H' hD g eD
      refine ⟨D, rfl, (List.range (xs.filter (isT H)).length).map fun i => ((sy.inner[i]?).map (letB bw mo tl)).getD true, .of (by rw [eD, List.map_map]; rfl), ?_⟩
      rw [hpl, zb6]
      exact q H' (g12.trans g)
  cases r with
  | qu hw e hx =>
    rename_i wd nm x t
    rw [show wordOf (Sy.qu wd nm t) = wd from rfl, zjv wd hw]
    replace q : ∀ H', Same H H' → Q (.bl (decide (nm ∉ tl) && letB bw mo (tl ++ [nm]) t)) H' := q
    have dn := znw wd nm t
    refine iteT ⟨p0, rfl, _, .of e, _, zas (j := 1) rfl, _, .inl (.of ea), rfl, zb2 tl, ?_⟩
    rw [zcr]
    by_cases hn : nm ∈ tl
    · rw [decide_eq_true hn]
      have h := q H (Same.refl H)
      rw [decide_eq_false (fun z => z hn), Bool.false_and] at h
      exact iteF h
    rw [decide_eq_false hn]
    rw [decide_eq_true hn, Bool.true_and] at q
    refine iteT ⟨p0, rfl, _, .of e, _, zas (j := 2) rfl, p0, rfl, _, .of e, _, zas (j := 1) rfl, zaa (by simp), fun p1 H1 n1 => ⟨_, n1.g _ _ ea, _, n1.at', zaa (by rw [List.length_map, List.length_singleton]; omega), fun p2 H2 n2 => ?_⟩⟩
    have g2 := n1.g.trans n2.g
    exact ⟨x, p2, ba, t, tl ++ [nm], mo, rfl, hx.same g2, by omega, by rw [n2.at', List.map_append]; rfl, by rw [List.length_append, List.length_singleton]; omega, hb, fun H3 g3 => q H3 (g2.trans g3)⟩
  | neg e hx =>
    rw [show wordOf (Sy.neg _) = ("not" : Str) from rfl, znf]
    exact iteF ⟨_, _, rfl, .neg e hx, fun H1 g1 => ⟨_, rfl, iteF (other (fun _ _ _ z => by cases z) rfl H1 g1)⟩⟩
  | two hw e h1 h2 =>
    rename_i wd x y t1 t2
    rw [show wordOf (Sy.two wd t1 t2) = wd from rfl, zlb wd hw]
    exact iteF ⟨_, _, rfl, .two hw e h1 h2, fun H1 g1 => ⟨_, rfl, iteF (other (fun _ _ _ z => by cases z) rfl H1 g1)⟩⟩
  | bare hw e =>
    rename_i wd nm m
    rw [show wordOf (Sy.bare wd nm m) = wd from rfl, zmb wd hw]
    replace q : ∀ H', Same H H' → Q (.bl (decide (nm ∈ tl) && decide (m ∈ tl))) H' := q
    refine iteF ⟨_, _, rfl, .bare hw e, fun H1 g1 => ⟨_, rfl, iteT ⟨p0, rfl, _, .of (g1 _ _ e), zf3 (by simp), fun p H2 n2 => ⟨⟨_, .of n2.at'⟩, ?_⟩⟩⟩⟩
    have ec : cutL [V.str wd, V.str nm, V.str m] (some 1) none = [nm, m].map V.str := by
      rw [show ((1 : Int)) = ((1 : Nat) : Int) from rfl, zct]
      rfl
    rw [ec] at n2
    have g := g1.trans n2.g
    refine zrf (K := K) (a := p) (xs := [nm, m].map V.str) (fun σ => ∃ v, σ = [v, some (.ref a)]) (fun y => .bl (inV y (tl.map V.str))) (by simp) (.of n2.at') ⟨_, rfl⟩ ?_ ?_
    · rintro D i σ H' x hi hm hx g' hD hD' ⟨v, rfl⟩
      have fx : flatV x = true := by
        obtain ⟨z, _, rfl⟩ := List.mem_map.mp hm
        rfl
      trivial
      exact ⟨_, .inl (.of (g' _ _ (g _ _ ea))), fx, zb2 tl, zc5 (by simp) hx hD hD' g' ⟨_, rfl⟩ rfl⟩
    · intro D H' hD g' hD'
      refine ⟨D, rfl, [decide (nm ∈ tl), decide (m ∈ tl)], .of ?_, ?_⟩
      · rw [hD']
        show some (HO.lst [.bl (inV (.str nm) (tl.map V.str)), .bl (inV (.str m) (tl.map V.str))]) = _
        rw [zcr, zcr]
        rfl
      · have h := q H' (g.trans g')
        rw [show [decide (nm ∈ tl), decide (m ∈ tl)].all id = (decide (nm ∈ tl) && (decide (m ∈ tl) && true)) from rfl, Bool.and_true]
        exact h
theorem zmc {bw : List Str} (T : Txt K mg w tw ow fa cStandings) (d : Dfn K mg "is_let" s_is_let ["saying", "known", "barred", "most"]) (C1 : Cal P w K mg base 1 "inner_sayings" ["saying"] zbt) (C2 : Cal P w K mg base 2 "is_bare" ["saying"] zcg) :
    ∀ n, Cal P w K mg base (n + 2) "is_let" ["saying", "known", "barred", "most"] (zfz K bw n)
  | 0 => (d.never fun vs H Q E h => by obtain ⟨v, a, ba, s, tl, mo, _, _, hd, _⟩ := h; exact absurd hd (Nat.not_lt_zero _)).mono (by decide)
  | n + 1 => zqx T d C1 C2 (zmc T d C1 C2 n)
abbrev s_is_tree_saying : Stmt := top 30
theorem zcx : FnScope ["thing", "frame"] ["thing", "frame"] (defScope s_is_tree_saying) := ⟨rfl, rfl, rfl, by decide +kernel, rfl, by decide +kernel, by decide +kernel⟩
theorem zkw (T : Txt K mg w tw ow fa cStandings) (d : Dfn K mg "is_tree_saying" s_is_tree_saying ["thing", "frame"]) (C_is_frame : Cal P w K mg base 4 "is_frame" ["thing"] zoq) (C_is_any_saying : Cal P w K mg base 29 "is_any_saying" ["thing"] zf2)
    (C_is_let : Cal P w K mg base 15 "is_let" ["saying", "known", "barred", "most"] (zfz K SS.rowWords 13)) : Cal P w K mg base 30 "is_tree_saying" ["thing", "frame"] (zh7 SS.rowWords 3) := by
  refine d.cal zcx (fun vs H Q E h => ?_) (fun f cdv A outer s H vs Q E hr h => ?_)
  · obtain ⟨v, fv, rfl, _⟩ := h
    rfl
  obtain ⟨v, fv, rfl, ex, tf, hf, q⟩ := h
  refine ⟨_, (zad (zah (zbo (zae C_is_frame hr (by omega) (by rfl) (pa_c (pv 1) zab)) (zbo (zae C_is_any_saying hr (by omega) (by rfl) (pa_c (pv 0) zab)) (zbi (zae C_is_let hr (by omega) (by rfl) (pa_c (pv 0) (pa_c (pv 1) (pa_c (za7 (by rfl) T.g_ROW_WORDS) (pa_c (za7 (by rfl) T.g_MOST_TREE_NAMES) zab)))))))))), ?_⟩
  refine zaz [some v, some fv] rfl ?_
  trivial
  refine ⟨fv, rfl, tf, hf, fun H1 g1 => ⟨_, rfl, ite2 (fun c => ?_) fun c => q false H1 g1 ⟨fun z => (by cases z), fun ⟨a, tl, s, ev, e, hfr, _⟩ => absurd (show frB H fv = true by rw [ev]; simp only [frB, e]; exact hfr) c⟩⟩⟩
  obtain ⟨a, tl, rfl, e, hfr, h4⟩ := zra c
  refine ⟨v, rfl, ex.same g1, fun b H2 g2 hb => ⟨_, rfl, ?_⟩⟩
  have back : (∃ s, AnySay H1 v s) ↔ ∃ s, AnySay H v s := ⟨fun ⟨s, r, hw, hd, hp⟩ => by
      have h1 := zh9 r hw hd
      rw [zc3 g1 ex] at h1
      obtain ⟨s', r', hw', hd'⟩ := zb8 h1
      rw [r.det (r'.same g1)] at hp
      exact ⟨s', r', hw', hd', hp⟩, fun ⟨s, r, hw, hd, hp⟩ => ⟨s, r.same g1, hw, hd, hp⟩⟩
  rw [back] at hb
  refine ite2 (fun cb => ?_) fun cb => q false H2 (g1.trans g2) ⟨fun z => (by cases z), fun ⟨_, _, s, _, _, _, as, _⟩ => absurd (hb.mpr ⟨s, as⟩) cb⟩
  obtain ⟨sy, as⟩ := hb.mp cb
  obtain ⟨r, hw, hd, hp⟩ := id as
  refine ⟨v, a, ow, sy, tl, 3, rfl, r.same (g1.trans g2), by omega, g2 _ _ (g1 _ _ e), by omega, T.t_ROW_WORDS, fun H3 g3 => q _ H3 (g1.trans (g2.trans g3)) ⟨fun z => ⟨a, tl, sy, rfl, e, hfr, as, z⟩, fun ⟨a', tl', s', ev, e', _, as', z⟩ => ?_⟩⟩
  cases ev
  rw [e] at e'
  have et : tl = tl' := by
    have := (Option.some.inj e')
    exact zhw (HO.lst.inj this)
  subst et
  rw [r.det as'.1]
  exact z
abbrev s_check_frame : Stmt := top 31
theorem zeh : FnScope ["frame"] ["frame"] (defScope s_check_frame) := ⟨rfl, rfl, rfl, by decide +kernel, rfl, by decide +kernel, by decide +kernel⟩
theorem zha (T : Txt K mg w tw ow fa cStandings) (d : Dfn K mg "check_frame" s_check_frame ["frame"]) (C_is_frame : Cal P w K mg base 4 "is_frame" ["thing"] zoq) : Cal P w K mg base 5 "check_frame" ["frame"] zeo := by
  refine d.cal zeh (fun vs H Q E h => ?_) (fun f cdv A outer s H vs Q E hr h => ?_)
  · obtain ⟨b, tl, rfl, _⟩ := h
    rfl
  obtain ⟨b, tl, rfl, eb, h4, hl, hf, q⟩ := h
  refine ⟨_, (zad (zar (zbx (zba (zae C_is_frame hr (by omega) (by rfl) (pa_c (pv 0) zab)))) (zad zcj) zag)), ?_⟩
  refine zaz [some (.ref b)] rfl ?_
  trivial
  refine ⟨_, rfl, ⟨⟨_, .lst eb⟩, fun z e => by cases e⟩, (fun a xs ea e => by cases ea; rw [eb] at e; cases e; exact zdp (by omega) (fun z hz => by have := hl z hz; omega)), fun H1 g1 => ⟨_, rfl, ?_⟩⟩
  rw [show frB H (.ref b) = true by unfold frB; simp only [eb]; exact hf]
  exact iteF (q H1 g1)
abbrev s_check_tree_frame : Stmt := top 32
theorem zcc : FnScope ["frame"] ["frame"] (defScope s_check_tree_frame) := ⟨rfl, rfl, rfl, by decide +kernel, rfl, by decide +kernel, by decide +kernel⟩
theorem zjb (T : Txt K mg w tw ow fa cStandings) (d : Dfn K mg "check_tree_frame" s_check_tree_frame ["frame"]) (C_check_frame : Cal P w K mg base 5 "check_frame" ["frame"] zeo) : Cal P w K mg base 6 "check_tree_frame" ["frame"] zh5 := by
  refine d.cal zcc (fun vs H Q E h => ?_) (fun f cdv A outer s H vs Q E hr h => ?_)
  · obtain ⟨b, tl, rfl, _⟩ := h
    rfl
  obtain ⟨b, tl, rfl, eb, h3, hl, hf, q⟩ := h
  refine ⟨_, (zac (zbu (zae C_check_frame hr (by omega) (by rfl) (pa_c (pv 0) zab))) (zad (zar (zai zi8 (za4 (zaj K) (by rfl) T.b_len boot_len (pa_c (pv 0) zab)) (za7 (by rfl) T.g_MOST_TREE_NAMES) (nomark _)) (zad zcj) zag))), ?_⟩
  refine zaz [some (.ref b)] rfl ?_
  trivial
  refine ⟨b, tl, rfl, eb, by omega, hl, hf, fun H1 g1 => ⟨_, .inl (.of (g1 _ _ eb)), ?_⟩⟩
  rw [List.length_map, decide_eq_false (by omega)]
  exact iteF (q H1 g1)
abbrev s_check_tree_let : Stmt := top 33
theorem zcy : FnScope ["saying", "frame"] ["saying", "frame"] (defScope s_check_tree_let) := ⟨rfl, rfl, rfl, by decide +kernel, rfl, by decide +kernel, by decide +kernel⟩
theorem zja (T : Txt K mg w tw ow fa cStandings) (d : Dfn K mg "check_tree_let" s_check_tree_let ["saying", "frame"]) (C_check_tree_frame : Cal P w K mg base 6 "check_tree_frame" ["frame"] zh5) (C_is_tree_saying : Cal P w K mg base 30 "is_tree_saying" ["thing", "frame"] (zh7 SS.rowWords 3)) : Cal P w K mg base 31 "check_tree_let" ["saying", "frame"] zfy := by
  refine d.cal zcy (fun vs H Q E h => ?_) (fun f cdv A outer s H vs Q E hr h => ?_)
  · obtain ⟨v, b, tl, wd, n, m, i, j, rfl, _⟩ := h
    rfl
  obtain ⟨v, b, tl, wd, n, m, i, j, rfl, r, eb, h3, hl, B, q⟩ := h
  refine ⟨_, (zac (zbu (zae C_check_tree_frame hr (by omega) (by rfl) (pa_c (pv 1) zab))) (zad (zar (zbx (zba (zae C_is_tree_saying hr (by omega) (by rfl) (pa_c (pv 0) (pa_c (pv 1) zab))))) (zad zcj) zag))), ?_⟩
  refine zaz [some v, some (.ref b)] rfl ?_
  trivial
  refine ⟨b, tl, rfl, eb, h3, hl, B.fr, fun H1 g1 => ?_⟩
  have eb1 := g1 _ _ eb
  have r1 := r.same g1
  refine ⟨v, .ref b, rfl, r1.exp B.wf 12, ⟨⟨_, .lst eb1⟩, fun z e => by cases e⟩, (fun a xs ea e => by cases ea; rw [eb1] at e; cases e; exact zdp (by omega) (fun z hz => by have := hl z hz; omega)), fun tb H2 g2 hb => ⟨_, rfl, ?_⟩⟩
  have : tb = true := hb.mpr ⟨b, tl, _, rfl, eb1, B.fr, ⟨r1, B.wf, by show (1 : Nat) ≤ 12; decide, by show (1 : Nat) ≤ 60; decide⟩, B.ok⟩
  rw [this]
  exact iteF (q H2 (g1.trans g2))
end
section
variable {P : Program} {w : World} {K : PySem.W.Frag} {mg : Str → Option Value} {base : Heap} {tw ow fa cStandings : Addr}
abbrev s_is_whole : Stmt := top 35
theorem zg2 : FnScope ["thing"] ["thing"] (defScope s_is_whole) := ⟨rfl, rfl, rfl, by decide +kernel, rfl, by decide +kernel, by decide +kernel⟩
theorem zks (T : Txt K mg w tw ow fa cStandings) (d : Dfn K mg "is_whole" s_is_whole ["thing"]) : Cal P w K mg base 1 "is_whole" ["thing"] zfv := by
  refine d.cal zg2 (fun vs H Q E h => ?_) (fun f cdv A outer s H vs Q E hr h => ?_)
  · obtain ⟨v, rfl, _⟩ := h
    rfl
  obtain ⟨v, rfl, h⟩ := h
  refine ⟨_, (zad (zah (zbo (za4 zbj (by rfl) T.b_isinstance boot_isinstance (pa_c (pv 0) (pa_c (zbw (v := .ty "int") (by rfl) T.b_int boot_int (by rfl)) zab))) (zbi (zkj (za4 zbj (by rfl) T.b_isinstance boot_isinstance (pa_c (pv 0) (pa_c (zbw (v := .ty "bool") (by rfl) T.b_bool boot_bool (by rfl)) zab)))))))), ?_⟩
  refine zaz [some v] rfl ?_
  trivial
  rcases h with ⟨r, rfl, q⟩ | ⟨k, kd, nk, q⟩
  · exact ⟨_, .int r, by decide, iteT ⟨_, .int r, by decide, q⟩⟩
  · refine ⟨_, kd, by decide, ?_⟩
    cases kd with
    | bl b => exact iteT ⟨_, .bl b, by decide, q⟩
    | int => exact absurd rfl nk
    | _ => exact iteF q
abbrev s_is_below : Stmt := top 36
theorem zg5 : FnScope ["thing", "bound"] ["thing", "bound"] (defScope s_is_below) := ⟨rfl, rfl, rfl, by decide +kernel, rfl, by decide +kernel, by decide +kernel⟩
theorem zk0 (T : Txt K mg w tw ow fa cStandings) (d : Dfn K mg "is_below" s_is_below ["thing", "bound"]) (C_is_whole : Cal P w K mg base 1 "is_whole" ["thing"] zfv) : Cal P w K mg base 2 "is_below" ["thing", "bound"] zf1 := by
  refine d.cal zg5 (fun vs H Q E h => ?_) (fun f cdv A outer s H vs Q E hr h => ?_)
  · obtain ⟨v, n, rfl, _⟩ := h
    rfl
  obtain ⟨v, n, rfl, h⟩ := h
  refine ⟨_, (zad (zah (zbo (zae C_is_whole hr (by omega) (by rfl) (pa_c (pv 0) zab)) (zbi (zfh zqt zpj zaf (pv 0) (pv 1)))))), ?_⟩
  refine zaz [some v, some (.int n)] rfl ?_
  trivial
  rcases h with ⟨r, rfl, h0, h1, q⟩ | ⟨⟨r, rfl, hn⟩ | ⟨k, kd, nk⟩, q⟩
  · refine ⟨_, rfl, .inl ⟨r, rfl, _, rfl, iteT ⟨r, rfl, ?_⟩⟩⟩
    rw [decide_eq_true h0]
    refine iteT ⟨r, rfl, ?_⟩
    rw [decide_eq_true h1]
    exact q
  · refine ⟨_, rfl, .inl ⟨r, rfl, _, rfl, iteT ⟨r, rfl, ?_⟩⟩⟩
    by_cases h0 : 0 ≤ r
    · rw [decide_eq_true h0]
      refine iteT ⟨r, rfl, ?_⟩
      rw [decide_eq_false (fun h1 => hn ⟨h0, h1⟩)]
      exact q
    · rw [decide_eq_false h0]
      exact iteF q
  · exact ⟨_, rfl, .inr ⟨k, kd, nk, _, rfl, iteF q⟩⟩
abbrev s_is_letter : Stmt := top 38
theorem zf9 : FnScope ["thing", "tracks"] ["thing", "tracks"] (defScope s_is_letter) := ⟨rfl, rfl, rfl, by decide +kernel, rfl, by decide +kernel, by decide +kernel⟩
theorem zg9 (T : Txt K mg w tw ow fa cStandings) (d : Dfn K mg "is_letter" s_is_letter ["thing", "tracks"]) (C_is_below : Cal P w K mg base 2 "is_below" ["thing", "bound"] zf1) : Cal P w K mg base 3 "is_letter" ["thing", "tracks"] zdr := by
  refine d.cal zf9 (fun vs H Q E h => ?_) (fun f cdv A outer s H vs Q E hr h => ?_)
  · obtain ⟨r, k, rfl, _⟩ := h
    rfl
  obtain ⟨r, k, rfl, hk, q⟩ := h
  have hp2 : (1 : Int) * 2 ^ ((k : Nat) : Int).toNat = 2 ^ k := by rw [Int.one_mul, Int.toNat_natCast]
  refine ⟨_, (zad (zah (zae C_is_below hr (by omega) (by rfl) (pa_c (pv 0) (pa_c (za2 zid zaf (pv 1)) zab))))), ?_⟩
  refine zaz [some (.int r), some (nV k)] rfl ?_
  trivial
  refine ⟨⟨by omega, by omega, by decide⟩, _, _, rfl, ?_⟩
  rw [hp2]
  by_cases h : 0 ≤ r ∧ r < 2 ^ k
  · rw [decide_eq_true h] at q
    exact .inl ⟨r, rfl, h.1, h.2, q⟩
  · rw [decide_eq_false h] at q
    exact .inr ⟨.inl ⟨r, rfl, h⟩, q⟩
abbrev s_count_with : Stmt := top 39
theorem zfc : FnScope ["letters", "track"] ["letters", "track"] (defScope s_count_with) := ⟨rfl, rfl, rfl, by decide +kernel, rfl, by decide +kernel, by decide +kernel⟩
theorem zkz (T : Txt K mg w tw ow fa cStandings) (d : Dfn K mg "count_with" s_count_with ["letters", "track"]) : Cal P w K mg base 1 "count_with" ["letters", "track"] zf0 := by
  refine d.cal zfc (fun vs H Q E h => ?_) (fun f cdv A outer s H vs Q E hr h => ?_)
  · obtain ⟨r, row, k, rfl, _⟩ := h
    rfl
  obtain ⟨ra, row, k, rfl, er, h200, h32, hk, q⟩ := h
  refine ⟨_, (zad (zah (za4 (zcu K rfl) (by rfl) T.b_sum boot_sum (pa_c (zbb ["letter"] [(1, "track")] (CompOk.of rfl (by rfl) (by rfl)) (by rfl) (zbh K (pv 0)) (fun _ _ _ _ _ => (za1 (i := 0) (show List.Nodup (["letter", "track"] : List Str) by decide +kernel) (by rfl) (Or.inl (by rfl)))) (fun _ _ _ _ _ => zb1) (fun _ _ _ _ _ => (za2 zif (za2 zn9 (pv 0) (pv 1)) zaf))) zab)))), ?_⟩
  refine zaz [some (.ref ra), some (nV k)] rfl ?_
  trivial
  refine ⟨⟨_, .of er⟩, zfo (K := K) (a := ra) (xs := row.map nV) (fun σ => ∃ v, σ = [v, some (nV k)]) (fun v => match v with | .int i => .int (Builtin.bitAnd (i / 2 ^ k) 1) | _ => .non) (by rw [List.length_map]; omega) (.of er) ⟨_, rfl⟩ ?_ ?_⟩
  · rintro D3 i σ H3 x hi hm hx gg hD3 hD3' ⟨v, rfl⟩
    obtain ⟨z, mz, rfl⟩ := List.mem_map.mp hm
    trivial
    exact ⟨by omega, zc5 (by rw [List.length_map]; omega) hx hD3 hD3' gg ⟨_, rfl⟩ (by rw [Int.toNat_natCast])⟩
  intro D3 H3 hD3 g3 eD3
  have eD3' : H3 D3 = some (.lst ((row.map fun (l : Nat) => Builtin.bitAnd ((l : Int) / 2 ^ k) 1).map V.int)) := by rw [eD3, List.map_map, List.map_map]; rfl
  refine ⟨D3, rfl, _, .of eD3', ?_⟩
  rw [zoh k hk row h32]
  exact q H3 g3
abbrev s_each_place_once : Stmt := top 40
theorem zci : FnScope ["frame", "letters"] ["frame", "letters"] (defScope s_each_place_once) := ⟨rfl, rfl, rfl, by decide +kernel, rfl, by decide +kernel, by decide +kernel⟩
theorem zpm (T : Txt K mg w tw ow fa cStandings) (d : Dfn K mg "each_place_once" s_each_place_once ["frame", "letters"]) (C_is_place : Cal P w K mg base 2 "is_place" ["thing"] (ze5 SMALL)) (C_count_with : Cal P w K mg base 1 "count_with" ["letters", "track"] zf0) : Cal P w K mg base 3 "each_place_once" ["frame", "letters"] zjz := by
  refine d.cal zci (fun vs H Q E h => ?_) (fun f cdv A outer s H vs Q E hr h => ?_)
  · obtain ⟨f, r, names, rs, rfl, _⟩ := h
    rfl
  obtain ⟨fa, ra, names, row, rfl, ef, fo, er, h200, h32, q⟩ := h
  have h4 := fo.1
  refine ⟨_, (zad (zah (za4 (za8 K rfl) (by rfl) T.b_all boot_all (pa_c (zbb ["track", "name"] [(1, "letters")] (CompOk.of rfl (by rfl) (by rfl)) (by rfl) (zmu K (by rfl) T.b_enumerate (pa_c (pv 0) zab)) (fun _ _ _ _ _ => (zkh K (n := 2) rfl (zdm (za1 (i := 0) (show List.Nodup (["track", "name", "letters"] : List Str) by decide +kernel) (by rfl) (Or.inl (by rfl))) (zdm (za1 (i := 1) (show List.Nodup (["track", "name", "letters"] : List Str) by decide +kernel) (by rfl) (Or.inl (by rfl))) zkg)))) (fun _ _ _ _ _ => (zki (zba (zae C_is_place hr (by omega) (by rfl) (pa_c (pv 1) zab))))) (fun _ _ _ _ _ => (zav za5 (zae C_count_with hr (by omega) (by rfl) (pa_c (pv 2) (pa_c (pv 0) zab))) zaf (nomark _)))) zab)))), ?_⟩
  refine zaz [some (.ref fa), some (.ref ra)] rfl ?_
  trivial
  refine ⟨⟨_, .of ef⟩, ?_⟩
  refine zqb (K := K) (a := fa) (xs := names.map V.str) (fun σ => ∃ v v', σ = [v, v', some (.ref ra)]) (fun k => isP (names.getD k (Str.ofString ""))) (fun k => .bl (cw row k == 1)) (by rw [List.length_map]; omega) (.of ef) ⟨_, _, rfl⟩ ?_ ?_
  · rintro D3 i σ H3 x pt H4 hx gg hD3 hD3' ⟨v, v', rfl⟩ n4
    rw [List.getElem?_map] at hx
    obtain ⟨z, ez, rfl⟩ := Option.map_eq_some_iff.mp hx
    have hi := (List.getElem?_eq_some_iff.mp ez).1
    have hz : names.getD i (Str.ofString "") = z := by rw [List.getD_eq_getElem?_getD, ez]; rfl
    trivial
    refine ⟨_, .of n4.at', rfl, _, _, rfl, _, _, rfl, rfl, .str z, _, rfl, .str z, (fun z' ez' => by injection ez' with ez'; subst ez'; exact zcp (fo.2 z (List.mem_of_getElem? ez))), fun H5 g5 => ⟨_, rfl, ?_⟩⟩
    have hv : isNm (.str z) SMALL = isP (names.getD i (Str.ofString "")) := by rw [hz]; rfl
    rw [hv]
    cases hP : isP (names.getD i (Str.ofString "")) with
    | true =>
      refine iteT ⟨ra, row, i, rfl, (gg.trans (n4.g.trans g5)) _ _ er, h200, h32, by omega, fun H6 g6 => ⟨rfl, ?_⟩⟩
      refine zio (by rw [List.length_map]; omega) (by rw [List.length_map]; exact hi) hP hD3 ((n4.g.trans (g5.trans g6)) _ _ hD3') (gg.trans (n4.g.trans (g5.trans g6))) ⟨_, _, rfl⟩ ?_
      exact congrArg V.bl (zp5 (cw row i))
    | false => exact iteF (ziq (by rw [List.length_map]; exact hi) hP ((n4.g.trans g5) _ _ hD3') (gg.trans (n4.g.trans g5)) ⟨_, _, rfl⟩)
  intro D3 H3 hD3 g3 eD3
  have eD3' : H3 D3 = some (.lst ((((List.range names.length).filter fun k => isP (names.getD k (Str.ofString ""))).map fun k => cw row k == 1).map V.bl)) := by rw [eD3, List.length_map, List.map_map]; rfl
  refine ⟨D3, rfl, _, .of eD3', ?_⟩
  have e : ((((List.range names.length).filter fun k => isP (names.getD k (Str.ofString ""))).map fun k => cw row k == 1).all id) = fitB names row := by
    unfold fitB
    rw [List.all_map, List.all_filter]
    rfl
  rw [e]
  exact q H3 g3
abbrev s_letters_of : Stmt := top 56
theorem sc_letters_of : FnScope ["tree", "letters", "left", "here"] ["tree"] (defScope s_letters_of) := ⟨rfl, rfl, rfl, by decide +kernel, rfl, by decide +kernel, by decide +kernel⟩
theorem zgg (T : Txt K mg w tw ow fa cStandings) (d : Dfn K mg "letters_of" s_letters_of ["tree"]) : Cal P w K mg base 1 "letters_of" ["tree"] zc8 := by
  refine d.cal sc_letters_of (fun vs H Q E h => ?_) (fun f cdv A outer s H vs Q E hr h => ?_)
  · obtain ⟨v, t, rfl, _⟩ := h
    rfl
  obtain ⟨v, t, rfl, tv, h100, q⟩ := h
  refine ⟨_, (zac (zau (i := 1) sc_letters_of.nd rfl (Or.inl rfl) (za3 zab)) (zac (zau (i := 2) sc_letters_of.nd rfl (Or.inl rfl) (za3 (pa_c (pv 0) zab))) (zac (zmr PassesOwn.never (zmq (pv 2) (fun _ => rfl)) (zac (zau (i := 3) sc_letters_of.nd rfl (Or.inl rfl) (zpf K PySem.F.plainAttrs_list PySem.F.slot_list_pop PySem.F.type_list_pop zq0 (pv 2))) (zad (zar (zai zph (pv 3) zdz (nomark _)) (zac (zar (PW.pt (zcz (zbx (zba (za4 zbj (by rfl) T.b_isinstance boot_isinstance (pa_c (pv 3) (pa_c (zbw (v := .ty "tuple") (by rfl) T.b_tuple boot_tuple (by rfl)) zab))))) (zb9 (zai zkn (za4 (zaj K) (by rfl) T.b_len boot_len (pa_c (pv 3) zab)) zaf (nomark _))))) (zad zcj) zag) (zac (zbu (zdb K PySem.F.plainAttrs_list PySem.F.slot_list_append PySem.F.type_list_append zbr (pv 1) (pa_c (zan (zao K) (pv 3) zaf (fun _ _ => rfl)) zab))) (zad (zbu (zdb K PySem.F.plainAttrs_list PySem.F.slot_list_extend PySem.F.type_list_extend (zhb K) (pv 2) (pa_c (zbv (ze8 K) (pv 3) (zbz zaf) zc1) zab)))))) zag)))) (zad (zah (pv 1)))))), ?_⟩
  refine zaz [some v, none, none, none] rfl ?_
  trivial
  refine ⟨by decide, fun p H1 n1 => ⟨zaa (by simp), fun l H2 n2 => ?_⟩⟩
  have npl : p ≠ l := zaq n1.at' n2.nil
  have hl0 : H l = none := n1.g.free n2.nil
  have g02 := n1.g.trans n2.g
  refine ⟨fun mm σ H' => ∃ (ls : List Int) (xs : List V) (ts : List TrZ) (v3 : Option V), mm = stw ts ∧ Same H H' ∧ σ = [some v, some (.ref p), some (.ref l), v3] ∧ H' p = some (.lst (ls.map V.int)) ∧ H' l = some (.lst xs) ∧ Paired (TreeZ H') xs ts ∧ ls ++ stk ts = t.lets ∧ stw ts ≤ 201,
    ⟨_, [], [v], [t], none, rfl, g02, rfl, n2.g _ _ n1.at', n2.at', .cons (tv.same g02) .nil, by simp [stk], by simp [stw]; omega⟩, ?_⟩
  rintro mm σ H' ⟨ls, xs, ts, v3, rfl, g, rfl, ep, el, pr, hst, hsw⟩
  have hxl := SS.Paired.len pr
  have hle := zn3 ts
  have hlen : ls.length + (stk ts).length = t.size := by rw [← TrZ.lets_len, ← hst, List.length_append]
  trivial
  rcases zd2 ts with rfl | ⟨ts0, t', rfl⟩
  · cases pr
    rw [show stk [] = [] from rfl, List.append_nil] at hst
    rw [hst] at ep
    exact ⟨false, .inl ⟨_, .of el, rfl⟩, iteF (q p H' n1.nil g ep)⟩
  obtain ⟨xs0, x', rfl, pr0, tx⟩ := zcd pr
  refine ⟨true, .inl ⟨_, .of el, by simp⟩, iteT ⟨fun σ' H'' => ∃ m', m' < stw (ts0 ++ [t']) ∧ _, fun _ _ z => z, .inl ⟨_, .of el⟩, _, el, x', by simp, ?_⟩⟩
  rw [List.dropLast_concat]
  rw [List.length_append, List.length_singleton] at hxl
  have tsA : TupS H' (upd H' l (.lst xs0)) := TupS.wr el _
  have eu : upd H' l (.lst xs0) p = some (.lst (ls.map V.int)) := by rw [zam npl]; exact ep
  have gu : Same H (upd H' l (.lst xs0)) := g.wr hl0 _
  rw [ze4] at hst hlen
  rw [zcf] at hsw ⊢
  rw [List.length_append] at hlen
  have hll' := TrZ.lets_len t'
  cases t' with
  | nil =>
    obtain rfl : x' = .non := tx
    rw [show (!decide (V.non = V.non)) = false by simp]
    exact iteF ⟨_, by omega, ls, xs0, ts0, rfl, gu, _, rfl, eu, zap, L2.Paired.mapP pr0 fun _ _ z => z.ts tsA, hst, by omega⟩
  | node z ta tb =>
    obtain ⟨p', va, vb, rfl, e', ha, hb⟩ := tx
    have e2 := tsA _ _ e'
    rw [show (!decide (V.ref p' = V.non)) = true by simp]
    refine iteT ⟨_, .tup e2, by decide, iteF ⟨p', rfl, _, .inr (.of e2), ?_⟩⟩
    rw [show (!decide (((([V.int z, va, vb] : List V).length : Nat) : Int) = 3)) = false by simp]
    refine iteF ⟨.inl ⟨_, .of eu⟩, p', rfl, _, .of e2, _, zbd, _, eu, by rw [List.length_map]; exact small1000 (by omega), ?_⟩
    have elv : upd (upd H' l (.lst xs0)) p (.lst (ls.map V.int ++ [V.int z])) l = some (.lst xs0) := by rw [zam (Ne.symm npl), zap]
    have epv : upd (upd H' l (.lst xs0)) p (.lst (ls.map V.int ++ [V.int z])) p = some (.lst (ls.map V.int ++ [V.int z])) := zap
    have tsB : TupS H' (upd (upd H' l (.lst xs0)) p (.lst (ls.map V.int ++ [V.int z]))) := tsA.trans (TupS.wr eu _)
    have gv : Same H (upd (upd H' l (.lst xs0)) p (.lst (ls.map V.int ++ [V.int z]))) := gu.wr n1.nil _
    generalize upd (upd H' l (.lst xs0)) p (.lst (ls.map V.int ++ [V.int z])) = Hv at elv epv tsB gv
    refine ⟨.inl ⟨_, .of elv⟩, p', rfl, _, .of (tsB _ _ e'), (show ¬(HT.sIx 3 0 (some 1) = 0 ∧ HT.sIx 3 3 none = 3) by decide), fun p2 H5 n5 => ?_⟩
    rw [show (1 : Int) = ((1 : Nat) : Int) from rfl, zct] at n5
    have el5 := n5.g _ _ elv
    have hsz : (TrZ.node z ta tb).size = 1 + ta.size + tb.size := rfl
    have hln : (TrZ.node z ta tb).lets = z :: (tb.lets ++ ta.lets) := rfl
    have tsC : TupS H' (upd H5 l (.lst (xs0 ++ [va, vb]))) := tsB.trans (n5.g.tups.trans (TupS.wr el5 _))
    have hx0 := SS.Paired.len pr0
    have hle0 := zn3 ts0
    refine ⟨_, el5, _, .of n5.at', zaa (by simp; omega), _, ?_, ls ++ [z], (xs0 ++ [va]) ++ [vb], (ts0 ++ [ta]) ++ [tb], rfl, (gv.trans n5.g).wr hl0 _, _, rfl, ?_, ?_, SM.Paired.snoc (SM.Paired.snoc (L2.Paired.mapP pr0 fun _ _ z => z.ts tsC) (ha.ts tsC)) (hb.ts tsC), ?_, ?_⟩
    · rw [zcf, zcf, hsz]; omega
    · rw [zam npl, n5.g _ _ epv, List.map_append]; rfl
    · rw [zap]; simp
    · rw [ze4, ze4, ← hst, hln]; simp
    · rw [zcf, zcf]; omega
abbrev s_tree_fits : Stmt := top 58
theorem sc_tree_fits : FnScope ["frame", "tree", "letters"] ["frame", "tree"] (defScope s_tree_fits) := ⟨rfl, rfl, rfl, by decide +kernel, rfl, by decide +kernel, by decide +kernel⟩
theorem zgf (T : Txt K mg w tw ow fa cStandings) (d : Dfn K mg "tree_fits" s_tree_fits ["frame", "tree"]) (C_letters_of : Cal P w K mg base 1 "letters_of" ["tree"] zc8) (C_is_letter : Cal P w K mg base 3 "is_letter" ["thing", "tracks"] zdr) (C_each_place_once : Cal P w K mg base 3 "each_place_once" ["frame", "letters"] zjz) : Cal P w K mg base 4 "tree_fits" ["frame", "tree"] zc7 := by
  refine d.cal sc_tree_fits (fun vs H Q E h => ?_) (fun f cdv A outer s H vs Q E hr h => ?_)
  · obtain ⟨f, v, names, t, rfl, _⟩ := h
    rfl
  obtain ⟨fa, v, names, t, rfl, ef, fo, tv, h100, hlt, q⟩ := h
  have h4 := fo.1
  refine ⟨_, (zac (zau (i := 2) sc_tree_fits.nd rfl (Or.inl rfl) (zae C_letters_of hr (by omega) (by rfl) (pa_c (pv 1) zab))) (zac (zar (zbx (zba (za4 (za8 K rfl) (by rfl) T.b_all boot_all (pa_c (zbb ["letter"] [(0, "frame")] (CompOk.of rfl (by rfl) (by rfl)) (by rfl) (zbh K (pv 2)) (fun _ _ _ _ _ => (za1 (i := 0) (show List.Nodup (["letter", "frame"] : List Str) by decide +kernel) (by rfl) (Or.inl (by rfl)))) (fun _ _ _ _ _ => zb1) (fun _ _ _ _ _ => (zae C_is_letter hr (by omega) (by rfl) (pa_c (pv 0) (pa_c (za4 (zaj K) (by rfl) T.b_len boot_len (pa_c (pv 1) zab)) zab))))) zab)))) (zad zcj) zag) (zad (zah (zae C_each_place_once hr (by omega) (by rfl) (pa_c (pv 0) (pa_c (pv 2) zab))))))), ?_⟩
  refine zaz [some (.ref fa), some v, none] rfl ?_
  trivial
  refine ⟨v, t.z, rfl, tv.z, by rw [Tr.z_size]; omega, fun D H1 hD g1 eD => ?_⟩
  rw [Tr.z_lets, List.map_map] at eD
  have eD : H1 D = some (.lst (t.lets.map nV)) := eD
  have hll : t.lets.length = t.size := by
    have := congrArg List.length (Tr.z_lets t)
    rw [TrZ.lets_len, Tr.z_size, List.length_map] at this
    exact this.symm
  refine ⟨D, rfl, ⟨_, .of eD⟩, zfo (K := K) (a := D) (xs := t.lets.map nV) (fun σ => ∃ v, σ = [v, some (.ref fa)]) (fun _ => .bl true) (by rw [List.length_map]; omega) (.of eD) ⟨_, rfl⟩ ?_ ?_⟩
  · rintro D3 i σ H3 x hi hm hx gg hD3 hD3' ⟨v, rfl⟩
    obtain ⟨z, mz, rfl⟩ := List.mem_map.mp hm
    trivial
    refine ⟨_, .inl (.of (gg _ _ (g1 _ _ ef))), ?_⟩
    rw [List.length_map]
    have hz := Tr.lets_let t hlt z mz
    exact ⟨(z : Int), names.length, rfl, h4, zc5 (by rw [List.length_map]; omega) hx hD3 hD3' gg ⟨_, rfl⟩ (by rw [decide_eq_true (by rw [zo7]; omega)])⟩
  intro D3 H3 hD3 g3 eD3
  have g03 := g1.trans g3
  have eD3' : H3 D3 = some (.lst ((t.lets.map fun _ => true).map V.bl)) := by rw [eD3, List.map_map, List.map_map]; rfl
  refine ⟨D3, rfl, _, .of eD3', ?_⟩
  have h32 : ∀ l ∈ t.lets, l < 32 := fun l ml => by
    have := Tr.lets_let t hlt l ml
    have := zga h4
    omega
  rw [show (!(t.lets.map fun _ => true).all id) = false by
    rw [Bool.not_eq_false', List.all_eq_true]
    intro b hb
    obtain ⟨x, mx, rfl⟩ := List.mem_map.mp hb
    rfl]
  refine iteF ⟨fa, D, names, t.lets, rfl, g03 _ _ ef, fo, g3 _ _ eD, by omega, h32, fun H4 g4 => ?_⟩
  rw [Tr.fit_same]
  exact q H4 (g03.trans g4)
end
abbrev sp_law := zj2
section
variable {P : Program} {w : World} {K : PySem.W.Frag} {mg : Str → Option Value} {base : Heap} {f : Addr} {fd : FuncData} {tw ow fa cStandings : Addr}
theorem all (T : Txt K mg w tw ow fa cStandings) (d_is_letter_with_figures : Dfn K mg "is_letter_with_figures" s_is_letter_with_figures ["thing", "letters"]) (d_is_place : Dfn K mg "is_place" s_is_place ["thing"]) (d_is_set : Dfn K mg "is_set" s_is_set ["thing"]) (d_is_name : Dfn K mg "is_name" s_is_name ["thing"]) (d_is_frame : Dfn K mg "is_frame" s_is_frame ["thing"]) (d_is_of_sort : Dfn K mg "is_of_sort" s_is_of_sort ["thing", "sort", "deepest"]) (d_has_form : Dfn K mg "has_form" s_has_form ["thing", "deepest"]) (d_inner_sayings : Dfn K mg "inner_sayings" s_inner_sayings ["saying"]) (d_is_bare : Dfn K mg "is_bare" s_is_bare ["saying"]) (d_count_parts : Dfn K mg "count_parts" s_count_parts ["saying"]) (d_is_any_saying : Dfn K mg "is_any_saying" s_is_any_saying ["thing"]) (d_is_let : Dfn K mg "is_let" s_is_let ["saying", "known", "barred", "most"]) (d_is_tree_saying : Dfn K mg "is_tree_saying" s_is_tree_saying ["thing", "frame"]) (d_check_frame : Dfn K mg "check_frame" s_check_frame ["frame"]) (d_check_tree_frame : Dfn K mg "check_tree_frame" s_check_tree_frame ["frame"]) (d_check_tree_let : Dfn K mg "check_tree_let" s_check_tree_let ["saying", "frame"]) (d_is_whole : Dfn K mg "is_whole" s_is_whole ["thing"]) (d_is_below : Dfn K mg "is_below" s_is_below ["thing", "bound"]) (d_is_letter : Dfn K mg "is_letter" s_is_letter ["thing", "tracks"]) (d_count_with : Dfn K mg "count_with" s_count_with ["letters", "track"]) (d_each_place_once : Dfn K mg "each_place_once" s_each_place_once ["frame", "letters"]) (d_told : Dfn K mg "told" s_told ["truth"]) (d_sides_asked : Dfn K mg "sides_asked" s_sides_asked ["word", "left", "right"]) (d_mark_of_related : Dfn K mg "mark_of_related" s_mark_of_related ["word", "one", "other", "left", "right"]) (d_mark_of : Dfn K mg "mark_of" s_mark_of ["word", "one", "other", "left", "right"]) (d_holds_with : Dfn K mg "holds_with" s_holds_with ["word", "mark"]) (d_Standings___init__ : DfnI K cStandings "Standings.__init__" s_Standings___init__ ["self"]) (d_Standings_part_of : DfnM K cStandings "part_of" "Standings.part_of" s_Standings_part_of ["self", "saying", "names"]) (d_Standings_of_nothing : DfnM K cStandings "of_nothing" "Standings.of_nothing" s_Standings_of_nothing ["self", "number"]) (d_Standings_above : DfnM K cStandings "above" "Standings.above" s_Standings_above ["self", "number", "letter", "left", "right"]) (d_Standings_above_unsettled : DfnM K cStandings "above_unsettled" "Standings.above_unsettled" s_Standings_above_unsettled ["self", "number", "letter", "left", "right"]) (d_Standings_with_whole : DfnM K cStandings "with_whole" "Standings.with_whole" s_Standings_with_whole ["self", "number", "standing"]) (d_letters_of : Dfn K mg "letters_of" s_letters_of ["tree"]) (d_gone_up : Dfn K mg "gone_up" s_gone_up ["tree", "first", "coming"]) (d_tree_fits : Dfn K mg "tree_fits" s_tree_fits ["frame", "tree"]) {c_tree_holds_by t_tree_holds_by : Addr} (d_tree_holds_by : DfnC K mg "tree_holds_by" s_tree_holds_by ["saying", "frame", "tree"] c_tree_holds_by t_tree_holds_by) (d_tree_holds : Dfn K mg "tree_holds" s_tree_holds ["saying", "frame", "tree"]) (d_law_cell_at : Dfn K mg "_law_cell_at" s_law_cell_at ["_law_script", "_law_k"]) (d_law_size : Dfn K mg "_law_size" s_law_size ["_law_tree"]) (d_law_trees : Dfn K mg "_law_trees" s_law_trees ["_law_cells", "_law_letters", "_law_most"]) (d_law_roads : Dfn K mg "_law_roads" s_law_roads ["_law_tree", "_law_road"]) (d_law_lettered : Dfn K mg "_law_lettered" s_law_lettered ["_law_tree", "_law_road", "_law_marks"]) (d_law_due : Dfn K mg "_law_due" s_law_due ["_law_word", "_law_one", "_law_other"]) (d_law_words : Dfn K mg "_law_words" s_law_words ["_law_one", "_law_other"]) (d_law_some : Dfn K mg "_law_some" s_law_some ["_law_roads_here", "_law_number", "_law_single"]) (d_law_right : Dfn K mg "_law_right" s_law_right ["_law_frame", "_law_tree", "_law_marks", "_law_fit"]) (kb : BltK base mg) (F : Fun K "law" "law" s_law f fd) : FnOk P w K mg base CX0 65 f fd ["_law_script"] (sp_law K [(t_tree_holds_by, qs_tree_holds_by)]) := by
  have c1 := zrm (P := P) (w := w) (base := base) T d_is_letter_with_figures
  have c2 := zna T d_is_place c1
  have c3 := zqw T d_is_set c1
  have c4 := zrl T d_is_name c2 c3
  have c5 := znd T d_is_frame c4
  have c6 := ziu T d_is_of_sort d_has_form c2 c3 c4 12
  have c7 := znb (P := P) (w := w) (base := base) T d_inner_sayings
  have c8 := zkx T d_is_bare c7
  have c9 := zgt T d_count_parts c7 13
  have c10 := zk1 T d_is_any_saying c6.1 c9
  have c11 := zmc (bw := SS.rowWords) T d_is_let c7 c8 13
  have c12 := zkw T d_is_tree_saying c5 c10 c11
  have k1 := zha T d_check_frame c5
  have k2 := zjb T d_check_tree_frame k1
  have k3 := zja T d_check_tree_let k2 c12
  have b1 := zks (P := P) (w := w) (base := base) T d_is_whole
  have b2 := zk0 T d_is_below b1
  have r1 := zg9 T d_is_letter b2
  have r3 := zkz (P := P) (w := w) (base := base) T d_count_with
  have r4 := zpm T d_each_place_once c2 r3
  have r5 := zgg (P := P) (w := w) (base := base) T d_letters_of
  have r6 := zgf T d_tree_fits r5 r1 r4
  have m1 := zm4 (P := P) (w := w) (base := base) T d_told
  have m2 := zm9 (P := P) (w := w) (base := base) T d_sides_asked
  have m3 := zpn T d_mark_of_related m1 m2
  have m4 := zpo T d_mark_of m1 m3
  have m5 := znc (P := P) (w := w) (base := base) T d_holds_with
  have s0 := zm8 (P := P) (w := w) (base := base) T d_Standings___init__
  have s1 := zm5 T d_Standings_part_of c8
  have s2 := zm7 (P := P) (w := w) (base := base) T d_Standings_of_nothing
  have s3 := zku T d_Standings_with_whole m5
  have s4 := zpk T d_Standings_above_unsettled m4
  have s5 := zpl T d_Standings_above m1 s4
  have h1 := zg8 T d_tree_holds_by kb d_gone_up s0 s1 s2 s5 s3
  have h2 := zkt T d_tree_holds k3 r6 h1
  have l1 := zpq (P := P) (w := w) (base := base) T d_law_cell_at
  have l2 := zig (P := P) (w := w) (base := base) T d_law_size 61
  have l3 := zm3 T d_law_trees l2
  have l4 := zih (P := P) (w := w) (base := base) T d_law_roads 15
  have l5 := zii (P := P) (w := w) (base := base) T d_law_lettered 15
  have l6 := zkr (P := P) (w := w) (base := base) T d_law_words
  have l7 := zpp (P := P) (w := w) (base := base) T d_law_due
  have l8 := zm6 (P := P) (w := w) (base := base) T d_law_some
  have l9 := zi9 T d_law_right l5 l6 l7 h2
  exact zqy T F l1 l3 l4 l8 l9
end
end K42
open PySem PySem.W PyProof.Rows
namespace PySem.W.Fast
theorem tw5631825593246883556 : True := trivial
theorem tw15491971920956856234 : True := trivial
theorem tw3141488140816096870 : True := trivial
theorem tw5265186790615165999 : True := trivial
theorem tw2341504210215589770 : True := trivial
theorem tw10599464582459062228 : True := trivial
theorem tw17739411332206599539 : True := trivial
theorem tw1717097368705154278 : True := trivial
theorem tw6704171579162932480 : True := trivial
theorem tw13914510325257245605 : True := trivial
theorem tw8737844268694474639 : True := trivial
theorem tw12374727948670528356 : True := trivial
theorem tw4619786639488047785 : True := trivial
theorem tw16818990252030284496 : True := trivial
theorem tw4506858457889056349 : True := trivial
theorem tw5241667472281567485 : True := trivial
theorem tw4133297864006026149 : True := trivial
theorem tw18199525540359214387 : True := trivial
theorem tw15200569191708033946 : True := trivial
theorem tw2696977225344313666 : True := trivial
theorem tw2464885308072855599 : True := trivial
theorem tw13722298266563368437 : True := trivial
theorem tw1906679064887339132 : True := trivial
theorem tw8978350012632312911 : True := trivial
theorem tw16806702154887876586 : True := trivial
theorem tw8950649257245546013 : True := trivial
theorem tw3724356548594125483 : True := trivial
theorem tw4077379296812766448 : True := trivial
theorem tw14434679707518848839 : True := trivial
theorem tw16196633277535701146 : True := trivial
theorem tw10172483666715582232 : True := trivial
theorem tw13388856727768196939 : True := trivial
theorem tw1963235455653355193 : True := trivial
theorem tw7003942820241632595 : True := trivial
theorem tw7959495141181541979 : True := trivial
theorem tw11854673770984586361 : True := trivial
theorem tw1239873411638128371 : True := trivial
theorem tw6406304287966979396 : True := trivial
theorem tw11685331646370567053 : True := trivial
theorem tw17872217196797592051 : True := trivial
theorem tw16640470760947881063 : True := trivial
theorem tw355874578333774161 : True := trivial
theorem tw17238575538464647615 : True := trivial
theorem tw4340875339177176139 : True := trivial
theorem tw18050233172281481321 : True := trivial
theorem tw15922003393191283803 : True := trivial
theorem tw12762261019678183690 : True := trivial
theorem tw15244732288447570824 : True := trivial
theorem tw12285154135032770226 : True := trivial
theorem tw6172614597443318351 : True := trivial
theorem tw10488754525101553351 : True := trivial
theorem tw12801893824752125994 : True := trivial
theorem tw17950042259719106731 : True := trivial
theorem tw9668846436611486169 : True := trivial
theorem tw18173227409967899400 : True := trivial
theorem tw5180125544779977814 : True := trivial
theorem tw18395004650690569112 : True := trivial
theorem tw18167234279278964527 : True := trivial
theorem tw6470006984767967230 : True := trivial
theorem tw1135939283038543663 : True := trivial
theorem tw4250878132025801812 : True := trivial
theorem tw9799739160249023886 : True := trivial
theorem tw3010978821914209415 : True := trivial
theorem tw8944496957144473844 : True := trivial
theorem tw11573262974504367717 : True := trivial
theorem tw8972659258535777890 : True := trivial
theorem tw14682510804102211923 : True := trivial
theorem tw13857531607026541230 : True := trivial
theorem tw13415707479770573064 : True := trivial
theorem tw465489281820023178 : True := trivial
theorem tw14395010877694241184 : True := trivial
theorem tw7996523203806939249 : True := trivial
theorem tw5287109031845915019 : True := trivial
theorem tw7449930907884945659 : True := trivial
theorem tw5461338977254633823 : True := trivial
theorem tw11257191781694483978 : True := trivial
theorem tw3721876428521574668 : True := trivial
theorem tw15600147833910474928 : True := trivial
theorem tw4976270735144928814 : True := trivial
theorem tw17949109917714443785 : True := trivial
theorem tw13104434636452614374 : True := trivial
theorem tw11122344840342687443 : True := trivial
theorem tw10613209855574234534 : True := trivial
theorem tw12195424692513338175 : True := trivial
theorem tw15782656222970302364 : True := trivial
theorem tw1540447412747229497 : True := trivial
theorem tw1836038019766536798 : True := trivial
theorem tw10812140917321601742 : True := trivial
theorem tw9740619395219951865 : True := trivial
theorem tw5323913535076619815 : True := trivial
theorem tw9834825377483783268 : True := trivial
theorem tw6855169920824995519 : True := trivial
theorem tw10400861019074711834 : True := trivial
theorem tw15447146047673960142 : True := trivial
theorem tw367706201144931705 : True := trivial
theorem tw4965286432553335763 : True := trivial
theorem tw7764535657462769173 : True := trivial
theorem tw7645649566162458576 : True := trivial
theorem tw13079504422597748529 : True := trivial
theorem tw17911587584456428825 : True := trivial
theorem tw4737046304031844340 : True := trivial
theorem tw9180819372470908178 : True := trivial
theorem tw7861954583279068622 : True := trivial
theorem tw10230860367208133197 : True := trivial
theorem tw11846013380810600675 : True := trivial
theorem tw16851383921203171154 : True := trivial
theorem tw10007894683164333185 : True := trivial
theorem tw382267908728876870 : True := trivial
theorem tw4472139416361736226 : True := trivial
theorem tw7801833458536942528 : True := trivial
theorem tw16335083141820679408 : True := trivial
theorem tw15947686748216327410 : True := trivial
theorem tw11277518601186974153 : True := trivial
theorem tw963292274065840419 : True := trivial
theorem tw6591588940404049631 : True := trivial
theorem tw12187778742219200394 : True := trivial
theorem tw8144873074641771492 : True := trivial
theorem tw616373633264761571 : True := trivial
theorem tw16636426488221430080 : True := trivial
theorem tw5021932139707032709 : True := trivial
theorem tw13784719554976979630 : True := trivial
theorem tw4440904566717847916 : True := trivial
theorem tw4081392649035962241 : True := trivial
theorem tw12513615070462012958 : True := trivial
theorem tw13085734843497001968 : True := trivial
theorem tw7281147066766339283 : True := trivial
theorem tw17712873100653594837 : True := trivial
theorem tw9409804417843173734 : True := trivial
theorem tw16323857751303763990 : True := trivial
theorem tw9151181863686935591 : True := trivial
theorem tw12015441653960630213 : True := trivial
theorem tw10528296932160980553 : True := trivial
theorem tw11043703440623601767 : True := trivial
theorem tw2917579771039792070 : True := trivial
theorem tw12048194013896501322 : True := trivial
theorem tw16722558402196124140 : True := trivial
theorem tw11762092514485060638 : True := trivial
theorem tw6754260107935527629 : True := trivial
theorem tw1042754495614629014 : True := trivial
theorem tw15707907667620731696 : True := trivial
theorem tw1288884928754943122 : True := trivial
theorem tw9172531724085194663 : True := trivial
theorem tw2045399898528816146 : True := trivial
theorem tw17144950595023596158 : True := trivial
theorem tw15596471518126406338 : True := trivial
theorem tw4730003170047356684 : True := trivial
theorem tw2754809346657576410 : True := trivial
theorem tw5287132225043318802 : True := trivial
theorem tw1910419453181031418 : True := trivial
theorem tw9829080914131317043 : True := trivial
theorem tw1242915970620052744 : True := trivial
theorem tw4909253930742901753 : True := trivial
theorem tw8899354293709044281 : True := trivial
theorem tw14079460897250642470 : True := trivial
theorem tw1498559865101248848 : True := trivial
theorem tw1761709443231286715 : True := trivial
theorem tw16807367837404242790 : True := trivial
theorem tw1064038784087530955 : True := trivial
theorem tw17271990397941207011 : True := trivial
theorem tw12006592226142669455 : True := trivial
theorem tw8505148649409769338 : True := trivial
theorem tw15044712150347872425 : True := trivial
theorem tw14866222198111118723 : True := trivial
theorem tw13087737280001035159 : True := trivial
theorem tw9226089282088510202 : True := trivial
theorem tw15804018354767577974 : True := trivial
theorem tw12068222055936578115 : True := trivial
theorem tw4542300574284976761 : True := trivial
theorem tw18141134096241876268 : True := trivial
theorem tw13047694002601945951 : True := trivial
theorem tw13318991597801849538 : True := trivial
theorem tw1150708564242134973 : True := trivial
theorem tw15911143366411051798 : True := trivial
theorem tw16245829189342151729 : True := trivial
theorem tw3274422463410445621 : True := trivial
theorem tw2580168011794279097 : True := trivial
theorem tw14535492604855253139 : True := trivial
theorem tw5725769005759464747 : True := trivial
theorem tw11266177459681620115 : True := trivial
theorem tw8310683350557064998 : True := trivial
theorem tw1062248034451353297 : True := trivial
theorem tw6719136832903211193 : True := trivial
theorem tw15816677882341983815 : True := trivial
theorem tw4750961023258925425 : True := trivial
theorem tw12146864442033635391 : True := trivial
theorem tw15034034247813803106 : True := trivial
theorem tw5661367134486186042 : True := trivial
theorem tw15720052920668631800 : True := trivial
theorem tw14780978741582120965 : True := trivial
theorem tw5191642463818559199 : True := trivial
theorem tw11398175185521590556 : True := trivial
theorem tw16929354709130401240 : True := trivial
theorem tw18180214386154924297 : True := trivial
theorem tw500559062450947195 : True := trivial
theorem tw17593436726866961725 : True := trivial
theorem tw14112459387832534074 : True := trivial
theorem tw5254520364093753556 : True := trivial
theorem tw1052948403973273218 : True := trivial
theorem tw5266224971930638106 : True := trivial
theorem tw840222585725171844 : True := trivial
theorem tw13484274315345084332 : True := trivial
theorem tw8211642203313964216 : True := trivial
theorem tw671014779927247773 : True := trivial
theorem tw15376971390975238252 : True := trivial
theorem tw17715910597779606291 : True := trivial
theorem tw13239804923468219462 : True := trivial
theorem tw8705453238433395524 : True := trivial
theorem tw1615634673305176201 : True := trivial
theorem tw751150064974892668 : True := trivial
theorem tw8250585262167372260 : True := trivial
theorem tw61657616119102364 : True := trivial
theorem tw2569401327534811615 : True := trivial
theorem tw3814391587080051083 : True := trivial
theorem tw9034129916633035143 : True := trivial
theorem tw8234370610003916230 : True := trivial
theorem tw1778559460568684879 : True := trivial
theorem tw4756215678242527559 : True := trivial
theorem tw16894977400538185465 : True := trivial
theorem tw10391367005418888366 : True := trivial
theorem tw16903690449003615090 : True := trivial
theorem tw3457646582336476987 : True := trivial
theorem tw6778038213706437558 : True := trivial
theorem tw5942373269951993095 : True := trivial
theorem tw15367588533349815095 : True := trivial
theorem tw16731904737224026855 : True := trivial
theorem tw11347126120582142068 : True := trivial
theorem tw16339990787200301101 : True := trivial
theorem tw10690816685976142423 : True := trivial
theorem tw13273477007393800733 : True := trivial
theorem tw17120771492438422214 : True := trivial
theorem tw16009256684108397613 : True := trivial
theorem tw391287572624716612 : True := trivial
theorem tw12374892150677935359 : True := trivial
theorem tw1451927623432012522 : True := trivial
theorem tw7441516117758990157 : True := trivial
theorem tw15777674893491230625 : True := trivial
theorem tw14300551014166619762 : True := trivial
theorem tw6704281451253391615 : True := trivial
theorem tw7942002157057302969 : True := trivial
theorem tw14857556330693670918 : True := trivial
theorem tw270843168946476438 : True := trivial
theorem tw17336280747367855330 : True := trivial
theorem tw8576807544417348561 : True := trivial
theorem tw41922878398869338 : True := trivial
theorem tw12140298023375864842 : True := trivial
theorem tw13042416973887923152 : True := trivial
theorem tw2864776155745962319 : True := trivial
theorem tw18111526452848179768 : True := trivial
theorem tw13446078029095697917 : True := trivial
theorem tw13498086136928456664 : True := trivial
theorem tw2475847065450353619 : True := trivial
theorem tw4851824714345320884 : True := trivial
theorem tw2972795312147253784 : True := trivial
theorem tw1327895107244152726 : True := trivial
theorem tw12143279831021464916 : True := trivial
theorem tw3285930211702490472 : True := trivial
theorem tw4842011845620474171 : True := trivial
theorem tw17010006765520745288 : True := trivial
theorem tw6275009150294461290 : True := trivial
theorem tw14629529621800737989 : True := trivial
theorem tw16485830686425506636 : True := trivial
theorem tw6082932793559558943 : True := trivial
theorem tw4231448738175144706 : True := trivial
theorem tw15123068609281464823 : True := trivial
theorem tw1293375597159841889 : True := trivial
theorem tw5208311440202219903 : True := trivial
theorem tw18205236228632384360 : True := trivial
theorem tw10346233119929278935 : True := trivial
theorem tw17923244526910474666 : True := trivial
theorem tw10910619617783674336 : True := trivial
theorem tw17615652237665947945 : True := trivial
theorem tw13146357722344176453 : True := trivial
theorem tw11009819221879756642 : True := trivial
theorem tw1741803137772470183 : True := trivial
theorem tw9634369146468668191 : True := trivial
theorem tw2865829433274423798 : True := trivial
theorem tw1411050545453881837 : True := trivial
theorem tw3626490259381400306 : True := trivial
theorem tw11167474989024037826 : True := trivial
theorem tw13538782781376699746 : True := trivial
theorem tw6785656750248462383 : True := trivial
theorem tw7354221338544081340 : True := trivial
theorem tw3401741336995816229 : True := trivial
theorem tw1805266760377165933 : True := trivial
theorem tw12031046061182767185 : True := trivial
theorem tw1723394646569714505 : True := trivial
theorem tw9167583967631878815 : True := trivial
theorem tw18215768750916222731 : True := trivial
theorem tw12152737840440573161 : True := trivial
theorem tw6600882478248745404 : True := trivial
theorem tw11878696290324512026 : True := trivial
theorem tw7811895059883991289 : True := trivial
theorem tw4003158848315340060 : True := trivial
theorem tw9315291121776723166 : True := trivial
theorem tw15160491901719425039 : True := trivial
theorem tw10512051002414700319 : True := trivial
theorem tw17368735481686043780 : True := trivial
theorem tw4350840208981727484 : True := trivial
theorem tw4672081519173718826 : True := trivial
theorem tw13013084362252099423 : True := trivial
theorem tw14370339101273494494 : True := trivial
theorem tw13842328920366748304 : True := trivial
theorem tw14784080215566118071 : True := trivial
theorem tw2323376550642162930 : True := trivial
theorem tw3704634891457671262 : True := trivial
theorem tw18123678525162433033 : True := trivial
theorem tw14194029787692282487 : True := trivial
theorem tw15644270990910248836 : True := trivial
theorem tw1908631326980100630 : True := trivial
theorem tw2326435665439320328 : True := trivial
theorem tw15493649694464181044 : True := trivial
theorem tw9590899871357637293 : True := trivial
end PySem.W.Fast
set_option maxRecDepth 100000 in
set_option maxHeartbeats 0 in
theorem PySem.Challenge.cw_setsays_k42_bare_ones_of_trees_holds : PySem.Challenge.rw_setsays_k42_bare_ones_of_trees.Holds := by
  w_on; o_law; k_head; (case hw => w_witness2)
  k_fill
  refine L2.walk_ofT (l := PySem.Challenge.rw_setsays_k42_bare_ones_of_trees) (n := 63) (k := 65) (x := "_law_script") (CX := L2.CX0) (sp := K42.sp_law) rfl (by decide) rfl ⟨rfl, by decide, by decide⟩ (fun w h Y => PySem.W.km_in_of Y) ?F (fun _ _ _ a ns hl hO hS => ⟨a, ns, rfl, hS, hl, hO, fun _ => rfl⟩) fun _ _ _ _ z => z
  case F =>
    intro w mg fa h KX G hmg
    obtain ⟨tw, g_TELLING_WORDS, t_TELLING_WORDS⟩ : ∃ q, L2.GlV mg "TELLING_WORDS" (.ref q) ∧ ∀ H, L2.SqT (L2.KOf KX) H q [.str "some", .str "all"] := by
      dsimp only [L2.KOf]
      refine' L2.glt_mk KX G ?a ?l ?z ?r
      (case a => k_is); (case l => k_is); (case z => decide); (case r => exact .cons ⟨_, rfl⟩ (.cons ⟨_, rfl⟩ (.nil)))
    obtain ⟨ow, g_ROW_WORDS, t_ROW_WORDS⟩ : ∃ q, L2.GlV mg "ROW_WORDS" (.ref q) ∧ ∀ H, L2.SqT (L2.KOf KX) H q [.str "ahead", .str "next"] := by
      dsimp only [L2.KOf]
      refine' L2.glt_mk KX G ?a ?l ?z ?r
      (case a => k_is); (case l => k_is); (case z => decide); (case r => exact .cons ⟨_, rfl⟩ (.cons ⟨_, rfl⟩ (.nil)))
    obtain ⟨ff, g_FORMS, f_FORMS⟩ : ∃ q, L2.GlV mg "FORMS" (.ref q) ∧ SS.Forms (L2.KOf KX) w q := by
      dsimp only [L2.KOf]
      refine' SS.forms_mk KX G ?a ?lo ?l ?hk ?he
      (case a => k_is); (case lo => decide); (case l => k_is)
      (case hk => exact ⟨⟨_, _, rfl, rfl⟩, ⟨⟨_, _, rfl, rfl⟩, ⟨⟨_, _, rfl, rfl⟩, ⟨⟨_, _, rfl, rfl⟩, ⟨⟨_, _, rfl, rfl⟩, ⟨⟨_, _, rfl, rfl⟩, ⟨⟨_, _, rfl, rfl⟩, ⟨⟨_, _, rfl, rfl⟩, ⟨⟨_, _, rfl, rfl⟩, ⟨⟨_, _, rfl, rfl⟩, ⟨⟨_, _, rfl, rfl⟩, ⟨⟨_, _, rfl, rfl⟩, ⟨⟨_, _, rfl, rfl⟩, trivial⟩⟩⟩⟩⟩⟩⟩⟩⟩⟩⟩⟩⟩)
      refine' .cons ⟨⟨_, rfl⟩, _, rfl, SS.sqt_mk ?l0 ?z0 ?r0⟩ (.cons ⟨⟨_, rfl⟩, _, rfl, SS.sqt_mk ?l1 ?z1 ?r1⟩ (.cons ⟨⟨_, rfl⟩, _, rfl, SS.sqt_mk ?l2 ?z2 ?r2⟩ (.cons ⟨⟨_, rfl⟩, _, rfl, SS.sqt_mk ?l3 ?z3 ?r3⟩ (.cons ⟨⟨_, rfl⟩, _, rfl, SS.sqt_mk ?l4 ?z4 ?r4⟩ (.cons ⟨⟨_, rfl⟩, _, rfl, SS.sqt_mk ?l5 ?z5 ?r5⟩ (.cons ⟨⟨_, rfl⟩, _, rfl, SS.sqt_mk ?l6 ?z6 ?r6⟩ (.cons ⟨⟨_, rfl⟩, _, rfl, SS.sqt_mk ?l7 ?z7 ?r7⟩ (.cons ⟨⟨_, rfl⟩, _, rfl, SS.sqt_mk ?l8 ?z8 ?r8⟩ (.cons ⟨⟨_, rfl⟩, _, rfl, SS.sqt_mk ?l9 ?z9 ?r9⟩ (.cons ⟨⟨_, rfl⟩, _, rfl, SS.sqt_mk ?l10 ?z10 ?r10⟩ (.cons ⟨⟨_, rfl⟩, _, rfl, SS.sqt_mk ?l11 ?z11 ?r11⟩ (.cons ⟨⟨_, rfl⟩, _, rfl, SS.sqt_mk ?l12 ?z12 ?r12⟩ (.nil)))))))))))))
      (case l0 => k_is); (case z0 => decide); (case r0 => exact .cons ⟨_, rfl⟩ (.cons ⟨_, rfl⟩ (.nil)))
      (case l1 => k_is); (case z1 => decide); (case r1 => exact .cons ⟨_, rfl⟩ (.cons ⟨_, rfl⟩ (.nil)))
      (case l2 => k_is); (case z2 => decide); (case r2 => exact .cons ⟨_, rfl⟩ (.cons ⟨_, rfl⟩ (.nil)))
      (case l3 => k_is); (case z3 => decide); (case r3 => exact .cons ⟨_, rfl⟩ (.cons ⟨_, rfl⟩ (.nil)))
      (case l4 => k_is); (case z4 => decide); (case r4 => exact .cons ⟨_, rfl⟩ (.cons ⟨_, rfl⟩ (.nil)))
      (case l5 => k_is); (case z5 => decide); (case r5 => exact .cons ⟨_, rfl⟩ (.cons ⟨_, rfl⟩ (.nil)))
      (case l6 => k_is); (case z6 => decide); (case r6 => exact .cons ⟨_, rfl⟩ (.cons ⟨_, rfl⟩ (.nil)))
      (case l7 => k_is); (case z7 => decide); (case r7 => exact .cons ⟨_, rfl⟩ (.cons ⟨_, rfl⟩ (.nil)))
      (case l8 => k_is); (case z8 => decide); (case r8 => exact .cons ⟨_, rfl⟩ (.nil))
      (case l9 => k_is); (case z9 => decide); (case r9 => exact .cons ⟨_, rfl⟩ (.cons ⟨_, rfl⟩ (.nil)))
      (case l10 => k_is); (case z10 => decide); (case r10 => exact .cons ⟨_, rfl⟩ (.cons ⟨_, rfl⟩ (.nil)))
      (case l11 => k_is); (case z11 => decide); (case r11 => exact .cons ⟨_, rfl⟩ (.cons ⟨_, rfl⟩ (.nil)))
      (case l12 => k_is); (case z12 => decide); (case r12 => exact .cons ⟨_, rfl⟩ (.cons ⟨_, rfl⟩ (.nil)))
    obtain ⟨cStandings, m_Standings, cl_Standings, n_parts, n_forms, n_numbers, n_steps, d_Standings___init__, d_Standings_part_of, d_Standings_of_nothing, d_Standings_above, d_Standings_above_unsettled, d_Standings_with_whole⟩ : ∃ q : Addr, mg "Standings" = some (.ref q) ∧ L2.Cls (L2.KOf KX) q ∧ L2.NoAttr (L2.KOf KX) q "parts" ∧ L2.NoAttr (L2.KOf KX) q "forms" ∧ L2.NoAttr (L2.KOf KX) q "numbers" ∧ L2.NoAttr (L2.KOf KX) q "steps" ∧ L2.DfnI (L2.KOf KX) q "Standings.__init__" K42.s_Standings___init__ ["self"] ∧ L2.DfnM (L2.KOf KX) q "part_of" "Standings.part_of" K42.s_Standings_part_of ["self", "saying", "names"] ∧ L2.DfnM (L2.KOf KX) q "of_nothing" "Standings.of_nothing" K42.s_Standings_of_nothing ["self", "number"] ∧ L2.DfnM (L2.KOf KX) q "above" "Standings.above" K42.s_Standings_above ["self", "number", "letter", "left", "right"] ∧ L2.DfnM (L2.KOf KX) q "above_unsettled" "Standings.above_unsettled" K42.s_Standings_above_unsettled ["self", "number", "letter", "left", "right"] ∧ L2.DfnM (L2.KOf KX) q "with_whole" "Standings.with_whole" K42.s_Standings_with_whole ["self", "number", "standing"] := by
      dsimp only [L2.KOf]
      refine' ⟨_, PySem.W.mg_of KX G ?Standings_m, ⟨?Standings_pg, ?Standings_hd, ?Standings_po, ?Standings_sa⟩, L2.noattr_mk ?Standings_n0, L2.noattr_mk ?Standings_n1, L2.noattr_mk ?Standings_n2, L2.noattr_mk ?Standings_n3, L2.dfni_mk ?Standings_y0 ?Standings_a0 ?Standings_i0 ?Standings_z0 ?Standings_l0 ?Standings_c0 ?Standings_k0 (fun _ _ _ _ _ _ => L2.fit1 fun _ => rfl), L2.dfnm_mk ?Standings_a1 ?Standings_i1 ?Standings_l1 ?Standings_c1 ?Standings_k1 (fun _ _ _ _ _ _ => L2.fit3 fun _ _ _ => rfl), L2.dfnm_mk ?Standings_a2 ?Standings_i2 ?Standings_l2 ?Standings_c2 ?Standings_k2 (fun _ _ _ _ _ _ => L2.fit2 fun _ _ => rfl), L2.dfnm_mk ?Standings_a3 ?Standings_i3 ?Standings_l3 ?Standings_c3 ?Standings_k3 (fun _ _ _ _ _ _ => L2.fit5 fun _ _ _ _ _ => rfl), L2.dfnm_mk ?Standings_a4 ?Standings_i4 ?Standings_l4 ?Standings_c4 ?Standings_k4 (fun _ _ _ _ _ _ => L2.fit5 fun _ _ _ _ _ => rfl), L2.dfnm_mk ?Standings_a5 ?Standings_i5 ?Standings_l5 ?Standings_c5 ?Standings_k5 (fun _ _ _ _ _ _ => L2.fit3 fun _ _ _ => rfl)⟩
      (case Standings_m => k_is)
      (case Standings_pg => k_is)
      (case Standings_hd => k_is)
      (case Standings_po => k_is)
      (case Standings_sa => k_is)
      (case Standings_n0 => k_is)
      (case Standings_n1 => k_is)
      (case Standings_n2 => k_is)
      (case Standings_n3 => k_is)
      (case Standings_y0 => k_is)
      (case Standings_a0 => k_is)
      (case Standings_i0 => k_is)
      (case Standings_z0 => k_is)
      (case Standings_l0 => k_is)
      (case Standings_c0 => k_is)
      (case Standings_k0 => k_is)
      (case Standings_a1 => k_is)
      (case Standings_i1 => k_is)
      (case Standings_l1 => k_is)
      (case Standings_c1 => k_is)
      (case Standings_k1 => k_is)
      (case Standings_a2 => k_is)
      (case Standings_i2 => k_is)
      (case Standings_l2 => k_is)
      (case Standings_c2 => k_is)
      (case Standings_k2 => k_is)
      (case Standings_a3 => k_is)
      (case Standings_i3 => k_is)
      (case Standings_l3 => k_is)
      (case Standings_c3 => k_is)
      (case Standings_k3 => k_is)
      (case Standings_a4 => k_is)
      (case Standings_i4 => k_is)
      (case Standings_l4 => k_is)
      (case Standings_c4 => k_is)
      (case Standings_k4 => k_is)
      (case Standings_a5 => k_is)
      (case Standings_i5 => k_is)
      (case Standings_l5 => k_is)
      (case Standings_c5 => k_is)
      (case Standings_k5 => k_is)
    have T : K42.Txt (L2.KOf KX) mg w tw ow ff cStandings := by
      refine' ⟨PySem.W.mg_none_of KX G ?t0, PySem.W.mg_none_of KX G ?t1, PySem.W.mg_none_of KX G ?t2, PySem.W.mg_none_of KX G ?t3, PySem.W.mg_none_of KX G ?t4, PySem.W.mg_none_of KX G ?t5, PySem.W.mg_none_of KX G ?t6, PySem.W.mg_none_of KX G ?t7, PySem.W.mg_none_of KX G ?t8, PySem.W.mg_none_of KX G ?t9, PySem.W.mg_none_of KX G ?t10, PySem.W.mg_none_of KX G ?t11, PySem.W.mg_none_of KX G ?t12, PySem.W.mg_none_of KX G ?t13, PySem.W.mg_none_of KX G ?t14, L2.glv_mk KX G ?t15 ?r15, L2.glv_mk KX G ?t16 ?r16, L2.glv_mk KX G ?t17 ?r17, L2.glv_mk KX G ?t18 ?r18, L2.glv_mk KX G ?t19 ?r19, L2.glv_mk KX G ?t20 ?r20, L2.glv_mk KX G ?t21 ?r21, L2.glv_mk KX G ?t22 ?r22, L2.glv_mk KX G ?t23 ?r23, L2.glv_mk KX G ?t24 ?r24, L2.glv_mk KX G ?t25 ?r25, L2.glv_mk KX G ?t26 ?r26, g_TELLING_WORDS, t_TELLING_WORDS, g_ROW_WORDS, t_ROW_WORDS, g_FORMS, f_FORMS, m_Standings, cl_Standings, n_parts, n_forms, n_numbers, n_steps⟩
      (case t0 => k_is)
      (case t1 => k_is)
      (case t2 => k_is)
      (case t3 => k_is)
      (case t4 => k_is)
      (case t5 => k_is)
      (case t6 => k_is)
      (case t7 => k_is)
      (case t8 => k_is)
      (case t9 => k_is)
      (case t10 => k_is)
      (case t11 => k_is)
      (case t12 => k_is)
      (case t13 => k_is)
      (case t14 => k_is)
      (case t15 => k_is); (case r15 => exact ⟨_, rfl⟩)
      (case t16 => k_is); (case r16 => exact ⟨_, rfl⟩)
      (case t17 => k_is); (case r17 => exact ⟨_, rfl⟩)
      (case t18 => k_is); (case r18 => exact ⟨_, rfl⟩)
      (case t19 => k_is); (case r19 => exact ⟨_, rfl⟩)
      (case t20 => k_is); (case r20 => exact ⟨_, rfl⟩)
      (case t21 => k_is); (case r21 => exact ⟨_, rfl⟩)
      (case t22 => k_is); (case r22 => exact ⟨_, rfl⟩)
      (case t23 => k_is); (case r23 => exact ⟨_, rfl⟩)
      (case t24 => k_is); (case r24 => exact ⟨_, rfl⟩)
      (case t25 => k_is); (case r25 => exact ⟨_, rfl⟩)
      (case t26 => k_is); (case r26 => exact ⟨_, rfl⟩)
    obtain ⟨c_tree_holds_by, t_tree_holds_by, d_tree_holds_by, n_tree_holds_by⟩ : ∃ c_tree_holds_by t_tree_holds_by, L2.DfnC (L2.KOf KX) mg "tree_holds_by" K42.s_tree_holds_by ["saying", "frame", "tree"] c_tree_holds_by t_tree_holds_by ∧ (L2.KOf KX).lookup t_tree_holds_by = none := by
      dsimp only [L2.KOf]
      refine' ⟨_, _, L2.dfnc_mk KX G ?a0 ?l0 ?c0 ?k0 (L2.kcode_mk ?m0 ?x0 ?y0 ?z0 ?u0 ?v0 ?w0) (fun _ _ _ _ _ _ => L2.fit3 fun _ _ _ => rfl), ?n0⟩
      (case a0 => k_is); (case l0 => k_is); (case c0 => k_is); (case k0 => k_is); (case m0 => k_is); (case x0 => rfl); (case y0 => rfl); (case z0 => rfl); (case u0 => rfl); (case v0 => rfl); (case w0 => decide)
      (case n0 => first | k_is | kernel_rfl)
    have d_is_letter_with_figures : L2.Dfn (L2.KOf KX) mg "is_letter_with_figures" K42.s_is_letter_with_figures ["thing", "letters"] := by
      dsimp only [L2.KOf]
      refine' L2.dfn_mk KX G ?a ?l ?c ?k (fun _ _ _ _ _ _ => L2.fit2 fun _ _ => rfl)
      (case a => k_is); (case l => k_is); (case c => k_is); (case k => k_is)
    have d_is_place : L2.Dfn (L2.KOf KX) mg "is_place" K42.s_is_place ["thing"] := by
      dsimp only [L2.KOf]
      refine' L2.dfn_mk KX G ?a ?l ?c ?k (fun _ _ _ _ _ _ => L2.fit1 fun _ => rfl)
      (case a => k_is); (case l => k_is); (case c => k_is); (case k => k_is)
    have d_is_set : L2.Dfn (L2.KOf KX) mg "is_set" K42.s_is_set ["thing"] := by
      dsimp only [L2.KOf]
      refine' L2.dfn_mk KX G ?a ?l ?c ?k (fun _ _ _ _ _ _ => L2.fit1 fun _ => rfl)
      (case a => k_is); (case l => k_is); (case c => k_is); (case k => k_is)
    have d_is_name : L2.Dfn (L2.KOf KX) mg "is_name" K42.s_is_name ["thing"] := by
      dsimp only [L2.KOf]
      refine' L2.dfn_mk KX G ?a ?l ?c ?k (fun _ _ _ _ _ _ => L2.fit1 fun _ => rfl)
      (case a => k_is); (case l => k_is); (case c => k_is); (case k => k_is)
    have d_is_frame : L2.Dfn (L2.KOf KX) mg "is_frame" K42.s_is_frame ["thing"] := by
      dsimp only [L2.KOf]
      refine' L2.dfn_mk KX G ?a ?l ?c ?k (fun _ _ _ _ _ _ => L2.fit1 fun _ => rfl)
      (case a => k_is); (case l => k_is); (case c => k_is); (case k => k_is)
    have d_is_of_sort : L2.Dfn (L2.KOf KX) mg "is_of_sort" K42.s_is_of_sort ["thing", "sort", "deepest"] := by
      dsimp only [L2.KOf]
      refine' L2.dfn_mk KX G ?a ?l ?c ?k (fun _ _ _ _ _ _ => L2.fit3 fun _ _ _ => rfl)
      (case a => k_is); (case l => k_is); (case c => k_is); (case k => k_is)
    have d_has_form : L2.Dfn (L2.KOf KX) mg "has_form" K42.s_has_form ["thing", "deepest"] := by
      dsimp only [L2.KOf]
      refine' L2.dfn_mk KX G ?a ?l ?c ?k (fun _ _ _ _ _ _ => L2.fit2 fun _ _ => rfl)
      (case a => k_is); (case l => k_is); (case c => k_is); (case k => k_is)
    have d_inner_sayings : L2.Dfn (L2.KOf KX) mg "inner_sayings" K42.s_inner_sayings ["saying"] := by
      dsimp only [L2.KOf]
      refine' L2.dfn_mk KX G ?a ?l ?c ?k (fun _ _ _ _ _ _ => L2.fit1 fun _ => rfl)
      (case a => k_is); (case l => k_is); (case c => k_is); (case k => k_is)
    have d_is_bare : L2.Dfn (L2.KOf KX) mg "is_bare" K42.s_is_bare ["saying"] := by
      dsimp only [L2.KOf]
      refine' L2.dfn_mk KX G ?a ?l ?c ?k (fun _ _ _ _ _ _ => L2.fit1 fun _ => rfl)
      (case a => k_is); (case l => k_is); (case c => k_is); (case k => k_is)
    have d_count_parts : L2.Dfn (L2.KOf KX) mg "count_parts" K42.s_count_parts ["saying"] := by
      dsimp only [L2.KOf]
      refine' L2.dfn_mk KX G ?a ?l ?c ?k (fun _ _ _ _ _ _ => L2.fit1 fun _ => rfl)
      (case a => k_is); (case l => k_is); (case c => k_is); (case k => k_is)
    have d_is_any_saying : L2.Dfn (L2.KOf KX) mg "is_any_saying" K42.s_is_any_saying ["thing"] := by
      dsimp only [L2.KOf]
      refine' L2.dfn_mk KX G ?a ?l ?c ?k (fun _ _ _ _ _ _ => L2.fit1 fun _ => rfl)
      (case a => k_is); (case l => k_is); (case c => k_is); (case k => k_is)
    have d_is_let : L2.Dfn (L2.KOf KX) mg "is_let" K42.s_is_let ["saying", "known", "barred", "most"] := by
      dsimp only [L2.KOf]
      refine' L2.dfn_mk KX G ?a ?l ?c ?k (fun _ _ _ _ _ _ => L2.fit4 fun _ _ _ _ => rfl)
      (case a => k_is); (case l => k_is); (case c => k_is); (case k => k_is)
    have d_is_tree_saying : L2.Dfn (L2.KOf KX) mg "is_tree_saying" K42.s_is_tree_saying ["thing", "frame"] := by
      dsimp only [L2.KOf]
      refine' L2.dfn_mk KX G ?a ?l ?c ?k (fun _ _ _ _ _ _ => L2.fit2 fun _ _ => rfl)
      (case a => k_is); (case l => k_is); (case c => k_is); (case k => k_is)
    have d_check_frame : L2.Dfn (L2.KOf KX) mg "check_frame" K42.s_check_frame ["frame"] := by
      dsimp only [L2.KOf]
      refine' L2.dfn_mk KX G ?a ?l ?c ?k (fun _ _ _ _ _ _ => L2.fit1 fun _ => rfl)
      (case a => k_is); (case l => k_is); (case c => k_is); (case k => k_is)
    have d_check_tree_frame : L2.Dfn (L2.KOf KX) mg "check_tree_frame" K42.s_check_tree_frame ["frame"] := by
      dsimp only [L2.KOf]
      refine' L2.dfn_mk KX G ?a ?l ?c ?k (fun _ _ _ _ _ _ => L2.fit1 fun _ => rfl)
      (case a => k_is); (case l => k_is); (case c => k_is); (case k => k_is)
    have d_check_tree_let : L2.Dfn (L2.KOf KX) mg "check_tree_let" K42.s_check_tree_let ["saying", "frame"] := by
      dsimp only [L2.KOf]
      refine' L2.dfn_mk KX G ?a ?l ?c ?k (fun _ _ _ _ _ _ => L2.fit2 fun _ _ => rfl)
      (case a => k_is); (case l => k_is); (case c => k_is); (case k => k_is)
    have d_is_whole : L2.Dfn (L2.KOf KX) mg "is_whole" K42.s_is_whole ["thing"] := by
      dsimp only [L2.KOf]
      refine' L2.dfn_mk KX G ?a ?l ?c ?k (fun _ _ _ _ _ _ => L2.fit1 fun _ => rfl)
      (case a => k_is); (case l => k_is); (case c => k_is); (case k => k_is)
    have d_is_below : L2.Dfn (L2.KOf KX) mg "is_below" K42.s_is_below ["thing", "bound"] := by
      dsimp only [L2.KOf]
      refine' L2.dfn_mk KX G ?a ?l ?c ?k (fun _ _ _ _ _ _ => L2.fit2 fun _ _ => rfl)
      (case a => k_is); (case l => k_is); (case c => k_is); (case k => k_is)
    have d_is_letter : L2.Dfn (L2.KOf KX) mg "is_letter" K42.s_is_letter ["thing", "tracks"] := by
      dsimp only [L2.KOf]
      refine' L2.dfn_mk KX G ?a ?l ?c ?k (fun _ _ _ _ _ _ => L2.fit2 fun _ _ => rfl)
      (case a => k_is); (case l => k_is); (case c => k_is); (case k => k_is)
    have d_count_with : L2.Dfn (L2.KOf KX) mg "count_with" K42.s_count_with ["letters", "track"] := by
      dsimp only [L2.KOf]
      refine' L2.dfn_mk KX G ?a ?l ?c ?k (fun _ _ _ _ _ _ => L2.fit2 fun _ _ => rfl)
      (case a => k_is); (case l => k_is); (case c => k_is); (case k => k_is)
    have d_each_place_once : L2.Dfn (L2.KOf KX) mg "each_place_once" K42.s_each_place_once ["frame", "letters"] := by
      dsimp only [L2.KOf]
      refine' L2.dfn_mk KX G ?a ?l ?c ?k (fun _ _ _ _ _ _ => L2.fit2 fun _ _ => rfl)
      (case a => k_is); (case l => k_is); (case c => k_is); (case k => k_is)
    have d_told : L2.Dfn (L2.KOf KX) mg "told" K42.s_told ["truth"] := by
      dsimp only [L2.KOf]
      refine' L2.dfn_mk KX G ?a ?l ?c ?k (fun _ _ _ _ _ _ => L2.fit1 fun _ => rfl)
      (case a => k_is); (case l => k_is); (case c => k_is); (case k => k_is)
    have d_sides_asked : L2.Dfn (L2.KOf KX) mg "sides_asked" K42.s_sides_asked ["word", "left", "right"] := by
      dsimp only [L2.KOf]
      refine' L2.dfn_mk KX G ?a ?l ?c ?k (fun _ _ _ _ _ _ => L2.fit3 fun _ _ _ => rfl)
      (case a => k_is); (case l => k_is); (case c => k_is); (case k => k_is)
    have d_mark_of_related : L2.Dfn (L2.KOf KX) mg "mark_of_related" K42.s_mark_of_related ["word", "one", "other", "left", "right"] := by
      dsimp only [L2.KOf]
      refine' L2.dfn_mk KX G ?a ?l ?c ?k (fun _ _ _ _ _ _ => L2.fit5 fun _ _ _ _ _ => rfl)
      (case a => k_is); (case l => k_is); (case c => k_is); (case k => k_is)
    have d_mark_of : L2.Dfn (L2.KOf KX) mg "mark_of" K42.s_mark_of ["word", "one", "other", "left", "right"] := by
      dsimp only [L2.KOf]
      refine' L2.dfn_mk KX G ?a ?l ?c ?k (fun _ _ _ _ _ _ => L2.fit5 fun _ _ _ _ _ => rfl)
      (case a => k_is); (case l => k_is); (case c => k_is); (case k => k_is)
    have d_holds_with : L2.Dfn (L2.KOf KX) mg "holds_with" K42.s_holds_with ["word", "mark"] := by
      dsimp only [L2.KOf]
      refine' L2.dfn_mk KX G ?a ?l ?c ?k (fun _ _ _ _ _ _ => L2.fit2 fun _ _ => rfl)
      (case a => k_is); (case l => k_is); (case c => k_is); (case k => k_is)
    have d_letters_of : L2.Dfn (L2.KOf KX) mg "letters_of" K42.s_letters_of ["tree"] := by
      dsimp only [L2.KOf]
      refine' L2.dfn_mk KX G ?a ?l ?c ?k (fun _ _ _ _ _ _ => L2.fit1 fun _ => rfl)
      (case a => k_is); (case l => k_is); (case c => k_is); (case k => k_is)
    have d_gone_up : L2.Dfn (L2.KOf KX) mg "gone_up" K42.s_gone_up ["tree", "first", "coming"] := by
      dsimp only [L2.KOf]
      refine' L2.dfn_mk KX G ?a ?l ?c ?k (fun _ _ _ _ _ _ => L2.fit3 fun _ _ _ => rfl)
      (case a => k_is); (case l => k_is); (case c => k_is); (case k => k_is)
    have d_tree_fits : L2.Dfn (L2.KOf KX) mg "tree_fits" K42.s_tree_fits ["frame", "tree"] := by
      dsimp only [L2.KOf]
      refine' L2.dfn_mk KX G ?a ?l ?c ?k (fun _ _ _ _ _ _ => L2.fit2 fun _ _ => rfl)
      (case a => k_is); (case l => k_is); (case c => k_is); (case k => k_is)
    have d_tree_holds : L2.Dfn (L2.KOf KX) mg "tree_holds" K42.s_tree_holds ["saying", "frame", "tree"] := by
      dsimp only [L2.KOf]
      refine' L2.dfn_mk KX G ?a ?l ?c ?k (fun _ _ _ _ _ _ => L2.fit3 fun _ _ _ => rfl)
      (case a => k_is); (case l => k_is); (case c => k_is); (case k => k_is)
    have d_law_cell_at : L2.Dfn (L2.KOf KX) mg "_law_cell_at" K42.s_law_cell_at ["_law_script", "_law_k"] := by
      dsimp only [L2.KOf]
      refine' L2.dfn_mk KX G ?a ?l ?c ?k (fun _ _ _ _ _ _ => L2.fit2 fun _ _ => rfl)
      (case a => k_is); (case l => k_is); (case c => k_is); (case k => k_is)
    have d_law_size : L2.Dfn (L2.KOf KX) mg "_law_size" K42.s_law_size ["_law_tree"] := by
      dsimp only [L2.KOf]
      refine' L2.dfn_mk KX G ?a ?l ?c ?k (fun _ _ _ _ _ _ => L2.fit1 fun _ => rfl)
      (case a => k_is); (case l => k_is); (case c => k_is); (case k => k_is)
    have d_law_trees : L2.Dfn (L2.KOf KX) mg "_law_trees" K42.s_law_trees ["_law_cells", "_law_letters", "_law_most"] := by
      dsimp only [L2.KOf]
      refine' L2.dfn_mk KX G ?a ?l ?c ?k (fun _ _ _ _ _ _ => L2.fit3 fun _ _ _ => rfl)
      (case a => k_is); (case l => k_is); (case c => k_is); (case k => k_is)
    have d_law_roads : L2.Dfn (L2.KOf KX) mg "_law_roads" K42.s_law_roads ["_law_tree", "_law_road"] := by
      dsimp only [L2.KOf]
      refine' L2.dfn_mk KX G ?a ?l ?c ?k (fun _ _ _ _ _ _ => L2.fit2 fun _ _ => rfl)
      (case a => k_is); (case l => k_is); (case c => k_is); (case k => k_is)
    have d_law_lettered : L2.Dfn (L2.KOf KX) mg "_law_lettered" K42.s_law_lettered ["_law_tree", "_law_road", "_law_marks"] := by
      dsimp only [L2.KOf]
      refine' L2.dfn_mk KX G ?a ?l ?c ?k (fun _ _ _ _ _ _ => L2.fit3 fun _ _ _ => rfl)
      (case a => k_is); (case l => k_is); (case c => k_is); (case k => k_is)
    have d_law_due : L2.Dfn (L2.KOf KX) mg "_law_due" K42.s_law_due ["_law_word", "_law_one", "_law_other"] := by
      dsimp only [L2.KOf]
      refine' L2.dfn_mk KX G ?a ?l ?c ?k (fun _ _ _ _ _ _ => L2.fit3 fun _ _ _ => rfl)
      (case a => k_is); (case l => k_is); (case c => k_is); (case k => k_is)
    have d_law_words : L2.Dfn (L2.KOf KX) mg "_law_words" K42.s_law_words ["_law_one", "_law_other"] := by
      dsimp only [L2.KOf]
      refine' L2.dfn_mk KX G ?a ?l ?c ?k (fun _ _ _ _ _ _ => L2.fit2 fun _ _ => rfl)
      (case a => k_is); (case l => k_is); (case c => k_is); (case k => k_is)
    have d_law_some : L2.Dfn (L2.KOf KX) mg "_law_some" K42.s_law_some ["_law_roads_here", "_law_number", "_law_single"] := by
      dsimp only [L2.KOf]
      refine' L2.dfn_mk KX G ?a ?l ?c ?k (fun _ _ _ _ _ _ => L2.fit3 fun _ _ _ => rfl)
      (case a => k_is); (case l => k_is); (case c => k_is); (case k => k_is)
    have d_law_right : L2.Dfn (L2.KOf KX) mg "_law_right" K42.s_law_right ["_law_frame", "_law_tree", "_law_marks", "_law_fit"] := by
      dsimp only [L2.KOf]
      refine' L2.dfn_mk KX G ?a ?l ?c ?k (fun _ _ _ _ _ _ => L2.fit4 fun _ _ _ _ => rfl)
      (case a => k_is); (case l => k_is); (case c => k_is); (case k => k_is)
    have L : ∃ fd : FuncData, (∀ (s : Shared) (v : Value), BindsTo s fd ⟨[v], []⟩ [("_law_script", v)]) ∧ L2.Fun (L2.KOf KX) "law" "law" K42.s_law fa fd := by
      dsimp only [L2.KOf]
      refine' L2.law_mk KX G hmg ?a ?l ?c ?k ?b
      (case a => k_is); (case l => k_is); (case c => k_is); (case k => k_is)
      exact fun s u => .of_eq rfl
    obtain ⟨fd, hb, F⟩ := L
    exact ⟨fd, [(t_tree_holds_by, K42.qs_tree_holds_by)], hb, L2.ts_all (List.forall_mem_cons.mpr ⟨⟨d_tree_holds_by.tab (by decide +kernel), n_tree_holds_by⟩, fun _ z => nomatch z⟩), fun base _ _ kb => K42.all T d_is_letter_with_figures d_is_place d_is_set d_is_name d_is_frame d_is_of_sort d_has_form d_inner_sayings d_is_bare d_count_parts d_is_any_saying d_is_let d_is_tree_saying d_check_frame d_check_tree_frame d_check_tree_let d_is_whole d_is_below d_is_letter d_count_with d_each_place_once d_told d_sides_asked d_mark_of_related d_mark_of d_holds_with d_Standings___init__ d_Standings_part_of d_Standings_of_nothing d_Standings_above d_Standings_above_unsettled d_Standings_with_whole d_letters_of d_gone_up d_tree_fits d_tree_holds_by d_tree_holds d_law_cell_at d_law_size d_law_trees d_law_roads d_law_lettered d_law_due d_law_words d_law_some d_law_right  kb F⟩
#print axioms PySem.Challenge.cw_setsays_k42_bare_ones_of_trees_holds
