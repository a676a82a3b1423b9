import PyProof.Rows.All
import Wide.All
import OpenK.AllK
import Wide.FinOn
import Lean
import PyProof.EqAt
import PyProof.EqKinds
import PyProof.TupleCall
import PyProof.CodeObjX
import PyProof.NeKinds
import PyProof.ZipIter
import PyProof.EnumStmt
import PyProof.EnumMake
import KE.KDictOf
import PyProof.AttrMissHeap
import PyProof.Rows.SeqMore2
import PyProof.Rows.MinMaxN
import PyProof.DefMake
import PyProof.DefStmt
import PyProof.RaisesMany
import PyProof.ExcClass2
import PyProof.Rows.Own
import PyProof.Rows.CatchOwn
import PyProof.RulesDel
import PyProof.ListNew
import KE.KIsAll
import PyProof.IsiH_list
import PyProof.ExcArgsOwn
import OpenK.KOwn
import PyProof.ExcBaseAll.ValueError
import PyProof.FString5
import PyProof.ListMulRoad
import PyProof.FactsAll.tuple_2
import PyProof.Rows.Range3
import PySem.Challenge.RW_setsays_k32_bare_machines
set_option Elab.async false
set_option maxRecDepth 100000
open List renaming getElem?_eq_getElem → y00, length_map → y01, getD_eq_getElem?_getD → y02, getElem?_map → y04, mem_cons → y05, size_toArray → y07, mem_cons_of_mem → y09, not_mem_nil → y0a, getElem?_eq_some_iff → y0b, mem_cons_self → y0c, getElem_mem → y0g, mem_of_getElem? → y0h, length_cons → y0i, length_append → y0j, map_cons → y0k, mem_map → y0m, take_of_length_le → y0n, mem_singleton → y0o, all_eq_true → y0p, map_map → y0r, idxOf_lt_length_iff → y0s, getElem?_cons_succ → y0t, length_nil → y0v, length_take → y0w, getElem?_append_right → y0x, nodup_cons → y0y, map_append → y0z, getElem?_append_left → y11, lookup_cons → y12, append_nil → y13, mem_range → y15, length_range → y17, set_cons_zero → y18, length_singleton → y19, mem_append_right → y1e, mem_append → y1f, take_add_one → y1g, length_filter_le → y1i, getElem?_range → y1j, getElem?_eq_none → y1m, forIn_cons → y1n, all_cons → y1o, filter_cons → y1p, filter_cons_of_pos → y1r, filter_cons_of_neg → y1s, map_congr_left → y1u, range_succ_eq_map → y1x, length_eq_one_iff → y1y, any_eq_true → y20, all_map → y22, forIn_nil → y24, of_mem_zip → y25, getElem_of_mem → y28, getD_cons_zero → y29, ext_getElem → y2a, getElem_idxOf → y2b, mem_filter → y2d, find?_cons → y2e, zipIdx_cons → y2i, zipIdx_nil → y2j, range_succ → y2k, length_eq_zero_iff → y2l, idxOf_cons → y2m, getElem?_replicate → y2n, filter_append → y2o, drop_eq_nil_of_le → y2s, length_replicate → y2t, filterMap_cons → y2w, set_cons_succ → y2z, map_nil → y30, getElem?_zip_eq_some → y32, drop_eq_getElem_cons → y33, append_assoc → y37, any_cons → y38, length_drop → y3a, getElem?_set_self → y3c, mem_iff_getElem? → y3f, getElem?_set_ne → y3h, nodup_nil → y3i, sum_cons → y3k, nodup_append → y3m, ext_getElem? → y3n, any_eq_false → y3o, take_append_of_le_length → y3r, getElem_map → y3s, cons_append → y3t, length_erase_of_mem → y3y, getElem?_take_of_lt → y3z, getElem?_cons_zero → y40, length_pos_of_mem → y41
open PySem.Heap renaming get?_push_of_some → y03, lt_size → y0d, get?_push_size → y0e, size_push → y16, get?_update_other → y1z, get?_update_self → y23
open Nat renaming le_refl → y06, ne_of_lt → y0l, lt_of_lt_of_le → y0q, le_trans → y10, zero_le → y1b, le_add_right → y1c, le_of_lt → y1t, ne_of_gt → y26, lt_irrefl → y27, pow_le_pow_right → y2f, succ_le_succ → y2g, le_of_not_lt → y2h, lt_succ_self → y2u, mul_le_mul_right → y2v, mul_comm → y2y, lt_succ_of_lt → y36, le_of_succ_le_succ → y3b, two_pow_pos → y3d, lt_trans → y3e, not_succ_le_zero → y3g, lt_of_le_of_lt → y3j, zero_add → y3p, not_lt_zero → y3u, le_succ → y3v, mod_lt → y3x, le_of_eq → y42
open Bool renaming and_eq_true → y08, false_ne_true → y0f, true_and → y1a, false_eq_true → y1d, eq_false_iff → y1h, false_and → y1k, and_false → y1q, eq_iff_iff → y1v, and_true → y2r, or_eq_true → y2x, not_false → y34, not_true → y39, true_or → y43
open Option renaming getD_some → y0u, map_eq_some_iff → y14, toList_some → y21, map_some → y2c, isSome_iff_exists → y35, isSome_map → y3l, getD_none → y3q
open Int renaming toNat_natCast → y1l, emod_nonneg → y2p, emod_lt_of_pos → y2q, zero_add → y31, fdiv_eq_ediv_of_nonneg → y3w
open Array renaming length_toList → y1w
open PySem PySem.Spec PyProof.Rows
open PySem.W (Frag)
abbrev T0 := Value → Shared → Prop
abbrev T1 := Str → Option Value
abbrev T2 := List (Addr × Obj)
abbrev T3 := List (Pos × Str)
abbrev T4 := List (Str × Addr)
abbrev T6 := List (Nat × Str)
abbrev T8 := Array (Option Value)
abbrev T9 := Option Value → Shared → Prop
set_option hygiene false in
local macro_rules
| `(tactic| ac_rfl) => `(tactic| intro X hP hw hK hc i pins s σ H E I hf st hg)
set_option hygiene false in
local macro_rules
| `(tactic| infer_instance) => `(tactic| intro pins s σ H x y v u Q I rx ry h)
set_option hygiene false in
local macro_rules
| `(tactic| exfalso) => `(tactic| show wpAny _ _ (Builtin.SmallTypes.nextOf (.ref j1) >>= _) _ _ _)
namespace L2
abbrev Key := Sum Int Str
def blI (b : Bool) : Int := if b = true then 1 else 0
def isBl (k : Int) : Value → Bool
 | .bool b => k == blI b
 | _ => false
def keyIs : Key → Value → Bool
 | .inl k, v => Value.isInt k v || isBl k v
 | .inr x, v => Value.isStrOf x v
def keyH (w : World) : Key → Int
 | .inl k => hashInt k
 | .inr x => hashStr w x
theorem zl9 {k : Int} : ∀ {v : Value}, isBl k v = true → ∃ b, k = blI b ∧ v = Value.bool b := by
 intro v h
 cases v
 case bool b => exact ⟨b, eq_of_beq h, rfl⟩
 all_goals exact absurd h y0f
theorem zaz : ∀ {k : Key} {v : Value}, keyIs k v = true → (∃ i t, k = Sum.inl i ∧ v = Value.int i t) ∨ (∃ x t, k = Sum.inr x ∧ v = Value.str x t) ∨ ∃ b, k = Sum.inl (blI b) ∧ v = Value.bool b
 | .inl i, v, h => by
  rcases (y2x _ _).mp (show (Value.isInt i v || isBl i v) = true from h) with h | h
  ·obtain ⟨t, e⟩ := Value.isInt_shape (k := i) (v := v) h
   exact .inl ⟨i, t, rfl, e⟩
  ·obtain ⟨b, e, e'⟩ := zl9 h
   exact .inr (.inr ⟨b, by rw [e], e'⟩)
 | .inr x, v, h => by
  obtain ⟨t, e⟩ := Value.isStrOf_shape (x := x) (v := v) h
  exact .inr (.inl ⟨x, t, rfl, e⟩)
theorem zoa (i : Int) (t : Tok) : keyIs (.inl i) (.int i t) = true := by simp [keyIs, Value.isInt]
theorem zq6 (b : Bool) : keyIs (.inl (blI b)) (.bool b) = true := by simp [keyIs, isBl]
theorem blI_inj {a b : Bool} (e : blI a = blI b) : a = b := by
 cases a <;> cases b <;> first | rfl | exact absurd e (by decide)
theorem ztw {prog : Program} {w : World} {A : Around} {E : T0} {s : Shared} {b : Bool} {Q : Int → Shared → Prop} (h : Q (hashInt (blI b)) { s with toks := s.toks + 1 }) : wpAny (model prog w) A (pyHash (.bool b)) Q E s := by
 have hT : s.TypeIs (.bool b) "bool" := rfl
 have hr := rawHash_range (blI b)
 unfold pyHash
 refine wpAny_bind ?_
 rw [cRoomFor, if_neg (show ¬ [Value.bool b].any Value.onHeap = true from y0f)]
 refine wpAny_pure (wpAny_bind (wpAny_specialOf hT PySem.F.slot_bool_hash.lookup ?_))
 show wpAny _ _ (if (some (Value.builtin "int.__hash__") == some Value.none) = true then _ else _) Q E s
 rw [if_neg (show ¬ (some (Value.builtin "int.__hash__") == some Value.none) = true from y0f)]
 refine wpAny_bind (wpAny_specialOf hT PySem.F.slot_bool_hash.lookup ?_)
 show wpAny _ _ (callSpecialIfBoundUnlessNone? (.bool b) "__hash__" _ >>= _) Q E s
 refine wpAny_bind (wpAny_callSpecialIfBoundUnlessNone?_slot hT PySem.F.slot_bool_hash (wpAny_call_entry PySem.F.slot_bool_hash hT PySem.F.entry_int_hash ?_ (PySem.F.args_int_hash_1 _)))
 refine (show wpAny _ _ (do ret (← mkInt (rawHash (blI b)))) _ _ s from wpAny_ret_mkInt ?_)
 show wpAny _ _ (if (decide (-(2 : Int) ^ 63 ≤ rawHash (blI b)) && decide (rawHash (blI b) < 2 ^ 63)) = true then _ else _) Q E _
 rw [if_pos (by rw [decide_eq_true hr.1, decide_eq_true hr.2]; rfl)]
 exact wpAny_pure h
theorem zn9 (x : Str) (t : Tok) : keyIs (.inr x) (.str x t) = true := by simp [keyIs, Value.isStrOf]
theorem zkv (a b : Int) : decide ((Sum.inl a : Key) = Sum.inl b) = (a == b) := by
 by_cases e : a = b
 ·subst e; simp
 ·have h : ¬ (Sum.inl a : Key) = Sum.inl b := fun q => e (Sum.inl.inj q)
  rw [decide_eq_false h]
  exact (beq_eq_false_iff_ne.mpr e).symm
theorem key_rr (a b : Str) : decide ((Sum.inr a : Key) = Sum.inr b) = decide (a = b) := by
 by_cases e : a = b
 ·subst e; simp
 ·have h : ¬ (Sum.inr a : Key) = Sum.inr b := fun q => e (Sum.inr.inj q)
  rw [decide_eq_false h, decide_eq_false e]
theorem zr8 (a : Int) (b : Str) : decide ((Sum.inl a : Key) = Sum.inr b) = false := decide_eq_false (fun q => nomatch q)
theorem zr7 (a : Str) (b : Int) : decide ((Sum.inr a : Key) = Sum.inl b) = false := decide_eq_false (fun q => nomatch q)
def mixKind (prog : Program) (w : World) : PySem.KeyKind prog w Key where
 is := keyIs
 hash := keyH w
 inj := fun v a b ha hb => by
  rcases zaz ha with ⟨i, t, rfl, rfl⟩ | ⟨x, t, rfl, rfl⟩ | ⟨c, rfl, rfl⟩
  ·rcases zaz hb with ⟨j, u, rfl, e⟩ | ⟨y, u, rfl, e⟩ | ⟨d, rfl, e⟩
   ·injection e with e1 _; rw [e1]
   ·exact nomatch e
   ·exact nomatch e
  ·rcases zaz hb with ⟨j, u, rfl, e⟩ | ⟨y, u, rfl, e⟩ | ⟨d, rfl, e⟩
   ·exact nomatch e
   ·injection e with e1 _; rw [e1]
   ·exact nomatch e
  ·rcases zaz hb with ⟨j, u, rfl, e⟩ | ⟨y, u, rfl, e⟩ | ⟨d, rfl, e⟩
   ·exact nomatch e
   ·exact nomatch e
   ·injection e with e1; rw [e1]
 byValue := fun k v h => by
  rcases zaz h with ⟨i, t, rfl, rfl⟩ | ⟨x, t, rfl, rfl⟩ | ⟨c, rfl, rfl⟩ <;> rfl
 pyHash := fun hv h => by
  rcases zaz hv with ⟨i, t, rfl, rfl⟩ | ⟨x, t, rfl, rfl⟩ | ⟨c, rfl, rfl⟩
  ·exact wpAny_pyHash_int h
  ·exact wpAny_pyHash_str h
  ·exact ztw h
 eqBool := fun hu hv h => by
  rcases zaz hu with ⟨i, t, rfl, rfl⟩ | ⟨x, t, rfl, rfl⟩ | ⟨c, rfl, rfl⟩
  ·rcases zaz hv with ⟨j, u, rfl, rfl⟩ | ⟨y, u, rfl, rfl⟩ | ⟨d, rfl, rfl⟩
   ·rw [zkv] at h; exact wpAny_eqBool_int h
   ·rw [zr8] at h; exact SeqAt.EqAt.int_str i t y u _ _ _ _ h
   ·rw [zkv] at h; exact SeqAt.EqAt.int_bool i t d _ _ _ _ h
  ·rcases zaz hv with ⟨j, u, rfl, rfl⟩ | ⟨y, u, rfl, rfl⟩ | ⟨d, rfl, rfl⟩
   ·rw [zr7] at h; exact SeqAt.EqAt.str_int x t j u _ _ _ _ h
   ·rw [key_rr] at h; exact wpAny_eqBool_str h
   ·rw [zr7] at h; exact SeqAt.EqAt.str_bool x t d _ _ _ _ h
  ·rcases zaz hv with ⟨j, u, rfl, rfl⟩ | ⟨y, u, rfl, rfl⟩ | ⟨d, rfl, rfl⟩
   ·rw [zkv] at h; exact SeqAt.EqAt.bool_int c j u _ _ _ _ h
   ·rw [zr8] at h; exact SeqAt.EqAt.bool_str c y u _ _ _ _ h
   ·rw [zkv, show (blI c == blI d) = (c == d) by cases c <;> cases d <;> rfl] at h
    exact SeqAt.EqAt.bool_bool c d _ _ _ _ h
 «strs» := fun k x t v h => by
  rcases zaz h with ⟨i, u, rfl, e⟩ | ⟨y, u, rfl, e⟩ | ⟨d, rfl, e⟩
  ·exact nomatch e
  ·injection e with e1 _
   subst e1
   cases v <;> rfl
  ·exact nomatch e
theorem zjb (prog : Program) (w : World) (i : Int) (t : Tok) : (mixKind prog w).is (.inl i) (.int i t) = true := zoa i t
theorem zja (prog : Program) (w : World) (x : Str) (t : Tok) : (mixKind prog w).is (.inr x) (.str x t) = true := zn9 x t
inductive V where
 | non | bl (b : Bool) | int (i : Int) | str (x : Str) | byt (b : Array UInt8) | flt (b : UInt64) | ref (a : Addr) | ty (n : String)
 deriving DecidableEq
def RelV : V → Value → Prop
 | .non, u => u = Value.none
 | .bl b, u => u = Value.bool b
 | .int i, u => ∃ t, u = Value.int i t
 | .str x, u => ∃ t, u = Value.str x t
 | .byt b, u => ∃ t, u = Value.bytes b t
 | .flt b, u => ∃ t, u = Value.float b t
 | .ref a, u => u = Value.ref a
 | .ty n, u => u = Value.type n
abbrev Vals : List V → List Value → Prop := Paired RelV
theorem Vals.length {xs : List V} {us : List Value} (r : Vals xs us) : xs.length = us.length := Paired.length r
theorem Vals.get : ∀ {xs : List V} {us : List Value} {i : Nat} {x : V}, Vals xs us → xs[i]? = some x → ∃ u, us[i]? = some u ∧ RelV x u
 | _, _, _, _, .nil, e => by simp at e
 | _, _, 0, _, .cons r _, e => by simp at e; subst e; exact ⟨_, rfl, r⟩
 | _, _, i + 1, x, .cons _ t, e => by
  obtain ⟨u, h1, h2⟩ := Vals.get (i := i) (x := x) t (by simpa using e)
  exact ⟨u, by simpa using h1, h2⟩
theorem Vals.set {x : V} {u : Value} (r : RelV x u) : ∀ {xs : List V} {us : List Value} (i : Nat), Vals xs us → Vals (xs.set i x) (us.set i u)
 | _, _, _, .nil => .nil
 | _, _, 0, .cons _ t => .cons r t
 | _, _, i + 1, .cons q t => .cons q (Vals.set r i t)
theorem Vals.append : ∀ {xs ys : List V} {us ws : List Value}, Vals xs us → Vals ys ws → Vals (xs ++ ys) (us ++ ws)
 | _, _, _, _, .nil, s => s
 | _, _, _, _, .cons r t, s => .cons r (Vals.append t s)
theorem Vals.take : ∀ {xs : List V} {us : List Value} (n : Nat), Vals xs us → Vals (xs.take n) (us.take n)
 | _, _, 0, _ => .nil
 | _, _, _ + 1, .nil => .nil
 | _, _, n + 1, .cons r t => .cons r (Vals.take n t)
theorem Vals.drop : ∀ {xs : List V} {us : List Value} (n : Nat), Vals xs us → Vals (xs.drop n) (us.drop n)
 | _, _, 0, r => r
 | _, _, _ + 1, .nil => .nil
 | _, _, n + 1, .cons _ t => Vals.drop n t
def RelO : Option V → Option Value → Prop
 | some v, some u => RelV v u
 | none, none => True
 | _, _ => False
def KV {κ : Type} : List (κ × V) → List (κ × Value) → Prop := Paired fun (p : κ × V) (q : κ × Value) => p.1 = q.1 ∧ RelV p.2 q.2
def kV : Key → V
 | .inl i => .int i
 | .inr x => .str x
inductive HO where
  | lst (xs : List V)
  | tup (xs : List V)
  | dK (kvs : List (Key × V)) | dT (kvs : List (List Key × V))
  | set (S : Int → Bool) (n : Nat)
  | ins (C dx : Addr) (fs : List (Str × V))
  | own (x : Addr)
  | xd (fs : List (Str × V))
  | met (f x : Addr)
  | rng (lo hi : Int)
  | frz (o : Obj) (u : HO)
  | tbl (qs : T3) (ps : Array Value)
  | ext (φ : Heap → Prop)
abbrev Hp := Addr → Option HO
def upd (H : Hp) (a : Addr) (o : HO) : Hp := fun b => if b = a then some o else H b
theorem zar {H : Hp} {a : Addr} {o : HO} : upd H a o a = some o := by unfold upd; rw [if_pos rfl]
theorem zal {H : Hp} {a b : Addr} {o : HO} (h : b ≠ a) : upd H a o b = H b := by unfold upd; rw [if_neg h]
theorem zn0 {H : Hp} {a b : Addr} {o u : HO} (h : H a = some o) (h' : H b = some u) (d : o ≠ u) : a ≠ b := by
 intro e; subst e; rw [h] at h'; exact d (Option.some.inj h')
theorem zao {H : Hp} {a b : Addr} {o : HO} (h : H a = some o) (h' : H b = none) : a ≠ b := by
 intro e; subst e; rw [h] at h'; cases h'
section
variable (P : Program) (w : World)
def CodeObj (o : Obj) (q : Str) : Prop := ∃ vs t, o.data = .fields vs ∧ vs[1]? = some (.str q t)
def ObjOk (H : Hp) (h : Heap) (a : Addr) : HO → Prop
 | .lst xs => xs.length ≤ sizeLine ∧ ∃ (its : List Value) (n : Nat), Vals xs its ∧ h.get? a = some { cls := .type "list", data := .seq its.toArray n }
 | .tup xs => xs.length ≤ sizeLine ∧ ∃ its : List Value, Vals xs its ∧ IsTup h a its.toArray
 | .dK kvs => kvs.length ≤ sizeLine ∧ (a == sysModules) = false ∧ ∃ vs, KV kvs vs ∧ h.DictOf (mixKind P w) a vs
 | .dT kvs => kvs.length ≤ sizeLine ∧ (a == sysModules) = false ∧ ∃ xs : List (List Key × Addr × Value),
   Paired (fun (p : List Key × V) (q : List Key × Addr × Value) => p.1 = q.1 ∧ H q.2.1 = some (.tup (p.1.map kV)) ∧ RelV p.2 q.2.2) kvs xs ∧
   ∃ o es ep, h.get? a = some o ∧ o.ExactDict ∧ o.data = .dict es ep ∧ es.toList = xs.map (entryOfKey (tupleKind (mixKind P w))) ∧ (xs.map (·.1)).Nodup
 | .set S n => h.SetOf (intKind P w) a S n
 | .ins C dx fs => H dx = some (.own a) ∧ fs.length ≤ 1000 ∧ dx ≠ a ∧ h.get? a = some (PySem.W.instObj C dx) ∧
   ∃ mA, h.Ns1 dx mA ∧ (∀ f, RelO (fs.lookup f) (mA f)) ∧ PySem.Within mA (fs.map (·.1))
 | .own _ => ∃ o, h.get? a = some o
 | .xd fs => ∃ mA, h.Ns1 a mA ∧ ∀ f, RelO (fs.lookup f) (mA f)
 | .rng lo hi => ∃ t u v, h.get? a = some { cls := .type "range", data := .fields #[.int lo t, .int hi u, .int 1 v] }
 | .frz o u => h.get? a = some o ∧ ObjOk H h a u
 | .tbl qs ps => ∃ more : Array Value, h.get? a = some { cls := .none, data := .fields (ps ++ more) } ∧ TriplesOk (ps ++ more).toList ∧ ∀ p ∈ qs, ∀ v, codeAmong p.1 (ps ++ more).toList = some v → ∃ c o, v = .ref c ∧ H c = some (.frz o (.own c)) ∧ CodeObj o p.2
 | .met f x => h.get? a = some (PySem.W.methodObj (.ref f) (.ref x))
 | .ext φ => φ h ∧ (∃ o, h.get? a = some o) ∧ ∀ h1 h2 : Heap, φ h1 → (∀ o, h1.get? a = some o → h2.get? a = some o) → φ h2
def HOk (H : Hp) (h : Heap) : Prop := ∀ a o, H a = some o → ObjOk P w H h a o
end
section
variable {P : Program} {w : World} {H H' : Hp} {h h' : Heap} {a : Addr} {o : HO}
theorem ObjOk.lt (x : ObjOk P w H h a o) : a < h.objs.size := by
 cases o with
 | lst xs => obtain ⟨_, _, _, _, e⟩ := x; exact y0d e
 | tup xs => obtain ⟨_, _, _, p⟩ := x; exact p.lt
 | dK kvs => obtain ⟨_, _, _, _, o, _, _, e, _⟩ := x; exact y0d e
 | dT kvs => obtain ⟨_, _, _, _, o, _, _, e, _⟩ := x; exact y0d e
 | set S n => obtain ⟨o, _, _, _, e, _⟩ := x; exact y0d e
 | ins C dx fs => obtain ⟨_, _, _, e, _⟩ := x; exact y0d e
 | own y => obtain ⟨_, e⟩ := x; exact y0d e
 | xd fs => obtain ⟨_, ⟨_, _, _, e, _⟩, _⟩ := x; exact y0d e
 | rng lo hi => obtain ⟨_, _, _, e⟩ := x; exact y0d e
 | frz ob u => obtain ⟨e, _⟩ := x; exact y0d e
 | tbl qs ps => obtain ⟨_, e, _⟩ := x; exact y0d e
 | met f y => exact y0d (show h.get? a = some _ from x)
 | ext φ => obtain ⟨_, ⟨_, e⟩, _⟩ := x; exact y0d e
theorem Paired.mapP {α β : Type} {F G : α → β → Prop} : ∀ {l₁ : List α} {l₂ : List β}, Paired F l₁ l₂ → (∀ a b, F a b → G a b) → Paired G l₁ l₂
 | _, _, .nil, _ => .nil
 | _, _, .cons r t, f => .cons (f _ _ r) (Paired.mapP t f)
theorem ObjOk.stay (x : ObjOk P w H h a o) (k : ∀ b u, (b = a ∨ H b = some (.own a)) → h.get? b = some u → h'.get? b = some u)
  (ho : ∀ b, H b = some (.own a) → H' b = some (.own a)) (hf : ∀ b o u q, CodeObj o q → H b = some (.frz o u) → H' b = some (.frz o u)) (ht : ∀ b xs, H b = some (.tup xs) → H' b = some (.tup xs)) : ObjOk P w H' h' a o := by
 induction o with
 | lst xs => obtain ⟨z, its, n, r, e⟩ := x; exact ⟨z, its, n, r, k _ _ (.inl rfl) e⟩
 | tup xs => obtain ⟨z, its, r, ob, e, c⟩ := x; exact ⟨z, its, r, ob, k _ _ (.inl rfl) e, c⟩
 | dK kvs => obtain ⟨z, y, vs, r, ob, es, ep, e, c⟩ := x; exact ⟨z, y, vs, r, ob, es, ep, k _ _ (.inl rfl) e, c⟩
 | dT kvs =>
  obtain ⟨z, y, xs, r, ob, es, ep, e, c⟩ := x
  exact ⟨z, y, xs, Paired.mapP r fun p q z => ⟨z.1, ht _ _ z.2.1, z.2.2⟩, ob, es, ep, k _ _ (.inl rfl) e, c⟩
 | set S n => obtain ⟨ob, es, ep, t, e, c⟩ := x; exact ⟨ob, es, ep, t, k _ _ (.inl rfl) e, c⟩
 | ins C dx fs =>
  obtain ⟨d, z, ne, e, mA, ⟨od, es, ep, e2, c⟩, r⟩ := x
  exact ⟨ho _ d, z, ne, k _ _ (.inl rfl) e, mA, ⟨od, es, ep, k _ _ (.inr d) e2, c⟩, r⟩
 | own y => obtain ⟨ob, e⟩ := x; exact ⟨ob, k _ _ (.inl rfl) e⟩
 | xd fs => obtain ⟨mA, ⟨od, es, ep, e, c⟩, r⟩ := x; exact ⟨mA, ⟨od, es, ep, k _ _ (.inl rfl) e, c⟩, r⟩
 | rng lo hi => obtain ⟨t, u, v, e⟩ := x; exact ⟨t, u, v, k _ _ (.inl rfl) e⟩
 | frz ob u ih => obtain ⟨e, q⟩ := x; exact ⟨k _ _ (.inl rfl) e, ih q⟩
 | tbl qs ps => obtain ⟨more, e, t, c⟩ := x; exact ⟨more, k _ _ (.inl rfl) e, t, fun p hp v q => let ⟨c1, o, r, z, co⟩ := c p hp v q; ⟨c1, o, r, hf _ _ _ _ co z, co⟩⟩
 | met f y =>
  have e : h.get? a = some (PySem.W.methodObj (.ref f) (.ref y)) := x
  show h'.get? a = some (PySem.W.methodObj (.ref f) (.ref y))
  exact k a _ (.inl rfl) e
 | ext φ => obtain ⟨p, ⟨o, e⟩, st⟩ := x; exact ⟨st _ _ p fun o q => k _ _ (.inl rfl) q, ⟨o, k _ _ (.inl rfl) e⟩, st⟩
theorem HOk.lt (x : HOk P w H h) (e : H a = some o) : a < h.objs.size := (x a o e).lt
theorem HOk.fresh (x : HOk P w H h) (e : h.objs.size ≤ a) : H a = none := by
 cases q : H a with
 | none => rfl
 | some u => exact absurd (y0q (x.lt q) e) (y27 _)
theorem HOk.kept (x : HOk P w H h) (k : ∀ b u, h.get? b = some u → h'.get? b = some u) : HOk P w H h' := fun a o e =>
 (x a o e).stay (fun b u _ q => k b u q) (fun _ q => q) (fun _ _ _ _ _ q => q) fun _ _ q => q
theorem HOk.laid (x : HOk P w H h) (k : ∀ b u, h.get? b = some u → h'.get? b = some u) (hp : h.objs.size ≤ a) (new : ObjOk P w (upd H a o) h' a o) : HOk P w (upd H a o) h' := fun b u e => by
 have hn := x.fresh hp
 by_cases hb : b = a
 ·subst hb; rw [zar] at e; cases e; exact new
 ·rw [zal hb] at e
  exact (x b u e).stay (fun c v _ q => k c v q) (fun c q => by rw [zal (zao q hn)]; exact q) (fun c _ _ _ _ q => by rw [zal (zao q hn)]; exact q) fun c xs q => by rw [zal (zao q hn)]; exact q
end
def Rd (H : Hp) (a : Addr) (u : HO) : Prop := H a = some u ∨ ∃ o, H a = some (.frz o u)
theorem Rd.ok {P : Program} {w : World} {H : Hp} {h : Heap} {a : Addr} {u : HO} (r : Rd H a u) (x : HOk P w H h) : ObjOk P w H h a u := by
 rcases r with r | ⟨o, r⟩
 ·exact x a u r
 ·obtain ⟨_, q⟩ := x a _ r
  exact q
def Mut : Option HO → Prop
 | some (.lst _) => True
 | some (.dK _) => True
 | some (.dT _) => True
 | some (.set _ _) => True
 | some (.ins _ _ _) => True
 | some (.ext _) => True
 | _ => False
section
variable {P : Program} {w : World} {H : Hp} {h h' : Heap} {x e : Addr} {o' : HO}
theorem HOk.write (ok : HOk P w H h) (mu : Mut (H x)) (he : e = x ∨ H e = some (.own x)) (k : ∀ b u, b ≠ e → h.get? b = some u → h'.get? b = some u) (heo : ∃ u, h'.get? e = some u)
  (new : ObjOk P w (upd H x o') h' x o') : HOk P w (upd H x o') h' := fun b u q => by
 have nown : ∀ c y, H c = some (.own y) → c ≠ x := fun c y r z => by subst z; rw [r] at mu; exact mu
 have ntup : ∀ c xs, H c = some (.tup xs) → c ≠ x := fun c xs r z => by subst z; rw [r] at mu; exact mu
 have nfrz : ∀ c o y, H c = some (.frz o y) → c ≠ x := fun c o y r z => by subst z; rw [r] at mu; exact mu
 by_cases hb : b = x
 ·subst hb; rw [zar] at q; cases q; exact new
 ·rw [zal hb] at q
  by_cases hbe : b = e
  ·have q' : H b = some (.own x) := by
    rcases he with z | z
    ·exact absurd (hbe.trans z) hb
    ·rw [hbe]; exact z
   rw [q] at q'; cases q'
   obtain ⟨v, hv⟩ := heo
   exact ⟨v, by rw [hbe]; exact hv⟩
  ·refine (ok b u q).stay (fun c v hc r => k c v ?_ r) (fun c r => by rw [zal (nown c b r)]; exact r) (fun c o y _ _ r => by rw [zal (nfrz c o y r)]; exact r) fun c xs r => by rw [zal (ntup c xs r)]; exact r
   rcases hc with rfl | hc
   ·exact hbe
   ·rintro rfl
    rcases he with z | z
    ·exact nown c b hc z
    ·rw [hc] at z; cases z; exact hb rfl
end
structure Un (fs ex : List Addr) (H H' : Hp) (h h' : Heap) : Prop where
 keep : ∀ b o, h.get? b = some o → H b = none → b ∉ fs → b ∉ ex → h'.get? b = some o
 slot : ∀ b o, h.get? b = some o → H b = none → b ∈ fs → b ∉ ex → ∃ sl, h'.get? b = some { o with slots := sl }
 free : ∀ b o, h.get? b = some o → H b = none → b ∉ ex → H' b = none
 there : ∀ b o, h.get? b = some o → b ∉ ex → ∃ o', h'.get? b = some o'
 tups : ∀ b xs, H b = some (.tup xs) → H' b = some (.tup xs)
 frzs : ∀ b o u, H b = some (.frz o u) → H' b = some (.frz o u)
 tbls : ∀ b qs ps, H b = some (.tbl qs ps) → H' b = some (.tbl qs ps)
section
variable {fs fs' ex ex' : List Addr} {H H1 H2 : Hp} {h h1 h2 h' : Heap} {a x e : Addr} {o : HO}
theorem Un.any (u : Un fs ex H H1 h h1) {b : Addr} {ob : Obj} (q : h.get? b = some ob) (n : H b = none) (hx : b ∉ ex) : ∃ sl, h1.get? b = some { ob with slots := sl } := by
 by_cases hb : b ∈ fs
 ·exact u.slot b ob q n hb hx
 ·exact ⟨ob.slots, u.keep b ob q n hb hx⟩
theorem Un.kept (k : ∀ b u, h.get? b = some u → h'.get? b = some u) : Un fs ex H H h h' :=
 ⟨fun b ob q _ _ _ => k b ob q, fun b ob q _ _ _ => ⟨ob.slots, k b ob q⟩, fun _ _ _ n _ => n, fun b ob q _ => ⟨ob, k b ob q⟩, fun _ _ q => q, fun _ _ _ q => q, fun _ _ _ q => q⟩
theorem Un.refl : Un fs ex H H h h := Un.kept fun _ _ q => q
theorem Un.laid (k : ∀ b u, h.get? b = some u → h'.get? b = some u) (hp : h.objs.size ≤ a) (hn : H a = none) : Un fs ex H (upd H a o) h h' where
 keep := fun b u q _ _ _ => k b u q
 slot := fun b u q _ _ _ => ⟨u.slots, k b u q⟩
 free := fun b u q n _ => by rw [zal (y0l (y0q (y0d q) hp))]; exact n
 there := fun b u q _ => ⟨u, k b u q⟩
 tups := fun b xs q => by rw [zal (zao q hn)]; exact q
 frzs := fun b u xs q => by rw [zal (zao q hn)]; exact q
 tbls := fun b qs ps q => by rw [zal (zao q hn)]; exact q
theorem Un.write (mu : Mut (H x)) (he : e = x ∨ H e = some (.own x)) (k : ∀ b u, b ≠ e → h.get? b = some u → h'.get? b = some u) (heo : ∃ u, h'.get? e = some u) : Un fs ex H (upd H x o) h h' := by
 have hx : ∀ b, H b = none → b ≠ x := fun b n z => by subst z; rw [n] at mu; exact mu
 have hb : ∀ b, H b = none → b ≠ e := fun b n z => by
  subst z
  rcases he with r | r
  ·exact hx b n r
  ·rw [n] at r; cases r
 have hm : ∀ b u, H b = some u → ¬ Mut (some u) → b ≠ x := fun b u q nm z => by subst z; rw [q] at mu; exact nm mu
 refine ⟨fun b u q n _ _ => k b u (hb b n) q, fun b u q n _ _ => ⟨u.slots, k b u (hb b n) q⟩, fun b u q n _ => by rw [zal (hx b n)]; exact n, fun b u q _ => ?_,
  fun b xs q => by rw [zal (hm b _ q fun z => z)]; exact q, fun b u xs q => by rw [zal (hm b _ q fun z => z)]; exact q, fun b qs ps q => by rw [zal (hm b _ q fun z => z)]; exact q⟩
 by_cases hbe : b = e
 ·subst hbe; exact heo
 ·exact ⟨u, k b u hbe q⟩
end
def trk (h : Heap) (H : Hp) : List Addr := (List.range h.objs.size).filter fun a => (H a).isSome
def hidT (h : Heap) (H : Hp) : Heap := PySem.W.hideAll h (trk h H)
theorem zoh (h : Heap) (H : Hp) : (hidT h H).objs.size = h.objs.size := PySem.W.hideAll_size _ _
theorem zra {h : Heap} {H : Hp} {b : Addr} {o : Obj} (e : h.get? b = some o) (n : H b = none) : (hidT h H).get? b = some o :=
 PySem.W.hideAll_get _ e fun hm => by
  have q : (H b).isSome = true := (y2d.mp hm).2
  rw [n] at q; simp at q
theorem ztl {h : Heap} {H : Hp} {b : Addr} {o : Obj} (e : (hidT h H).get? b = some o) : h.get? b = some o ∧ H b = none := by
 have e' : h.get? b = some o := PySem.W.of_hideAll (trk h H) e
 refine ⟨e', ?_⟩
 cases q : H b with
 | none => rfl
 | some x =>
  have hm : b ∈ trk h H := y2d.mpr ⟨y15.mpr (y0d e'), by simp [q]⟩
  have z : (hidT h H).get? b = none := PySem.W.hideAll_none (trk h H) hm
  rw [z] at e; cases e
def allNews (g h : Heap) (L : Addr) : List (Addr × Obj) := (List.range h.objs.size).filterMap fun a => if a = L ∨ (g.get? a).isSome = true then none else (h.get? a).map fun o => (a, o)
def rest (g h : Heap) (L d : Addr) : List (Addr × Obj) := (allNews g h L).filter fun p => decide (p.1 ≠ d)
structure Mod (K : Frag) (mg : T1) (base : Heap) : Prop where
 kin : K.In base
 glob : base.Ns mainGlobals mg
 blt : ∃ mb, base.Ns builtinsNs mb ∧ ∀ x : Str, x ≠ "__name__" → mb x = bootBuiltins x
 nolimit : base.NoLimit
structure Cx where
 prog : Program
 w : World
 K : Frag
 mg : Str → Option Value
 base : Heap
 A : Around
 N : List Str
 s₀ : Shared
 H₀ : Hp
 env : Env
 outer : List Env
 stack : List Env
 ex : List Addr
 fn : Str → Bool
 calm : Bool
 pn : List (Addr × Obj)
 xe : Value → Shared → Prop
def frs (l : List Env) : List Addr := l.filterMap (·.frame)
abbrev Cx.fs (X : Cx) : List Addr := frs X.outer
def Vis (sc : Scope) (x : Str) : Prop := sc.names.lookup x = some .local ∨ sc.names.lookup x = some .cell ∨ sc.names.lookup x = some .free
def Loc (sc : Scope) (x : Str) : Prop := sc.names.lookup x = some .local ∨ sc.names.lookup x = some .cell
def Look (env : Env) (h : Heap) (m : T1) (x : Str) (u : Value) : Prop :=
 (env.kindOf x = some .local ∧ m x = some u) ∨ ((env.kindOf x = some .cell ∨ env.kindOf x = some .free) ∧ ∃ c, env.cells.lookup x = some c ∧ h.IsCell c (some u))
structure Cx.Ok (X : Cx) : Prop where
 mod : Mod X.K X.mg X.base
 kind : X.env.scope.kind = .function
 glob : X.env.globals = mainGlobals
 blt : X.env.builtins = builtinsNs
 above : X.s₀.heap.objs.size ≤ X.env.locals
 inj : ∀ x y c, X.env.cells.lookup x = some c → X.env.cells.lookup y = some c → x = y
 has : ∀ x, (X.env.kindOf x = some .cell ∨ X.env.kindOf x = some .free) → ∃ c, X.env.cells.lookup x = some c
 cab : ∀ x c, X.fn x = true → X.env.cells.lookup x = some c → X.s₀.heap.objs.size ≤ c
 hd : X.calm = true → X.A.handled = none
 frames : X.A.frames = some X.stack
 stk : X.stack = X.outer ∨ (X.stack = X.env :: X.outer ∧ X.env.frame = some X.env.locals)
 exf : ∀ b ∈ X.ex, b ≠ X.env.locals ∧ ∀ x c, X.env.cells.lookup x = some c → c ≠ b
 bs : ∀ b o, X.base.get? b = some o → X.s₀.heap.get? b = some o ∧ X.H₀ b = none
 bsz : X.base.objs.size ≤ X.s₀.heap.objs.size
 noex : ∀ b o, X.base.get? b = some o → b ∉ X.ex
 exfs : ∀ b ∈ X.ex, b ∉ X.fs
 funs : X.s₀.heap.FunFrames X.base X.outer
 frf : ∀ b ∈ X.fs, X.H₀ b = none
structure Inv (X : Cx) (pins : T2) (σ : List (Option V)) (H : Hp) (s : Shared) : Prop where
 ok : X.Ok
 os : s.os = X.s₀.os
 bare : AllBare s.gens
 base : Un X.fs X.ex X.H₀ H X.s₀.heap s.heap
 loc : ∃ m, s.heap.Ns X.env.locals m ∧ ∀ (i : Nat) (x : Str) (v : V), X.N[i]? = some x → σ[i]? = some (some v) → Vis X.env.scope x → ∃ u, RelV v u ∧ Look X.env s.heap m x u
 cell : ∀ x c, X.env.cells.lookup x = some c → ∃ v, s.heap.IsCell c v
 free : H X.env.locals = none
 freeC : ∀ x c, X.env.cells.lookup x = some c → H c = none
 pin : ∀ p ∈ X.pn ++ pins, s.heap.get? p.1 = some p.2 ∧ H p.1 = none ∧ p.1 ≠ X.env.locals ∧ p.1 ∉ X.fs ∧ ∀ v, p.2.data ≠ .cell v
 hok : HOk X.prog X.w H s.heap
 len : σ.length = X.N.length
section
variable {X : Cx} {pins : T2} {σ : List (Option V)} {H H' : Hp} {s : Shared} {h' : Heap}
theorem Cx.Ok.nofr (ok : X.Ok) {b : Addr} {o : Obj} (e : X.base.get? b = some o) : b ∉ X.fs := fun hb => by
 have := (ok.funs.mem hb).1
 rw [e] at this; cases this
theorem Inv.bs (I : Inv X pins σ H s) : ∀ b o, X.base.get? b = some o → s.heap.get? b = some o ∧ H b = none := fun b o e =>
 ⟨I.base.keep b o (I.ok.bs b o e).1 (I.ok.bs b o e).2 (I.ok.nofr e) (I.ok.noex b o e), I.base.free b o (I.ok.bs b o e).1 (I.ok.bs b o e).2 (I.ok.noex b o e)⟩
theorem Inv.bk (I : Inv X pins σ H s) : ∀ b o, X.base.get? b = some o → s.heap.get? b = some o := fun b o e => (I.bs b o e).1
theorem Inv.mod (I : Inv X pins σ H s) : Mod X.K X.mg X.base := I.ok.mod
theorem Inv.kIn (I : Inv X pins σ H s) : X.K.In s.heap := I.ok.mod.kin.keeps I.bk
theorem Inv.lt (I : Inv X pins σ H s) : X.env.locals < s.heap.objs.size := let ⟨_, hn, _⟩ := I.loc; hn.lt
theorem Inv.sz (I : Inv X pins σ H s) : X.s₀.heap.objs.size ≤ s.heap.objs.size := y10 I.ok.above (y1t I.lt)
theorem Inv.nofs (I : Inv X pins σ H s) {a : Addr} (h : s.heap.objs.size ≤ a) : a ∉ X.fs := fun hb => by
 obtain ⟨_, o, ho, _⟩ := I.ok.funs.mem hb
 exact absurd (y0q (y0d ho) (y10 I.sz h)) (y27 _)
theorem Inv.cne (I : Inv X pins σ H s) : ∀ x c, X.env.cells.lookup x = some c → c ≠ X.env.locals := fun x c e z => by
 obtain ⟨v, o, ho, hd⟩ := I.cell x c e
 obtain ⟨m, ⟨o', es, ep, ho', hd', _⟩, _⟩ := I.loc
 rw [z, ho'] at ho; cases ho; rw [hd'] at hd; cases hd
theorem Inv.funs (I : Inv X pins σ H s) : s.heap.FunFrames X.base X.outer := by
 have all : ∀ (l : List Env), (∀ b ∈ frs l, b ∈ X.fs) → X.s₀.heap.FunFrames X.base l → s.heap.FunFrames X.base l := by
  intro l
  induction l with
  | nil => intro _ _; trivial
  | cons env r ih =>
   intro hs hl
   obtain ⟨hk, ⟨L, o, hf, hn, ho, hd⟩, hr⟩ := hl
   have hL : L ∈ X.fs := hs L (by unfold frs; rw [y2w, hf]; exact y0c)
   obtain ⟨sl, e⟩ := I.base.slot L o ho (I.ok.frf L hL) hL fun z => I.ok.exfs L z hL
   exact ⟨hk, ⟨L, _, hf, hn, e, hd⟩, ih (fun b hb => hs b (by unfold frs; rw [y2w, hf]; exact y09 _ hb)) hr⟩
 exact all X.outer (fun _ hb => hb) I.ok.funs
theorem Inv.stack (I : Inv X pins σ H s) : s.heap.FunFrames X.base X.stack := by
 rcases I.ok.stk with e | ⟨e, hf⟩
 ·rw [e]; exact I.funs
 ·rw [e]
  obtain ⟨m, hn, _⟩ := I.loc
  refine .cons (by rw [I.ok.kind]; decide) hf hn ?_ I.funs
  exact Heap.get?_none_of_le (y10 I.ok.bsz I.ok.above)
theorem Inv.stkSub (I : Inv X pins σ H s) : ∀ b ∈ frs X.stack, b ∈ X.env.locals :: X.fs := fun b hb => by
 rcases I.ok.stk with e | ⟨e, hf⟩
 ·rw [e] at hb; exact y09 _ hb
 ·rw [e] at hb
  unfold frs at hb
  rw [y2w, hf] at hb
  exact hb
theorem Inv.stkFree (I : Inv X pins σ H s) : ∀ b ∈ frs X.stack, H b = none := fun b hb => by
 rcases y05.mp (I.stkSub b hb) with e | hb
 ·rw [e]; exact I.free
 ·obtain ⟨_, o, ho, _⟩ := I.ok.funs.mem hb
  exact I.base.free b o ho (I.ok.frf b hb) fun z => I.ok.exfs b z hb
theorem Inv.step {g' : Array GenState} {t' : Nat} {d' : Drawn} {ch : List Addr} (I : Inv X pins σ H s)
  (hch : ∀ b ∈ ch, (b ∈ X.ex ∨ X.s₀.heap.objs.size ≤ b) ∧ b ≠ X.env.locals ∧ (∀ x c, X.env.cells.lookup x = some c → c ≠ b) ∧ ∀ p ∈ X.pn ++ pins, p.1 ≠ b)
  (keep : ∀ b o, b ≠ X.env.locals → b ∉ X.fs → b ∉ ch → s.heap.get? b = some o → H b = none → h'.get? b = some o)
  (slot : ∀ b o, b ≠ X.env.locals → b ∈ X.fs → b ∉ ch → s.heap.get? b = some o → H b = none → ∃ sl, h'.get? b = some { o with slots := sl }) (free : ∀ b o, b ∉ ch → s.heap.get? b = some o → H b = none → H' b = none)
  (there : ∀ b o, b ∉ ch → s.heap.get? b = some o → ∃ o', h'.get? b = some o')
  (tups : ∀ b xs, H b = some (.tup xs) → H' b = some (.tup xs)) (frzs : ∀ b o u, H b = some (.frz o u) → H' b = some (.frz o u)) (tbls : ∀ b qs ps, H b = some (.tbl qs ps) → H' b = some (.tbl qs ps))
  (ns : ∀ m, s.heap.Ns X.env.locals m → h'.Ns X.env.locals m) (hok : HOk X.prog X.w H' h') (hg : AllBare g') :
  Inv X pins σ H' { s with heap := h', gens := g', drawn := d', toks := t' } := by
 have neL : ∀ b o, X.s₀.heap.get? b = some o → b ≠ X.env.locals := fun b o e => y0l (y0q (y0d e) I.ok.above)
 have neC : ∀ b o, X.s₀.heap.get? b = some o → b ∉ X.ex → b ∉ ch := fun b o e hx hb => by
  rcases (hch b hb).1 with z | z
  ·exact hx z
  ·exact absurd (y0q (y0d e) z) (y27 _)
 have cellK : ∀ x c, X.env.cells.lookup x = some c → ∀ v, s.heap.IsCell c v → h'.IsCell c v := fun x c e v ⟨o, ho, hd⟩ => by
  have nch : c ∉ ch := fun z => (hch c z).2.2.1 x c e rfl
  by_cases hc : c ∈ X.fs
  ·obtain ⟨sl, q⟩ := slot c o (I.cne x c e) hc nch ho (I.freeC x c e)
   exact ⟨_, q, hd⟩
  ·exact ⟨o, keep c o (I.cne x c e) hc nch ho (I.freeC x c e), hd⟩
 refine ⟨I.ok, I.os, hg, ⟨fun b o e n hb hx => ?_, fun b o e n hb hx => ?_, fun b o e n hx => ?_, fun b o e hx => ?_, fun b xs e => tups b xs (I.base.tups b xs e), fun b o xs e => frzs b o xs (I.base.frzs b o xs e), fun b qs ps e => tbls b qs ps (I.base.tbls b qs ps e)⟩, ?_, fun x c e => ?_, ?_, fun x c e => ?_, fun p hp => ?_, hok, I.len⟩
 ·exact keep b o (neL b o e) hb (neC b o e hx) (I.base.keep b o e n hb hx) (I.base.free b o e n hx)
 ·obtain ⟨sl, e1⟩ := I.base.slot b o e n hb hx
  obtain ⟨sl', e2⟩ := slot b _ (neL b o e) hb (neC b o e hx) e1 (I.base.free b o e n hx)
  exact ⟨sl', e2⟩
 ·obtain ⟨o', e1⟩ := I.base.there b o e hx
  exact free b o' (neC b o e hx) e1 (I.base.free b o e n hx)
 ·obtain ⟨o', e1⟩ := I.base.there b o e hx
  exact there b o' (neC b o e hx) e1
 ·obtain ⟨m, hn, hl⟩ := I.loc
  refine ⟨m, ns m hn, fun i x v e1 e2 e3 => ?_⟩
  obtain ⟨u, r, l⟩ := hl i x v e1 e2 e3
  refine ⟨u, r, ?_⟩
  rcases l with l | ⟨k, c, e, z⟩
  ·exact .inl l
  ·exact .inr ⟨k, c, e, cellK x c e _ z⟩
 ·obtain ⟨v, z⟩ := I.cell x c e
  exact ⟨v, cellK x c e v z⟩
 ·obtain ⟨m, ⟨o, _, _, ho, _⟩, _⟩ := I.loc
  exact free _ o (fun z => (hch _ z).2.1 rfl) ho I.free
 ·obtain ⟨v, o, ho, hd⟩ := I.cell x c e
  exact free c o (fun z => (hch c z).2.2.1 x c e rfl) ho (I.freeC x c e)
 ·obtain ⟨e, n, ne, nf, d⟩ := I.pin p hp
  have nch : p.1 ∉ ch := fun z => (hch p.1 z).2.2.2 p hp rfl
  exact ⟨keep p.1 p.2 ne nf nch e n, free p.1 p.2 nch e n, ne, nf, d⟩
theorem Inv.un {t' : Nat} (I : Inv X pins σ H s) (u : Un X.fs [] H H' s.heap h') (hok : HOk X.prog X.w H' h') : Inv X pins σ H' { s with heap := h', toks := t' } := by
 obtain ⟨m, ⟨o, es, ep, ho, r⟩, _⟩ := id I.loc
 obtain ⟨sl, hL⟩ := u.any ho I.free (by simp)
 exact I.step (g' := s.gens) (d' := s.drawn) (ch := []) (fun _ z => nomatch z) (fun b o _ hb _ e n => u.keep b o e n hb (by simp)) (fun b o _ hb _ e n => u.slot b o e n hb (by simp)) (fun b o _ e n => u.free b o e n (by simp)) (fun b o _ e => u.there b o e (by simp)) u.tups u.frzs u.tbls (fun m' hm => by
  obtain ⟨o', es', ep', ho', r'⟩ := hm
  rw [ho] at ho'; cases ho'
  exact ⟨_, es', ep', hL, r'⟩) hok I.bare
theorem Inv.call {g' : Array GenState} {t' : Nat} {d' : Drawn} {ch : List Addr} (I : Inv X pins σ H s) (u : Un (frs X.stack) ch H H' s.heap h') (hok : HOk X.prog X.w H' h') (hg : AllBare g')
  (hch : ∀ b ∈ ch, (b ∈ X.ex ∨ X.s₀.heap.objs.size ≤ b) ∧ b ≠ X.env.locals ∧ (∀ x c, X.env.cells.lookup x = some c → c ≠ b) ∧ ∀ p ∈ X.pn ++ pins, p.1 ≠ b) :
  Inv X pins σ H' { s with heap := h', gens := g', drawn := d', toks := t' } := by
 obtain ⟨m, ⟨o, es, ep, ho, r⟩, _⟩ := id I.loc
 obtain ⟨sl, hL⟩ := u.any ho I.free fun z => (hch _ z).2.1 rfl
 exact I.step (ch := ch) hch (fun b o hL hb hc e n => u.keep b o e n (fun z => (y05.mp (I.stkSub b z)).elim hL hb) hc) (fun b o _ _ hc e n => u.any e n hc) (fun b o hc e n => u.free b o e n hc) (fun b o hc e => u.there b o e hc) u.tups u.frzs u.tbls (fun m' hm => by
  obtain ⟨o', es', ep', ho', r'⟩ := hm
  rw [ho] at ho'; cases ho'
  exact ⟨_, es', ep', hL, r'⟩) hok hg
theorem Inv.turned {t' : Nat} {it : Addr} (I : Inv X pins σ H s) (k : ∀ b o, b ≠ it → s.heap.get? b = some o → h'.get? b = some o) (hn : H it = none) (hL : it ≠ X.env.locals)
  (h1 : it ∈ X.ex ∨ X.s₀.heap.objs.size ≤ it) (h2 : ∀ x c, X.env.cells.lookup x = some c → c ≠ it) (h3 : ∀ p ∈ X.pn ++ pins, p.1 ≠ it) : Inv X pins σ H { s with heap := h', toks := t' } := by
 have nit : ∀ b u, H b = some u → b ≠ it := fun b u e z => by rw [z, hn] at e; cases e
 refine I.step (g' := s.gens) (d' := s.drawn) (ch := [it]) (fun b hb => ?_) (fun b o _ _ hc e _ => k b o (fun z => hc (by simp [z])) e) (fun b o _ _ hc e _ => ⟨o.slots, k b o (fun z => hc (by simp [z])) e⟩) (fun _ _ _ _ n => n)
  (fun b o hc e => ⟨o, k b o (fun z => hc (by simp [z])) e⟩) (fun _ _ e => e) (fun _ _ _ e => e) (fun _ _ _ e => e) (fun m hm => ?_) (fun b u e => ?_) I.bare
 ·have e : b = it := by simpa using hb
  subst e
  exact ⟨h1, hL, h2, h3⟩
 ·obtain ⟨o, es, ep, ho, r⟩ := hm
  exact ⟨o, es, ep, k _ o (Ne.symm hL) ho, r⟩
 ·refine (I.hok b u e).stay (fun c v hc q => k c v ?_ q) (fun _ q => q) (fun _ _ _ _ _ q => q) fun _ _ q => q
  rcases hc with z | z
  ·rw [z]; exact nit b u e
  ·exact nit c _ z
theorem Inv.tok (I : Inv X pins σ H s) (t : Nat) : Inv X pins σ H { s with toks := t } := I.un (h' := s.heap) (t' := t) Un.refl I.hok
theorem Inv.kept {t' : Nat} (I : Inv X pins σ H s) (k : ∀ b u, s.heap.get? b = some u → h'.get? b = some u) : Inv X pins σ H { s with heap := h', toks := t' } := I.un (Un.kept k) (I.hok.kept k)
theorem Inv.laid {a : Addr} {o : HO} {t' : Nat} (I : Inv X pins σ H s) (k : ∀ b u, s.heap.get? b = some u → h'.get? b = some u) (hp : s.heap.objs.size ≤ a) (new : ObjOk X.prog X.w (upd H a o) h' a o) :
  Inv X pins σ (upd H a o) { s with heap := h', toks := t' } := I.un (Un.laid k hp (I.hok.fresh hp)) (I.hok.laid k hp new)
theorem Inv.write {x e : Addr} {o : HO} {t' : Nat} (I : Inv X pins σ H s) (mu : Mut (H x)) (he : e = x ∨ H e = some (.own x)) (k : ∀ b u, b ≠ e → s.heap.get? b = some u → h'.get? b = some u) (heo : ∃ u, h'.get? e = some u)
  (new : ObjOk X.prog X.w (upd H x o) h' x o) : Inv X pins σ (upd H x o) { s with heap := h', toks := t' } := I.un (Un.write mu he k heo) (I.hok.write mu he k heo new)
theorem Inv.pins_of {pins' : T2} (I : Inv X pins σ H s) (h : ∀ p ∈ pins', s.heap.get? p.1 = some p.2 ∧ H p.1 = none ∧ p.1 ≠ X.env.locals ∧ p.1 ∉ X.fs ∧ ∀ v, p.2.data ≠ .cell v) : Inv X pins' σ H s :=
 ⟨I.ok, I.os, I.bare, I.base, I.loc, I.cell, I.free, I.freeC, fun p hp => (y1f.mp hp).elim (fun z => I.pin p (List.mem_append_left _ z)) (h p), I.hok, I.len⟩
theorem zkm {N : List Str} (hN : N.Nodup) {i j : Nat} {x : Str} (a : N[i]? = some x) (b : N[j]? = some x) : i = j := by
 obtain ⟨h1, e1⟩ := y0b.mp a
 obtain ⟨h2, e2⟩ := y0b.mp b
 exact (List.getElem_inj hN).mp (e1.trans e2.symm)
theorem zg8 {M : Model} {A : Around} {E : T0} {i : Nat} {x : Str} {v : V} {u : Value} {Q : Unit → Shared → Prop} (I : Inv X pins σ H s) (hN : X.N.Nodup) (hi : X.N[i]? = some x) (hx : Loc X.env.scope x) (r : RelV v u)
  (h : ∀ s', Inv X pins (σ.set i (some v)) H s' → (∃ a, Heap.SameBut a s.heap s'.heap ∧ (a = X.env.locals ∨ X.env.cells.lookup x = some a)) → Q () s') (hf : X.fn x = true ∨ X.env.scope.names.lookup x = some .local := by first | exact .inl rfl | exact .inr rfl | assumption) : wpAny M A (storeName X.env x u) Q E s := by
 obtain ⟨m, hn, hl⟩ := id I.loc
 have hcls : (X.env.scope.kind == .class || (X.env.scope.kind == .module && X.env.locals != X.env.globals)) = false := by rw [I.ok.kind]; rfl
 have hiσ : i < σ.length := by rw [I.len]; exact (y0b.mp hi).1
 have cne := I.cne
 have tracked : ∀ {a : Addr} {h' : Heap}, (∃ o, s.heap.get? a = some o ∧ H a = none) → Heap.SameBut a s.heap h' → HOk X.prog X.w H h' := fun {a h'} ha hs b ob e => by
  obtain ⟨_, _, hfree⟩ := ha
  refine (I.hok b ob e).stay (fun c w' hc q => (hs.2 c ?_).trans q) (fun _ q => q) (fun _ _ _ _ _ q => q) fun _ _ q => q
  rintro rfl
  rcases hc with rfl | hc
  ·rw [hfree] at e; cases e
  ·rw [hfree] at hc; cases hc
 rcases hx with hk | hk
 ·refine wpAny_storeName_local hk hn (fun h' hn' hs => ?_) hcls
  obtain ⟨oL, _, _, hoL, _⟩ := id hn
  refine h _ ⟨I.ok, I.os, I.bare, ⟨fun b o e n hb hx => ?_, fun b o e n hb hx => ?_, I.base.free, fun b o e hx => ?_, I.base.tups, I.base.frzs, I.base.tbls⟩, ⟨_, hn', fun j y v' e1 e2 e3 => ?_⟩, fun y c e => ?_, I.free, I.freeC, fun p hp => ?_, tracked ⟨oL, hoL, I.free⟩ hs, by simpa using I.len⟩ ⟨_, hs, .inl rfl⟩
  ·exact (hs.2 b (y0l (y0q (y0d e) I.ok.above))).trans (I.base.keep b o e n hb hx)
  ·obtain ⟨sl, e1⟩ := I.base.slot b o e n hb hx
   exact ⟨sl, (hs.2 b (y0l (y0q (y0d e) I.ok.above))).trans e1⟩
  ·obtain ⟨o', e1⟩ := I.base.there b o e hx
   exact ⟨o', (hs.2 b (y0l (y0q (y0d e) I.ok.above))).trans e1⟩
  ·by_cases hj : j = i
   ·subst hj
    rw [hi] at e1; cases e1
    rw [y3c hiσ] at e2
    cases e2
    exact ⟨u, r, .inl ⟨hk, by simp⟩⟩
   ·rw [y3h (Ne.symm hj)] at e2
    obtain ⟨u', r', q⟩ := hl j y v' e1 e2 e3
    refine ⟨u', r', ?_⟩
    rcases q with ⟨k, e⟩ | ⟨k, c, e, z⟩
    ·refine .inl ⟨k, ?_⟩
     have : y ≠ x := fun e => hj (zkm hN e1 (e ▸ hi))
     simp [this, e]
    ·exact .inr ⟨k, c, e, z.sameBut hs (cne y c e)⟩
  ·obtain ⟨w', z⟩ := I.cell y c e
   exact ⟨w', z.sameBut hs (cne y c e)⟩
  ·obtain ⟨e, n, ne, nf, d⟩ := I.pin p hp
   exact ⟨(hs.2 p.1 ne).trans e, n, ne, nf, d⟩
 ·have hfn : X.fn x = true := by
   rcases hf with z | z
   ·exact z
   ·rw [z] at hk; cases hk
  obtain ⟨c, hc⟩ := I.ok.has x (.inl hk)
  obtain ⟨w', z⟩ := I.cell x c hc
  refine wpAny_storeName_cell I.ok.kind hk hc z (fun h' hc' hs => ?_)
  obtain ⟨oc, hoc, hocd⟩ := id z
  refine h { s with heap := h' } ⟨I.ok, I.os, I.bare, ⟨fun b o e n hb hx => ?_, fun b o e n hb hx => ?_, I.base.free, fun b o e hx => ?_, I.base.tups, I.base.frzs, I.base.tbls⟩, ⟨m, hn.sameBut hs (Ne.symm (cne x c hc)), fun j y v' e1 e2 e3 => ?_⟩, fun y c' e => ?_, I.free, I.freeC, fun p hp => ?_, tracked ⟨oc, hoc, I.freeC x c hc⟩ hs, by simpa using I.len⟩ ⟨c, hs, .inr hc⟩
  ·exact (hs.2 b (y0l (y0q (y0d e) (I.ok.cab x c hfn hc)))).trans (I.base.keep b o e n hb hx)
  ·obtain ⟨sl, e1⟩ := I.base.slot b o e n hb hx
   exact ⟨sl, (hs.2 b (y0l (y0q (y0d e) (I.ok.cab x c hfn hc)))).trans e1⟩
  ·obtain ⟨o', e1⟩ := I.base.there b o e hx
   exact ⟨o', (hs.2 b (y0l (y0q (y0d e) (I.ok.cab x c hfn hc)))).trans e1⟩
  ·by_cases hj : j = i
   ·subst hj
    rw [hi] at e1; cases e1
    rw [y3c hiσ] at e2
    cases e2
    exact ⟨u, r, .inr ⟨.inl hk, c, hc, hc'⟩⟩
   ·rw [y3h (Ne.symm hj)] at e2
    obtain ⟨u', r', q⟩ := hl j y v' e1 e2 e3
    refine ⟨u', r', ?_⟩
    rcases q with q | ⟨k, c', e, z'⟩
    ·exact .inl q
    ·refine .inr ⟨k, c', e, z'.sameBut hs ?_⟩
     rintro rfl
     exact hj (zkm hN e1 (I.ok.inj _ _ _ e hc ▸ hi))
  ·by_cases hcc : c' = c
   ·subst hcc; exact ⟨_, hc'⟩
   ·obtain ⟨w2, z2⟩ := I.cell y c' e
    exact ⟨w2, z2.sameBut hs hcc⟩
  ·obtain ⟨e, n, ne, nf, d⟩ := I.pin p hp
   refine ⟨(hs.2 p.1 ?_).trans e, n, ne, nf, d⟩
   intro q
   rw [q, hoc] at e
   have q' : oc = p.2 := Option.some.inj e
   exact d w' (by rw [← q']; exact hocd)
theorem zcy {M : Model} {A : Around} {E : T0} {i : Nat} {x : Str} {v : V} {u : Value} {Q : Unit → Shared → Prop} (I : Inv X pins σ H s) (hN : X.N.Nodup) (hi : X.N[i]? = some x) (hx : Loc X.env.scope x) (r : RelV v u)
  (h : ∀ s', Inv X pins (σ.set i (some v)) H s' → Q () s') (hf : X.fn x = true ∨ X.env.scope.names.lookup x = some .local := by first | exact .inl rfl | exact .inr rfl | assumption) : wpAny M A (storeName X.env x u) Q E s :=
 zg8 I hN hi hx r (fun s' I' _ => h s' I') hf
theorem Inv.call' {s' : Shared} {ch : List Addr} (I : Inv X pins σ H s) (ho : s'.os = s.os) (u : Un (frs X.stack) ch H H' s.heap s'.heap) (hok : HOk X.prog X.w H' s'.heap) (hg : AllBare s'.gens)
  (hch : ∀ b ∈ ch, (b ∈ X.ex ∨ X.s₀.heap.objs.size ≤ b) ∧ b ≠ X.env.locals ∧ (∀ x c, X.env.cells.lookup x = some c → c ≠ b) ∧ ∀ p ∈ X.pn ++ pins, p.1 ≠ b) : Inv X pins σ H' s' := by
 obtain ⟨h', g', d', t', o'⟩ := s'
 have e : o' = s.os := ho
 subst e
 exact I.call (g' := g') (t' := t') (d' := d') u hok hg hch
end
abbrev XK := Value → Option Addr → Hp → Prop
abbrev St := List (Option V)
abbrev VK := V → Hp → Prop
abbrev TE := St → Hp → VK → Prop
abbrev TT := St → Hp → (Bool → Hp → Prop) → Prop
abbrev TA := St → Hp → (List V → Hp → Prop) → Prop
structure Ends where
 nx : St → Hp → Prop
 rt : VK
 bk : St → Hp → Prop := fun _ _ => False
 ct : St → Hp → Prop := fun _ _ => False
abbrev TS := Ends → St → Hp → Prop
def EP (X : Cx) (pins : T2) (σ : St) (Q : VK) (u : Value) (s' : Shared) : Prop := ∃ v H', Inv X pins σ H' s' ∧ RelV v u ∧ Q v H'
def TP (X : Cx) (pins : T2) (σ : St) (Q : Bool → Hp → Prop) (b : Bool) (s' : Shared) : Prop := ∃ H', Inv X pins σ H' s' ∧ Q b H'
def AP (X : Cx) (pins : T2) (σ : St) (Q : List V → Hp → Prop) (us : List Value) (s' : Shared) : Prop := ∃ vs H', Inv X pins σ H' s' ∧ Vals vs us ∧ Q vs H'
def SP (X : Cx) (pins : T2) (D : Ends) (f : Flow) (s' : Shared) : Prop :=
 match f with
 | .next => ∃ σ' H', Inv X pins σ' H' s' ∧ D.nx σ' H'
 | .brk => ∃ σ' H', Inv X pins σ' H' s' ∧ D.bk σ' H'
 | .cont => ∃ σ' H', Inv X pins σ' H' s' ∧ D.ct σ' H'
 | .ret u => ∃ v σ' H', Inv X pins σ' H' s' ∧ RelV v u ∧ D.rt v H'
def PE (X : Cx) (e : Expr) (t : TE) : Prop :=
 ∀ (pins : T2) (s : Shared) (σ : St) (H : Hp) (Q : VK), Inv X pins σ H s → t σ H Q → wpAny (model X.prog X.w) X.A (eval e X.env) (EP X pins σ Q) X.xe s
def PT (X : Cx) (e : Expr) (t : TT) : Prop :=
 ∀ (pins : T2) (s : Shared) (σ : St) (H : Hp) (Q : Bool → Hp → Prop), Inv X pins σ H s → t σ H Q → wpAny (model X.prog X.w) X.A (isTrue e X.env (eval e X.env)) (TP X pins σ Q) X.xe s
def PW (X : Cx) (e : Expr) (t : TT) : Prop :=
 ∀ (whole : Sem Value) (pins : T2) (s : Shared) (σ : St) (H : Hp) (Q : Bool → Hp → Prop), Inv X pins σ H s → t σ H Q → wpAny (model X.prog X.w) X.A (isTrue e X.env whole) (TP X pins σ Q) X.xe s
theorem PW.pt {X : Cx} {e : Expr} {t : TT} (h : PW X e t) : PT X e t := h _
def PA (X : Cx) (es : List Expr) (t : TA) : Prop :=
 ∀ (pos : Pos) (pins : T2) (s : Shared) (σ : St) (H : Hp) (Q : List V → Hp → Prop), Inv X pins σ H s → t σ H Q → wpAny (model X.prog X.w) X.A (spliced (backTo pos (starEach es X.env))) (AP X pins σ Q) X.xe s
def PS (X : Cx) (st : Stmt) (t : TS) : Prop :=
 ∀ (pins : T2) (s : Shared) (σ : St) (H : Hp) (D : Ends), Inv X pins σ H s → t D σ H → wpAny (model X.prog X.w) X.A (exec st X.env) (SP X pins D) X.xe s
def PSs (X : Cx) (st : List Stmt) (t : TS) : Prop :=
 ∀ (pins : T2) (s : Shared) (σ : St) (H : Hp) (D : Ends), Inv X pins σ H s → t D σ H → wpAny (model X.prog X.w) X.A (execs st X.env) (SP X pins D) X.xe s
theorem thn {α : Type} {t : Sem α} {Q Q' : α → Shared → Prop} {M : Model} {A : Around} {E : T0} {s : Shared} (h : wpAny M A t Q E s) (hQ : ∀ a s, Q a s → Q' a s) : wpAny M A t Q' E s := wpAny_mono h hQ fun _ _ x => x
section
variable {X : Cx}
theorem bin {a b : Expr} {ta tb : TE} (ha : PE X a ta) (hb : PE X b tb) {pins : T2} {s : Shared} {σ : St} {H : Hp} {R : V → V → Hp → Prop} (I : Inv X pins σ H s) (h : ta σ H fun x H1 => tb σ H1 fun y H2 => R x y H2)
  {α : Type} {Q : α → Shared → Prop} {f : Value → Value → Sem α}
  (hf : ∀ v u s2 x y H2, Inv X pins σ H2 s2 → RelV x v → RelV y u → R x y H2 → wpAny (model X.prog X.w) X.A (f v u) Q X.xe s2) :
  wpAny (model X.prog X.w) X.A (eval a X.env) (fun v s₁ => wpAny (model X.prog X.w) X.A (eval b X.env) (fun u s₂ => wpAny (model X.prog X.w) X.A (f v u) Q X.xe s₂) X.xe s₁) X.xe s := by
 refine thn (ha pins s σ H _ I h) fun v s1 ⟨x, H1, I1, r1, q1⟩ => ?_
 refine thn (hb pins s1 σ H1 _ I1 q1) fun u s2 ⟨y, H2, I2, r2, q2⟩ => ?_
 exact hf v u s2 x y H2 I2 r1 r2 q2
def tVar (i : Nat) : TE := fun σ H Q => ∃ v, σ[i]? = some (some v) ∧ Q v H
def tC (v : V) : TE := fun _ H Q => Q v H
theorem zkk {i : Nat} {x : Str} {pos : Pos} (hN : X.N[i]? = some x) (hv : Vis X.env.scope x) (hd : (x == ("__debug__" : Str)) = false := by decide) (hcd : (x == ("__classdict__" : Str)) = false := by decide) : PE X (.Name x pos) (tVar i) := by
 intro pins s σ H Q I h
 obtain ⟨v, e, h⟩ := h
 obtain ⟨m, hn, hl⟩ := I.loc
 obtain ⟨u, r, l⟩ := hl i x v hN e hv
 have fin : EP X pins σ Q u s := ⟨v, H, I, r, h⟩
 rcases l with ⟨hk, hm⟩ | ⟨hk, c, hc, hcell⟩
 ·exact wpAny_Name (wpAny_loadName_local I.ok.kind hk hn hm fin) hd
 ·rcases hk with hk | hk
  ·exact wpAny_Name (wpAny_loadName_cell I.ok.kind hk hc hcell fin) hd
  ·exact wpAny_Name (wpAny_loadName_free I.ok.kind hk hc hcell fin hcd) hd
theorem zaf {i j pos} : PE X (.Constant (.int i) j pos) (tC (.int i)) := fun _ _ _ H _ I h => wpAny_Constant_int ⟨.int i, H, I.tok _, ⟨_, rfl⟩, h⟩
theorem zd3 {b j pos} : PE X (.Constant (.bool b) j pos) (tC (.bl b)) := fun _ _ _ H _ I h => Constant_bool ⟨.bl b, H, I, rfl, h⟩
theorem zaq {x j pos} : PE X (.Constant (.str x) j pos) (tC (.str x)) := fun _ _ _ H _ I h => Calls.Constant_str ⟨.str x, H, I.tok _, ⟨_, rfl⟩, h⟩
def Gl (X : Cx) (x : Str) : Prop := X.env.kindOf x = some .globalImplicit
theorem zje {E : T0} {pins : T2} {s : Shared} {σ : St} {H : Hp} {x : Str} {u : Value} {pos : Pos} {Q : T0} (I : Inv X pins σ H s) (hg : Gl X x) (hm : X.mg x = some u) (h : Q u s)
  (hd : (x == ("__debug__" : Str)) = false := by decide) : wpAny (model X.prog X.w) X.A (eval (.Name x pos) X.env) Q E s :=
 Calls.Name_function_global I.ok.kind hg (Calls.loadGlobal_global (by rw [I.ok.glob]; exact I.mod.glob.keeps I.bk) hm h) hd
theorem zc6 {E : T0} {pins : T2} {s : Shared} {σ : St} {H : Hp} {x : Str} {u : Value} {pos : Pos} {Q : T0} (I : Inv X pins σ H s) (hg : Gl X x) (hm : X.mg x = none) (hv : bootBuiltins x = some u) (h : Q u s)
  (hn : x ≠ "__name__" := by decide) (hd : (x == ("__debug__" : Str)) = false := by decide) : wpAny (model X.prog X.w) X.A (eval (.Name x pos) X.env) Q E s := by
 obtain ⟨mb, h1, h2⟩ := I.mod.blt
 exact Calls.Name_function_global I.ok.kind hg (Calls.loadGlobal_builtin (by rw [I.ok.glob]; exact I.mod.glob.keeps I.bk) hm (by rw [I.ok.blt]; exact h1.keeps I.bk) ((h2 x hn).trans hv) h) hd
theorem zs8 {x : Str} {v : V} {u : Value} {pos : Pos} (hg : Gl X x) (hm : X.mg x = some u) (r : RelV v u) (hd : (x == ("__debug__" : Str)) = false := by decide) : PE X (.Name x pos) (tC v) :=
 fun _ _ _ H _ I h => zje I hg hm ⟨v, H, I, r, h⟩ hd
theorem zex {x : Str} {v : V} {u : Value} {pos : Pos} (hg : Gl X x) (hm : X.mg x = none) (hv : bootBuiltins x = some u) (r : RelV v u) (hn : x ≠ "__name__" := by decide) (hd : (x == ("__debug__" : Str)) = false := by decide) : PE X (.Name x pos) (tC v) :=
 fun _ _ _ H _ I h => zc6 I hg hm hv ⟨v, H, I, r, h⟩ hn hd
variable {a b : Expr} {ta tb : TE} {pos : Pos}
def PC (X : Cx) (op : CmpOp) (a b : Expr) (t : TE) : Prop :=
 ∀ (pins : T2) (s : Shared) (σ : St) (H : Hp) (Q : VK), Inv X pins σ H s → t σ H Q →
  wpAny (model X.prog X.w) X.A (eval a X.env) (fun v s₁ => wpAny (model X.prog X.w) X.A (eval b X.env) (fun u s₂ => wpAny (model X.prog X.w) X.A (compareOp op v u) (EP X pins σ Q) X.xe s₂) X.xe s₁) X.xe s
def tB (t : TE) : TT := fun σ H Q => t σ H fun x H1 => ∃ c, x = .bl c ∧ Q c H1
theorem pt_cmp {op : CmpOp} {t : TE} (h : PC X op a b t) (h1 : behindInMarks op b = false := by first | exact nobehind _ (by decide) (by decide) | rfl) : PT X (.Compare a [op] [b] pos) (tB t) := by
 intro pins s σ H Q I hw
 refine wpAny_isTrue_Compare1 (thn (h pins s σ H _ I hw) fun v s1 h1 => thn h1 fun u s2 h2 => thn h2 fun c s3 ⟨x, H1, I1, r1, q1⟩ => ?_) h1
 obtain ⟨d, rfl, q⟩ := q1
 cases r1
 exact wpAny_truthy_bool ⟨H1, I1, q⟩
theorem zcq {e : Expr} {t : TE} (h : PE X e t) (he : ∀ whole, isTrue e X.env whole = (do let v ← whole; standAt e.pos; holding [v] (truthy v)) := by intro _; rfl) : PT X e (tB t) := by
 intro pins s σ H Q I hw
 refine isTrue_plain (thn (h pins s σ H _ I hw) fun v s1 ⟨x, H1, I1, r1, q1⟩ => ?_) (he _)
 obtain ⟨d, rfl, q⟩ := q1
 cases r1
 exact wpAny_truthy_bool ⟨H1, I1, q⟩
variable {tA tB' : TT} {rest : List Expr}
def tOr (t u : TT) : TT := fun σ H Q => t σ H fun c H1 => if c = true then Q true H1 else u σ H1 Q
def tNot (t : TT) : TT := fun σ H Q => t σ H fun c H1 => Q (!c) H1
theorem zep (ha : PT X a tA) : PW X (.BoolOp .Or [a] pos) tA := by
 intro wh pins s σ H Q I h
 refine isTrue_or (thn (ha pins s σ H Q I h) fun c s1 e => ?_)
 cases c with
 | false => exact isTrue_or_nil e
 | true => exact e
theorem zgk (ha : PT X a tA) (hb : PW X (.BoolOp .Or (b :: rest) pos) tB') : PW X (.BoolOp .Or (a :: b :: rest) pos) (tOr tA tB') := by
 intro wh pins s σ H Q I h
 refine isTrue_or (thn (ha pins s σ H _ I h) fun c s1 ⟨H1, I1, q1⟩ => ?_)
 cases c with
 | true => exact ⟨H1, I1, q1⟩
 | false => exact hb wh pins s1 σ H1 Q I1 q1
theorem zeq (ha : PT X a tA) : PT X (.UnaryOp .Not a pos) (tNot tA) := by
 intro pins s σ H Q I h
 exact isTrue_not (ha pins s σ H (fun c H1 => Q (!c) H1) I h)
def tAndV (ta tb : TE) : TE := fun σ H Q => ta σ H fun x H1 => ∃ c, x = .bl c ∧ if c = true then tb σ H1 Q else Q (.bl false) H1
def tOrV (ta tb : TE) : TE := fun σ H Q => ta σ H fun x H1 => ∃ c, x = .bl c ∧ if c = true then Q (.bl true) H1 else tb σ H1 Q
theorem zev {op} {t : TE} (h : PE X a t) : PE X (.BoolOp op [a] pos) t := fun pins s σ H Q I hw => BoolOp_one (h pins s σ H Q I hw)
theorem zey (ha : PE X a ta) (hb : PE X (.BoolOp .And (b :: rest) pos) tb) : PE X (.BoolOp .And (a :: b :: rest) pos) (tAndV ta tb) := by
 intro pins s σ H Q I h
 refine BoolOp_and (thn (ha pins s σ H _ I h) fun v s1 ⟨x, H1, I1, r1, q1⟩ => ?_)
 obtain ⟨c, rfl, q1⟩ := q1
 cases r1
 refine wpAny_truthy_bool ?_
 cases c with
 | true => exact hb pins s1 σ H1 Q I1 q1
 | false => exact ⟨.bl false, H1, I1, rfl, q1⟩
theorem pe_or (ha : PE X a ta) (hb : PE X (.BoolOp .Or (b :: rest) pos) tb) : PE X (.BoolOp .Or (a :: b :: rest) pos) (tOrV ta tb) := by
 intro pins s σ H Q I h
 refine BoolOp_or (thn (ha pins s σ H _ I h) fun v s1 ⟨x, H1, I1, r1, q1⟩ => ?_)
 obtain ⟨c, rfl, q1⟩ := q1
 cases r1
 refine wpAny_truthy_bool ?_
 cases c with
 | false => exact hb pins s1 σ H1 Q I1 q1
 | true => exact ⟨.bl true, H1, I1, rfl, q1⟩
end
def SqL (K : Frag) (H : Hp) (a : Addr) (xs : List V) : Prop :=
 Rd H a (.lst xs) ∨
  ∃ (o : Obj) (its : Array Value) (n : Nat), K.lookup a = some o ∧ o.cls = .type "list" ∧ o.dict = none ∧ o.data = .seq its n ∧ its.size ≤ sizeLine ∧ Vals xs its.toList
def SqT (K : Frag) (H : Hp) (a : Addr) (xs : List V) : Prop :=
 Rd H a (.tup xs) ∨
  ∃ (o : Obj) (its : Array Value) (n : Nat), K.lookup a = some o ∧ o.cls = .type "tuple" ∧ o.data = .seq its n ∧ its.size ≤ sizeLine ∧ Vals xs its.toList
def absV : Value → Option V
 | .none => some .non
 | .bool b => some (.bl b)
 | .int i _ => some (.int i)
 | .str x _ => some (.str x)
 | .bytes b _ => some (.byt b)
 | .float b _ => some (.flt b)
 | .ref a => some (.ref a)
 | .type n => some (.ty n)
 | _ => none
theorem RelV.abs {x : V} {u : Value} (r : RelV x u) : absV u = some x := by
 cases x with
 | non => cases r; rfl
 | bl _ => cases r; rfl
 | int _ => obtain ⟨t, rfl⟩ := r; rfl
 | str _ => obtain ⟨t, rfl⟩ := r; rfl
 | byt _ => obtain ⟨t, rfl⟩ := r; rfl
 | flt _ => obtain ⟨t, rfl⟩ := r; rfl
 | ref _ => cases r; rfl
 | ty _ => cases r; rfl
theorem RelV.inj {x y : V} {u : Value} (r : RelV x u) (q : RelV y u) : x = y := Option.some.inj (r.abs.symm.trans q.abs)
theorem Vals.inj : ∀ {xs ys : List V} {us : List Value}, Vals xs us → Vals ys us → xs = ys
 | _, _, _, .nil, .nil => rfl
 | _, _, _, .cons r t, .cons r' t' => by rw [r.inj r', Vals.inj t t']
section
variable {X : Cx} {pins : T2} {σ : St} {H : Hp} {s : Shared} {a : Addr} {xs ys : List V}
theorem SqL.of {K : Frag} (h : H a = some (.lst xs)) : SqL K H a xs := .inl (.inl h)
theorem SqT.of {K : Frag} (h : H a = some (.tup xs)) : SqT K H a xs := .inl (.inl h)
theorem Inv.list (I : Inv X pins σ H s) (h : SqL X.K H a xs) : ∃ its : List Value, Vals xs its ∧ PlainL s.heap a its.toArray ∧ xs.length ≤ sizeLine := by
 rcases h with h | ⟨o, its, n, hk, hc, hd, hs, hz, r⟩
 ·obtain ⟨z, its, n, r, e⟩ := h.ok I.hok
  exact ⟨its, r, ⟨_, n, e, rfl, rfl, rfl⟩, z⟩
 ·refine ⟨its.toList, r, ⟨o, n, I.kIn a o hk, hc, hd, by simpa using hs⟩, ?_⟩
  have e := r.length
  simp only [y1w] at e
  omega
theorem Inv.tuple (I : Inv X pins σ H s) (h : SqT X.K H a xs) : ∃ its : List Value, Vals xs its ∧ IsTup s.heap a its.toArray ∧ xs.length ≤ sizeLine := by
 rcases h with h | ⟨o, its, n, hk, hc, hs, hz, r⟩
 ·obtain ⟨z, its, r, p⟩ := h.ok I.hok
  exact ⟨its, r, p, z⟩
 ·refine ⟨its.toList, r, ⟨o, I.kIn a o hk, hc, n, by simpa using hs⟩, ?_⟩
  have e := r.length
  simp only [y1w] at e
  omega
theorem Inv.list_inj (I : Inv X pins σ H s) (h : SqL X.K H a xs) (h' : SqL X.K H a ys) : xs = ys := by
 obtain ⟨its, r, ⟨o, n, e, _, _, d⟩, _⟩ := I.list h
 obtain ⟨its', r', ⟨o', n', e', _, _, d'⟩, _⟩ := I.list h'
 rw [e] at e'; cases e'
 rw [d] at d'
 injection d' with d1 _
 have : its = its' := by simpa using congrArg Array.toList d1
 subst this
 exact r.inj r'
theorem Inv.tuple_inj (I : Inv X pins σ H s) (h : SqT X.K H a xs) (h' : SqT X.K H a ys) : xs = ys := by
 obtain ⟨its, r, ⟨o, e, _, n, d⟩, _⟩ := I.tuple h
 obtain ⟨its', r', ⟨o', e', _, n', d'⟩, _⟩ := I.tuple h'
 rw [e] at e'; cases e'
 rw [d] at d'
 injection d' with d1 _
 have : its = its' := by simpa using congrArg Array.toList d1
 subst this
 exact r.inj r'
end
abbrev Cx.wish (X : Cx) (E : T0) : Cx := { X with xe := E }
abbrev Cx.nox (X : Cx) : Cx := X.wish fun _ _ => False
theorem Cx.Ok.wish {X : Cx} (ok : X.Ok) (E : T0) : (X.wish E).Ok :=
 ⟨ok.mod, ok.kind, ok.glob, ok.blt, ok.above, ok.inj, ok.has, ok.cab, ok.hd, ok.frames, ok.stk, ok.exf, ok.bs, ok.bsz, ok.noex, ok.exfs, ok.funs, ok.frf⟩
theorem Cx.Ok.unwish {X : Cx} {E : T0} (ok : (X.wish E).Ok) : X.Ok :=
 ⟨ok.mod, ok.kind, ok.glob, ok.blt, ok.above, ok.inj, ok.has, ok.cab, ok.hd, ok.frames, ok.stk, ok.exf, ok.bs, ok.bsz, ok.noex, ok.exfs, ok.funs, ok.frf⟩
section
variable {X : Cx} {pins : T2} {σ : St} {H : Hp} {s : Shared} {E : T0}
theorem Inv.wish (I : Inv X pins σ H s) (E : T0) : Inv (X.wish E) pins σ H s := ⟨I.ok.wish E, I.os, I.bare, I.base, I.loc, I.cell, I.free, I.freeC, I.pin, I.hok, I.len⟩
theorem Inv.unwish (I : Inv (X.wish E) pins σ H s) : Inv X pins σ H s := ⟨I.ok.unwish, I.os, I.bare, I.base, I.loc, I.cell, I.free, I.freeC, I.pin, I.hok, I.len⟩
theorem SP.unwish {D : Ends} {f : Flow} {s' : Shared} (h : SP (X.wish E) pins D f s') : SP X pins D f s' := by
 cases f with
 | next => obtain ⟨σ', H', I, q⟩ := h; exact ⟨σ', H', I.unwish, q⟩
 | brk => obtain ⟨σ', H', I, q⟩ := h; exact ⟨σ', H', I.unwish, q⟩
 | cont => obtain ⟨σ', H', I, q⟩ := h; exact ⟨σ', H', I.unwish, q⟩
 | ret u => obtain ⟨v, σ', H', I, r, q⟩ := h; exact ⟨v, σ', H', I.unwish, r, q⟩
theorem PSs.nox {st : List Stmt} {t : TS} (h : PSs X.nox st t) : PSs X st t := fun pins s σ H D I hw =>
 wpAny_mono (h pins s σ H D (I.wish _) hw) (fun _ _ q => q.unwish) fun _ _ z => False.elim z
end
section
variable {X : Cx} {st : Stmt} {rest : List Stmt} {t u : TS} {e : Expr} {te : TE} {pos : Pos}
def tNext : TS := fun D σ H => D.nx σ H
def tSeq (t u : TS) : TS := fun D σ H => t { D with nx := u D } σ H
theorem zap : PSs X [] tNext := fun _ _ σ H _ I h => wpAny_execs_nil ⟨σ, H, I, h⟩
theorem zac (h1 : PS X st t) (h2 : PSs X rest u) : PSs X (st :: rest) (tSeq t u) := by
 intro pins s σ H D I h
 refine wpAny_execs_cons (thn (h1 pins s σ H { D with nx := u D } I h) fun f s1 q => ?_)
 cases f with
 | next =>
  obtain ⟨σ', H', I', q⟩ := q
  exact h2 pins s1 σ' H' D I' q
 | ret v => exact q
 | brk => exact q
 | cont => exact q
theorem zad (h1 : PS X st t) : PSs X [st] t := by
 intro pins s σ H D I h
 refine wpAny_execs_cons (thn (h1 pins s σ H D I h) fun f s1 q => ?_)
 cases f with
 | next => exact wpAny_execs_nil q
 | ret v => exact q
 | brk => exact q
 | cont => exact q
theorem Inv.quiet {pins : T2} {σ : St} {H : Hp} {s : Shared} (I : Inv X pins σ H s) : interactive X.env = false := by simp [interactive, I.ok.kind]
def tDrop (te : TE) : TS := fun D σ H => te σ H fun _ H1 => D.nx σ H1
theorem zcu (he : PE X e te) (hs : swapsWith e none pos.line X.env = pure false := by rfl) : PS X (.Expr e pos) (tDrop te) := by
 intro pins s σ H D I h
 exact wpAny_Expr_any (thn (he pins s σ H _ I h) fun v s1 ⟨x, H1, I1, r1, q1⟩ => ⟨σ, H1, I1, q1⟩) I.quiet hs
def tRet (te : TE) : TS := fun D σ H => te σ H D.rt
theorem zai (he : PE X e te) : PS X (.Return (some e) pos) (tRet te) := by
 intro pins s σ H D I h
 exact wpAny_Return_some (thn (he pins s σ H _ I h) fun v s1 ⟨x, H1, I1, r1, q1⟩ => ⟨x, σ, H1, I1, r1, q1⟩)
def tIfS (c : TT) (t u : TS) : TS := fun D σ H => c σ H fun b H1 => if b = true then t D σ H1 else u D σ H1
theorem za8 {c : Expr} {a b : List Stmt} {tc : TT} (hc : PT X c tc) (ha : PSs X a t) (hb : PSs X b u) : PS X (.If c a b pos) (tIfS tc t u) := by
 intro pins s σ H D I h
 refine wpAny_If (thn (hc pins s σ H _ I h) fun d s1 ⟨H1, I1, q1⟩ => ?_)
 cases d with
 | true => exact ha pins s1 σ H1 D I1 q1
 | false => exact hb pins s1 σ H1 D I1 q1
def tNever : TS := fun _ _ _ => False
theorem zd7 : PS X st tNever := fun _ _ _ _ _ _ h => h.elim
theorem zcd {sts : List Stmt} : PSs X sts tNever := fun _ _ _ _ _ _ h => h.elim
end
abbrev TG := V → St → Hp → (St → Hp → Prop) → Prop
abbrev TGs := List V → St → Hp → (St → Hp → Prop) → Prop
def PG (X : Cx) (target : Expr) (t : TG) : Prop :=
 ∀ (pins : T2) (s : Shared) (σ : St) (H : Hp) (v : V) (u : Value) (Q : St → Hp → Prop), Inv X pins σ H s → RelV v u → t v σ H Q →
  wpAny (model X.prog X.w) X.A (assign target X.env u) (fun _ s' => ∃ σ' H', Inv X pins σ' H' s' ∧ Q σ' H') X.xe s
def PGs (X : Cx) (ts : List Expr) (t : TGs) : Prop :=
 ∀ (pins : T2) (s : Shared) (σ : St) (H : Hp) (vs : List V) (us : List Value) (Q : St → Hp → Prop), Inv X pins σ H s → Vals vs us → t vs σ H Q →
  wpAny (model X.prog X.w) X.A (assignInOrder ((assignEach ts X.env).map (·.2)) us) (fun _ s' => ∃ σ' H', Inv X pins σ' H' s' ∧ Q σ' H') X.xe s
abbrev TSet := V → V → V → Hp → (Hp → Prop) → Prop
def PSet (X : Cx) (t : TSet) : Prop :=
 ∀ (pins : T2) (s : Shared) (σ : St) (H : Hp) (o i v : V) (ov iv u : Value) (Q : Hp → Prop), Inv X pins σ H s → RelV o ov → RelV i iv → RelV v u → t o i v H Q →
  wpAny (model X.prog X.w) X.A (setItem ov iv u) (fun _ s' => ∃ H', Inv X pins σ H' s' ∧ Q H') X.xe s
abbrev TIp := V → V → Hp → VK → Prop
def PIp (X : Cx) (op : Operator) (t : TIp) : Prop :=
 ∀ (pins : T2) (s : Shared) (σ : St) (H : Hp) (x y : V) (v u : Value) (Q : VK), Inv X pins σ H s → RelV x v → RelV y u → t x y H Q →
  wpAny (model X.prog X.w) X.A (inplaceOp op v u) (EP X pins σ Q) X.xe s
section
variable {X : Cx} {pos : Pos}
def gName (i : Nat) : TG := fun v σ H Q => Q (σ.set i (some v)) H
theorem zah {i : Nat} {x : Str} (hN : X.N.Nodup) (hi : X.N[i]? = some x) (hx : Loc X.env.scope x) (hf : X.fn x = true ∨ X.env.scope.names.lookup x = some .local := by first | exact .inl rfl | exact .inr rfl | assumption) : PG X (.Name x pos) (gName i) := by
 intro pins s σ H v u Q I r h
 exact wpAny_assign_Name (zcy I hN hi hx r (fun s' I' => ⟨_, H, I', h⟩) hf)
def gNil : TGs := fun vs σ H Q => vs = [] ∧ Q σ H
def gCons (t : TG) (u : TGs) : TGs := fun vs σ H Q => ∃ v r, vs = v :: r ∧ t v σ H fun σ' H' => u r σ' H' Q
theorem zet : PGs X [] gNil := by
 intro pins s σ H vs us Q I r h
 obtain ⟨e, h⟩ := h
 subst e
 cases r
 exact assignInOrder_nil ⟨σ, H, I, h⟩
theorem zbh {e : Expr} {es : List Expr} {t : TG} {u : TGs} (h1 : PG X e t) (h2 : PGs X es u)
  (hs : (assignEach (e :: es) X.env).map (·.2) = assign e X.env :: (assignEach es X.env).map (·.2) := by rfl) : PGs X (e :: es) (gCons t u) := by
 intro pins s σ H vs us Q I r h
 obtain ⟨v, vr, e1, h⟩ := h
 subst e1
 cases r with
 | cons r rr =>
  rw [hs]
  refine assignInOrder_cons (thn (h1 pins s σ H _ _ _ I r h) fun _ s1 ⟨σ1, H1, I1, q1⟩ => ?_)
  exact h2 pins s1 σ1 H1 _ _ Q I1 rr q1
def gTup (K : Frag) (n : Nat) (t : TGs) : TG := fun v σ H Q => ∃ a xs, v = .ref a ∧ SqT K H a xs ∧ xs.length = n ∧ t xs σ H Q
theorem pg_tup {es : List Expr} {k : Nat} {t : TGs} {n : Nat} (hc : X.calm = true) (h : PGs X es t)
  (hn : (assignEach es X.env).length = n := by rfl) (hst : (assignEach es X.env).findIdx? (·.1) = none := by rfl) : PG X (.Tuple es k pos) (gTup X.K n t) := by
 intro pins s σ H v u Q I r hw
 obtain ⟨a, xs, e1, hq, hl, hw⟩ := hw
 subst e1
 cases r
 obtain ⟨its, rv, ht, hz⟩ := I.tuple hq
 refine assign_Tuple_tuple (I.ok.hd hc) ht (by simp [hn, ← hl, rv.length]) hst fun h' hx => ?_
 have I1 : Inv X pins σ H { s with heap := h' } := I.kept (t' := s.toks) fun b o e => hx b o (y0l (y0d e)) e
 exact h pins _ σ H xs _ Q I1 (by simpa using rv) hw
def gSub (to ti : TE) (t : TSet) : TG := fun v σ H Q => to σ H fun o H1 => ti σ H1 fun i H2 => t o i v H2 fun H3 => Q σ H3
theorem zrz {o i : Expr} {to ti : TE} {t : TSet} (ho : PE X o to) (hi : PE X i ti) (hs : PSet X t)
  (ha : ∀ v, assign (.Subscript o i pos) X.env v = (do
   let ov ← holding [v] (eval o X.env)
   let iv ← holding [v, ov] (eval i X.env)
   standAt pos
   holding [v, ov, iv] (setItem ov iv v)
   release [v, ov, iv] []) := by intro _; rfl) : PG X (.Subscript o i pos) (gSub to ti t) := by
 intro pins s σ H v u Q I r h
 rw [ha]
 refine wpAny_bind (wpAny_holding (thn (ho pins s σ H _ I h) fun ov s1 ⟨x, H1, I1, r1, q1⟩ => ?_))
 refine wpAny_bind (wpAny_holding (thn (hi pins s1 σ H1 _ I1 q1) fun iv s2 ⟨y, H2, I2, r2, q2⟩ => ?_))
 refine wpAny_bind (wpAny_standAt (wpAny_bind (wpAny_holding (thn (hs pins s2 σ H2 x y v ov iv u _ I2 r1 r2 r q2) fun _ s3 ⟨H3, I3, q3⟩ => ?_))))
 exact wpAny_release ⟨σ, H3, I3, q3⟩
def tAsg (te : TE) (g : TG) : TS := fun D σ H => te σ H fun x H1 => g x σ H1 D.nx
theorem zry {tg e : Expr} {te : TE} {g : TG} (he : PE X e te) (hg : PG X tg g) (hs : swapsWithSole [tg] e pos.line X.env = pure false := by rfl) (hw : swappedStores [tg] e X.env = pure none := by rfl)
  (h1 : (assignEach [tg] X.env).map (·.2) = [assign tg X.env] := by rfl) : PS X (.Assign [tg] e pos) (tAsg te g) := by
 intro pins s σ H D I h
 refine wpAny_Assign_stores (thn (he pins s σ H _ I h) fun v s1 ⟨x, H1, I1, r1, q1⟩ => ?_) hs hw
 rw [h1]
 exact thn (hg pins s1 σ H1 x v _ I1 r1 q1) fun _ s2 q => q
theorem zat {i : Nat} {x : Str} {e : Expr} {te : TE} {pos' : Pos} (hN : X.N.Nodup) (hi : X.N[i]? = some x) (hx : Loc X.env.scope x) (he : PE X e te) (hs : swapsWith e (some (.Name x pos')) pos.line X.env = pure false := by rfl) (hf : X.fn x = true ∨ X.env.scope.names.lookup x = some .local := by first | exact .inl rfl | exact .inr rfl | assumption) :
  PS X (.Assign [.Name x pos'] e pos) (tAsg te (gName i)) := by
 intro pins s σ H D I h
 refine wpAny_Assign_Name (thn (he pins s σ H _ I h) fun v s1 ⟨y, H1, I1, r1, q1⟩ => ?_) hs
 exact zcy I1 hN hi hx r1 (fun s2 I2 => ⟨_, H1, I2, q1⟩) hf
def tAug (i : Nat) (te : TE) (ti : TIp) : TS := fun D σ H => ∃ x, σ[i]? = some (some x) ∧ te σ H fun y H1 => ti x y H1 fun z H2 => D.nx (σ.set i (some z)) H2
theorem ps_aug {i : Nat} {x : Str} {e : Expr} {te : TE} {op : Operator} {ti : TIp} {pos' : Pos} (hN : X.N.Nodup) (hi : X.N[i]? = some x) (hx : Loc X.env.scope x) (he : PE X e te) (ho : PIp X op ti) (hf : X.fn x = true ∨ X.env.scope.names.lookup x = some .local := by first | exact .inl rfl | exact .inr rfl | assumption) :
  PS X (.AugAssign (.Name x pos') op e pos) (tAug i te ti) := by
 intro pins s σ H D I h
 obtain ⟨v, e1, h⟩ := h
 obtain ⟨m, hn, hl⟩ := I.loc
 have vis : Vis X.env.scope x := by rcases hx with k | k; exact .inl k; exact .inr (.inl k)
 obtain ⟨u, r, l⟩ := hl i x v hi e1 vis
 refine wpAny_AugAssign_Name ?_
 have go : wpAny (model X.prog X.w) X.A (eval e X.env) (fun w s₂ => wpAny (model X.prog X.w) X.A (inplaceOp op u w) (fun r s₃ => wpAny (model X.prog X.w) X.A (storeName X.env x r) (fun _ => SP X pins D .next) X.xe s₃) X.xe s₂) X.xe s := by
  refine thn (he pins s σ H _ I h) fun w s1 ⟨y, H1, I1, r1, q1⟩ => ?_
  refine thn (ho pins s1 σ H1 v y u w _ I1 r r1 q1) fun z s2 ⟨zv, H2, I2, r2, q2⟩ => ?_
  exact zcy I2 hN hi hx r2 (fun s3 I3 => ⟨_, H2, I3, q2⟩) hf
 rcases l with ⟨hk, hm⟩ | ⟨hk, c, hc, hcell⟩
 ·exact wpAny_loadName_local I.ok.kind hk hn hm go
 ·rcases hk with hk | hk
  ·exact wpAny_loadName_cell I.ok.kind hk hc hcell go
  ·rcases hx with k | k
   ·have : X.env.scope.names.lookup x = some .free := hk
    rw [k] at this; cases this
   ·have : X.env.scope.names.lookup x = some .free := hk
    rw [k] at this; cases this
def ipI (f : Int → Int → Int) : TIp := fun x y H Q => ∃ i j, x = .int i ∧ y = .int j ∧ Q (.int (f i j)) H
theorem ip_add : PIp X .Add (ipI fun i j => i + j) := by
 intro pins s σ H x y v u Q I r1 r2 h
 obtain ⟨i, j, e1, e2, q⟩ := h
 subst e1; subst e2
 obtain ⟨t, rfl⟩ := r1
 obtain ⟨t', rfl⟩ := r2
 exact iadd_int ⟨.int _, H, I.tok _, ⟨_, rfl⟩, q⟩
end
section
variable {X : Cx} {pos : Pos}
def tWhile (c : TT) (tb : TS) : TS := fun D σ H => ∃ W : Nat → St → Hp → Prop, (∃ m, W m σ H) ∧ ∀ m σ H, W m σ H →
 c σ H fun b H1 => if b = true then ∃ N : St → Hp → Prop, (∀ σ' H', N σ' H' → ∃ m', m' < m ∧ W m' σ' H') ∧ tb { D with nx := N, ct := N, bk := D.nx } σ H1 else D.nx σ H1
theorem zgl {c : Expr} {body : List Stmt} {tc : TT} {tb : TS} (hp : PassesOwn (model X.prog X.w) X.A X.env X.xe) (hc : PT X c tc) (hb : PSs X body tb) : PS X (.While c body [] pos) (tWhile tc tb) := by
 intro pins s σ H D I h
 obtain ⟨W, ⟨m0, w0⟩, turn⟩ := h
 refine wpAny_While (codeAny_whileLoop (fun n s' => ∃ σ' H', Inv X pins σ' H' s' ∧ W n σ' H') ?_ m0 ⟨σ, H, I, w0⟩)
 rintro n s1 ⟨σ1, H1, I1, w1⟩
 refine wpAny_passesOwn hp (thn (hc pins s1 σ1 H1 _ I1 (turn n σ1 H1 w1)) fun b s2 ⟨H2, I2, q2⟩ => ?_)
 cases b with
 | true =>
  obtain ⟨N, hN, q2⟩ := q2
  rw [if_pos rfl]
  refine wpAny_passesOwn hp (thn (hb pins s2 σ1 H2 _ I2 q2) fun f s3 q3 => ?_)
  cases f with
  | next =>
   obtain ⟨σ3, H3, I3, n3⟩ := q3
   obtain ⟨m', hm, w3⟩ := hN σ3 H3 n3
   exact ⟨m', hm, σ3, H3, I3, w3⟩
  | cont =>
   obtain ⟨σ3, H3, I3, n3⟩ := q3
   obtain ⟨m', hm, w3⟩ := hN σ3 H3 n3
   exact ⟨m', hm, σ3, H3, I3, w3⟩
  | brk => exact q3
  | ret v => exact q3
 | false =>
  rw [if_neg y0f]
  exact wpAny_execs_nil ⟨σ1, H2, I2, q2⟩
end
structure It where
 go : Nat → Hp → Prop
 yld : Nat → Hp → V → Hp → Prop
 stop : Nat → Hp → Prop
def FpOk (X : Cx) (pins : T2) (H : Hp) (b : Addr) : Prop :=
 H b = none ∧ b ≠ X.env.locals ∧ b ∉ X.fs ∧ (b ∈ X.ex ∨ X.s₀.heap.objs.size ≤ b) ∧ (∀ x c, X.env.cells.lookup x = some c → c ≠ b) ∧ ∀ p ∈ X.pn ++ pins, p.1 ≠ b
theorem Inv.fpOk {X : Cx} {pins : T2} {σ : St} {H H' : Hp} {s : Shared} {b : Addr} (I : Inv X pins σ H s) (hb : s.heap.objs.size ≤ b) (hn : H' b = none) : FpOk X pins H' b := by
 refine ⟨hn, y26 (y0q I.lt hb), I.nofs hb, .inr (y10 I.sz hb), fun x c e z => ?_, fun p hp z => ?_⟩
 ·obtain ⟨v, q⟩ := I.cell x c e
  exact absurd (y0q q.lt (by rw [z]; exact hb)) (y27 _)
 ·exact absurd (y0q (y0d (I.pin p hp).1) (by rw [z]; exact hb)) (y27 _)
structure Turn (P : Program) (w : World) (K : Frag) (tg : Expr) (J : It) (fp : List Addr) (it : Addr) (tn : Nat → Heap → Prop) : Prop where
 mem : it ∈ fp
 obj : ∀ i h, tn i h → ∀ b ∈ fp, ∃ o, h.get? b = some o ∧ ∀ v, o.data ≠ .cell v
 keep : ∀ i h h', tn i h → (∀ b ∈ fp, ∀ o, h.get? b = some o → h'.get? b = some o) → tn i h'
 item : ∀ (X : Cx), X.prog = P → X.w = w → X.K = K → X.calm = true → ∀ (i : Nat) (pins : T2) (s : Shared) (σ : St) (H : Hp) (E : T0), Inv X pins σ H s → (∀ b ∈ fp, FpOk X pins H b) → tn i s.heap → J.go i H →
  wpAny (model P w) X.A (pyNext (.ref it)) (fun r s1 => ∃ u, r = some u ∧
   wpAny (model P w) X.A (letOwnedTupleGo tg (.ref it) u) (fun _ s2 => ∃ x H', Inv X pins σ H' s2 ∧ RelV x u ∧ J.yld i H x H' ∧ tn (i + 1) s2.heap ∧ ∀ b ∈ fp, H' b = none) E s1) E s
 done : ∀ (X : Cx), X.prog = P → X.w = w → X.K = K → X.calm = true → ∀ (i : Nat) (pins : T2) (s : Shared) (σ : St) (H : Hp) (E : T0), Inv X pins σ H s → (∀ b ∈ fp, FpOk X pins H b) → tn i s.heap → J.stop i H →
  wpAny (model P w) X.A (pyNext (.ref it)) (fun r s1 => r = none ∧ Inv X pins σ H s1) E s
 self : ∀ (A : Around) (i : Nat) (s : Shared) (Q : T0) (E : T0), tn i s.heap → Q (.ref it) s → wpAny (model P w) A (pyIter (.ref it)) Q E s
abbrev TI := St → Hp → (It → Hp → Prop) → Prop
def PIE (X : Cx) (pins : T2) (σ : St) (tg : Expr) (R : It → Hp → Prop) (itv : Value) (s2 : Shared) : Prop :=
 ∃ (it : Addr) (fp : List Addr) (tn : Nat → Heap → Prop) (J : It) (H' : Hp), itv = .ref it ∧ Inv X pins σ H' s2 ∧ Turn X.prog X.w X.K tg J fp it tn ∧ tn 0 s2.heap ∧ (∀ b ∈ fp, FpOk X pins H' b) ∧ R J H'
def PI (X : Cx) (tg iter : Expr) (wi : TI) : Prop :=
 ∀ (pins : T2) (s : Shared) (σ : St) (H : Hp) (R : It → Hp → Prop), Inv X pins σ H s → wi σ H R →
  wpAny (model X.prog X.w) X.A (eval iter X.env) (fun v s1 => wpAny (model X.prog X.w) X.A (pyIter v) (PIE X pins σ tg R) X.xe s1) X.xe s
theorem zrc {M : Model} {A : Around} {E : T0} {s : Shared} {tg : Expr} {it : Addr} {u : Value} {o : Obj} {n : String} {vs : Array Value} {Q : Unit → Shared → Prop} (ho : s.heap.get? it = some o) (hc : o.cls = .type n) (hd : o.data = .fields vs)
  (hn : ["enumerate", "zip", "dict_itemiterator", "dict_reverseitemiterator", "odict_iterator", "itertools.zip_longest", "itertools.pairwise"].contains n = false) (hQ : Q () s) : wpAny M A (letOwnedTupleGo tg (.ref it) u) Q E s := by
 unfold letOwnedTupleGo
 cases tg <;> first
  | exact wpAny_pure hQ
  | (cases u <;> first
    | exact wpAny_pure hQ
    | (refine wpAny_bind (wpAny_load ho ?_)
       rw [hc, hd]
       show wpAny M A (if (["enumerate", "zip", "dict_itemiterator", "dict_reverseitemiterator", "odict_iterator", "itertools.zip_longest", "itertools.pairwise"].contains n && vs[0]? == some (rawInt _)) = true then _ else _) Q E s
       rw [if_neg (by intro h; rw [hn, y1k] at h; cases h)]
       exact wpAny_pure hQ))
def Itl (K : Frag) (a : Addr) : It :=
 ⟨fun i H => ∃ xs x, SqL K H a xs ∧ xs[i]? = some x, fun i H x H' => H' = H ∧ ∀ xs, SqL K H a xs → xs[i]? = some x, fun i H => ∃ xs, SqL K H a xs ∧ xs.length ≤ i⟩
def Itt (K : Frag) (a : Addr) : It :=
 ⟨fun i H => ∃ xs x, SqT K H a xs ∧ xs[i]? = some x, fun i H x H' => H' = H ∧ ∀ xs, SqT K H a xs → xs[i]? = some x, fun i H => ∃ xs, SqT K H a xs ∧ xs.length ≤ i⟩
def Itr (lo : Int) (n : Nat) : It := ⟨fun i _ => i < n, fun i H x H' => H' = H ∧ x = .int (lo + i), fun i _ => n ≤ i⟩
theorem zmq {P : Program} {w : World} {K : Frag} {tg : Expr} (a it : Addr) : Turn P w K tg (Itl K a) [it] it (fun i h => h.IsListIter it a i) where
 mem := by simp
 obj := fun i h st b hb => by
  have e : b = it := by simpa using hb
  subst e
  obtain ⟨o, e, c, d⟩ := st
  exact ⟨o, e, fun v z => by rw [d] at z; cases z⟩
 keep := fun i h h' st k => st.at fun o e => k it (by simp) o e
 item := by
  ac_rfl
  subst hP hw hK
  obtain ⟨xs, x, hq, hx⟩ := hg
  obtain ⟨its, rv, p, hz⟩ := I.list hq
  obtain ⟨u, hu, ru⟩ := rv.get hx
  obtain ⟨f0, f1, f2, f3, f4, f5⟩ := hf it (by simp)
  refine wpAny_pyNext_list_item st p.isList (x := u) (by simpa using hu) fun h' st' sb => ?_
  have I1 : Inv X pins σ H { s with heap := h' } := I.turned (t' := s.toks) (fun b o hb e => (sb.2 b hb).trans e) f0 f1 f3 f4 f5
  obtain ⟨o, e, c, d⟩ := id st'
  exact ⟨u, rfl, zrc (s := { s with heap := h' }) e c d (by decide) ⟨x, H, I1, ru, ⟨rfl, fun ys hy => by rw [I.list_inj hy hq]; exact hx⟩, st', fun b hb => (hf b hb).1⟩⟩
 done := by
  ac_rfl
  subst hP hw hK
  obtain ⟨xs, hq, hx⟩ := hg
  obtain ⟨its, rv, p, hz⟩ := I.list hq
  obtain ⟨f0, f1, f2, f3, f4, f5⟩ := hf it (by simp)
  have hl := rv.length
  exact wpAny_pyNext_list_end (I.ok.hd hc) st p.isList (by simp; omega) fun h' eb => ⟨rfl, I.turned (t' := s.toks) (fun b o hb e => eb b o hb e) f0 f1 f3 f4 f5⟩
 self := fun _ _ _ _ _ st h => wpAny_pyIter_listiter st h
theorem zlh {P : Program} {w : World} {K : Frag} {tg : Expr} (a it : Addr) : Turn P w K tg (Itt K a) [it] it (fun i h => h.IsTupleIter it a i) where
 mem := by simp
 obj := fun i h st b hb => by
  have e : b = it := by simpa using hb
  subst e
  obtain ⟨o, e, c, d⟩ := st
  exact ⟨o, e, fun v z => by rw [d] at z; cases z⟩
 keep := fun i h h' st k => st.at fun o e => k it (by simp) o e
 item := by
  ac_rfl
  subst hP hw hK
  obtain ⟨xs, x, hq, hx⟩ := hg
  obtain ⟨its, rv, p, hz⟩ := I.tuple hq
  obtain ⟨u, hu, ru⟩ := rv.get hx
  obtain ⟨f0, f1, f2, f3, f4, f5⟩ := hf it (by simp)
  refine wpAny_pyNext_tuple_item st (show s.heap.IsTuple a its.toArray from p) (x := u) (by simpa using hu) fun h' st' sb => ?_
  have I1 : Inv X pins σ H { s with heap := h' } := I.turned (t' := s.toks) (fun b o hb e => (sb.2 b hb).trans e) f0 f1 f3 f4 f5
  obtain ⟨o, e, c, d⟩ := id st'
  exact ⟨u, rfl, zrc (s := { s with heap := h' }) e c d (by decide) ⟨x, H, I1, ru, ⟨rfl, fun ys hy => by rw [I.tuple_inj hy hq]; exact hx⟩, st', fun b hb => (hf b hb).1⟩⟩
 done := by
  ac_rfl
  subst hP hw hK
  obtain ⟨xs, hq, hx⟩ := hg
  obtain ⟨its, rv, p, hz⟩ := I.tuple hq
  obtain ⟨f0, f1, f2, f3, f4, f5⟩ := hf it (by simp)
  have hl := rv.length
  exact wpAny_pyNext_tuple_end (I.ok.hd hc) st (show s.heap.IsTuple a its.toArray from p) (by simp; omega) fun h' eb => ⟨rfl, I.turned (t' := s.toks) (fun b o hb e => eb b o hb e) f0 f1 f3 f4 f5⟩
 self := fun _ _ _ _ _ st h => wpAny_pyIter_tupleiter st h
theorem zli {P : Program} {w : World} {K : Frag} {tg : Expr} (it : Addr) (lo : Int) (n : Nat) : Turn P w K tg (Itr lo n) [it] it (fun i h => IsRangeIter h it (lo + (i : Nat) * 1) ((n : Int) - (i : Nat)) 1) where
 mem := by simp
 obj := fun i h st b hb => by
  have e : b = it := by simpa using hb
  subst e
  exact ⟨_, st, fun v z => by
   have z' : Data.fields _ = Data.cell v := z
   cases z'⟩
 keep := fun i h h' st k => k it (by simp) _ st
 item := by
  ac_rfl
  subst hP hw hK
  obtain ⟨f0, f1, f2, f3, f4, f5⟩ := hf it (by simp)
  have W := Walks.range (prog := X.prog) (w := X.w) (I.ok.hd hc) it lo 1 n
  refine W.item i s _ _ hg st fun v h' tk hv st' kk => ?_
  obtain ⟨t, rfl⟩ := hv
  have I1 : Inv X pins σ H { s with heap := h', toks := tk } := I.turned (fun b o hb e => kk b o (by simpa using hb) e) f0 f1 f3 f4 f5
  refine ⟨_, rfl, zrc (s := { s with heap := h', toks := tk }) (n := "range_iterator") st' rfl rfl (by decide) ⟨.int (lo + i), H, I1, ⟨t, ?_⟩, ⟨rfl, rfl⟩, st', fun b hb => (hf b hb).1⟩⟩
  rw [Int.mul_one]
 done := by
  ac_rfl
  subst hP hw hK
  obtain ⟨f0, f1, f2, f3, f4, f5⟩ := hf it (by simp)
  exact wpAny_pyNext_range_end (I.ok.hd hc) st (by have : n ≤ i := hg; omega) fun h' eb => ⟨rfl, I.turned (t' := s.toks) (fun b o hb e => eb b o hb e) f0 f1 f3 f4 f5⟩
 self := fun _ _ _ _ _ st h => wpAny_pyIter_rangeiter st h
section
variable {X : Cx} {tg : Expr}
def iList (K : Frag) (tl : TE) : TI := fun σ H R => tl σ H fun x H1 => ∃ a, x = .ref a ∧ (∃ xs, SqL K H1 a xs) ∧ R (Itl K a) H1
def iTup (K : Frag) (tl : TE) : TI := fun σ H R => tl σ H fun x H1 => ∃ a, x = .ref a ∧ (∃ xs, SqT K H1 a xs) ∧ R (Itt K a) H1
theorem zs6 {l : Expr} {tl : TE} (hl : PE X l tl) : PI X tg l (iList X.K tl) := by
 intro pins s σ H R I h
 refine thn (hl pins s σ H _ I h) fun v s1 ⟨x, H1, I1, r1, q1⟩ => ?_
 obtain ⟨a, e, ⟨xs, hq⟩, q⟩ := q1
 subst e
 cases r1
 obtain ⟨its, rv, p, hz⟩ := I1.list hq
 refine wpAny_pyIter_list p.isList ?_
 refine ⟨s1.heap.objs.size, [s1.heap.objs.size], _, _, H1, rfl, I1.kept (t' := s1.toks) fun b o e => y03 _ e, zmq a _, ⟨_, y0e _ rfl, rfl, rfl⟩, fun b hb => ?_, q⟩
 have e : b = s1.heap.objs.size := by simpa using hb
 subst e
 exact I1.fpOk (y06 _) (I1.hok.fresh (y06 _))
theorem pi_tup {l : Expr} {tl : TE} (hl : PE X l tl) : PI X tg l (iTup X.K tl) := by
 intro pins s σ H R I h
 refine thn (hl pins s σ H _ I h) fun v s1 ⟨x, H1, I1, r1, q1⟩ => ?_
 obtain ⟨a, e, ⟨xs, hq⟩, q⟩ := q1
 subst e
 cases r1
 obtain ⟨its, rv, p, hz⟩ := I1.tuple hq
 refine wpAny_pyIter_tuple (show s1.heap.IsTuple a its.toArray from p) ?_
 refine ⟨s1.heap.objs.size, [s1.heap.objs.size], _, _, H1, rfl, I1.kept (t' := s1.toks) fun b o e => y03 _ e, zlh a _, ⟨_, y0e _ rfl, rfl, rfl⟩, fun b hb => ?_, q⟩
 have e : b = s1.heap.objs.size := by simpa using hb
 subst e
 exact I1.fpOk (y06 _) (I1.hok.fresh (y06 _))
theorem zp6 {pins : T2} {σ : St} {H : Hp} {s : Shared} {R : It → Hp → Prop} {E : T0} {lo hi : Int} {t u v : Tok} {tk : Nat} (I : Inv X pins σ H s) (h1 : -(2 ^ 62) ≤ lo) (h2 : lo < 2 ^ 62) (h3 : -(2 ^ 62) ≤ hi) (h4 : hi < 2 ^ 62)
  (q : R (Itr lo (hi - lo).toNat) H) : wpAny (model X.prog X.w) X.A (pyIter (.ref s.heap.objs.size)) (PIE X pins σ tg R) E { s with heap := s.heap.push { cls := .type "range", data := .fields #[.int lo t, .int hi u, .int 1 v] }, toks := tk } := by
 refine wpAny_pyIter_range (IsRange.new ..) (small_one h1 h2 h3 h4) ?_
 have I1 : Inv X pins σ H { s with heap := s.heap.push { cls := .type "range", data := .fields #[.int lo t, .int hi u, .int 1 v] }, toks := tk } := I.kept fun b o e => y03 _ e
 refine ⟨(s.heap.push { cls := .type "range", data := .fields #[.int lo t, .int hi u, .int 1 v] }).objs.size, [(s.heap.push { cls := .type "range", data := .fields #[.int lo t, .int hi u, .int 1 v] }).objs.size], _, _, H, rfl,
  I1.kept (t' := tk) fun b o e => y03 _ e, zli _ lo (hi - lo).toNat, ?_, fun b hb => ?_, q⟩
 ·have e1 : lo + ((0 : Nat) : Int) * 1 = lo := by simp
  have e2 : (((hi - lo).toNat : Nat) : Int) - ((0 : Nat) : Int) = Builtin.Range.rangeSize lo hi 1 := by rw [rangeSize_one]; split <;> omega
  show IsRangeIter _ _ (lo + ((0 : Nat) : Int) * 1) ((((hi - lo).toNat : Nat) : Int) - ((0 : Nat) : Int)) 1
  rw [e1, e2]
  exact y0e _ rfl
 ·have e : b = (s.heap.push { cls := .type "range", data := .fields #[.int lo t, .int hi u, .int 1 v] }).objs.size := by simpa using hb
  subst e
  exact I1.fpOk (y06 _) (I1.hok.fresh (y06 _))
def iRng1 (ta : TA) : TI := fun σ H R => ta σ H fun vs H1 => ∃ j : Int, vs = [.int j] ∧ -(2 ^ 62) ≤ j ∧ j < 2 ^ 62 ∧ R (Itr 0 j.toNat) H1
theorem zbi {a : Expr} {ta : TA} {p pos : Pos} (hg : Gl X "range") (hm : X.mg "range" = none) (ha : PA X [a] ta) (hs : starEach [a] X.env = [(false, eval a X.env)] := by rfl) : PI X tg (.Call (.Name "range" p) [a] [] pos) (iRng1 ta) := by
 intro pins s σ H R I h
 refine Call_ (zc6 I hg hm boot_range (PyProof.Rows.callWith_type1 (thn (ha pos pins s σ H _ I h) fun us s1 ⟨vs, H1, I1, r1, q1⟩ => ?_) hs rfl))
 obtain ⟨j, e, q1, q2, q⟩ := q1
 subst e
 cases r1 with
 | cons r rr =>
  cases rr
  obtain ⟨t, rfl⟩ := r
  exact call_range_1 (zp6 I1 (by omega) (by omega) q1 q2 (by simpa using q))
def tFor (wi : TI) (g : TG) (tb : TS) : TS := fun D σ H => wi σ H fun J H1 => ∃ W : Nat → Nat → St → Hp → Prop, (∃ m, W 0 m σ H1) ∧ ∀ i m σ H, W i m σ H →
 (J.stop i H ∧ D.nx σ H) ∨ (J.go i H ∧ ∃ N : St → Hp → Prop, (∀ σ' H', N σ' H' → ∃ m', m' < m ∧ W (i + 1) m' σ' H') ∧ ∀ x H', J.yld i H x H' → g x σ H' fun σ2 H2 => tb { D with nx := N, ct := N, bk := D.nx } σ2 H2)
def pinsAt (fp : List Addr) (h : Heap) : List (Addr × Obj) := fp.filterMap fun b => (h.get? b).map fun o => (b, o)
theorem zcn {fp : List Addr} {h : Heap} {b : Addr} {o : Obj} (hb : b ∈ fp) (e : h.get? b = some o) : (b, o) ∈ pinsAt fp h := List.mem_filterMap.mpr ⟨b, hb, by rw [e]; rfl⟩
theorem znx {fp : List Addr} {h : Heap} {p : Addr × Obj} (hp : p ∈ pinsAt fp h) : p.1 ∈ fp ∧ h.get? p.1 = some p.2 := by
 obtain ⟨b, hb, e⟩ := List.mem_filterMap.mp hp
 cases q : h.get? b with
 | none => rw [q] at e; cases e
 | some o =>
  rw [q] at e
  have e' : (b, o) = p := Option.some.inj e
  subst e'
  exact ⟨hb, q⟩
theorem Inv.pinned {pins : T2} {σ : St} {H : Hp} {s : Shared} {fp : List Addr} (I : Inv X pins σ H s) (hf : ∀ b ∈ fp, FpOk X pins H b) (ho : ∀ b ∈ fp, ∃ o, s.heap.get? b = some o ∧ ∀ v, o.data ≠ .cell v) : Inv X (pins ++ pinsAt fp s.heap) σ H s :=
 I.pins_of fun p hp => (y1f.mp hp).elim (fun z => I.pin p (y1e _ z)) fun z => by
  obtain ⟨hb, e⟩ := znx z
  obtain ⟨f0, f1, f2, _⟩ := hf p.1 hb
  obtain ⟨o, e', d⟩ := ho p.1 hb
  rw [e] at e'; cases e'
  exact ⟨e, f0, f1, f2, d⟩
theorem Inv.unpinned {pins pl : T2} {σ : St} {H : Hp} {s : Shared} (I : Inv X (pins ++ pl) σ H s) : Inv X pins σ H s := I.pins_of fun p hp => I.pin p (y1e _ (List.mem_append_left _ hp))
theorem zbo {iter : Expr} {body : List Stmt} {wi : TI} {g : TG} {tb : TS} {pos : Pos} (hp : PassesOwn (model X.prog X.w) X.A X.env X.xe) (hc : X.calm = true) (hi : PI X tg iter wi) (hg : PG X tg g) (hb : PSs X body tb)
  (hs : ∀ x, foldedSetIterable iter X.env x = pure x := by intro _; rfl) : PS X (.For tg iter body [] pos) (tFor wi g tb) := by
 intro pins s σ H D I h
 refine wpAny_For (thn (hi pins s σ H _ I h) fun v s1 h1 => thn h1 fun itv s2 h2 => ?_) hs
 obtain ⟨it, fp, tn, J, H2, e, I2, T, st2, f2, W, ⟨m0, w0⟩, turn⟩ := h2
 subst e
 have stat : ∀ {H' : Hp}, (∀ b ∈ fp, H' b = none) → ∀ b ∈ fp, FpOk X pins H' b := fun hn b hb => ⟨hn b hb, (f2 b hb).2⟩
 refine codeAny_forLoop_any (fun n s' => ∃ i σ' H', Inv X pins σ' H' s' ∧ tn i s'.heap ∧ (∀ b ∈ fp, H' b = none) ∧ W i n σ' H') ?_ m0 ⟨0, σ, H2, I2, st2, fun b hb => (f2 b hb).1, w0⟩
 rintro n s3 ⟨i, σ3, H3, I3, st3, fr3, w3⟩
 rcases turn i n σ3 H3 w3 with ⟨stop, qn⟩ | ⟨go, N, hN, step⟩
 ·refine wpAny_passesOwn hp (thn (T.done X rfl rfl rfl hc i pins s3 σ3 H3 X.xe I3 (stat fr3) st3 stop) fun r s4 ⟨hr, I4⟩ => ?_)
  subst hr
  exact wpAny_execs_nil ⟨σ3, H3, I4, qn⟩
 ·refine wpAny_passesOwn hp (thn (T.item X rfl rfl rfl hc i pins s3 σ3 H3 X.xe I3 (stat fr3) st3 go) fun r s4 ⟨u, hr, h4⟩ => ?_)
  subst hr
  refine wpAny_passesOwn hp (thn h4 fun _ s5 ⟨x, H5, I5, r5, y5, st5, fr5⟩ => ?_)
  have I5' := I5.pinned (stat fr5) (T.obj _ _ st5)
  refine wpAny_passesOwn hp (thn (hg _ s5 σ3 H5 x u _ I5' r5 (step x H5 y5)) fun _ s6 ⟨σ6, H6, I6, q6⟩ => ?_)
  refine wpAny_passesOwn hp (thn (hb _ s6 σ6 H6 _ I6 q6) fun f s7 q7 => ?_)
  have again : ∀ {σ7 : St} {H7 : Hp}, Inv X (pins ++ pinsAt fp s5.heap) σ7 H7 s7 → N σ7 H7 → ∃ m, m < n ∧ ∃ i σ' H', Inv X pins σ' H' s7 ∧ tn i s7.heap ∧ (∀ b ∈ fp, H' b = none) ∧ W i m σ' H' := fun {σ7 H7} I7 n7 => by
   obtain ⟨m', hm, w7⟩ := hN σ7 H7 n7
   refine ⟨m', hm, i + 1, σ7, H7, I7.unpinned, T.keep _ _ _ st5 fun b hb o e => (I7.pin (b, o) (y1e _ (y1e _ (zcn hb e)))).1, fun b hb => ?_, w7⟩
   obtain ⟨o, e, d⟩ := T.obj _ _ st5 b hb
   exact (I7.pin (b, o) (y1e _ (y1e _ (zcn hb e)))).2.1
  cases f with
  | next => obtain ⟨σ7, H7, I7, n7⟩ := q7; exact again I7 n7
  | cont => obtain ⟨σ7, H7, I7, n7⟩ := q7; exact again I7 n7
  | brk => obtain ⟨σ7, H7, I7, q7⟩ := q7; exact ⟨σ7, H7, I7.unpinned, q7⟩
  | ret v => obtain ⟨x7, σ7, H7, I7, r7, q7⟩ := q7; exact ⟨x7, σ7, H7, I7.unpinned, r7, q7⟩
end
theorem zrf {K : Frag} {a : Addr} {xs : List V} {g : TG} {tb : TS} {D : Ends} {σ : St} {H : Hp} (Pv : Nat → St → Hp → Prop) (h0 : Pv 0 σ H) (hl : ∀ i σ H, i ≤ xs.length → Pv i σ H → SqL K H a xs)
  (hs : ∀ i x σ H, xs[i]? = some x → Pv i σ H → g x σ H fun σ2 H2 => tb { D with nx := Pv (i + 1), ct := Pv (i + 1), bk := D.nx } σ2 H2) (hd : ∀ σ H, Pv xs.length σ H → D.nx σ H) :
  ∃ W : Nat → Nat → St → Hp → Prop, (∃ m, W 0 m σ H) ∧ ∀ i m σ H, W i m σ H →
   ((Itl K a).stop i H ∧ D.nx σ H) ∨ ((Itl K a).go i H ∧ ∃ N : St → Hp → Prop, (∀ σ' H', N σ' H' → ∃ m', m' < m ∧ W (i + 1) m' σ' H') ∧ ∀ x H', (Itl K a).yld i H x H' → g x σ H' fun σ2 H2 => tb { D with nx := N, ct := N, bk := D.nx } σ2 H2) := by
 refine ⟨fun i m σ H => m = xs.length - i ∧ i ≤ xs.length ∧ Pv i σ H, ⟨xs.length, by simp, y1b _, h0⟩, ?_⟩
 rintro i m σ H ⟨rfl, hi, p⟩
 have q := hl i σ H hi p
 by_cases hlt : i < xs.length
 ·refine .inr ⟨⟨xs, xs[i], q, by simp [hlt]⟩, Pv (i + 1), fun σ' H' p' => ⟨xs.length - (i + 1), by omega, rfl, hlt, p'⟩, fun x H' y => ?_⟩
  obtain ⟨e, y⟩ := y
  subst e
  exact hs i x σ _ (y xs q) p
 ·have e : i = xs.length := by omega
  subst e
  exact .inl ⟨⟨xs, q, y06 _⟩, hd σ H p⟩
theorem ztx {K : Frag} {a : Addr} {xs : List V} {g : TG} {tb : TS} {D : Ends} {σ : St} {H : Hp} (Pv : Nat → St → Hp → Prop) (h0 : Pv 0 σ H) (hl : ∀ i σ H, i ≤ xs.length → Pv i σ H → SqT K H a xs)
  (hs : ∀ i x σ H, xs[i]? = some x → Pv i σ H → g x σ H fun σ2 H2 => tb { D with nx := Pv (i + 1), ct := Pv (i + 1), bk := D.nx } σ2 H2) (hd : ∀ σ H, Pv xs.length σ H → D.nx σ H) :
  ∃ W : Nat → Nat → St → Hp → Prop, (∃ m, W 0 m σ H) ∧ ∀ i m σ H, W i m σ H →
   ((Itt K a).stop i H ∧ D.nx σ H) ∨ ((Itt K a).go i H ∧ ∃ N : St → Hp → Prop, (∀ σ' H', N σ' H' → ∃ m', m' < m ∧ W (i + 1) m' σ' H') ∧ ∀ x H', (Itt K a).yld i H x H' → g x σ H' fun σ2 H2 => tb { D with nx := N, ct := N, bk := D.nx } σ2 H2) := by
 refine ⟨fun i m σ H => m = xs.length - i ∧ i ≤ xs.length ∧ Pv i σ H, ⟨xs.length, by simp, y1b _, h0⟩, ?_⟩
 rintro i m σ H ⟨rfl, hi, p⟩
 have q := hl i σ H hi p
 by_cases hlt : i < xs.length
 ·refine .inr ⟨⟨xs, xs[i], q, by simp [hlt]⟩, Pv (i + 1), fun σ' H' p' => ⟨xs.length - (i + 1), by omega, rfl, hlt, p'⟩, fun x H' y => ?_⟩
  obtain ⟨e, y⟩ := y
  subst e
  exact hs i x σ _ (y xs q) p
 ·have e : i = xs.length := by omega
  subst e
  exact .inl ⟨⟨xs, q, y06 _⟩, hd σ H p⟩
theorem zok {lo : Int} {n : Nat} {g : TG} {tb : TS} {D : Ends} {σ : St} {H : Hp} (Pv : Nat → St → Hp → Prop) (h0 : Pv 0 σ H)
  (hs : ∀ i σ H, i < n → Pv i σ H → g (.int (lo + i)) σ H fun σ2 H2 => tb { D with nx := Pv (i + 1), ct := Pv (i + 1), bk := D.nx } σ2 H2) (hd : ∀ σ H, Pv n σ H → D.nx σ H) :
  ∃ W : Nat → Nat → St → Hp → Prop, (∃ m, W 0 m σ H) ∧ ∀ i m σ H, W i m σ H →
   ((Itr lo n).stop i H ∧ D.nx σ H) ∨ ((Itr lo n).go i H ∧ ∃ N : St → Hp → Prop, (∀ σ' H', N σ' H' → ∃ m', m' < m ∧ W (i + 1) m' σ' H') ∧ ∀ x H', (Itr lo n).yld i H x H' → g x σ H' fun σ2 H2 => tb { D with nx := N, ct := N, bk := D.nx } σ2 H2) := by
 refine ⟨fun i m σ H => m = n - i ∧ i ≤ n ∧ Pv i σ H, ⟨n, by simp, y1b _, h0⟩, ?_⟩
 rintro i m σ H ⟨rfl, hi, p⟩
 by_cases hlt : i < n
 ·refine .inr ⟨hlt, Pv (i + 1), fun σ' H' p' => ⟨n - (i + 1), by omega, rfl, hlt, p'⟩, fun x H' y => ?_⟩
  obtain ⟨e, y⟩ := y
  subst e y
  exact hs i σ _ hlt p
 ·have e : i = n := by omega
  subst e
  exact .inl ⟨y06 _, hd σ H p⟩
abbrev R2 := V → V → Hp → VK → Prop
def OpR (X : Cx) (f : Value → Value → Sem Value) (r : R2) : Prop :=
 ∀ (pins : T2) (s : Shared) (σ : St) (H : Hp) (x y : V) (v u : Value) (Q : VK), Inv X pins σ H s → RelV x v → RelV y u → r x y H Q →
  wpAny (model X.prog X.w) X.A (f v u) (EP X pins σ Q) X.xe s
def UnR (X : Cx) (f : Value → Sem Value) (r : V → Hp → VK → Prop) : Prop :=
 ∀ (pins : T2) (s : Shared) (σ : St) (H : Hp) (x : V) (v : Value) (Q : VK), Inv X pins σ H s → RelV x v → r x H Q →
  wpAny (model X.prog X.w) X.A (f v) (EP X pins σ Q) X.xe s
def CallR (X : Cx) (f : Value) (r : List V → Hp → VK → Prop) : Prop :=
 ∀ (pins : T2) (s : Shared) (σ : St) (H : Hp) (xs : List V) (us : List Value) (Q : VK), Inv X pins σ H s → Vals xs us → r xs H Q →
  wpAny (model X.prog X.w) X.A (call f us) (EP X pins σ Q) X.xe s
def tOp (r : R2) (ta tb : TE) : TE := fun σ H Q => ta σ H fun x H1 => tb σ H1 fun y H2 => r x y H2 Q
def tUn (r : V → Hp → VK → Prop) (ta : TE) : TE := fun σ H Q => ta σ H fun x H1 => r x H1 Q
def rI (C : Int → Int → Prop) (g : Int → Int → V) : R2 := fun x y H Q => ∃ i j, x = .int i ∧ y = .int j ∧ C i j ∧ Q (g i j) H
def rI0 (g : Int → Int → V) : R2 := fun x y H Q => ∃ i j, x = .int i ∧ y = .int j ∧ Q (g i j) H
def rU (g : Int → V) : V → Hp → VK → Prop := fun x H Q => ∃ i, x = .int i ∧ Q (g i) H
section
variable {X : Cx} {a b c : Expr} {ta tb tc : TE} {pos : Pos}
theorem binT (ha : PE X a ta) (hb : PE X b tb) {pins : T2} {s : Shared} {σ : St} {H : Hp} {R : V → V → Hp → Prop} (I : Inv X pins σ H s)
  (h : ta σ H fun x H1 => tb σ H1 fun y H2 => R x y H2) {Q : T0} {f : Value → Value → Sem Value}
  (hf : ∀ v u s2 x y H2, Inv X pins σ H2 s2 → RelV x v → RelV y u → R x y H2 → wpAny (model X.prog X.w) X.A (f v u) Q X.xe s2) :
  wpAny (model X.prog X.w) X.A (eval a X.env) (fun v s₁ => wpAny (model X.prog X.w) X.A (eval b X.env) (fun u s₂ => wpAny (model X.prog X.w) X.A (f v u) Q X.xe s₂) X.xe s₁) X.xe s := by
 refine thn (ha pins s σ H _ I h) fun v s1 ⟨x, H1, I1, r1, q1⟩ => ?_
 refine thn (hb pins s1 σ H1 _ I1 q1) fun u s2 ⟨y, H2, I2, r2, q2⟩ => ?_
 exact hf v u s2 x y H2 I2 r1 r2 q2
theorem za6 {op : Operator} {r : R2} (ho : OpR X (binaryOp op) r) (ha : PE X a ta) (hb : PE X b tb) : PE X (.BinOp a op b pos) (tOp r ta tb) := by
 intro pins s σ H Q I h
 exact wpAny_BinOp (binT ha hb I h fun v u s2 x y H2 I2 rx ry q => ho pins s2 σ H2 x y v u Q I2 rx ry q)
theorem pe_un {op : UnaryOp} {r : V → Hp → VK → Prop} (ho : UnR X (unaryOp op) r) (ha : PE X a ta) : PE X (.UnaryOp op a pos) (tUn r ta) := by
 intro pins s σ H Q I h
 exact UnaryOp_ (thn (ha pins s σ H _ I h) fun v s1 ⟨x, H1, I1, r1, q1⟩ => ho pins s1 σ H1 x v Q I1 r1 q1)
theorem opI {f : Value → Value → Sem Value} {C : Int → Int → Prop} {g : Int → Int → Int}
  (rule : ∀ (i j : Int) (t u : Tok) (s : Shared) (Q : T0) (E : T0), C i j → Q (.int (g i j) s.toks) { s with toks := s.toks + 1 } → wpAny (model X.prog X.w) X.A (f (.int i t) (.int j u)) Q E s) :
  OpR X f (rI C fun i j => .int (g i j)) := by
 infer_instance
 obtain ⟨i, j, rfl, rfl, hc, q⟩ := h
 obtain ⟨t, rfl⟩ := rx
 obtain ⟨t', rfl⟩ := ry
 exact rule i j t t' s _ _ hc ⟨.int (g i j), H, I.tok _, ⟨_, rfl⟩, q⟩
theorem opI0 {f : Value → Value → Sem Value} {g : Int → Int → Int}
  (rule : ∀ (i j : Int) (t u : Tok) (s : Shared) (Q : T0) (E : T0), Q (.int (g i j) s.toks) { s with toks := s.toks + 1 } → wpAny (model X.prog X.w) X.A (f (.int i t) (.int j u)) Q E s) :
  OpR X f (rI0 fun i j => .int (g i j)) := by
 infer_instance
 obtain ⟨i, j, rfl, rfl, q⟩ := h
 obtain ⟨t, rfl⟩ := rx
 obtain ⟨t', rfl⟩ := ry
 exact rule i j t t' s _ _ ⟨.int (g i j), H, I.tok _, ⟨_, rfl⟩, q⟩
theorem opB0 {f : Value → Value → Sem Value} {g : Int → Int → Bool}
  (rule : ∀ (i j : Int) (t u : Tok) (s : Shared) (Q : T0) (E : T0), Q (.bool (g i j)) s → wpAny (model X.prog X.w) X.A (f (.int i t) (.int j u)) Q E s) :
  OpR X f (rI0 fun i j => .bl (g i j)) := by
 infer_instance
 obtain ⟨i, j, rfl, rfl, q⟩ := h
 obtain ⟨t, rfl⟩ := rx
 obtain ⟨t', rfl⟩ := ry
 exact rule i j t t' s _ _ ⟨.bl (g i j), H, I, rfl, q⟩
def CDiv (i j : Int) : Prop := 0 < j ∧ j < 1073741824
def CPow (i j : Int) : Prop := 0 ≤ j ∧ j ≤ 1000000 ∧ i.natAbs < 2 ^ 64
def CMul (i j : Int) : Prop := (-(2 ^ 64) < i ∧ i < 2 ^ 64) ∨ (-(2 ^ 64) < j ∧ j < 2 ^ 64)
theorem CMul.ok {i j : Int} (h : CMul i j) : IntMulOk i j := by
 rcases h with ⟨h1, h2⟩ | ⟨h1, h2⟩
 ·exact .of_left (intBits_le_64 h1 h2)
 ·exact .of_right (intBits_le_64 h1 h2)
theorem zlg (k : Nat) : (0 : Int) ≤ 2 ^ k := by
 rw [two_pow_cast]
 exact Int.natCast_nonneg _
theorem zez : OpR X (binaryOp .Add) (rI0 fun i j => .int (i + j)) := opI0 fun _ _ _ _ _ _ _ q => add_int q
theorem znf : OpR X (binaryOp .Sub) (rI0 fun i j => .int (i - j)) := opI0 fun _ _ _ _ _ _ _ q => sub_int q
theorem zr0 : OpR X (binaryOp .Mult) (rI CMul fun i j => .int (i * j)) := opI fun _ _ _ _ _ _ _ hc q => mul_int q hc.ok
theorem zdk : OpR X (binaryOp .FloorDiv) (rI CDiv fun i j => .int (i / j)) := opI fun i j _ _ _ _ _ hc q => by
 have h1 : (0 : Int) < j := hc.1
 have h2 : j < 1073741824 := hc.2
 exact floordiv_int (by omega) (by rw [y3w i (by omega)]; exact q) (.inl (PyProof.noPylong_small (by omega)))
theorem zc2 : OpR X (binaryOp .Mod) (rI (fun _ j => 0 < j) fun i j => .int (i % j)) := opI fun i j _ _ _ _ _ hc q => by
 have h1 : (0 : Int) < j := hc
 exact mod_int' (by omega) (by rw [Int.fmod_eq_emod_of_nonneg i (by omega)]; exact q)
theorem zng : OpR X (binaryOp .LShift) (rI CPow fun i j => .int (i * 2 ^ j.toNat)) := opI fun _ _ _ _ _ _ _ hc q => lshift_int_small hc.1 hc.2.1 hc.2.2 q
theorem op_shr : OpR X (binaryOp .RShift) (rI (fun _ j => 0 ≤ j) fun i j => .int (i / 2 ^ j.toNat)) := opI fun i j _ _ _ _ _ hc q =>
 rshift_int hc (by rw [y3w i (zlg _)]; exact q)
theorem op_and : OpR X (binaryOp .BitAnd) (rI0 fun i j => .int (Builtin.bitAnd i j)) := opI0 fun _ _ _ _ _ _ _ q => and_int q
theorem unI {f : Value → Sem Value} {g : Int → Int}
  (rule : ∀ (i : Int) (t : Tok) (s : Shared) (Q : T0) (E : T0), Q (.int (g i) s.toks) { s with toks := s.toks + 1 } → wpAny (model X.prog X.w) X.A (f (.int i t)) Q E s) :
  UnR X f (rU fun i => .int (g i)) := by
 intro pins s σ H x v Q I rx h
 obtain ⟨i, rfl, q⟩ := h
 obtain ⟨t, rfl⟩ := rx
 exact rule i t s _ _ ⟨.int (g i), H, I.tok _, ⟨_, rfl⟩, q⟩
theorem zrs : UnR X (unaryOp .USub) (rU fun i => .int (-i)) := unI fun _ _ _ _ _ q => neg_int q
end
def scal : V → V → Bool
 | .non, .non => true | .non, .int _ => true | .int _, .non => true | .non, .bl _ => true | .bl _, .non => true | .non, .str _ => true | .str _, .non => true
 | .int _, .int _ => true | .bl _, .bl _ => true | .str _, .str _ => true | .byt _, .byt _ => true
 | .int _, .str _ => true | .str _, .int _ => true | .bl _, .str _ => true | .str _, .bl _ => true
 | _, _ => false
def rEq : R2 := fun x y H Q => scal x y = true ∧ Q (.bl (decide (x = y))) H
def rNe : R2 := fun x y H Q => scal x y = true ∧ Q (.bl (!decide (x = y))) H
theorem zoy {i j : Int} : decide (V.int i = V.int j) = (i == j) := by
 rw [y1v]
 simp
theorem zsd {i j : Bool} : decide (V.bl i = V.bl j) = (i == j) := by
 rw [y1v]
 simp
theorem zox {i j : Str} : decide (V.str i = V.str j) = (i == j) := by
 rw [y1v]
 simp
theorem zoz {i j : Array UInt8} : decide (V.byt i = V.byt j) = (i.toList == j.toList) := by
 rw [y1v]
 cases i
 cases j
 simp
section
variable {X : Cx} {a b c : Expr} {ta tb tc : TE} {pos : Pos}
theorem za2 {pins : T2} {σ : St} {H : Hp} {s : Shared} {Q : VK} {k k' : Bool} (I : Inv X pins σ H s) (q : Q (.bl k) H) (e : k = k') : EP X pins σ Q (.bool k') s := by
 subst e
 exact ⟨.bl k, H, I, rfl, q⟩
theorem zbu : OpR X (compareOp .Eq) rEq := by
 infer_instance
 obtain ⟨hs, q⟩ := h
 cases x with
 | non =>
  cases rx
  cases y with
  | non => cases ry; exact PySem.EqNone.eq_none_none (za2 I q (by simp))
  | bl j => cases ry; exact PySem.EqNone.eq_none_bool (za2 I q (by simp))
  | int j => obtain ⟨t', rfl⟩ := ry; exact PySem.EqNone.eq_none_int (za2 I q (by simp))
  | str j => obtain ⟨t', rfl⟩ := ry; exact PySem.EqNone.eq_none_str (za2 I q (by simp))
  | _ => exact absurd (show false = true from hs) y0f
 | bl i =>
  cases rx
  cases y with
  | non => cases ry; exact PySem.EqNone.eq_bool_none (za2 I q (by simp))
  | bl j => cases ry; exact eq_bool (za2 I q zsd)
  | str j => obtain ⟨t', rfl⟩ := ry; exact PySem.EqMixed.eq_bool_str (za2 I q (by simp))
  | _ => exact absurd (show false = true from hs) y0f
 | int i =>
  obtain ⟨t, rfl⟩ := rx
  cases y with
  | non => cases ry; exact PySem.EqNone.eq_int_none (za2 I q (by simp))
  | int j => obtain ⟨t', rfl⟩ := ry; exact eq_int (za2 I q zoy)
  | str j => obtain ⟨t', rfl⟩ := ry; exact PySem.EqMixed.eq_int_str (za2 I q (by simp))
  | _ => exact absurd (show false = true from hs) y0f
 | str i =>
  obtain ⟨t, rfl⟩ := rx
  cases y with
  | non => cases ry; exact PySem.EqNone.eq_str_none (za2 I q (by simp))
  | bl j => cases ry; exact PySem.EqMixed.eq_str_bool (za2 I q (by simp))
  | int j => obtain ⟨t', rfl⟩ := ry; exact PySem.EqMixed.eq_str_int (za2 I q (by simp))
  | str j => obtain ⟨t', rfl⟩ := ry; exact eq_str (za2 I q zox)
  | _ => exact absurd (show false = true from hs) y0f
 | byt i =>
  obtain ⟨t, rfl⟩ := rx
  cases y with
  | byt j => obtain ⟨t', rfl⟩ := ry; exact PySem.W.eq_bytes (za2 I q zoz)
  | _ => exact absurd (show false = true from hs) y0f
 | _ => cases y <;> exact absurd (show false = true from hs) y0f
theorem ztf : OpR X (compareOp .NotEq) rNe := by
 infer_instance
 obtain ⟨hs, q⟩ := h
 cases x with
 | non =>
  cases rx
  cases y with
  | non => cases ry; exact PySem.EqNone.ne_none_none (za2 I q (by simp))
  | bl j => cases ry; exact PySem.EqNone.ne_none_bool (za2 I q (by simp))
  | int j => obtain ⟨t', rfl⟩ := ry; exact PySem.EqNone.ne_none_int (za2 I q (by simp))
  | str j => obtain ⟨t', rfl⟩ := ry; exact PySem.EqNone.ne_none_str (za2 I q (by simp))
  | _ => exact absurd (show false = true from hs) y0f
 | bl i =>
  cases rx
  cases y with
  | non => cases ry; exact PySem.EqNone.ne_bool_none (za2 I q (by simp))
  | bl j => cases ry; exact ne_bool (za2 I q (congrArg not zsd))
  | str j => obtain ⟨t', rfl⟩ := ry; exact PySem.EqMixed.ne_bool_str (za2 I q (by simp))
  | _ => exact absurd (show false = true from hs) y0f
 | int i =>
  obtain ⟨t, rfl⟩ := rx
  cases y with
  | non => cases ry; exact PySem.EqNone.ne_int_none (za2 I q (by simp))
  | int j => obtain ⟨t', rfl⟩ := ry; exact ne_int (za2 I q (congrArg not zoy))
  | str j => obtain ⟨t', rfl⟩ := ry; exact PySem.EqMixed.ne_int_str (za2 I q (by simp))
  | _ => exact absurd (show false = true from hs) y0f
 | str i =>
  obtain ⟨t, rfl⟩ := rx
  cases y with
  | non => cases ry; exact PySem.EqNone.ne_str_none (za2 I q (by simp))
  | bl j => cases ry; exact PySem.EqMixed.ne_str_bool (za2 I q (by simp))
  | int j => obtain ⟨t', rfl⟩ := ry; exact PySem.EqMixed.ne_str_int (za2 I q (by simp))
  | str j => obtain ⟨t', rfl⟩ := ry; exact ne_str (za2 I q (congrArg not zox))
  | _ => exact absurd (show false = true from hs) y0f
 | byt i =>
  obtain ⟨t, rfl⟩ := rx
  cases y with
  | byt j => obtain ⟨t', rfl⟩ := ry; exact PySem.W.ne_bytes (za2 I q (congrArg not zoz))
  | _ => exact absurd (show false = true from hs) y0f
 | _ => cases y <;> exact absurd (show false = true from hs) y0f
theorem zqj : OpR X (compareOp .Lt) (rI0 fun i j => .bl (decide (i < j))) := opB0 fun _ _ _ _ _ _ _ q => lt_int q
theorem op_le : OpR X (compareOp .LtE) (rI0 fun i j => .bl (decide (i ≤ j))) := opB0 fun _ _ _ _ _ _ _ q => le_int q
theorem zqk : OpR X (compareOp .Gt) (rI0 fun i j => .bl (decide (j < i))) := opB0 fun _ _ _ _ _ _ _ q => gt_int q
theorem zhw : OpR X (compareOp .In) (fun x y H Q => ∃ i j, x = .str i ∧ y = .str j ∧ Q (.bl (!(Builtin.Str.occurrences j i 0 j.length 1).isEmpty)) H) := by
 infer_instance
 obtain ⟨i, j, rfl, rfl, q⟩ := h
 obtain ⟨t, rfl⟩ := rx
 obtain ⟨t', rfl⟩ := ry
 exact in_str (za2 I q rfl)
theorem nomark (b : Expr) {op : CmpOp} (h : op ≠ .In := by decide) (h2 : op ≠ .NotIn := by decide) : behindInMarks op b = false := by
 have e1 : (op == CmpOp.In) = false := by cases op <;> first | rfl | exact absurd rfl h
 have e2 : (op == CmpOp.NotIn) = false := by cases op <;> first | rfl | exact absurd rfl h2
 cases b <;> simp [behindInMarks, e1, e2]
theorem zbk {op : CmpOp} {r : R2} (ho : OpR X (compareOp op) r) (ha : PE X a ta) (hb : PE X b tb) (hm : behindInMarks op b = false) : PE X (.Compare a [op] [b] pos) (tOp r ta tb) := by
 intro pins s σ H Q I h
 exact wpAny_Compare1 (binT ha hb I h fun v u s2 x y H2 I2 rx ry q => ho pins s2 σ H2 x y v u Q I2 rx ry q) hm
def tTest (t : TE) : TT := fun σ H Q => t σ H fun x H' => ∃ k, x = .bl k ∧ Q k H'
theorem zam {op : CmpOp} {r : R2} (ho : OpR X (compareOp op) r) (ha : PE X a ta) (hb : PE X b tb) (hm : behindInMarks op b = false) : PT X (.Compare a [op] [b] pos) (tTest (tOp r ta tb)) := by
 intro pins s σ H Q I h
 refine wpAny_isTrue_Compare1 (thn (ha pins s σ H _ I h) fun v s1 ⟨x, H1, I1, r1, q1⟩ => thn (hb pins s1 σ H1 _ I1 q1) fun u s2 ⟨y, H2, I2, r2, q2⟩ =>
  thn (ho pins s2 σ H2 x y v u _ I2 r1 r2 q2) fun c s3 ⟨z, H3, I3, r3, k, e, q3⟩ => ?_) hm
 subst e
 cases r3
 exact wpAny_truthy_bool ⟨H3, I3, q3⟩
theorem line63 : (sizeLine : Nat) < 2 ^ 63 := by rw [sizeLine_eq]; decide
theorem vals1 {x : V} {us : List Value} (r : Vals [x] us) : ∃ u, us = [u] ∧ RelV x u := by
 cases r with
 | cons r1 r2 => cases r2; exact ⟨_, rfl, r1⟩
theorem vals2 {x y : V} {us : List Value} (r : Vals [x, y] us) : ∃ u w', us = [u, w'] ∧ RelV x u ∧ RelV y w' := by
 cases r with
 | cons r1 r2 =>
  cases r2 with
  | cons r3 r4 => cases r4; exact ⟨_, _, rfl, r1, r3⟩
end
structure ObjM (h : Heap) (x dx C : Addr) (mA : T1) : Prop where
 obj : h.get? x = some (PySem.W.instObj C dx)
 ns : h.Ns1 dx mA
 ne : dx ≠ x
theorem zn6 {h : Heap} {dx : Addr} {mA : T1} (n : h.Ns1 dx mA) : ∃ od, h.get? dx = some od ∧ ∀ name, PySem.W.lookIn name od = some (mA name) := by
 obtain ⟨o, es, ep, ho, hd, hk, _, hm⟩ := n
 refine ⟨o, ho, fun name => ?_⟩
 have e := hm name
 unfold nsFind findBy at e
 rw [← Array.find?_toList] at e
 unfold PySem.W.lookIn
 rw [hd]
 dsimp only
 split
 ·rename_i y q
  rw [q] at e
  exact congrArg some e
 ·rename_i q
  rw [q] at e
  have a : es.toList.any (·.refKey) = false := by
   rw [y3o]
   intro y hy
   obtain ⟨z, t, hkey⟩ := hk y (Array.mem_toList_iff.mp hy)
   simp [DictEntry.refKey, hkey]
  have a' : ¬ es.toList.any (·.refKey) = true := by rw [a]; exact y0f
  rw [if_neg a']
  exact congrArg some e
theorem ObjM.look {h : Heap} {x dx C : Addr} {mA : T1} (I : ObjM h x dx C mA) : ∃ od, PySem.W.InstAt h x (PySem.W.instObj C dx) C (some od) ∧ ∀ name, PySem.W.lookIn name od = some (mA name) :=
 let ⟨od, ho, hl⟩ := zn6 I.ns
 ⟨od, ⟨I.obj, rfl, rfl, ho⟩, hl⟩
theorem RelO.some_of {v : V} {o : Option Value} (r : RelO (some v) o) : ∃ u, o = some u ∧ RelV v u := by
 cases o with
 | none => exact (show False from r).elim
 | some u => exact ⟨u, rfl, r⟩
section
variable {P : Program} {w : World} {H H' : Hp} {h h' : Heap} {a C dx : Addr} {fs fs' : List (Str × V)}
theorem ztv (hok : HOk P w H h) (e : H a = some (.ins C dx fs)) : ∃ mA, ObjM h a dx C mA ∧ (∀ f, RelO (fs.lookup f) (mA f)) ∧ PySem.Within mA (fs.map (·.1)) ∧ fs.length ≤ 1000 ∧ H dx = some (.own a) := by
 obtain ⟨d, z, ne, ob, mA, n, r, q⟩ := (show ObjOk P w H h a (.ins C dx fs) from hok a _ e)
 exact ⟨mA, ⟨ob, n, ne⟩, r, q, z, d⟩
end
structure Cls (K : Frag) (C : Addr) : Prop where
 pg : PySem.W.plainGet K C Str.empty = true
 hd : PySem.W.hasDictIn K C = true
 po : PySem.W.plainOver K C = true
 sa : PySem.W.findIn K (.ref C) "__setattr__" = some (some (.builtin "object.__setattr__"))
theorem Cls.get {K : Frag} {C : Addr} (c : Cls K C) (f : Str) : PySem.W.plainGet K C f = true := c.pg
section
variable {X : Cx} {pins : T2} {σ : St} {H : Hp} {s : Shared} {A : Around} {E : T0} {Q : T0} {c : Value} {b : Bool}
inductive TyOf (K : Frag) (H : Hp) : V → Value → Prop where
 | non : TyOf K H .non (.type "NoneType")
 | bl (x : Bool) : TyOf K H (.bl x) (.type "bool")
 | int (i : Int) : TyOf K H (.int i) (.type "int")
 | str (x : Str) : TyOf K H (.str x) (.type "str")
 | flt (x : UInt64) : TyOf K H (.flt x) (.type "float")
 | lst {a : Addr} {xs : List V} (e : H a = some (.lst xs)) : TyOf K H (.ref a) (.type "list")
 | frz {a : Addr} {o : Obj} {xs : List V} (e : H a = some (.frz o (.lst xs))) : TyOf K H (.ref a) (.type "list")
 | tup {a : Addr} {xs : List V} (e : H a = some (.tup xs)) : TyOf K H (.ref a) (.type "tuple")
 | dK {a : Addr} {kvs : List (Key × V)} (e : H a = some (.dK kvs)) : TyOf K H (.ref a) (.type "dict")
 | dT {a : Addr} {kvs : List (List Key × V)} (e : H a = some (.dT kvs)) : TyOf K H (.ref a) (.type "dict")
 | ins {a C dx : Addr} {fs : List (Str × V)} (e : H a = some (.ins C dx fs)) (cl : Cls K C) (ha : PySem.W.findIn K (.ref C) "__class__" = some (some (.builtin "object.__class__")))
   (hn : PySem.W.specialIn K (.builtin "object.__class__") "__get__" = some (some (.builtin "getset_descriptor.__get__"))) (htk : PySem.W.takesIn K (.builtin "object.__class__") = some true)
   (hm : PySem.W.mroIn K C (.type "object") = some true) : TyOf K H (.ref a) (.ref C)
theorem zof {x : V} {u t : Value} (I : Inv X pins σ H s) (rx : RelV x u) (ty : TyOf X.K H x t) (e : PySem.W.kitOne X.K t c = some b) (h : ∀ tk, Q (.bool b) { s with toks := tk }) :
  wpAny (model X.prog X.w) A (call (.builtin "isinstance") [u, c]) Q E s := by
 cases ty with
 | non => cases (show u = Value.none from rx); exact PySem.W.kia_one PySem.W.kitx_none I.kIn True.intro e (fun z => nomatch z) h
 | bl y => cases (show u = Value.bool y from rx); exact PySem.W.kia_one PySem.W.kitx_bool I.kIn True.intro e (fun z => nomatch z) h
 | int i => obtain ⟨t, q⟩ := (show ∃ t, u = Value.int i t from rx); cases q; exact PySem.W.kia_one PySem.W.kitx_int I.kIn True.intro e (fun z => nomatch z) h
 | str y => obtain ⟨t, q⟩ := (show ∃ t, u = Value.str y t from rx); cases q; exact PySem.W.kia_one PySem.W.kitx_str I.kIn True.intro e (fun z => nomatch z) h
 | flt y => obtain ⟨t, q⟩ := (show ∃ t, u = Value.float y t from rx); cases q; exact PySem.W.kia_one PySem.W.kitx_float I.kIn True.intro e (fun z => nomatch z) h
 | @lst a xs ea =>
  cases (show u = Value.ref a from rx)
  obtain ⟨_, _, n, _, h1⟩ := (show ObjOk X.prog X.w H s.heap a (.lst xs) from I.hok a _ ea)
  exact PySem.W.kia_one PySem.W.kitx_list I.kIn ⟨_, h1, rfl⟩ e (fun z => nomatch z) h
 | @frz a ob xs ea =>
  cases (show u = Value.ref a from rx)
  obtain ⟨_, _, _, n, _, h1⟩ := (show ObjOk X.prog X.w H s.heap a (.frz ob (.lst xs)) from I.hok a _ ea)
  exact PySem.W.kia_one PySem.W.kitx_list I.kIn ⟨_, h1, rfl⟩ e (fun z => nomatch z) h
 | @tup a xs ea =>
  cases (show u = Value.ref a from rx)
  obtain ⟨_, _, _, p⟩ := (show ObjOk X.prog X.w H s.heap a (.tup xs) from I.hok a _ ea)
  obtain ⟨o, h1, h2, _⟩ := p
  exact PySem.W.kia_one PySem.W.kitx_tuple I.kIn ⟨o, h1, h2⟩ e (fun z => nomatch z) h
 | @dK a kvs ea =>
  cases (show u = Value.ref a from rx)
  obtain ⟨_, _, vs, _, p⟩ := (show ObjOk X.prog X.w H s.heap a (.dK kvs) from I.hok a _ ea)
  obtain ⟨o, es, ep, h1, h2, _⟩ := p
  exact PySem.W.kia_one PySem.W.kitx_dict I.kIn ⟨o, h1, h2.1⟩ e (fun z => nomatch z) h
 | @dT a kvs ea =>
  cases (show u = Value.ref a from rx)
  obtain ⟨_, _, xs, _, o, es, ep, h1, h2, _⟩ := (show ObjOk X.prog X.w H s.heap a (.dT kvs) from I.hok a _ ea)
  exact PySem.W.kia_one PySem.W.kitx_dict I.kIn ⟨o, h1, h2.1⟩ e (fun z => nomatch z) h
 | @ins a C dx fs ea cl ha hn htk hm =>
  cases (show u = Value.ref a from rx)
  obtain ⟨mA, O, _⟩ := ztv I.hok ea
  obtain ⟨od, J, _⟩ := O.look
  exact PySem.W.kia_one (PySem.W.kitx_own (cl.get _) cl.hd ha hn htk hm) I.kIn J e (fun z => nomatch z) h
end
structure Room (k : Nat) (A : Around) : Prop where
 hd : A.handled = none
 dp : A.depth + 3 * k + 5 < recursionLimit
 un : A.units + 16 * k + 200 < cLine
theorem Room.mono {j k : Nat} {A : Around} (r : Room k A) (h : j ≤ k) : Room j A := ⟨r.hd, by have := r.dp; omega, by have := r.un; omega⟩
theorem Room.deeper {k : Nat} {A : Around} (r : Room (k + 1) A) (env : Env) : Room k (A.deeper env) :=
 ⟨r.hd, by have := r.dp; show A.depth + 1 + 3 * k + 5 < _; omega, by have := r.un; show A.units + 3 + 16 * k + 200 < _; omega⟩
theorem Room.depth {k : Nat} {A : Around} (r : Room k A) : A.depth < recursionLimit := by have := r.dp; omega
theorem Room.units {k : Nat} {A : Around} (r : Room k A) : A.units + 64 < cLine := by have := r.un; omega
def tNil : TA := fun _ H Q => Q [] H
def tCons (ta : TE) (tr : TA) : TA := fun σ H Q => ta σ H fun x H1 => tr σ H1 fun xs H2 => Q (x :: xs) H2
section
variable {X : Cx} {e : Expr} {es : List Expr} {te : TE} {t : TA} {pos : Pos}
theorem zaa : PA X [] tNil := fun _ _ _ _ H Q I h => Calls.spliced_nil ⟨[], H, I, .nil, h⟩
theorem ztc (ha : PE X e te) (hr : PA X es t) (hs : starEach (e :: es) X.env = (false, eval e X.env) :: starEach es X.env := by rfl) : PA X (e :: es) (tCons te t) := by
 intro pos pins s σ H Q I h
 rw [hs]
 show wpAny _ _ (spliced ((false, eval e X.env) :: backTo pos (starEach es X.env))) _ _ s
 refine Calls.spliced_cons (thn (ha pins s σ H _ I h) fun u s1 ⟨x, H1, I1, r1, q1⟩ => ?_)
 exact thn (hr pos pins s1 σ H1 _ I1 q1) fun us s2 ⟨xs, H2, I2, r2, q2⟩ => ⟨x :: xs, H2, I2, .cons r1 r2, q2⟩
end
abbrev Sp := List V → Hp → VK → XK → Prop
abbrev CXT := List Env → Hp → Shared → XK → Value → Shared → Prop
structure Env0 (P : Program) (w : World) (K : Frag) (mg : T1) (base : Heap) (A : Around) (outer : List Env) (s : Shared) (H : Hp) : Prop where
 frames : A.frames = some outer
 mod : Mod K mg base
 bs : ∀ b o, base.get? b = some o → s.heap.get? b = some o ∧ H b = none
 bsz : base.objs.size ≤ s.heap.objs.size
 funs : s.heap.FunFrames base outer
 frf : ∀ b ∈ frs outer, H b = none
 hok : HOk P w H s.heap
 bare : AllBare s.gens
def CE (outer : List Env) (P : Program) (w : World) (H : Hp) (s : Shared) (Q : VK) (u : Value) (s' : Shared) : Prop :=
 ∃ v H', s'.os = s.os ∧ AllBare s'.gens ∧ Un (frs outer) [] H H' s.heap s'.heap ∧ HOk P w H' s'.heap ∧ RelV v u ∧ Q v H'
def CR (CX : CXT) (outer : List Env) (P : Program) (w : World) (H : Hp) (s : Shared) (Q : VK) (E : XK) (r : Result) (s' : Shared) : Prop :=
 match r with
 | .ok (.ret u) => CE outer P w H s Q u s'
 | .ok _ => False
 | .error e => CX outer H s E e s'
structure FnOk (P : Program) (w : World) (K : Frag) (mg : T1) (base : Heap) (CX : CXT) (k : Nat) (f : Addr) (fd : FuncData) (ps : List Str) (sp : Sp) : Prop where
 len : ∀ vs H Q E, sp vs H Q E → vs.length = ps.length
 run : ∀ (A : Around) (outer : List Env) (s : Shared) (H : Hp) (args : Args) (us : List Value) (vs : List V) (Q : VK) (E : XK), Room k A → Env0 P w K mg base A outer s H → BindsTo s fd args (ps.zip us) → Vals vs us → sp vs H Q E →
  codeAny (model P w) A (.call (.ref f) args) (CR CX outer P w H s Q E) s
theorem FnOk.mono {P : Program} {w : World} {K : Frag} {mg : T1} {base : Heap} {CX : CXT} {j k : Nat} {f : Addr} {fd : FuncData} {ps : List Str} {sp : Sp} (F : FnOk P w K mg base CX j f fd ps sp) (h : j ≤ k) :
  FnOk P w K mg base CX k f fd ps sp := ⟨F.len, fun A outer s H args us vs Q E hr => F.run A outer s H args us vs Q E (hr.mono h)⟩
section
variable {X : Cx} {pins : T2} {σ : St} {H : Hp} {s s' : Shared}
theorem Inv.env0 (I : Inv X pins σ H s) : Env0 X.prog X.w X.K X.mg X.base X.A X.stack s H :=
 ⟨I.ok.frames, I.ok.mod, I.bs, y10 I.ok.bsz I.sz, I.stack, I.stkFree, I.hok, I.bare⟩
theorem Inv.after {Q : VK} {u : Value} (I : Inv X pins σ H s) (h : CE X.stack X.prog X.w H s Q u s') : EP X pins σ Q u s' := by
 obtain ⟨v, H', os, bare, un, hok, r, q⟩ := h
 obtain ⟨hh, g, d, t, os'⟩ := s'
 obtain rfl : os' = s.os := os
 exact ⟨v, H', I.call (h' := hh) (g' := g) (d' := d) (t' := t) (ch := []) un hok bare (fun b z => absurd z (by simp)), r, q⟩
end
def tCall (sp : Sp) (dvs : List V) (E : XK) (t : TA) : TE := fun σ H Q => t σ H fun vs H1 => sp (vs ++ dvs) H1 Q E
def Binds (K : Frag) (fd : FuncData) (ps : List Str) (ds : List Value) : Prop :=
 ∀ (s : Shared) (us : List Value), K.In s.heap → (us ++ ds).length = ps.length → BindsTo s fd ⟨us, []⟩ (ps.zip (us ++ ds))
theorem Binds.all {K : Frag} {fd : FuncData} {ps : List Str} (h : ∀ us : List Value, us.length = ps.length → bindArgs fd ⟨us, []⟩ = pure (ps.zip us)) : Binds K fd ps [] := fun s us _ hl => by
 rw [y13] at hl ⊢
 exact .of_eq (h us hl)
def Passes (CX : CXT) (X : Cx) (E : XK) : Prop := ∀ (pins : T2) (σ : St) (H : Hp) (s : Shared) (e : Value) (s' : Shared), Inv X pins σ H s → CX X.stack H s E e s' → X.xe e s'
section
variable {X : Cx} {CX : CXT} {k : Nat} {f C : Addr} {fd : FuncData} {ps : List Str} {sp : Sp} {dvs : List V} {ds : List Value} {E : XK} {x m : Str} {p pos apos : Pos} {e o : Expr} {es : List Expr} {ta : TE} {t : TA}
theorem zrv {pins : T2} {σ : St} {H : Hp} {s : Shared} {Q : VK} {us : List Value} {vs : List V} (F : FnOk X.prog X.w X.K X.mg X.base CX k f fd ps sp) (hr : Room k X.A) (hb : Binds X.K fd ps ds) (hd : Vals dvs ds) (hx : Passes CX X E)
  (I : Inv X pins σ H s) (r : Vals vs us) (h : sp (vs ++ dvs) H Q E) : wpAny (model X.prog X.w) X.A (call (.ref f) us) (EP X pins σ Q) X.xe s := by
 have r2 : Vals (vs ++ dvs) (us ++ ds) := r.append hd
 have hl : (us ++ ds).length = ps.length := by rw [← r2.length]; exact F.len _ _ _ _ h
 refine wpAny_call (codeAny_mono (F.run X.A X.stack s H ⟨us, []⟩ (us ++ ds) (vs ++ dvs) Q E hr I.env0 (hb s us I.kIn hl) r2 h) fun r s' hq => ?_)
 cases r with
 | error e => exact hx pins σ H s e s' I hq
 | ok fl =>
  cases fl with
  | ret u => exact I.after hq
  | next => exact False.elim hq
  | brk => exact False.elim hq
  | cont => exact False.elim hq
theorem ztb (F : FnOk X.prog X.w X.K X.mg X.base CX k f fd ps sp) (hr : Room k X.A) (hg : Gl X x) (hm : X.mg x = some (.ref f)) (hk : PySem.W.keepIn X.K (.ref f) = true) (hb : Binds X.K fd ps ds) (hd : Vals dvs ds) (hx : Passes CX X E)
  (ha : PA X (e :: es) t) (hdb : (x == ("__debug__" : Str)) = false := by decide) (he : starEach (e :: es) X.env = (false, eval e X.env) :: starEach es X.env := by rfl) (hpl : (backTo pos (starEach es X.env)).any (·.1) = false := by rfl) :
  PE X (.Call (.Name x p) (e :: es) [] pos) (tCall sp dvs E t) := by
 intro pins s σ H Q I h
 refine wpAny_Call_Name_kw (zje I hg hm ?_ hdb)
 refine PySem.W.callWith_K (h₀ := X.base) I.ok.mod.kin hk (thn (ha pos pins s σ H _ I h) fun us s1 ⟨vs, H1, I1, r, q⟩ => ⟨I1.kIn, ?_⟩) he hpl
 exact zrv F hr hb hd hx I1 r q
end
structure FnScope (N P : List Str) (sc : Scope) : Prop where
 kind : sc.kind = .function
 co : sc.isCoroutine = false
 gen : sc.isGenerator = false
 nd : N.Nodup
 pre : N.take P.length = P
 par : ∀ x ∈ P, sc.names.lookup x = some .local ∨ sc.names.lookup x = some .cell
 nofree : ∀ y ∈ sc.names, y.2 ≠ .free
theorem zij {kindOf : Str → Option NameKind} {x : Str} : ∀ {binds : List (Str × Value)} {m : T1}, (∀ v, (x, v) ∉ binds) → bindL kindOf binds m x = m x
 | [], _, _ => rfl
 | (n, v) :: r, m, h => by
  unfold bindL
  rw [zij fun w hw => h w (y09 _ hw)]
  split
  ·have : x ≠ n := by rintro rfl; exact h v y0c
   simp [this]
  ·rfl
theorem zil {kindOf : Str → Option NameKind} {x : Str} : ∀ {binds : List (Str × Value)} {m : T1}, (∀ v, (x, v) ∉ binds) → bindC kindOf binds m x = m x
 | [], _, _ => rfl
 | (n, v) :: r, m, h => by
  unfold bindC
  rw [zil fun w hw => h w (y09 _ hw)]
  split
  ·rfl
  ·have : x ≠ n := by rintro rfl; exact h v y0c
   simp [this]
theorem zik {kindOf : Str → Option NameKind} {x : Str} {v : Value} : ∀ {P : List Str} {vs : List Value} {i : Nat} {m : T1}, P.Nodup → P[i]? = some x → vs[i]? = some v → kindOf x = some .local →
  bindL kindOf (P.zip vs) m x = some v
 | [], _, _, _, _, h, _, _ => by simp at h
 | _ :: _, [], _, _, _, _, h, _ => by simp at h
 | p :: P, w :: vs, 0, m, nd, h1, h2, hk => by
  simp at h1 h2; subst h1; subst h2
  show bindL kindOf ((p, w) :: P.zip vs) m p = _
  unfold bindL
  rw [zij fun v hv => (y0y.mp nd).1 (y25 hv).1, if_pos hk]
  simp
 | p :: P, w :: vs, i + 1, m, nd, h1, h2, hk => by
  show bindL kindOf ((p, w) :: P.zip vs) m x = _
  unfold bindL
  exact zik (i := i) (y0y.mp nd).2 (by simpa using h1) (by simpa using h2) hk
theorem zim {kindOf : Str → Option NameKind} {x : Str} {v : Value} : ∀ {P : List Str} {vs : List Value} {i : Nat} {m : T1}, P.Nodup → P[i]? = some x → vs[i]? = some v → kindOf x ≠ some .local →
  bindC kindOf (P.zip vs) m x = some v
 | [], _, _, _, _, h, _, _ => by simp at h
 | _ :: _, [], _, _, _, _, h, _ => by simp at h
 | p :: P, w :: vs, 0, m, nd, h1, h2, hk => by
  simp at h1 h2; subst h1; subst h2
  show bindC kindOf ((p, w) :: P.zip vs) m p = _
  unfold bindC
  rw [zil fun v hv => (y0y.mp nd).1 (y25 hv).1, if_neg hk]
  simp
 | p :: P, w :: vs, i + 1, m, nd, h1, h2, hk => by
  show bindC kindOf ((p, w) :: P.zip vs) m x = _
  unfold bindC
  exact zim (i := i) (y0y.mp nd).2 (by simpa using h1) (by simpa using h2) hk
def start (N : List Str) (vs : List V) : St := vs.map some ++ List.replicate (N.length - vs.length) none
def cxOf (CX : CXT) (P : Program) (w : World) (K : Frag) (mg : T1) (base : Heap) (N : List Str) (qual : Str) (scope : Scope) (f : Addr) (cd : Value) (A : Around) (outer : List Env) (s : Shared) (H : Hp) (E : XK) : Cx where
 prog := P
 w := w
 K := K
 mg := mg
 base := base
 A := A.deeper (envOfC qual scope s.heap.objs.size f cd)
 N := N
 s₀ := s
 H₀ := H
 env := envOfC qual scope s.heap.objs.size f cd
 outer := outer
 stack := envOfC qual scope s.heap.objs.size f cd :: outer
 ex := []
 calm := true
 fn := fun _ => true
 pn := []
 xe := fun e s' => wpAny (model P w) (A.deeper (envOfC qual scope s.heap.objs.size f cd)) (leaving (envOfC qual scope s.heap.objs.size f cd) e) (fun _ s'' => CX outer H s E e s'') (fun e' s'' => CX outer H s E e' s'') s'
theorem zlb {sc : Scope} {n : Nat} {x : Str} (h : sc.names.lookup x = some .cell) : ∃ c, (cellsFrom n sc.names []).lookup x = some c := by
 have q := PySem.W.cellsFrom_some sc.names n [] (.inl h)
 exact y35.mp q
theorem zh3 {CX : CXT} {P : Program} {w : World} {K : Frag} {mg : T1} {base : Heap} {N ps : List Str} {qual : Str} {scope : Scope} {f : Addr} {cd : Value} {A : Around} {outer : List Env} {s s1 : Shared} {H : Hp} {E : XK} {us : List Value} {vs : List V}
  (S : FnScope N ps scope) (hd : A.handled = none) (e0 : Env0 P w K mg base A outer s H) (hl : vs.length = ps.length) (r : Vals vs us)
  (x : InCallC s s.heap.objs.size (bindL (envOfC qual scope s.heap.objs.size f cd).kindOf (ps.zip us) fun _ => none) (cellsFrom (s.heap.objs.size + 1) scope.names []) (bindC (envOfC qual scope s.heap.objs.size f cd).kindOf (ps.zip us) fun _ => none) s1) :
  Inv (cxOf CX P w K mg base N qual scope f cd A outer s H E) [] (start N vs) H s1 := by
 have hpl : ps.length ≤ N.length := by have := congrArg List.length S.pre; rw [y0w] at this; omega
 obtain ⟨h1, tk, rfl, hk⟩ := x.done
 have noA : ∀ b : Addr, b ∉ (cxOf CX P w K mg base N qual scope f cd A outer s H E).ex := fun b z => absurd (show b ∈ ([] : List Addr) from z) (by simp)
 refine ⟨⟨e0.mod, S.kind, rfl, rfl, y06 _, fun y z c h1 h2 => ?_, fun y hy => ?_, fun y c _ h => ?_, fun _ => hd, Around.frames_deeper e0.frames, .inr ⟨rfl, rfl⟩, fun b z => absurd z (noA b), e0.bs, e0.bsz, fun b _ _ => noA b, fun b z => absurd z (noA b), e0.funs, e0.frf⟩,
  rfl, e0.bare, Un.kept hk, ⟨_, x.toInCall.ns, fun i y v h1 h2 h3 => ?_⟩, fun y c h => ⟨_, x.cell y c h⟩, e0.hok.fresh (y06 _), fun y c h => ?_, fun p hp => absurd (show p ∈ ([] : T2) from hp) (by simp), e0.hok.kept hk, ?_⟩
 ·exact name_of_addr x.apart (PySem.mem_of_lookup h1) (PySem.mem_of_lookup h2)
 ·have hy : scope.names.lookup y = some .cell ∨ scope.names.lookup y = some .free := hy
  rcases hy with hy | hy
  ·exact zlb hy
  ·exact absurd rfl (S.nofree _ (PySem.mem_of_lookup hy))
 ·exact y1t (x.above y c (PySem.mem_of_lookup h))
 ·have hi : i < vs.length := by
   unfold start at h2
   by_cases hi : i < vs.length
   ·exact hi
   ·rw [y0x (by simpa using hi)] at h2
    rw [y2n] at h2
    split at h2 <;> cases h2
  have ha : vs[i]? = some v := by
   unfold start at h2
   rw [y11 (by simpa using hi), y04] at h2
   cases e : vs[i]? with
   | none => rw [e] at h2; cases h2
   | some a => rw [e] at h2; cases h2; rfl
  obtain ⟨u, hu, rv⟩ := r.get ha
  have hp : ps[i]? = some y := by
   rw [← S.pre, y3z (by omega)]; exact h1
  have ndP : ps.Nodup := by rw [← S.pre]; exact S.nd.sublist (List.take_sublist _ _)
  refine ⟨u, rv, ?_⟩
  rcases S.par y (y0h hp) with k | k
  ·exact .inl ⟨k, zik ndP hp hu k⟩
  ·obtain ⟨c, e⟩ := zlb (n := s.heap.objs.size + 1) k
   refine .inr ⟨.inl k, c, e, ?_⟩
   have q := x.cell y c e
   rw [zim ndP hp hu (by show scope.names.lookup y ≠ _; rw [k]; decide)] at q
   exact q
 ·exact e0.hok.fresh (y1t (x.above y c (PySem.mem_of_lookup h)))
 ·unfold start
  show _ = N.length
  rw [y0j, y01, y2t]
  omega
theorem fn_of {CX : CXT} {P : Program} {w : World} {K : Frag} {mg : T1} {base : Heap} {k : Nat} {f : Addr} {name qual : Str} {params : Arguments} {body : List Stmt} {scope : Scope} {dV kV doc pm cdv ct oc : Value} {an od : Option Addr}
  {osl : T8} {N ps : List Str} {sp : Sp} (lk : K.lookup f = some ⟨oc, od, .func (PySem.W.fnOf name qual params body scope dV kV doc pm an cdv ct), osl⟩) (hcd : PySem.W.codeIn K cdv qual = true) (S : FnScope N ps scope)
  (len : ∀ vs H Q E, sp vs H Q E → vs.length = ps.length)
  (hbody : ∀ (A : Around) (outer : List Env) (s : Shared) (H : Hp) (vs : List V) (Q : VK) (E : XK), Room k (A.deeper (envOfC qual scope s.heap.objs.size f cdv)) → sp vs H Q E →
   ∃ t, PSs (cxOf CX P w K mg base N qual scope f cdv A outer s H E) body t ∧ t { nx := fun _ H' => Q .non H', rt := Q } (start N vs) H) :
  FnOk P w K mg base CX (k + 1) f (PySem.W.fnOf name qual params body scope dV kV doc pm an cdv ct) ps sp := by
 refine ⟨len, fun A outer s H args us vs Q E hr e0 hb r hsp => ?_⟩
 have hl := len _ _ _ _ hsp
 have KX : K.In s.heap := e0.mod.kin.keeps fun b o e => (e0.bs b o e).1
 have lim : s.heap.NoLimit := e0.mod.nolimit.keeps fun b o e => (e0.bs b o e).1
 have hkind : ∀ y ∈ ps.zip us, scope.names.lookup y.1 = some .local ∨ (scope.names.lookup y.1 = some .cell ∧ ((cellsFrom (s.heap.objs.size + 1) scope.names []).lookup y.1).isSome = true) := fun ⟨n, v⟩ hy => by
  rcases S.par n (y25 hy).1 with q | q
  ·exact .inl q
  ·exact .inr ⟨q, PySem.W.cellsFrom_some _ _ _ (.inl q)⟩
 refine codeAny_call_function hr.depth (KX _ _ lk) rfl S.co S.gen rfl (PySem.W.codeRec_of KX hcd) (hb _ _ _ _ ?_)
 refine wpAny_newFunctionEnv_cells S.kind hkind fun env he s1 x => ?_
 subst he
 refine ⟨lim.keeps x.toInCall.keep, codeAny_func ?_⟩
 obtain ⟨t, ht, hq⟩ := hbody A outer s H vs Q E (hr.deeper _) hsp
 have I : Inv (cxOf CX P w K mg base N qual scope f cdv A outer s H E) [] (start N vs) H s1 := zh3 S hr.hd e0 hl r x
 refine wpAny_mono (ht [] s1 (start N vs) H _ I hq) (fun fl s' hs => ?_) fun e s' hs => hs
 have fin : ∀ {σ' : St} {H' : Hp} {v : V} {u : Value}, Inv (cxOf CX P w K mg base N qual scope f cdv A outer s H E) [] σ' H' s' → RelV v u → Q v H' → CE outer P w H s Q u s' :=
  fun {σ' H' v u} J rv q => ⟨v, H', J.os, J.bare, J.base, J.hok, rv, q⟩
 cases fl with
 | ret u =>
  obtain ⟨v, σ', H', J, rv, q⟩ := hs
  exact fin J rv q
 | next =>
  obtain ⟨σ', H', J, q⟩ := hs
  exact fin (v := V.non) (u := Value.none) J rfl q
 | brk =>
  obtain ⟨_, _, _, q⟩ := hs
  exact False.elim q
 | cont =>
  obtain ⟨_, _, _, q⟩ := hs
  exact False.elim q
section
variable {X : Cx} {x : Str} {p pos : Pos} {e : Expr} {es : List Expr} {t : TA} {id T : String} {r : List V → Hp → VK → Prop}
def tCB (r : List V → Hp → VK → Prop) (t : TA) : TE := fun σ H Q => t σ H fun vs H1 => r vs H1 Q
theorem zqg (hc : CallR X (.builtin id) r) (hg : Gl X x) (hm : X.mg x = none) (hv : bootBuiltins x = some (.builtin id)) (ha : PA X (e :: es) t) (hn : x ≠ "__name__" := by decide) (hdb : (x == ("__debug__" : Str)) = false := by decide)
  (he : starEach (e :: es) X.env = (false, eval e X.env) :: starEach es X.env := by rfl) (hpl : (backTo pos (starEach es X.env)).any (·.1) = false := by rfl) : PE X (.Call (.Name x p) (e :: es) [] pos) (tCB r t) := by
 intro pins s σ H Q I h
 refine wpAny_Call_Name_kw (zc6 I hg hm hv ?_ hn hdb)
 exact PyProof.Rows.callWith_builtin1 (thn (ha pos pins s σ H _ I h) fun us s1 ⟨vs, H1, I1, r1, q1⟩ => hc pins s1 σ H1 vs us Q I1 r1 q1) he hpl
theorem znd (hc : CallR X (.type T) r) (hg : Gl X x) (hm : X.mg x = none) (hv : bootBuiltins x = some (.type T)) (ha : PA X (e :: es) t) (hn : x ≠ "__name__" := by decide) (hdb : (x == ("__debug__" : Str)) = false := by decide)
  (he : starEach (e :: es) X.env = (false, eval e X.env) :: starEach es X.env := by rfl) (hpl : (backTo pos (starEach es X.env)).any (·.1) = false := by rfl) : PE X (.Call (.Name x p) (e :: es) [] pos) (tCB r t) := by
 intro pins s σ H Q I h
 refine wpAny_Call_Name_kw (zc6 I hg hm hv ?_ hn hdb)
 exact PyProof.Rows.callWith_type1 (thn (ha pos pins s σ H _ I h) fun us s1 ⟨vs, H1, I1, r1, q1⟩ => hc pins s1 σ H1 vs us Q I1 r1 q1) he hpl
end
end L2
namespace HT
open PySem PyProof.Rows
section
open PySem.SeqAt
open PySem.AutoSeq1 (wpAny_loadPart')
open PySem.MeetsSeq PySem.MeetsSeq2 PySem.MeetsSeq3
end
section
variable {prog : Program} {w : World} {A : Around} {E : T0} {s : Shared}
theorem cat_tup {t b : Addr} {vs ws : List Value} {Q : T0} (ht : IsTup s.heap t vs.toArray) (hb : IsTup s.heap b ws.toArray) (hv : vs ≠ [])
  (h1 : ws = [] → Q (.ref t) s) (h2 : ws ≠ [] → Q (.ref s.heap.objs.size) { s with heap := s.heap.push { cls := .type "tuple", data := .seq (vs ++ ws).toArray } })
  (hsz : vs.length + ws.length ≤ sizeLine) : wpAny (model prog w) A (binaryOp .Add (.ref t) (.ref b)) Q E s := by
 obtain ⟨⟨cls, dd, data, sl⟩, ho, hc, n, hd⟩ := id ht
 obtain ⟨⟨cls2, dd2, data2, sl2⟩, ho2, hc2, n2, hd2⟩ := id hb
 simp only at hc hd hc2 hd2
 subst hc hd hc2 hd2
 have e : vs.toArray ++ ws.toArray = (vs ++ ws).toArray := by simp
 by_cases hw : ws = []
 ·exact concat_meets ⟨_, ho, rfl⟩ ⟨_, ho2, rfl⟩ noFill_tuple_add seq_tuple_add PySem.F.slot_tuple_add PySem.F.entry_tuple_add (PySem.F.args_tuple_add_2 _ _)
   (tuple_addW1 t b vs.toArray ws.toArray n n2 dd dd2 sl sl2 (by simpa using hv) (by simp [hw])) ⟨ho, ho2, h1 hw⟩
 ·refine concat_meets ⟨_, ho, rfl⟩ ⟨_, ho2, rfl⟩ noFill_tuple_add seq_tuple_add PySem.F.slot_tuple_add PySem.F.entry_tuple_add (PySem.F.args_tuple_add_2 _ _)
   (tuple_addW2 t b vs.toArray ws.toArray n n2 dd dd2 sl sl2 (by simpa using hv) (by simpa using hw) (by rw [y07, y07]; exact hsz)) ⟨ho, ho2, ?_⟩
  rw [e]
  exact h2 hw
def sIx (n d : Nat) : Option Int → Nat
 | none => d
 | some v => if v < 0 then (v + (n : Int)).toNat else min v.toNat n
theorem sIx_none (n d : Nat) : sIx n d none = d := rfl
theorem sIx_nat (n d k : Nat) : sIx n d (some (k : Int)) = min k n := by
 show (if (k : Int) < 0 then ((k : Int) + (n : Int)).toNat else min (k : Int).toNat n) = min k n
 rw [if_neg (by omega), y1l]
theorem sIx_le (n d : Nat) (hd : d ≤ n) (o : Option Int) : sIx n d o ≤ n := by
 cases o with
 | none => exact hd
 | some v =>
  show (if v < 0 then (v + (n : Int)).toNat else min v.toNat n) ≤ n
  by_cases hv : v < 0
  ·rw [if_pos hv]; omega
  ·rw [if_neg hv]; exact Nat.min_le_right _ _
theorem clip_eq (v : Int) (n d : Nat) : (if v < 0 then max (v + (n : Int)) 0 else min v (n : Int)) = ((sIx n d (some v) : Nat) : Int) := by
 show (if v < 0 then max (v + (n : Int)) 0 else min v (n : Int)) = (((if v < 0 then (v + (n : Int)).toNat else min v.toNat n) : Nat) : Int)
 by_cases hv : v < 0
 ·simp only [if_pos hv]; omega
 ·simp only [if_neg hv]; omega
theorem zml (lo hi : Option Int) (n : Nat) : Builtin.Slice.sliceAdjust lo hi 1 (n : Int) = (((sIx n 0 lo : Nat) : Int), ((sIx n n hi : Nat) : Int)) := by
 have h1 : ¬ ((1 : Int) < 0) := by omega
 unfold Builtin.Slice.sliceAdjust
 simp only [h1, if_false]
 refine Prod.ext ?_ ?_
 ·cases lo with
  | none => rfl
  | some v => exact clip_eq v n 0
 ·cases hi with
  | none => rfl
  | some v => exact clip_eq v n n
theorem zlo (i j : Nat) : Builtin.Slice.slicePlaces (i : Int) (j : Int) 1 = j - i := by
 unfold Builtin.Slice.slicePlaces
 have h1 : (1 : Int) > 0 := by omega
 simp only [h1, if_true, Int.ediv_one]
 split <;> omega
theorem zfq {v : Value} {o : Option Int} {Q : Option Int → Shared → Prop} (p : IsPart v o) (h : Q o s) : wpAny (model prog w) A (Builtin.Slice.slicePartIndex v) Q E s := by
 cases p with
 | none => exact slicePart_none h
 | int i t => exact slicePart_int h
theorem zd0 {sl : Addr} {vl vu : Value} {lo hi : Option Int} {n : Nat} {Q : Int × Int × Nat → Shared → Prop} (hs : s.heap.IsSliceOf sl vl vu .none) (pl : IsPart vl lo) (pu : IsPart vu hi)
  (h : Q (((sIx n 0 lo : Nat) : Int), 1, sIx n n hi - sIx n 0 lo) s) : wpAny (model prog w) A (Builtin.Slice.sliceApplied (.ref sl) (pure (n : Int))) Q E s := by
 obtain ⟨os, hos, hcs, hds⟩ := id hs
 unfold Builtin.Slice.sliceApplied Builtin.Slice.sliceFields
 refine wpAny_bind (wpAny_bind (wpAny_field hos hds (x := vl) rfl (wpAny_bind (wpAny_field hos hds (x := vu) rfl (wpAny_bind (wpAny_field hos hds (x := .none) rfl (wpAny_pure ?_)))))))
 refine wpAny_bind (slicePart_none ?_)
 show wpAny _ _ (if ((1 : Int) == 0) = true then _ else _) _ _ s
 rw [if_neg (by decide)]
 refine wpAny_bind (zfq pl (wpAny_bind (zfq pu (wpAny_bind (wpAny_pure ?_)))))
 show wpAny _ _ (match Builtin.Slice.sliceAdjust lo hi 1 (n : Int) with | (lo, hi) => pure (lo, (1 : Int), Builtin.Slice.slicePlaces lo hi 1)) _ _ s
 rw [zml lo hi n]
 show wpAny _ _ (pure (((sIx n 0 lo : Nat) : Int), (1 : Int), Builtin.Slice.slicePlaces ((sIx n 0 lo : Nat) : Int) ((sIx n n hi : Nat) : Int) 1)) _ _ s
 rw [zlo]
 exact wpAny_pure h
theorem zp9 (xs : Array Value) (i k : Nat) : ((List.range k).filterMap fun (m : Nat) => xs[((i : Int) + (m : Int) * 1).toNat]?).toArray = ((xs.toList.drop i).take k).toArray := by
 have e : (fun (m : Nat) => xs[((i : Int) + (m : Int) * 1).toNat]?) = fun m => xs[i + m]? := by
  funext m
  have : ((i : Int) + (m : Int) * 1).toNat = i + m := by omega
  rw [this]
 rw [e]
 have := pick_run xs i k
 rw [List.filterMap_map] at this
 have e2 : ((fun x => xs[x]?) ∘ fun x => i + x) = fun m => xs[i + m]? := rfl
 rw [e2] at this
 rw [this]
theorem getItem_tuple_cut {t sl : Addr} {items : Array Value} {vl vu : Value} {lo hi : Option Int} {Q : T0} (ht : IsTup s.heap t items) (hs : s.heap.IsSliceOf sl vl vu .none) (pl : IsPart vl lo) (pu : IsPart vu hi)
  (hw : ¬ (sIx items.size 0 lo = 0 ∧ sIx items.size items.size hi = items.size))
  (h : Q (.ref s.heap.objs.size) { s with heap := s.heap.push { cls := .type "tuple", data := .seq ((items.toList.drop (sIx items.size 0 lo)).take (sIx items.size items.size hi - sIx items.size 0 lo)).toArray } })
  (hsz : items.size ≤ sizeLine) : wpAny (model prog w) A (getItem (.ref t) (.ref sl)) Q E s := by
 have htake : sizeOk (.seq ((items.toList.drop (sIx items.size 0 lo)).take (sIx items.size items.size hi - sIx items.size 0 lo)).toArray) := by
  show ((items.toList.drop (sIx items.size 0 lo)).take (sIx items.size items.size hi - sIx items.size 0 lo)).toArray.size ≤ sizeLine
  rw [y07, y0w, y3a, y1w]
  omega
 have hj : sIx items.size items.size hi ≤ items.size := sIx_le _ _ (y06 _) hi
 obtain ⟨os, hos, hcs, hds⟩ := id hs
 have hTs : s.TypeIs (.ref sl) "slice" := ⟨os, hos, hcs⟩
 unfold getItem
 try with_reducible refine wpAny_holding ?_
 first | refine wpAny_bind (wpAny_pure ?_) | skip
 refine wpAny_bind (wpAny_sequenceKey ht.typeIs (by decide) ?_)
 refine wpAny_bind (wpAny_callSpecial?_slot (name := Str.ofString "__getitem__") ht.typeIs PyProof.Rows.slot_tuple_getitem
  (wpAny_call_entry PyProof.Rows.slot_tuple_getitem ht.typeIs entry_tuple_getitem ?_ (args_tuple_getitem _ _)))
 show wpAny _ _ (Builtin.Tuple.tupleItemsOf (.ref t) >>= _) _ _ s
 refine wpAny_bind (tupleItemsOf_ ht ?_)
 refine wpAny_bind (wpAny_typeOf hTs ?_)
 rw [if_pos (by decide)]
 refine wpAny_bind (zd0 hs pl pu ?_)
 have hno : ¬ ((((sIx items.size 0 lo : Nat) : Int) == 0 && (1 : Int) == 1 && (sIx items.size items.size hi - sIx items.size 0 lo) == items.size) = true) := by
  intro q
  rw [y08, y08] at q
  have q1 : ((sIx items.size 0 lo : Nat) : Int) = 0 := eq_of_beq q.1.1
  have q2 : sIx items.size items.size hi - sIx items.size 0 lo = items.size := eq_of_beq q.2
  exact hw ⟨by omega, by omega⟩
 show wpAny _ _ (if (((sIx items.size 0 lo : Nat) : Int) == 0 && (1 : Int) == 1 && (sIx items.size items.size hi - sIx items.size 0 lo) == items.size) = true then _ else _) _ _ s
 rw [if_neg hno, zp9]
 first
  | exact wpAny_bind (m := Builtin.Tuple.tupleExact _) (wpAny_newObj_type (wpAny_pure ⟨_, rfl, wpAny_pure h⟩) htake)
  | exact wpAny_bind (m := Builtin.Tuple.tupleExact _) (wpAny_newObj_type (wpAny_bind (wpAny_pure (wpAny_pure ⟨_, rfl, wpAny_pure h⟩))) htake)
  | exact wpAny_bind (wpAny_bind (m := Builtin.Tuple.tupleExact _) (wpAny_newObj_type (wpAny_pure (wpAny_pure ⟨_, rfl, wpAny_pure h⟩)) htake))
  | exact wpAny_bind (wpAny_bind (m := Builtin.Tuple.tupleExact _) (wpAny_newObj_type (wpAny_pure ⟨_, rfl, wpAny_pure h⟩) htake))
end
end HT
namespace L2
abbrev TO := St → Hp → (Option Int → Hp → Prop) → Prop
def PO (X : Cx) (e : Option Expr) (t : TO) : Prop :=
 ∀ (pins : T2) (s : Shared) (σ : St) (H : Hp) (Q : Option Int → Hp → Prop), Inv X pins σ H s → t σ H Q →
  wpAny (model X.prog X.w) X.A (evalPart e X.env) (fun u s' => ∃ o H', Inv X pins σ H' s' ∧ IsPart u o ∧ Q o H') X.xe s
def tNoPart : TO := fun _ H Q => Q none H
def tPart (t : TE) : TO := fun σ H Q => t σ H fun x H1 => ∃ i, x = .int i ∧ Q (some i) H1
theorem zdp {ns : List Int} : ∀ {us : List Value}, Vals (ns.map V.int) us → IntsAre us ns := by
 induction ns with
 | nil => intro us r; rw [y30] at r; cases r; exact .nil
 | cons n ns ih =>
  intro us r
  rw [y0k] at r
  cases r with
  | cons r1 r2 =>
   obtain ⟨t, e⟩ := r1
   subst e
   exact .cons n t (ih r2)
section
variable {X : Cx} {e : Expr} {te : TE} {lo hi : Option Expr} {tl th : TO} {pos p2 : Pos}
theorem zgm : PO X none tNoPart := by
 intro pins s σ H Q I h
 rw [evalPart_none]
 exact wpAny_pure ⟨none, H, I, .none, h⟩
theorem zdj (h : PE X e te) : PO X (some e) (tPart te) := by
 intro pins s σ H Q I hw
 rw [evalPart_some]
 refine thn (h pins s σ H _ I hw) fun u s1 ⟨x, H1, I1, r1, q1⟩ => ?_
 obtain ⟨i, rfl, q⟩ := q1
 obtain ⟨t, rfl⟩ := r1
 exact ⟨some i, H1, I1, .int i t, q⟩
def SlR (X : Cx) (r : V → Option Int → Option Int → Hp → VK → Prop) : Prop :=
 ∀ (pins : T2) (s : Shared) (σ : St) (H : Hp) (x : V) (v vl vu : Value) (lo hi : Option Int) (sl : Addr) (Q : VK), Inv X pins σ H s → RelV x v → s.heap.IsSliceOf sl vl vu .none → IsPart vl lo → IsPart vu hi → r x lo hi H Q →
  ∃ T id, typeLookup (.type T) "__getitem__" = pure (some (.builtin id)) ∧ s.TypeIs v T ∧ wpAny (model X.prog X.w) X.A (getItem v (.ref sl)) (EP X pins σ Q) X.xe s
def tSl (r : V → Option Int → Option Int → Hp → VK → Prop) (te : TE) (tl th : TO) : TE := fun σ H Q => te σ H fun x H1 => tl σ H1 fun l H2 => th σ H2 fun u H3 => r x l u H3 Q
theorem zc0 {r : V → Option Int → Option Int → Hp → VK → Prop} (hr : SlR X r) (he : PE X e te) (hl : PO X lo tl) (hu : PO X hi th) : PE X (.Subscript e (.Slice lo hi none p2) pos) (tSl r te tl th) := by
 intro pins s σ H Q I h
 refine Subscript_ (thn (he pins s σ H _ I h) fun v s1 ⟨x, H1, I1, r1, q1⟩ => ?_)
 refine wpAny_Slice (thn (hl pins s1 σ H1 _ I1 q1) fun vl s2 ⟨l, H2, I2, pl, q2⟩ => thn (hu pins s2 σ H2 _ I2 q2) fun vu s3 ⟨u, H3, I3, pu, q3⟩ => ?_)
 rw [evalPart_none]
 refine wpAny_pure ?_
 have I4 : Inv X pins σ H3 { s3 with heap := s3.heap.push { cls := .type "slice", data := .fields #[vl, vu, .none] } } := I3.kept (t' := s3.toks) fun b ob q => y03 _ q
 obtain ⟨T, id, hT, ht, hg⟩ := hr pins { s3 with heap := s3.heap.push { cls := .type "slice", data := .fields #[vl, vu, .none] } } σ H3 x v vl vu l u s3.heap.objs.size Q I4 r1 (Heap.IsSliceOf.new ..) pl pu q3
 show wpAny (model X.prog X.w) X.A (subscriptTail e (.Slice lo hi none p2) v (.ref s3.heap.objs.size)) (EP X pins σ Q) X.xe { s3 with heap := s3.heap.push { cls := .type "slice", data := .fields #[vl, vu, .none] } }
 exact tail_any (ops := [.ref s3.heap.objs.size, v]) ht hT hg (by with_unfolding_all rfl)
def cutV (xs : List V) (lo hi : Option Int) : List V := (xs.drop (HT.sIx xs.length 0 lo)).take (HT.sIx xs.length xs.length hi - HT.sIx xs.length 0 lo)
theorem ze7 (xs : List V) (lo hi : Option Int) : (cutV xs lo hi).length ≤ xs.length := by
 unfold cutV
 rw [y0w, y3a]
 omega
def rSlT (K : Frag) : V → Option Int → Option Int → Hp → VK → Prop := fun x lo hi H Q => ∃ a xs, x = .ref a ∧ SqT K H a xs ∧
 ¬ (HT.sIx xs.length 0 lo = 0 ∧ HT.sIx xs.length xs.length hi = xs.length) ∧ ∀ p, H p = none → Q (.ref p) (upd H p (.tup (cutV xs lo hi)))
theorem sl_tup : SlR X (rSlT X.K) := by
 intro pins s σ H x v vl vu lo hi sl Q I rx hs pl pu h
 obtain ⟨a, xs, rfl, hx, hw, q⟩ := h
 cases rx
 obtain ⟨its, r, ht, hz⟩ := I.tuple hx
 have hlen : its.toArray.size = xs.length := by rw [y07]; exact r.length.symm
 refine ⟨"tuple", _, PyProof.Rows.slot_tuple_getitem.lookup, ht.typeIs, ?_⟩
 refine HT.getItem_tuple_cut ht hs pl pu (by rw [hlen]; exact hw) ?_ (by rw [hlen]; exact hz)
 rw [hlen]
 refine ⟨.ref s.heap.objs.size, _, I.laid (t' := s.toks) (o := .tup (cutV xs lo hi)) (fun b ob q => y03 _ q) (y06 _) ?_, rfl, q _ (I.hok.fresh (y06 _))⟩
 exact ⟨y10 (ze7 xs lo hi) hz, _, (r.drop (HT.sIx xs.length 0 lo)).take (HT.sIx xs.length xs.length hi - HT.sIx xs.length 0 lo), IsTup.new _ _⟩
def rCatT (K : Frag) : R2 := fun x y H Q => ∃ a b xs ys, x = .ref a ∧ y = .ref b ∧ SqT K H a xs ∧ SqT K H b ys ∧ xs ≠ [] ∧ xs.length + ys.length ≤ sizeLine ∧
 (ys = [] → Q (.ref a) H) ∧ (ys ≠ [] → ∀ p, H p = none → Q (.ref p) (upd H p (.tup (xs ++ ys))))
theorem Vals.nil_iff {xs : List V} {us : List Value} (r : Vals xs us) : us = [] ↔ xs = [] := by
 cases r with
 | nil => simp
 | cons _ _ => simp
theorem zth : OpR X (binaryOp .Add) (rCatT X.K) := by
 infer_instance
 obtain ⟨a, b, xs, ys, rfl, rfl, ha, hb, hx, hz, q1, q2⟩ := h
 cases rx
 cases ry
 obtain ⟨its, r1, p1, _⟩ := I.tuple ha
 obtain ⟨its2, r2, p2, _⟩ := I.tuple hb
 refine HT.cat_tup p1 p2 (fun z => hx (r1.nil_iff.mp z)) (fun z => ⟨.ref a, H, I, rfl, q1 (r2.nil_iff.mp z)⟩) (fun z => ?_) (by rw [← r1.length, ← r2.length]; exact hz)
 refine ⟨.ref s.heap.objs.size, _, I.laid (t' := s.toks) (o := .tup (xs ++ ys)) (fun b ob q => y03 _ q) (y06 _) ?_, rfl, q2 (fun w => z (r2.nil_iff.mpr w)) _ (I.hok.fresh (y06 _))⟩
 exact ⟨by rw [y0j]; exact hz, _, r1.append r2, IsTup.new _ _⟩
end
def ixN (n : Nat) (i : Int) : Option Nat := if 0 ≤ i then (if i < n then some i.toNat else none) else if -(n : Int) ≤ i then some (i + n).toNat else none
def atI {α : Type} (xs : List α) (i : Int) : Option α := (ixN xs.length i).bind fun j => xs[j]?
theorem zoe {n : Nat} {i : Int} {j : Nat} (h : ixN n i = some j) : seqIndex? i n = some j ∧ j < n ∧ -(n : Int) ≤ i ∧ i < n := by
 unfold ixN at h
 by_cases h0 : 0 ≤ i
 ·rw [if_pos h0] at h
  by_cases h1 : i < n
  ·rw [if_pos h1] at h
   have e : i.toNat = j := Option.some.inj h
   exact ⟨by rw [seqIndex_of h0 h1, e], by omega, by omega, h1⟩
  ·rw [if_neg h1] at h; cases h
 ·rw [if_neg h0] at h
  by_cases h1 : -(n : Int) ≤ i
  ·rw [if_pos h1] at h
   have e : (i + n).toNat = j := Option.some.inj h
   exact ⟨by rw [seqIndex_neg (by omega) h1, e], by omega, h1, by omega⟩
  ·rw [if_neg h1] at h; cases h
theorem zjv {α : Type} {xs : List α} {i : Int} {v : α} (h : atI xs i = some v) : ∃ j, seqIndex? i xs.length = some j ∧ xs[j]? = some v ∧ j < xs.length ∧ -(xs.length : Int) ≤ i ∧ i < xs.length := by
 unfold atI at h
 cases e : ixN xs.length i with
 | none => rw [e] at h; cases h
 | some j =>
  rw [e] at h
  obtain ⟨h1, h2, h3, h4⟩ := zoe e
  exact ⟨j, h1, h, h2, h3, h4⟩
theorem zaj {α : Type} {xs : List α} {j : Nat} {v : α} (h : xs[j]? = some v) : atI xs (j : Int) = some v := by
 have hj : j < xs.length := (y0b.mp h).1
 have e : ixN xs.length (j : Int) = some j := by
  unfold ixN
  rw [if_pos (by omega), if_pos (by omega)]; simp
 unfold atI; rw [e]; exact h
theorem zld {α : Type} (xs : List α) (v : α) : atI (xs ++ [v]) (-1) = some v := by
 have hl : (xs ++ [v]).length = xs.length + 1 := by simp
 have e : ixN (xs ++ [v]).length (-1) = some xs.length := by
  unfold ixN
  rw [hl, if_neg (by decide), if_pos (by omega)]
  congr 1
  omega
 unfold atI
 rw [e]
 show (xs ++ [v])[xs.length]? = some v
 simp
def PlainIx (b : Expr) : Prop := ∀ o i, subscripted b false o i = operate [o, i] (getItem o i)
def IxR (X : Cx) (r : R2) : Prop :=
 ∀ (value slice : Expr) (pins : T2) (s : Shared) (σ : St) (H : Hp) (x y : V) (v u : Value) (Q : VK), Inv X pins σ H s → RelV x v → RelV y u → r x y H Q →
  subscripted slice false v u = operate [v, u] (getItem v u) → wpAny (model X.prog X.w) X.A (subscriptTail value slice v u) (EP X pins σ Q) X.xe s
def MtR (X : Cx) (id : String) (r : V → List V → Hp → VK → Prop) : Prop :=
 ∀ (pins : T2) (s : Shared) (σ : St) (H : Hp) (x : V) (xs : List V) (v : Value) (us : List Value) (Q : VK), Inv X pins σ H s → RelV x v → Vals xs us → r x xs H Q →
  wpAny (model X.prog X.w) X.A (call (.builtin id) (v :: us)) (EP X pins σ Q) X.xe s
section
variable {X : Cx} {a b : Expr} {ta tb : TE} {pos : Pos}
theorem zan {r : R2} (hr : IxR X r) (ha : PE X a ta) (hb : PE X b tb) (hs : PlainIx b) : PE X (.Subscript a b pos) (tOp r ta tb) := by
 intro pins s σ H Q I h
 exact Subscript_ (binT ha hb I h fun v u s2 x y H2 I2 rx ry q => hr a b pins s2 σ H2 x y v u Q I2 rx ry q (hs _ _))
def rIxL (K : Frag) : R2 := fun x y H Q => ∃ p xs i v, x = .ref p ∧ y = .int i ∧ SqL K H p xs ∧ atI xs i = some v ∧ Q v H
def rIxT (K : Frag) : R2 := fun x y H Q => ∃ p xs i v, x = .ref p ∧ y = .int i ∧ SqT K H p xs ∧ atI xs i = some v ∧ Q v H
def rIxS : R2 := fun x y H Q => ∃ z i c, x = .str z ∧ y = .int i ∧ z.length ≤ sizeLine ∧ atI z.cps.toList i = some c ∧ Q (.str ⟨#[c]⟩) H
theorem ztu : IxR X (rIxL X.K) := by
 intro value slice pins s σ H x y v u Q I rx ry h hs
 obtain ⟨p, xs, i, z, rfl, rfl, hq, he, q⟩ := h
 cases rx
 obtain ⟨t, rfl⟩ := ry
 obtain ⟨its, r, pl, hz⟩ := I.list hq
 obtain ⟨j, h1, h2, h3, h4, h5⟩ := zjv he
 obtain ⟨w, ew, rw'⟩ := r.get h2
 have hl := r.length
 have hn := line63
 have fin : EP X pins σ Q w s := ⟨z, H, I, rw', q⟩
 by_cases h0 : 0 ≤ i
 ·have hj : i.toNat = j := by
   rw [seqIndex_of h0 h5] at h1
   exact Option.some.inj h1
  exact item_listR pl.isList h0 (by omega) (by rw [hj]; simpa using ew) fin hs
 ·have hj : (i + (its.toArray.size : Int)).toNat = j := by
   rw [seqIndex_neg (by omega) h4] at h1
   rw [y07, ← hl]
   exact Option.some.inj h1
  exact subscriptTail_builtinR (x := w) pl.isList.typeIs slot_list_getitem.lookup
   (wpAny_getItem_list_neg (Q := fun r s' => r = w ∧ EP X pins σ Q r s') pl.isList (by omega) (by rw [y07] <;> omega) (by omega) (by rw [hj]; simpa using ew) ⟨rfl, fin⟩) hs
theorem ix_tup : IxR X (rIxT X.K) := by
 intro value slice pins s σ H x y v u Q I rx ry h hs
 obtain ⟨p, xs, i, z, rfl, rfl, hq, he, q⟩ := h
 cases rx
 obtain ⟨t, rfl⟩ := ry
 obtain ⟨its, r, pl, hz⟩ := I.tuple hq
 obtain ⟨j, h1, h2, h3, h4, h5⟩ := zjv he
 obtain ⟨w, ew, rw'⟩ := r.get h2
 have hl := r.length
 have hn := line63
 have fin : EP X pins σ Q w s := ⟨z, H, I, rw', q⟩
 exact subscriptTail_builtinR (x := w) pl.typeIs slot_tuple_getitem.lookup
  (getItem_tuple (j := j) (Q := fun r s' => r = w ∧ EP X pins σ Q r s') pl (by omega) (by omega) (by rw [y07, ← hl]; exact h1) (by simpa using ew) ⟨rfl, fin⟩) hs
theorem ix_str : IxR X rIxS := by
 intro value slice pins s σ H x y v u Q I rx ry h hs
 obtain ⟨z, i, c, rfl, rfl, hz, he, q⟩ := h
 obtain ⟨t, rfl⟩ := rx
 obtain ⟨t', rfl⟩ := ry
 obtain ⟨j, h1, h2, h3, h4, h5⟩ := zjv he
 have hl : z.cps.toList.length = z.length := by simp [Str.length]
 rw [hl] at h1 h4 h5
 have hn := line63
 exact tail_any (typeIs_str s z t) slot_str_getitem.lookup (getItem_str (c := c) (by
  have e1 : decide (i < -(2 ^ 63 : Int)) = false := decide_eq_false (by omega)
  have e2 : decide (i ≥ 2 ^ 63) = false := decide_eq_false (by omega)
  rw [e1, e2, Bool.or_false]) (by rw [h1]; simpa using h2) ⟨.str ⟨#[c]⟩, H, I.tok _, ⟨_, rfl⟩, q⟩) hs
theorem zlz (its : List Value) (n j : Nat) (u : Value) : Obj.mapSeq (·.setIfInBounds j u) { cls := .type "list", data := .seq its.toArray n } = { cls := .type "list", data := .seq (its.set j u).toArray n } := by
 simp [Obj.mapSeq]
theorem Inv.lst {pins : T2} {σ : St} {H : Hp} {s : Shared} {p : Addr} {xs : List V} (I : Inv X pins σ H s) (h : H p = some (.lst xs)) :
  ∃ (its : List Value) (n : Nat), Vals xs its ∧ s.heap.get? p = some { cls := .type "list", data := .seq its.toArray n } ∧ xs.length ≤ sizeLine := by
 obtain ⟨z, its, n, r, e⟩ := I.hok p _ h
 exact ⟨its, n, r, e, z⟩
theorem Inv.lstUpd {pins : T2} {σ : St} {H : Hp} {s : Shared} {p : Addr} {xs ys : List V} {its its' : List Value} {n n' : Nat} {f : Obj → Obj} (I : Inv X pins σ H s) (h : H p = some (.lst xs))
  (ho : s.heap.get? p = some { cls := .type "list", data := .seq its.toArray n }) (hf : f { cls := .type "list", data := .seq its.toArray n } = { cls := .type "list", data := .seq its'.toArray n' }) (r : Vals ys its') (hz : ys.length ≤ sizeLine) (t : Nat) :
  Inv X pins σ (upd H p (.lst ys)) { s with heap := s.heap.update p f, toks := t } := by
 have e : (s.heap.update p f).get? p = some { cls := .type "list", data := .seq its'.toArray n' } := by
  rw [y23 f ho (by rw [hf] <;> rfl), hf]
 refine I.write (x := p) (e := p) (by rw [h]; trivial) (.inl rfl) (fun b u hb q => (y1z _ _ (Ne.symm hb)).trans q) ⟨_, e⟩ ?_
 exact ⟨hz, its', n', r, e⟩
def rSetL : V → V → V → Hp → (Hp → Prop) → Prop := fun o i v H Q => ∃ p xs k j, o = .ref p ∧ i = .int k ∧ H p = some (.lst xs) ∧ ixN xs.length k = some j ∧ Q (upd H p (.lst (xs.set j v)))
theorem zke : PSet X rSetL := by
 intro pins s σ H o i v ov iv u Q I ro ri rv h
 obtain ⟨p, xs, k, j, rfl, rfl, hp, hj, q⟩ := h
 cases ro
 obtain ⟨t, rfl⟩ := ri
 obtain ⟨its, n, r, ho, hz⟩ := I.lst hp
 obtain ⟨h1, h2, h3, h4⟩ := zoe hj
 have hl := r.length
 have hn := line63
 have I' : Inv X pins σ (upd H p (.lst (xs.set j v))) { s with heap := s.heap.update p (Obj.mapSeq (·.setIfInBounds j u)) } :=
  I.lstUpd hp ho (zlz its n j u) (r.set rv j) (by rw [List.length_set]; exact hz) s.toks
 by_cases h0 : 0 ≤ k
 ·have hk : k.toNat = j := by
   rw [seqIndex_of h0 h4] at h1
   exact Option.some.inj h1
  exact PySem.W.ki_setAt ho h0 (by omega) (by rw [y07, ← hl]; exact h4) (by rw [hk]; exact ⟨_, I', q⟩)
 ·have hk : (k + (its.toArray.size : Int)).toNat = j := by
   rw [seqIndex_neg (by omega) h3] at h1
   rw [y07, ← hl]
   exact Option.some.inj h1
  exact PySem.W.ki_setBack ho (by omega) (by rw [y07, ← hl]; exact h3) (by omega) (by rw [hk]; exact ⟨_, I', q⟩)
theorem zhj (lo hi : Option Int) (n : Nat) : (sliceBounds lo hi none n).1 = ((HT.sIx n 0 lo : Nat) : Int) ∧ (sliceBounds lo hi none n).2.1 = ((HT.sIx n n hi : Nat) : Int) ∧ (sliceBounds lo hi none n).2.2 = 1 := by
 refine ⟨?_, ?_, rfl⟩
 ·cases lo with
  | none => simp [sliceBounds, HT.sIx]
  | some i =>
   simp only [sliceBounds, HT.sIx, y3q, show (1 : Int) > 0 by decide, if_true]
   by_cases h : i < 0
   ·simp only [h, if_true] <;> omega
   ·simp only [h, if_false] <;> omega
 ·cases hi with
  | none => simp [sliceBounds, HT.sIx]
  | some i =>
   simp only [sliceBounds, HT.sIx, y3q, show (1 : Int) > 0 by decide, if_true]
   by_cases h : i < 0
   ·simp only [h, if_true] <;> omega
   ·simp only [h, if_false] <;> omega
theorem zgg (its : List Value) (lo hi : Option Int) : slicePick its.toArray lo hi none = ((its.drop (HT.sIx its.length 0 lo)).take (HT.sIx its.length its.length hi - HT.sIx its.length 0 lo)).toArray := by
 obtain ⟨h1, h2, h3⟩ := zhj lo hi its.toArray.size
 unfold slicePick
 rw [h1, h2, h3]
 simp only [sliceRange_one, pick_run, y07] <;> rfl
def rSlL (K : Frag) : V → Option Int → Option Int → Hp → VK → Prop := fun x lo hi H Q => ∃ a xs, x = .ref a ∧ SqL K H a xs ∧ ∀ p, H p = none → Q (.ref p) (upd H p (.lst (cutV xs lo hi)))
theorem zsv : SlR X (rSlL X.K) := by
 intro pins s σ H x v vl vu lo hi sl Q I rx hs pl pu h
 obtain ⟨a, xs, rfl, hx, q⟩ := h
 cases rx
 obtain ⟨its, r, ht, hz⟩ := I.list hx
 have hlen := r.length
 refine ⟨"list", _, slot_list_getitem.lookup, ht.isList.typeIs, ?_⟩
 refine wpAny_getItem_list_slice ht.isList hs pl pu .none (by simp) ?_ (by rw [y07] <;> omega)
 rw [zgg, ← hlen]
 refine ⟨.ref s.heap.objs.size, _, I.laid (t' := s.toks) (o := .lst (cutV xs lo hi)) (fun b ob q => y03 _ q) (y06 _) ?_, rfl, q _ (I.hok.fresh (y06 _))⟩
 exact ⟨y10 (ze7 xs lo hi) hz, _, 0, (r.drop (HT.sIx xs.length 0 lo)).take (HT.sIx xs.length xs.length hi - HT.sIx xs.length 0 lo), y0e _ rfl⟩
def flatV : V → Bool
 | .non => true
 | .bl _ => true
 | .int _ => true
 | .str _ => true
 | _ => false
def eqV : V → V → Bool
 | .non, .non => true
 | .bl a, .bl b => a == b
 | .bl a, .int b => (if a then 1 else 0) == b
 | .int a, .bl b => a == (if b then 1 else 0)
 | .int a, .int b => a == b
 | .str a, .str b => a == b
 | _, _ => false
theorem zk5 {A : Around} {s : Shared} {y x : V} {u v : Value} (ry : RelV y u) (rx : RelV x v) (fy : flatV y = true) (fx : flatV x = true) : SeqAt.EqAt A s u v (eqV y x) := by
 cases y with
 | non =>
  cases ry
  cases x with
  | non => cases rx; exact SeqAt.EqAt.same _
  | bl b => cases rx; exact SeqAt.EqAt.none_bool b
  | int b => obtain ⟨t, rfl⟩ := rx; exact SeqAt.EqAt.none_int b t
  | str b => obtain ⟨t, rfl⟩ := rx; exact SeqAt.EqAt.none_str b t
  | _ => exact absurd (show false = true from fx) y0f
 | bl a =>
  cases ry
  cases x with
  | non => cases rx; exact SeqAt.EqAt.bool_none a
  | bl b => cases rx; exact SeqAt.EqAt.bool_bool a b
  | int b => obtain ⟨t, rfl⟩ := rx; exact SeqAt.EqAt.bool_int a b t
  | str b => obtain ⟨t, rfl⟩ := rx; exact SeqAt.EqAt.bool_str a b t
  | _ => exact absurd (show false = true from fx) y0f
 | int a =>
  obtain ⟨t', rfl⟩ := ry
  cases x with
  | non => cases rx; exact SeqAt.EqAt.int_none a t'
  | bl b => cases rx; exact SeqAt.EqAt.int_bool a t' b
  | int b => obtain ⟨t, rfl⟩ := rx; exact SeqAt.EqAt.int_int a t' b t
  | str b => obtain ⟨t, rfl⟩ := rx; exact SeqAt.EqAt.int_str a t' b t
  | _ => exact absurd (show false = true from fx) y0f
 | str a =>
  obtain ⟨t', rfl⟩ := ry
  cases x with
  | non => cases rx; exact SeqAt.EqAt.str_none a t'
  | bl b => cases rx; exact SeqAt.EqAt.str_bool a t' b
  | int b => obtain ⟨t, rfl⟩ := rx; exact SeqAt.EqAt.str_int a t' b t
  | str b => obtain ⟨t, rfl⟩ := rx; exact SeqAt.EqAt.str_str a t' b t
  | _ => exact absurd (show false = true from fx) y0f
 | _ => exact absurd (show false = true from fy) y0f
def eqU (x : V) (u : Value) : Bool := match u with
 | .none => eqV .non x
 | .bool b => eqV (.bl b) x
 | .int i _ => eqV (.int i) x
 | .str z _ => eqV (.str z) x
 | _ => false
theorem zsc {x y : V} {u : Value} (r : RelV y u) (f : flatV y = true) : eqU x u = eqV y x := by
 cases y with
 | non => cases r; rfl
 | bl b => cases r; rfl
 | int i => obtain ⟨t, rfl⟩ := r; rfl
 | str z => obtain ⟨t, rfl⟩ := r; rfl
 | _ => exact absurd (show false = true from f) y0f
theorem zfa {x : V} : ∀ {xs : List V} {us : List Value}, Vals xs us → xs.all flatV = true → us.any (eqU x) = xs.any fun y => eqV y x
 | _, _, .nil, _ => rfl
 | y :: xs, u :: us, .cons r t, f => by
  rw [y1o, y08] at f
  rw [y38, y38, zsc r f.1, zfa t f.2]
theorem zc5 {A : Around} {s : Shared} {x : V} {v : Value} (rx : RelV x v) (fx : flatV x = true) : ∀ {xs : List V} {us : List Value}, Vals xs us → xs.all flatV = true → ∀ u ∈ us, SeqAt.EqAt A s u v (eqU x u)
 | _, _, .nil, _ => fun u hu => by cases hu
 | y :: xs, u :: us, .cons r t, f => fun u' hu => by
  rw [y1o, y08] at f
  rcases y05.mp hu with rfl | hu
  ·rw [zsc r f.1]; exact zk5 r rx f.1 fx
  ·exact zc5 rx fx t f.2 u' hu
def inV (x : V) (xs : List V) : Bool := xs.any fun y => eqV y x
def rIn (K : Frag) (neg : Bool) : R2 := fun x y H Q => ∃ p xs, y = .ref p ∧ (SqL K H p xs ∨ SqT K H p xs) ∧ flatV x = true ∧ xs.all flatV = true ∧ Q (.bl (if neg then !inV x xs else inV x xs)) H
theorem znh : OpR X (compareOp .In) (rIn X.K false) := by
 infer_instance
 obtain ⟨p, xs, rfl, hq, fx, fs, q⟩ := h
 cases ry
 rcases hq with hq | hq
 ·obtain ⟨its, r, pl, hz⟩ := I.list hq
  refine SeqAt.in_listAt (eqU x) pl.isList (fun w hw => zc5 rx fx r fs w (by simpa using hw)) ⟨.bl _, H, I, rfl, ?_⟩
  rw [show its.toArray.any (eqU x) = its.any (eqU x) by simp, zfa r fs]
  exact q
 ·obtain ⟨its, r, pl, hz⟩ := I.tuple hq
  refine SeqAt.in_tupleAt (eqU x) pl (fun w hw => zc5 rx fx r fs w (by simpa using hw)) ⟨.bl _, H, I, rfl, ?_⟩
  rw [show its.toArray.any (eqU x) = its.any (eqU x) by simp, zfa r fs]
  exact q
theorem zhv : OpR X (compareOp .NotIn) (rIn X.K true) := by
 infer_instance
 obtain ⟨p, xs, rfl, hq, fx, fs, q⟩ := h
 cases ry
 rcases hq with hq | hq
 ·obtain ⟨its, r, pl, hz⟩ := I.list hq
  refine SeqAt.notIn_listAt (eqU x) pl.isList (fun w hw => zc5 rx fx r fs w (by simpa using hw)) ⟨.bl _, H, I, rfl, ?_⟩
  rw [show its.toArray.any (eqU x) = its.any (eqU x) by simp, zfa r fs]
  exact q
 ·obtain ⟨its, r, pl, hz⟩ := I.tuple hq
  refine SeqAt.notIn_tupleAt (eqU x) pl (fun w hw => zc5 rx fx r fs w (by simpa using hw)) ⟨.bl _, H, I, rfl, ?_⟩
  rw [show its.toArray.any (eqU x) = its.any (eqU x) by simp, zfa r fs]
  exact q
theorem zig : CallR X (.builtin "len") (fun xs H Q => ∃ p ys, xs = [.ref p] ∧ (SqL X.K H p ys ∨ SqT X.K H p ys) ∧ Q (.int ys.length) H) := by
 intro pins s σ H xs us Q I r h
 obtain ⟨p, ys, rfl, hq, q⟩ := h
 obtain ⟨u, rfl, rx⟩ := vals1 r
 cases rx
 have hn := line63
 rcases hq with hq | hq
 ·obtain ⟨its, r', pl, hz⟩ := I.list hq
  have hlen := r'.length
  exact Calls.call_len_list pl.isList (by simp only [y07] <;> omega) ⟨.int ys.length, H, I.tok _, ⟨s.toks + 1, by rw [y07, hlen]⟩, q⟩
 ·obtain ⟨its, r', pl, hz⟩ := I.tuple hq
  have hlen := r'.length
  exact len_tuple pl (by simp only [y07] <;> omega) ⟨.int ys.length, H, I.tok _, ⟨s.toks + 1, by rw [y07, hlen]⟩, q⟩
theorem zif : CallR X (.builtin "len") (fun xs H Q => ∃ z, xs = [.str z] ∧ z.length ≤ sizeLine ∧ Q (.int z.length) H) := by
 intro pins s σ H xs us Q I r h
 obtain ⟨z, rfl, hz, q⟩ := h
 obtain ⟨u, rfl, t, rfl⟩ := vals1 r
 have hn := line63
 exact len_str (by omega) ⟨.int z.length, H, I.tok _, ⟨_, rfl⟩, q⟩
theorem zie : CallR X (.type "list") (fun xs H Q => ∃ p ys, xs = [.ref p] ∧ (SqL X.K H p ys ∨ SqT X.K H p ys) ∧ ∀ l, H l = none → Q (.ref l) (upd H l (.lst ys))) := by
 intro pins s σ H xs us Q I r h
 obtain ⟨p, ys, rfl, hq, q⟩ := h
 obtain ⟨u, rfl, rx⟩ := vals1 r
 cases rx
 have fin : ∀ (its : List Value), Vals ys its → ys.length ≤ sizeLine → ∀ (h' : Heap) (c' : Nat), (∀ b o', s.heap.get? b = some o' → h'.get? b = some o') →
   h'.get? s.heap.objs.size = some { cls := .type "list", dict := none, data := .seq its.toArray c', slots := #[] } → EP X pins σ Q (.ref s.heap.objs.size) { s with heap := h' } := fun its r' hz h' c' kp e =>
  ⟨.ref s.heap.objs.size, _, I.laid (t' := s.toks) kp (y06 _) (show ObjOk X.prog X.w _ h' _ (.lst ys) from ⟨hz, its, c', r', e⟩), rfl, q _ (I.hok.fresh (y06 _))⟩
 rcases hq with hq | hq
 ·obtain ⟨its, r', pl, hz⟩ := I.list hq
  have hlen := r'.length
  obtain ⟨o, ho, hc, n, hd⟩ := pl.isList
  exact call_list_seq p (.inl rfl) ho hc hd (fun h' c' kp e => fin its r' hz h' c' kp e) (by simp only [y07] <;> omega)
 ·obtain ⟨its, r', pl, hz⟩ := I.tuple hq
  have hlen := r'.length
  obtain ⟨o, ho, hc, n, hd⟩ := pl
  exact call_list_seq p (.inr rfl) ho hc hd (fun h' c' kp e => fin its r' hz h' c' kp e) (by simp only [y07] <;> omega)
theorem zgz : CallR X (.type "tuple") (fun xs H Q => ∃ p ys, xs = [.ref p] ∧ ((SqL X.K H p ys ∧ ∀ l, H l = none → Q (.ref l) (upd H l (.tup ys))) ∨ (SqT X.K H p ys ∧ Q (.ref p) H))) := by
 intro pins s σ H xs us Q I r h
 obtain ⟨p, ys, rfl, h⟩ := h
 obtain ⟨u, rfl, rx⟩ := vals1 r
 cases rx
 rcases h with ⟨hq, q⟩ | ⟨hq, q⟩
 ·obtain ⟨its, r', pl, hz⟩ := I.list hq
  have hlen := r'.length
  refine call_tuple_list pl.isList (fun h' kp => ?_) (by simp only [y07] <;> omega)
  have I1 : Inv X pins σ H { s with heap := h' } := I.kept (t' := s.toks) kp
  have I2 : Inv X pins σ (upd H h'.objs.size (.tup ys)) { s with heap := h'.push { cls := .type "tuple", data := .seq its.toArray } } :=
   I1.laid (t' := s.toks) (fun b o e => y03 _ e) (y06 _) (show ObjOk X.prog X.w _ _ _ (.tup ys) from ⟨hz, its, r', IsTup.new _ _⟩)
  exact ⟨.ref h'.objs.size, _, I2, rfl, q _ (I1.hok.fresh (y06 _))⟩
 ·obtain ⟨its, r', pl, hz⟩ := I.tuple hq
  exact call_tuple_same pl ⟨.ref p, H, I, rfl, q⟩
def tyV (K : Frag) (T : String) (x : V) (H : Hp) : Prop := match x with
 | .str _ => T = "str"
 | .int _ => T = "int"
 | .ref p => (T = "list" ∧ ∃ xs, SqL K H p xs) ∨ (T = "tuple" ∧ ∃ o, K.lookup p = some o ∧ o.cls = .type "tuple" ∧ o.dict = none) ∨
   (T = "dict" ∧ ((∃ kvs, H p = some (.dK kvs)) ∨ ∃ kvs, H p = some (.dT kvs))) ∨ (T = "set" ∧ ∃ S n, H p = some (.set S n))
 | _ => False
theorem tyV_is {pins : T2} {σ : St} {H : Hp} {s : Shared} {T : String} {x : V} {v : Value} (I : Inv X pins σ H s) (r : RelV x v) (ty : tyV X.K T x H) :
  s.TypeIs v T ∧ ∀ a, v = .ref a → ∃ ob, s.heap.get? a = some ob ∧ ob.dict = none := by
 cases x with
 | str z =>
  obtain ⟨t, rfl⟩ := r
  cases (show T = "str" from ty)
  exact ⟨typeIs_str s z t, fun _ e => nomatch e⟩
 | int i =>
  obtain ⟨t, rfl⟩ := r
  cases (show T = "int" from ty)
  exact ⟨typeIs_int s i t, fun _ e => nomatch e⟩
 | ref p =>
  cases r
  rcases ty with ⟨rfl, xs, hq⟩ | ⟨rfl, o, hk, hc, hd⟩ | ⟨rfl, hk⟩ | ⟨rfl, S, n, hk⟩
  ·obtain ⟨its, _, pl, _⟩ := I.list hq
   refine ⟨pl.isList.typeIs, fun a e => ?_⟩
   cases e
   obtain ⟨o, n, e, c, hd, _⟩ := pl
   exact ⟨o, e, hd⟩
  ·refine ⟨⟨o, I.kIn p o hk, hc⟩, fun a e => ?_⟩
   cases e
   exact ⟨o, I.kIn _ o hk, hd⟩
  ·have z : ∃ o, s.heap.get? p = some o ∧ o.ExactDict := by
    rcases hk with ⟨kvs, hk⟩ | ⟨kvs, hk⟩
    ·obtain ⟨_, _, _, _, o, _, _, e, ex, _⟩ := I.hok p _ hk
     exact ⟨o, e, ex⟩
    ·obtain ⟨_, _, _, _, o, _, _, e, ex, _⟩ := I.hok p _ hk
     exact ⟨o, e, ex⟩
   obtain ⟨o, e, ex⟩ := z
   refine ⟨⟨o, e, ex.1⟩, fun a e2 => ?_⟩
   cases e2
   exact ⟨o, e, ex.2.1⟩
  ·obtain ⟨o, _, _, _, e, ex, _⟩ := I.hok p _ hk
   refine ⟨⟨o, e, ex.1⟩, fun a e2 => ?_⟩
   cases e2
   exact ⟨o, e, ex.2.1⟩
 | _ => exact False.elim ty
def tBM (K : Frag) (T : String) (r : V → List V → Hp → VK → Prop) (to : TE) (t : TA) : TE := fun σ H Q => to σ H fun x H1 => tyV K T x H1 ∧ t σ H1 fun xs H2 => r x xs H2 Q
variable {o e : Expr} {es : List Expr} {to : TE} {t : TA} {name : Str} {apos cpos : Pos} {T id : String} {r : V → List V → Hp → VK → Prop}
theorem pe_bm (pa : PlainAttrs T) (slot : Slot T name id) (hty : typeOf (.builtin id) = pure (.type "method_descriptor")) (hm : MtR X id r) (ho : PE X o to) (ha : PA X (e :: es) t)
  (hbase : attributeBase o name X.env (eval o X.env) = eval o X.env := by rfl)
  (hfew : ((backTo cpos (starEach (e :: es) X.env)).all (fun x => !x.1) && (backToKw cpos (keywordEach [] X.env)).all (fun x => x.1.isSome)
   && decide ((e :: es).length + ([] : List Keyword).length + (if ([] : List Keyword).isEmpty then 0 else 1) < 30)) = true := by rfl)
  (hline : (apos.endLine == cpos.line) = true := by rfl) (hs : starEach (e :: es) X.env = (false, eval e X.env) :: starEach es X.env := by rfl) (hplain : (backTo cpos (starEach es X.env)).any (·.1) = false := by rfl) :
  PE X (.Call (.Attribute o name apos) (e :: es) [] cpos) (tBM X.K T r to t) := by
 intro pins s σ H Q I h
 refine wpAny_Call_method_late hbase hfew hline rfl (thn (ho pins s σ H _ I h) fun v s1 ⟨x, H1, I1, r1, ty, q1⟩ => ?_)
 obtain ⟨h1, h2⟩ := tyV_is I1 r1 ty
 refine ⟨T, id, pa, slot, hty, h1, h2, ?_⟩
 have hA := ha cpos pins s1 σ H1 _ I1 q1
 rw [hs] at hA ⊢
 refine Calls.callWith_builtin (by show (false || (backTo cpos (starEach es X.env)).any (·.1)) = false; rw [hplain] <;> rfl) (Calls.evalArgs_plain ?_)
 exact thn hA fun us s2 ⟨vs, H2, I2, r2, q2⟩ => hm pins s2 σ H2 x vs v us Q I2 r1 r2 q2
end
def MtM (X : Cx) (id : String) (r : V → List V → Hp → VK → Prop) : Prop :=
 ∀ (pins : T2) (s : Shared) (σ : St) (H : Hp) (x : V) (xs : List V) (v : Value) (us : List Value) (Q : VK), Inv X pins σ H s → RelV x v → Vals xs us → r x xs H Q →
  wpAny (model X.prog X.w) X.A (call (.builtin id) (v :: us)) (EP X pins σ Q) X.xe s
theorem Vals.one : ∀ {x : V} {us : List Value}, Vals [x] us → ∃ u, us = [u] ∧ RelV x u
 | _, _, .cons r .nil => ⟨_, rfl, r⟩
section
variable {X : Cx} {pins : T2} {σ : St} {H : Hp} {s : Shared} {l b : Addr} {xs ys zs : List V}
theorem Inv.lset {its its' : List Value} {n : Nat} {f : Array Value → Array Value} {t' : Nat} (I : Inv X pins σ H s) (hH : H l = some (.lst xs))
  (e : s.heap.get? l = some { cls := .type "list", data := .seq its.toArray n }) (hf : f its.toArray = its'.toArray) (hv : Vals ys its') (hz : ys.length ≤ sizeLine) :
  Inv X pins σ (upd H l (.lst ys)) { s with heap := s.heap.update l (Obj.mapSeq f), toks := t' } := by
 have q := PySem.IsL.update e f
 rw [hf] at q
 refine I.write (x := l) (e := l) (by rw [hH]; exact trivial) (.inl rfl) (fun b' u hb hu => (y1z s.heap (Obj.mapSeq f) (Ne.symm hb)).trans hu) ⟨_, q⟩ ?_
 exact ⟨hz, its', _, hv, q⟩
theorem Inv.lnew {its : List Value} {t' : Nat} (I : Inv X pins σ H s) (hv : Vals ys its) (hz : ys.length ≤ sizeLine) :
  Inv X pins σ (upd H s.heap.objs.size (.lst ys)) { s with heap := s.heap.push { cls := .type "list", data := .seq its.toArray }, toks := t' } :=
 I.laid (fun _ _ q => y03 _ q) (y06 _) ⟨hz, its, 0, hv, y0e _ rfl⟩
theorem Inv.fresh (I : Inv X pins σ H s) : H s.heap.objs.size = none := I.hok.fresh (y06 _)
theorem Inv.lstM (I : Inv X pins σ H s) (hH : H l = some (.lst xs)) : xs.length ≤ sizeLine ∧ ∃ (its : List Value) (n : Nat), Vals xs its ∧ xs.length = its.length ∧ s.heap.get? l = some { cls := .type "list", data := .seq its.toArray n } := by
 obtain ⟨z, its, n, r, e⟩ := I.hok l _ hH
 exact ⟨z, its, n, r, r.length, e⟩
theorem notLongL {n : Nat} (h : n ≤ sizeLine) : Builtin.List.listTooLong n = false := by
 unfold Builtin.List.listTooLong
 exact decide_eq_false (by omega)
end
section
variable {X : Cx}
def rAppend : V → List V → Hp → VK → Prop := fun x vs H Q => ∃ l xs y, x = .ref l ∧ vs = [y] ∧ H l = some (.lst xs) ∧ xs.length < sizeLine ∧ Q .non (upd H l (.lst (xs ++ [y])))
theorem zb0 : MtM X "list.append" rAppend := by
 intro pins s σ H x vs v us Q I rx rv h
 obtain ⟨l, xs, y, rfl, rfl, hH, hz, q⟩ := h
 cases rx
 obtain ⟨u, rfl, ru⟩ := rv.one
 obtain ⟨z, its, n, r, hl, e⟩ := I.lstM hH
 refine call_meets F.slot_list_append ⟨_, e, rfl⟩ F.entry_list_append (F.args_list_append_2 _ _) (PySem.list_append l its.toArray n u (by rw [y07]; omega)) ⟨e, ?_⟩
 refine ⟨.non, _, I.lset (its' := its ++ [u]) hH e (by simp) (r.append (.cons ru .nil)) ?_, rfl, q⟩
 rw [y0j, y19]
 omega
def rExtend : V → List V → Hp → VK → Prop := fun x vs H Q => ∃ l b xs zs, x = .ref l ∧ vs = [.ref b] ∧ H l = some (.lst xs) ∧ H b = some (.lst zs) ∧ xs.length + zs.length ≤ sizeLine ∧ Q .non (upd H l (.lst (xs ++ zs)))
theorem mt_extend : MtM X "list.extend" rExtend := by
 intro pins s σ H x vs v us Q I rx rv h
 obtain ⟨l, b, xs, zs, rfl, rfl, hH, hB, hz, q⟩ := h
 cases rx
 obtain ⟨u, rfl, ru⟩ := rv.one
 cases ru
 obtain ⟨z, its, n, r, hl, e⟩ := I.lstM hH
 obtain ⟨z2, its2, n2, r2, hl2, e2⟩ := I.lstM hB
 have hsz : its.toArray.size + its2.toArray.size ≤ sizeLine := by rw [y07, y07]; omega
 have hlong : ¬ (!its.toArray.isEmpty && Builtin.List.listTooLong (its.toArray.size + its2.toArray.size)) = true := by
  rw [notLongL hsz, y1q]
  exact y0f
 refine call_meets F.slot_list_extend ⟨_, e, rfl⟩ F.entry_list_extend (F.args_list_extend_2 _ _)
  (AutoSeq1.list_extend_list_list_0 l its.toArray n b its2.toArray n2 hlong (by rw [y07]; omega) (by omega)) ⟨e, e2, ?_⟩
 refine ⟨.non, _, I.lset (its' := its ++ its2) hH e (by simp) (r.append r2) ?_, rfl, q⟩
 rw [y0j]
 omega
def rCat : R2 := fun x y H Q => ∃ l b xs zs, x = .ref l ∧ y = .ref b ∧ H l = some (.lst xs) ∧ H b = some (.lst zs) ∧ xs.length + zs.length ≤ sizeLine ∧ ∀ p, H p = none → Q (.ref p) (upd H p (.lst (xs ++ zs)))
theorem op_cat : OpR X (binaryOp .Add) rCat := by
 infer_instance
 obtain ⟨l, b, xs, zs, rfl, rfl, hH, hB, hz, q⟩ := h
 cases rx
 cases ry
 obtain ⟨z, its, n, r, hl, e⟩ := I.lstM hH
 obtain ⟨z2, its2, n2, r2, hl2, e2⟩ := I.lstM hB
 refine PySem.P.add_list e e2 ?_ (by rw [y07, y07]; omega)
 have ea : its.toArray ++ its2.toArray = (its ++ its2).toArray := by simp
 rw [ea]
 exact ⟨.ref _, _, I.lnew (t' := s.toks) (r.append r2) (by rw [y0j]; omega), rfl, q _ I.fresh⟩
end
section
variable {prog : Program} {w : World} {A : Around} {E : T0} {s : Shared}
theorem zmk {a c n : Nat} (hac : a ≤ c) (hc : c ≤ n) : sliceBounds (some (a : Int)) (some (c : Int)) none n = ((a : Int), (c : Int), 1) := by
 simp only [sliceBounds, y3q]
 have h1 : ¬ ((a : Int) < 0) := by omega
 have h2 : ¬ ((c : Int) < 0) := by omega
 simp only [h1, h2, if_false, show (1 : Int) > 0 by decide, if_true]
 congr 1
 ·omega
 ·congr 1; omega
set_option maxRecDepth 100000 in
theorem zpy {l b sl : Addr} {items new : Array Value} {n n2 : Nat} {vl vu : Value} {a c : Nat} {Q : Unit → Shared → Prop}
  (e : s.heap.get? l = some { cls := .type "list", data := .seq items n }) (e2 : s.heap.get? b = some { cls := .type "list", data := .seq new n2 }) (hne : l ≠ b)
  (hs : s.heap.IsSliceOf sl vl vu .none) (pl : IsPart vl (some (a : Int))) (pu : IsPart vu (some (c : Int))) (hac : a ≤ c) (hc : c ≤ items.size)
  (hsz : items.size + new.size ≤ sizeLine) (h : Q () { s with heap := s.heap.update l (Obj.mapSeq fun xs => xs.extract 0 a ++ new ++ xs.extract c xs.size) }) :
  wpAny (model prog w) A (setItem (.ref l) (.ref sl) (.ref b)) Q E s := by
 have hl : s.heap.IsList l items := PySem.IsL.isList e
 have hb : s.heap.IsList b new := PySem.IsL.isList e2
 obtain ⟨os, hos, hcs, hds⟩ := id hs
 have hTs : s.TypeIs (.ref sl) "slice" := ⟨os, hos, hcs⟩
 have hstep : ¬ ((rawPart none == rawInt 0) = true) := y0f
 have hsame : Builtin.List.listSameRef (.ref l) (.ref b) = false := by
  unfold Builtin.List.listSameRef
  exact beq_eq_false_iff_ne.mpr hne
 have hmax : (max (a : Int) (c : Int)).toNat = c := by omega
 have hz' : ((fun xs : Array Value => xs.extract 0 a ++ new ++ xs.extract c xs.size) items).size ≤ sizeLine + 1 := by
  simp only [Array.size_append, Array.size_extract]
  omega
 unfold setItem
 try with_reducible refine wpAny_holding ?_
 first | refine wpAny_bind (wpAny_pure ?_) | skip
 refine wpAny_bind (wpAny_sequenceKey hl.typeIs (by decide) ?_)
 refine wpAny_bind (wpAny_callSpecial?_slot (name := Str.ofString "__setitem__") hl.typeIs slot_list_setitem
  (wpAny_call_entry slot_list_setitem hl.typeIs entry_list_setitem ?_ (args_list_setitem _ _ _)))
 show wpAny _ _ (Builtin.List.listSubscript? (.ref sl) >>= _) _ _ s
 refine wpAny_bind ?_
 unfold Builtin.List.listSubscript?
 refine wpAny_bind (wpAny_specialOf hTs slice_no_index ?_)
 simp only [Option.isNone_none, if_true]
 refine wpAny_pure ?_
 show wpAny _ _ (typeOf (.ref sl) >>= _) _ _ s
 refine wpAny_bind (wpAny_typeOf hTs ?_)
 first
  | rw [if_neg (by decide)]
  | refine PySem.W.KFB.if_not (by decide) ?_
 rw [listSliceParts_eq]
 refine wpAny_bind (wpAny_bind (wpAny_field hos hds (x := .none) rfl (wpAny_bind (wpAny_listPart .none ?_))))
 rw [if_neg hstep]
 refine wpAny_bind (wpAny_field hos hds (x := vl) rfl (wpAny_bind (wpAny_listPart pl ?_)))
 refine wpAny_bind (wpAny_field hos hds (x := vu) rfl (wpAny_bind (wpAny_listPart pu (wpAny_pure ?_))))
 first
  | simp only [hsame, y1d, if_false]
  | refine PySem.W.KFB.if_not hsame ?_
  | (dsimp only
     rw [if_neg (by rw [hsame]; exact y0f)])
 refine wpAny_bind (m := Builtin.List.listAllItems (.ref b) "must assign iterable to extended slice") ?_
 unfold Builtin.List.listAllItems
 refine wpAny_bind (wpAny_typeOf hb.typeIs ?_)
 first
  | refine PySem.W.KFB.if_so (by decide) ?_
  | rw [if_pos (by decide)]
  | simp only [beq_self_eq_true, y43, if_true]
 unfold Builtin.List.listItems
 refine wpAny_bind (wpAny_seqItems e2 rfl (wpAny_pure ?_))
 refine wpAny_bind (wpAny_bind (wpAny_seqItems e rfl (wpAny_pure ?_)))
 refine wpAny_bind (wpAny_of_eq ((sliceIndices_raw (some (a : Int)) (some (c : Int)) none items.size (by simp)).trans (congrArg (pure : Int × Int × Int → Sem (Int × Int × Int)) (zmk hac hc))) ?_)
 show wpAny _ _ (if ((1 : Int) == 1) = true then _ else _) _ _ s
 rw [if_pos (by decide)]
 refine wpAny_bind (wpAny_rule ?_)
 first
  | simp only [notLongL hsz, y1d, if_false]
  | refine PySem.W.KFB.if_not (notLongL hsz) ?_
 first | refine wpAny_bind (wpAny_pure ?_) | skip
 show wpAny _ _ (updateSeq l (fun xs => xs.extract 0 ((a : Int)).toNat ++ new ++ xs.extract (max (a : Int) (c : Int)).toNat xs.size) >>= _) _ _ s
 rw [hmax, y1l]
 refine wpAny_bind (wpAny_updateSeq (hz := y10 (y1c _ _) hsz) (_hz' := hz') e rfl ?_)
 refine wpAny_bind (wpAny_letGo ?_)
 first
  | exact wpAny_bind (wpAny_pure (wpAny_pure ⟨.none, rfl, wpAny_pure h⟩))
  | exact wpAny_pure ⟨.none, rfl, wpAny_pure h⟩
end
end L2
namespace Att
open PySem PySem.W PySem.Calls PyProof.Rows
theorem ze4 {P : Params} {h : Heap} : ∀ (ns : List Int) (vs : List Value), WellAll P h vs (ns.map WData.int) → IntsAre vs ns := by
 intro ns
 induction ns with
 | nil =>
  intro vs w
  rw [y30] at w
  cases w
  exact .nil
 | cons n ns ih =>
  intro vs w
  rw [y0k] at w
  cases w with
  | cons a b =>
   cases a
   exact .cons _ _ (ih _ b)
theorem zm3 {l : OpenLaw} {n : Nat} (hn : l.most = some n) {P : Params} {h : Heap} {args : List WData} {vals : List Value}
  (hpre : l.row.toRowW.claim.pre args = true) (hwl : WellAll P h vals args) :
  ∃ a vs ns, vals = [Value.ref a] ∧ args = [WData.list (ns.map WData.int)] ∧ h.get? a = some { cls := .type "list", data := .seq vs.toArray } ∧ IntsAre vs ns ∧ ns.length ≤ n := by
 have hsh : WShape.hasAll [] args [.list .int] = true := (pre_splitW hpre).1
 have hc : l.pre.holds [] { args := args } = true := (pre_splitW hpre).2
 obtain ⟨d, r, rfl, h1, h2⟩ := hasAllW_cons hsh
 obtain rfl := hasAllW_nil h2
 obtain ⟨xs, rfl, h3⟩ := hasW_list h1
 obtain ⟨ns, rfl⟩ := items_int h3
 have hlen : ns.length ≤ n := by
  unfold OpenLaw.pre at hc
  have h4 : (WTm.not (.lt (.lit (.int (n : Int))) (.len (.arg 0)))).holds [] { args := [.list (ns.map .int)] } = true := by
   have h4 := (holds_andW hc).1
   rw [hn] at h4
   exact h4
  have h5 := condW_of h4 (w_not (w_lt w_lit (w_len_list (w_arg rfl))))
  rw [y01] at h5
  refine y2h fun q => ?_
  have q' : (n : Int) < ((ns.length : Nat) : Int) := by omega
  first
   | (rw [decide_eq_true q'] at h5; exact absurd h5 (by decide))
   | (simp at h5; omega)
 cases hwl with
 | cons w1 w2 =>
  cases w2
  cases w1 with
  | list ho hall => exact ⟨_, _, ns, rfl, rfl, ho, ze4 ns _ hall, hlen⟩
theorem zm6 (l : OpenLaw) (args : List WData) : l.row.toRowW.claim.post args (.bool true) args = true :=
 postW_of (r := l.row.toRowW) (X := (true == true))
  (show WShape.has [] (.bool true) .bool = true by first | rfl | decide | simp [WShape.has, WShape.arms, WShape.armsAll])
  (show (WTm.eq .res (.lit (.bool true))).value [] { args := args, res := some (.bool true), after := args } = some (.bool (true == true)) from w_eq_bool (w_res rfl) w_lit) rfl
theorem attach_call {l : OpenLaw} {n : Nat} {q : Program} {loose : List Str} {XP : (Str → Option Value) → Heap → Prop} {YP : World → Heap → Prop} {d : DefRec}
  (hn : l.most = some n) (hdf : d.params.defaults = [])
  (call : ∀ (w : World) (s₀ s₁ : Shared) (mg mb : T1) (fa : Addr) (o : Obj) (pm cd doc : Value) (a : Addr) (vs : List Value) (ns : List Int),
   Ground q loose [] XP w s₀ mg mb s₁.heap → YP w s₁.heap →
   s₁.heap.get? fa = some o → o.data = .func (docDef d.name d.params d.body d.scope pm cd doc) → s₁.heap.CodeRec cd d.name → mg d.name = some (.ref fa) →
   s₁.heap.get? a = some { cls := .type "list", data := .seq vs.toArray } → IntsAre vs ns → ns.length ≤ n → s₁.gens = #[] →
   codeAny (model l.prog w) callerA (.call (.ref fa) ⟨[.ref a], []⟩) (fun r s' => r = .ok (.ret (.bool true)) ∧ OldK s₁.heap s'.heap ∧ s'.os = s₁.os ∧ AllBare s'.gens) s₁) :
  WalkO q loose XP YP l.row.toRowW d [] (fun f vs => PySem.call f vs) := by
 intro w s₀ s₁ mg mb G Y fa o pm cd doc dV kV ho hd hcd hD hmg hg args vals as hpre hlay hrd hwl hlo
 obtain rfl : dV = .none := Dflts.none hD hdf
 obtain rfl : kV = .none := Dflts.noKw hD
 obtain ⟨a, vs, ns, rfl, rfl, hobj, hints, hlen⟩ := zm3 hn hpre hwl
 refine enter_call (codeAny_mono (call w s₀ s₁ mg mb fa o pm cd doc a vs ns G Y ho (fd_plain hd) hcd hmg hobj hints hlen hg) fun r s' hq => ?_)
 obtain ⟨rfl, h2, h3, h4⟩ := hq
 exact ⟨.inl ⟨.bool true, .bool true, [], rfl, fun _ => rfl, .bool true, zm6 l _, fun _ => ⟨List.Pairwise.nil, fun _ hm => (nomatch hm)⟩⟩, h2, h3, h4⟩
end Att
namespace L2
theorem zg4 : ∀ {vs : List Value} {ns : List Int}, IntsAre vs ns → Vals (ns.map V.int) vs
 | _, _, .nil => .nil
 | _, _, .cons n t h => .cons ⟨t, rfl⟩ (zg4 h)
abbrev KOf {K : Frag} {h : Heap} (_ : K.In h) : Frag := K
def defArgs (s : Stmt) : Arguments := match s with
 | .FunctionDef _ a _ _ _ _ _ _ _ _ => a
 | _ => { posonlyargs := [], args := [], vararg := none, kwonlyargs := [], kw_defaults := [], kwarg := none, defaults := [] }
def defBody (s : Stmt) : List Stmt := match s with
 | .FunctionDef _ _ b _ _ _ _ _ _ _ => b
 | _ => []
def defScope (s : Stmt) : Scope := match s with
 | .FunctionDef _ _ _ _ _ _ sc _ _ _ => sc
 | _ => { kind := .function, names := [], isGenerator := false, isCoroutine := false }
abbrev CX0 : CXT := fun _ _ _ _ _ _ => False
abbrev E0 : XK := fun _ _ _ => False
theorem pass0 {X : Cx} : Passes CX0 X E0 := fun _ _ _ _ _ _ _ h => h.elim
structure Fun (K : Frag) (x qual : Str) (st : Stmt) (f : Addr) (fd : FuncData) : Prop where
 ex : ∃ (oc : Value) (od : Option Addr) (kV doc pm : Value) (an : Option Addr) (cdv ct : Value) (osl : T8),
  fd = PySem.W.fnOf x qual (defArgs st) (defBody st) (defScope st) .none kV doc pm an cdv ct ∧ K.lookup f = some ⟨oc, od, .func fd, osl⟩ ∧ PySem.W.codeIn K cdv qual = true
 kp : PySem.W.keepIn K (.ref f) = true
section
variable {P : Program} {w : World} {K : Frag} {mg : T1} {base : Heap}
theorem Fun.ok {x qual : Str} {st : Stmt} {f : Addr} {fd : FuncData} {N ps : List Str} {k : Nat} {sp : Sp} (F : Fun K x qual st f fd) (S : FnScope N ps (defScope st)) (len : ∀ vs H Q E, sp vs H Q E → vs.length = ps.length)
  (hbody : ∀ (cdv : Value) (A : Around) (outer : List Env) (s : Shared) (H : Hp) (vs : List V) (Q : VK) (E : XK), Room k (A.deeper (envOfC qual (defScope st) s.heap.objs.size f cdv)) → sp vs H Q E →
   ∃ t, PSs (cxOf CX0 P w K mg base N qual (defScope st) f cdv A outer s H E).nox (defBody st) t ∧ t { nx := fun _ H' => Q .non H', rt := Q } (start N vs) H) : FnOk P w K mg base CX0 (k + 1) f fd ps sp := by
 obtain ⟨oc, od, kV, doc, pm, an, cdv, ct, osl, rfl, lk, hcd⟩ := F.ex
 refine fn_of lk hcd S len fun A outer s H vs Q E hr hsp => ?_
 obtain ⟨t, h, q⟩ := hbody cdv A outer s H vs Q E hr hsp
 exact ⟨t, h.nox, q⟩
theorem Fun.binds {x qual : Str} {st : Stmt} {f : Addr} {fd : FuncData} {ps : List Str} (F : Fun K x qual st f fd)
  (h : ∀ (kV doc pm : Value) (an : Option Addr) (cdv ct : Value) (us : List Value), us.length = ps.length → bindArgs (PySem.W.fnOf x qual (defArgs st) (defBody st) (defScope st) .none kV doc pm an cdv ct) ⟨us, []⟩ = pure (ps.zip us)) : Binds K fd ps [] := by
 obtain ⟨oc, od, kV, doc, pm, an, cdv, ct, osl, rfl, lk, hcd⟩ := F.ex
 exact .all (h kV doc pm an cdv ct)
theorem zk0 {x qual : Str} {st : Stmt} {f : Addr} {oc : Value} {od an : Option Addr} {osl : T8} {kV doc pm cdv ct : Value} (l : K.lookup f = some ⟨oc, od, .func (PySem.W.fnOf x qual (defArgs st) (defBody st) (defScope st) .none kV doc pm an cdv ct), osl⟩)
  (c : PySem.W.codeIn K cdv qual = true) (k : PySem.W.keepIn K (.ref f) = true) : Fun K x qual st f (PySem.W.fnOf x qual (defArgs st) (defBody st) (defScope st) .none kV doc pm an cdv ct) := ⟨⟨oc, od, kV, doc, pm, an, cdv, ct, osl, rfl, l, c⟩, k⟩
end
theorem small1000 {n : Nat} (h : n ≤ 1000) : n < sizeLine := y3j h (by decide)
section
variable {X : Cx}
theorem pv (i : Nat) {x : Str} {pos : Pos} (hN : X.N[i]? = some x := by rfl) (hv : Vis X.env.scope x := by first | exact Or.inl rfl | exact Or.inr (Or.inl rfl) | exact Or.inr (Or.inr rfl)) (hd : (x == ("__debug__" : Str)) = false := by decide)
  (hcd : (x == ("__classdict__" : Str)) = false := by decide) : PE X (.Name x pos) (tVar i) := zkk hN hv hd hcd
end
theorem iteF {A B : Prop} (h : B) : if false = true then A else B := by
 rw [if_neg y0f]
 exact h
theorem iteT {A B : Prop} (h : A) : if true = true then A else B := by
 rw [if_pos rfl]
 exact h
theorem ite2 {c A B : Prop} [Decidable c] (h1 : c → A) (h2 : ¬ c → B) : if c then A else B := by
 by_cases h : c
 ·rw [if_pos h]
  exact h1 h
 ·rw [if_neg h]
  exact h2 h
def Same (H H' : Hp) : Prop := ∀ b o, H b = some o → H' b = some o
theorem Same.refl (H : Hp) : Same H H := fun _ _ h => h
theorem Same.trans {H H1 H2 : Hp} (a : Same H H1) (b : Same H1 H2) : Same H H2 := fun c o h => b c o (a c o h)
theorem Same.free {H H' : Hp} (e : Same H H') {l : Addr} (h : H' l = Option.none) : H l = Option.none := by
 cases q : H l with
 | none => rfl
 | some o =>
  rw [e l o q] at h
  cases h
theorem Same.seq {K : Frag} {H H' : Hp} {a : Addr} {xs : List V} (e : Same H H') (h : SqL K H a xs) : SqL K H' a xs := by
 rcases h with (h | ⟨o, h⟩) | h
 ·exact .inl (.inl (e _ _ h))
 ·exact .inl (.inr ⟨o, e _ _ h⟩)
 ·exact .inr h
theorem zds (env : Env) : ∀ (names : List (Str × NameKind)) (cs : T4),
  (∀ p ∈ names, p.2 = .free → ∃ c, env.cells.lookup p.1 = some c) → (∀ x c, cs.lookup x = some c → env.cells.lookup x = some c) →
  ∃ cl : List (Str × Addr), (forIn names cs fun (p : Str × NameKind) (r : T4) => (if (p.2 == NameKind.free) = true then (do let c ← cellOf env p.1; pure (ForInStep.yield ((p.1, c) :: r))) else pure (ForInStep.yield r) : Sem (ForInStep (List (Str × Addr))))) = (pure cl : Sem (List (Str × Addr))) ∧
   (∀ x c, cl.lookup x = some c → env.cells.lookup x = some c) ∧ (∀ x, (cs.lookup x).isSome = true → (cl.lookup x).isSome = true) ∧ (∀ p ∈ names, p.2 = .free → (cl.lookup p.1).isSome = true)
 | [], cs, _, h2 => ⟨cs, rfl, h2, fun _ h => h, fun _ h => nomatch h⟩
 | (n, k) :: r, cs, h1, h2 => by
  have h1' : ∀ p ∈ r, p.2 = .free → ∃ c, env.cells.lookup p.1 = some c := fun p hp => h1 p (y09 _ hp)
  by_cases hk : (k == NameKind.free) = true
  ·have hk' : k = .free := by simpa using hk
   obtain ⟨c, hc⟩ := h1 (n, k) y0c hk'
   have h2' : ∀ x c', ((n, c) :: cs).lookup x = some c' → env.cells.lookup x = some c' := fun x c' e => by
    rw [y12] at e
    cases hx : x == n with
    | true =>
     rw [hx] at e
     have e1 : x = n := by simpa using hx
     rw [e1, hc]; exact e
    | false => rw [hx] at e; exact h2 x c' e
   obtain ⟨cl, e1, e2, e3, e4⟩ := zds env r ((n, c) :: cs) h1' h2'
   have hn : (((n, c) :: cs).lookup n).isSome = true := by rw [y12, beq_self_eq_true]; rfl
   refine ⟨cl, ?_, e2, fun x hx => e3 x ?_, fun p hp hf => ?_⟩
   ·rw [y1n]
    have q : cellOf env n = pure c := by unfold cellOf; rw [hc]
    simp only [hk, if_true, q]
    exact e1
   ·rw [y12]
    cases x == n with
    | true => rfl
    | false => exact hx
   ·rcases y05.mp hp with e | hp
    ·rw [e]; exact e3 n hn
    ·exact e4 p hp hf
  ·obtain ⟨cl, e1, e2, e3, e4⟩ := zds env r cs h1' h2
   refine ⟨cl, ?_, e2, e3, fun p hp hf => ?_⟩
   ·rw [y1n]
    have hkf : (k == NameKind.free) = false := by simpa using hk
    simp only [hkf, y1d, if_false]
    exact e1
   ·rcases y05.mp hp with e | hp
    ·rw [e] at hf; exact absurd (by simpa using hf) hk
    ·exact e4 p hp hf
theorem zf5 {scope : Scope} {env : Env} (h : ∀ p ∈ scope.names, p.2 = .free → ∃ c, env.cells.lookup p.1 = some c) :
  ∃ cl, closureFor scope env = pure cl ∧ (∀ x c, cl.lookup x = some c → env.cells.lookup x = some c) ∧ (∀ p ∈ scope.names, p.2 = .free → ∃ c, cl.lookup p.1 = some c) := by
 obtain ⟨cl, e1, e2, _, e4⟩ := zds env scope.names [] h (fun x c e => by simp at e)
 refine ⟨cl, ?_, e2, fun p hp hf => y35.mp (e4 p hp hf)⟩
 have q : closureFor scope env = (forIn scope.names [] fun (p : Str × NameKind) (r : T4) => (if (p.2 == NameKind.free) = true then (do let c ← cellOf env p.1; pure (ForInStep.yield ((p.1, c) :: r))) else pure (ForInStep.yield r) : Sem (ForInStep (List (Str × Addr))))) >>= pure := by
  unfold closureFor
  rfl
 rw [q, e1]
 rfl
theorem zdv {env : Env} : ∀ {names : List (Str × NameKind)} {x : Str}, (∀ y ∈ names, y.2 ≠ .cell) →
  ((names.map fun (n, k) => if (k == NameKind.free && env.scope.kind == .function && env.kindOf n == some .cell) then (n, NameKind.cell) else (n, k)).lookup x = some .cell ∨
   (names.map fun (n, k) => if (k == NameKind.free && env.scope.kind == .function && env.kindOf n == some .cell) then (n, NameKind.cell) else (n, k)).lookup x = some .free) → (x, NameKind.free) ∈ names
 | [], _, _, h => by simp at h
 | (n, k) :: r, x, hc, h => by
  have ih := @zdv env r x (fun y hy => hc y (y09 _ hy))
  simp only [y0k] at h
  cases hx : x == n with
  | true =>
   have e : x = n := by simpa using hx
   subst e
   by_cases hh : (k == NameKind.free && env.scope.kind == .function && env.kindOf x == some .cell) = true
   ·have : k = .free := by
     simp only [y08] at hh
     simpa using hh.1.1
    subst this
    exact y0c
   ·rw [if_neg hh] at h
    simp only [y12, hx] at h
    rcases h with h | h
    ·have : k = .cell := Option.some.inj h
     exact absurd this (hc (x, k) y0c)
    ·have : k = .free := Option.some.inj h
     subst this
     exact y0c
  | false =>
   refine y09 _ (ih ?_)
   by_cases hh : (k == NameKind.free && env.scope.kind == .function && env.kindOf n == some .cell) = true
   ·rw [if_pos hh] at h
    simpa only [y12, hx] using h
   ·rw [if_neg hh] at h
    simpa only [y12, hx] using h
theorem zdu {env : Env} : ∀ {names : List (Str × NameKind)} {x : Str}, names.lookup x = some .free →
  ((names.map fun (n, k) => if (k == NameKind.free && env.scope.kind == .function && env.kindOf n == some .cell) then (n, NameKind.cell) else (n, k)).lookup x = some .cell ∨
   (names.map fun (n, k) => if (k == NameKind.free && env.scope.kind == .function && env.kindOf n == some .cell) then (n, NameKind.cell) else (n, k)).lookup x = some .free)
 | [], _, h => by simp at h
 | (n, k) :: r, x, h => by
  have ih := @zdu env r x
  simp only [y0k]
  cases hx : x == n with
  | true =>
   simp only [y12, hx] at h
   have e : k = .free := Option.some.inj h
   subst e
   by_cases hh : (NameKind.free == NameKind.free && env.scope.kind == .function && env.kindOf n == some .cell) = true
   ·rw [if_pos hh]; left; simp only [y12, hx]
   ·rw [if_neg hh]; right; simp only [y12, hx]
  | false =>
   simp only [y12, hx] at h
   by_cases hh : (k == NameKind.free && env.scope.kind == .function && env.kindOf n == some .cell) = true
   ·rw [if_pos hh]; simpa only [y12, hx] using ih h
   ·rw [if_neg hh]; simpa only [y12, hx] using ih h
def cxB (X : Cx) (scope : Scope) (tn : List Str) (cp : T6) (cl : T4) (C : Addr) (s : Shared) (H : Hp) (fp : List Addr) : Cx :=
 { X with N := tn ++ cp.map (·.2), s₀ := s, H₀ := H, env := compEnvC scope cl C X.env, outer := X.stack, ex := fp, fn := fun _ => false, pn := [], xe := fun _ _ => False }
def stB (tn : List Str) (cp : T6) (σ : St) : St := List.replicate tn.length none ++ cp.map fun p => (σ[p.1]?).getD none
structure CompOk (X : Cx) (scope : Scope) (cp : T6) : Prop where
 kind : scope.kind = .function
 nocell : ∀ y ∈ scope.names, y.2 ≠ .cell
 names : ∀ y ∈ scope.names, y.2 = .local → scope.names.lookup y.1 = some .local
 free : ∀ y ∈ scope.names, y.2 = .free → X.env.kindOf y.1 = some .cell ∨ X.env.kindOf y.1 = some .free
 cap : ∀ p ∈ cp, X.N[p.1]? = some p.2 ∧ scope.names.lookup p.2 = some .free
section
variable {X : Cx} {pins : T2} {σ : St} {H : Hp} {s : Shared} {scope : Scope} {tn : List Str} {cp : T6} {cl : T4} {fp : List Addr}
theorem mem_of_lookup' {α : Type} : ∀ {l : List (Str × α)} {x : Str} {v : α}, l.lookup x = some v → (x, v) ∈ l
 | [], _, _, h => by simp at h
 | (n, k) :: r, x, v, h => by
  rw [y12] at h
  cases hx : x == n with
  | true =>
   rw [hx] at h
   have e : x = n := by simpa using hx
   have e2 : k = v := Option.some.inj h
   subst e e2
   exact y0c
  | false => rw [hx] at h; exact y09 _ (mem_of_lookup' h)
theorem zju {h₁ : Heap} {t' : Nat} {m0 : T1} (I : Inv X pins σ H s) (O : CompOk X scope cp) (hcl1 : ∀ x c, cl.lookup x = some c → X.env.cells.lookup x = some c) (hcl2 : ∀ p ∈ scope.names, p.2 = .free → ∃ c, cl.lookup p.1 = some c)
  (hf : ∀ b ∈ fp, FpOk X pins H b ∧ b < s.heap.objs.size) (hns : h₁.Ns s.heap.objs.size m0) (hk : ∀ b o, s.heap.get? b = some o → h₁.get? b = some o) :
  Inv (cxB X scope tn cp cl s.heap.objs.size s H fp) [] (stB tn cp σ) H { s with heap := h₁, toks := t' } := by
 have ok : (cxB X scope tn cp cl s.heap.objs.size s H fp).Ok := by
  refine ⟨I.ok.mod, O.kind, I.ok.glob, I.ok.blt, y06 _, fun x y c e1 e2 => I.ok.inj x y c (hcl1 x c e1) (hcl1 y c e2), fun x hx => ?_, fun x c hx => (by cases hx), I.ok.hd, I.ok.frames, .inl rfl, fun b hb => ⟨y0l (hf b hb).2, fun x c e => ?_⟩,
   fun b o e => I.bs b o e, y10 I.ok.bsz I.sz, fun b o e hb => ?_, fun b hb hb' => ?_, I.stack, I.stkFree⟩
  ·exact hcl2 (x, .free) (zdv O.nocell hx) rfl
  ·exact (hf b hb).1.2.2.2.2.1 x c (hcl1 x c e)
  ·rcases (hf b hb).1.2.2.2.1 with z | z
   ·exact I.ok.noex b o e z
   ·exact absurd (y0q (y0d e) (y10 I.ok.bsz z)) (y27 _)
  ·rcases y05.mp (I.stkSub b hb') with z | z
   ·exact (hf b hb).1.2.1 z
   ·exact (hf b hb).1.2.2.1 z
 refine ⟨ok, rfl, I.bare, Un.kept hk, ⟨m0, hns, fun i x v e1 e2 e3 => ?_⟩, fun x c e => ?_, I.hok.fresh (y06 _), fun x c e => I.freeC x c (hcl1 x c e), fun p hp => by simp [cxB] at hp, I.hok.kept hk, ?_⟩
 ·-- a captured name
  have e1' : (tn ++ cp.map (·.2))[i]? = some x := e1
  have e2' : (List.replicate tn.length none ++ cp.map fun p => (σ[p.1]?).getD none)[i]? = some (some v) := e2
  by_cases hi : i < tn.length
  ·rw [y11 (by simpa using hi)] at e2'
   rw [y2n, if_pos hi] at e2'
   cases e2'
  ·rw [y0x (by simpa using y2h hi), y2t, y04] at e2'
   rw [y0x (y2h hi), y04] at e1'
   cases hp : cp[i - tn.length]? with
   | none => rw [hp] at e1'; cases e1'
   | some p =>
    rw [hp] at e1' e2'
    have e1'' : p.2 = x := Option.some.inj e1'
    have e2'' : (σ[p.1]?).getD none = some v := Option.some.inj e2'
    obtain ⟨c1, c2⟩ := O.cap p (y0h hp)
    rw [e1''] at c1 c2
    have hs : σ[p.1]? = some (some v) := by
     cases q : σ[p.1]? with
     | none => rw [q] at e2''; cases e2''
     | some z => rw [q] at e2''; exact congrArg some e2''
    have hk' := O.free (x, .free) (mem_of_lookup' c2) rfl
    have hvis : Vis X.env.scope x := by
     rcases hk' with z | z
     ·exact .inr (.inl z)
     ·exact .inr (.inr z)
    obtain ⟨m, hn, hl⟩ := I.loc
    obtain ⟨u, r, l⟩ := hl p.1 x v c1 hs hvis
    refine ⟨u, r, .inr ?_⟩
    rcases l with ⟨z, _⟩ | ⟨_, c, hc, o, ho, hd⟩
    ·rcases hk' with y | y <;> (rw [z] at y; cases y)
    ·obtain ⟨c', hc'⟩ := hcl2 (x, .free) (mem_of_lookup' c2) rfl
     have : c' = c := Option.some.inj ((hcl1 x c' hc').symm.trans hc)
     subst this
     exact ⟨zdu c2, c', hc', o, hk c' o ho, hd⟩
 ·obtain ⟨v, o, ho, hd⟩ := I.cell x c (hcl1 x c e)
  exact ⟨v, o, hk c o ho, hd⟩
 ·show (stB tn cp σ).length = (tn ++ cp.map (·.2)).length
  unfold stB
  simp
theorem zpf {σ' : St} {H' : Hp} {s' : Shared} {h' : Heap} {pinsB : T2} (I : Inv X pins σ H s) (hf : ∀ b ∈ fp, FpOk X pins H b)
  (J : Inv (cxB X scope tn cp cl s.heap.objs.size s H fp) pinsB σ' H' s') (hs : Heap.SameBut s.heap.objs.size s'.heap h') : Inv X pins σ H' { s' with heap := h' } := by
 have ne : ∀ b o, s.heap.get? b = some o → b ≠ s.heap.objs.size := fun b o e => y0l (y0d e)
 have U : Un (frs X.stack) fp H H' s.heap h' := by
  have u : Un (frs X.stack) fp H H' s.heap s'.heap := J.base
  refine ⟨fun b o e n h1 h2 => (hs.2 b (ne b o e)).trans (u.keep b o e n h1 h2), fun b o e n h1 h2 => ?_, u.free, fun b o e h2 => ?_, u.tups, u.frzs, u.tbls⟩
  ·obtain ⟨sl, q⟩ := u.slot b o e n h1 h2
   exact ⟨sl, (hs.2 b (ne b o e)).trans q⟩
  ·obtain ⟨o', q⟩ := u.there b o e h2
   exact ⟨o', (hs.2 b (ne b o e)).trans q⟩
 have fr : H' s.heap.objs.size = none := J.free
 have hok : HOk X.prog X.w H' h' := fun b ob e => by
  refine (J.hok b ob e).stay (fun c v hc q => (hs.2 c ?_).trans q) (fun _ q => q) (fun _ _ _ _ _ q => q) fun _ _ q => q
  rintro rfl
  rcases hc with z | z
  ·rw [← z, fr] at e; cases e
  ·rw [fr] at z; cases z
 refine I.call' (s' := { s' with heap := h' }) (ch := fp) J.os U hok J.bare fun b hb => ?_
 obtain ⟨_, f1, _, f3, f4, f5⟩ := hf b hb
 exact ⟨f3, f1, f4, f5⟩
end
def PIfs (X : Cx) (ifs : List Expr) (t : TT) : Prop :=
 ∀ (pins : T2) (s : Shared) (σ : St) (H : Hp) (Q : Bool → Hp → Prop), Inv X pins σ H s → t σ H Q →
  wpAny (model X.prog X.w) X.A (forIn ifs true fun c r => if r = true then do let ok ← isTrue c X.env (eval c X.env); pure (ForInStep.yield ok) else pure (ForInStep.yield r)) (TP X pins σ Q) X.xe s
def tYes : TT := fun _ H Q => Q true H
theorem za5 {X : Cx} : PIfs X [] tYes := fun _ _ _ H _ I h => wpAny_tests_nil ⟨H, I, h⟩
theorem zhs {X : Cx} {c : Expr} {t : TT} (h : PT X c t) : PIfs X [c] t := fun pins s σ H Q I hw => wpAny_tests_one (h pins s σ H Q I hw)
theorem zh8 {prog : Program} {w : World} {A : Around} {R : Result → Shared → Prop} {s : Shared} {elt target iter : Expr} {ifs : List Expr} {scope : Scope} {pos : Pos} {it acc : Value} {env : Env} (I : Nat → Shared → Prop)
  (turn : ∀ n s, I n s → wpAny (model prog w) A (pyNext it) (fun r s₁ => match r with
   | none => R (.ok .next) s₁
   | some v => wpAny (model prog w) A (letOwnedTupleGo target it v) (fun _ s₂ => wpAny (model prog w) A (assign target env v) (fun _ s₃ =>
     wpAny (model prog w) A (forIn ifs true fun c r => if r = true then do let ok ← isTrue c env (eval c env); pure (ForInStep.yield ok) else pure (ForInStep.yield r)) (fun ok s₄ =>
      if ok = true then wpAny (model prog w) A (eval elt env) (fun x s₅ =>
       wpAny (model prog w) A (call (.builtin "list.append") [acc, x]) (fun _ s₆ => ∃ m, m < n ∧ I m s₆) (fun _ _ => False) s₅) (fun _ _ => False) s₄
      else ∃ m, m < n ∧ I m s₄) (fun _ _ => False) s₃) (fun _ _ => False) s₂) (fun _ _ => False) s₁) (fun _ _ => False) s)
  (n : Nat) (h : I n s) :
  codeAny (model prog w) A (.compLoop (.ListComp elt [⟨target, iter, ifs, 0⟩] scope pos) 0 it acc env) R s := by
 refine codeAny_loop rfl I (fun n s hI => ?_) n h
 show wpAny _ A ((compTurn (.ListComp elt [⟨target, iter, ifs, 0⟩] scope pos) 0 it acc env).onRaise (fun x => do noteFrame x env; theTreesLotGoes x)) _ _ s
 refine wpAny_noted ?_
 rw [compTurn_list]
 refine wpAny_bind (wpAny_standAt (wpAny_bind (wpAny_mono (turn n s hI) (fun r s₁ h₁ => ?_) fun _ _ f => f.elim)))
 cases r with
 | none => exact wpAny_pure h₁
 | some v =>
  refine wpAny_bind (wpAny_mono h₁ (fun _ s₂ h₂ => ?_) fun _ _ f => f.elim)
  refine wpAny_bind (wpAny_mono h₂ (fun _ s₃ h₃ => wpAny_bind (wpAny_mono h₃ (fun ok s₄ h₄ => ?_) fun _ _ f => f.elim)) fun _ _ f => f.elim)
  cases ok with
  | false => exact wpAny_pure ⟨rfl, h₄⟩
  | true =>
   exact wpAny_bind (wpAny_bind (wpAny_mono h₄ (fun x s₅ h₅ => wpAny_bind (wpAny_mono h₅ (fun _ s₆ h₆ => wpAny_pure (wpAny_pure ⟨rfl, h₆⟩)) fun _ _ f => f.elim)) fun _ _ f => f.elim))
def tComp (tn : List Str) (cp : T6) (wi : TI) (g : TG) (tif : TT) (te : TE) : TE := fun σ H Q => wi σ H fun J H1 => ∀ D, H1 D = none → ∃ W : Nat → Nat → St → Hp → Prop,
 (∃ m, W 0 m (stB tn cp σ) (upd H1 D (.lst []))) ∧ ∀ i m σb Hb, W i m σb Hb →
  (J.stop i Hb ∧ Q (.ref D) Hb) ∨ (J.go i Hb ∧ ∀ x H', J.yld i Hb x H' → g x σb H' fun σ2 H2 => tif σ2 H2 fun c H3 =>
   if c = true then te σ2 H3 fun y H4 => ∃ ys, H4 D = some (.lst ys) ∧ ys.length < sizeLine ∧ ∃ m', m' < m ∧ W (i + 1) m' σ2 (upd H4 D (.lst (ys ++ [y])))
   else ∃ m', m' < m ∧ W (i + 1) m' σ2 H3)
theorem zf2 {X : Cx} {elt tg iter : Expr} {ifs : List Expr} {scope : Scope} {pos cpos : Pos} {wi : TI} {g : TG} {tif : TT} {te : TE} (tn : List Str) (cp : T6) (O : CompOk X scope cp) (hc : X.calm = true) (hi : PI X tg iter wi)
  (hg : ∀ cl C s H fp, PG (cxB X scope tn cp cl C s H fp) tg g) (hif : ∀ cl C s H fp, PIfs (cxB X scope tn cp cl C s H fp) ifs tif) (he : ∀ cl C s H fp, PE (cxB X scope tn cp cl C s H fp) elt te)
  (hs : ∀ x, foldedSetIterable iter X.env x = pure x) {pins : T2} {s : Shared} {σ : St} {H : Hp} {Q : VK} {R : T0} {use : Option (Value → Sem Unit)} (I : Inv X pins σ H s) (h : tComp tn cp wi g tif te σ H Q)
  (fin : ∀ (D C : Addr) (H5 : Hp) (s5 : Shared) (m : T1), Inv X pins σ H5 s5 → FpOk X pins H5 C → s5.heap.Ns C m → Q (.ref D) H5 → compPost (model X.prog X.w) X.A X.xe use R (.ref D) C (.ok .next) s5) :
  wpAny (model X.prog X.w) X.A (comprehension (.ListComp elt [⟨tg, iter, ifs, 0⟩] scope pos) scope X.env cpos (newList []) false (eval iter X.env) use) R X.xe s := by
 obtain ⟨cl, hcl, hcl1, hcl2⟩ := zf5 (scope := scope) (env := X.env) fun p hp hf => I.ok.has p.1 (O.free p hp hf)
 refine wpAny_comprehension_free (use := use) rfl hs hcl O.kind O.names (thn (hi pins s σ H _ I h) fun v s1 h1 => thn h1 fun itv s2 h2 => ?_)
 obtain ⟨it, fp, tn', J, H2, rfl, I2, T, st2, f2, rest⟩ := h2
 refine wpAny_newObj_type ?_
 have I3 : Inv X pins σ (upd H2 s2.heap.objs.size (.lst [])) { s2 with heap := s2.heap.push { cls := .type "list", data := .seq ([] : List Value).toArray } } := I2.lnew (its := []) (t' := s2.toks) .nil (y1b _)
 obtain ⟨W, ⟨m0, w0⟩, turn⟩ := rest s2.heap.objs.size I2.fresh
 have fpl : ∀ b ∈ fp, b < s2.heap.objs.size := fun b hb => by
  obtain ⟨o, e, _⟩ := T.obj _ _ st2 b hb
  exact y0d e
 have f3 : ∀ b ∈ fp, FpOk X pins (upd H2 s2.heap.objs.size (.lst [])) b := fun b hb => ⟨by rw [zal (y0l (fpl b hb))]; exact (f2 b hb).1, (f2 b hb).2⟩
 have sz3 : (s2.heap.push { cls := .type "list", data := .seq ([] : List Value).toArray }).objs.size = s2.heap.objs.size + 1 := y16 ..
 refine wpAny_newFunctionEnv O.nocell (by intro y hy; simp at hy) (fun h₁ hns hsb => ?_) O.kind
 have hk1 : ∀ b o, (s2.heap.push { cls := .type "list", data := .seq ([] : List Value).toArray }).get? b = some o → h₁.get? b = some o := fun b o e =>
  hsb.extBut b o (y0l (y0d e)) (y03 _ e)
 have J3 := zju (tn := tn) (cp := cp) (t' := s2.toks + ([] : List (Str × Value)).length) I3 O hcl1 hcl2 (fun b hb => ⟨f3 b hb, by rw [sz3]; exact y36 (fpl b hb)⟩) hns hk1
 have st3 : tn' 0 h₁ := T.keep _ _ _ st2 fun b hb o e => hk1 b o (y03 _ e)
 show codeAny _ _ (.compStart _ 0 (.ref it) (.ref s2.heap.objs.size) (compEnvC scope cl (s2.heap.push { cls := .type "list", data := .seq ([] : List Value).toArray }).objs.size X.env)) _ _
 generalize hXB : cxB X scope tn cp cl (s2.heap.push { cls := .type "list", data := .seq ([] : List Value).toArray }).objs.size { s2 with heap := s2.heap.push { cls := .type "list", data := .seq ([] : List Value).toArray } } (upd H2 s2.heap.objs.size (.lst [])) fp = XB at J3
 have hprog : XB.prog = X.prog := by rw [← hXB]; rfl
 have hw : XB.w = X.w := by rw [← hXB]; rfl
 have hK : XB.K = X.K := by rw [← hXB]; rfl
 have hA : XB.A = X.A := by rw [← hXB]; rfl
 have henv : XB.env = compEnvC scope cl (s2.heap.push { cls := .type "list", data := .seq ([] : List Value).toArray }).objs.size X.env := by rw [← hXB]; rfl
 have hcalm : XB.calm = true := by rw [← hXB]; exact hc
 have hxe : XB.xe = fun _ _ => False := by rw [← hXB]; rfl
 have hgB : PG XB tg g := by rw [← hXB]; exact hg _ _ _ _ _
 have hifB : PIfs XB ifs tif := by rw [← hXB]; exact hif _ _ _ _ _
 have heB : PE XB elt te := by rw [← hXB]; exact he _ _ _ _ _
 have fB : ∀ (pb : T2) (Hb : Hp), (∀ b ∈ fp, Hb b = none) → (∀ b ∈ fp, ∀ p ∈ XB.pn ++ pb, p.1 ≠ b) → ∀ b ∈ fp, FpOk XB pb Hb b := fun pb Hb hn hp b hb => by
  refine ⟨hn b hb, ?_, ?_, .inl (by rw [← hXB]; exact hb), fun x c e => ?_, hp b hb⟩
  ·rw [henv]; show b ≠ (s2.heap.push { cls := .type "list", data := .seq ([] : List Value).toArray }).objs.size
   rw [sz3]; exact y0l (y36 (fpl b hb))
  ·rw [← hXB]
   show b ∉ frs X.stack
   intro z
   rcases y05.mp (I2.stkSub b z) with y | y
   ·exact (f2 b hb).2.1 y
   ·exact (f2 b hb).2.2.1 y
  ·rw [henv] at e
   exact (f2 b hb).2.2.2.2.1 x c (hcl1 x c e)
 have pn0 : XB.pn = [] := by rw [← hXB]; rfl
 have loop : ∀ s₃ : Shared, s₃ = { s2 with heap := h₁, toks := s2.toks + ([] : List (Str × Value)).length } →
   codeAny (model X.prog X.w) X.A (.compLoop (.ListComp elt [⟨tg, iter, ifs, 0⟩] scope pos) 0 (.ref it) (.ref s2.heap.objs.size) XB.env)
    (compPost (model X.prog X.w) X.A X.xe use R (.ref s2.heap.objs.size) (s2.heap.push { cls := .type "list", data := .seq ([] : List Value).toArray }).objs.size) s₃ := by
  rintro s₃ rfl
  refine zh8 (fun n s' => ∃ i σb Hb, Inv XB [] σb Hb s' ∧ tn' i s'.heap ∧ (∀ b ∈ fp, Hb b = none) ∧ W i n σb Hb) ?_ m0 ⟨0, stB tn cp σ, _, J3, st3, fun b hb => (f3 b hb).1, w0⟩
  rintro n s4 ⟨i, σ4, H4, I4, st4, fr4, w4⟩
  rcases turn i n σ4 H4 w4 with ⟨stop, qn⟩ | ⟨go, step⟩
  ·have d := T.done XB hprog hw hK hcalm i [] s4 σ4 H4 (fun _ _ => False) I4 (fB [] H4 fr4 (fun b hb p hp => by rw [pn0] at hp; simp at hp)) st4 stop
   rw [hA] at d
   refine thn d fun r s5 ⟨hr, I5⟩ => ?_
   subst hr
   obtain ⟨mm, hn5, _⟩ := id I5.loc
   have fr5 : H4 (s2.heap.push { cls := .type "list", data := .seq ([] : List Value).toArray }).objs.size = none := by
    have z := I5.free
    rw [henv] at z
    exact z
   have J5 : Inv X pins σ H4 s5 := by
    rw [← hXB] at I5
    exact zpf (h' := s5.heap) I3 f3 I5 ⟨rfl, fun _ _ => rfl⟩
   exact fin _ _ H4 s5 mm J5 (I3.fpOk (y06 _) fr5) (by rw [henv] at hn5; exact hn5) qn
  ·have d := T.item XB hprog hw hK hcalm i [] s4 σ4 H4 (fun _ _ => False) I4 (fB [] H4 fr4 (fun b hb p hp => by rw [pn0] at hp; simp at hp)) st4 go
   rw [hA] at d
   refine thn d fun r s5 ⟨u, hr, h5⟩ => ?_
   subst hr
   refine thn h5 fun _ s6 ⟨x, H6, I6, r6, y6, st6, fr6⟩ => ?_
   have I6' := I6.pinned (fB [] H6 fr6 (fun b hb p hp => by rw [pn0] at hp; simp at hp)) (T.obj _ _ st6)
   have q6 := step x H6 y6
   have a1 := hgB _ s6 σ4 H6 x u _ I6' r6 q6
   rw [hxe, hprog, hw, hA] at a1
   refine thn a1 fun _ s7 ⟨σ7, H7, I7, q7⟩ => ?_
   have a2 := hifB _ s7 σ7 H7 _ I7 q7
   rw [hxe, hprog, hw, hA] at a2
   refine thn a2 fun ok s8 ⟨H8, I8, q8⟩ => ?_
   have again : ∀ {σ9 : St} {H9 : Hp} {s9 : Shared}, Inv XB ([] ++ pinsAt fp s6.heap) σ9 H9 s9 → (∃ m', m' < n ∧ W (i + 1) m' σ9 H9) → ∃ m, m < n ∧ ∃ i σb Hb, Inv XB [] σb Hb s9 ∧ tn' i s9.heap ∧ (∀ b ∈ fp, Hb b = none) ∧ W i m σb Hb := fun {σ9 H9 s9} I9 n9 => by
    obtain ⟨m', hm, w9⟩ := n9
    refine ⟨m', hm, i + 1, σ9, H9, I9.unpinned, T.keep _ _ _ st6 fun b hb o e => (I9.pin (b, o) (y1e _ (y1e _ (zcn hb e)))).1, fun b hb => ?_, w9⟩
    obtain ⟨o, e, d⟩ := T.obj _ _ st6 b hb
    exact (I9.pin (b, o) (y1e _ (y1e _ (zcn hb e)))).2.1
   cases ok with
   | false => exact again I8 q8
   | true =>
    show wpAny _ _ _ _ _ _
    have a3 := heB _ s8 σ7 H8 _ I8 q8
    rw [hxe, hprog, hw, hA] at a3
    refine thn a3 fun yv s9 ⟨y, H9, I9, r9, ys, hD, hlen, n9⟩ => ?_
    have a4 := zb0 (X := XB) _ s9 σ7 H9 (.ref s2.heap.objs.size) [y] (.ref s2.heap.objs.size) [yv] (fun _ H' => ∃ m', m' < n ∧ W (i + 1) m' σ7 H') I9 rfl (.cons r9 .nil) ⟨_, ys, y, rfl, rfl, hD, hlen, n9⟩
    rw [hxe, hprog, hw, hA] at a4
    exact thn a4 fun _ s10 ⟨_, H10, I10, _, q10⟩ => again I10 q10
 rw [henv] at loop
 refine codeAny_compStart_list (loop _ rfl) (T.self _ 0 _ _ _ st3 (loop _ rfl))
theorem zau {X : Cx} {elt tg iter : Expr} {ifs : List Expr} {scope : Scope} {pos : Pos} {wi : TI} {g : TG} {tif : TT} {te : TE} (tn : List Str) (cp : T6) (O : CompOk X scope cp) (hc : X.calm = true) (hi : PI X tg iter wi)
  (hg : ∀ cl C s H fp, PG (cxB X scope tn cp cl C s H fp) tg g) (hif : ∀ cl C s H fp, PIfs (cxB X scope tn cp cl C s H fp) ifs tif) (he : ∀ cl C s H fp, PE (cxB X scope tn cp cl C s H fp) elt te)
  (hs : ∀ x, foldedSetIterable iter X.env x = pure x := by intro _; rfl) :
  PE X (.ListComp elt [⟨tg, iter, ifs, 0⟩] scope pos) (tComp tn cp wi g tif te) := by
 intro pins s σ H Q I h
 rw [eval_ListComp]
 refine zf2 tn cp O hc hi hg hif he hs I h fun D C H5 s5 m I5 f5 n5 q5 => ⟨m, n5, fun h' hs' => ⟨.ref D, H5, ?_, rfl, q5⟩⟩
 obtain ⟨f0, f1, f2, f3, f4, f5⟩ := f5
 exact I5.turned (t' := s5.toks) (fun b o hb e => (hs'.2 b hb).trans e) f0 f1 f3 f4 f5
theorem zct {X : Cx} {i : Nat} {x : Str} {elt tg iter : Expr} {ifs : List Expr} {scope : Scope} {pos pos' spos : Pos} {wi : TI} {g : TG} {tif : TT} {te : TE} (hN : X.N.Nodup) (hx : X.N[i]? = some x) (hl : Loc X.env.scope x) (tn : List Str) (cp : T6) (O : CompOk X scope cp) (hc : X.calm = true) (hi : PI X tg iter wi)
  (hg : ∀ cl C s H fp, PG (cxB X scope tn cp cl C s H fp) tg g) (hif : ∀ cl C s H fp, PIfs (cxB X scope tn cp cl C s H fp) ifs tif) (he : ∀ cl C s H fp, PE (cxB X scope tn cp cl C s H fp) elt te)
  (hsw : swapsWith (.ListComp elt [⟨tg, iter, ifs, 0⟩] scope pos) (some (.Name x pos')) spos.line X.env = pure true := by rfl) (hs : ∀ x, foldedSetIterable iter X.env x = pure x := by intro _; rfl)
  (hf : X.fn x = true ∨ X.env.scope.names.lookup x = some .local := by first | exact .inl rfl | exact .inr rfl | assumption) :
  PS X (.Assign [.Name x pos'] (.ListComp elt [⟨tg, iter, ifs, 0⟩] scope pos) spos) (tAsg (tComp tn cp wi g tif te) (gName i)) := by
 intro pins s σ H D I h
 rw [exec_Assign_Name_used _ _ _ _ hsw]
 refine wpAny_bind (wpAny_standAt (wpAny_bind ?_))
 show wpAny _ X.A (do let _ ← comprehension (.ListComp elt [⟨tg, iter, ifs, 0⟩] scope pos) scope X.env _ (newList []) false (eval iter X.env) (some (assign (.Name x pos') X.env))) _ _ s
 refine wpAny_bind (wpAny_mono (zf2 tn cp O hc hi hg hif he hs (R := fun _ s' => SP X pins D .next s') I h fun E C H5 s5 m I5 f5 n5 q5 => ?_) (fun _ _ q => wpAny_pure (wpAny_pure q)) fun _ _ e => e)
 obtain ⟨f0, f1, f2, f3, f4, f5⟩ := f5
 show wpAny _ X.A (assign (.Name x pos') X.env (.ref E)) _ _ _
 refine wpAny_assign_Name (zg8 I5 hN hx hl (v := .ref E) rfl (fun s6 I6 ⟨a, sb, ha⟩ => ?_) hf)
 have ne : C ≠ a := by
  rcases ha with e | e
  ·rw [e]; exact f1
  ·exact fun z => f4 x a e z.symm
 refine ⟨m, n5.sameBut sb ne, fun h' hs' => ⟨_, H5, I6.turned (t' := s6.toks) (fun b o hb e => (hs'.2 b hb).trans e) f0 f1 f3 f4 f5, q5⟩⟩
def Its (z : Str) : It := ⟨fun i _ => i < z.cps.size, fun i H x H' => H' = H ∧ ∃ c, z.cps[i]? = some c ∧ x = .str ⟨#[c]⟩, fun i _ => z.cps.size ≤ i⟩
theorem zj3 {P : Program} {w : World} {K : Frag} {tg : Expr} (z : Str) (t : Tok) (it : Addr) (ty : String) (hty : ty = "str_ascii_iterator" ∨ ty = "str_iterator") :
  Turn P w K tg (Its z) [it] it (fun i h => h.IsStrIter it ty z t i) where
 mem := by simp
 obj := fun i h st b hb => by
  have e : b = it := by simpa using hb
  subst e
  obtain ⟨o, e, c, d⟩ := st
  exact ⟨o, e, fun v z => by rw [d] at z; cases z⟩
 keep := fun i h h' st k => by
  obtain ⟨o, e, r⟩ := st
  exact ⟨o, k it (by simp) o e, r⟩
 item := by
  ac_rfl
  subst hP hw hK
  obtain ⟨f0, f1, f2, f3, f4, f5⟩ := hf it (by simp)
  have hi : i < z.cps.size := hg
  have hx : z.cps[i]? = some z.cps[i] := by simp [hi]
  have nn : (["enumerate", "zip", "dict_itemiterator", "dict_reverseitemiterator", "odict_iterator", "itertools.zip_longest", "itertools.pairwise"].contains ty) = false := by
   rcases hty with e | e <;> (rw [e]; decide)
  have fin : ∀ h', h'.IsStrIter it ty z t (i + 1) → Heap.SameBut it s.heap h' → ∃ u, some (Value.str ⟨#[z.cps[i]]⟩ s.toks) = some u ∧
    wpAny (model X.prog X.w) X.A (letOwnedTupleGo tg (.ref it) u) (fun _ s2 => ∃ x H', Inv X pins σ H' s2 ∧ RelV x u ∧ (Its z).yld i H x H' ∧ s2.heap.IsStrIter it ty z t (i + 1) ∧ ∀ b ∈ [it], H' b = none) E { s with heap := h', toks := s.toks + 1 } := fun h' st' sb => by
   have I1 : Inv X pins σ H { s with heap := h', toks := s.toks + 1 } := I.turned (t' := s.toks + 1) (fun b o hb e => (sb.2 b hb).trans e) f0 f1 f3 f4 f5
   obtain ⟨o, e, c, d⟩ := id st'
   exact ⟨_, rfl, zrc (s := { s with heap := h', toks := s.toks + 1 }) e c d nn ⟨.str ⟨#[z.cps[i]]⟩, H, I1, ⟨_, rfl⟩, ⟨rfl, _, hx, rfl⟩, st', fun b hb => (hf b hb).1⟩⟩
  rcases hty with e | e
  ·subst e; exact wpAny_pyNext_ascii_item st hx fin
  ·subst e; exact wpAny_pyNext_wide_item st hx fin
 done := by
  ac_rfl
  subst hP hw hK
  obtain ⟨f0, f1, f2, f3, f4, f5⟩ := hf it (by simp)
  have hi : z.cps.size ≤ i := hg
  have hx : z.cps[i]? = none := by simp [hi]
  rcases hty with e | e
  ·subst e; exact wpAny_pyNext_ascii_end (I.ok.hd hc) st hx fun h' eb => ⟨rfl, I.turned (t' := s.toks) (fun b o hb e => eb b o hb e) f0 f1 f3 f4 f5⟩
  ·subst e; exact wpAny_pyNext_wide_end (I.ok.hd hc) st hx fun h' eb => ⟨rfl, I.turned (t' := s.toks) (fun b o hb e => eb b o hb e) f0 f1 f3 f4 f5⟩
 self := by
  intro A i s Q E st h
  rcases hty with e | e
  ·subst e; exact wpAny_pyIter_striter_ascii st h
  ·subst e; exact wpAny_pyIter_striter_wide st h
def iStr (tl : TE) : TI := fun σ H R => tl σ H fun x H1 => ∃ z, x = .str z ∧ R (Its z) H1
theorem pi_str {X : Cx} {tg l : Expr} {tl : TE} (hl : PE X l tl) : PI X tg l (iStr tl) := by
 intro pins s σ H R I h
 refine thn (hl pins s σ H _ I h) fun v s1 ⟨x, H1, I1, r1, q1⟩ => ?_
 obtain ⟨z, e, q⟩ := q1
 subst e
 obtain ⟨t, rfl⟩ := r1
 have fo : ∀ b ∈ [s1.heap.objs.size], FpOk X pins H1 b := fun b hb => by
  have e : b = s1.heap.objs.size := by simpa using hb
  subst e
  exact I1.fpOk (y06 _) (I1.hok.fresh (y06 _))
 cases ha : z.cps.all (· < 128)
 ·exact wpAny_pyIter_wide ha ⟨s1.heap.objs.size, [s1.heap.objs.size], _, _, H1, rfl, I1.kept (t' := s1.toks) fun b o e => y03 _ e, zj3 z t _ "str_iterator" (.inr rfl), ⟨_, y0e _ rfl, rfl, rfl⟩, fo, q⟩
 ·exact wpAny_pyIter_ascii ha ⟨s1.heap.objs.size, [s1.heap.objs.size], _, _, H1, rfl, I1.kept (t' := s1.toks) fun b o e => y03 _ e, zj3 z t _ "str_ascii_iterator" (.inl rfl), ⟨_, y0e _ rfl, rfl, rfl⟩, fo, q⟩
def rSlS : V → Option Int → Option Int → Hp → VK → Prop := fun x lo hi H Q => ∃ z, x = .str z ∧ z.length ≤ sizeLine ∧ Q (.str (Txt.slice z lo hi)) H
theorem sl_str {X : Cx} : SlR X rSlS := by
 intro pins s σ H x v vl vu lo hi sl Q I rx hs pl pu h
 obtain ⟨z, rfl, hz, q⟩ := h
 obtain ⟨t, rfl⟩ := rx
 refine ⟨"str", _, F.slot_str_getitem.lookup, typeIs_str _ _ _, ?_⟩
 have go : ∀ (l u : Option (Int × Tok)), vl = partValue l → vu = partValue u → lo = l.map (·.1) → hi = u.map (·.1) → wpAny (model X.prog X.w) X.A (getItem (.str z t) (.ref sl)) (EP X pins σ Q) X.xe s := by
  rintro l u rfl rfl rfl rfl
  refine wpAny_getItem_str_slice (l := l) (u := u) (st := none) ?_ rfl ?_
  ·obtain ⟨o, e, c, d⟩ := hs
   exact ⟨o, e, c, d⟩
  ·exact post_val_or_str ⟨y10 (Txt.slice_le z _ _) hz, fun t' k => ⟨.str _, H, I.tok _, ⟨_, rfl⟩, q⟩⟩
 cases pl with
 | none =>
  cases pu with
  | none => exact go none none rfl rfl rfl rfl
  | int j u => exact go none (some (j, u)) rfl rfl rfl rfl
 | int i t' =>
  cases pu with
  | none => exact go (some (i, t')) none rfl rfl rfl rfl
  | int j u => exact go (some (i, t')) (some (j, u)) rfl rfl rfl rfl
theorem zjs {X : Cx} : CallR X (.builtin "isinstance") (fun xs H Q => ∃ x T t b, xs = [x, .ty T] ∧ TyOf X.K H x t ∧ PySem.W.kitOne X.K t (.type T) = some b ∧ Q (.bl b) H) := by
 intro pins s σ H xs us Q I r h
 obtain ⟨x, T, t, b, rfl, ty, e, q⟩ := h
 obtain ⟨u, w', rfl, rx, ry⟩ := vals2 r
 cases (show w' = Value.type T from ry)
 exact zof I rx ty e fun tk => ⟨.bl b, H, I.tok _, rfl, q⟩
section
open PyProof.Rows.LSm
theorem zrr {bs : List Bool} : ∀ {us : List Value}, Vals (bs.map V.bl) us → BoolsAre us bs := by
 induction bs with
 | nil => intro us r; rw [y30] at r; cases r; exact .nil
 | cons b bs ih =>
  intro us r
  rw [y0k] at r
  cases r with
  | cons r1 r2 =>
   cases (show _ = Value.bool b from r1)
   exact .cons b (ih r2)
theorem zjt {X : Cx} (hc : X.calm = true) : CallR X (.builtin "all") (fun xs H Q => ∃ (p : Addr) (bs : List Bool), xs = [.ref p] ∧ SqL X.K H p (bs.map V.bl) ∧ Q (.bl (bs.all id)) H) := by
 intro pins s σ H xs us Q I r h
 obtain ⟨p, bs, rfl, hx, q⟩ := h
 obtain ⟨u, rfl, rx⟩ := vals1 r
 cases (show u = Value.ref p from rx)
 obtain ⟨vs, rv, pl, hz⟩ := I.list hx
 have hl := pl.isList
 have hb := zrr rv
 have hlt : p < s.heap.objs.size := by obtain ⟨_, e, _⟩ := hl; exact y0d e
 refine call_all_walk (wpAny_pyIter_list hl ?_)
 refine ⟨s.heap.objs.size, [s.heap.objs.size, p], [s.heap.objs.size], vs.toArray.size, _, _, fun i => (bs[i]?).getD true, rfl, Walks.list (A := X.A.in1) (I.ok.hd hc) _ p (y0l hlt) vs.toArray,
  ⟨⟨_, y0e _ rfl, rfl, rfl⟩, hl.push _⟩, fun i v s' Q' E' hP hQ => ?_, fun h' tk hk => ?_⟩
 ·obtain ⟨b, e, rfl⟩ := hb.get i v (by simpa using hP)
  simp only [e, y0u] at hQ
  exact wpAny_truthy_bool hQ
 ·have e : ((List.range vs.toArray.size).all fun i => (bs[i]?).getD true) = bs.all id := by
   rw [y07, hb.length]; exact range_all bs
  rw [e]
  exact ⟨.bl _, H, I.kept (kept_iter hk), rfl, q⟩
theorem zic {X : Cx} (hc : X.calm = true) : CallR X (.builtin "sum") (fun xs H Q => ∃ (p : Addr) (ns : List Int), xs = [.ref p] ∧ SqL X.K H p (ns.map V.int) ∧ Q (.int ns.sum) H) := by
 intro pins s σ H xs us Q I r h
 obtain ⟨p, ns, rfl, hx, q⟩ := h
 obtain ⟨u, rfl, rx⟩ := vals1 r
 cases (show u = Value.ref p from rx)
 obtain ⟨vs, rv, pl, hz⟩ := I.list hx
 have hi := zdp rv
 obtain ⟨ys, hy⟩ := hi.allInts.items
 have hl' : s.heap.IsList p (intItems ys) := hy ▸ pl.isList
 refine sum_intListG (I.ok.hd hc) hl' fun h' tk t' hk => ?_
 have e1 : ns = ys.toList.map (·.1) := by
  rw [← nums_intItems, ← hy]
  exact (show numsOf vs.toArray.toList = ns from hi.numsOf).symm
 have e2 : preSum (numAt ys) ys.size = ns.sum := by
  rw [preSum_eq, y0n (by simp), e1]
 rw [e2]
 exact ⟨.int _, H, I.kept hk, ⟨_, rfl⟩, q⟩
end
def EqOk (X : Cx) (k : Nat) (H : Hp) (x y : V) (b : Bool) : Prop := ∀ (pins : T2) (σ : St) (s : Shared) (A : Around) (u v : Value), A.units + k < cLine → Inv X pins σ H s → RelV x u → RelV y v → SeqAt.EqAt A s u v b
def RcOk (X : Cx) (k : Nat) (H : Hp) (x y : V) (b : Bool) : Prop := ∀ (pins : T2) (σ : St) (s : Shared) (A : Around) (u v : Value), A.units + k < cLine → Inv X pins σ H s → RelV x u → RelV y v → SeqAt.RcAt A s u v b
section
variable {X : Cx} {k : Nat} {H : Hp} {x y : V} {a b : Addr} {xs ys : List V}
theorem zb2 (fx : flatV x = true) (fy : flatV y = true) : EqOk X k H x y (eqV x y) := fun _ _ _ _ _ _ _ _ rx ry => zk5 rx ry fx fy
theorem zos : EqOk X k H (.ref a) (.ref a) true := fun _ _ _ _ u v _ _ rx ry => by
 cases (show u = Value.ref a from rx)
 cases (show v = Value.ref a from ry)
 exact SeqAt.EqAt.same _
theorem EqOk.of_rc (hne : a ≠ b) {c : Bool} (h : RcOk X k H (.ref a) (.ref b) c) : EqOk X k H (.ref a) (.ref b) c := fun pins σ s A u v hu I rx ry => by
 cases (show u = Value.ref a from rx)
 cases (show v = Value.ref b from ry)
 exact SeqAt.EqAt.of_refs hne (h pins σ s A _ _ hu I rfl rfl)
theorem Vals.at {xs : List V} {us : List Value} (r : Vals xs us) {j : Nat} (h : j < us.length) : ∃ (h' : j < xs.length), RelV xs[j] us[j] := by
 have hl := r.length
 have h' : j < xs.length := by omega
 obtain ⟨u, e, q⟩ := r.get (i := j) (x := xs[j]) (by simp [h'])
 rw [y00 h] at e
 cases e
 exact ⟨h', q⟩
theorem zfr (hx : SqL X.K H a xs) (hy : SqL X.K H b ys) (hl : xs.length = ys.length) (e : Nat → Bool) (he : ∀ j (h1 : j < xs.length) (h2 : j < ys.length), EqOk X k H xs[j] ys[j] (e j)) :
  RcOk X (k + 1) H (.ref a) (.ref b) ((List.range xs.length).all e) := fun pins σ s A u v hu I rx ry => by
 cases (show u = Value.ref a from rx)
 cases (show v = Value.ref b from ry)
 obtain ⟨us, r1, p1, _⟩ := I.list hx
 obtain ⟨vs, r2, p2, _⟩ := I.list hy
 have l1 := r1.length
 have l2 := r2.length
 have q := SeqAt.RcAt.lists (A := A) (e := e) p1.isList p2.isList (by rw [y07, y07]; omega) (by omega) fun j h1 h2 => by
  rw [y07] at h1 h2
  obtain ⟨g1, q1⟩ := r1.at h1
  obtain ⟨g2, q2⟩ := r2.at h2
  exact he j g1 g2 pins σ s A.in1 _ _ (by show A.units + 1 + k < cLine; omega) I (by simpa using q1) (by simpa using q2)
 rw [y07, ← l1] at q
 exact q
theorem zhp (hx : SqL X.K H a xs) (hy : SqL X.K H b ys) (hl : xs.length ≠ ys.length) : RcOk X k H (.ref a) (.ref b) false := fun pins σ s A u v hu I rx ry => by
 cases (show u = Value.ref a from rx)
 cases (show v = Value.ref b from ry)
 obtain ⟨us, r1, p1, _⟩ := I.list hx
 obtain ⟨vs, r2, p2, _⟩ := I.list hy
 have l1 := r1.length
 have l2 := r2.length
 exact SeqAt.RcAt.lists_lengths p1.isList p2.isList (by rw [y07, y07]; simp; omega) (by omega)
theorem zcz (hx : SqT X.K H a xs) (hy : SqT X.K H b ys) (e : Nat → Bool) (he : ∀ j (h1 : j < xs.length) (h2 : j < ys.length), EqOk X k H xs[j] ys[j] (e j)) :
  RcOk X (k + 1) H (.ref a) (.ref b) ((List.range (min xs.length ys.length)).all e && xs.length == ys.length) := fun pins σ s A u v hu I rx ry => by
 cases (show u = Value.ref a from rx)
 cases (show v = Value.ref b from ry)
 obtain ⟨us, r1, p1, _⟩ := I.tuple hx
 obtain ⟨vs, r2, p2, _⟩ := I.tuple hy
 have l1 := r1.length
 have l2 := r2.length
 have q := SeqAt.RcAt.tuples (A := A) (e := e) p1 p2 (by omega) fun j h1 h2 => by
  rw [y07] at h1 h2
  obtain ⟨g1, q1⟩ := r1.at h1
  obtain ⟨g2, q2⟩ := r2.at h2
  exact he j g1 g2 pins σ s A.in1 _ _ (by show A.units + 1 + k < cLine; omega) I (by simpa using q1) (by simpa using q2)
 rw [y07, y07, ← l1, ← l2] at q
 exact q
theorem zln (hx : SqL X.K H a xs) (hy : SqL X.K H b ys) (fx : xs.all flatV = true) (fy : ys.all flatV = true) :
  RcOk X 1 H (.ref a) (.ref b) (xs.length == ys.length && (List.range xs.length).all fun j => eqV (xs.getD j .non) (ys.getD j .non)) := by
 by_cases hl : xs.length = ys.length
 ·have q := zfr (k := 0) hx hy hl (fun j => eqV (xs.getD j .non) (ys.getD j .non)) fun j h1 h2 => by
   have e1 : xs.getD j .non = xs[j] := by simp [List.getD, h1]
   have e2 : ys.getD j .non = ys[j] := by simp [List.getD, h2]
   rw [e1, e2]
   exact zb2 (y0p.mp fx _ (y0g h1)) (y0p.mp fy _ (y0g h2))
  rw [show (xs.length == ys.length) = true by simp [hl], y1a]
  exact q
 ·rw [show (xs.length == ys.length) = false by simp [hl], y1k]
  exact zhp hx hy hl
end
def rEqD (X : Cx) (k : Nat) : R2 := fun x y H Q => ∃ c, RcOk X k H x y c ∧ Q (.bl c) H
theorem zr1 {X : Cx} {k : Nat} (hu : X.A.units + k < cLine) : OpR X (compareOp .Eq) (rEqD X k) := by
 infer_instance
 obtain ⟨c, r, q⟩ := h
 exact r pins σ s X.A v u hu I rx ry _ _ _ _ ⟨.bl c, H, I, rfl, q⟩
def CW (D : Addr) (n : Nat) (Pv : Nat → List V → St → Hp → Prop) (i m : Nat) (σ : St) (H : Hp) : Prop := m = n - i ∧ i ≤ n ∧ ∃ ys, H D = some (.lst ys) ∧ ys.length ≤ i ∧ Pv i ys σ H
def CStep (D : Addr) (n i : Nat) (Pv : Nat → List V → St → Hp → Prop) (σ2 : St) (y : V) (H4 : Hp) : Prop :=
 ∃ ys, H4 D = some (.lst ys) ∧ ys.length < sizeLine ∧ ∃ m', m' < n - i ∧ CW D n Pv (i + 1) m' σ2 (upd H4 D (.lst (ys ++ [y])))
def CSkip (D : Addr) (n i : Nat) (Pv : Nat → List V → St → Hp → Prop) (σ2 : St) (H3 : Hp) : Prop := ∃ m', m' < n - i ∧ CW D n Pv (i + 1) m' σ2 H3
section
variable {D : Addr} {Q : VK} {g : TG} {tif : TT} {te : TE} {σ0 : St} {H1 : Hp} {n i : Nat} {Pv : Nat → List V → St → Hp → Prop}
theorem cstep {ys : List V} {y : V} {σ2 : St} {H4 : Hp} (hn : n ≤ sizeLine) (hi : i < n) (hD : H4 D = some (.lst ys)) (hl : ys.length ≤ i) (h : Pv (i + 1) (ys ++ [y]) σ2 (upd H4 D (.lst (ys ++ [y])))) : CStep D n i Pv σ2 y H4 :=
 ⟨ys, hD, by omega, n - (i + 1), by omega, rfl, hi, ys ++ [y], zar, by rw [y0j, y19]; omega, h⟩
theorem cskip {ys : List V} {σ2 : St} {H3 : Hp} (hi : i < n) (hD : H3 D = some (.lst ys)) (hl : ys.length ≤ i) (h : Pv (i + 1) ys σ2 H3) : CSkip D n i Pv σ2 H3 :=
 ⟨n - (i + 1), by omega, rfl, hi, ys, hD, by omega, h⟩
theorem zjk {J : It} (Pv : Nat → List V → St → Hp → Prop) (hn : n ≤ sizeLine) (h0 : Pv 0 [] σ0 (upd H1 D (.lst [])))
  (hgo : ∀ i ys σ H, i < n → H D = some (.lst ys) → Pv i ys σ H → J.go i H) (hstop : ∀ ys σ H, H D = some (.lst ys) → Pv n ys σ H → J.stop n H)
  (hs : ∀ i ys σ H, i < n → H D = some (.lst ys) → ys.length ≤ i → Pv i ys σ H → ∀ x H', J.yld i H x H' → g x σ H' fun σ2 H2 => tif σ2 H2 fun c H3 =>
   if c = true then te σ2 H3 fun y H4 => CStep D n i Pv σ2 y H4 else CSkip D n i Pv σ2 H3)
  (hd : ∀ ys σ H, H D = some (.lst ys) → ys.length ≤ n → Pv n ys σ H → Q (.ref D) H) :
  ∃ W : Nat → Nat → St → Hp → Prop, (∃ m, W 0 m σ0 (upd H1 D (.lst []))) ∧ ∀ i m σb Hb, W i m σb Hb →
   (J.stop i Hb ∧ Q (.ref D) Hb) ∨ (J.go i Hb ∧ ∀ x H', J.yld i Hb x H' → g x σb H' fun σ2 H2 => tif σ2 H2 fun c H3 =>
    if c = true then te σ2 H3 fun y H4 => ∃ ys, H4 D = some (.lst ys) ∧ ys.length < sizeLine ∧ ∃ m', m' < m ∧ W (i + 1) m' σ2 (upd H4 D (.lst (ys ++ [y])))
    else ∃ m', m' < m ∧ W (i + 1) m' σ2 H3) := by
 refine ⟨CW D n Pv, ⟨n, by omega, y1b _, [], zar, y06 _, h0⟩, ?_⟩
 rintro i m σ H ⟨rfl, hi, ys, hD, hl, p⟩
 by_cases hlt : i < n
 ·exact .inr ⟨hgo i ys σ H hlt hD p, hs i ys σ H hlt hD hl p⟩
 ·have e : i = n := by omega
  subst e
  exact .inl ⟨hstop ys σ H hD p, hd ys σ H hD hl p⟩
theorem zrn {z : Str} (Pv : Nat → List V → St → Hp → Prop) (hn : z.cps.size ≤ sizeLine) (h0 : Pv 0 [] σ0 (upd H1 D (.lst [])))
  (hs : ∀ i ys σ H c, i < z.cps.size → z.cps[i]? = some c → H D = some (.lst ys) → ys.length ≤ i → Pv i ys σ H → g (.str ⟨#[c]⟩) σ H fun σ2 H2 => tif σ2 H2 fun c H3 =>
   if c = true then te σ2 H3 fun y H4 => CStep D z.cps.size i Pv σ2 y H4 else CSkip D z.cps.size i Pv σ2 H3)
  (hd : ∀ ys σ H, H D = some (.lst ys) → ys.length ≤ z.cps.size → Pv z.cps.size ys σ H → Q (.ref D) H) :
  ∃ W : Nat → Nat → St → Hp → Prop, (∃ m, W 0 m σ0 (upd H1 D (.lst []))) ∧ ∀ i m σb Hb, W i m σb Hb →
   ((Its z).stop i Hb ∧ Q (.ref D) Hb) ∨ ((Its z).go i Hb ∧ ∀ x H', (Its z).yld i Hb x H' → g x σb H' fun σ2 H2 => tif σ2 H2 fun c H3 =>
    if c = true then te σ2 H3 fun y H4 => ∃ ys, H4 D = some (.lst ys) ∧ ys.length < sizeLine ∧ ∃ m', m' < m ∧ W (i + 1) m' σ2 (upd H4 D (.lst (ys ++ [y])))
    else ∃ m', m' < m ∧ W (i + 1) m' σ2 H3) :=
 zjk Pv hn h0 (fun i _ _ _ hi _ _ => hi) (fun _ _ _ _ _ => y06 _) (fun i ys σ H hi hD hl p x H' y => by
  obtain ⟨e, c, hc, ex⟩ := y
  subst e ex
  exact hs i ys σ _ c hi hc hD hl p) hd
theorem zo6 {K : Frag} {a : Addr} {xs : List V} (Pv : Nat → List V → St → Hp → Prop) (hn : xs.length ≤ sizeLine) (h0 : Pv 0 [] σ0 (upd H1 D (.lst [])))
  (hl : ∀ i ys σ H, i ≤ xs.length → H D = some (.lst ys) → Pv i ys σ H → SqL K H a xs)
  (hs : ∀ i ys σ H x, i < xs.length → xs[i]? = some x → H D = some (.lst ys) → ys.length ≤ i → Pv i ys σ H → g x σ H fun σ2 H2 => tif σ2 H2 fun c H3 =>
   if c = true then te σ2 H3 fun y H4 => CStep D xs.length i Pv σ2 y H4 else CSkip D xs.length i Pv σ2 H3)
  (hd : ∀ ys σ H, H D = some (.lst ys) → ys.length ≤ xs.length → Pv xs.length ys σ H → Q (.ref D) H) :
  ∃ W : Nat → Nat → St → Hp → Prop, (∃ m, W 0 m σ0 (upd H1 D (.lst []))) ∧ ∀ i m σb Hb, W i m σb Hb →
   ((Itl K a).stop i Hb ∧ Q (.ref D) Hb) ∨ ((Itl K a).go i Hb ∧ ∀ x H', (Itl K a).yld i Hb x H' → g x σb H' fun σ2 H2 => tif σ2 H2 fun c H3 =>
    if c = true then te σ2 H3 fun y H4 => ∃ ys, H4 D = some (.lst ys) ∧ ys.length < sizeLine ∧ ∃ m', m' < m ∧ W (i + 1) m' σ2 (upd H4 D (.lst (ys ++ [y])))
    else ∃ m', m' < m ∧ W (i + 1) m' σ2 H3) :=
 zjk Pv hn h0 (fun i ys σ H hi hD p => ⟨xs, xs[i], hl i ys σ H (y1t hi) hD p, by simp [hi]⟩) (fun ys σ H hD p => ⟨xs, hl _ ys σ H (y06 _) hD p, y06 _⟩) (fun i ys σ H hi hD hl' p x H' y => by
  obtain ⟨e, y⟩ := y
  subst e
  exact hs i ys σ _ x hi (y xs (hl i ys σ _ (y1t hi) hD p)) hD hl' p) hd
end
section
variable {κ : Type} [DecidableEq κ]
def valV (kvs : List (κ × V)) (k : κ) : Option V := (kvs.find? fun kv => decide (kv.1 = k)).map (·.2)
def putK (kvs : List (κ × V)) (k : κ) (v : V) : List (κ × V) :=
 if (kvs.any fun kv => decide (kv.1 = k)) = true then kvs.map (fun kv => if kv.1 = k then (kv.1, v) else kv) else kvs ++ [(k, v)]
theorem zj1 {k : κ} : valV ([] : List (κ × V)) k = none := rfl
theorem zba {p : κ × V} {r : List (κ × V)} {k : κ} (e : p.1 = k) : valV (p :: r) k = some p.2 := by simp [valV, y2e, e]
theorem zbb {p : κ × V} {r : List (κ × V)} {k : κ} (e : ¬ p.1 = k) : valV (p :: r) k = valV r k := by simp [valV, y2e, e]
theorem zcx (k : κ) : ∀ kvs : List (κ × V), (kvs.any fun kv => decide (kv.1 = k)) = (valV kvs k).isSome
 | [] => rfl
 | p :: r => by
  rw [y38]
  by_cases e : p.1 = k
  ·simp only [zba e, decide_eq_true e, y43, Option.isSome_some]
  ·rw [zbb e, decide_eq_false e, Bool.false_or]; exact zcx k r
theorem zj2 (k j : κ) (y : V) : ∀ kvs : List (κ × V), valV (kvs.map fun kv => if kv.1 = k then (kv.1, y) else kv) j = (valV kvs j).map fun x => if j = k then y else x
 | [] => rfl
 | p :: r => by
  have ih := zj2 k j y r
  rw [y0k]
  by_cases h : p.1 = k
  ·rw [if_pos h]
   by_cases e : p.1 = j
   ·rw [zba (p := (p.1, y)) e, zba e, y2c, if_pos (e.symm.trans h)]
   ·rw [zbb (p := (p.1, y)) e, zbb e, ih]
  ·rw [if_neg h]
   by_cases e : p.1 = j
   ·rw [zba (p := p) e, zba e, y2c, if_neg (fun z => h (e.trans z))]
   ·rw [zbb (p := p) e, zbb e, ih]
theorem zg5 (k j : κ) (y : V) : ∀ kvs : List (κ × V), valV kvs k = none → valV (kvs ++ [(k, y)]) j = if j = k then some y else valV kvs j
 | [], _ => by
  by_cases e : k = j
  ·rw [if_pos e.symm]; exact zba (p := (k, y)) e
  ·rw [if_neg (fun z => e z.symm)]; exact zbb (p := (k, y)) e
 | p :: r, hn => by
  rw [y3t]
  have hk : ¬ p.1 = k := fun z => by rw [zba z] at hn; cases hn
  rw [zbb hk] at hn
  have ih := zg5 k j y r hn
  by_cases e : p.1 = j
  ·rw [zba e, zba e, if_neg (fun z => hk (e.trans z))]
  ·rw [zbb e, zbb e, ih]
theorem zj0 (kvs : List (κ × V)) (k j : κ) (y : V) : valV (putK kvs k y) j = if j = k then some y else valV kvs j := by
 unfold putK
 by_cases a : (kvs.any fun kv => decide (kv.1 = k)) = true
 ·rw [if_pos a, zj2]
  rw [zcx] at a
  by_cases e : j = k
  ·obtain ⟨x, hx⟩ := y35.mp a
   rw [if_pos e, e, hx, y2c, if_pos rfl]
  ·rw [if_neg e]
   cases valV kvs j with
   | none => rfl
   | some x => rw [y2c, if_neg e]
 ·rw [if_neg a]
  refine zg5 k j y kvs ?_
  rw [zcx] at a
  cases q : valV kvs k with
  | none => rfl
  | some x => rw [q] at a; exact (a rfl).elim
theorem zcv (kvs : List (κ × V)) (k : κ) (v : V) : (putK kvs k v).length ≤ kvs.length + 1 := by
 unfold putK
 split
 ·rw [y01]; omega
 ·rw [y0j, y0i, y0v]; omega
theorem zki {kvs : List (κ × V)} {k : κ} (v : V) (h : valV kvs k = none) : putK kvs k v = kvs ++ [(k, v)] := by
 unfold putK
 rw [zcx, h]
 exact if_neg (by decide)
theorem RelO.isSome_eq {o : Option V} {u : Option Value} (r : RelO o u) : o.isSome = u.isSome := by
 cases o with
 | none => cases u with
  | none => rfl
  | some _ => exact (show False from r).elim
 | some _ => cases u with
  | none => exact (show False from r).elim
  | some _ => rfl
theorem KV.val {kvs : List (κ × V)} {vs : List (κ × Value)} (r : KV kvs vs) (k : κ) : RelO (valV kvs k) (valueAt vs k) := by
 unfold KV at r
 induction r with
 | nil => exact True.intro
 | @cons p q ps qs h t ih =>
  obtain ⟨h1, h2⟩ := h
  by_cases e : p.1 = k
  ·have e' : q.1 = k := h1.symm.trans e
   have b : valueAt (q :: qs) k = some q.2 := by simp [valueAt, y2e, e']
   rw [zba e, b]; exact h2
  ·have e' : ¬ q.1 = k := fun z => e (h1.trans z)
   have b : valueAt (q :: qs) k = valueAt qs k := by simp [valueAt, y2e, e']
   rw [zbb e, b]; exact ih
theorem KV.any {kvs : List (κ × V)} {vs : List (κ × Value)} (r : KV kvs vs) (k : κ) : (kvs.any fun kv => decide (kv.1 = k)) = vs.any fun kv => decide (kv.1 = k) := by
 unfold KV at r
 induction r with
 | nil => rfl
 | cons h t ih => rw [y38, y38, ih, h.1]
theorem KV.repl {kvs : List (κ × V)} {vs : List (κ × Value)} (r : KV kvs vs) (k : κ) {y : V} {u : Value} (ry : RelV y u) :
  KV (kvs.map fun kv => if kv.1 = k then (kv.1, y) else kv) (vs.map fun kv => if kv.1 = k then (kv.1, u) else kv) := by
 unfold KV at r ⊢
 induction r with
 | nil => exact .nil
 | @cons p q ps qs h t ih =>
  rw [y0k, y0k]
  refine .cons ?_ ih
  obtain ⟨h1, h2⟩ := h
  by_cases e : p.1 = k
  ·rw [if_pos e, if_pos (h1.symm.trans e)]; exact ⟨h1, ry⟩
  ·rw [if_neg e, if_neg (fun z => e (h1.trans z))]; exact ⟨h1, h2⟩
theorem KV.put {kvs : List (κ × V)} {vs : List (κ × Value)} (r : KV kvs vs) (k : κ) {y : V} {u : Value} (ry : RelV y u) : KV (putK kvs k y) (stored vs k u) := by
 unfold putK stored
 rw [r.any k]
 by_cases e : (vs.any fun kv => decide (kv.1 = k)) = true
 ·rw [if_pos e, if_pos e]; exact r.repl k ry
 ·rw [if_neg e, if_neg e]; exact Paired.snoc r ⟨rfl, ry⟩
theorem KV.length {kvs : List (κ × V)} {vs : List (κ × Value)} (r : KV kvs vs) : kvs.length = vs.length := Paired.length r
end
theorem zob {P : Program} {w : World} {k : Key} {u : Value} (r : RelV (kV k) u) : (mixKind P w).is k u = true := by
 cases k with
 | inl i => obtain ⟨t, e⟩ := (show ∃ t, u = Value.int i t from r); subst e; exact zjb P w i t
 | inr x => obtain ⟨t, e⟩ := (show ∃ t, u = Value.str x t from r); subst e; exact zja P w x t
theorem kV_inj {a b : Key} (e : kV a = kV b) : a = b := by
 cases a with
 | inl i => cases b with
  | inl j => have e' : V.int i = V.int j := e; injection e' with e'; rw [e']
  | inr y => exact nomatch (show V.int i = V.str y from e)
 | inr x => cases b with
  | inl j => exact nomatch (show V.str x = V.int j from e)
  | inr y => have e' : V.str x = V.str y := e; injection e' with e'; rw [e']
theorem zh2 {P : Program} {w : World} : ∀ {ks : List Key} {us : List Value}, Vals (ks.map kV) us → ItemsAre (mixKind P w) ks us
 | [], _, r => by rw [y30] at r; cases r; exact .nil
 | k :: ks, _, r => by
  rw [y0k] at r
  cases r with
  | cons h t => exact .cons (zob h) (zh2 t)
abbrev KT (H : Hp) : List (List Key × V) → List (List Key × Addr × Value) → Prop := Paired fun p q => p.1 = q.1 ∧ H q.2.1 = some (.tup (p.1.map kV)) ∧ RelV p.2 q.2.2
theorem KT.val {H : Hp} {kvs : List (List Key × V)} {xs : List (List Key × Addr × Value)} (r : KT H kvs xs) (k : List Key) : RelO (valV kvs k) ((atKey xs k).map (·.2)) := by
 induction r with
 | nil => exact True.intro
 | @cons p q ps qs h t ih =>
  obtain ⟨h1, _, h2⟩ := h
  by_cases e : p.1 = k
  ·have e' : q.1 = k := h1.symm.trans e
   have b : atKey (q :: qs) k = some q.2 := by simp [atKey, y2e, e']
   rw [zba e, b]; exact h2
  ·have e' : ¬ q.1 = k := fun z => e (h1.trans z)
   have b : atKey (q :: qs) k = atKey qs k := by simp [atKey, y2e, e']
   rw [zbb e, b]; exact ih
theorem KT.repl {H : Hp} {kvs : List (List Key × V)} {xs : List (List Key × Addr × Value)} (r : KT H kvs xs) (k : List Key) {y : V} {u : Value} (ry : RelV y u) :
  KT H (kvs.map fun kv => if kv.1 = k then (kv.1, y) else kv) (xs.map (putAt k u)) := by
 induction r with
 | nil => exact .nil
 | @cons p q ps qs h t ih =>
  rw [y0k, y0k]
  refine .cons ?_ ih
  obtain ⟨h1, h2, h3⟩ := h
  unfold putAt
  by_cases e : p.1 = k
  ·rw [if_pos e, if_pos (h1.symm.trans e)]; exact ⟨h1, h2, ry⟩
  ·rw [if_neg e, if_neg (fun z => e (h1.trans z))]; exact ⟨h1, h2, h3⟩
theorem KT.put {H : Hp} {kvs : List (List Key × V)} {xs : List (List Key × Addr × Value)} (r : KT H kvs xs) (k : List Key) {b : Addr} {y : V} {u : Value} (hb : H b = some (.tup (k.map kV))) (ry : RelV y u) :
  KT H (putK kvs k y) (storedH xs k b u) := by
 have e : (kvs.any fun kv => decide (kv.1 = k)) = (atKey xs k).isSome := by
  rw [zcx, (r.val k).isSome_eq, y3l]
 unfold putK storedH
 rw [e]
 by_cases q : (atKey xs k).isSome = true
 ·rw [if_pos q, if_pos q]; exact r.repl k ry
 ·rw [if_neg q, if_neg q]; exact Paired.snoc r ⟨rfl, hb, ry⟩
theorem KT.keeps {H H' : Hp} {kvs : List (List Key × V)} {xs : List (List Key × Addr × Value)} (r : KT H kvs xs) (ht : ∀ b ys, H b = some (.tup ys) → H' b = some (.tup ys)) : KT H' kvs xs :=
 Paired.mapP r fun _ _ z => ⟨z.1, ht _ _ z.2.1, z.2.2⟩
section
variable {P : Program} {w : World} {H : Hp} {h : Heap} {a : Addr}
theorem rd_of {u : HO} (ok : HOk P w H h) (e : Rd H a u) : ObjOk P w H h a u := e.ok ok
theorem zmf {kvs : List (Key × V)} (ok : HOk P w H h) (e : Rd H a (.dK kvs)) : kvs.length ≤ sizeLine ∧ (a == sysModules) = false ∧ ∃ vs, KV kvs vs ∧ h.DictOf (mixKind P w) a vs :=
 show ObjOk P w H h a (.dK kvs) from rd_of ok e
theorem dk_of {kvs : List (Key × V)} (ok : HOk P w H h) (e : H a = some (.dK kvs)) : kvs.length ≤ sizeLine ∧ (a == sysModules) = false ∧ ∃ vs, KV kvs vs ∧ h.DictOf (mixKind P w) a vs := zmf ok (.inl e)
theorem zf3 {ks : List Key} (ok : HOk P w H h) (e : H a = some (.tup (ks.map kV))) : (tupleKind (mixKind P w)).is h ks a := by
 obtain ⟨_, its, r, o, h1, h2, n, h3⟩ := (show ObjOk P w H h a (.tup (ks.map kV)) from ok a _ e)
 exact ⟨o, its.toArray, n, h1, h2, h3, by simpa using zh2 r⟩
theorem zou {kvs : List (List Key × V)} (ok : HOk P w H h) (e : Rd H a (.dT kvs)) : kvs.length ≤ sizeLine ∧ (a == sysModules) = false ∧
  ∃ xs, KT H kvs xs ∧ h.DictOfH (tupleKind (mixKind P w)) a xs := by
 obtain ⟨z, y, xs, r, o, es, ep, h1, h2, h3, h4, h5⟩ := (show ObjOk P w H h a (.dT kvs) from rd_of ok e)
 refine ⟨z, y, xs, r, o, es, ep, h1, h2, h3, h4, fun x hx => ?_, h5⟩
 have all : ∀ {l : List (List Key × V)} {m : List (List Key × Addr × Value)}, KT H l m → ∀ x ∈ m, (tupleKind (mixKind P w)).is h x.1 x.2.1 := by
  intro l m q
  induction q with
  | nil => intro x hx; exact nomatch hx
  | @cons p q ps qs hq t ih =>
   intro x hx
   rcases y05.mp hx with e | hx
   ·subst e
    exact zf3 ok (by rw [← hq.1]; exact hq.2.1)
   ·exact ih x hx
 exact all r x hx
theorem dt_of {kvs : List (List Key × V)} (ok : HOk P w H h) (e : H a = some (.dT kvs)) : kvs.length ≤ sizeLine ∧ (a == sysModules) = false ∧
  ∃ xs, KT H kvs xs ∧ h.DictOfH (tupleKind (mixKind P w)) a xs := zou ok (.inl e)
end
def KeyV (k : Key) (y : V) : Prop := y = kV k ∨ ∃ b, y = .bl b ∧ k = .inl (blI b)
theorem KeyV.is {P : Program} {w : World} {k : Key} {y : V} {u : Value} (h : KeyV k y) (r : RelV y u) : (mixKind P w).is k u = true := by
 rcases h with rfl | ⟨b, rfl, rfl⟩
 ·exact zob r
 ·cases (show u = Value.bool b from r)
  exact zq6 b
def DGet (H : Hp) (a : Addr) (y : V) (r : Option V) : Prop :=
 (∃ kvs k, Rd H a (.dK kvs) ∧ KeyV k y ∧ r = valV kvs k) ∨ ∃ kvs k b, Rd H a (.dT kvs) ∧ y = .ref b ∧ H b = some (.tup (k.map kV)) ∧ r = valV kvs k
def DPut (H : Hp) (a : Addr) (y v : V) (H' : Hp) : Prop :=
 (∃ kvs k, H a = some (.dK kvs) ∧ KeyV k y ∧ kvs.length < sizeLine ∧ H' = upd H a (.dK (putK kvs k v))) ∨
 ∃ kvs k b, H a = some (.dT kvs) ∧ y = .ref b ∧ H b = some (.tup (k.map kV)) ∧ kvs.length < sizeLine ∧ H' = upd H a (.dT (putK kvs k v))
theorem DGet.k {H : Hp} {a : Addr} {kvs : List (Key × V)} {k : Key} (e : H a = some (.dK kvs)) : DGet H a (kV k) (valV kvs k) := .inl ⟨kvs, k, .inl e, .inl rfl, rfl⟩
theorem DGet.t {H : Hp} {a b : Addr} {kvs : List (List Key × V)} {k : List Key} (e : H a = some (.dT kvs)) (eb : H b = some (.tup (k.map kV))) : DGet H a (.ref b) (valV kvs k) := .inr ⟨kvs, k, b, .inl e, rfl, eb, rfl⟩
theorem DPut.k {H : Hp} {a : Addr} {kvs : List (Key × V)} {k : Key} {v : V} (e : H a = some (.dK kvs)) (hl : kvs.length < sizeLine) : DPut H a (kV k) v (upd H a (.dK (putK kvs k v))) := .inl ⟨kvs, k, e, .inl rfl, hl, rfl⟩
theorem DPut.t {H : Hp} {a b : Addr} {kvs : List (List Key × V)} {k : List Key} {v : V} (e : H a = some (.dT kvs)) (eb : H b = some (.tup (k.map kV))) (hl : kvs.length < sizeLine) :
  DPut H a (.ref b) v (upd H a (.dT (putK kvs k v))) := .inr ⟨kvs, k, b, e, rfl, eb, hl, rfl⟩
section
variable {X : Cx} {pins : T2} {σ : St} {H : Hp} {s : Shared} {a : Addr} {y v : V} {u r : Value} {o : Option V} {A : Around} {E : T0}
theorem Inv.big (I : Inv X pins σ H s) : sysModules < s.heap.objs.size := by
 have h : mainGlobals < s.heap.objs.size := (I.mod.glob.keeps I.bk).lt
 exact y3e (by decide) h
theorem zo1 {Q : T0} (hu : A.units + 1 < cLine) (I : Inv X pins σ H s) (g : DGet H a y (some v)) (ry : RelV y u) (h : ∀ w' s', Inv X pins σ H s' → RelV v w' → Q w' s') :
  wpAny (model X.prog X.w) A (getItem (.ref a) u) Q E s := by
 rcases g with ⟨kvs, k, e, ey, l⟩ | ⟨kvs, k, b, e, ey, eb, l⟩
 ·obtain ⟨z, hd, vs, rel, dd⟩ := zmf I.hok e
  obtain ⟨w', hw, rw'⟩ := RelO.some_of (v := v) (o := valueAt vs k) (by rw [l]; exact rel.val k)
  exact wpAny_getItem_of (ey.is ry) dd.mapOf hw (h w' _ (I.tok _) rw')
 ·subst ey
  cases (show u = Value.ref b from ry)
  obtain ⟨z, hd, xs, rel, dd⟩ := zou I.hok e
  obtain ⟨w', hw, rw'⟩ := RelO.some_of (v := v) (o := (atKey xs k).map (·.2)) (by rw [l]; exact rel.val k)
  obtain ⟨p, hp, hp2⟩ := y14.mp hw
  refine wpAny_getItem_heap (tupleKind_room_in1 hu) (zf3 I.hok eb) dd hp ?_
  rw [hp2]
  exact h w' _ (I.tok _) rw'
theorem d_in {Q : T0} (hu : A.units + 1 < cLine) (I : Inv X pins σ H s) (g : DGet H a y o) (ry : RelV y u) (h : ∀ s', Inv X pins σ H s' → Q (.bool o.isSome) s') :
  wpAny (model X.prog X.w) A (compareOp .In u (.ref a)) Q E s := by
 rcases g with ⟨kvs, k, e, ey, l⟩ | ⟨kvs, k, b, e, ey, eb, l⟩
 ·obtain ⟨z, hd, vs, rel, dd⟩ := zmf I.hok e
  refine wpAny_in_of (ey.is ry) hd dd.mapOf ?_
  rw [← (rel.val k).isSome_eq, ← l]
  exact h _ (I.tok _)
 ·subst ey
  cases (show u = Value.ref b from ry)
  obtain ⟨z, hd, xs, rel, dd⟩ := zou I.hok e
  refine wpAny_in_heap (tupleKind_room_in1 hu) (zf3 I.hok eb) hd dd ?_
  have q := (rel.val k).isSome_eq
  rw [y3l] at q
  rw [← q, ← l]
  exact h _ (I.tok _)
theorem d_notIn {Q : T0} (hu : A.units + 1 < cLine) (I : Inv X pins σ H s) (g : DGet H a y o) (ry : RelV y u) (h : ∀ s', Inv X pins σ H s' → Q (.bool (!o.isSome)) s') :
  wpAny (model X.prog X.w) A (compareOp .NotIn u (.ref a)) Q E s := by
 rcases g with ⟨kvs, k, e, ey, l⟩ | ⟨kvs, k, b, e, ey, eb, l⟩
 ·obtain ⟨z, hd, vs, rel, dd⟩ := zmf I.hok e
  refine wpAny_notIn_of (ey.is ry) hd dd.mapOf ?_
  rw [← (rel.val k).isSome_eq, ← l]
  exact h _ (I.tok _)
 ·subst ey
  cases (show u = Value.ref b from ry)
  obtain ⟨z, hd, xs, rel, dd⟩ := zou I.hok e
  refine wpAny_notIn_heap (tupleKind_room_in1 hu) (zf3 I.hok eb) hd dd ?_
  have q := (rel.val k).isSome_eq
  rw [y3l] at q
  rw [← q, ← l]
  exact h _ (I.tok _)
theorem zgu {h' : Heap} {t' : Nat} {ob : HO} (I : Inv X pins σ H s) (mu : Mut (H a)) (hs : Heap.SameBut a s.heap h') (he : ∃ q, h'.get? a = some q) (new : ObjOk X.prog X.w (upd H a ob) h' a ob) :
  Inv X pins σ (upd H a ob) { s with heap := h', toks := t' } :=
 I.write (x := a) (e := a) mu (.inl rfl) (fun b q hb z => (hs.2 b hb).trans z) he new
theorem zow {P : Program} {w : World} {H' : Hp} {h' : Heap} {kvs : List (Key × V)} {vs : List (Key × Value)} (z : kvs.length ≤ sizeLine) (hd : (a == sysModules) = false) (rel : KV kvs vs) (dd : h'.DictOf (mixKind P w) a vs) :
  ObjOk P w H' h' a (.dK kvs) := ⟨z, hd, vs, rel, dd⟩
theorem zo0 {H' : Hp} {Q : Unit → Shared → Prop} (hu : A.units + 1 < cLine) (I : Inv X pins σ H s) (g : DPut H a y v H') (ry : RelV y u) (rv : RelV v r) (h : ∀ s', Inv X pins σ H' s' → Q () s') :
  wpAny (model X.prog X.w) A (setItem (.ref a) u r) Q E s := by
 rcases g with ⟨kvs, k, e, ey, l, eH⟩ | ⟨kvs, k, b, e, ey, eb, l, eH⟩
 ·subst eH
  obtain ⟨z, hd, vs, rel, dd⟩ := dk_of I.hok e
  have hz : vs.length ≤ sizeLine := by rw [← rel.length]; exact z
  have hl : (putK kvs k v).length ≤ sizeLine := by have := zcv kvs k v; omega
  refine wpAny_setItem_pairs (hsz := hz) (ey.is ry) dd fun h' dd' hs => h _ ?_
  have he : ∃ q, h'.get? a = some q := let ⟨q, _, _, hq, _⟩ := dd'; ⟨q, hq⟩
  exact zgu I (by rw [e]; exact True.intro) hs he (zow hl hd (rel.put k rv) dd')
 ·subst ey eH
  cases (show u = Value.ref b from ry)
  obtain ⟨z, hd, xs, rel, dd⟩ := dt_of I.hok e
  have hz : xs.length ≤ sizeLine := by rw [← Paired.length rel]; exact z
  have hl : (putK kvs k v).length ≤ sizeLine := by have := zcv kvs k v; omega
  refine wpAny_setItem_heap (hsz := hz) (tupleKind_room_in1 hu) (zf3 I.hok eb) dd fun h' dd' hs => h _ ?_
  obtain ⟨q, es, ep, hq, h2, h3, h4, _, h5⟩ := dd'
  refine zgu I (by rw [e]; exact True.intro) hs ⟨q, hq⟩ ⟨hl, hd, _, (rel.put k eb rv).keeps fun c ys ec => ?_, q, es, ep, hq, h2, h3, h4, h5⟩
  rw [zal (zn0 ec e (fun z => nomatch z))]
  exact ec
end
section
variable {X : Cx} {pins : T2} {σ : St} {H : Hp} {s : Shared} {a : Addr} {kvs : List (Key × V)} {k : Key} {u : Value} {A : Around} {E : T0}
theorem d_len {Q : T0} (I : Inv X pins σ H s) (e : Rd H a (.dK kvs)) (h : ∀ t s', Inv X pins σ H s' → Q (.int kvs.length t) s') : wpAny (model X.prog X.w) A (call (.builtin "len") [.ref a]) Q E s := by
 obtain ⟨z, hd, vs, rel, dd⟩ := zmf I.hok e
 refine call_len_dict hd dd (by rw [← rel.length]; rw [sizeLine_eq] at z; omega) ?_
 rw [← rel.length]
 exact h _ _ (I.tok _)
end
def NoSl (i : Expr) : Prop := ∀ ov iv, subscripted i false ov iv = operate [ov, iv] (getItem ov iv)
theorem zsp {prog : Program} {w : World} {A : Around} {E : T0} {s : Shared} {env : Env} {value slice : Expr} {pos : Pos} {T id : String} {Q : T0}
  (hl : typeLookup (.type T) "__getitem__" = pure (some (.builtin id))) (hs : NoSl slice)
  (h : wpAny (model prog w) A (eval value env) (fun o s₁ => wpAny (model prog w) A (eval slice env) (fun i s₂ => s₂.TypeIs o T ∧ wpAny (model prog w) A (getItem o i) Q E s₂) E s₁) E s) :
  wpAny (model prog w) A (eval (.Subscript value slice pos) env) Q E s := by
 refine Subscript_ (wpAny_mono h (fun o s₁ h₁ => wpAny_mono h₁ (fun i s₂ h₂ => ?_) fun _ _ x => x) fun _ _ x => x)
 obtain ⟨hT, h₂⟩ := h₂
 unfold subscriptTail
 refine wpAny_bind ?_
 rw [getitemInPython_of_ne hT.not_modules]
 refine wpAny_bind (wpAny_specialOf hT hl ?_)
 have fin : wpAny (model prog w) A (subscripted slice false o i) (fun r s₃ => wpAny (model prog w) A (letTemporaryGo value o r >>= fun _ => pure r) Q E s₃) E s₂ := by
  rw [hs o i]
  exact wpAny_operating (wpAny_mono h₂ (fun r s₃ h₃ => wpAny_bind (wpAny_letTemporaryGo (wpAny_pure h₃))) fun _ _ x => x)
 first
  | exact wpAny_pure (wpAny_bind fin)
  | exact wpAny_bind (wpAny_pure (wpAny_bind fin))
  | exact wpAny_bind fin
theorem zji {X : Cx} {pins : T2} {σ : St} {H : Hp} {s : Shared} {a : Addr} {y : V} {o : Option V} (I : Inv X pins σ H s) (g : DGet H a y o) : s.TypeIs (.ref a) "dict" := by
 rcases g with ⟨kvs, k, e, _, _⟩ | ⟨kvs, k, b, e, _, _, _⟩
 ·obtain ⟨_, _, vs, _, dd⟩ := zmf I.hok e
  exact dd.typeIs
 ·obtain ⟨_, _, xs, _, dd⟩ := zou I.hok e
  exact dd.typeIs
def tDGet (td ty : TE) : TE := fun σ H Q => td σ H fun x H1 => ty σ H1 fun y H2 => ∃ a v, x = .ref a ∧ DGet H2 a y (some v) ∧ Q v H2
def sDPut (td ty tv : TE) : TS := fun D σ H => tv σ H fun v H1 => td σ H1 fun x H2 => ty σ H2 fun y H3 => ∃ a H4, x = .ref a ∧ DPut H3 a y v H4 ∧ D.nx σ H4
section
variable {X : Cx} {o i e value : Expr} {pos pos' tpos : Pos} {td ty tv : TE}
theorem zta (hu : X.A.units + 1 < cLine) (ho : PE X o td) (hi : PE X i ty) (hs : NoSl i) : PE X (.Subscript o i pos) (tDGet td ty) := by
 intro pins s σ H Q I h
 refine zsp PySem.F.slot_dict_getitem.lookup hs (thn (ho pins s σ H _ I h) fun u s1 ⟨x, H1, I1, rx, q1⟩ => thn (hi pins s1 σ H1 _ I1 q1) fun iv s2 ⟨y, H2, I2, ry, a, v, ex, g, q2⟩ => ?_)
 subst ex
 obtain rfl : u = Value.ref a := rx
 exact ⟨zji I2 g, zo1 hu I2 g ry fun w' s3 I3 rw' => ⟨v, H2, I3, rw', q2⟩⟩
theorem zsz (hu : X.A.units + 1 < cLine) (ho : PE X o td) (hi : PE X i ty) (hv : PE X value tv) (hs : swapsWith value (some (.Subscript o i pos')) pos.line X.env = pure false) :
  PS X (.Assign [.Subscript o i pos'] value pos) (sDPut td ty tv) := by
 intro pins s σ H D I h
 refine wpAny_Assign_Subscript (thn (hv pins s σ H _ I h) fun r s1 ⟨v, H1, I1, rv, q1⟩ => thn (ho pins s1 σ H1 _ I1 q1) fun u s2 ⟨x, H2, I2, rx, q2⟩ => thn (hi pins s2 σ H2 _ I2 q2) fun iv s3 ⟨y, H3, I3, ry, a, H4, ex, g, q3⟩ => ?_) hs
 subst ex
 obtain rfl : u = Value.ref a := rx
 exact zo0 hu I3 g ry rv fun s4 I4 => ⟨σ, H4, I4, q3⟩
end
theorem zk7 {P : Program} {w : World} {H : Hp} (h : Heap) (hb : sysModules < h.objs.size) : ObjOk P w H (h.push { cls := .type "dict", data := .dict #[] }) h.objs.size (.dK []) :=
 ⟨y1b _, beq_eq_false_iff_ne.mpr (Ne.symm (y0l hb)), [], .nil, Heap.DictOf.new h⟩
theorem zk6 {P : Program} {w : World} {H : Hp} (h : Heap) (hb : sysModules < h.objs.size) : ObjOk P w H (h.push { cls := .type "dict", data := .dict #[] }) h.objs.size (.dT []) :=
 ⟨y1b _, beq_eq_false_iff_ne.mpr (Ne.symm (y0l hb)), [], .nil, _, #[], 0, y0e _ rfl, ⟨rfl, rfl, rfl⟩, rfl, rfl, y3i⟩
def tDNewK : TE := fun _ H Q => ∀ p, H p = none → Q (.ref p) (upd H p (.dK []))
def tDNewT : TE := fun _ H Q => ∀ p, H p = none → Q (.ref p) (upd H p (.dT []))
section
variable {X : Cx} {pos : Pos}
theorem zqd : PE X (.Dict [] [] pos) tDNewK := fun pins s σ H Q I h =>
 wpAny_Dict_empty ⟨.ref s.heap.objs.size, _, I.laid (a := s.heap.objs.size) (o := .dK []) (t' := s.toks) (fun _ _ q => y03 _ q) (y06 _) (zk7 s.heap I.big), rfl, h _ (I.hok.fresh (y06 _))⟩
theorem zqb : PE X (.Dict [] [] pos) tDNewT := fun pins s σ H Q I h =>
 wpAny_Dict_empty ⟨.ref s.heap.objs.size, _, I.laid (a := s.heap.objs.size) (o := .dT []) (t' := s.toks) (fun _ _ q => y03 _ q) (y06 _) (zk6 s.heap I.big), rfl, h _ (I.hok.fresh (y06 _))⟩
end
def tPairs : List (TE × TE) → St → Hp → (List (V × V) → Hp → Prop) → Prop
 | [], _, H, Q => Q [] H
 | (tk, tv) :: r, σ, H, Q => tk σ H fun x H1 => tv σ H1 fun y H2 => tPairs r σ H2 fun ps H3 => Q ((x, y) :: ps) H3
abbrev VV : List (V × V) → List (Value × Value) → Prop := Paired fun p q => RelV p.1 q.1 ∧ RelV p.2 q.2
def PPs (X : Cx) (pos : Pos) (keys : List (Option Expr)) (values : List Expr) (trs : List (TE × TE)) : Prop :=
 ∀ (pins : T2) (s : Shared) (σ : St) (H : Hp) (Q : List (V × V) → Hp → Prop), Inv X pins σ H s → tPairs trs σ H Q →
  wpAny (model X.prog X.w) X.A (evalPairs (pairTrees keys values X.env pos)) (fun vs s' => ∃ ps H', Inv X pins σ H' s' ∧ VV ps vs ∧ Q ps H') X.xe s
theorem zs2 {X : Cx} {pos : Pos} : PPs X pos [] [] [] := fun pins s σ H Q I h => pairTrees_nil_walk ⟨[], H, I, .nil, h⟩
theorem zp8 {X : Cx} {pos : Pos} {k v : Expr} {ks : List (Option Expr)} {vs : List Expr} {tk tv : TE} {trs : List (TE × TE)} (hk : PE X k tk) (hv : PE X v tv) (hr : PPs X pos ks vs trs) :
  PPs X pos (some k :: ks) (v :: vs) ((tk, tv) :: trs) := fun pins s σ H Q I h =>
 pairTrees_cons_walk (thn (hk pins s σ H _ I h) fun u s1 ⟨x, H1, I1, rx, q1⟩ => thn (hv pins s1 σ H1 _ I1 q1) fun w2 s2 ⟨y, H2, I2, ry, q2⟩ =>
  thn (hr pins s2 σ H2 _ I2 q2) fun ws s3 ⟨ps, H3, I3, rel, q3⟩ => ⟨(x, y) :: ps, H3, I3, .cons ⟨rx, ry⟩ rel, q3⟩)
def mergeK (kvs more : List (Key × V)) : List (Key × V) := more.foldl (fun acc kv => putK acc kv.1 kv.2) kvs
theorem KV.merge : ∀ {more : List (Key × V)} {rs : List (Key × Value)} {kvs : List (Key × V)} {vs : List (Key × Value)}, KV more rs → KV kvs vs → KV (mergeK kvs more) (merged vs rs) := by
 intro more rs kvs vs r
 unfold KV at r
 induction r generalizing kvs vs with
 | nil => intro q; exact q
 | @cons p q ps qs h t ih =>
  intro r0
  have e : KV (putK kvs p.1 p.2) (stored vs q.1 q.2) := by
   have := r0.put p.1 h.2
   rw [← h.1]; exact this
  exact ih e
theorem zb8 : ∀ (more kvs : List (Key × V)), (mergeK kvs more).length ≤ kvs.length + more.length
 | [], kvs => by show kvs.length ≤ kvs.length + 0; omega
 | p :: r, kvs => by
  have h1 := zb8 r (putK kvs p.1 p.2)
  have h2 := zcv kvs p.1 p.2
  show (mergeK (putK kvs p.1 p.2) r).length ≤ _
  rw [y0i]; omega
theorem zf6 {P : Program} {w : World} : ∀ {kvs : List (Key × V)} {ws : List (Value × Value)}, VV (kvs.map fun kv => (kV kv.1, kv.2)) ws → ∃ rs, Carries (mixKind P w) ws rs ∧ KV kvs rs
 | [], _, r => by rw [y30] at r; cases r; exact ⟨[], True.intro, .nil⟩
 | p :: kvs, _, r => by
  rw [y0k] at r
  cases r with
  | @cons a b as bs h t =>
   obtain ⟨rs, c, q⟩ := zf6 (P := P) (w := w) t
   obtain ⟨b1, b2⟩ := b
   exact ⟨(p.1, b2) :: rs, ⟨zob h.1, rfl, c⟩, .cons ⟨rfl, h.2⟩ q⟩
def tDisp (trs : List (TE × TE)) : TE := fun σ H Q => ∀ p, H p = none → tPairs trs σ (upd H p (.dK [])) fun ps H2 => H2 p = some (.dK []) ∧ ∃ kvs : List (Key × V), ps = kvs.map (fun kv => (kV kv.1, kv.2)) ∧ kvs.length ≤ 15 ∧ Q (.ref p) (upd H2 p (.dK (mergeK [] kvs)))
theorem zs9 {X : Cx} {pos : Pos} {keys : List (Option Expr)} {values : List Expr} {trs : List (TE × TE)} (h : PPs X pos keys values trs) (hall : keys.all (·.isSome) = true) (hl : keys.length = values.length) (h0 : keys ≠ [])
  (h15 : keys.length ≤ 15) : PE X (.Dict keys values pos) (tDisp trs) := by
 intro pins s σ H Q I q
 have hn := I.hok.fresh (y06 s.heap.objs.size)
 have I1 := I.laid (a := s.heap.objs.size) (o := .dK []) (h' := s.heap.push { cls := .type "dict", data := .dict #[] }) (t' := s.toks) (fun _ _ q => y03 _ q) (y06 _) (zk7 s.heap I.big)
 refine wpAny_Dict_walk (knd := mixKind X.prog X.w) hall hl h0 h15 (thn (h pins _ σ _ _ I1 (q _ hn)) fun ws s2 ⟨ps, H2, I2, rel, e, kvs, ep, lk, q2⟩ => ?_)
 subst ep
 obtain ⟨rs, c, rk⟩ := zf6 (P := X.prog) (w := X.w) rel
 obtain ⟨z, hd, vs0, r0, dd⟩ := dk_of I2.hok e
 cases r0
 refine ⟨rs, c, dd, fun h' dd' hs => ⟨.ref s.heap.objs.size, _, ?_, rfl, q2⟩⟩
 have hz : (mergeK [] kvs).length ≤ sizeLine := by
  have h1 := zb8 kvs []
  rw [y0v] at h1
  rw [sizeLine_eq]; omega
 have he : ∃ q, h'.get? s.heap.objs.size = some q := let ⟨q, _, _, hq, _⟩ := dd'; ⟨q, hq⟩
 exact zgu I2 (by rw [e]; exact True.intro) hs he (zow hz hd (rk.merge .nil) dd')
section
variable {X : Cx}
theorem zpd : CallR X (.builtin "len") (fun xs H Q => ∃ a kvs, xs = [V.ref a] ∧ H a = some (.dK kvs) ∧ Q (.int kvs.length) H) := by
 intro pins s σ H xs us Q I r h
 obtain ⟨a, kvs, rfl, ha, q⟩ := h
 obtain ⟨u, rfl, ru⟩ := vals1 r
 cases ru
 exact d_len I (.inl ha) fun t s' I' => ⟨.int kvs.length, H, I', ⟨t, rfl⟩, q⟩
end
section
variable {κ : Type} [DecidableEq κ]
theorem zn1 : ∀ {l : List κ} {k : κ}, l.Nodup → ¬ k ∈ l → (l ++ [k]).Nodup
 | [], k, _, _ => by simp
 | a :: r, k, h, hk => by
  obtain ⟨h1, h2⟩ := y0y.mp h
  show (a :: (r ++ [k])).Nodup
  refine y0y.mpr ⟨fun m => ?_, zn1 h2 fun m => hk (y05.mpr (Or.inr m))⟩
  rcases y1f.mp m with q | q
  ·exact h1 q
  ·exact hk (y05.mpr (Or.inl (y0o.mp q).symm))
end
def notStar : Expr → Bool
 | .Starred _ _ => false
 | _ => true
theorem zay {e : Expr} {es : List Expr} {env : Env} (h : notStar e = true) : starEach (e :: es) env = (false, eval e env) :: starEach es env := by
 cases e with
 | Starred v q => exact absurd (show false = true from h) y0f
 | _ => rw [starEach.eq_def]
theorem zbr : ∀ {es : List Expr} {env : Env} {pos : Pos}, es.all notStar = true → (backTo pos (starEach es env)).any (·.1) = false
 | [], env, pos, _ => by rw [starEach.eq_def]; rfl
 | e :: r, env, pos, h => by
  rw [y1o, y08] at h
  rw [zay h.1]
  exact zbr h.2
section
variable {X : Cx} {x : Str} {p pos : Pos} {e : Expr} {es : List Expr} {te : TE} {t : TA} {T id : String} {r : List V → Hp → VK → Prop}
theorem pa_c (ha : PE X e te) (hr : PA X es t) (h : notStar e = true := by rfl) : PA X (e :: es) (tCons te t) := ztc ha hr (zay h)
theorem za1 (hc : CallR X (.builtin id) r) (hg : Gl X x) (hm : X.mg x = none) (hv : bootBuiltins x = some (.builtin id)) (ha : PA X (e :: es) t) (hn : x ≠ "__name__" := by decide) (hdb : (x == ("__debug__" : Str)) = false := by decide)
  (h1 : notStar e = true := by rfl) (h2 : es.all notStar = true := by rfl) : PE X (.Call (.Name x p) (e :: es) [] pos) (tCB r t) := zqg hc hg hm hv ha hn hdb (zay h1) (zbr h2)
theorem zcc (hc : CallR X (.type T) r) (hg : Gl X x) (hm : X.mg x = none) (hv : bootBuiltins x = some (.type T)) (ha : PA X (e :: es) t) (hn : x ≠ "__name__" := by decide) (hdb : (x == ("__debug__" : Str)) = false := by decide)
  (h1 : notStar e = true := by rfl) (h2 : es.all notStar = true := by rfl) : PE X (.Call (.Name x p) (e :: es) [] pos) (tCB r t) := znd hc hg hm hv ha hn hdb (zay h1) (zbr h2)
end
structure Dfn (K : Frag) (mg : T1) (x : Str) (st : Stmt) (ps : List Str) : Prop where
 ex : ∃ f fd, Fun K x x st f fd ∧ Binds K fd ps [] ∧ mg x = some (.ref f)
structure Cal (P : Program) (w : World) (K : Frag) (mg : T1) (base : Heap) (n : Nat) (x : Str) (ps : List Str) (sp : Sp) : Prop where
 ex : ∃ f fd, FnOk P w K mg base CX0 n f fd ps sp ∧ Binds K fd ps [] ∧ PySem.W.keepIn K (.ref f) = true ∧ mg x = some (.ref f)
section
variable {P : Program} {w : World} {K : Frag} {mg : T1} {base : Heap}
theorem Dfn.cal {x : Str} {st : Stmt} {N ps : List Str} {k : Nat} {sp : Sp} (d : Dfn K mg x st ps) (S : FnScope N ps (defScope st)) (len : ∀ vs H Q E, sp vs H Q E → vs.length = ps.length)
  (hbody : ∀ (f : Addr) (cdv : Value) (A : Around) (outer : List Env) (s : Shared) (H : Hp) (vs : List V) (Q : VK) (E : XK), Room k (A.deeper (envOfC x (defScope st) s.heap.objs.size f cdv)) → sp vs H Q E →
   ∃ t, PSs (cxOf CX0 P w K mg base N x (defScope st) f cdv A outer s H E).nox (defBody st) t ∧ t { nx := fun _ H' => Q .non H', rt := Q } (start N vs) H) : Cal P w K mg base (k + 1) x ps sp := by
 obtain ⟨f, fd, F, b, m⟩ := d.ex
 exact ⟨f, fd, F.ok S len (hbody f), b, F.kp, m⟩
theorem Cal.mono {j k : Nat} {x : Str} {ps : List Str} {sp : Sp} (c : Cal P w K mg base j x ps sp) (h : j ≤ k) : Cal P w K mg base k x ps sp := by
 obtain ⟨f, fd, F, r⟩ := c.ex
 exact ⟨f, fd, F.mono h, r⟩
theorem Dfn.never {x : Str} {st : Stmt} {ps : List Str} {sp : Sp} (d : Dfn K mg x st ps) (no : ∀ vs H Q E, ¬ sp vs H Q E) : Cal P w K mg base 0 x ps sp := by
 obtain ⟨f, fd, F, b, m⟩ := d.ex
 exact ⟨f, fd, ⟨fun vs H Q E h => absurd h (no vs H Q E), fun A outer s H args us vs Q E _ _ _ _ h => absurd h (no vs H Q E)⟩, b, F.kp, m⟩
end
section
variable {X : Cx} {n k : Nat} {x : Str} {ps : List Str} {sp : Sp} {p pos : Pos} {e : Expr} {es : List Expr} {t : TA}
theorem zae (C : Cal X.prog X.w X.K X.mg X.base n x ps sp) (hr : Room k X.A) (hle : n ≤ k) (hg : Gl X x) (ha : PA X (e :: es) t) (hdb : (x == ("__debug__" : Str)) = false := by decide)
  (h1 : notStar e = true := by rfl) (h2 : es.all notStar = true := by rfl) : PE X (.Call (.Name x p) (e :: es) [] pos) (tCall sp [] E0 t) := by
 obtain ⟨f, fd, F, b, kp, m⟩ := C.ex
 exact ztb F (hr.mono hle) hg m kp b .nil pass0 ha hdb (zay h1) (zbr h2)
def GlV (mg : T1) (x : Str) (v : V) : Prop := ∃ u, mg x = some u ∧ RelV v u
theorem zbl {v : V} (hg : Gl X x) (h : GlV X.mg x v) (hd : (x == ("__debug__" : Str)) = false := by decide) : PE X (.Name x pos) (tC v) := by
 obtain ⟨u, m, r⟩ := h
 exact zs8 hg m r hd
end
theorem CompOk.of {X : Cx} {scope : Scope} {cp : T6} (kind : scope.kind = .function)
  (h1 : (scope.names.all fun y => y.2 != .cell && (y.2 != .local || scope.names.lookup y.1 == some .local) && (y.2 != .free || (X.env.scope.names.lookup y.1 == some .cell || X.env.scope.names.lookup y.1 == some .free))) = true)
  (h2 : (cp.all fun p => X.N[p.1]? == some p.2 && scope.names.lookup p.2 == some .free) = true) : CompOk X scope cp := by
 have g := y0p.mp h1
 refine ⟨kind, fun y hy e => ?_, fun y hy e => ?_, fun y hy e => ?_, fun p hp => ?_⟩
 ·have q := g y hy
  rw [y08, y08] at q
  rw [e] at q
  exact absurd q.1.1 (by decide)
 ·have q := g y hy
  rw [y08, y08] at q
  have q := q.1.2
  rw [e] at q
  simpa using q
 ·have q := g y hy
  rw [y08, y08] at q
  have q := q.2
  rw [e] at q
  have q : X.env.scope.names.lookup y.1 = some .cell ∨ X.env.scope.names.lookup y.1 = some .free := by simpa using q
  exact q
 ·have q := y0p.mp h2 p hp
  rw [y08] at q
  exact ⟨by simpa using q.1, by simpa using q.2⟩
inductive Kd (H : Hp) : V → String → Prop where
 | non : Kd H .non "NoneType"
 | bl (b : Bool) : Kd H (.bl b) "bool"
 | int (i : Int) : Kd H (.int i) "int"
 | str (z : Str) : Kd H (.str z) "str"
 | lst {a : Addr} {xs : List V} (e : H a = some (.lst xs)) : Kd H (.ref a) "list"
 | tup {a : Addr} {xs : List V} (e : H a = some (.tup xs)) : Kd H (.ref a) "tuple"
 | dK {a : Addr} {kvs : List (Key × V)} (e : H a = some (.dK kvs)) : Kd H (.ref a) "dict"
def kinds : List String := ["NoneType", "bool", "int", "str", "list", "tuple", "dict"]
def subT (k T : String) : Bool := k == T || (k == "bool" && T == "int")
theorem kit_ok (K : Frag) : ∀ k ∈ kinds, ∀ T ∈ ["str", "list", "tuple", "bool", "int", "dict"], PySem.W.kitOne K (.type k) (.type T) = some (subT k T) := by
 intro k hk T hT
 simp only [kinds, y05, y0a, or_false] at hk hT
 rcases hk with rfl | rfl | rfl | rfl | rfl | rfl | rfl <;> rcases hT with rfl | rfl | rfl | rfl | rfl | rfl <;> first | rfl | kernel_rfl
theorem Kd.ty {K : Frag} {H : Hp} {x : V} {k : String} (h : Kd H x k) : TyOf K H x (.type k) ∧ k ∈ kinds := by
 cases h with
 | non => exact ⟨.non, by decide⟩
 | bl b => exact ⟨.bl b, by decide⟩
 | int i => exact ⟨.int i, by decide⟩
 | str z => exact ⟨.str z, by decide⟩
 | lst e => exact ⟨.lst e, by decide⟩
 | tup e => exact ⟨.tup e, by decide⟩
 | dK e => exact ⟨.dK e, by decide⟩
theorem Kd.same {H H' : Hp} {x : V} {k : String} (h : Kd H x k) (g : Same H H') : Kd H' x k := by
 cases h with
 | non => exact .non
 | bl b => exact .bl b
 | int i => exact .int i
 | str z => exact .str z
 | lst e => exact .lst (g _ _ e)
 | tup e => exact .tup (g _ _ e)
 | dK e => exact .dK (g _ _ e)
theorem Kd.inj {H : Hp} {x : V} {k k' : String} (h : Kd H x k) (h' : Kd H x k') : k = k' := by
 cases h with
 | lst e => cases h' with | lst _ => rfl | tup e' => rw [e] at e'; cases e' | dK e' => rw [e] at e'; cases e'
 | tup e => cases h' with | lst e' => rw [e] at e'; cases e' | tup _ => rfl | dK e' => rw [e] at e'; cases e'
 | dK e => cases h' with | lst e' => rw [e] at e'; cases e' | tup e' => rw [e] at e'; cases e' | dK _ => rfl
 | non => cases h'; rfl
 | bl _ => cases h'; rfl
 | int _ => cases h'; rfl
 | str _ => cases h'; rfl
theorem zdd {X : Cx} : CallR X (.builtin "isinstance") (fun xs H Q => ∃ x T k, xs = [x, .ty T] ∧ Kd H x k ∧ T ∈ ["str", "list", "tuple", "bool", "int", "dict"] ∧ Q (.bl (subT k T)) H) := by
 intro pins s σ H xs us Q I r h
 obtain ⟨x, T, k, e, hk, hT, q⟩ := h
 obtain ⟨h1, h2⟩ := hk.ty (K := X.K)
 exact zjs pins s σ H xs us Q I r ⟨x, T, .type k, _, e, h1, kit_ok X.K k h2 T hT, q⟩
theorem za4 {H : Hp} {p : Addr} (h : H p = none) (o : HO) : Same H (upd H p o) := fun b u q => by rw [zal (zao q h)]; exact q
theorem Same.seqT {K : Frag} {H H' : Hp} {a : Addr} {xs : List V} (e : Same H H') (h : SqT K H a xs) : SqT K H' a xs := by
 rcases h with (h | ⟨o, h⟩) | h
 ·exact .inl (.inl (e _ _ h))
 ·exact .inl (.inr ⟨o, e _ _ h⟩)
 ·exact .inr h
section
variable {H : Hp} {Q : VK} {v : V} {a : Option V} {r : St} {i : Nat}
theorem za0 {t : TS} {D : Ends} {σ : St} (σ' : St) (e : σ = σ') (h : t D σ' H) : t D σ H := by rw [e]; exact h
theorem zbj : tVar 0 (some v :: r) H Q = Q v H := by simp [tVar]
theorem zcp : tVar (i + 1) (a :: r) H Q = tVar i r H Q := rfl
theorem rd_ss {a b : Str} : (scal (.str a) (.str b) = true) = True := by simp [scal]
theorem rd_ii {a b : Int} : (scal (.int a) (.int b) = true) = True := by simp [scal]
def cBody (tn : List Str) (cp : T6) (g : TG) (tif : TT) (te : TE) (σ : St) (Q : VK) (J : It) (H1 : Hp) : Prop := ∀ D, H1 D = none → ∃ W : Nat → Nat → St → Hp → Prop,
 (∃ m, W 0 m (stB tn cp σ) (upd H1 D (.lst []))) ∧ ∀ i m σb Hb, W i m σb Hb →
  (J.stop i Hb ∧ Q (.ref D) Hb) ∨ (J.go i Hb ∧ ∀ x H', J.yld i Hb x H' → g x σb H' fun σ2 H2 => tif σ2 H2 fun c H3 =>
   if c = true then te σ2 H3 fun y H4 => ∃ ys, H4 D = some (.lst ys) ∧ ys.length < sizeLine ∧ ∃ m', m' < m ∧ W (i + 1) m' σ2 (upd H4 D (.lst (ys ++ [y])))
   else ∃ m', m' < m ∧ W (i + 1) m' σ2 H3)
theorem zgj {tn : List Str} {cp : T6} {wi : TI} {g : TG} {tif : TT} {te : TE} {σ : St} : tComp tn cp wi g tif te σ H Q = wi σ H fun J H1 => cBody tn cp g tif te σ Q J H1 := rfl
def fBody (g : TG) (tb : TS) (D : Ends) (σ : St) (J : It) (H1 : Hp) : Prop := ∃ W : Nat → Nat → St → Hp → Prop, (∃ m, W 0 m σ H1) ∧ ∀ i m σ H, W i m σ H →
 (J.stop i H ∧ D.nx σ H) ∨ (J.go i H ∧ ∃ N : St → Hp → Prop, (∀ σ' H', N σ' H' → ∃ m', m' < m ∧ W (i + 1) m' σ' H') ∧ ∀ x H', J.yld i H x H' → g x σ H' fun σ2 H2 => tb { D with nx := N, ct := N, bk := D.nx } σ2 H2)
theorem zrw {wi : TI} {g : TG} {tb : TS} {D : Ends} {σ : St} : tFor wi g tb D σ H = wi σ H fun J H1 => fBody g tb D σ J H1 := rfl
end
section
variable {tn : List Str} {cp : T6} {g : TG} {tif : TT} {te : TE} {σ0 : St} {Q : VK} {H1 : Hp}
theorem zmh {J : It} (n : Nat) (Pv : Addr → Nat → List V → St → Hp → Prop) (hn : n ≤ sizeLine) (h0 : ∀ D, H1 D = none → Pv D 0 [] (stB tn cp σ0) (upd H1 D (.lst [])))
  (hgo : ∀ D i ys σ H, H1 D = none → i < n → H D = some (.lst ys) → Pv D i ys σ H → J.go i H) (hstop : ∀ D ys σ H, H1 D = none → H D = some (.lst ys) → Pv D n ys σ H → J.stop n H)
  (hs : ∀ D i ys σ H x H', H1 D = none → i < n → H D = some (.lst ys) → ys.length ≤ i → Pv D i ys σ H → J.yld i H x H' → g x σ H' fun σ2 H2 => tif σ2 H2 fun c H3 =>
   if c = true then te σ2 H3 fun y H4 => CStep D n i (Pv D) σ2 y H4 else CSkip D n i (Pv D) σ2 H3)
  (hd : ∀ D ys σ H, H1 D = none → H D = some (.lst ys) → ys.length ≤ n → Pv D n ys σ H → Q (.ref D) H) : cBody tn cp g tif te σ0 Q J H1 := fun D hD =>
 zjk (Pv D) hn (h0 D hD) (fun i ys σ H => hgo D i ys σ H hD) (fun ys σ H => hstop D ys σ H hD) (fun i ys σ H hi hH hl p x H' y => hs D i ys σ H x H' hD hi hH hl p y) (fun ys σ H => hd D ys σ H hD)
theorem cb_str {z : Str} (Pv : Addr → Nat → List V → St → Hp → Prop) (hn : z.cps.size ≤ sizeLine) (h0 : ∀ D, H1 D = none → Pv D 0 [] (stB tn cp σ0) (upd H1 D (.lst [])))
  (hs : ∀ D i ys σ H c, H1 D = none → i < z.cps.size → z.cps[i]? = some c → H D = some (.lst ys) → ys.length ≤ i → Pv D i ys σ H → g (.str ⟨#[c]⟩) σ H fun σ2 H2 => tif σ2 H2 fun c H3 =>
   if c = true then te σ2 H3 fun y H4 => CStep D z.cps.size i (Pv D) σ2 y H4 else CSkip D z.cps.size i (Pv D) σ2 H3)
  (hd : ∀ D ys σ H, H1 D = none → H D = some (.lst ys) → ys.length ≤ z.cps.size → Pv D z.cps.size ys σ H → Q (.ref D) H) : cBody tn cp g tif te σ0 Q (Its z) H1 := fun D hD =>
 zrn (Pv D) hn (h0 D hD) (fun i ys σ H c => hs D i ys σ H c hD) (fun ys σ H => hd D ys σ H hD)
theorem zgy {K : Frag} {a : Addr} {xs : List V} (Pv : Addr → Nat → List V → St → Hp → Prop) (hn : xs.length ≤ sizeLine) (h0 : ∀ D, H1 D = none → Pv D 0 [] (stB tn cp σ0) (upd H1 D (.lst [])))
  (hl : ∀ D i ys σ H, H1 D = none → i ≤ xs.length → H D = some (.lst ys) → Pv D i ys σ H → SqL K H a xs)
  (hs : ∀ D i ys σ H x, H1 D = none → i < xs.length → xs[i]? = some x → H D = some (.lst ys) → ys.length ≤ i → Pv D i ys σ H → g x σ H fun σ2 H2 => tif σ2 H2 fun c H3 =>
   if c = true then te σ2 H3 fun y H4 => CStep D xs.length i (Pv D) σ2 y H4 else CSkip D xs.length i (Pv D) σ2 H3)
  (hd : ∀ D ys σ H, H1 D = none → H D = some (.lst ys) → ys.length ≤ xs.length → Pv D xs.length ys σ H → Q (.ref D) H) : cBody tn cp g tif te σ0 Q (Itl K a) H1 := fun D hD =>
 zo6 (Pv D) hn (h0 D hD) (fun i ys σ H => hl D i ys σ H hD) (fun i ys σ H x => hs D i ys σ H x hD) (fun ys σ H => hd D ys σ H hD)
theorem zsh {K : Frag} {a : Addr} {xs : List V} (Pv : Addr → Nat → List V → St → Hp → Prop) (hn : xs.length ≤ sizeLine) (h0 : ∀ D, H1 D = none → Pv D 0 [] (stB tn cp σ0) (upd H1 D (.lst [])))
  (hl : ∀ D i ys σ H, H1 D = none → i ≤ xs.length → H D = some (.lst ys) → Pv D i ys σ H → SqT K H a xs)
  (hs : ∀ D i ys σ H x, H1 D = none → i < xs.length → xs[i]? = some x → H D = some (.lst ys) → ys.length ≤ i → Pv D i ys σ H → g x σ H fun σ2 H2 => tif σ2 H2 fun c H3 =>
   if c = true then te σ2 H3 fun y H4 => CStep D xs.length i (Pv D) σ2 y H4 else CSkip D xs.length i (Pv D) σ2 H3)
  (hd : ∀ D ys σ H, H1 D = none → H D = some (.lst ys) → ys.length ≤ xs.length → Pv D xs.length ys σ H → Q (.ref D) H) : cBody tn cp g tif te σ0 Q (Itt K a) H1 :=
 zmh xs.length Pv hn h0 (fun D i ys σ H hD hi hH p => ⟨xs, xs[i], hl D i ys σ H hD (y1t hi) hH p, by simp [hi]⟩) (fun D ys σ H hD hH p => ⟨xs, hl D _ ys σ H hD (y06 _) hH p, y06 _⟩) (fun D i ys σ H x H' hD hi hH hl' p y => by
  obtain ⟨e, y⟩ := y
  subst e
  exact hs D i ys σ _ x hD hi (y xs (hl D i ys σ _ hD (y1t hi) hH p)) hH hl' p) hd
variable {tb : TS} {D : Ends}
theorem zca {K : Frag} {a : Addr} {xs : List V} (Pv : Nat → St → Hp → Prop) (h0 : Pv 0 σ0 H1) (hl : ∀ i σ H, i ≤ xs.length → Pv i σ H → SqL K H a xs)
  (hs : ∀ i x σ H, xs[i]? = some x → Pv i σ H → g x σ H fun σ2 H2 => tb { D with nx := Pv (i + 1), ct := Pv (i + 1), bk := D.nx } σ2 H2) (hd : ∀ σ H, Pv xs.length σ H → D.nx σ H) : fBody g tb D σ0 (Itl K a) H1 := zrf Pv h0 hl hs hd
theorem zsb {K : Frag} {a : Addr} {xs : List V} (Pv : Nat → St → Hp → Prop) (h0 : Pv 0 σ0 H1) (hl : ∀ i σ H, i ≤ xs.length → Pv i σ H → SqT K H a xs)
  (hs : ∀ i x σ H, xs[i]? = some x → Pv i σ H → g x σ H fun σ2 H2 => tb { D with nx := Pv (i + 1), ct := Pv (i + 1), bk := D.nx } σ2 H2) (hd : ∀ σ H, Pv xs.length σ H → D.nx σ H) : fBody g tb D σ0 (Itt K a) H1 := ztx Pv h0 hl hs hd
theorem zgt {lo : Int} {n : Nat} (Pv : Nat → St → Hp → Prop) (h0 : Pv 0 σ0 H1)
  (hs : ∀ i σ H, i < n → Pv i σ H → g (.int (lo + i)) σ H fun σ2 H2 => tb { D with nx := Pv (i + 1), ct := Pv (i + 1), bk := D.nx } σ2 H2) (hd : ∀ σ H, Pv n σ H → D.nx σ H) : fBody g tb D σ0 (Itr lo n) H1 := zok Pv h0 hs hd
end
theorem zkj {α : Type} (xs : List α) : ∀ (i k : Nat), ((List.range k).map fun m => i + m).filterMap (fun j => xs[j]?) = (xs.drop i).take k
 | i, 0 => by simp
 | i, k + 1 => by
  have ih := zkj xs (i + 1) k
  rw [y1x, y0k, y0r, y2w]
  have e : ((fun m => i + m) ∘ Nat.succ) = fun m => i + 1 + m := by funext m; simp [Function.comp]; omega
  rw [e]
  by_cases h : i < xs.length
  ·rw [show i + 0 = i from rfl, y00 h, ih, y33 h, List.take_succ_cons]
  ·rw [show i + 0 = i from rfl, y1m (by omega), ih, y2s (by omega), y2s (by omega)]
   simp
def cutL {α : Type} (xs : List α) (lo hi : Option Int) : List α := (xs.drop (HT.sIx xs.length 0 lo)).take (HT.sIx xs.length xs.length hi - HT.sIx xs.length 0 lo)
theorem idx_go {a b : Nat} {A B : Int} (hA : A = a) (hB : B = b) : PySem.sliceRange A B 1 = (List.range (b - a)).map fun m => a + m := by
 subst hA hB
 unfold PySem.sliceRange
 simp only [show (1 : Int) > 0 by decide, if_true]
 have e3 : (if (a : Int) < (b : Int) then ((b : Int) - (a : Int) + 1 - 1) / 1 else 0).toNat = b - a := by
  split <;> omega
 rw [e3]
 refine y1u fun m _ => ?_
 omega
theorem zmy (lo hi : Option Int) (n : Nat) : Builtin.Str.strSliceIndices lo hi 1 n = (List.range (HT.sIx n n hi - HT.sIx n 0 lo)).map fun m => HT.sIx n 0 lo + m := by
 unfold Builtin.Str.strSliceIndices
 refine idx_go ?_ ?_
 ·cases lo with
  | none => rfl
  | some v =>
   rw [← HT.clip_eq v n 0]
   simp only [show (1 : Int) > 0 by decide, if_true]
   split <;> omega
 ·cases hi with
  | none => rfl
  | some v =>
   rw [← HT.clip_eq v n n]
   simp only [show (1 : Int) > 0 by decide, if_true]
   split <;> omega
theorem zmz (z : Str) (lo hi : Option Int) : (Txt.slice z lo hi).cps.toList = cutL z.cps.toList lo hi := by
 have hl : z.cps.toList.length = z.length := by simp [Str.length]
 unfold Txt.slice cutL
 rw [hl, zmy]
 have p := zkj z.cps.toList (HT.sIx z.length 0 lo) (HT.sIx z.length z.length hi - HT.sIx z.length 0 lo)
 have e : (fun (j : Nat) => z.cps.toList[j]?) = fun (j : Nat) => z.cps[j]? := by funext j; simp
 rw [e] at p
 split
 ·rename_i h
  simp only [y01, y17, beq_self_eq_true, y1a, beq_iff_eq] at h
  have h1 := HT.sIx_le z.length z.length (y06 _) hi
  have h3 := HT.sIx_le z.length 0 (y1b _) lo
  have h0 : HT.sIx z.length 0 lo = 0 := by omega
  have h2 : HT.sIx z.length z.length hi - HT.sIx z.length 0 lo = z.length := h
  rw [h2, h0, List.drop_zero, y0n (by rw [hl]; exact y06 _)]
 ·rw [← p]
theorem zrm {α : Type} (xs : List α) (lo hi : Option Int) : (cutL xs lo hi).length ≤ xs.length := by
 unfold cutL
 rw [y0w, y3a]
 omega
theorem zda {α : Type} (xs : List α) (k : Nat) : cutL xs (some (k : Int)) none = xs.drop k := by
 unfold cutL
 rw [HT.sIx_nat, HT.sIx_none, y0n (by rw [y3a]; exact y06 _)]
 by_cases h : k ≤ xs.length
 ·rw [Nat.min_eq_left h]
 ·rw [Nat.min_eq_right (by omega), y2s (y06 _), y2s (by omega)]
theorem zmt (z : Str) : z.length = z.cps.toList.length := by simp [Str.length]
theorem zbf {α : Type} {c : α} {r : List α} : atI (c :: r) 0 = some c := zaj (j := 0) rfl
theorem RcOk.up {X : Cx} {j k : Nat} {H : Hp} {x y : V} {b : Bool} (h : RcOk X j H x y b) (hjk : j ≤ k) : RcOk X k H x y b := fun pins σ s A u v hu => h pins σ s A u v (by omega)
theorem zab {n : Nat} (h : n ≤ 1000) : n ≤ sizeLine := y1t (small1000 h)
theorem zpl {α : Type} {xs : List α} {i : Int} {n : Nat} (hn : xs.length = n) (h0 : 0 < n) : ∃ v, atI xs (i % (n : Int)) = some v ∧ v ∈ xs := by
 have h1 : 0 ≤ i % (n : Int) := y2p _ (by omega)
 have h2 : i % (n : Int) < n := y2q _ (by omega)
 have h3 : (i % (n : Int)).toNat < xs.length := by omega
 refine ⟨xs[(i % (n : Int)).toNat], ?_, y0g h3⟩
 have e : i % (n : Int) = (((i % (n : Int)).toNat : Nat) : Int) := by omega
 have q : atI xs (((i % (n : Int)).toNat : Nat) : Int) = some xs[(i % (n : Int)).toNat] := zaj (by simp)
 rw [← e] at q
 exact q
theorem zff {A : Around} {k : Nat} (hr : Room k A) (j : Nat) (h : j ≤ 64) : A.units + j < cLine := by have := hr.units; omega
section
variable {K : Frag} {h : Heap} {mg : T1}
theorem dfn_mk {x : Str} {st : Stmt} {ps : List Str} {f : Addr} {oc : Value} {od an : Option Addr} {osl : T8} {kV doc pm cdv ct : Value} (X : K.In h) (G : h.Ns mainGlobals mg)
  (a : PySem.W.nsIn K mainGlobals x = some (some (.ref f))) (l : K.lookup f = some ⟨oc, od, .func (PySem.W.fnOf x x (defArgs st) (defBody st) (defScope st) .none kV doc pm an cdv ct), osl⟩)
  (c : PySem.W.codeIn K cdv x = true) (k : PySem.W.keepIn K (.ref f) = true)
  (hb : ∀ (kV doc pm : Value) (an : Option Addr) (cdv ct : Value) (us : List Value), us.length = ps.length → bindArgs (PySem.W.fnOf x x (defArgs st) (defBody st) (defScope st) .none kV doc pm an cdv ct) ⟨us, []⟩ = pure (ps.zip us)) : Dfn K mg x st ps :=
 ⟨f, _, zk0 l c k, (zk0 l c k).binds hb, PySem.W.mg_of X G a⟩
theorem law_mk {x y : Str} {st : Stmt} {f fa : Addr} {oc : Value} {od an : Option Addr} {osl : T8} {kV doc pm cdv ct : Value} (X : K.In h) (G : h.Ns mainGlobals mg) (hfa : mg x = some (.ref fa))
  (a : PySem.W.nsIn K mainGlobals x = some (some (.ref f))) (l : K.lookup f = some ⟨oc, od, .func (PySem.W.fnOf x x (defArgs st) (defBody st) (defScope st) .none kV doc pm an cdv ct), osl⟩)
  (c : PySem.W.codeIn K cdv x = true) (k : PySem.W.keepIn K (.ref f) = true) (hb : ∀ (s : Shared) (v : Value), BindsTo s (PySem.W.fnOf x x (defArgs st) (defBody st) (defScope st) .none kV doc pm an cdv ct) ⟨[v], []⟩ [(y, v)]) :
  ∃ fd : FuncData, (∀ (s : Shared) (v : Value), BindsTo s fd ⟨[v], []⟩ [(y, v)]) ∧ Fun K x x st fa fd := by
 have e := hfa.symm.trans (PySem.W.mg_of X G a)
 cases e
 exact ⟨_, hb, zk0 l c k⟩
theorem glv_mk {x : Str} {u : Value} {v : V} (X : K.In h) (G : h.Ns mainGlobals mg) (a : PySem.W.nsIn K mainGlobals x = some (some u)) (r : RelV v u) : GlV mg x v := ⟨u, PySem.W.mg_of X G a, r⟩
end
section
variable {CX : CXT} {P : Program} {w : World} {K : Frag} {mg : T1} {base : Heap} {N : List Str} {x : Str} {sc : Scope} {f : Addr} {cdv : Value} {A : Around} {outer : List Env} {s : Shared} {H : Hp} {E : XK}
theorem cxK : (cxOf CX P w K mg base N x sc f cdv A outer s H E).K = K := rfl
theorem cxP : (cxOf CX P w K mg base N x sc f cdv A outer s H E).prog = P := rfl
theorem cxW : (cxOf CX P w K mg base N x sc f cdv A outer s H E).w = w := rfl
end
local instance (priority := 10000) : BEq Key := instBEqOfDecidableEq
local instance (priority := 10000) : LawfulBEq Key := inferInstanceAs (LawfulBEq (Sum Int Str))
def onceK : List Key → List Key → List Key
 | acc, [] => acc
 | acc, k :: r => onceK (if k ∈ acc then acc else acc ++ [k]) r
theorem zfw : ∀ (ks acc : List Key) (k : Key), onceK acc (ks ++ [k]) = if k ∈ onceK acc ks then onceK acc ks else onceK acc ks ++ [k]
 | [], acc, k => rfl
 | j :: r, acc, k => zfw r _ k
theorem zc3 : ∀ (ks acc : List Key), (onceK acc ks).length ≤ acc.length + ks.length
 | [], acc => y06 _
 | k :: r, acc => by
  have h := zc3 r (if k ∈ acc then acc else acc ++ [k])
  show (onceK (if k ∈ acc then acc else acc ++ [k]) r).length ≤ acc.length + (r.length + 1)
  split at h <;> rename_i c
  ·rw [if_pos c]; omega
  ·rw [if_neg c]
   rw [y0j, y19] at h
   omega
theorem ze0 : ∀ (ks acc : List Key), acc.Nodup → ((onceK acc ks).length = acc.length + ks.length ↔ (acc ++ ks).Nodup)
 | [], acc, h => by simp [onceK, h]
 | k :: r, acc, h => by
  show (onceK (if k ∈ acc then acc else acc ++ [k]) r).length = acc.length + (r.length + 1) ↔ _
  by_cases c : k ∈ acc
  ·rw [if_pos c]
   have l := zc3 r acc
   constructor
   ·intro e; omega
   ·intro e
    have := (y3m.mp e).2.2 k c k (y0c)
    exact absurd rfl this
  ·rw [if_neg c]
   have h' : (acc ++ [k]).Nodup := zn1 h c
   have ih := ze0 r (acc ++ [k]) h'
   rw [y0j, y19, y37] at ih
   rw [show acc.length + (r.length + 1) = acc.length + 1 + r.length by omega]
   exact ih
theorem znj (ks : List Key) : (onceK [] ks).length = ks.length ↔ ks.Nodup := by
 have h := ze0 ks [] y3i
 simpa using h
section
variable {P : Program} {w : World} {A : Around} {R : Result → Shared → Prop} {it : Addr} {fp wr : List Addr} {G : Array GenState → Array GenState → Prop} {n : Nat} {Pv : Nat → Value → Prop} {St : Nat → Shared → Prop}
def SetIs (P : Program) (w : World) (h : Heap) (a : Addr) (ks : List Key) : Prop := h.SetOf (mixKind P w) a (fun k => decide (k ∈ onceK [] ks)) (onceK [] ks).length
theorem SetIs.kept {h h' : Heap} {a : Addr} {ks : List Key} (x : SetIs P w h a ks) (k : ∀ o, h.get? a = some o → h'.get? a = some o) : SetIs P w h' a ks := by
 obtain ⟨o, es, ep, t, ho, rest⟩ := x
 exact ⟨o, es, ep, t, k o ho, rest⟩
theorem zsw {k : Key} {v : Value} (h : (mixKind P w).is k v = true) : v.scannable = true := by
 rcases zaz h with ⟨i, t, rfl, rfl⟩ | ⟨x, t, rfl, rfl⟩ | ⟨c, rfl, rfl⟩ <;> rfl
theorem zm2 (W : WalksS P w A.in1 it fp wr G n Pv St) (a : Addr) (ha : a ∉ fp) (ks : List Key) (hn : ks.length = n) (hv : ∀ i v, Pv i v → ∀ k, ks[i]? = some k → (mixKind P w).is k v = true) (hb : n + 1 < scanBound) :
  ∀ (m i : Nat) (s : Shared), n - i = m → i ≤ n → St i s → SetIs P w s.heap a (ks.take i) → (∀ s', Moved (a :: wr) G s s' → SetIs P w s'.heap a ks → R (.ok (.ret .none)) s') →
   codeAny (model P w) A (.builtin "set.update.loop" ⟨[.ref a, .ref it], []⟩) R s := by
 have haw : a ∉ wr := fun h => ha (W.sub _ h)
 have up : ∀ b ∈ wr, b ∈ a :: wr := fun b h => y09 _ h
 intro m
 induction m with
 | zero =>
  intro i s hm hi st x q
  obtain rfl : i = n := by omega
  rw [y0n (y42 hn)] at x
  refine codeAny_builtin F.entry_set_update_loop ?_
  rw [Around.under_plainId F.plain_set_update_loop _]
  refine wpAny_bind (W.done s _ _ st fun s' mv => wpAny_pure (q s' (mv.mono up) (x.kept fun o e => mv.heap a _ haw e)))
 | succ m ih =>
  intro i s hm hi st x q
  have lt : i < n := by omega
  have hk : ks[i]? = some ks[i] := by simp [hn, lt]
  refine codeAny_builtin F.entry_set_update_loop ?_
  rw [Around.under_plainId F.plain_set_update_loop _]
  refine wpAny_bind (W.item i s _ _ lt st fun v s' pv st' mv => ?_)
  have is := hv i v pv _ hk
  have x' := x.kept (h' := s'.heap) fun o e => mv.heap a _ haw e
  refine wpAny_bind (m := holding [v] (setAdd a v)) (wpAny_holding ?_)
  unfold setAdd
  refine wpAny_holding (wpAny_bind ((mixKind P w).pyHash (k := ks[i]) is ?_))
  have room := zc3 (ks.take i) []
  rw [y0w, y0v] at room
  refine wpAny_setAddHashed_of (knd := mixKind P w) (s := { s' with toks := s'.toks + 1 }) is (zsw is) x' (by omega) fun h' sb x2 => ?_
  have x3 : SetIs P w h' a (ks.take (i + 1)) := by
   unfold SetIs
   rw [y1g, hk, y21, zfw]
   refine SetOf_congr x2 (fun k' => ?_) ?_
   ·by_cases c : ks[i] ∈ onceK [] (ks.take i)
    ·rw [if_pos c]
     by_cases e : k' = ks[i]
     ·subst e; simp [c]
     ·simp [e]
    ·rw [if_neg c]
     simp [y1f]
   ·by_cases c : ks[i] ∈ onceK [] (ks.take i)
    ·rw [if_pos c]; simp [c]
    ·rw [if_neg c]; simp [c]
  refine wpAny_pure ⟨plainId_quiet F.plain_set_update_loop _, ih (i + 1) _ (by omega) lt (W.frame _ s' _ _ st' (y3v _) fun b hb o e => ?_) x3 fun s2 mv2 x4 => ?_⟩
  ·rw [sb.2 b (fun h => ha (h ▸ hb))]; exact e
  ·refine q s2 (Moved.trans W.gtrans ((mv.mono up).then_heap (y3v _) fun b o hb e => ?_) mv2) x4
   rw [sb.2 b (fun h => hb (h ▸ y0c))]; exact e
end
section
variable {P : Program} {w : World} {A : Around} {E : T0} {s : Shared}
set_option maxHeartbeats 3200000 in
theorem ziv {l : Addr} {its : Array Value} {ks : List Key} {Q : T0} (hh : A.handled = none) (hl : s.heap.IsList l its) (hk : ks.length = its.size) (hi : ∀ (i : Nat) v k, its[i]? = some v → ks[i]? = some k → (mixKind P w).is k v = true)
  (hb : its.size + 1 < scanBound)
  (h : ∀ (h' : Heap) (tk : Nat), SetIs P w h' s.heap.objs.size ks → (∀ b o, b < s.heap.objs.size → s.heap.get? b = some o → h'.get? b = some o) → Q (.ref s.heap.objs.size) { s with heap := h', toks := tk }) :
  wpAny (model P w) A (call (.type "set") [.ref l]) Q E s := by
 obtain ⟨c, tl, hmro⟩ := F.called_set.mro
 have made := F.called_set.made
 have sub := F.called_set.sub
 refine wpAny_call (codeAny_of_tree (wpAny_pure ⟨Code.quiet_builtin _ (by decide +kernel), codeAny_builtin F.entry_type_call ?_⟩))
 rw [Around.under_plain (weight_type_call_type "set" [.ref l] []) rfl]
 have a1 := F.called_set.notType
 have a2 := F.called_set.canCreate
 have a3 := F.typeCall_set_1 (.ref l)
 repeat (any_goals (first | assumption | wp_step))
 refine codeAny_mono (code_set_new_1 (.ref l) (E := E) (Q₁ := fun obj s1 => ∃ led : Bool, obj = .ref s.heap.objs.size ∧ s1 = { s with heap := s.heap.push { cls := .type "set", dict := none, data := .set #[] 0 (.fresh 0 0 led) } }) fun led => ⟨led, rfl, rfl⟩) fun r s1 hr => ?_
 cases r with
 | error e => exact hr
 | ok fl =>
  cases fl with
  | ret obj =>
   obtain ⟨led, rfl, rfl⟩ := hr
   have at0 : (s.heap.push { cls := .type "set", dict := none, data := .set #[] 0 (.fresh 0 0 led) }).get? s.heap.objs.size = some { cls := .type "set", dict := none, data := .set #[] 0 (.fresh 0 0 led) } := y0e _ rfl
   have ty : Shared.TypeIs { s with heap := s.heap.push { cls := .type "set", dict := none, data := .set #[] 0 (.fresh 0 0 led) } } (.ref s.heap.objs.size) "set" := ⟨_, at0, rfl⟩
   have i1 := F.called_set.init.lookup
   have i2 := F.called_set.init.bind (.ref s.heap.objs.size)
   repeat (any_goals (first | assumption | wp_step))
   refine codeAny_mono (codeAny_call_builtin (R := wants (fun r s2 => r = .none ∧ ∃ h' tk, s2 = { s with heap := h', toks := tk } ∧ SetIs P w h' s.heap.objs.size ks ∧
     (∀ b o, b < s.heap.objs.size → s.heap.get? b = some o → h'.get? b = some o)) E) F.called_set.init.plain F.entry_set_init (check_set_init_1 ty ?_)) fun r2 s2 hr2 => ?_
   ·obtain ⟨ol, ho, hc, nl, hd⟩ := hl
    obtain ⟨oc, od, oda, osl⟩ := ol
    simp only at hc hd
    subst hc; subst hd
    have ho' : (s.heap.push { cls := .type "set", dict := none, data := .set #[] 0 (.fresh 0 0 led) }).get? l = some { cls := .type "list", dict := od, data := .seq its nl, slots := osl } := y03 _ ho
    have b1 := F.sub_list_set
    have b2 := F.sub_list_frozenset
    have b3 : (Value.type "list" == Value.type "dict") = false := by decide
    have hl1 : (s.heap.push { cls := .type "set", dict := none, data := .set #[] 0 (.fresh 0 0 led) }).IsList l its := ⟨_, ho', rfl, nl, rfl⟩
    unfold Builtin.«set.__init__» noKeywords Builtin.Frozenset.updateFrom
    generalize hPI : pyIter = PI
    wp_walk
    subst hPI
    refine wpAny_pyIter_list hl1 ?_
    refine wpAny_bind (wpAny_runValue ?_)
    have ll : l < s.heap.objs.size := y0d ho
    have h3 : A.in1.in1.in1.handled = none := by simp [hh]
    have ne : l ≠ (s.heap.push { cls := .type "set", dict := none, data := .set #[] 0 (.fresh 0 0 led) }).objs.size := by rw [y16]; exact y0l (y36 ll)
    have nf : s.heap.objs.size ∉ [(s.heap.push { cls := .type "set", dict := none, data := .set #[] 0 (.fresh 0 0 led) }).objs.size, l] := by
     rw [y16]
     intro z
     rcases y05.mp z with z | z
     ·exact absurd z (y0l (y2u _))
     ·exact absurd (y0o.mp z) (y26 ll)
    refine zm2 ((Walks.list h3 _ l ne its).toS) s.heap.objs.size nf ks hk (fun i v pv k e => hi i v k pv e) hb (its.size - 0) 0 _ (by omega) (y1b _) ⟨⟨_, y0e _ rfl, rfl, rfl⟩, (hl1.push _)⟩ ?x0 ?q0
    case x0 =>
     refine SetIs.kept (h := s.heap.push { cls := .type "set", dict := none, data := .set #[] 0 (.fresh 0 0 led) }) ?_ fun o e => y03 _ e
     rw [List.take_zero]
     exact SetOf_congr ((setObjOf_fresh (knd := mixKind P w) led).setOf at0 (by unfold scanBound; omega)) (fun _ => rfl) rfl
    case q0 =>
     intro s' mv x'
     obtain ⟨h', g', d', tk', os'⟩ := s'
     have eg : g' = s.gens := mv.gens
     have ed : d' = s.drawn := mv.drawn
     have eo : os' = s.os := mv.os
     subst eg; subst ed; subst eo
     refine wpAny_pure (wpAny_pure ⟨rfl, h', tk', rfl, x', fun b o hb e => mv.heap b o ?_ (y03 _ (y03 _ e))⟩)
     rw [y16]
     intro z
     rcases y05.mp z with z | z
     ·exact absurd z (y0l hb)
     ·exact absurd (y0o.mp z) (y0l (y36 hb))
   ·cases r2 with
    | error e => exact hr2
    | ok f2 =>
     cases f2 with
     | ret r =>
      obtain ⟨rfl, h', tk, rfl, x', k'⟩ := hr2
      repeat (any_goals (first | assumption | wp_step))
      exact h _ _ x' k'
     | _ => exact hr2.elim
  | _ => exact hr.elim
end
def setK (P : Program) (w : World) (a : Addr) (ks : List Key) : HO := .ext fun h => SetIs P w h a ks
theorem zjq {X : Cx} (hc : X.calm = true) : CallR X (.type "set") (fun xs H Q => ∃ (p : Addr) (ks : List Key), xs = [.ref p] ∧ SqL X.K H p (ks.map kV) ∧ ks.length ≤ 1000 ∧ ∀ a, H a = none → Q (.ref a) (upd H a (setK X.prog X.w a ks))) := by
 intro pins s σ H xs us Q I r h
 obtain ⟨p, ks, rfl, hx, hz, q⟩ := h
 obtain ⟨u, rfl, rx⟩ := vals1 r
 cases (show u = Value.ref p from rx)
 obtain ⟨vs, rv, pl, _⟩ := I.list hx
 have lv := rv.length
 rw [y01] at lv
 refine ziv (ks := ks) (I.ok.hd hc) pl.isList (by rw [y07]; exact lv) (fun i v k e1 e2 => ?_) (by rw [y07]; unfold scanBound; omega) fun h' tk x k => ?_
 ·have e1' : vs[i]? = some v := by simpa using e1
  obtain ⟨u, e, q⟩ := rv.get (i := i) (x := kV k) (by rw [y04, e2]; rfl)
  rw [e1'] at e
  cases e
  exact zob q
 ·refine ⟨.ref s.heap.objs.size, _, I.laid (t' := tk) (fun b u e => k b u (y0d e) e) (y06 _) ?_, rfl, q _ I.fresh⟩
  obtain ⟨o, es, ep, t, ho, rest⟩ := id x
  exact ⟨x, ⟨o, ho⟩, fun h1 h2 x1 k1 => x1.kept k1⟩
theorem zg2 {X : Cx} : CallR X (.builtin "len") (fun xs H Q => ∃ (p : Addr) (ks : List Key), xs = [.ref p] ∧ H p = some (setK X.prog X.w p ks) ∧ ks.length ≤ 1000 ∧ Q (.int ((onceK [] ks).length : Int)) H) := by
 intro pins s σ H xs us Q I r h
 obtain ⟨p, ks, rfl, hx, hz, q⟩ := h
 obtain ⟨u, rfl, rx⟩ := vals1 r
 cases (show u = Value.ref p from rx)
 obtain ⟨x, _⟩ := I.hok p _ hx
 obtain ⟨o, es, ep, t, ho, hex, hd, _, _, _, hf, hn⟩ := x
 have room := zc3 ks []
 rw [y0v] at room
 refine call_len_set ho hex hd hf (by rw [hn]; omega) ?_
 rw [hn]
 exact ⟨.int _, H, I.tok _, ⟨_, rfl⟩, q⟩
structure New (H : Hp) (p : Addr) (o : HO) (H' : Hp) : Prop where
 nil : H p = none
 g : Same H H'
 at' : H' p = some o
 eq : H' = upd H p o
theorem New.mk' {H : Hp} {p : Addr} (h : H p = none) (o : HO) : New H p o (upd H p o) := ⟨h, za4 h o, zar, rfl⟩
theorem New.lst {K : Frag} {H H' : Hp} {p : Addr} {xs : List V} (n : New H p (.lst xs) H') : SqL K H' p xs := .of n.at'
theorem Same.wr {H H' : Hp} {p : Addr} (g : Same H H') (h : H p = none) (o : HO) : Same H (upd H' p o) := fun b u e => by rw [zal (zao e h)]; exact g b u e
section
variable {X : Cx} {e : Expr} {es : List Expr} {t : TA} {pos : Pos}
def tTupN (t : TA) : TE := fun σ H Q => t σ H fun xs H1 => xs.length ≤ sizeLine ∧ ∀ p H', New H1 p (.tup xs) H' → Q (.ref p) H'
def tLstN (t : TA) : TE := fun σ H Q => t σ H fun xs H1 => xs.length ≤ sizeLine ∧ ∀ p H', New H1 p (.lst xs) H' → Q (.ref p) H'
theorem zbc {x1} (h : PA X es t) : PE X (.Tuple es x1 pos) (tTupN t) := by
 intro pins s σ H Q I hq
 refine wpAny_Tuple_spliced (thn (h pos pins s σ H _ I hq) fun us s1 ⟨xs, H1, I1, r, z, q⟩ => ⟨by rw [← r.length]; exact z, ?_⟩)
 refine ⟨.ref s1.heap.objs.size, upd H1 s1.heap.objs.size (.tup xs), I1.laid (t' := s1.toks) (fun b u e => y03 _ e) (y06 _) ?_, rfl, q _ _ (.mk' I1.fresh _)⟩
 exact ⟨z, us, r, ⟨_, y0e _ rfl, rfl, _, rfl⟩⟩
theorem zas (h : PA X es t) : PE X (.List es pos) (tLstN t) := by
 intro pins s σ H Q I hq
 refine wpAny_List_spliced (thn (h pos pins s σ H _ I hq) fun us s1 ⟨xs, H1, I1, r, z, q⟩ => ⟨by rw [← r.length]; exact z, ?_⟩)
 refine ⟨.ref s1.heap.objs.size, upd H1 s1.heap.objs.size (.lst xs), I1.laid (t' := s1.toks) (fun b u e => y03 _ e) (y06 _) ?_, rfl, q _ _ (.mk' I1.fresh _)⟩
 exact ⟨z, us, 0, r, y0e _ rfl⟩
def rSlLN (K : Frag) : V → Option Int → Option Int → Hp → VK → Prop := fun x lo hi H Q => ∃ a xs, x = .ref a ∧ SqL K H a xs ∧ ∀ p H', New H p (.lst (cutL xs lo hi)) H' → Q (.ref p) H'
theorem zpx : SlR X (rSlLN X.K) := fun pins s σ H x v vl vu lo hi sl Q I rx hs pl pu h => by
 obtain ⟨a, xs, e, hx, q⟩ := h
 exact zsv pins s σ H x v vl vu lo hi sl Q I rx hs pl pu ⟨a, xs, e, hx, fun p np => q p _ (.mk' np _)⟩
def rCatN : R2 := fun x y H Q => ∃ l b xs zs, x = .ref l ∧ y = .ref b ∧ H l = some (.lst xs) ∧ H b = some (.lst zs) ∧ xs.length + zs.length ≤ sizeLine ∧ ∀ p H', New H p (.lst (xs ++ zs)) H' → Q (.ref p) H'
theorem zce : OpR X (binaryOp .Add) rCatN := fun pins s σ H x y v u Q I rx ry h => by
 obtain ⟨l, b, xs, zs, e1, e2, h1, h2, hz, q⟩ := h
 exact op_cat pins s σ H x y v u Q I rx ry ⟨l, b, xs, zs, e1, e2, h1, h2, hz, fun p np => q p _ (.mk' np _)⟩
theorem zg1 : CallR X (.type "list") (fun xs H Q => ∃ p ys, xs = [.ref p] ∧ (SqL X.K H p ys ∨ SqT X.K H p ys) ∧ ∀ l H', New H l (.lst ys) H' → Q (.ref l) H') := fun pins s σ H xs us Q I r h => by
 obtain ⟨p, ys, e, hq, q⟩ := h
 exact zie pins s σ H xs us Q I r ⟨p, ys, e, hq, fun l nl => q l _ (.mk' nl _)⟩
theorem zax : CallR X (.type "tuple") (fun xs H Q => ∃ p ys, xs = [.ref p] ∧ ((SqL X.K H p ys ∧ ∀ l H', New H l (.tup ys) H' → Q (.ref l) H') ∨ (SqT X.K H p ys ∧ Q (.ref p) H))) := fun pins s σ H xs us Q I r h => by
 obtain ⟨p, ys, e, hq⟩ := h
 refine zgz pins s σ H xs us Q I r ⟨p, ys, e, ?_⟩
 rcases hq with ⟨h1, q⟩ | h1
 ·exact .inl ⟨h1, fun l nl => q l _ (.mk' nl _)⟩
 ·exact .inr h1
theorem zid (hc : X.calm = true) : CallR X (.type "set") (fun xs H Q => ∃ (p : Addr) (ks : List Key), xs = [.ref p] ∧ SqL X.K H p (ks.map kV) ∧ ks.length ≤ 1000 ∧ ∀ a H', New H a (setK X.prog X.w a ks) H' → Q (.ref a) H') := fun pins s σ H xs us Q I r h => by
 obtain ⟨p, ks, e, hx, hz, q⟩ := h
 exact zjq hc pins s σ H xs us Q I r ⟨p, ks, e, hx, hz, fun a na => q a _ (.mk' na _)⟩
end
section
variable {tn : List Str} {cp : T6} {g : TG} {tif : TT} {te : TE} {σ0 : St} {Q : VK} {H1 : Hp} {K : Frag} {a : Addr} {xs : List V}
def PMap (S : St → Prop) (f : V → V) (xs : List V) (H1 : Hp) (i : Nat) (ys : List V) (σ : St) (H : Hp) : Prop := Same H1 H ∧ S σ ∧ ys = (xs.take i).map f
theorem zgx (S : St → Prop) (f : V → V) (hn : xs.length ≤ 1000) (hS : SqL K H1 a xs) (h0 : S (stB tn cp σ0))
  (hs : ∀ D i σ H x, i < xs.length → x ∈ xs → xs[i]? = some x → Same H1 H → H1 D = none → H D = some (.lst ((xs.take i).map f)) → S σ → g x σ H fun σ2 H2 => tif σ2 H2 fun c H3 =>
   if c = true then te σ2 H3 fun y H4 => CStep D xs.length i (PMap S f xs H1) σ2 y H4 else CSkip D xs.length i (PMap S f xs H1) σ2 H3)
  (hd : ∀ D H, H1 D = none → Same H1 H → H D = some (.lst (xs.map f)) → Q (.ref D) H) : cBody tn cp g tif te σ0 Q (Itl K a) H1 := by
 refine zgy (K := K) (a := a) (xs := xs) (fun D i ys σ H => PMap S f xs H1 i ys σ H) (zab hn) (fun D hD => ⟨za4 hD _, h0, rfl⟩) (fun D i ys σ H _ _ _ p => p.1.seq hS) ?_ ?_
 ·rintro D i ys σ H x hD hi hx hH hl ⟨p1, p2, rfl⟩
  exact hs D i σ H x hi (y0h hx) hx p1 hD hH p2
 ·rintro D ys σ H hD hH hl ⟨p1, p2, rfl⟩
  rw [y0n (y06 _)] at hH
  exact hd D H hD p1 hH
theorem zh9 (S : St → Prop) (f : V → V) (hn : xs.length ≤ 1000) (hS : SqT K H1 a xs) (h0 : S (stB tn cp σ0))
  (hs : ∀ D i σ H x, i < xs.length → x ∈ xs → xs[i]? = some x → Same H1 H → H1 D = none → H D = some (.lst ((xs.take i).map f)) → S σ → g x σ H fun σ2 H2 => tif σ2 H2 fun c H3 =>
   if c = true then te σ2 H3 fun y H4 => CStep D xs.length i (PMap S f xs H1) σ2 y H4 else CSkip D xs.length i (PMap S f xs H1) σ2 H3)
  (hd : ∀ D H, H1 D = none → Same H1 H → H D = some (.lst (xs.map f)) → Q (.ref D) H) : cBody tn cp g tif te σ0 Q (Itt K a) H1 := by
 refine zsh (K := K) (a := a) (xs := xs) (fun D i ys σ H => PMap S f xs H1 i ys σ H) (zab hn) (fun D hD => ⟨za4 hD _, h0, rfl⟩) (fun D i ys σ H _ _ _ p => p.1.seqT hS) ?_ ?_
 ·rintro D i ys σ H x hD hi hx hH hl ⟨p1, p2, rfl⟩
  exact hs D i σ H x hi (y0h hx) hx p1 hD hH p2
 ·rintro D ys σ H hD hH hl ⟨p1, p2, rfl⟩
  rw [y0n (y06 _)] at hH
  exact hd D H hD p1 hH
theorem zcb {S : St → Prop} {f : V → V} {D : Addr} {i : Nat} {x y : V} {σ2 : St} {H4 : Hp} (hn : xs.length ≤ 1000) (hx : xs[i]? = some x) (hD : H1 D = none) (h4 : H4 D = some (.lst ((xs.take i).map f))) (g4 : Same H1 H4) (s2 : S σ2) (e : y = f x) :
  CStep D xs.length i (PMap S f xs H1) σ2 y H4 := by
 have hi : i < xs.length := (y0b.mp hx).1
 refine cstep (zab hn) hi h4 (by rw [y01, y0w]; omega) ⟨g4.wr hD _, s2, ?_⟩
 rw [y1g, hx, y0z, e]
 rfl
def PFil (S : St → Prop) (p : V → Bool) (f : V → V) (xs : List V) (H1 : Hp) (i : Nat) (ys : List V) (σ : St) (H : Hp) : Prop := Same H1 H ∧ S σ ∧ ys = ((xs.take i).filter p).map f
theorem zo9 (S : St → Prop) (p : V → Bool) (f : V → V) (hn : xs.length ≤ 1000) (hS : SqL K H1 a xs) (h0 : S (stB tn cp σ0))
  (hs : ∀ D i σ H x, i < xs.length → x ∈ xs → xs[i]? = some x → Same H1 H → H1 D = none → H D = some (.lst (((xs.take i).filter p).map f)) → S σ → g x σ H fun σ2 H2 => tif σ2 H2 fun c H3 =>
   if c = true then te σ2 H3 fun y H4 => CStep D xs.length i (PFil S p f xs H1) σ2 y H4 else CSkip D xs.length i (PFil S p f xs H1) σ2 H3)
  (hd : ∀ D H, H1 D = none → Same H1 H → H D = some (.lst ((xs.filter p).map f)) → Q (.ref D) H) : cBody tn cp g tif te σ0 Q (Itl K a) H1 := by
 refine zgy (K := K) (a := a) (xs := xs) (fun D i ys σ H => PFil S p f xs H1 i ys σ H) (zab hn) (fun D hD => ⟨za4 hD _, h0, rfl⟩) (fun D i ys σ H _ _ _ p => p.1.seq hS) ?_ ?_
 ·rintro D i ys σ H x hD hi hx hH hl ⟨p1, p2, rfl⟩
  exact hs D i σ H x hi (y0h hx) hx p1 hD hH p2
 ·rintro D ys σ H hD hH hl ⟨p1, p2, rfl⟩
  rw [y0n (y06 _)] at hH
  exact hd D H hD p1 hH
theorem cf_tup (S : St → Prop) (p : V → Bool) (f : V → V) (hn : xs.length ≤ 1000) (hS : SqT K H1 a xs) (h0 : S (stB tn cp σ0))
  (hs : ∀ D i σ H x, i < xs.length → x ∈ xs → xs[i]? = some x → Same H1 H → H1 D = none → H D = some (.lst (((xs.take i).filter p).map f)) → S σ → g x σ H fun σ2 H2 => tif σ2 H2 fun c H3 =>
   if c = true then te σ2 H3 fun y H4 => CStep D xs.length i (PFil S p f xs H1) σ2 y H4 else CSkip D xs.length i (PFil S p f xs H1) σ2 H3)
  (hd : ∀ D H, H1 D = none → Same H1 H → H D = some (.lst ((xs.filter p).map f)) → Q (.ref D) H) : cBody tn cp g tif te σ0 Q (Itt K a) H1 := by
 refine zsh (K := K) (a := a) (xs := xs) (fun D i ys σ H => PFil S p f xs H1 i ys σ H) (zab hn) (fun D hD => ⟨za4 hD _, h0, rfl⟩) (fun D i ys σ H _ _ _ p => p.1.seqT hS) ?_ ?_
 ·rintro D i ys σ H x hD hi hx hH hl ⟨p1, p2, rfl⟩
  exact hs D i σ H x hi (y0h hx) hx p1 hD hH p2
 ·rintro D ys σ H hD hH hl ⟨p1, p2, rfl⟩
  rw [y0n (y06 _)] at hH
  exact hd D H hD p1 hH
theorem zjn {S : St → Prop} {p : V → Bool} {f : V → V} {D : Addr} {i : Nat} {x y : V} {σ2 : St} {H4 : Hp} (hn : xs.length ≤ 1000) (hx : xs[i]? = some x) (hp : p x = true) (hD : H1 D = none) (h4 : H4 D = some (.lst (((xs.take i).filter p).map f))) (g4 : Same H1 H4) (s2 : S σ2) (e : y = f x) :
  CStep D xs.length i (PFil S p f xs H1) σ2 y H4 := by
 have hi : i < xs.length := (y0b.mp hx).1
 refine cstep (zab hn) hi h4 ?_ ⟨g4.wr hD _, s2, ?_⟩
 ·rw [y01]
  have := y1i p (xs.take i)
  rw [y0w] at this
  omega
 ·rw [y1g, hx, y2o, y0z, e]
  simp [hp]
theorem zjo {S : St → Prop} {p : V → Bool} {f : V → V} {D : Addr} {i : Nat} {x : V} {σ2 : St} {H3 : Hp} (hx : xs[i]? = some x) (hp : p x = false) (h3 : H3 D = some (.lst (((xs.take i).filter p).map f))) (g3 : Same H1 H3) (s2 : S σ2) :
  CSkip D xs.length i (PFil S p f xs H1) σ2 H3 := by
 have hi : i < xs.length := (y0b.mp hx).1
 refine cskip hi h3 ?_ ⟨g3, s2, ?_⟩
 ·rw [y01]
  have := y1i p (xs.take i)
  rw [y0w] at this
  omega
 ·rw [y1g, hx, y2o]
  simp [hp]
end
end L2
namespace SS
open PySem PySem.Spec PyProof.Rows L2
def SMALL : Str := "abcdefghijklmnopqrstuvwxyz"
def GREAT : Str := "ABCDEFGHIJKLMNOPQRSTUVWXYZ"
def FIGS : Str := "0123456789"
def signIn (c : Nat) (z : Str) : Bool := !(Builtin.Str.occurrences z ⟨#[c]⟩ 0 z.length 1).isEmpty
def nameB (z letters : Str) : Bool := match z.cps.toList with
 | [] => false
 | c :: r => decide (r.length ≤ 3) && signIn c letters && r.all fun d => signIn d FIGS
def isNm (x : V) (letters : Str) : Bool := match x with
 | .str z => nameB z letters
 | _ => false
def zsr : Sp := fun vs H Q _ => ∃ x letters k, vs = [x, .str letters] ∧ Kd H x k ∧ (∀ z, x = .str z → z.length ≤ 1000) ∧ ∀ H', Same H H' → Q (.bl (isNm x letters)) H'
def zga (letters : Str) : Sp := fun vs H Q _ => ∃ x k, vs = [x] ∧ Kd H x k ∧ (∀ z, x = .str z → z.length ≤ 1000) ∧ ∀ H', Same H H' → Q (.bl (isNm x letters)) H'
structure Nam (z letters : Str) : Prop where
 ex : ∃ d ds, z.cps.toList = d :: ds ∧ d ∈ letters.cps.toList ∧ ds.length ≤ 3 ∧ ∀ x ∈ ds, x ∈ FIGS.cps.toList
theorem zm1 (c : Nat) (z : Str) : signIn c z = decide (c ∈ z.cps.toList) := PySem.StrLaws.found_one z c
def Thing (H : Hp) (y : V) : Prop := (∃ k, Kd H y k) ∧ ∀ z, y = .str z → z.length ≤ 1000
theorem Thing.same {H H' : Hp} {y : V} (h : Thing H y) (g : Same H H') : Thing H' y := ⟨let ⟨k, q⟩ := h.1; ⟨k, q.same g⟩, h.2⟩
theorem Thing.str {H : Hp} {z : Str} (h : z.length ≤ 1000) : Thing H (.str z) := ⟨⟨_, .str z⟩, fun z' e => by cases e; exact h⟩
theorem Thing.tup {H : Hp} {a : Addr} {xs : List V} (e : H a = some (.tup xs)) : Thing H (.ref a) := ⟨⟨_, .tup e⟩, fun z' e => by cases e⟩
def isName (x : V) : Bool := isNm x SMALL || isNm x GREAT
def zpw : Sp := fun vs H Q _ => ∃ x, vs = [x] ∧ Thing H x ∧ ∀ H', Same H H' → Q (.bl (isName x)) H'
theorem zdo {x : V} (h : isName x = true) : ∃ z, x = .str z := by
 cases x with
 | str z => exact ⟨z, rfl⟩
 | _ => exact absurd h (by simp [isName, isNm])
def frameB (xs : List V) : Bool := decide (xs.length ≤ 4) && xs.all isName && decide xs.Nodup
def frB (H : Hp) (x : V) : Bool := match x with
 | .ref a => match H a with
  | some (.lst xs) => frameB xs
  | _ => false
 | _ => false
def Things (H : Hp) (xs : List V) : Prop := xs.length ≤ 1000 ∧ ∀ y ∈ xs, Thing H y
def zst : Sp := fun vs H Q _ => ∃ x, vs = [x] ∧ Thing H x ∧ (∀ a xs, x = .ref a → H a = some (.lst xs) → Things H xs) ∧ ∀ H', Same H H' → Q (.bl (frB H x)) H'
theorem zf0 : ∀ {xs : List V}, xs.all isName = true → ∃ ks : List Key, xs = ks.map kV ∧ (xs.Nodup ↔ ks.Nodup)
 | [], _ => ⟨[], rfl, by simp⟩
 | x :: r, h => by
  rw [y1o, y08] at h
  obtain ⟨z, rfl⟩ := zdo h.1
  obtain ⟨ks, e, n⟩ := zf0 h.2
  refine ⟨Sum.inr z :: ks, by rw [y0k, ← e]; rfl, ?_⟩
  rw [y0y, y0y, n]
  refine and_congr_left fun _ => not_congr ?_
  rw [e, y0m]
  constructor
  ·rintro ⟨k, hk, e⟩
   have : k = Sum.inr z := kV_inj (e.trans rfl)
   exact this ▸ hk
  ·exact fun hk => ⟨_, hk, rfl⟩
def zmv (K : Frag) : Sp := fun vs H Q _ => ∃ (a : Addr) (ns : List Int) (k : Int), vs = [.ref a, .int k] ∧ SqL K H a (ns.map V.int) ∧ 0 ≤ k ∧ ∀ c, Q (.int c) H
theorem zrl {α β : Type} (f : α → β) (xs : List α) (lo hi : Option Int) : cutL (xs.map f) lo hi = (cutL xs lo hi).map f := by
 unfold cutL
 rw [y01, List.map_take, List.map_drop]
end SS
namespace L2
section
variable {X : Cx} {k : Nat} {H : Hp} {a b : Addr} {xs ys : List V}
theorem zot (a b : Str) : eqV (.str a) (.str b) = decide (a = b) := by
 by_cases h : a = b
 ·subst h; simp [eqV]
 ·simp [eqV, h]
theorem zpp : ∀ (xs ys : List Str), (xs.length == ys.length && (List.range xs.length).all fun j => eqV ((xs.map V.str).getD j .non) ((ys.map V.str).getD j .non)) = decide (xs = ys)
 | [], [] => rfl
 | [], y :: ys => by simp
 | x :: xs, [] => by simp
 | x :: xs, y :: ys => by
  have ih := zpp xs ys
  have e : (List.range (x :: xs).length).all (fun j => eqV (((x :: xs).map V.str).getD j .non) (((y :: ys).map V.str).getD j .non)) =
    (decide (x = y) && (List.range xs.length).all fun j => eqV ((xs.map V.str).getD j .non) ((ys.map V.str).getD j .non)) := by
   rw [y0i, y1x, y1o, y22]
   exact congrArg (· && _) (zot x y)
  rw [e]
  have e2 : ((x :: xs).length == (y :: ys).length) = (xs.length == ys.length) := by simp
  rw [e2]
  by_cases hx : x = y
  ·subst hx
   rw [decide_eq_true rfl, y1a, ih]
   simp
  ·rw [decide_eq_false hx, y1k, y1q]
   simp [hx]
theorem zcf (xs : List Str) : (xs.map V.str).all flatV = true := by
 rw [y0p]
 intro x hx
 obtain ⟨z, _, rfl⟩ := y0m.mp hx
 rfl
def rNeS (K : Frag) : R2 := fun x y H Q => ∃ (a b : Addr) (xs ys : List Str), x = .ref a ∧ y = .ref b ∧ SqL K H a (xs.map V.str) ∧ SqL K H b (ys.map V.str) ∧ Q (.bl (!decide (xs = ys))) H
theorem op_neS (hu : X.A.units + 8 < cLine) : OpR X (compareOp .NotEq) (rNeS X.K) := by
 infer_instance
 obtain ⟨a, b, xs, ys, rfl, rfl, h1, h2, q⟩ := h
 cases (show v = Value.ref a from rx)
 cases (show u = Value.ref b from ry)
 obtain ⟨us, r1, p1, _⟩ := I.list h1
 obtain ⟨vs, r2, p2, _⟩ := I.list h2
 have l1 := r1.length
 have l2 := r2.length
 have hu' : X.A.units < cLine := by omega
 by_cases hl : us.length = vs.length
 ·have z := SeqAt.RcNeAt.lists (A := X.A) (s := s) (e := fun j => eqV ((xs.map V.str).getD j .non) ((ys.map V.str).getD j .non)) p1.isList p2.isList (by rw [y07, y07]; exact hl) hu' fun j h1 h2 => by
   rw [y07] at h1 h2
   obtain ⟨g1, q1⟩ := r1.at h1
   obtain ⟨g2, q2⟩ := r2.at h2
   have e1 : (xs.map V.str).getD j .non = (xs.map V.str)[j] := by rw [y02, y00 g1]; rfl
   have e2 : (ys.map V.str).getD j .non = (ys.map V.str)[j] := by rw [y02, y00 g2]; rfl
   rw [e1, e2]
   refine zk5 (by simpa using q1) (by simpa using q2) ?_ ?_
   ·exact y0p.mp (zcf xs) _ (y0g g1)
   ·exact y0p.mp (zcf ys) _ (y0g g2)
  have e := zpp xs ys
  rw [y01] at l1 l2
  rw [show (xs.length == ys.length) = true by simp; omega, y1a] at e
  rw [y07, ← l1, e] at z
  exact z _ _ _ _ ⟨.bl (!decide (xs = ys)), H, I, rfl, q⟩
 ·have z := SeqAt.RcNeAt.lists_lengths (A := X.A) (s := s) p1.isList p2.isList (by rw [y07, y07]; simpa using hl) hu'
  have e : decide (xs = ys) = false := decide_eq_false fun h => by rw [h, y01] at l1; rw [y01] at l2; omega
  rw [e] at q
  exact z _ _ _ _ ⟨.bl true, H, I, rfl, q⟩
theorem zp5 (ha : SqL X.K H a xs) (hb : SqL X.K H b []) : RcOk X (k + 1) H (.ref a) (.ref b) (decide (xs = [])) := by
 cases xs with
 | nil =>
  have r := zfr (k := k) ha hb rfl (fun _ => true) fun j h1 _ => by simp at h1
  exact r
 | cons x r => exact zhp ha hb (by simp)
def rSlTN (K : Frag) : V → Option Int → Option Int → Hp → VK → Prop := fun x lo hi H Q => ∃ a xs, x = .ref a ∧ SqT K H a xs ∧
 ¬ (HT.sIx xs.length 0 lo = 0 ∧ HT.sIx xs.length xs.length hi = xs.length) ∧ ∀ p H', New H p (.tup (cutL xs lo hi)) H' → Q (.ref p) H'
theorem zsu : SlR X (rSlTN X.K) := fun pins s σ H x v vl vu lo hi sl Q I rx hs pl pu h => by
 obtain ⟨a, xs, e, hx, hw, q⟩ := h
 exact sl_tup pins s σ H x v vl vu lo hi sl Q I rx hs pl pu ⟨a, xs, e, hx, hw, fun p np => q p _ (.mk' np _)⟩
end
section
variable {K : Frag} {h : Heap} {mg : T1}
theorem glt_mk {x : Str} {p : Addr} {od : Option Addr} {its : Array Value} {n : Nat} {sl : T8} {xs : List V} (X : K.In h) (G : h.Ns mainGlobals mg) (a : PySem.W.nsIn K mainGlobals x = some (some (.ref p)))
  (l : K.lookup p = some ⟨.type "tuple", od, .seq its n, sl⟩) (z : its.size ≤ sizeLine) (r : Vals xs its.toList) : ∃ q, GlV mg x (.ref q) ∧ ∀ H, SqT K H q xs :=
 ⟨p, ⟨_, PySem.W.mg_of X G a, rfl⟩, fun H => .inr ⟨_, its, n, l, rfl, rfl, z, r⟩⟩
end
section
variable {X : Cx} (K : Frag)
theorem zbe (h : X.K = K := by rfl) : OpR X (compareOp .In) (rIn K false) := h ▸ znh
theorem zgo (h : X.K = K := by rfl) : OpR X (compareOp .NotIn) (rIn K true) := h ▸ zhv
theorem zaw (h : X.K = K := by rfl) : IxR X (rIxL K) := h ▸ ztu
theorem zak (h : X.K = K := by rfl) : IxR X (rIxT K) := h ▸ ix_tup
theorem zm0 (h : X.K = K := by rfl) : SlR X (rSlLN K) := h ▸ zpx
theorem zgh (h : X.K = K := by rfl) : SlR X (rSlTN K) := h ▸ zsu
def rLen : List V → Hp → VK → Prop := fun xs H Q => ∃ p ys, xs = [.ref p] ∧ (SqL K H p ys ∨ SqT K H p ys) ∧ Q (.int (List.length ys)) H
theorem zag (h : X.K = K := by rfl) : CallR X (.builtin "len") (rLen K) := h ▸ zig
def rAll : List V → Hp → VK → Prop := fun xs H Q => ∃ (p : Addr) (bs : List Bool), xs = [.ref p] ∧ SqL K H p (bs.map V.bl) ∧ Q (.bl (bs.all id)) H
theorem za9 (hc : X.calm = true) (h : X.K = K := by rfl) : CallR X (.builtin "all") (rAll K) := h ▸ zjt hc
def rSum : List V → Hp → VK → Prop := fun xs H Q => ∃ (p : Addr) (ns : List Int), xs = [.ref p] ∧ SqL K H p (ns.map V.int) ∧ Q (.int ns.sum) H
theorem zdc (hc : X.calm = true) (h : X.K = K := by rfl) : CallR X (.builtin "sum") (rSum K) := h ▸ zic hc
def rListOf : List V → Hp → VK → Prop := fun xs H Q => ∃ p ys, xs = [.ref p] ∧ (SqL K H p ys ∨ SqT K H p ys) ∧ ∀ l H', New H l (.lst ys) H' → Q (.ref l) H'
theorem zfi (h : X.K = K := by rfl) : CallR X (.type "list") (rListOf K) := h ▸ zg1
theorem ztd (hu : X.A.units + 8 < cLine) (h : X.K = K := by rfl) : OpR X (compareOp .NotEq) (rNeS K) := h ▸ op_neS hu
theorem zav {tg l : Expr} {tl : TE} (hl : PE X l tl) (h : X.K = K := by rfl) : PI X tg l (iList K tl) := h ▸ zs6 hl
theorem zb7 {tg l : Expr} {tl : TE} (hl : PE X l tl) (h : X.K = K := by rfl) : PI X tg l (iTup K tl) := h ▸ pi_tup hl
variable {o e : Expr} {es : List Expr} {to : TE} {t : TA} {name : Str} {apos cpos : Pos} {T id : String} {r : V → List V → Hp → VK → Prop}
theorem zc1 (pa : PlainAttrs T) (slot : Slot T name id) (hty : typeOf (.builtin id) = pure (.type "method_descriptor")) (hm : MtR X id r) (ho : PE X o to) (ha : PA X (e :: es) t) (h : X.K = K := by rfl)
  (hbase : attributeBase o name X.env (eval o X.env) = eval o X.env := by rfl)
  (hfew : ((backTo cpos (starEach (e :: es) X.env)).all (fun x => !x.1) && (backToKw cpos (keywordEach [] X.env)).all (fun x => x.1.isSome)
   && decide ((e :: es).length + ([] : List Keyword).length + (if ([] : List Keyword).isEmpty then 0 else 1) < 30)) = true := by rfl)
  (hline : (apos.endLine == cpos.line) = true := by rfl) (h1 : notStar e = true := by rfl) (h2 : es.all notStar = true := by rfl) :
  PE X (.Call (.Attribute o name apos) (e :: es) [] cpos) (tBM K T r to t) := h ▸ pe_bm pa slot hty hm ho ha hbase hfew hline (zay h1) (zbr h2)
end
end L2
namespace SS
open PySem PySem.Spec PyProof.Rows L2
inductive Sy where
 | bare (w n m : Str)
 | neg (s : Sy)
 | two (w : Str) (s t : Sy)
 | qu (w n : Str) (s : Sy)
def rowWords : List Str := ["ahead", "next"]
def treeWords : List Str := ["left", "right", "above"]
def bareWords : List Str := ["in", "same", "within", "ahead", "next", "left", "right", "above"]
def Sy.depth : Sy → Nat
 | .bare _ _ _ => 1
 | .neg s => s.depth + 1
 | .two _ s t => max s.depth t.depth + 1
 | .qu _ _ s => s.depth + 1
def Sy.parts : Sy → Nat
 | .bare _ _ _ => 1
 | .neg s => s.parts + 1
 | .two _ s t => s.parts + t.parts + 1
 | .qu _ _ s => s.parts + 1
inductive Rep (H : Hp) : V → Sy → Prop where
 | bare {a : Addr} {w n m : Str} (hw : w ∈ bareWords) (e : H a = some (.tup [.str w, .str n, .str m])) : Rep H (.ref a) (.bare w n m)
 | neg {a : Addr} {x : V} {s : Sy} (e : H a = some (.tup [.str "not", x])) (h : Rep H x s) : Rep H (.ref a) (.neg s)
 | two {a : Addr} {w : Str} {x y : V} {s t : Sy} (hw : w ∈ (["and", "or"] : List Str)) (e : H a = some (.tup [.str w, x, y])) (h1 : Rep H x s) (h2 : Rep H y t) : Rep H (.ref a) (.two w s t)
 | qu {a : Addr} {w n : Str} {x : V} {s : Sy} (hw : w ∈ (["some", "all"] : List Str)) (e : H a = some (.tup [.str w, .str n, x])) (h : Rep H x s) : Rep H (.ref a) (.qu w n s)
theorem Rep.same {H H' : Hp} {v : V} {s : Sy} (r : Rep H v s) (g : Same H H') : Rep H' v s := by
 induction r with
 | bare hw e => exact .bare hw (g _ _ e)
 | neg e _ ih => exact .neg (g _ _ e) ih
 | two hw e _ _ ih1 ih2 => exact .two hw (g _ _ e) ih1 ih2
 | qu hw e _ ih => exact .qu hw (g _ _ e) ih
theorem Rep.tup {H : Hp} {v : V} {s : Sy} (r : Rep H v s) : ∃ a xs, v = .ref a ∧ H a = some (.tup xs) := by
 cases r with
 | bare hw e => exact ⟨_, _, rfl, e⟩
 | neg e _ => exact ⟨_, _, rfl, e⟩
 | two hw e _ _ => exact ⟨_, _, rfl, e⟩
 | qu hw e _ => exact ⟨_, _, rfl, e⟩
theorem zph : ∀ w ∈ bareWords, inV (.str w) [.str "some", .str "all"] = false := by decide +kernel
theorem zoc : ∀ w ∈ (["and", "or"] : List Str), inV (.str w) [.str "some", .str "all"] = false := by decide +kernel
theorem zms : ∀ w ∈ (["some", "all"] : List Str), inV (.str w) [.str "some", .str "all"] = true := by decide +kernel
theorem zqy : inV (.str "not") [.str "some", .str "all"] = false := by decide +kernel
theorem zbs (z : Str) (l : List Str) : inV (.str z) (l.map V.str) = decide (z ∈ l) := by
 induction l with
 | nil => rfl
 | cons y r ih =>
  have e : inV (.str z) ((y :: r).map V.str) = (eqV (.str y) (.str z) || inV (.str z) (r.map V.str)) := rfl
  rw [e, ih, zot]
  by_cases h : z = y
  ·subst h; simp
  ·have h' : ¬ y = z := fun q => h q.symm
   simp [h, h']
def addAll : List Str → List Str → List Str
 | f, [] => f
 | f, x :: r => addAll (if x ∈ f then f else f ++ [x]) r
def due : Sy → List Str → List Str → List Str
 | .bare _ n m, told, found => addAll found ([n, m].filter fun x => decide (x ∉ told))
 | .neg s, told, found => due s told found
 | .two _ s t, told, found => due t told (due s told found)
 | .qu _ n s, told, found => due s (told ++ [n]) found
def isT (H : Hp) (x : V) : Bool := match x with
 | .ref a => match H a with
  | some (.tup _) => true
  | _ => false
 | _ => false
theorem Kd.isT {H : Hp} {x : V} {k : String} (h : Kd H x k) : subT k "tuple" = isT H x := by
 cases h with
 | lst e => simp only [SS.isT, e]; decide
 | tup e => simp only [SS.isT, e]; decide
 | dK e => simp only [SS.isT, e]; decide
 | _ => rfl
def zb4 : Sp := fun vs H Q _ => ∃ a xs, vs = [.ref a] ∧ H a = some (.tup xs) ∧ xs.length ≤ 1000 ∧ (∀ y ∈ xs, ∃ k, Kd H y k) ∧ ∀ D H', H D = none → Same H H' → H' D = some (.lst (xs.filter (isT H))) → Q (.ref D) H'
def Sy.inner : Sy → List Sy
 | .bare _ _ _ => []
 | .neg s => [s]
 | .two _ s t => [s, t]
 | .qu _ _ s => [s]
theorem Rep.kd {H : Hp} {v : V} {s : Sy} (r : Rep H v s) : Kd H v "tuple" := by
 obtain ⟨a, xs, rfl, e⟩ := r.tup
 exact .tup e
theorem Rep.isT {H : Hp} {v : V} {s : Sy} (r : Rep H v s) : isT H v = true := by
 obtain ⟨a, xs, rfl, e⟩ := r.tup
 simp only [SS.isT, e]
theorem Rep.items {H : Hp} {v : V} {s : Sy} (r : Rep H v s) : ∃ a xs, v = .ref a ∧ H a = some (.tup xs) ∧ xs.length ≤ 3 ∧ (∀ y ∈ xs, ∃ k, Kd H y k) ∧ Paired (Rep H) (xs.filter (SS.isT H)) s.inner := by
 cases r with
 | bare hw e =>
  refine ⟨_, _, rfl, e, y06 _, fun y hy => ?_, .nil⟩
  simp only [y05, y0a, or_false] at hy
  rcases hy with rfl | rfl | rfl <;> exact ⟨_, .str _⟩
 | neg e h =>
  refine ⟨_, _, rfl, e, by simp, fun y hy => ?_, ?_⟩
  ·simp only [y05, y0a, or_false] at hy
   rcases hy with rfl | rfl
   ·exact ⟨_, .str _⟩
   ·exact ⟨_, h.kd⟩
  ·rw [y1s (by simp [SS.isT]), y1r h.isT]
   exact .cons h .nil
 | two hw e h1 h2 =>
  refine ⟨_, _, rfl, e, by simp, fun y hy => ?_, ?_⟩
  ·simp only [y05, y0a, or_false] at hy
   rcases hy with rfl | rfl | rfl
   ·exact ⟨_, .str _⟩
   ·exact ⟨_, h1.kd⟩
   ·exact ⟨_, h2.kd⟩
  ·rw [y1s (by simp [SS.isT]), y1r h1.isT, y1r h2.isT]
   exact .cons h1 (.cons h2 .nil)
 | qu hw e h =>
  refine ⟨_, _, rfl, e, by simp, fun y hy => ?_, ?_⟩
  ·simp only [y05, y0a, or_false] at hy
   rcases hy with rfl | rfl | rfl
   ·exact ⟨_, .str _⟩
   ·exact ⟨_, .str _⟩
   ·exact ⟨_, h.kd⟩
  ·rw [y1s (by simp [SS.isT]), y1s (by simp [SS.isT]), y1r h.isT]
   exact .cons h .nil
def Sy.isBare : Sy → Bool
 | .bare _ _ _ => true
 | _ => false
def zek : Sp := fun vs H Q _ => ∃ v s, vs = [v] ∧ Rep H v s ∧ ∀ H', Same H H' → Q (.bl s.isBare) H'
theorem Paired.at {α β : Type} {R : α → β → Prop} : ∀ {xs : List α} {ys : List β} {i : Nat} {x : α}, Paired R xs ys → xs[i]? = some x → ∃ y, ys[i]? = some y ∧ R x y
 | _, _, _, _, .nil, h => by simp at h
 | _, _, 0, _, .cons h _, e => by simp at e; subst e; exact ⟨_, rfl, h⟩
 | _, _, i + 1, _, .cons _ h, e => by simp only [y0t] at e ⊢; exact Paired.at h e
theorem Paired.len {α β : Type} {R : α → β → Prop} : ∀ {xs : List α} {ys : List β}, Paired R xs ys → xs.length = ys.length
 | _, _, .nil => rfl
 | _, _, .cons _ h => by rw [y0i, y0i, Paired.len h]
theorem ze5 {s t : Sy} (h : t ∈ s.inner) : t.depth < s.depth ∧ t.parts < s.parts := by
 cases s with
 | bare w n m => exact nomatch h
 | neg s => rw [y0o.mp h]; exact ⟨y2u _, y2u _⟩
 | two w s1 s2 =>
  have h : t = s1 ∨ t = s2 := by simpa [Sy.inner] using h
  have e1 : (Sy.two w s1 s2).depth = max s1.depth s2.depth + 1 := rfl
  have e2 : (Sy.two w s1 s2).parts = s1.parts + s2.parts + 1 := rfl
  rcases h with rfl | rfl <;> (rw [e1, e2]; omega)
 | qu w n s => rw [y0o.mp h]; exact ⟨y2u _, y2u _⟩
theorem zeo {α : Type} {xs : List α} (h : 1 ≤ xs.length) : ¬ (HT.sIx xs.length 0 (some 1) = 0 ∧ HT.sIx xs.length xs.length none = xs.length) := fun z => by
 have e : HT.sIx xs.length 0 (some ((1 : Nat) : Int)) = min 1 xs.length := HT.sIx_nat ..
 have e' : HT.sIx xs.length 0 (some 1) = min 1 xs.length := e
 rw [e'] at z
 omega
def isPl (z : Str) : Bool := isNm (.str z) SMALL
def isSt (z : Str) : Bool := isNm (.str z) GREAT
theorem nm_ex {z l : Str} (h : isNm (.str z) l = true) : ∃ c r, z.cps.toList = c :: r ∧ r.length ≤ 3 ∧ c ∈ l.cps.toList ∧ ∀ d ∈ r, d ∈ FIGS.cps.toList := by
 simp only [isNm, nameB] at h
 split at h
 ·cases h
 ·rename_i c r e
  rw [y08, y08, zm1, decide_eq_true_eq, decide_eq_true_eq, y0p] at h
  exact ⟨c, r, e, h.1.1, h.1.2, fun d hd => by have := h.2 d hd; rw [zm1, decide_eq_true_eq] at this; exact this⟩
theorem zly {z : Str} (h : isName (.str z) = true) : isPl z = true ∨ isSt z = true := by
 unfold isName at h
 rw [y2x] at h
 exact h
theorem zrk (w n : Str) (s : Sy) : (Sy.qu w n s).depth = s.depth + 1 ∧ (Sy.qu w n s).parts = s.parts + 1 := ⟨rfl, rfl⟩
end SS
namespace L2
section
variable {P : Program} {w : World} {A : Around} {E : T0} {s : Shared}
theorem zbd {j t : Addr} {k : Nat} {its : Array Value} {y : Value} {Q : T0} (st : s.heap.IsTupleIter j t k) (tp : s.heap.IsTuple t its) (hy : its[k]? = some y)
  (q : ∀ h', h'.IsTupleIter j t (k + 1) → Heap.SameBut j s.heap h' → Q y { s with heap := h' }) : wpAny (model P w) A (Builtin.SmallTypes.nextOf (.ref j)) Q E s := by
 obtain ⟨oj, gj, cj, dj⟩ := id st
 obtain ⟨ot, gt, _, nt, dt⟩ := tp
 unfold Builtin.SmallTypes.nextOf
 refine wpAny_bind (wpAny_callSpecial?_slot (name := Str.ofString "__next__") st.typeIs F.slot_tuple_iterator_next (wpAny_call_entry F.slot_tuple_iterator_next st.typeIs F.entry_tuple_iterator_next ?_ (F.args_tuple_iterator_next_1 _)))
 show wpAny _ _ (field (.ref j) 0 >>= _) _ _ s
 refine wpAny_bind (wpAny_field gj dj (x := .ref t) rfl ?_)
 show wpAny _ _ (if (Value.ref t == Value.none) = true then _ else _) _ _ s
 rw [if_neg (show ¬ (Value.ref t == Value.none) = true from y0f)]
 show wpAny _ _ (field (.ref j) 1 >>= _) _ _ s
 refine wpAny_bind (wpAny_field gj dj (x := .int k 0) rfl ?_)
 show wpAny _ _ (seqItems? (.ref t) >>= _) _ _ s
 refine wpAny_bind (wpAny_seqItems gt dt ?_)
 simp only [y1l, hy]
 refine wpAny_bind (wpAny_setField gj dj (by simp) (wpAny_pure ⟨y, rfl, wpAny_pure (q _ ?_ (Heap.SameBut.update ..))⟩))
 exact ⟨_, y23 _ gj (Obj.isFreed_of_fields (Obj.data_mapFields dj _)), (Obj.cls_mapFields ..).trans cj, by rw [Obj.data_mapFields dj]; simp [rawInt]⟩
theorem zdl {j t : Addr} {k : Nat} {its : Array Value} {Q : T0} (hh : A.handled = none) (st : s.heap.IsTupleIter j t k) (tp : s.heap.IsTuple t its) (hy : its[k]? = none)
  (q : ∀ h' e, Heap.ExtBut j s.heap h' → (∃ o, h'.get? e = some o ∧ o.cls = .type "StopIteration") → E (.ref e) { s with heap := h' }) : wpAny (model P w) A (Builtin.SmallTypes.nextOf (.ref j)) Q E s := by
 obtain ⟨oj, gj, cj, dj⟩ := id st
 obtain ⟨ot, gt, _, nt, dt⟩ := tp
 unfold Builtin.SmallTypes.nextOf
 refine wpAny_bind (wpAny_callSpecial?_slot (name := Str.ofString "__next__") st.typeIs F.slot_tuple_iterator_next (wpAny_call_entry F.slot_tuple_iterator_next st.typeIs F.entry_tuple_iterator_next ?_ (F.args_tuple_iterator_next_1 _)))
 show wpAny _ _ (field (.ref j) 0 >>= _) _ _ s
 refine wpAny_bind (wpAny_field gj dj (x := .ref t) rfl ?_)
 show wpAny _ _ (if (Value.ref t == Value.none) = true then _ else _) _ _ s
 rw [if_neg (show ¬ (Value.ref t == Value.none) = true from y0f)]
 show wpAny _ _ (field (.ref j) 1 >>= _) _ _ s
 refine wpAny_bind (wpAny_field gj dj (x := .int k 0) rfl ?_)
 show wpAny _ _ (seqItems? (.ref t) >>= _) _ _ s
 refine wpAny_bind (wpAny_seqItems gt dt ?_)
 simp only [y1l, hy]
 refine wpAny_bind (wpAny_rule (wpAny_bind (wpAny_setField gj dj (by simp) ?_)))
 show wpAny _ _ (newExc (.type "StopIteration") [] >>= _) _ _ _
 refine wpAny_bind ?_
 simp only [newExc, newTuple]
 refine wpAny_bind (wpAny_newObj_type ?_ (by size_fits))
 refine wpAny_bind (m := firstArgMember _ _) (wpAny_of_eq (a := Value.none) (by simp only [firstArgMember]; rfl) ?_)
 refine wpAny_newObj_type ?_ (by size_fits)
 simp only [raiseNew]
 refine wpAny_bind (wpAny_handled ?_)
 rw [show A.in1.handled = none from hh]
 refine wpAny_bind (wpAny_pure (wpAny_throw (q _ _ (((Heap.SameBut.update ..).extBut.push _).push _) ⟨_, y0e _ rfl, rfl⟩)))
end
structure ZipT (h : Heap) (z ti ro j1 j2 t1 t2 : Addr) (f0 : Value) (i : Nat) : Prop where
 z : IsZip h z ti ro f0
 ti : IsPair h ti (.ref j1) (.ref j2)
 ro : ∃ a b, IsPair h ro a b
 j1 : h.IsTupleIter j1 t1 i
 j2 : h.IsTupleIter j2 t2 i
section
variable {P : Program} {w : World} {A : Around} {E : T0} {s : Shared} {z ti ro j1 j2 t1 t2 : Addr} {i : Nat} {its1 its2 : Array Value}
theorem zsk {x y : Value} {Q : T9} (D : ZipApart z ti ro j1 j2 t1 t2) (Z : ZipT s.heap z ti ro j1 j2 t1 t2 .none i) (p1 : s.heap.IsTuple t1 its1) (p2 : s.heap.IsTuple t2 its2) (hx : its1[i]? = some x) (hy : its2[i]? = some y)
  (q : ∀ h', ZipT h' z ti ro j1 j2 t1 t2 (rawInt s.heap.objs.size) (i + 1) → IsPair h' s.heap.objs.size x y → h'.objs.size = s.heap.objs.size + 1 → (∀ c o, c ≠ z → c ≠ ro → c ≠ j1 → c ≠ j2 → s.heap.get? c = some o → h'.get? c = some o) →
   Q (some (.ref s.heap.objs.size)) { s with heap := h' }) : wpAny (model P w) A (pyNext (.ref z)) Q E s := by
 have hT : s.TypeIs (.ref z) "zip" := ⟨_, Z.z, rfl⟩
 obtain ⟨a, b, hro⟩ := Z.ro
 unfold pyNext
 refine wpAny_bind (wpAny_attempt (wpAny_callSpecial?_slot (name := Str.ofString "__next__") hT F.slot_zip_next (wpAny_call_entry F.slot_zip_next hT F.entry_zip_next ?_ (F.args_zip_next_1 _))))
 show wpAny _ _ (field (.ref z) 2 >>= _) _ _ _
 refine wpAny_bind (wpAny_field Z.z rfl (x := .bool false) rfl ?_)
 show wpAny _ _ (field (.ref z) 3 >>= _) _ _ _
 refine wpAny_bind (wpAny_field Z.z rfl (x := .ref ti) rfl ?_)
 refine wpAny_bind (wpAny_seqItems Z.ti rfl ?_)
 show wpAny _ _ (Builtin.SmallTypes.ownedTupleIsFree (.ref z) >>= _) _ _ _
 refine wpAny_bind ?_
 unfold Builtin.SmallTypes.ownedTupleIsFree
 refine wpAny_bind (wpAny_field Z.z rfl (x := .none) rfl (wpAny_pure ?_))
 simp only [if_true]
 refine wpAny_bind (wpAny_rule ?_)
 refine wpAny_bind (wpAny_field Z.z rfl (x := .ref ro) rfl ?_)
 refine wpAny_bind (wpAny_setField_rec Z.z (by simp) fun ha hza hsa => ?_)
 replace hza : IsZip ha z ti ro .ellipsis := hza
 refine wpAny_bind ?_
 simp only [y2i, y2j, y1n, y24]
 refine wpAny_bind (wpAny_bind (wpAny_onRaise ?_))
 exfalso
 refine wpAny_bind (zbd (Z.j1.extBut hsa.extBut D.i1z) (p1.extBut hsa.extBut D.l1z) hx fun hb b1 hsb => wpAny_pure ?_)
 have rob : IsPair hb ro a b := hsb.extBut _ _ D.TOi1 (hsa.extBut _ _ D.TOz hro)
 refine wpAny_bind (wpAny_seqItems rob rfl ?_)
 refine wpAny_bind (wpAny_updateSeq_pair rob fun hc roc hsc => ?_)
 replace roc : IsPair hc ro x b := roc
 refine wpAny_bind (wpAny_letGo (wpAny_pure ?_))
 refine wpAny_bind (wpAny_bind (wpAny_onRaise ?_))
 show wpAny _ _ (Builtin.SmallTypes.nextOf (.ref j2) >>= _) _ _ _
 refine wpAny_bind (zbd (((Z.j2.extBut hsa.extBut D.i2z).extBut hsb.extBut D.i12.symm).extBut hsc.extBut D.TOi2.symm) (((p2.extBut hsa.extBut D.l2z).extBut hsb.extBut D.l2i1).extBut hsc.extBut D.l2TO) hy fun hd d2 hsd => wpAny_pure ?_)
 have rod : IsPair hd ro x b := hsd.extBut _ _ D.TOi2 roc
 refine wpAny_bind (wpAny_seqItems rod rfl ?_)
 refine wpAny_bind (wpAny_updateSeq_pair rod fun he roe hse => ?_)
 replace roe : IsPair he ro x y := roe
 refine wpAny_bind (wpAny_letGo (wpAny_pure (wpAny_pure ?_)))
 refine wpAny_bind (wpAny_seqItems roe rfl ?_)
 refine wpAny_bind (wpAny_newTuple ?_)
 have sz : he.objs.size = s.heap.objs.size := by rw [hse.1, hsd.1, hsc.1, hsb.1, hsa.1]
 have ze : IsZip he z ti ro .ellipsis := hse.extBut _ _ D.TOz.symm (hsd.extBut _ _ D.i2z.symm (hsc.extBut _ _ D.TOz.symm (hsb.extBut _ _ D.i1z.symm hza)))
 have ke : ∀ c o, c ≠ z → c ≠ ro → c ≠ j1 → c ≠ j2 → s.heap.get? c = some o → he.get? c = some o := fun c o c1 c2 c3 c4 e =>
  hse.extBut _ _ c2 (hsd.extBut _ _ c4 (hsc.extBut _ _ c2 (hsb.extBut _ _ c3 (hsa.extBut _ _ c1 e))))
 have e1 : he.IsTupleIter j1 t1 (i + 1) := ((b1.extBut hsc.extBut D.TOi1.symm).extBut hsd.extBut D.i12).extBut hse.extBut D.TOi1.symm
 have e2 : he.IsTupleIter j2 t2 (i + 1) := d2.extBut hse.extBut D.TOi2.symm
 have zlt : z < he.objs.size := y0d ze
 show wpAny _ _ (Builtin.SmallTypes.ownedTupleHandOut (.ref z) (.ref he.objs.size) >>= _) _ _ _
 refine wpAny_bind ?_
 unfold Builtin.SmallTypes.ownedTupleHandOut
 have zf : IsZip (he.push { cls := .type "tuple", data := .seq #[x, y] }) z ti ro .ellipsis := y03 _ ze
 refine wpAny_bind (wpAny_setField_rec zf (by simp) fun hg zg hsg => ?_)
 replace zg : IsZip hg z ti ro (rawInt he.objs.size) := zg
 refine wpAny_setField_rec zg (by simp) fun hk zk hsk => ?_
 replace zk : IsZip hk z ti ro (rawInt he.objs.size) := zk
 have up : ∀ c o, c ≠ z → he.get? c = some o → hk.get? c = some o := fun c o c1 e => hsk.extBut _ _ c1 (hsg.extBut _ _ c1 (y03 _ e))
 have tk : IsPair hk he.objs.size x y := hsk.extBut _ _ (y26 zlt) (hsg.extBut _ _ (y26 zlt) (y0e _ rfl))
 have zk8 : hk.objs.size = he.objs.size + 1 := by rw [hsk.1, hsg.1, y16]
 rw [sz] at zk tk zk8
 refine wpAny_pure ⟨_, rfl, wpAny_pure ?_⟩
 show Q (some (.ref he.objs.size)) _
 rw [sz]
 exact q hk ⟨zk, up _ _ D.TIz (ke _ _ D.TIz D.TITO D.TIi1 D.TIi2 Z.ti), ⟨_, _, up _ _ D.TOz roe⟩, e1.at fun o e => up _ o D.i1z e, e2.at fun o e => up _ o D.i2z e⟩ tk zk8 fun c o c1 c2 c3 c4 e => up c o c1 (ke c o c1 c2 c3 c4 e)
theorem zt_end {Q : T9} (hh : A.handled = none) (D : ZipApart z ti ro j1 j2 t1 t2) (Z : ZipT s.heap z ti ro j1 j2 t1 t2 .none i) (p1 : s.heap.IsTuple t1 its1) (p2 : s.heap.IsTuple t2 its2) (hx : its1[i]? = none)
  (q : ∀ h', (∀ c o, c ≠ z → c ≠ ro → c ≠ j1 → c ≠ j2 → s.heap.get? c = some o → h'.get? c = some o) → Q none { s with heap := h' }) : wpAny (model P w) A (pyNext (.ref z)) Q E s := by
 have hT : s.TypeIs (.ref z) "zip" := ⟨_, Z.z, rfl⟩
 unfold pyNext
 refine wpAny_bind (wpAny_attempt (wpAny_callSpecial?_slot (name := Str.ofString "__next__") hT F.slot_zip_next (wpAny_call_entry F.slot_zip_next hT F.entry_zip_next ?_ (F.args_zip_next_1 _))))
 show wpAny _ _ (field (.ref z) 2 >>= _) _ _ _
 refine wpAny_bind (wpAny_field Z.z rfl (x := .bool false) rfl ?_)
 show wpAny _ _ (field (.ref z) 3 >>= _) _ _ _
 refine wpAny_bind (wpAny_field Z.z rfl (x := .ref ti) rfl ?_)
 refine wpAny_bind (wpAny_seqItems Z.ti rfl ?_)
 show wpAny _ _ (Builtin.SmallTypes.ownedTupleIsFree (.ref z) >>= _) _ _ _
 refine wpAny_bind ?_
 unfold Builtin.SmallTypes.ownedTupleIsFree
 refine wpAny_bind (wpAny_field Z.z rfl (x := .none) rfl (wpAny_pure ?_))
 simp only [if_true]
 refine wpAny_bind (wpAny_rule ?_)
 refine wpAny_bind (wpAny_field Z.z rfl (x := .ref ro) rfl ?_)
 refine wpAny_bind (wpAny_setField_rec Z.z (by simp) fun ha hza hsa => ?_)
 replace hza : IsZip ha z ti ro .ellipsis := hza
 refine wpAny_bind ?_
 simp only [y2i, y2j, y1n, y24]
 refine wpAny_bind (wpAny_bind (wpAny_onRaise ?_))
 exfalso
 refine wpAny_bind (zdl hh (Z.j1.extBut hsa.extBut D.i1z) (p1.extBut hsa.extBut D.l1z) hx fun hb e hsb ⟨oe, ge, ce⟩ => ?_)
 have zb : IsZip hb z ti ro .ellipsis := hsb _ _ D.i1z.symm hza
 have nez : e ≠ z := fun z' => by
  subst z'
  rw [zb] at ge
  cases ge
  simp at ce
 refine wpAny_setField_rec zb (by simp) fun hc _ hsc => ?_
 refine wpAny_bind (wpAny_isInstance (T := "StopIteration") (b := true) ⟨oe, hsc.extBut _ _ nez ge, ce⟩ isSubtype_stop ?_)
 exact wpAny_pure (q _ fun c o c1 _ c3 _ x => hsc.extBut _ _ c1 (hsb _ _ c3 (hsa.extBut _ _ c1 x)))
end
abbrev zt1 (h : Heap) (a : Addr) : Heap := h.push { cls := .type "tuple_iterator", data := .fields #[.ref a, .int 0 0] }
abbrev zt2 (h : Heap) (a b : Addr) : Heap := (zt1 h a).push { cls := .type "tuple_iterator", data := .fields #[.ref b, .int 0 0] }
abbrev zt3 (h : Heap) (a b : Addr) : Heap := (zt2 h a b).push { cls := .type "tuple", data := .seq #[.ref h.objs.size, .ref (zt1 h a).objs.size] }
abbrev zt4 (h : Heap) (a b : Addr) : Heap := (zt3 h a b).push { cls := .type "tuple", data := .seq #[.none, .none] }
abbrev zt5 (h : Heap) (a b : Addr) : Heap := (zt4 h a b).push { cls := .type "zip", data := .fields #[.none, .bool false, .bool false, .ref (zt2 h a b).objs.size, .ref (zt3 h a b).objs.size] }
theorem zt_new (a b : Addr) (xs ys : Array Value) : Meets (Builtin.«zip.__new__» ⟨[.type "zip", .ref a, .ref b], []⟩) (fun _ R s => s.heap.IsTuple a xs ∧ s.heap.IsTuple b ys ∧ R (.ok (.ret (.ref (zt4 s.heap a b).objs.size))) { s with heap := zt5 s.heap a b }) :=
 .of_wp fun prog w A R s h => by
  obtain ⟨hp, g, d, tk, os⟩ := s
  obtain ⟨ha, hb, h⟩ := h
  have hsub := sub_zip
  have hA : Heap.IsTuple (Shared.heap ⟨hp, g, d, tk, os⟩) a xs := ha
  have hB : Heap.IsTuple (Shared.heap ⟨hp.push { cls := .type "tuple_iterator", data := .fields #[.ref a, .int 0 0] }, g, d, tk, os⟩) b ys := by
   obtain ⟨o, e, r⟩ := hb
   exact ⟨o, y03 _ e, r⟩
  wp_walk using wpAny_pyIter_tuple hA, wpAny_pyIter_tuple hB
  exact ⟨_, rfl, h⟩
section
variable {P : Program} {w : World} {A : Around} {E : T0} {s : Shared}
theorem zmm {a b : Addr} {xs ys : Array Value} {Q : T0} (ha : s.heap.IsTuple a xs) (hb : s.heap.IsTuple b ys)
  (q : ∀ h', ZipT h' (s.heap.objs.size + 4) (s.heap.objs.size + 2) (s.heap.objs.size + 3) s.heap.objs.size (s.heap.objs.size + 1) a b .none 0 → h'.objs.size = s.heap.objs.size + 5 → (∀ c o, s.heap.get? c = some o → h'.get? c = some o) → Q (.ref (s.heap.objs.size + 4)) { s with heap := h' }) :
  wpAny (model P w) A (call (.type "zip") [.ref a, .ref b]) Q E s := by
 refine callType_new F.called_zip (by decide) (F.typeCall_zip_2 _ _) (F.newCall_zip_2 _ _) (fun obj => F.args_object_init_3 obj _ _) F.entry_zip_new (zt_new a b xs ys) ⟨ha, hb, ?_⟩
 have s1 : (zt1 s.heap a).objs.size = s.heap.objs.size + 1 := y16 ..
 have s2 : (zt2 s.heap a b).objs.size = s.heap.objs.size + 2 := by rw [y16, s1]
 have s3 : (zt3 s.heap a b).objs.size = s.heap.objs.size + 3 := by rw [y16, s2]
 have s4 : (zt4 s.heap a b).objs.size = s.heap.objs.size + 4 := by rw [y16, s3]
 have s5 : (zt5 s.heap a b).objs.size = s.heap.objs.size + 5 := by rw [y16, s4]
 have k5 : (zt5 s.heap a b).get? (zt4 s.heap a b).objs.size = some _ := y0e _ rfl
 have k4 : (zt5 s.heap a b).get? (zt3 s.heap a b).objs.size = some _ := y03 _ (y0e _ rfl)
 have k3 : (zt5 s.heap a b).get? (zt2 s.heap a b).objs.size = some _ := y03 _ (y03 _ (y0e _ rfl))
 have k2 : (zt5 s.heap a b).get? (zt1 s.heap a).objs.size = some _ := y03 _ (y03 _ (y03 _ (y0e _ rfl)))
 have k1 : (zt5 s.heap a b).get? s.heap.objs.size = some _ := y03 _ (y03 _ (y03 _ (y03 _ (y0e _ rfl))))
 rw [s2, s3, s4] at k5
 rw [s1, s2] at k3
 rw [s3] at k4
 rw [s1] at k2
 show _ ∧ _
 rw [s4]
 exact ⟨⟨_, k5, rfl⟩, q _ ⟨k5, k3, ⟨_, _, k4⟩, ⟨_, k1, rfl, rfl⟩, ⟨_, k2, rfl, rfl⟩⟩ s5 fun c o x => y03 _ (y03 _ (y03 _ (y03 _ (y03 _ x))))⟩
end
section
variable {X : Cx} {pins : T2} {σ : St} {H : Hp} {s : Shared} {h' : Heap}
theorem Inv.turnedL {t' : Nat} {L : List Addr} (I : Inv X pins σ H s) (k : ∀ b o, b ∉ L → s.heap.get? b = some o → h'.get? b = some o) (hL : ∀ b ∈ L, FpOk X pins H b) : Inv X pins σ H { s with heap := h', toks := t' } := by
 have no : ∀ b u, H b = some u → b ∉ L := fun b u e z => by rw [(hL b z).1] at e; cases e
 refine I.step (g' := s.gens) (d' := s.drawn) (ch := L) (fun b hb => ?_) (fun b o _ _ hc e _ => k b o hc e) (fun b o _ _ hc e _ => ⟨o.slots, k b o hc e⟩) (fun _ _ _ _ n => n)
  (fun b o hc e => ⟨o, k b o hc e⟩) (fun _ _ e => e) (fun _ _ _ e => e) (fun _ _ _ e => e) (fun m hm => ?_) (fun b u e => ?_) I.bare
 ·obtain ⟨_, f1, _, f3, f4, f5⟩ := hL b hb
  exact ⟨f3, f1, f4, f5⟩
 ·obtain ⟨o, es, ep, ho, r⟩ := hm
  exact ⟨o, es, ep, k _ o (fun z => (hL _ z).2.1 rfl) ho, r⟩
 ·refine (I.hok b u e).stay (fun c v hc q => k c v ?_ q) (fun _ q => q) (fun _ _ _ _ _ q => q) fun _ _ q => q
  rcases hc with z | z
  ·rw [z]; exact no b u e
  ·exact no c _ z
theorem Inv.turnedNew {t' : Nat} {L : List Addr} {p : Addr} {o : HO} (I : Inv X pins σ H s) (k : ∀ b u, b ∉ L → s.heap.get? b = some u → h'.get? b = some u) (hL : ∀ b ∈ L, FpOk X pins H b) (hp : s.heap.objs.size ≤ p) (new : ObjOk X.prog X.w (upd H p o) h' p o)
  (hl : ∀ b ∈ L, ∃ u, h'.get? b = some u) : Inv X pins σ (upd H p o) { s with heap := h', toks := t' } := by
 have hn : H p = none := I.hok.fresh hp
 have no : ∀ b u, H b = some u → b ∉ L := fun b u e z => by rw [(hL b z).1] at e; cases e
 have ne : ∀ b u, H b = some u → upd H p o b = some u := fun b u e => by rw [zal (zao e hn)]; exact e
 refine I.step (g' := s.gens) (d' := s.drawn) (ch := L) (fun b hb => ?_) (fun b u _ _ hc e _ => k b u hc e) (fun b u _ _ hc e _ => ⟨u.slots, k b u hc e⟩) (fun b u _ e z => ?_)
  (fun b u hc e => ⟨u, k b u hc e⟩) (fun b xs e => ne b _ e) (fun b ob u e => ne b _ e) (fun b _ _ e => ne b _ e) (fun m hm => ?_) (fun b u e => ?_) I.bare
 ·obtain ⟨_, f1, _, f3, f4, f5⟩ := hL b hb
  exact ⟨f3, f1, f4, f5⟩
 ·rw [zal (y0l (y0q (y0d e) hp))]; exact z
 ·obtain ⟨ob, es, ep, ho, r⟩ := hm
  exact ⟨ob, es, ep, k _ ob (fun z => (hL _ z).2.1 rfl) ho, r⟩
 ·by_cases hb : b = p
  ·subst hb; rw [zar] at e; cases e; exact new
  ·rw [zal hb] at e
   refine (I.hok b u e).stay (fun c v hc q => k c v ?_ q) (fun c q => ne c _ q) (fun c _ _ _ _ q => ne c _ q) fun c xs q => ne c _ q
   rcases hc with z | z
   ·rw [z]; exact no b u e
   ·exact no c _ z
end
def Itz (K : Frag) (a b : Addr) : It :=
 ⟨fun i H => ∃ xs ys x y, SqT K H a xs ∧ SqT K H b ys ∧ xs[i]? = some x ∧ ys[i]? = some y,
  fun i H v H' => ∃ p x y, v = .ref p ∧ New H p (.tup [x, y]) H' ∧ (∀ xs, SqT K H a xs → xs[i]? = some x) ∧ ∀ ys, SqT K H b ys → ys[i]? = some y,
  fun i H => ∃ xs ys, SqT K H a xs ∧ SqT K H b ys ∧ xs.length ≤ i⟩
theorem zpu {P : Program} {w : World} {K : Frag} {elts : List Expr} {x1} {tpos : Pos} (z ti ro j1 j2 a b : Addr) (D : ZipApart z ti ro j1 j2 a b) :
  Turn P w K (.Tuple elts x1 tpos) (Itz K a b) [z, ti, ro, j1, j2] z (fun i h => ZipT h z ti ro j1 j2 a b .none i) where
 mem := by simp
 obj := fun i h st c hc => by
  obtain ⟨u, v, hro⟩ := st.ro
  obtain ⟨o1, e1, c1, d1⟩ := st.j1
  obtain ⟨o2, e2, c2, d2⟩ := st.j2
  simp only [y05, y0a, or_false] at hc
  rcases hc with rfl | rfl | rfl | rfl | rfl
  ·exact ⟨_, st.z, fun v q => nomatch q⟩
  ·exact ⟨_, st.ti, fun v q => nomatch q⟩
  ·exact ⟨_, hro, fun v q => nomatch q⟩
  ·exact ⟨_, e1, fun v q => by rw [d1] at q; cases q⟩
  ·exact ⟨_, e2, fun v q => by rw [d2] at q; cases q⟩
 keep := fun i h h' st k => by
  obtain ⟨u, v, hro⟩ := st.ro
  exact ⟨k z (by simp) _ st.z, k ti (by simp) _ st.ti, ⟨u, v, k ro (by simp) _ hro⟩, st.j1.at fun o e => k j1 (by simp) o e, st.j2.at fun o e => k j2 (by simp) o e⟩
 item := by
  ac_rfl
  subst hP hw hK
  obtain ⟨xs, ys, x, y, hx, hy, ex, ey⟩ := hg
  obtain ⟨its1, r1, p1, _⟩ := I.tuple hx
  obtain ⟨its2, r2, p2, _⟩ := I.tuple hy
  obtain ⟨u, hu, ru⟩ := r1.get ex
  obtain ⟨v, hv, rv⟩ := r2.get ey
  have fz := hf z (by simp)
  refine zsk D st (show s.heap.IsTuple a its1.toArray from p1) (show s.heap.IsTuple b its2.toArray from p2) (x := u) (y := v) (by simpa using hu) (by simpa using hv) fun h1 Z1 q1 sz1 k1 => ⟨_, rfl, ?_⟩
  refine wpAny_letOwnedTupleGo_zip Z1.z fun h2 z2 sb2 => ?_
  have hlt : ∀ c ∈ [z, ti, ro, j1, j2], c ≠ s.heap.objs.size := fun c hc => by
   obtain ⟨o, e, _⟩ : ∃ o, s.heap.get? c = some o ∧ True := by
    obtain ⟨u', v', hro⟩ := st.ro
    obtain ⟨o1, e1, _⟩ := st.j1
    obtain ⟨o2, e2, _⟩ := st.j2
    simp only [y05, y0a, or_false] at hc
    rcases hc with rfl | rfl | rfl | rfl | rfl
    ·exact ⟨_, st.z, trivial⟩
    ·exact ⟨_, st.ti, trivial⟩
    ·exact ⟨_, hro, trivial⟩
    ·exact ⟨_, e1, trivial⟩
    ·exact ⟨_, e2, trivial⟩
   exact y0l (y0d e)
  have k2 : ∀ c o, c ∉ [z, ti, ro, j1, j2] → s.heap.get? c = some o → h2.get? c = some o := fun c o hc e => by
   have hz : c ≠ z := fun q => hc (by simp [q])
   exact sb2.extBut _ _ hz (k1 c o hz (fun q => hc (by simp [q])) (fun q => hc (by simp [q])) (fun q => hc (by simp [q])) e)
  have tup2 : h2.get? s.heap.objs.size = some { cls := .type "tuple", data := .seq #[u, v] } := sb2.extBut _ _ (Ne.symm (hlt z (by simp))) q1
  have st2 : ZipT h2 z ti ro j1 j2 a b .none (i + 1) := by
   obtain ⟨u', v', hro⟩ := Z1.ro
   exact ⟨z2, sb2.extBut _ _ D.TIz Z1.ti, ⟨u', v', sb2.extBut _ _ D.TOz hro⟩, Z1.j1.extBut sb2.extBut D.i1z, Z1.j2.extBut sb2.extBut D.i2z⟩
  have there : ∀ c ∈ [z, ti, ro, j1, j2], ∃ o, h2.get? c = some o := fun c hc => by
   obtain ⟨u', v', hro⟩ := st2.ro
   obtain ⟨o1, e1, _⟩ := st2.j1
   obtain ⟨o2, e2, _⟩ := st2.j2
   simp only [y05, y0a, or_false] at hc
   rcases hc with rfl | rfl | rfl | rfl | rfl
   ·exact ⟨_, st2.z⟩
   ·exact ⟨_, st2.ti⟩
   ·exact ⟨_, hro⟩
   ·exact ⟨_, e1⟩
   ·exact ⟨_, e2⟩
  have I2 : Inv X pins σ (upd H s.heap.objs.size (.tup [x, y])) { s with heap := h2, toks := s.toks } := I.turnedNew k2 hf (y06 _) ⟨zab (by simp), [u, v], .cons ru (.cons rv .nil), ⟨_, tup2, rfl, _, rfl⟩⟩ there
  refine ⟨.ref s.heap.objs.size, _, I2, rfl, ⟨_, x, y, rfl, .mk' I.fresh _, fun ws hw => by rw [I.tuple_inj hw hx]; exact ex, fun ws hw => by rw [I.tuple_inj hw hy]; exact ey⟩, st2, fun c hc => ?_⟩
  rw [zal (hlt c hc)]
  exact (hf c hc).1
 done := by
  ac_rfl
  subst hP hw hK
  obtain ⟨xs, ys, hx, hy, hl⟩ := hg
  obtain ⟨its1, r1, p1, _⟩ := I.tuple hx
  obtain ⟨its2, r2, p2, _⟩ := I.tuple hy
  have l1 := r1.length
  exact zt_end (I.ok.hd hc) D st (show s.heap.IsTuple a its1.toArray from p1) (show s.heap.IsTuple b its2.toArray from p2) (by simp; omega) fun h' k => ⟨rfl, I.turnedL (t' := s.toks) (fun c o hc e => k c o (fun q => hc (by simp [q])) (fun q => hc (by simp [q])) (fun q => hc (by simp [q])) (fun q => hc (by simp [q])) e) hf⟩
 self := fun _ _ _ _ _ st h => wpAny_pyIter_zip st.z h
def iZip (K : Frag) (ta : TA) : TI := fun σ H R => ta σ H fun vs H1 => ∃ a b, vs = [.ref a, .ref b] ∧ (∃ xs, SqT K H1 a xs) ∧ (∃ ys, SqT K H1 b ys) ∧ R (Itz K a b) H1
theorem pi_zip {X : Cx} {elts : List Expr} {x1} {tpos : Pos} {a b : Expr} {ta : TA} {p pos : Pos} (hg : Gl X "zip") (hm : X.mg "zip" = none) (ha : PA X [a, b] ta) (h1 : notStar a = true := by rfl) (h2 : notStar b = true := by rfl) : PI X (.Tuple elts x1 tpos) (.Call (.Name "zip" p) [a, b] [] pos) (iZip X.K ta) := by
 intro pins s σ H R I h
 have hs2 : starEach [b] X.env = [(false, eval b X.env)] := by rw [zay h2, starEach.eq_def]
 have hs : starEach [a, b] X.env = [(false, eval a X.env), (false, eval b X.env)] := by rw [zay h1, hs2]
 refine Call_ (zc6 I hg hm boot_zip (PyProof.Rows.callWith_type1 (thn (ha pos pins s σ H _ I h) fun us s1 ⟨vs, H1, I1, r1, q1⟩ => ?_) (by rw [hs, hs2]) (by rw [hs2]; rfl)))
 obtain ⟨p1, p2, e, ⟨xs, hx⟩, ⟨ys, hy⟩, q⟩ := q1
 subst e
 obtain ⟨u, v, rfl, ru, rv⟩ := vals2 r1
 cases (show u = Value.ref p1 from ru)
 cases (show v = Value.ref p2 from rv)
 obtain ⟨its1, _, t1, _⟩ := I1.tuple hx
 obtain ⟨its2, _, t2, _⟩ := I1.tuple hy
 have l1 : p1 < s1.heap.objs.size := by obtain ⟨_, e, _⟩ := t1; exact y0d e
 have l2 : p2 < s1.heap.objs.size := by obtain ⟨_, e, _⟩ := t2; exact y0d e
 refine zmm (show s1.heap.IsTuple p1 its1.toArray from t1) (show s1.heap.IsTuple p2 its2.toArray from t2) fun h' Z sz k => wpAny_pyIter_zip Z.z ?_
 refine ⟨_, [s1.heap.objs.size + 4, s1.heap.objs.size + 2, s1.heap.objs.size + 3, s1.heap.objs.size, s1.heap.objs.size + 1], _, _, H1, rfl, I1.kept (t' := s1.toks) k, zpu _ _ _ _ _ p1 p2 (zipApart_new l1 l2), Z, fun c hc => ?_, q⟩
 have hle : s1.heap.objs.size ≤ c := by
  simp only [y05, y0a, or_false] at hc
  rcases hc with rfl | rfl | rfl | rfl | rfl
  ·exact y1c _ _
  ·exact y1c _ _
  ·exact y1c _ _
  ·exact y06 _
  ·exact y1c _ _
 exact I1.fpOk hle (I1.hok.fresh hle)
theorem zs5 {X : Cx} (K : Frag) {elts : List Expr} {x1} {tpos : Pos} {a b : Expr} {ta : TA} {p pos : Pos} (hg : Gl X "zip") (hm : X.mg "zip" = none) (ha : PA X [a, b] ta) (h : X.K = K := by rfl) (h1 : notStar a = true := by rfl) (h2 : notStar b = true := by rfl) :
  PI X (.Tuple elts x1 tpos) (.Call (.Name "zip" p) [a, b] [] pos) (iZip K ta) := h ▸ pi_zip hg hm ha h1 h2
theorem zeu {X : Cx} (K : Frag) {es : List Expr} {k : Nat} {t : TGs} {n : Nat} {pos : Pos} (hc : X.calm = true) (h : PGs X es t) (hK : X.K = K := by rfl)
  (hn : (assignEach es X.env).length = n := by rfl) (hst : (assignEach es X.env).findIdx? (·.1) = none := by rfl) : PG X (.Tuple es k pos) (gTup K n t) := hK ▸ pg_tup hc h hn hst
section
variable {tn : List Str} {cp : T6} {g : TG} {tif : TT} {te : TE} {σ0 : St} {Q : VK} {H1 : Hp} {K : Frag} {a b : Addr} {xs ys : List V}
theorem cz_map (S : St → Prop) (f : Nat → V) (hn : xs.length ≤ 1000) (hl : xs.length = ys.length) (ha : SqT K H1 a xs) (hb : SqT K H1 b ys) (h0 : S (stB tn cp σ0))
  (hs : ∀ D i σ H H' p x y, xs[i]? = some x → ys[i]? = some y → Same H1 H → H1 D = none → H D = some (.lst ((List.range i).map f)) → S σ → New H p (.tup [x, y]) H' → g (.ref p) σ H' fun σ2 H2 => tif σ2 H2 fun c H3 =>
   if c = true then te σ2 H3 fun v H4 => CStep D xs.length i (fun i ws σ H => Same H1 H ∧ S σ ∧ ws = (List.range i).map f) σ2 v H4 else CSkip D xs.length i (fun i ws σ H => Same H1 H ∧ S σ ∧ ws = (List.range i).map f) σ2 H3)
  (hd : ∀ D H, H1 D = none → Same H1 H → H D = some (.lst ((List.range xs.length).map f)) → Q (.ref D) H) : cBody tn cp g tif te σ0 Q (Itz K a b) H1 := by
 refine zmh xs.length (fun D i ws σ H => Same H1 H ∧ S σ ∧ ws = (List.range i).map f) (zab hn) (fun D hD => ⟨za4 hD _, h0, rfl⟩) (fun D i ws σ H hD hi hH p => ⟨xs, ys, xs[i], ys[i], p.1.seqT ha, p.1.seqT hb, by simp [hi], by simp [hl ▸ hi]⟩)
  (fun D ws σ H hD hH p => ⟨xs, ys, p.1.seqT ha, p.1.seqT hb, y06 _⟩) ?_ ?_
 ·rintro D i ws σ H v H' hD hi hH hlw ⟨p1, p2, rfl⟩ ⟨p, x, y, rfl, nw, ex, ey⟩
  exact hs D i σ H H' p x y (ex _ (p1.seqT ha)) (ey _ (p1.seqT hb)) p1 hD hH p2 nw
 ·rintro D ws σ H hD hH hlw ⟨p1, p2, rfl⟩
  exact hd D H hD p1 hH
theorem zjj {S : St → Prop} {f : Nat → V} {D : Addr} {i : Nat} {v : V} {σ2 : St} {H4 : Hp} (hn : xs.length ≤ 1000) (hi : i < xs.length) (hD : H1 D = none) (h4 : H4 D = some (.lst ((List.range i).map f))) (g4 : Same H1 H4) (s2 : S σ2) (e : v = f i) :
  CStep D xs.length i (fun i ws σ H => Same H1 H ∧ S σ ∧ ws = (List.range i).map f) σ2 v H4 := by
 refine cstep (zab hn) hi h4 (by rw [y01, y17]; exact y06 _) ⟨g4.wr hD _, s2, ?_⟩
 rw [y2k, y0z, e]
 rfl
end
def DctK (K : Frag) (w : World) (a : Addr) (f : Str → Option V) : Prop := (a == sysModules) = false ∧ ∃ (es : Array DictEntry) (n : Nat), K.lookup a = some ⟨.type "dict", none, .dict es n, #[]⟩ ∧ PySem.W.KeysLit w.params es.toList ∧ ∀ x, RelO (f x) (findBy Value.isStrOf es x)
section
variable {X : Cx} (K : Frag) (w : World)
def rInD (neg : Bool) : R2 := fun x y H Q => ∃ z a f, x = .str z ∧ y = .ref a ∧ DctK K w a f ∧ Q (.bl (if neg then !(f z).isSome else (f z).isSome)) H
theorem zhu (hK : X.K = K := by rfl) (hw : X.w = w := by rfl) : OpR X (compareOp .NotIn) (rInD K w true) := by
 subst hK hw
 infer_instance
 obtain ⟨z, a, f, rfl, rfl, ⟨lo, es, n, hl, hk, hr⟩, q⟩ := h
 obtain ⟨t, rfl⟩ := rx
 cases (show u = Value.ref a from ry)
 refine wpAny_notIn_of (strKind_is X.prog X.w z t) lo (PySem.W.mapOf_K (prog := X.prog) I.kIn hl hk) ?_
 rw [← (hr z).isSome_eq]
 exact ⟨.bl _, H, I.tok _, rfl, q⟩
def rIxD : R2 := fun x y H Q => ∃ a z f v, x = .ref a ∧ y = .str z ∧ DctK K w a f ∧ f z = some v ∧ Q v H
theorem ix_dct (hK : X.K = K := by rfl) (hw : X.w = w := by rfl) : IxR X (rIxD K w) := by
 subst hK hw
 intro value slice pins s σ H x y v u Q I rx ry h hs
 obtain ⟨a, z, f, r, rfl, rfl, ⟨lo, es, n, hl, hk, hr⟩, e, q⟩ := h
 cases (show v = Value.ref a from rx)
 obtain ⟨t, rfl⟩ := ry
 have hm := PySem.W.mapOf_K (prog := X.prog) I.kIn hl hk
 obtain ⟨w', hw', rw'⟩ := RelO.some_of (v := r) (o := findBy Value.isStrOf es z) (by rw [← e]; exact hr z)
 exact tail_any hm.typeIs slot_dict_getitem.lookup (wpAny_getItem_of (strKind_is X.prog X.w z t) hm hw' ⟨r, H, I.tok _, rw', q⟩) hs
end
section
variable {tn : List Str} {cp : T6} {g : TG} {tif : TT} {te : TE} {σ0 : St} {Q : VK} {H1 : Hp} {K : Frag} {a : Addr} {xs : List V}
theorem zjm (S : St → Prop) (f : Nat → V) (hn : xs.length ≤ 1000) (hS : SqL K H1 a xs) (h0 : S (stB tn cp σ0))
  (hs : ∀ D i σ H x, i < xs.length → xs[i]? = some x → Same H1 H → H1 D = none → H D = some (.lst ((List.range i).map f)) → S σ → g x σ H fun σ2 H2 => tif σ2 H2 fun c H3 =>
   if c = true then te σ2 H3 fun v H4 => CStep D xs.length i (fun i ws σ H => Same H1 H ∧ S σ ∧ ws = (List.range i).map f) σ2 v H4 else CSkip D xs.length i (fun i ws σ H => Same H1 H ∧ S σ ∧ ws = (List.range i).map f) σ2 H3)
  (hd : ∀ D H, H1 D = none → Same H1 H → H D = some (.lst ((List.range xs.length).map f)) → Q (.ref D) H) : cBody tn cp g tif te σ0 Q (Itl K a) H1 := by
 refine zgy (K := K) (a := a) (xs := xs) (fun D i ws σ H => Same H1 H ∧ S σ ∧ ws = (List.range i).map f) (zab hn) (fun D hD => ⟨za4 hD _, h0, rfl⟩) (fun D i ys σ H _ _ _ p => p.1.seq hS) ?_ ?_
 ·rintro D i ys σ H x hD hi hx hH hl ⟨p1, p2, rfl⟩
  exact hs D i σ H x hi hx p1 hD hH p2
 ·rintro D ys σ H hD hH hl ⟨p1, p2, rfl⟩
  exact hd D H hD p1 hH
end
end L2
namespace SS
open PySem PySem.Spec PyProof.Rows L2
def forms : List (Str × List Str) := [("in", ["place", "set"]), ("same", ["place", "place"]), ("within", ["set", "set"]), ("ahead", ["place", "place"]), ("next", ["place", "place"]), ("left", ["place", "place"]), ("right", ["place", "place"]), ("above", ["place", "place"]),
 ("not", ["saying"]), ("and", ["saying", "saying"]), ("or", ["saying", "saying"]), ("some", ["name", "saying"]), ("all", ["name", "saying"])]
def sortB (form : V → Bool) (x : V) (s : Str) : Bool := if s = "place" then isNm x SMALL else if s = "set" then isNm x GREAT else if s = "name" then isName x else form x
def zipB (form : V → Bool) : List V → List Str → Bool
 | [], [] => true
 | x :: xs, s :: ss => sortB form x s && zipB form xs ss
 | _, _ => false
def formH (H : Hp) : Nat → V → Bool
 | 0, _ => false
 | n + 1, .ref a => match H a with
  | some (.tup (.str w :: r)) => match forms.lookup w with
   | some ss => zipB (formH H n) r ss
   | none => false
  | _ => false
 | _ + 1, _ => false
def Exp (H : Hp) : Nat → V → Prop
 | 0, v => Thing H v
 | n + 1, v => Thing H v ∧ ∀ a xs, v = .ref a → H a = some (.tup xs) → xs.length ≤ 1000 ∧ ∀ x ∈ xs, Exp H n x
theorem Exp.thing {H : Hp} : ∀ {n : Nat} {v : V}, Exp H n v → Thing H v
 | 0, _, h => h
 | _ + 1, _, h => h.1
theorem Thing.same_tup {H H' : Hp} {a : Addr} {xs : List V} (h : Thing H (.ref a)) (g : Same H H') (e : H' a = some (.tup xs)) : H a = some (.tup xs) := by
 obtain ⟨⟨k, hk⟩, _⟩ := h
 cases hk with
 | lst z => rw [g _ _ z] at e; cases e
 | tup z => rw [g _ _ z] at e; cases e; exact z
 | dK z => rw [g _ _ z] at e; cases e
theorem Exp.same {H H' : Hp} (g : Same H H') : ∀ {n : Nat} {v : V}, Exp H n v → Exp H' n v
 | 0, _, h => Thing.same h g
 | n + 1, v, h => ⟨h.1.same g, fun a xs ev e => by
  subst ev
  obtain ⟨h1, h2⟩ := h.2 a xs rfl (h.1.same_tup g e)
  exact ⟨h1, fun x hx => (h2 x hx).same g⟩⟩
theorem zfk {f g : V → Bool} : ∀ {xs : List V} {ss : List Str}, (∀ x ∈ xs, f x = g x) → zipB f xs ss = zipB g xs ss
 | [], [], _ => rfl
 | [], _ :: _, _ => rfl
 | _ :: _, [], _ => rfl
 | x :: xs, s :: ss, h => by
  show (sortB f x s && zipB f xs ss) = (sortB g x s && zipB g xs ss)
  rw [zfk fun y hy => h y (y09 _ hy)]
  unfold sortB
  rw [h x y0c]
theorem zdr {H H' : Hp} (g : Same H H') : ∀ {n : Nat} {v : V}, Exp H n v → formH H' n v = formH H n v
 | 0, _, _ => rfl
 | n + 1, v, h => by
  cases v with
  | ref a =>
   obtain ⟨⟨k, hk⟩, _⟩ := h.1
   cases hk with
   | lst z => simp only [formH, z, g _ _ z]
   | dK z => simp only [formH, z, g _ _ z]
   | tup z =>
    rename_i xs
    have hx := (h.2 a xs rfl z).2
    simp only [formH, z, g _ _ z]
    cases xs with
    | nil => rfl
    | cons x r =>
     cases x with
     | str wd =>
      simp only []
      cases forms.lookup wd with
      | none => rfl
      | some ss => exact zfk fun y hy => zdr g (hx y (y09 _ hy))
     | _ => rfl
  | _ => rfl
theorem zjy {f : V → Bool} : ∀ {xs : List V} {ss : List Str}, xs.length ≠ ss.length → zipB f xs ss = false
 | [], [], h => absurd rfl h
 | [], _ :: _, _ => rfl
 | _ :: _, [], _ => rfl
 | x :: xs, s :: ss, h => by
  show (sortB f x s && zipB f xs ss) = false
  rw [zjy fun z => h (congrArg (· + 1) z), y1q]
theorem zfj {f : V → Bool} : ∀ {xs : List V} {ss : List Str}, xs.length = ss.length → zipB f xs ss = (List.range xs.length).all fun i => sortB f (xs.getD i .non) (ss.getD i "")
 | [], [], _ => rfl
 | [], _ :: _, h => nomatch h
 | _ :: _, [], h => nomatch h
 | x :: xs, s :: ss, h => by
  show (sortB f x s && zipB f xs ss) = _
  rw [zfj (Nat.succ.inj h), y0i, y1x, y1o, y22]
  rfl
def zge (n : Nat) : Sp := fun vs H Q _ => ∃ v, vs = [v, .int n] ∧ Exp H n v ∧ ∀ H', Same H H' → Q (.bl (formH H n v)) H'
def zis (n : Nat) : Sp := fun vs H Q _ => ∃ v s, vs = [v, .str s, .int n] ∧ Exp H n v ∧ ∀ H', Same H H' → Q (.bl (sortB (formH H n) v s)) H'
def sp_sort' : Nat → Sp
 | 0 => fun _ _ _ _ => False
 | n + 1 => zis n
def wfB : Sy → Bool
 | .bare w n m => if w = "in" then isPl n && isSt m else if w = "within" then isSt n && isSt m else isPl n && isPl m
 | .neg s => wfB s
 | .two _ s t => wfB s && wfB t
 | .qu _ n s => isName (.str n) && wfB s
def letB (barred : List Str) (most : Nat) : List Str → Sy → Bool
 | known, .bare w n m => decide (known.length ≤ most) && decide (w ∉ barred) && (decide (n ∈ known) && decide (m ∈ known))
 | known, .neg s => decide (known.length ≤ most) && decide (("not" : Str) ∉ barred) && letB barred most known s
 | known, .two w s t => decide (known.length ≤ most) && decide (w ∉ barred) && (letB barred most known s && letB barred most known t)
 | known, .qu w n s => decide (known.length ≤ most) && decide (w ∉ barred) && (decide (n ∉ known) && letB barred most (known ++ [n]) s)
theorem Rep.det {H : Hp} {v : V} {s t : Sy} (r : Rep H v s) (q : Rep H v t) : s = t := by
 induction r generalizing t with
 | bare hw e =>
  cases q with
  | bare hw' e' => rw [e] at e'; cases e'; rfl
  | neg e' _ => rw [e] at e'; cases e'
  | two hw' e' h1 _ => rw [e] at e'; cases e'; cases h1
  | qu hw' e' h1 => rw [e] at e'; cases e'; cases h1
 | neg e _ ih =>
  cases q with
  | bare hw' e' => rw [e] at e'; cases e'
  | neg e' h' => rw [e] at e'; cases e'; rw [ih h']
  | two hw' e' _ _ => rw [e] at e'; cases e'
  | qu hw' e' _ => rw [e] at e'; cases e'
 | two hw e h1 h2 ih1 ih2 =>
  cases q with
  | bare hw' e' => rw [e] at e'; cases e'; cases h1
  | neg e' _ => rw [e] at e'; cases e'
  | two hw' e' a b => rw [e] at e'; cases e'; rw [ih1 a, ih2 b]
  | qu hw' e' b => rw [e] at e'; cases e'; cases h1
 | qu hw e h ih =>
  cases q with
  | bare hw' e' => rw [e] at e'; cases e'; cases h
  | neg e' _ => rw [e] at e'; cases e'
  | two hw' e' a b => rw [e] at e'; cases e'; cases a
  | qu hw' e' b => rw [e] at e'; cases e'; rw [ih b]
end SS
set_option maxHeartbeats 1000000
namespace SS
open PySem PySem.Spec PyProof.Rows L2
section
variable {f : V → Bool} {x y : V} {r : List V} {s1 s2 : Str}
theorem zen : sortB f x "place" = isNm x SMALL := if_pos rfl
theorem zem : sortB f x "set" = isNm x GREAT := by unfold sortB; rw [if_neg (by decide +kernel), if_pos rfl]
theorem zmw : sortB f x "name" = isName x := by unfold sortB; rw [if_neg (by decide +kernel), if_neg (by decide +kernel), if_pos rfl]
theorem zcs : sortB f x "saying" = f x := by unfold sortB; rw [if_neg (by decide +kernel), if_neg (by decide +kernel), if_neg (by decide +kernel)]
theorem zip_one : zipB f r [s1] = true ↔ ∃ x, r = [x] ∧ sortB f x s1 = true := by
 cases r with
 | nil => simp [zipB]
 | cons x r =>
  cases r with
  | nil => simp [zipB]
  | cons y r => simp [zipB]
theorem zip_two : zipB f r [s1, s2] = true ↔ ∃ x y, r = [x, y] ∧ sortB f x s1 = true ∧ sortB f y s2 = true := by
 cases r with
 | nil => simp [zipB]
 | cons x r =>
  cases r with
  | nil => simp [zipB]
  | cons y r =>
   cases r with
   | nil =>
    rw [show zipB f [x, y] [s1, s2] = (sortB f x s1 && (sortB f y s2 && true)) from rfl, y2r, y08]
    exact ⟨fun h => ⟨x, y, rfl, h⟩, fun ⟨x', y', e, h⟩ => by cases e; exact h⟩
   | cons z r => simp [zipB]
theorem zfx {l : Str} (h : isNm x l = true) : ∃ z, x = .str z := by
 cases x with
 | str z => exact ⟨z, rfl⟩
 | _ => cases h
end
theorem zre {wd : Str} {ss : List Str} (h : forms.lookup wd = some ss) : (wd = "in" ∧ ss = (["place", "set"] : List Str)) ∨ (wd = "within" ∧ ss = (["set", "set"] : List Str)) ∨ (wd ∈ bareWords ∧ ¬ wd = ("in" : Str) ∧ ¬ wd = ("within" : Str) ∧ ss = (["place", "place"] : List Str)) ∨
  (wd = "not" ∧ ss = (["saying"] : List Str)) ∨ (wd ∈ (["and", "or"] : List Str) ∧ ss = (["saying", "saying"] : List Str)) ∨ (wd ∈ (["some", "all"] : List Str) ∧ ss = (["name", "saying"] : List Str)) := by
 have m := mem_of_lookup' h
 simp only [forms, y05, y0a, or_false, Prod.mk.injEq] at m
 rcases m with ⟨rfl, rfl⟩ | ⟨rfl, rfl⟩ | ⟨rfl, rfl⟩ | ⟨rfl, rfl⟩ | ⟨rfl, rfl⟩ | ⟨rfl, rfl⟩ | ⟨rfl, rfl⟩ | ⟨rfl, rfl⟩ | ⟨rfl, rfl⟩ | ⟨rfl, rfl⟩ | ⟨rfl, rfl⟩ | ⟨rfl, rfl⟩ | ⟨rfl, rfl⟩
 ·exact .inl ⟨rfl, rfl⟩
 ·exact .inr (.inr (.inl ⟨by decide +kernel, by decide +kernel, by decide +kernel, rfl⟩))
 ·exact .inr (.inl ⟨rfl, rfl⟩)
 ·exact .inr (.inr (.inl ⟨by decide +kernel, by decide +kernel, by decide +kernel, rfl⟩))
 ·exact .inr (.inr (.inl ⟨by decide +kernel, by decide +kernel, by decide +kernel, rfl⟩))
 ·exact .inr (.inr (.inl ⟨by decide +kernel, by decide +kernel, by decide +kernel, rfl⟩))
 ·exact .inr (.inr (.inl ⟨by decide +kernel, by decide +kernel, by decide +kernel, rfl⟩))
 ·exact .inr (.inr (.inl ⟨by decide +kernel, by decide +kernel, by decide +kernel, rfl⟩))
 ·exact .inr (.inr (.inr (.inl ⟨rfl, rfl⟩)))
 ·exact .inr (.inr (.inr (.inr (.inl ⟨by decide +kernel, rfl⟩))))
 ·exact .inr (.inr (.inr (.inr (.inl ⟨by decide +kernel, rfl⟩))))
 ·exact .inr (.inr (.inr (.inr (.inr ⟨by decide +kernel, rfl⟩))))
 ·exact .inr (.inr (.inr (.inr (.inr ⟨by decide +kernel, rfl⟩))))
theorem zmc : ∀ wd ∈ bareWords, forms.lookup wd = some (if wd = ("in" : Str) then (["place", "set"] : List Str) else if wd = ("within" : Str) then (["set", "set"] : List Str) else (["place", "place"] : List Str)) := by decide +kernel
theorem zmb : ∀ wd ∈ (["and", "or"] : List Str), forms.lookup wd = some (["saying", "saying"] : List Str) := by decide +kernel
theorem zma : ∀ wd ∈ (["some", "all"] : List Str), forms.lookup wd = some (["name", "saying"] : List Str) := by decide +kernel
theorem zoj : forms.lookup ("not" : Str) = some (["saying"] : List Str) := by decide +kernel
theorem zco {H : Hp} : ∀ {n : Nat} {v : V}, formH H n v = true → ∃ s, Rep H v s ∧ wfB s = true ∧ s.depth ≤ n
 | 0, _, h => by cases h
 | n + 1, v, h => by
  cases v with
  | ref a =>
   simp only [formH] at h
   split at h
   ·rename_i wd r e
    split at h
    ·rename_i ss hs
     rcases zre hs with ⟨rfl, rfl⟩ | ⟨rfl, rfl⟩ | ⟨hw, n1, n2, rfl⟩ | ⟨rfl, rfl⟩ | ⟨hw, rfl⟩ | ⟨hw, rfl⟩
     ·obtain ⟨x, y, rfl, h1, h2⟩ := zip_two.mp h
      rw [zen] at h1
      rw [zem] at h2
      obtain ⟨z1, rfl⟩ := zfx h1
      obtain ⟨z2, rfl⟩ := zfx h2
      refine ⟨.bare "in" z1 z2, .bare (by decide +kernel) e, ?_, y2g (y1b _)⟩
      show (if _ then _ else _) = true
      rw [if_pos rfl, y08]
      exact ⟨h1, h2⟩
     ·obtain ⟨x, y, rfl, h1, h2⟩ := zip_two.mp h
      rw [zem] at h1 h2
      obtain ⟨z1, rfl⟩ := zfx h1
      obtain ⟨z2, rfl⟩ := zfx h2
      refine ⟨.bare "within" z1 z2, .bare (by decide +kernel) e, ?_, y2g (y1b _)⟩
      show (if _ then _ else if _ then _ else _) = true
      rw [if_neg (by decide +kernel), if_pos rfl, y08]
      exact ⟨h1, h2⟩
     ·obtain ⟨x, y, rfl, h1, h2⟩ := zip_two.mp h
      rw [zen] at h1 h2
      obtain ⟨z1, rfl⟩ := zfx h1
      obtain ⟨z2, rfl⟩ := zfx h2
      refine ⟨.bare wd z1 z2, .bare hw e, ?_, y2g (y1b _)⟩
      show (if _ then _ else if _ then _ else _) = true
      rw [if_neg n1, if_neg n2, y08]
      exact ⟨h1, h2⟩
     ·obtain ⟨x, rfl, h1⟩ := zip_one.mp h
      rw [zcs] at h1
      obtain ⟨s, r, w1, d1⟩ := zco h1
      exact ⟨.neg s, .neg e r, w1, y2g d1⟩
     ·obtain ⟨x, y, rfl, h1, h2⟩ := zip_two.mp h
      rw [zcs] at h1 h2
      obtain ⟨s, r, w1, d1⟩ := zco h1
      obtain ⟨t, q, w2, d2⟩ := zco h2
      refine ⟨.two wd s t, .two hw e r q, ?_, y2g (Nat.max_le.mpr ⟨d1, d2⟩)⟩
      show (wfB s && wfB t) = true
      rw [w1, w2]
      rfl
     ·obtain ⟨x, y, rfl, h1, h2⟩ := zip_two.mp h
      rw [zmw] at h1
      rw [zcs] at h2
      obtain ⟨z1, rfl⟩ := zdo h1
      obtain ⟨t, q, w2, d2⟩ := zco h2
      refine ⟨.qu wd z1 t, .qu hw e q, ?_, y2g d2⟩
      show (isName _ && wfB t) = true
      rw [h1, w2]
      rfl
    ·cases h
   ·cases h
  | _ => cases h
theorem zkf {H : Hp} {v : V} {s : Sy} (r : Rep H v s) : ∀ {n : Nat}, wfB s = true → s.depth ≤ n → formH H n v = true := by
 induction r with
 | bare hw e =>
  rename_i a wd n1 m1
  intro n h d
  cases n with
  | zero => exact absurd d (by show ¬ 1 ≤ 0; decide)
  | succ n =>
   simp only [formH, e, zmc wd hw]
   by_cases c1 : wd = ("in" : Str)
   ·rw [if_pos c1]
    have h' : (isPl n1 && isSt m1) = true := by have z : (if _ then _ else _) = true := h; rw [if_pos c1] at z; exact z
    rw [y08] at h'
    exact zip_two.mpr ⟨_, _, rfl, by rw [zen]; exact h'.1, by rw [zem]; exact h'.2⟩
   ·rw [if_neg c1]
    by_cases c2 : wd = ("within" : Str)
    ·rw [if_pos c2]
     have h' : (isSt n1 && isSt m1) = true := by have z : (if _ then _ else if _ then _ else _) = true := h; rw [if_neg c1, if_pos c2] at z; exact z
     rw [y08] at h'
     exact zip_two.mpr ⟨_, _, rfl, by rw [zem]; exact h'.1, by rw [zem]; exact h'.2⟩
    ·rw [if_neg c2]
     have h' : (isPl n1 && isPl m1) = true := by have z : (if _ then _ else if _ then _ else _) = true := h; rw [if_neg c1, if_neg c2] at z; exact z
     rw [y08] at h'
     exact zip_two.mpr ⟨_, _, rfl, by rw [zen]; exact h'.1, by rw [zen]; exact h'.2⟩
 | neg e _ ih =>
  intro n h d
  cases n with
  | zero => exact absurd d (y3g _)
  | succ n =>
   simp only [formH, e, zoj]
   exact zip_one.mpr ⟨_, rfl, by rw [zcs]; exact ih h (y3b d)⟩
 | two hw e _ _ ih1 ih2 =>
  rename_i s t _ _
  intro n h d
  cases n with
  | zero => exact absurd d (y3g _)
  | succ n =>
   have d' := Nat.max_le.mp (y3b d)
   have h' : (wfB s && wfB t) = true := h
   rw [y08] at h'
   simp only [formH, e, zmb _ hw]
   exact zip_two.mpr ⟨_, _, rfl, by rw [zcs]; exact ih1 h'.1 d'.1, by rw [zcs]; exact ih2 h'.2 d'.2⟩
 | qu hw e _ ih =>
  rename_i nm _ s _
  intro n h d
  cases n with
  | zero => exact absurd d (y3g _)
  | succ n =>
   have h' : (isName (.str nm) && wfB s) = true := h
   rw [y08] at h'
   simp only [formH, e, zma _ hw]
   exact zip_two.mpr ⟨_, _, rfl, by rw [zmw]; exact h'.1, by rw [zcs]; exact ih h'.2 (y3b d)⟩
def zd6 (n : Nat) : Sp := fun vs H Q _ => ∃ v s, vs = [v] ∧ Rep H v s ∧ s.depth < n ∧ ∀ H', Same H H' → Q (.int s.parts) H'
def AnySay (H : Hp) (v : V) (s : Sy) : Prop := Rep H v s ∧ wfB s = true ∧ s.depth ≤ 12 ∧ s.parts ≤ 60
def zhi : Sp := fun vs H Q _ => ∃ v, vs = [v] ∧ Exp H 12 v ∧ ∀ b H', Same H H' → (b = true ↔ ∃ s, AnySay H v s) → Q (.bl b) H'
def zhf (K : Frag) (bw : List Str) (n : Nat) : Sp := fun vs H Q _ => ∃ v a ba s tl mo, vs = [v, .ref a, .ref ba, .int (mo : Nat)] ∧ Rep H v s ∧ s.depth < n ∧ H a = some (.lst (List.map V.str tl)) ∧ tl.length + s.depth ≤ 300 ∧ (∀ H, SqT K H ba (bw.map V.str)) ∧ ∀ H', Same H H' → Q (.bl (letB bw mo tl s)) H'
def SayOk (H : Hp) (bw : List Str) (mo : Nat) (v fv : V) : Prop := ∃ a tl s, fv = .ref a ∧ H a = some (.lst (List.map V.str tl)) ∧ frameB (List.map V.str tl) = true ∧ AnySay H v s ∧ letB bw mo tl s = true
def zj8 (bw : List Str) (mo : Nat) : Sp := fun vs H Q _ => ∃ v fv, vs = [v, fv] ∧ Exp H 12 v ∧ Thing H fv ∧ (∀ a xs, fv = .ref a → H a = some (.lst xs) → Things H xs) ∧ ∀ b H', Same H H' → (b = true ↔ SayOk H bw mo v fv) → Q (.bl b) H'
structure Forms (K : Frag) (w : World) (fa : Addr) : Prop where
 ex : ∃ f, DctK K w fa f ∧ ∀ x, (∃ ss b, forms.lookup x = some ss ∧ f x = some (.ref b) ∧ ∀ H, SqT K H b (List.map V.str ss)) ∨ (forms.lookup x = none ∧ f x = none)
def wordOf : Sy → Str
 | .bare w _ _ => w
 | .neg _ => "not"
 | .two w _ _ => w
 | .qu w _ _ => w
def letR (barred : List Str) (most : Nat) (known : List Str) : Sy → Bool
 | .bare _ n m => decide (n ∈ known) && decide (m ∈ known)
 | .neg s => letB barred most known s
 | .two _ s t => letB barred most known s && letB barred most known t
 | .qu _ n s => decide (n ∉ known) && letB barred most (known ++ [n]) s
theorem ztq (bw : List Str) (mo : Nat) (tl : List Str) (s : Sy) : letB bw mo tl s = (decide (tl.length ≤ mo) && decide (wordOf s ∉ bw) && letR bw mo tl s) := by cases s <;> rfl
theorem zl6 {bw : List Str} {mo : Nat} {tl : List Str} {s : Sy} (nq : ∀ w n t, s ≠ .qu w n t) (hb : s.isBare = false) : letR bw mo tl s = s.inner.all (letB bw mo tl) := by
 cases s with
 | bare w n m => cases hb
 | neg s => simp [Sy.inner, letR]
 | two w s t => simp [Sy.inner, letR]
 | qu w n t => exact absurd rfl (nq w n t)
theorem zch {f : Sy → Bool} : ∀ (l : List Sy), ((List.range l.length).map fun i => ((l[i]?).map f).getD true).all id = l.all f
 | [] => rfl
 | x :: r => by
  rw [y0i, y1x, y0k, y0r, y1o, y1o, ← zch r]
  rfl
theorem zfz : ∀ {xs : List V}, xs.all isName = true → ∃ tl : List Str, xs = tl.map V.str
 | [], _ => ⟨[], rfl⟩
 | x :: r, h => by
  rw [y1o, y08] at h
  obtain ⟨z, rfl⟩ := zdo h.1
  obtain ⟨tl, e⟩ := zfz h.2
  exact ⟨z :: tl, by rw [y0k, ← e]⟩
theorem frB_ex {H : Hp} {x : V} (h : frB H x = true) : ∃ a tl, x = .ref a ∧ H a = some (.lst (List.map V.str tl)) ∧ frameB (List.map V.str tl) = true ∧ tl.length ≤ 4 := by
 cases x with
 | ref a =>
  simp only [frB] at h
  split at h
  ·rename_i xs e
   have h' := h
   unfold frameB at h'
   rw [y08, y08, decide_eq_true_eq] at h'
   obtain ⟨tl, rfl⟩ := zfz h'.1.2
   exact ⟨a, tl, rfl, e, h, by have := h'.1.1; rw [y01] at this; exact this⟩
  ·cases h
 | _ => cases h
open L2
theorem zj4 : ∀ {a b : List PySem.Str}, a.map V.str = b.map V.str → a = b
 | [], [], _ => rfl
 | [], _ :: _, h => by cases h
 | _ :: _, [], h => by cases h
 | x :: a, y :: b, h => by
  rw [y0k, y0k, List.cons.injEq] at h
  rw [V.str.inj h.1, zj4 h.2]
inductive Lit where
 | str (z : Str)
 | oth
 | tnil
 | tcons (x r : Lit)
 deriving DecidableEq
def Oth (H : Hp) (v : V) : Prop := ∃ k, Kd H v k ∧ k ≠ "str" ∧ k ≠ "tuple"
def LitAt (H : Hp) : Lit → V → Prop
 | .str z, v => v = .str z ∧ z.length ≤ 1000
 | .oth, v => Oth H v
 | .tnil, v => ∃ a, v = .ref a ∧ H a = some (.tup [])
 | .tcons x r, v => ∃ a y ys, v = .ref a ∧ H a = some (.tup (y :: ys)) ∧ ys.length ≤ 100 ∧ LitAt H x y ∧ Items H r ys
where Items (H : Hp) : Lit → List V → Prop
 | .tcons x r, ys => ∃ z zs, ys = z :: zs ∧ LitAt H x z ∧ Items H r zs
 | .tnil, ys => ys = []
 | _, _ => False
abbrev Items := LitAt.Items
theorem Oth.same {H H' : Hp} {v : V} (g : Same H H') (h : Oth H v) : Oth H' v := let ⟨k, z, r⟩ := h; ⟨k, z.same g, r⟩
mutual
theorem LitAt.same {H H' : Hp} (g : Same H H') : ∀ {l : Lit} {v : V}, LitAt H l v → LitAt H' l v
 | .str z, _, h => h
 | .oth, _, h => Oth.same g h
 | .tnil, _, ⟨a, e, h⟩ => ⟨a, e, g _ _ h⟩
 | .tcons x r, _, ⟨a, y, ys, e, h, hl, h1, h2⟩ => ⟨a, y, ys, e, g _ _ h, hl, LitAt.same g h1, Items.same g h2⟩
theorem Items.same {H H' : Hp} (g : Same H H') : ∀ {l : Lit} {ys : List V}, Items H l ys → Items H' l ys
 | .tcons x r, _, ⟨z, zs, e, h1, h2⟩ => ⟨z, zs, e, LitAt.same g h1, Items.same g h2⟩
 | .tnil, _, h => h
 | .str _, _, h => h
 | .oth, _, h => h
end
theorem LitAt.thing {H : Hp} : ∀ {l : Lit} {v : V}, LitAt H l v → Thing H v
 | .str z, _, ⟨e, h⟩ => by subst e; exact .str h
 | .oth, v, ⟨k, h, h1, _⟩ => ⟨⟨k, h⟩, fun z e => by subst e; cases h; exact absurd rfl h1⟩
 | .tnil, _, ⟨a, e, h⟩ => by subst e; exact .tup h
 | .tcons x r, _, ⟨a, y, ys, e, h, _, _, _⟩ => by subst e; exact .tup h
mutual
theorem LitAt.exp {H : Hp} : ∀ (n : Nat) {l : Lit} {v : V}, LitAt H l v → Exp H n v
 | 0, _, _, h => h.thing
 | n + 1, .str z, _, h => ⟨h.thing, fun a xs e _ => by rw [h.1] at e; cases e⟩
 | n + 1, .oth, v, h => ⟨h.thing, fun a xs e e' => by
  subst e
  obtain ⟨k, hk, _, h2⟩ := h
  exact absurd (hk.inj (.tup e')) h2⟩
 | n + 1, .tnil, _, h => ⟨h.thing, fun a xs e e' => by
  obtain ⟨a', e1, e2⟩ := h
  rw [e] at e1
  cases e1
  rw [e2] at e'
  cases e'
  exact ⟨y1b _, fun x hx => nomatch hx⟩⟩
 | n + 1, .tcons x r, _, h => ⟨h.thing, fun a xs e e' => by
  obtain ⟨a', y, ys, e1, e2, hl, h1, h2⟩ := h
  rw [e] at e1
  cases e1
  rw [e2] at e'
  cases e'
  refine ⟨by rw [y0i]; omega, fun x' hx => ?_⟩
  rcases y05.mp hx with rfl | hx
  ·exact LitAt.exp n h1
  ·exact Items.exp n h2 x' hx⟩
theorem Items.exp {H : Hp} : ∀ (n : Nat) {l : Lit} {ys : List V}, Items H l ys → ∀ y ∈ ys, Exp H n y
 | n, .tcons x r, _, ⟨z, zs, e, h1, h2⟩, y, hy => by
  subst e
  rcases y05.mp hy with rfl | hy
  ·exact LitAt.exp n h1
  ·exact Items.exp n h2 y hy
 | n, .tnil, _, h, y, hy => by rw [show _ = [] from h] at hy; exact nomatch hy
 | n, .str _, _, h, y, hy => False.elim h
 | n, .oth, _, h, y, hy => False.elim h
end
theorem zdw {z l : Str} (h : isNm (.str z) l = true) : z.length ≤ 4 := by
 obtain ⟨c, r, e, hl, _⟩ := nm_ex h
 rw [zmt, e, y0i]
 omega
theorem zq2 {z : Str} (h : isName (.str z) = true) : z.length ≤ 4 := (zly h).elim zdw zdw
theorem ziq : ∀ w ∈ bareWords, w.length ≤ 1000 := by decide +kernel
theorem zpt {w n m : Str} (h : wfB (.bare w n m) = true) : n.length ≤ 4 ∧ m.length ≤ 4 := by
 have h' : (if w = ("in" : Str) then isPl n && isSt m else if w = ("within" : Str) then isSt n && isSt m else isPl n && isPl m) = true := h
 split at h'
 ·rw [y08] at h'; exact ⟨zdw h'.1, zdw h'.2⟩
 ·split at h'
  ·rw [y08] at h'; exact ⟨zdw h'.1, zdw h'.2⟩
  ·rw [y08] at h'; exact ⟨zdw h'.1, zdw h'.2⟩
theorem Exp.str {H : Hp} {z : Str} (h : z.length ≤ 1000) : ∀ n, Exp H n (.str z)
 | 0 => Thing.str h
 | n + 1 => ⟨Thing.str h, fun a xs e => by cases e⟩
theorem Exp.tup {H : Hp} {a : Addr} {xs : List V} {n : Nat} (e : H a = some (.tup xs)) (hl : xs.length ≤ 1000) (h : ∀ x ∈ xs, Exp H n x) : Exp H (n + 1) (.ref a) :=
 ⟨Thing.tup e, fun a' xs' ev e' => by cases ev; rw [e] at e'; cases e'; exact ⟨hl, h⟩⟩
theorem Rep.exp {H : Hp} {v : V} {s : Sy} (r : Rep H v s) : wfB s = true → ∀ n, Exp H n v := by
 induction r with
 | bare hw e =>
  intro h n
  obtain ⟨l1, l2⟩ := zpt h
  cases n with
  | zero => exact Thing.tup e
  | succ n =>
   refine Exp.tup e (by simp) fun x hx => ?_
   simp only [y05, y0a, or_false] at hx
   rcases hx with rfl | rfl | rfl
   ·exact Exp.str (ziq _ hw) n
   ·exact Exp.str (by omega) n
   ·exact Exp.str (by omega) n
 | neg e _ ih =>
  intro h n
  cases n with
  | zero => exact Thing.tup e
  | succ n =>
   refine Exp.tup e (by simp) fun x hx => ?_
   simp only [y05, y0a, or_false] at hx
   rcases hx with rfl | rfl
   ·exact Exp.str (by decide +kernel) n
   ·exact ih h n
 | two hw e _ _ ih1 ih2 =>
  rename_i w _ _ s t _ _
  intro h n
  have h' : (wfB s && wfB t) = true := h
  rw [y08] at h'
  cases n with
  | zero => exact Thing.tup e
  | succ n =>
   refine Exp.tup e (by simp) fun x hx => ?_
   simp only [y05, y0a, or_false] at hx
   rcases hx with rfl | rfl | rfl
   ·refine Exp.str ?_ n
    have : ∀ w ∈ (["and", "or"] : List Str), w.length ≤ 1000 := by decide +kernel
    exact this w hw
   ·exact ih1 h'.1 n
   ·exact ih2 h'.2 n
 | qu hw e _ ih =>
  rename_i w nm _ s _
  intro h n
  have h' : (isName (.str nm) && wfB s) = true := h
  rw [y08] at h'
  cases n with
  | zero => exact Thing.tup e
  | succ n =>
   refine Exp.tup e (by simp) fun x hx => ?_
   simp only [y05, y0a, or_false] at hx
   rcases hx with rfl | rfl | rfl
   ·refine Exp.str ?_ n
    have : ∀ w ∈ (["some", "all"] : List Str), w.length ≤ 1000 := by decide +kernel
    exact this w hw
   ·exact Exp.str (by have := zq2 h'.1; omega) n
   ·exact ih h'.2 n
theorem zee {H : Hp} {tl : List Str} (hl : tl.length ≤ 1000) (h : ∀ z ∈ tl, z.length ≤ 1000) : Things H (tl.map V.str) := by
 refine ⟨by rw [y01]; exact hl, fun y hy => ?_⟩
 obtain ⟨z, mz, rfl⟩ := y0m.mp hy
 exact .str (h z mz)
section
variable {K : Frag} {w : World} {h : Heap} {mg : T1}
theorem sqt_mk {p : Addr} {od : Option Addr} {its : Array Value} {n : Nat} {sl : T8} {xs : List V} (l : K.lookup p = some ⟨.type "tuple", od, .seq its n, sl⟩) (z : its.size ≤ sizeLine) (r : Vals xs its.toList) : ∀ H, SqT K H p xs :=
 fun H => .inr ⟨_, its, n, l, rfl, rfl, z, r⟩
def Entry (K : Frag) (e : DictEntry) (p : Str × List Str) : Prop := (∃ t, e.key = .str p.1 t) ∧ ∃ b, e.val = .ref b ∧ ∀ H, SqT K H b (List.map V.str p.2)
theorem zcg : ∀ {es : List DictEntry} {ps : List (Str × List Str)}, Paired (Entry K) es ps → ∀ x, (∃ ss b, ps.lookup x = some ss ∧ findBy Value.isStrOf es.toArray x = some (.ref b) ∧ ∀ H, SqT K H b (List.map V.str ss)) ∨ (ps.lookup x = none ∧ findBy Value.isStrOf es.toArray x = none)
 | _, _, .nil, x => .inr ⟨rfl, by simp [findBy]⟩
 | e :: es, p :: ps, .cons ⟨⟨t, ek⟩, b, ev, hb⟩ r, x => by
  have ih := zcg r x
  unfold findBy at ih ⊢
  rw [List.find?_toArray] at ih ⊢
  rw [y12, y2e]
  by_cases h : x = p.1
  ·subst h
   have e1 : Value.isStrOf p.1 e.key = true := by rw [ek]; simp [Value.isStrOf]
   rw [e1, beq_self_eq_true]
   exact .inl ⟨_, b, rfl, congrArg some ev, hb⟩
  ·have h' : ¬ p.1 = x := fun q => h q.symm
   have e1 : Value.isStrOf x e.key = false := by rw [ek]; simp [Value.isStrOf, h']
   have e2 : (x == p.1) = false := by simp [h]
   rw [e1, e2]
   exact ih
theorem forms_mk {p : Addr} {es : Array DictEntry} {n : Nat} (X : K.In h) (G : h.Ns mainGlobals mg) (a : PySem.W.nsIn K mainGlobals "FORMS" = some (some (.ref p))) (lo : (p == sysModules) = false) (l : K.lookup p = some ⟨.type "dict", none, .dict es n, #[]⟩)
  (hk : PySem.W.KeysLit w.params es.toList) (he : Paired (Entry K) es.toList forms) : ∃ q, GlV mg "FORMS" (.ref q) ∧ Forms K w q := by
 refine ⟨p, ⟨_, PySem.W.mg_of X G a, rfl⟩, ⟨fun x => match findBy Value.isStrOf es x with | some (.ref b) => some (.ref b) | _ => none, ⟨lo, es, n, l, hk, fun x => ?_⟩, fun x => ?_⟩⟩
 ·rcases zcg he x with ⟨ss, b, e1, e2, _⟩ | ⟨e1, e2⟩
  ·simp only [e2]; exact rfl
  ·simp only [e2]; exact trivial
 ·rcases zcg he x with ⟨ss, b, e1, e2, hb⟩ | ⟨e1, e2⟩
  ·exact .inl ⟨ss, b, e1, by simp only [e2], hb⟩
  ·exact .inr ⟨e1, by simp only [e2]⟩
end
end SS
namespace L2
variable {X : Cx}
section
variable {X : Cx} {k : Nat} {H : Hp} {a b : Addr} {xs ys : List V}
theorem eqV_int (a b : Int) : eqV (.int a) (.int b) = decide (a = b) := by
 by_cases h : a = b
 ·subst h; simp [eqV]
 ·simp [eqV, h]
theorem zjw : ∀ (xs ys : List Int), (xs.length == ys.length && (List.range xs.length).all fun j => eqV ((xs.map V.int).getD j .non) ((ys.map V.int).getD j .non)) = decide (xs = ys)
 | [], [] => rfl
 | [], y :: ys => by simp
 | x :: xs, [] => by simp
 | x :: xs, y :: ys => by
  have ih := zjw xs ys
  have e : (List.range (x :: xs).length).all (fun j => eqV (((x :: xs).map V.int).getD j .non) (((y :: ys).map V.int).getD j .non)) =
    (decide (x = y) && (List.range xs.length).all fun j => eqV ((xs.map V.int).getD j .non) ((ys.map V.int).getD j .non)) := by
   rw [y0i, y1x, y1o, y22]
   exact congrArg (· && _) (eqV_int x y)
  rw [e]
  have e2 : ((x :: xs).length == (y :: ys).length) = (xs.length == ys.length) := by simp
  rw [e2]
  by_cases hx : x = y
  ·subst hx
   rw [decide_eq_true rfl, y1a, ih]
   simp
  ·rw [decide_eq_false hx, y1k, y1q]
   simp [hx]
theorem zc8 (xs : List Int) : (xs.map V.int).all flatV = true := by
 rw [y0p]
 intro x hx
 obtain ⟨z, _, rfl⟩ := y0m.mp hx
 rfl
def rEqI (K : Frag) : R2 := fun x y H Q => ∃ (a b : Addr) (xs ys : List Int), x = .ref a ∧ y = .ref b ∧ SqL K H a (xs.map V.int) ∧ SqL K H b (ys.map V.int) ∧ Q (.bl (decide (xs = ys))) H
theorem op_eqI (hu : X.A.units + 8 < cLine) : OpR X (compareOp .Eq) (rEqI X.K) := by
 infer_instance
 obtain ⟨a, b, xs, ys, rfl, rfl, h1, h2, q⟩ := h
 have r := zln (X := X) h1 h2 (zc8 xs) (zc8 ys)
 rw [y01, y01, zjw] at r
 exact zr1 (k := 1) (y3j (Nat.add_le_add_left (by decide) _) hu) pins s σ H _ _ v u Q I rx ry ⟨_, r, q⟩
def rNeI (K : Frag) : R2 := fun x y H Q => ∃ (a b : Addr) (xs ys : List Int), x = .ref a ∧ y = .ref b ∧ SqL K H a (xs.map V.int) ∧ SqL K H b (ys.map V.int) ∧ Q (.bl (!decide (xs = ys))) H
theorem op_neI (hu : X.A.units + 8 < cLine) : OpR X (compareOp .NotEq) (rNeI X.K) := by
 infer_instance
 obtain ⟨a, b, xs, ys, rfl, rfl, h1, h2, q⟩ := h
 cases (show v = Value.ref a from rx)
 cases (show u = Value.ref b from ry)
 obtain ⟨us, r1, p1, _⟩ := I.list h1
 obtain ⟨vs, r2, p2, _⟩ := I.list h2
 have l1 := r1.length
 have l2 := r2.length
 have hu' : X.A.units < cLine := by omega
 by_cases hl : us.length = vs.length
 ·have z := SeqAt.RcNeAt.lists (A := X.A) (s := s) (e := fun j => eqV ((xs.map V.int).getD j .non) ((ys.map V.int).getD j .non)) p1.isList p2.isList (by rw [y07, y07]; exact hl) hu' fun j h1 h2 => by
   rw [y07] at h1 h2
   obtain ⟨g1, q1⟩ := r1.at h1
   obtain ⟨g2, q2⟩ := r2.at h2
   have e1 : (xs.map V.int).getD j .non = (xs.map V.int)[j] := by rw [y02, y00 g1]; rfl
   have e2 : (ys.map V.int).getD j .non = (ys.map V.int)[j] := by rw [y02, y00 g2]; rfl
   rw [e1, e2]
   refine zk5 (by simpa using q1) (by simpa using q2) ?_ ?_
   ·exact y0p.mp (zc8 xs) _ (y0g g1)
   ·exact y0p.mp (zc8 ys) _ (y0g g2)
  have e := zjw xs ys
  rw [y01] at l1 l2
  rw [show (xs.length == ys.length) = true by simp; omega, y1a] at e
  rw [y07, ← l1, e] at z
  exact z _ _ _ _ ⟨.bl (!decide (xs = ys)), H, I, rfl, q⟩
 ·have z := SeqAt.RcNeAt.lists_lengths (A := X.A) (s := s) p1.isList p2.isList (by rw [y07, y07]; simpa using hl) hu'
  have e : decide (xs = ys) = false := decide_eq_false fun h => by rw [h, y01] at l1; rw [y01] at l2; omega
  rw [e] at q
  exact z _ _ _ _ ⟨.bl true, H, I, rfl, q⟩
variable (K : Frag)
theorem ztg (hu : X.A.units + 8 < cLine) (h : X.K = K := by rfl) : OpR X (compareOp .Eq) (rEqI K) := h ▸ op_eqI hu
theorem zte (hu : X.A.units + 8 < cLine) (h : X.K = K := by rfl) : OpR X (compareOp .NotEq) (rNeI K) := h ▸ op_neI hu
end
section
variable {tn : List Str} {cp : T6} {g : TG} {tif : TT} {te : TE} {σ0 : St} {Q : VK} {H1 : Hp} {lo : Int} {n : Nat}
def PRng (S : St → Prop) (f : Nat → V) (H1 : Hp) (i : Nat) (ys : List V) (σ : St) (H : Hp) : Prop := Same H1 H ∧ S σ ∧ ys = (List.range i).map f
theorem zsg (S : St → Prop) (f : Nat → V) (hn : n ≤ 1000) (h0 : S (stB tn cp σ0))
  (hs : ∀ D i σ H, i < n → Same H1 H → H1 D = none → H D = some (.lst ((List.range i).map f)) → S σ → g (.int (lo + i)) σ H fun σ2 H2 => tif σ2 H2 fun c H3 =>
   if c = true then te σ2 H3 fun v H4 => CStep D n i (PRng S f H1) σ2 v H4 else CSkip D n i (PRng S f H1) σ2 H3)
  (hd : ∀ D H, H1 D = none → Same H1 H → H D = some (.lst ((List.range n).map f)) → Q (.ref D) H) : cBody tn cp g tif te σ0 Q (Itr lo n) H1 := by
 refine zmh n (fun D => PRng S f H1) (zab hn) (fun D hD => ⟨za4 hD _, h0, rfl⟩) (fun D i ys σ H _ hi _ _ => hi) (fun D ys σ H _ _ _ => y06 _) ?_ ?_
 ·rintro D i ys σ H x H' hD hi hH hl ⟨p1, p2, rfl⟩ ⟨rfl, rfl⟩
  exact hs D i σ _ hi p1 hD hH p2
 ·rintro D ys σ H hD hH hl ⟨p1, p2, rfl⟩
  exact hd D H hD p1 hH
theorem zo5 {S : St → Prop} {f : Nat → V} {D : Addr} {i : Nat} {v : V} {σ2 : St} {H4 : Hp} (hn : n ≤ 1000) (hi : i < n) (hD : H1 D = none) (h4 : H4 D = some (.lst ((List.range i).map f))) (g4 : Same H1 H4) (s2 : S σ2) (e : v = f i) : CStep D n i (PRng S f H1) σ2 v H4 := by
 subst e
 refine cstep (zab hn) hi h4 (by simp) ⟨g4.wr hD _, s2, ?_⟩
 rw [y2k, y0z]
 rfl
end
def TupS (H H' : Hp) : Prop := ∀ b xs, H b = some (.tup xs) → H' b = some (.tup xs)
theorem Same.tups {H H' : Hp} (g : Same H H') : TupS H H' := fun b xs e => g b _ e
theorem TupS.refl (H : Hp) : TupS H H := fun _ _ e => e
theorem TupS.trans {H H1 H2 : Hp} (a : TupS H H1) (b : TupS H1 H2) : TupS H H2 := fun c xs e => b c xs (a c xs e)
theorem TupS.wr {H : Hp} {p : Addr} {xs : List V} (h : H p = some (.lst xs)) (o : HO) : TupS H (upd H p o) := fun b ys e => by rw [zal (zn0 e h (by intro z; cases z))]; exact e
end L2
namespace SM
structure Mc where
 w : Nat
 ways : List (List Nat)
 ends : List Bool
structure Mc.Ok (m : Mc) : Prop where
 wid : m.w ≤ 4
 pos : 0 < m.ends.length
 few : m.ends.length ≤ 100
 len : m.ways.length = m.ends.length
 line : ∀ l ∈ m.ways, l.length = 2 ^ m.w
 room : ∀ l ∈ m.ways, ∀ r ∈ l, r < m.ends.length
abbrev Mc.n (m : Mc) : Nat := m.ends.length
def Mc.go (m : Mc) (r l : Nat) : Nat := (m.ways.getD r []).getD l 0
def Mc.fin (m : Mc) (r : Nat) : Bool := m.ends.getD r false
theorem Mc.Ok.at {m : Mc} (ok : m.Ok) {r l : Nat} (hr : r < m.ends.length) (hl : l < 2 ^ m.w) : ∃ line, m.ways[r]? = some line ∧ line[l]? = some (m.go r l) ∧ m.go r l < m.ends.length := by
 have h1 : r < m.ways.length := by rw [ok.len]; exact hr
 have e1 : m.ways[r]? = some m.ways[r] := y00 h1
 have h2 : l < m.ways[r].length := by rw [ok.line _ (y0g h1)]; exact hl
 have e2 : m.ways[r][l]? = some m.ways[r][l] := y00 h2
 have eg : m.go r l = m.ways[r][l] := by
  simp only [Mc.go, y02, e1, y0u, e2]
 exact ⟨_, e1, by rw [eg]; exact e2, by rw [eg]; exact ok.room _ (y0g h1) _ (y0g h2)⟩
theorem Mc.Ok.go_lt {m : Mc} (ok : m.Ok) {r l : Nat} (hr : r < m.n) (hl : l < 2 ^ m.w) : m.go r l < m.n := let ⟨_, _, _, h⟩ := ok.at hr hl; h
theorem Mc.fin_at {m : Mc} {r : Nat} (hr : r < m.ends.length) : m.ends[r]? = some (m.fin r) := by
 unfold Mc.fin
 rw [y02, y00 hr, y0u]
def Mc.run (m : Mc) (r : Nat) (row : List Nat) : Nat := row.foldl m.go r
def Mc.path (m : Mc) : Nat → List Nat → List Nat
 | r, [] => [r]
 | r, l :: ls => r :: m.path (m.go r l) ls
theorem Mc.run_cons (m : Mc) (r l : Nat) (row : List Nat) : m.run r (l :: row) = m.run (m.go r l) row := rfl
theorem Mc.path_snoc (m : Mc) : ∀ (row : List Nat) (r l : Nat), m.path r (row ++ [l]) = m.path r row ++ [m.go (m.run r row) l]
 | [], r, l => rfl
 | x :: row, r, l => by
  show r :: m.path (m.go r x) (row ++ [l]) = r :: m.path (m.go r x) row ++ _
  rw [path_snoc m row]
  rfl
theorem Mc.path_last (m : Mc) : ∀ (row : List Nat) (r : Nat), ∃ ini, m.path r row = ini ++ [m.run r row]
 | [], r => ⟨[], rfl⟩
 | x :: row, r => by
  obtain ⟨ini, e⟩ := path_last m row (m.go r x)
  exact ⟨r :: ini, by show r :: m.path (m.go r x) row = _; rw [e]; rfl⟩
theorem Mc.path_len (m : Mc) : ∀ (row : List Nat) (r : Nat), (m.path r row).length = row.length + 1
 | [], r => rfl
 | x :: row, r => by show (m.path (m.go r x) row).length + 1 = _; rw [path_len m row]; rfl
theorem Mc.Ok.run_lt {m : Mc} (ok : m.Ok) : ∀ (row : List Nat) (r : Nat), r < m.ends.length → (∀ l ∈ row, l < 2 ^ m.w) → m.run r row < m.ends.length
 | [], r, h, _ => h
 | x :: row, r, h, hl => by
  obtain ⟨_, _, _, h2⟩ := ok.at h (hl x y0c)
  exact run_lt ok row (m.go r x) h2 fun l z => hl l (y09 _ z)
theorem zs3 (n : Nat) : (2 : Int) ^ n = ((2 ^ n : Nat) : Int) := by
 induction n with
 | zero => rfl
 | succ n ih => rw [Int.pow_succ, Nat.pow_succ, ih]; omega
theorem zbp {w : Nat} (h : w ≤ 4) : 1 ≤ 2 ^ w ∧ 2 ^ w ≤ 16 := by
 have : w = 0 ∨ w = 1 ∨ w = 2 ∨ w = 3 ∨ w = 4 := by omega
 rcases this with rfl | rfl | rfl | rfl | rfl <;> decide
def Mc.Row (m : Mc) (row : List Nat) : Prop := ∀ l ∈ row, l < 2 ^ m.w
def Par (m : Mc) (r : Nat) (m' : Mc) (r' : Nat) : Prop := ∀ row, m.Row row → m.fin (m.run r row) = m'.fin (m'.run r' row)
theorem Mc.Row.cons {m : Mc} {l : Nat} {row : List Nat} (hl : l < 2 ^ m.w) (h : m.Row row) : m.Row (l :: row) := fun x hx => by
 rcases y05.mp hx with rfl | hx
 ·exact hl
 ·exact h x hx
theorem Mc.Row.nil (m : Mc) : m.Row [] := fun _ h => nomatch h
theorem Par.go {m m' : Mc} {r r' l : Nat} (h : Par m r m' r') (hl : l < 2 ^ m.w) : Par m (m.go r l) m' (m'.go r' l) := fun row hr => h (l :: row) (hr.cons hl)
theorem Par.symm {m m' : Mc} {r r' : Nat} (h : Par m r m' r') (hw : m.w = m'.w) : Par m' r' m r := fun row hr => (h row fun l hl => by rw [hw]; exact hr l hl).symm
theorem Par.trans {m m' m'' : Mc} {r r' r'' : Nat} (h : Par m r m' r') (h' : Par m' r' m'' r'') (hw : m.w = m'.w) : Par m r m'' r'' := fun row hr => (h row hr).trans (h' row fun l hl => by rw [← hw]; exact hr l hl)
theorem Par.fin {m m' : Mc} {r r' : Nat} (h : Par m r m' r') : m.fin r = m'.fin r' := h [] (Mc.Row.nil m)
theorem Par.of {m m' : Mc} (R : Nat → Nat → Prop) (hf : ∀ r r', R r r' → m.fin r = m'.fin r') (hg : ∀ r r' l, R r r' → l < 2 ^ m.w → R (m.go r l) (m'.go r' l)) {r r' : Nat} (h : R r r') : Par m r m' r' := fun row => by
 induction row generalizing r r' with
 | nil => exact fun _ => hf r r' h
 | cons l row ih => exact fun hr => ih (hg r r' l h (hr l y0c)) fun x hx => hr x (y09 _ hx)
def Lex (r' l' r l : Nat) : Prop := r' < r ∨ (r' = r ∧ l' < l)
structure Mc.Ord (m : Mc) : Prop where
 grow : ∀ r l b, r < m.n → l < 2 ^ m.w → 0 < b → b < m.go r l → ∃ r' l', l' < 2 ^ m.w ∧ Lex r' l' r l ∧ m.go r' l' = b
 par : ∀ b, 0 < b → b < m.n → ∃ r' l', r' < b ∧ l' < 2 ^ m.w ∧ m.go r' l' = b
structure Canon (m : Mc) : Prop where
 ord : m.Ord
 dist : ∀ i j, i < m.n → j < m.n → Par m i m j → i = j
theorem zf7 {m1 m2 : Mc} (hw : m1.w = m2.w) (c2 : Canon m2) (root : Par m1 0 m2 0) {r l : Nat} (hr2 : r < m2.n) (h2 : m2.Ok) (hl : l < 2 ^ m1.w) (pr : Par m1 r m2 r)
  (IH : ∀ r', r' < r → Par m1 r' m2 r' ∧ ∀ l, l < 2 ^ m1.w → m1.go r' l = m2.go r' l) (il : ∀ l', l' < l → m1.go r l' = m2.go r l') (h : m1.go r l < m2.go r l) : False := by
 have hl2 : l < 2 ^ m2.w := by rw [← hw]; exact hl
 have hb := h2.go_lt hr2 hl2
 have pab := pr.go hl
 have fin : Par m1 (m1.go r l) m2 (m1.go r l) → False := fun p => by
  have q := (p.symm hw).trans pab hw.symm
  have := c2.dist _ _ (by omega) hb q
  omega
 by_cases h0 : m1.go r l = 0
 ·rw [h0] at fin; exact fin root
 ·obtain ⟨r', l', hl', lx, e⟩ := c2.ord.grow r l (m1.go r l) hr2 hl2 (by omega) h
  rw [← hw] at hl'
  rcases lx with hlt | ⟨rfl, hlt⟩
  ·obtain ⟨p, q⟩ := IH r' hlt
   have z := p.go hl'
   rw [q l' hl', e] at z
   exact fin z
  ·have z := pr.go hl'
   rw [il l' hlt, e] at z
   exact fin z
theorem zcw {m1 m2 : Mc} (hw : m1.w = m2.w) (o1 : m1.Ok) (o2 : m2.Ok) (c1 : Canon m1) (c2 : Canon m2) (root : Par m1 0 m2 0) (r : Nat) (h1 : r < m1.n) (h2 : r < m2.n) : Par m1 r m2 r ∧ ∀ l, l < 2 ^ m1.w → m1.go r l = m2.go r l := by
 induction r using Nat.strongRecOn with
 | _ r ih =>
  have IH : ∀ r', r' < r → Par m1 r' m2 r' ∧ ∀ l, l < 2 ^ m1.w → m1.go r' l = m2.go r' l := fun r' h => ih r' h (by omega) (by omega)
  have pr : Par m1 r m2 r := by
   by_cases h0 : r = 0
   ·subst h0; exact root
   ·obtain ⟨r', l', hr', hl', e⟩ := c1.ord.par r (by omega) h1
    obtain ⟨p, q⟩ := IH r' hr'
    have z := p.go hl'
    rw [← q l' hl', e] at z
    exact z
  refine ⟨pr, fun l => ?_⟩
  induction l using Nat.strongRecOn with
  | _ l il =>
   intro hl
   have il' : ∀ l', l' < l → m1.go r l' = m2.go r l' := fun l' h => il l' h (by omega)
   rcases Nat.lt_trichotomy (m1.go r l) (m2.go r l) with h | h | h
   ·exact (zf7 hw c2 root h2 o2 hl pr IH il' h).elim
   ·exact h
   ·refine (zf7 hw.symm c1 (root.symm hw) h1 o1 (by rw [← hw]; exact hl) (pr.symm hw) (fun r' hr' => ?_) (fun l' hl' => (il' l' hl').symm) h).elim
    obtain ⟨p, q⟩ := IH r' hr'
    exact ⟨p.symm hw, fun l hl => (q l (by rw [hw]; exact hl)).symm⟩
theorem Mc.ext_go {m1 m2 : Mc} (o1 : m1.Ok) (o2 : m2.Ok) (hw : m1.w = m2.w) (hn : m1.n = m2.n) (hg : ∀ r l, r < m1.n → l < 2 ^ m1.w → m1.go r l = m2.go r l) (hf : ∀ r, r < m1.n → m1.fin r = m2.fin r) : m1 = m2 := by
 have e1 : m1.ways = m2.ways := by
  refine y2a (by rw [o1.len, o2.len]; exact hn) fun r h1 h2 => ?_
  refine y2a (by rw [o1.line _ (y0g h1), o2.line _ (y0g h2), hw]) fun l h3 h4 => ?_
  have hr : r < m1.n := by rw [o1.len] at h1; exact h1
  have hl : l < 2 ^ m1.w := by rw [o1.line _ (y0g h1)] at h3; exact h3
  have := hg r l hr hl
  unfold Mc.go at this
  simpa [y02, y00 h1, y00 h2, y00 h3, y00 h4] using this
 have e2 : m1.ends = m2.ends := by
  refine y2a hn fun r h1 h2 => ?_
  have := hf r h1
  unfold Mc.fin at this
  simpa [y02, y00 h1, y00 h2] using this
 cases m1; cases m2
 simp_all
theorem zlc {m1 m2 : Mc} (hw : m1.w = m2.w) (o1 : m1.Ok) (o2 : m2.Ok) (c1 : Canon m1) (c2 : Canon m2) (root : Par m1 0 m2 0) : m2.n ≤ m1.n := by
 refine y2h fun h => ?_
 have p1 : 0 < m1.n := o1.pos
 obtain ⟨r', l', hr', hl', e⟩ := c2.ord.par m1.n p1 h
 have hl1 : l' < 2 ^ m1.w := by rw [hw]; exact hl'
 have z := (zcw hw o1 o2 c1 c2 root r' hr' (by omega)).2 l' hl1
 have := o1.go_lt hr' hl1
 omega
theorem zib {m1 m2 : Mc} (hw : m1.w = m2.w) (o1 : m1.Ok) (o2 : m2.Ok) (c1 : Canon m1) (c2 : Canon m2) (root : Par m1 0 m2 0) : m1 = m2 := by
 have hn : m1.n = m2.n := Nat.le_antisymm (zlc hw.symm o2 o1 c2 c1 (root.symm hw)) (zlc hw o1 o2 c1 c2 root)
 refine Mc.ext_go o1 o2 hw hn (fun r l hr hl => (zcw hw o1 o2 c1 c2 root r hr (by omega)).2 l hl) fun r hr => (zcw hw o1 o2 c1 c2 root r hr (by omega)).1.fin
def ix (xs : List Nat) (i : Nat) : Nat := xs.getD i 0
theorem zb9 {xs : List Nat} {i : Nat} (h : i < xs.length) : xs[i]? = some (ix xs i) := by
 unfold ix
 rw [y02, y00 h, y0u]
theorem zq9 {xs : List Nat} {i v : Nat} (h : xs[i]? = some v) : ix xs i = v := by unfold ix; rw [y02, h]; rfl
theorem zc7 {xs : List Nat} {i : Nat} (h : i < xs.length) : ix xs i ∈ xs := y0h (zb9 h)
theorem zgp {xs : List Nat} {v : Nat} (h : v ∈ xs) : ∃ i, i < xs.length ∧ ix xs i = v := by
 obtain ⟨i, hi, e⟩ := y28 h
 exact ⟨i, hi, zq9 (by rw [y00 hi, e])⟩
theorem zsa {xs ys : List Nat} {i : Nat} (h : i < xs.length) : ix (xs ++ ys) i = ix xs i := by
 unfold ix; rw [y02, y02, y11 h]
theorem zod (xs : List Nat) (v : Nat) : ix (xs ++ [v]) xs.length = v := by simp [ix]
theorem zr9 {xs : List Nat} (hn : xs.Nodup) {i j : Nat} (hi : i < xs.length) (hj : j < xs.length) (e : ix xs i = ix xs j) : i = j := by
 have h1 := zb9 hi
 rw [e, ← zb9 hj] at h1
 exact (List.getElem?_inj hi hn).mp h1
structure Come (m : Mc) (rooms : List Nat) (at' l : Nat) : Prop where
 nd : rooms.Nodup
 zero : ix rooms 0 = 0
 pos : 0 < rooms.length
 lt : ∀ r ∈ rooms, r < m.n
 disc : ∀ b, 0 < b → b < rooms.length → ∃ r' l', r' < b ∧ l' < 2 ^ m.w ∧ Lex r' l' at' l ∧ m.go (ix rooms r') l' = ix rooms b
 clos : ∀ r l', r < rooms.length → l' < 2 ^ m.w → Lex r l' at' l → ∃ t, t < rooms.length ∧ ix rooms t = m.go (ix rooms r) l' ∧
  ∀ b, 0 < b → b < t → ∃ r'' l'', l'' < 2 ^ m.w ∧ Lex r'' l'' r l' ∧ r'' < rooms.length ∧ m.go (ix rooms r'') l'' = ix rooms b
theorem Come.start {m : Mc} (h : 0 < m.n) : Come m [0] 0 0 :=
 ⟨by simp, rfl, by simp, fun r hr => by rw [y0o.mp hr]; exact h, fun b h0 h1 => by simp at h1; omega, fun r l' _ _ lx => by rcases lx with z | ⟨_, z⟩ <;> omega⟩
theorem zku {r l' a l : Nat} (h : Lex r l' a (l + 1)) : Lex r l' a l ∨ (r = a ∧ l' = l) := by
 rcases h with h | ⟨h, h'⟩
 ·exact .inl (.inl h)
 ·by_cases e : l' = l
  ·exact .inr ⟨h, e⟩
  ·exact .inl (.inr ⟨h, by omega⟩)
theorem zr6 {r l' a l : Nat} (h : Lex r l' a l) : Lex r l' a (l + 1) := h.imp id fun ⟨h, h'⟩ => ⟨h, by omega⟩
theorem Come.old {m : Mc} {rooms : List Nat} {a l : Nat} (c : Come m rooms a l) (ha : a < rooms.length) (hk : m.go (ix rooms a) l ∈ rooms) : Come m rooms a (l + 1) := by
 refine ⟨c.nd, c.zero, c.pos, c.lt, fun b h0 h1 => ?_, fun r l' hr hl' lx => ?_⟩
 ·obtain ⟨r', l', h2, h3, h4, h5⟩ := c.disc b h0 h1
  exact ⟨r', l', h2, h3, zr6 h4, h5⟩
 ·rcases zku lx with lx | ⟨rfl, rfl⟩
  ·exact c.clos r l' hr hl' lx
  ·obtain ⟨t, ht, et⟩ := zgp hk
   refine ⟨t, ht, et, fun b h0 h1 => ?_⟩
   obtain ⟨r', l'', h2, h3, h4, h5⟩ := c.disc b h0 (by omega)
   exact ⟨r', l'', h3, h4, by omega, h5⟩
theorem Come.new {m : Mc} {rooms : List Nat} {a l : Nat} (c : Come m rooms a l) (ha : a < rooms.length) (hl : l < 2 ^ m.w) (hn : m.go (ix rooms a) l < m.n) (hk : ¬ m.go (ix rooms a) l ∈ rooms) : Come m (rooms ++ [m.go (ix rooms a) l]) a (l + 1) := by
 have len : (rooms ++ [m.go (ix rooms a) l]).length = rooms.length + 1 := by simp
 have up : ∀ {r : Nat}, r < rooms.length → ix (rooms ++ [m.go (ix rooms a) l]) r = ix rooms r := fun h => zsa h
 refine ⟨?_, by rw [up c.pos]; exact c.zero, by omega, fun r hr => ?_, fun b h0 h1 => ?_, fun r l' hr hl' lx => ?_⟩
 ·refine y3m.mpr ⟨c.nd, by simp, fun x hx y hy => ?_⟩
  rw [y0o.mp hy]
  intro e; rw [e] at hx; exact hk hx
 ·rcases y1f.mp hr with h | h
  ·exact c.lt r h
  ·rw [y0o.mp h]; exact hn
 ·by_cases hb : b < rooms.length
  ·obtain ⟨r', l', h2, h3, h4, h5⟩ := c.disc b h0 hb
   exact ⟨r', l', h2, h3, zr6 h4, by rw [up (by omega), up hb]; exact h5⟩
  ·have e : b = rooms.length := by omega
   subst e
   exact ⟨a, l, ha, hl, .inr ⟨rfl, by omega⟩, by rw [up ha, zod]⟩
 ·rcases zku lx with lx | ⟨rfl, rfl⟩
  ·have hra : r < rooms.length := by rcases lx with z | ⟨z, _⟩ <;> omega
   obtain ⟨t, ht, et, g⟩ := c.clos r l' hra hl' lx
   refine ⟨t, by omega, by rw [up ht, up hra]; exact et, fun b h0 h1 => ?_⟩
   obtain ⟨r'', l'', h2, h3, h4, h5⟩ := g b h0 h1
   exact ⟨r'', l'', h2, h3, by omega, by rw [up h4, up (by omega)]; exact h5⟩
  ·refine ⟨rooms.length, by omega, by rw [zod, up ha], fun b h0 h1 => ?_⟩
   obtain ⟨r', l'', h2, h3, h4, h5⟩ := c.disc b h0 h1
   exact ⟨r', l'', h3, h4, by omega, by rw [up (by omega), up h1]; exact h5⟩
theorem Come.turn {m : Mc} {rooms : List Nat} {a : Nat} (c : Come m rooms a (2 ^ m.w)) : Come m rooms (a + 1) 0 := by
 have up : ∀ {r l : Nat}, l < 2 ^ m.w → Lex r l (a + 1) 0 → Lex r l a (2 ^ m.w) := fun {r l} hl lx => by
  rcases lx with z | ⟨_, z⟩
  ·by_cases e : r = a
   ·exact .inr ⟨e, hl⟩
   ·exact .inl (by omega)
  ·omega
 refine ⟨c.nd, c.zero, c.pos, c.lt, fun b h0 h1 => ?_, fun r l' hr hl' lx => c.clos r l' hr hl' (up hl' lx)⟩
 obtain ⟨r', l', h2, h3, h4, h5⟩ := c.disc b h0 h1
 refine ⟨r', l', h2, h3, ?_, h5⟩
 rcases h4 with z | ⟨z, _⟩
 ·exact .inl (by omega)
 ·exact .inl (by omega)
theorem zcl : ∀ {xs : List Nat} {n : Nat}, xs.Nodup → (∀ x ∈ xs, x < n) → xs.length ≤ n
 | xs, 0, _, h => by cases xs with | nil => exact y06 _ | cons x r => exact absurd (h x y0c) (y3u _)
 | xs, n + 1, hn, h => by
  have h1 : (xs.erase n).length ≤ n := zcl (hn.erase n) fun x hx => by
   have h2 := h x (List.mem_of_mem_erase hx)
   have h3 : x ≠ n := fun e => by rw [e] at hx; exact (List.Nodup.not_mem_erase hn) hx
   omega
  by_cases hm : n ∈ xs
  ·have h2 := y3y hm
   have h3 := y41 hm
   omega
  ·rw [List.erase_of_not_mem hm] at h1; omega
def picked (m : Mc) (rooms : List Nat) (g : Nat → Nat) : Mc := ⟨m.w, rooms.map fun r => (m.ways.getD r []).map g, rooms.map m.fin⟩
theorem zb6 (m : Mc) (rooms : List Nat) (g : Nat → Nat) : (picked m rooms g).n = rooms.length := by simp [picked, Mc.n]
theorem zft (m : Mc) {rooms : List Nat} (g : Nat → Nat) {i : Nat} (h : i < rooms.length) : (picked m rooms g).fin i = m.fin (ix rooms i) := by
 unfold picked Mc.fin
 simp only [y02, y04]
 rw [zb9 h]
 rfl
theorem zhr {m : Mc} (ok : m.Ok) {rooms : List Nat} (g : Nat → Nat) {i l : Nat} (h : i < rooms.length) (hr : ix rooms i < m.n) (hl : l < 2 ^ m.w) : (picked m rooms g).go i l = g (m.go (ix rooms i) l) := by
 obtain ⟨line, e1, e2, e3⟩ := ok.at hr hl
 have e1' : m.ways.getD (ix rooms i) [] = line := by rw [y02, e1]; rfl
 unfold picked
 rw [Mc.go]
 simp only [y02, y04]
 rw [zb9 h]
 simp only [y2c, y0u]
 rw [e1]
 simp only [y0u, y04]
 rw [e2]
 rfl
theorem zhq {m : Mc} (ok : m.Ok) {rooms : List Nat} {g : Nat → Nat} (h0 : 0 < rooms.length) (hf : rooms.length ≤ 100) (hr : ∀ r ∈ rooms, r < m.n) (hg : ∀ r l, r ∈ rooms → l < 2 ^ m.w → g (m.go r l) < rooms.length) : (picked m rooms g).Ok := by
 refine ⟨ok.wid, by simpa [picked] using h0, by simpa [picked] using hf, by simp [picked], fun line hl => ?_, fun line hl x hx => ?_⟩
 ·obtain ⟨r, mr, rfl⟩ := y0m.mp hl
  have h1 : r < m.ways.length := by rw [ok.len]; exact hr r mr
  rw [y01, y02, y00 h1, y0u]
  exact ok.line _ (y0g h1)
 ·obtain ⟨r, mr, rfl⟩ := y0m.mp hl
  obtain ⟨y, my, rfl⟩ := y0m.mp hx
  have h1 : r < m.ways.length := by rw [ok.len]; exact hr r mr
  rw [y02, y00 h1, y0u] at my
  obtain ⟨l, h2, e2⟩ := y28 my
  rw [ok.line _ (y0g h1)] at h2
  have h3 := hg r l mr h2
  obtain ⟨line, e3, e4, _⟩ := ok.at (hr r mr) h2
  rw [y00 h1] at e3
  cases e3
  rw [y00 (by rw [ok.line _ (y0g h1)]; exact h2), e2] at e4
  cases e4
  simpa [picked] using h3
theorem ze8 {m : Mc} (ok : m.Ok) {rooms : List Nat} (c : Come m rooms rooms.length 0) {g : Nat → Nat} (hg : ∀ i, i < rooms.length → g (ix rooms i) = i) :
  (picked m rooms g).Ok ∧ (picked m rooms g).Ord ∧ Par m 0 (picked m rooms g) 0 ∧ rooms.length ≤ m.n := by
 have hle : rooms.length ≤ m.n := zcl c.nd c.lt
 have hlt : ∀ {i : Nat}, i < rooms.length → ix rooms i < m.n := fun h => c.lt _ (zc7 h)
 have clo : ∀ r l, r < rooms.length → l < 2 ^ m.w → ∃ t, t < rooms.length ∧ ix rooms t = m.go (ix rooms r) l ∧ ∀ b, 0 < b → b < t → ∃ r'' l'', l'' < 2 ^ m.w ∧ Lex r'' l'' r l ∧ r'' < rooms.length ∧ m.go (ix rooms r'') l'' = ix rooms b :=
  fun r l hr hl => c.clos r l hr hl (.inl hr)
 have pgo : ∀ {i l : Nat}, i < rooms.length → l < 2 ^ m.w → ∀ t, t < rooms.length → m.go (ix rooms i) l = ix rooms t → (picked m rooms g).go i l = t := fun hi hl t ht e => by
  rw [zhr ok g hi (hlt hi) hl, e]; exact hg t ht
 refine ⟨zhq ok c.pos (by have : m.n ≤ 100 := ok.few; omega) c.lt fun r l mr hl => ?_, ⟨fun r l b hr hl h0 hb => ?_, fun b h0 hb => ?_⟩, ?_, hle⟩
 ·obtain ⟨i, hi, rfl⟩ := zgp mr
  obtain ⟨t, ht, et, _⟩ := clo i l hi hl
  rw [← et, hg t ht]; exact ht
 ·rw [zb6] at hr
  obtain ⟨t, ht, et, gr⟩ := clo r l hr hl
  rw [pgo hr hl t ht et.symm] at hb
  obtain ⟨r'', l'', h1, h2, h3, h4⟩ := gr b h0 hb
  exact ⟨r'', l'', h1, h2, pgo h3 h1 b (by omega) h4⟩
 ·rw [zb6] at hb
  obtain ⟨r', l', h1, h2, h3, h4⟩ := c.disc b h0 hb
  exact ⟨r', l', h1, h2, pgo (by omega) h2 b hb h4⟩
 ·refine Par.of (fun r i => i < rooms.length ∧ ix rooms i = r) (fun r i ⟨hi, e⟩ => ?_) (fun r i l ⟨hi, e⟩ hl => ?_) ⟨c.pos, c.zero⟩
  ·rw [zft m g hi, e]
  ·obtain ⟨t, ht, et, _⟩ := clo i l hi hl
   rw [pgo hi hl t ht et.symm, ← e]
   exact ⟨ht, et⟩
structure Srt (ns : List Nat) : Prop where
 grow : ∀ i, i < ns.length → ∀ b, b < ix ns i → ∃ j, j < i ∧ ix ns j = b
theorem Srt.le {ns : List Nat} (h : Srt ns) (i : Nat) (hi : i < ns.length) : ix ns i ≤ i := by
 induction i using Nat.strongRecOn with
 | _ i ih =>
  by_cases h0 : ix ns i = 0
  ·omega
  ·obtain ⟨j, hj, e⟩ := h.grow i hi (ix ns i - 1) (by omega)
   have := ih j hj (by omega)
   omega
theorem zru {s f : List Nat} (hs : Srt s) (hf : Srt f) (hl : s.length = f.length) (ref : ∀ i j, i < s.length → j < s.length → ix f i = ix f j → ix s i = ix s j) : ∀ v i, i < s.length → ix s i = v → v ≤ ix f i
 | 0, _, _, _ => y1b _
 | v + 1, i, hi, e => by
  have ih := zru hs hf hl ref v
  refine y2h fun hlt => ?_
  have no : ∀ j, j < i → ix s j = v → False := fun j => by
   induction j using Nat.strongRecOn with
   | _ j ij =>
    intro hj ej
    have h1 := ih j (by omega) ej
    have h2 : ix f j ≠ ix f i := fun z => by have := ref j i (by omega) hi z; omega
    obtain ⟨k, hk, ek⟩ := hf.grow j (by omega) (ix f i) (by omega)
    have h3 := ref k i (by omega) hi ek
    obtain ⟨j', hj', ej'⟩ := hs.grow k (by omega) v (by omega)
    exact ij j' (by omega) (by omega) ej'
  obtain ⟨j, hj, ej⟩ := hs.grow i hi v (by omega)
  exact no j hj ej
theorem zrt : ∀ {s f : List Nat}, s.length = f.length → (∀ i, i < s.length → ix s i ≤ ix f i) → s.sum ≤ f.sum ∧ (s.sum = f.sum → s = f)
 | [], [], _, _ => ⟨y06 _, fun _ => rfl⟩
 | [], _ :: _, h, _ => by simp at h
 | _ :: _, [], h, _ => by simp at h
 | x :: s, y :: f, h, g => by
  have h1 := g 0 (by simp)
  have h2 : x ≤ y := h1
  obtain ⟨h3, h4⟩ := zrt (s := s) (f := f) (by simpa using h) fun i hi => by
   have := g (i + 1) (by simpa using hi)
   simpa [ix] using this
  refine ⟨by simp only [y3k]; omega, fun e => ?_⟩
  simp only [y3k] at e
  rw [show x = y by omega, h4 (by omega)]
theorem zg7 : ∀ {s : List Nat} {n : Nat}, (∀ x ∈ s, x ≤ n) → s.sum ≤ s.length * n
 | [], n, _ => by simp
 | x :: s, n, h => by
  have h1 := h x y0c
  have h2 := zg7 (s := s) (n := n) fun y hy => h y (y09 _ hy)
  simp only [y3k, y0i, Nat.succ_mul]
  omega
structure Sorts (m : Mc) (ns : List Nat) : Prop where
 srt : Srt ns
 len : ns.length = m.n
 fin : ∀ i j, i < m.n → j < m.n → ix ns i = ix ns j → m.fin i = m.fin j
 sep : ∀ i j, i < m.n → j < m.n → Par m i m j → ix ns i = ix ns j
def Stable (m : Mc) (ns : List Nat) : Prop := ∀ i j l, i < m.n → j < m.n → l < 2 ^ m.w → ix ns i = ix ns j → ix ns (m.go i l) = ix ns (m.go j l)
structure Firsts (ns fs : List Nat) : Prop where
 lt : ∀ s, s < fs.length → ix fs s < ns.length
 is : ∀ s, s < fs.length → ix ns (ix fs s) = s
 le : ∀ s j, s < fs.length → j < ns.length → ix ns j = s → ix fs s ≤ j
 all : ∀ i, i < ns.length → ix ns i < fs.length
theorem quotient {m : Mc} (ok : m.Ok) (ord : m.Ord) {ns fs : List Nat} (S : Sorts m ns) (st : Stable m ns) (F : Firsts ns fs) :
  (picked m fs (ix ns)).Ok ∧ Canon (picked m fs (ix ns)) ∧ Par m 0 (picked m fs (ix ns)) 0 ∧ fs.length ≤ m.n := by
 have hlt : ∀ {s : Nat}, s < fs.length → ix fs s < m.n := fun h => by rw [← S.len]; exact F.lt _ h
 have h0 : 0 < fs.length := by have := F.all 0 (by rw [S.len]; exact ok.pos); omega
 have all : ∀ {i : Nat}, i < m.n → ix ns i < fs.length := fun h => F.all _ (by rw [S.len]; exact h)
 have mono : ∀ {a b : Nat}, a < fs.length → b < fs.length → a < b → ix fs a < ix fs b := fun {a b} ha hb hab => by
  have e := F.is b hb
  obtain ⟨j, hj, ej⟩ := S.srt.grow (ix fs b) (F.lt b hb) a (by omega)
  have := F.le a j ha (by have := F.lt b hb; omega) ej
  omega
 have mono' : ∀ {a b : Nat}, a < fs.length → b < fs.length → ix fs a < ix fs b → a < b := fun {a b} ha hb h => by
  rcases Nat.lt_trichotomy a b with z | z | z
  ·exact z
  ·subst z; omega
  ·have := mono hb ha z; omega
 have hle : fs.length ≤ m.n := by
  have h1 := F.is (fs.length - 1) (by omega)
  have h2 := hlt (s := fs.length - 1) (by omega)
  have h3 := S.srt.le _ (by rw [S.len]; exact h2)
  omega
 have pgo : ∀ {s l : Nat}, s < fs.length → l < 2 ^ m.w → (picked m fs (ix ns)).go s l = ix ns (m.go (ix fs s) l) := fun hs hl => zhr ok _ hs (hlt hs) hl
 have thr : ∀ {i l : Nat}, i < m.n → l < 2 ^ m.w → (picked m fs (ix ns)).go (ix ns i) l = ix ns (m.go i l) := fun {i l} hi hl => by
  rw [pgo (all hi) hl]
  exact st _ _ l (hlt (all hi)) hi hl (F.is _ (all hi))
 have hok : (picked m fs (ix ns)).Ok := zhq ok h0 (by have : m.n ≤ 100 := ok.few; omega) (fun r mr => by obtain ⟨s, hs, rfl⟩ := zgp mr; exact hlt hs) fun r l mr hl => by
  obtain ⟨s, hs, rfl⟩ := zgp mr
  exact all (ok.go_lt (hlt hs) hl)
 have par : ∀ {i : Nat}, i < m.n → Par m i (picked m fs (ix ns)) (ix ns i) := fun {i} hi => by
  refine Par.of (fun r s => r < m.n ∧ s = ix ns r) (fun r s ⟨hr, e⟩ => ?_) (fun r s l ⟨hr, e⟩ hl => ?_) ⟨hi, rfl⟩
  ·rw [e, zft m _ (all hr)]
   exact S.fin _ _ hr (hlt (all hr)) (F.is _ (all hr)).symm
  ·exact ⟨ok.go_lt hr hl, by rw [e, thr hr hl]⟩
 refine ⟨hok, ⟨⟨fun s l b hs hl hb hlt' => ?_, fun b hb hbn => ?_⟩, fun i j hi hj p => ?_⟩, ?_, hle⟩
 ·rw [zb6] at hs
  rw [pgo hs hl] at hlt'
  have ht := ok.go_lt (hlt hs) hl
  have ha := all ht
  have hbl : b < fs.length := by omega
  have h1 : ix fs b < m.go (ix fs s) l := by
   have h2 := mono hbl ha hlt'
   have h3 := F.le _ _ ha (by rw [S.len]; exact ht) rfl
   omega
  have h0' : 0 < ix fs b := by
   have := F.is b hbl
   by_cases z : ix fs b = 0
   ·have h5 := S.srt.le 0 (by rw [S.len]; exact ok.pos)
    rw [z] at this; omega
   ·omega
  obtain ⟨r', l', hl', lx, e⟩ := ord.grow (ix fs s) l (ix fs b) (hlt hs) hl h0' h1
  have hr' : r' < m.n := by have := hlt hs; rcases lx with z | ⟨z, _⟩ <;> omega
  refine ⟨ix ns r', l', hl', ?_, by rw [thr hr' hl', e]; exact F.is b hbl⟩
  rcases lx with z | ⟨z, z'⟩
  ·refine .inl (mono' (all hr') hs ?_)
   have := F.le _ r' (all hr') (by rw [S.len]; exact hr') rfl
   omega
  ·exact .inr ⟨by rw [z]; exact F.is s hs, z'⟩
 ·rw [zb6] at hbn
  have h0' : 0 < ix fs b := by
   have := F.is b hbn
   by_cases z : ix fs b = 0
   ·have h5 := S.srt.le 0 (by rw [S.len]; exact ok.pos)
    rw [z] at this; omega
   ·omega
  obtain ⟨r', l', hr', hl', e⟩ := ord.par (ix fs b) h0' (hlt hbn)
  have hrn : r' < m.n := by have := hlt hbn; omega
  refine ⟨ix ns r', l', mono' (all hrn) hbn ?_, hl', by rw [thr hrn hl', e]; exact F.is b hbn⟩
  have := F.le _ r' (all hrn) (by rw [S.len]; exact hrn) rfl
  omega
 ·rw [zb6] at hi hj
  have p1 := par (hlt hi)
  have p2 := par (hlt hj)
  rw [F.is i hi] at p1
  rw [F.is j hj] at p2
  have q : Par m (ix fs i) m (ix fs j) := (p1.trans p rfl).trans (p2.symm rfl) rfl
  have z := S.sep _ _ (hlt hi) (hlt hj) q
  rw [F.is i hi, F.is j hj] at z
  exact z
 ·have p := par ok.pos
  have e : ix ns 0 = 0 := by have := S.srt.le 0 (by rw [S.len]; exact ok.pos); omega
  rw [e] at p
  exact p
structure Num {α : Type} (marks : List α) (ns : List Nat) : Prop where
 len : ns.length = marks.length
 eq : ∀ i j a b, marks[i]? = some a → marks[j]? = some b → (ix ns i = ix ns j ↔ a = b)
 srt : Srt ns
theorem ziu {m : Mc} {ns : List Nat} (N : Num m.ends ns) : Sorts m ns := by
 refine ⟨N.srt, N.len, fun i j hi hj e => ?_, fun i j hi hj p => ?_⟩
 ·exact (N.eq i j _ _ (Mc.fin_at hi) (Mc.fin_at hj)).mp e
 ·exact (N.eq i j _ _ (Mc.fin_at hi) (Mc.fin_at hj)).mpr p.fin
def markOf (m : Mc) (ns : List Nat) (i : Nat) : List Nat := ix ns i :: (m.ways.getD i []).map (ix ns)
theorem ztp {m : Mc} (ok : m.Ok) {ns : List Nat} {i j : Nat} (hi : i < m.n) (hj : j < m.n) : markOf m ns i = markOf m ns j ↔ ix ns i = ix ns j ∧ ∀ l, l < 2 ^ m.w → ix ns (m.go i l) = ix ns (m.go j l) := by
 have h1 : i < m.ways.length := by rw [ok.len]; exact hi
 have h2 : j < m.ways.length := by rw [ok.len]; exact hj
 have L1 := ok.line _ (y0g h1)
 have L2 := ok.line _ (y0g h2)
 unfold markOf
 rw [List.cons.injEq]
 refine and_congr_right fun _ => ?_
 unfold Mc.go
 simp only [y02, y00 h1, y00 h2, y0u]
 refine ⟨fun e l hl => ?_, fun h => ?_⟩
 ·have z := congrArg (fun q => q[l]?) e
  simp only [y04] at z
  rw [y00 (by omega), y00 (by omega)] at z ⊢
  simpa using z
 ·refine y2a (by rw [y01, y01, L1, L2]) fun l h3 h4 => ?_
  rw [y01] at h3 h4
  have z := h l (by omega)
  rw [y00 h3, y00 h4] at z
  rw [y3s, y3s]
  simpa using z
theorem zfp {m : Mc} (ok : m.Ok) {ns fs : List Nat} (S : Sorts m ns) (N : Num ((List.range m.n).map (markOf m ns)) fs) : Sorts m fs ∧ (∀ i j, i < ns.length → j < ns.length → ix fs i = ix fs j → ix ns i = ix ns j) ∧ (fs = ns → Stable m ns) := by
 have at' : ∀ {i : Nat}, i < m.n → ((List.range m.n).map (markOf m ns))[i]? = some (markOf m ns i) := fun h => by rw [y04, y1j h]; rfl
 have eq : ∀ {i j : Nat}, i < m.n → j < m.n → (ix fs i = ix fs j ↔ ix ns i = ix ns j ∧ ∀ l, l < 2 ^ m.w → ix ns (m.go i l) = ix ns (m.go j l)) := fun hi hj => (N.eq _ _ _ _ (at' hi) (at' hj)).trans (ztp ok hi hj)
 refine ⟨⟨N.srt, by rw [N.len]; simp, fun i j hi hj e => S.fin i j hi hj ((eq hi hj).mp e).1, fun i j hi hj p => (eq hi hj).mpr ⟨S.sep i j hi hj p, fun l hl => S.sep _ _ (ok.go_lt hi hl) (ok.go_lt hj hl) (p.go hl)⟩⟩, fun i j hi hj e => ?_, fun e i j l hi hj hl h => ?_⟩
 ·rw [S.len] at hi hj
  exact ((eq hi hj).mp e).1
 ·subst e
  exact ((eq hi hj).mp h).2 l hl
theorem zlj {m : Mc} {ns fs : List Nat} (S : Sorts m ns) (S' : Sorts m fs) (ref : ∀ i j, i < ns.length → j < ns.length → ix fs i = ix fs j → ix ns i = ix ns j) (ne : fs ≠ ns) : ns.sum < fs.sum ∧ fs.sum ≤ m.n * m.n := by
 have hl : ns.length = fs.length := by rw [S.len, S'.len]
 obtain ⟨h1, h2⟩ := zrt hl fun i hi => zru S.srt S'.srt hl ref _ i hi rfl
 refine ⟨Nat.lt_of_le_of_ne h1 fun e => ne (h2 e).symm, ?_⟩
 have h3 := zg7 (s := fs) (n := m.n) fun x hx => by
  obtain ⟨i, hi, rfl⟩ := zgp hx
  have := S'.srt.le i hi
  have := S'.len
  omega
 rw [S'.len] at h3
 exact h3
section
variable {α : Type} [DecidableEq α]
def news : List α → List α → List α
 | acc, [] => acc
 | acc, x :: r => news (if x ∈ acc then acc else acc ++ [x]) r
theorem ze1 : ∀ (xs acc : List α) (x : α), news acc (xs ++ [x]) = if x ∈ news acc xs then news acc xs else news acc xs ++ [x]
 | [], acc, x => rfl
 | y :: r, acc, x => ze1 r _ x
theorem zbm : ∀ (xs acc : List α) (x : α), x ∈ news acc xs ↔ x ∈ acc ∨ x ∈ xs
 | [], acc, x => by simp [news]
 | y :: r, acc, x => by
  unfold news
  rw [zbm r _ x]
  by_cases h : y ∈ acc
  ·rw [if_pos h]
   simp only [y05]
   refine ⟨fun z => z.imp id .inr, fun z => z.elim .inl fun z => z.elim (fun e => .inl (e ▸ h)) .inr⟩
  ·rw [if_neg h]
   simp only [y1f, y05, y0a, or_false]
   exact or_assoc
theorem zi9 : ∀ (xs acc : List α), acc.Nodup → (news acc xs).Nodup
 | [], acc, h => h
 | y :: r, acc, h => by
  unfold news
  refine zi9 r _ ?_
  by_cases hy : y ∈ acc
  ·rw [if_pos hy]; exact h
  ·rw [if_neg hy]
   refine y3m.mpr ⟨h, by simp, fun a ha b hb => ?_⟩
   rw [y0o.mp hb]
   intro e; exact hy (e ▸ ha)
theorem zeb : ∀ (xs acc : List α), (news acc xs).length ≤ acc.length + xs.length
 | [], acc => by simp [news]
 | y :: r, acc => by
  unfold news
  have := zeb r (if y ∈ acc then acc else acc ++ [y])
  by_cases hy : y ∈ acc
  ·rw [if_pos hy] at this ⊢; simp only [y0i]; omega
  ·rw [if_neg hy] at this ⊢; simp only [y0j, y0i, y0v] at this ⊢; omega
theorem zcm : ∀ (xs acc : List α), ∃ t, news acc xs = acc ++ t
 | [], acc => ⟨[], by simp [news]⟩
 | y :: r, acc => by
  unfold news
  obtain ⟨t, e⟩ := zcm r (if y ∈ acc then acc else acc ++ [y])
  by_cases hy : y ∈ acc
  ·rw [if_pos hy] at e ⊢; exact ⟨t, e⟩
  ·rw [if_neg hy] at e ⊢; exact ⟨[y] ++ t, by rw [e, y37]⟩
theorem zko : ∀ (xs ys acc : List α), news acc (xs ++ ys) = news (news acc xs) ys
 | [], ys, acc => rfl
 | x :: r, ys, acc => zko r ys _
def nOf (ds : List α) (x : α) : Nat := ds.idxOf x
def nxt (ds : List α) (x : α) : List α := if x ∈ ds then ds else ds ++ [x]
theorem zny {ds : List α} {x : α} (h : x ∈ ds) : nxt ds x = ds := if_pos h
theorem zi8 {ds : List α} {x : α} (h : ¬ x ∈ ds) : nxt ds x = ds ++ [x] := if_neg h
theorem zq1 (xs : List α) (x : α) : news [] (xs ++ [x]) = nxt (news [] xs) x := ze1 xs [] x
theorem zhz {xs : List α} {i : Nat} {x : α} (h : xs[i]? = some x) : news [] (xs.take (i + 1)) = nxt (news [] (xs.take i)) x := by rw [y1g, h, y21, zq1]
theorem zgq {xs ys : List α} {x : α} (h : x ∈ xs) : (xs ++ ys).idxOf x = xs.idxOf x := by rw [List.idxOf_append, if_pos h]
theorem zr2 (marks : List α) : Num marks (marks.map (nOf (news [] marks))) := by
 show Num marks (marks.map fun x => (news [] marks).idxOf x)
 have at' : ∀ {i : Nat} {a : α}, marks[i]? = some a → ix (marks.map fun x => (news [] marks).idxOf x) i = (news [] marks).idxOf a := fun h => zq9 (by rw [y04, h]; rfl)
 have mem : ∀ {a : α}, a ∈ marks → a ∈ news [] marks := fun h => (zbm marks [] _).mpr (.inr h)
 refine ⟨y01 _, fun i j a b ha hb => ?_, ⟨fun i hi b hb => ?_⟩⟩
 ·rw [at' ha, at' hb]
  refine ⟨fun e => ?_, fun e => by rw [e]⟩
  have h1 := y0s.mpr (mem (y0h ha))
  have h2 := y0s.mpr (mem (y0h hb))
  have e1 := y2b h1
  have e2 := y2b h2
  rw [← e1, ← e2]
  congr 1
 ·rw [y01] at hi
  have hx : marks[i]? = some marks[i] := y00 hi
  rw [at' hx] at hb
  have em : marks = marks.take i ++ marks[i] :: marks.drop (i + 1) := by rw [← y33 hi, List.take_append_drop]
  have en : news [] marks = news (if marks[i] ∈ news [] (marks.take i) then news [] (marks.take i) else news [] (marks.take i) ++ [marks[i]]) (marks.drop (i + 1)) := by
   conv => lhs; rw [em]
   rw [zko]; rfl
  obtain ⟨t, et⟩ := zcm (marks.drop (i + 1)) (if marks[i] ∈ news [] (marks.take i) then news [] (marks.take i) else news [] (marks.take i) ++ [marks[i]])
  rw [← en] at et
  have hbl : b < (news [] (marks.take i)).length := by
   by_cases c : marks[i] ∈ news [] (marks.take i)
   ·rw [if_pos c] at et
    rw [et, zgq c] at hb
    have := y0s.mpr c
    omega
   ·rw [if_neg c] at et
    rw [et, zgq (by simp), List.idxOf_append, if_neg c] at hb
    simp at hb
    omega
  have hpre : ∃ t', news [] marks = news [] (marks.take i) ++ t' := by
   by_cases c : marks[i] ∈ news [] (marks.take i)
   ·rw [if_pos c] at et; exact ⟨t, et⟩
   ·rw [if_neg c] at et; exact ⟨[marks[i]] ++ t, by rw [et, y37]⟩
  obtain ⟨t', et'⟩ := hpre
  have hm : (news [] (marks.take i))[b] ∈ marks.take i := by
   rcases (zbm (marks.take i) [] _).mp (y0g hbl) with h | h
   ·exact nomatch h
   ·exact h
  obtain ⟨j, hj, ej⟩ := y28 hm
  rw [y0w] at hj
  rw [List.getElem_take] at ej
  refine ⟨j, by omega, ?_⟩
  have hj' : marks[j]? = some (news [] (marks.take i))[b] := by rw [y00 (by omega), ej]
  rw [at' hj', et', zgq (y0g hbl)]
  exact List.Nodup.idxOf_getElem (zi9 _ _ y3i) b hbl
end
theorem idx_le : ∀ (ns : List Nat) (s j : Nat), ns[j]? = some s → ns.idxOf s ≤ j
 | [], _, _, h => by simp at h
 | x :: ns, s, 0, h => by
  simp only [y40, Option.some.injEq] at h
  subst h
  simp
 | x :: ns, s, j + 1, h => by
  simp only [y0t] at h
  have ih := idx_le ns s j h
  rw [y2m]
  cases hx : x == s with
  | true => simp
  | false => simp; omega
theorem zky {ns : List Nat} {s : Nat} (h : s ∈ ns) : ns.idxOf s < ns.length ∧ ix ns (ns.idxOf s) = s := by
 have h1 := y0s.mpr h
 exact ⟨h1, zq9 (by rw [y00 h1, y2b h1])⟩
theorem zoq {ns : List Nat} {M : Nat} (S : Srt ns) (hM : M ∈ ns) (hle : ∀ a ∈ ns, a ≤ M) : Firsts ns ((List.range (M + 1)).map fun s => ns.idxOf s) ∧ ∀ s, s ≤ M → s ∈ ns := by
 have mem : ∀ s, s ≤ M → s ∈ ns := fun s hs => by
  by_cases e : s = M
  ·rw [e]; exact hM
  ·obtain ⟨i, hi, ei⟩ := zgp hM
   obtain ⟨j, hj, ej⟩ := S.grow i hi s (by omega)
   rw [← ej]
   exact zc7 (by omega)
 have at' : ∀ {s : Nat}, s < M + 1 → ix ((List.range (M + 1)).map fun s => ns.idxOf s) s = ns.idxOf s := fun {s} h => zq9 (by rw [y04, y1j h]; rfl)
 have len : ((List.range (M + 1)).map fun s => ns.idxOf s).length = M + 1 := by simp
 refine ⟨⟨fun s hs => ?_, fun s hs => ?_, fun s j hs hj e => ?_, fun i hi => ?_⟩, mem⟩
 ·rw [len] at hs; rw [at' hs]; exact (zky (mem s (by omega))).1
 ·rw [len] at hs; rw [at' hs]; exact (zky (mem s (by omega))).2
 ·rw [len] at hs; rw [at' hs]
  exact idx_le ns s j (by rw [zb9 hj, e])
 ·rw [len]
  have := hle _ (zc7 hi)
  omega
structure Red (m m' : Mc) : Prop where
 ok : m'.Ok
 w : m'.w = m.w
 canon : Canon m'
 par : Par m 0 m' 0
 le : m'.n ≤ m.n
theorem red_of {m : Mc} (ok : m.Ok) {rooms : List Nat} (c : Come m rooms rooms.length 0) {g : Nat → Nat} (hg : ∀ i, i < rooms.length → g (ix rooms i) = i) {ns fs : List Nat} (S : Sorts (picked m rooms g) ns) (st : Stable (picked m rooms g) ns) (F : Firsts ns fs) :
  Red m (picked (picked m rooms g) fs (ix ns)) := by
 obtain ⟨o1, ord1, p1, l1⟩ := ze8 ok c hg
 obtain ⟨o2, c2, p2, l2⟩ := quotient o1 ord1 S st F
 refine ⟨o2, rfl, c2, p1.trans p2 rfl, ?_⟩
 rw [zb6] at l2 ⊢
 omega
open PySem PySem.Spec PyProof.Rows L2 SS
abbrev nV (n : Nat) : V := .int (n : Int)
def Line (H : Hp) (v : V) (l : List Nat) : Prop := ∃ a, v = .ref a ∧ H a = some (.tup (l.map nV))
def RepM (H : Hp) (a : Addr) (m : Mc) : Prop := ∃ (b c : Addr) (rs : List V), H a = some (.tup [nV m.w, .ref b, .ref c]) ∧ H b = some (.tup rs) ∧ Paired (Line H) rs m.ways ∧ H c = some (.tup (m.ends.map V.bl))
theorem Line.ts {H H' : Hp} {v : V} {l : List Nat} (h : Line H v l) (g : TupS H H') : Line H' v l := let ⟨a, e, z⟩ := h; ⟨a, e, g _ _ z⟩
theorem RepM.ts {H H' : Hp} {a : Addr} {m : Mc} (h : RepM H a m) (g : TupS H H') : RepM H' a m := by
 obtain ⟨b, c, rs, h1, h2, h3, h4⟩ := h
 exact ⟨b, c, rs, g _ _ h1, g _ _ h2, L2.Paired.mapP h3 fun _ _ z => z.ts g, g _ _ h4⟩
theorem RepM.same {H H' : Hp} {a : Addr} {m : Mc} (h : RepM H a m) (g : Same H H') : RepM H' a m := h.ts g.tups
theorem Paired.at2 {α β : Type} {R : α → β → Prop} : ∀ {xs : List α} {ys : List β} {i : Nat} {y : β}, Paired R xs ys → ys[i]? = some y → ∃ x, xs[i]? = some x ∧ R x y
 | _, _, _, _, .nil, h => by simp at h
 | _, _, 0, _, .cons h _, e => by simp at e; subst e; exact ⟨_, rfl, h⟩
 | _, _, i + 1, _, .cons _ h, e => by simp only [y0t] at e ⊢; exact Paired.at2 h e
theorem Paired.snoc {α β : Type} {R : α → β → Prop} : ∀ {xs : List α} {ys : List β} {x : α} {y : β}, Paired R xs ys → R x y → Paired R (xs ++ [x]) (ys ++ [y])
 | _, _, _, _, .nil, h => .cons h .nil
 | _, _, _, _, .cons h t, z => .cons h (Paired.snoc t z)
theorem zf1 (l : List Nat) : l.map nV = (l.map fun (n : Nat) => (n : Int)).map V.int := by rw [y0r]; rfl
end SM
namespace L2
theorem zq5 {h h' : Heap} {j a : Addr} {i : Nat} (x : h.IsListIter j a i) (k : ∀ o, h.get? j = some o → h'.get? j = some o) : h'.IsListIter j a i := by
 obtain ⟨o, e, r⟩ := x
 exact ⟨o, k o e, r⟩
theorem ze3 {h h' : Heap} {j a b : Addr} {i : Nat} (x : h.IsListIter j a i) (k : Heap.ExtBut b h h') (n : j ≠ b) : h'.IsListIter j a i := zq5 x fun o e => k j o n e
structure ZipL (h : Heap) (z ti ro j1 j2 t1 t2 : Addr) (f0 : Value) (i : Nat) : Prop where
 z : IsZip h z ti ro f0
 ti : IsPair h ti (.ref j1) (.ref j2)
 ro : ∃ a b, IsPair h ro a b
 j1 : h.IsListIter j1 t1 i
 j2 : h.IsTupleIter j2 t2 i
section
variable {P : Program} {w : World} {A : Around} {E : T0} {s : Shared} {z ti ro j1 j2 t1 t2 : Addr} {i : Nat} {its1 its2 : Array Value}
theorem zsn {x y : Value} {Q : T9} (D : ZipApart z ti ro j1 j2 t1 t2) (Z : ZipL s.heap z ti ro j1 j2 t1 t2 .none i) (p1 : s.heap.IsList t1 its1) (p2 : s.heap.IsTuple t2 its2) (hx : its1[i]? = some x) (hy : its2[i]? = some y)
  (q : ∀ h', ZipL h' z ti ro j1 j2 t1 t2 (rawInt s.heap.objs.size) (i + 1) → IsPair h' s.heap.objs.size x y → h'.objs.size = s.heap.objs.size + 1 → (∀ c o, c ≠ z → c ≠ ro → c ≠ j1 → c ≠ j2 → s.heap.get? c = some o → h'.get? c = some o) →
   Q (some (.ref s.heap.objs.size)) { s with heap := h' }) : wpAny (model P w) A (pyNext (.ref z)) Q E s := by
 have hT : s.TypeIs (.ref z) "zip" := ⟨_, Z.z, rfl⟩
 obtain ⟨a, b, hro⟩ := Z.ro
 unfold pyNext
 refine wpAny_bind (wpAny_attempt (wpAny_callSpecial?_slot (name := Str.ofString "__next__") hT F.slot_zip_next (wpAny_call_entry F.slot_zip_next hT F.entry_zip_next ?_ (F.args_zip_next_1 _))))
 show wpAny _ _ (field (.ref z) 2 >>= _) _ _ _
 refine wpAny_bind (wpAny_field Z.z rfl (x := .bool false) rfl ?_)
 show wpAny _ _ (field (.ref z) 3 >>= _) _ _ _
 refine wpAny_bind (wpAny_field Z.z rfl (x := .ref ti) rfl ?_)
 refine wpAny_bind (wpAny_seqItems Z.ti rfl ?_)
 show wpAny _ _ (Builtin.SmallTypes.ownedTupleIsFree (.ref z) >>= _) _ _ _
 refine wpAny_bind ?_
 unfold Builtin.SmallTypes.ownedTupleIsFree
 refine wpAny_bind (wpAny_field Z.z rfl (x := .none) rfl (wpAny_pure ?_))
 simp only [if_true]
 refine wpAny_bind (wpAny_rule ?_)
 refine wpAny_bind (wpAny_field Z.z rfl (x := .ref ro) rfl ?_)
 refine wpAny_bind (wpAny_setField_rec Z.z (by simp) fun ha hza hsa => ?_)
 replace hza : IsZip ha z ti ro .ellipsis := hza
 refine wpAny_bind ?_
 simp only [y2i, y2j, y1n, y24]
 refine wpAny_bind (wpAny_bind (wpAny_onRaise ?_))
 exfalso
 refine wpAny_bind (wpAny_nextOf_list_item (ze3 Z.j1 hsa.extBut D.i1z) (p1.extBut hsa.extBut D.l1z) hx fun hb b1 hsb => wpAny_pure ?_)
 have rob : IsPair hb ro a b := hsb.extBut _ _ D.TOi1 (hsa.extBut _ _ D.TOz hro)
 refine wpAny_bind (wpAny_seqItems rob rfl ?_)
 refine wpAny_bind (wpAny_updateSeq_pair rob fun hc roc hsc => ?_)
 replace roc : IsPair hc ro x b := roc
 refine wpAny_bind (wpAny_letGo (wpAny_pure ?_))
 refine wpAny_bind (wpAny_bind (wpAny_onRaise ?_))
 show wpAny _ _ (Builtin.SmallTypes.nextOf (.ref j2) >>= _) _ _ _
 refine wpAny_bind (zbd (((Z.j2.extBut hsa.extBut D.i2z).extBut hsb.extBut D.i12.symm).extBut hsc.extBut D.TOi2.symm) (((p2.extBut hsa.extBut D.l2z).extBut hsb.extBut D.l2i1).extBut hsc.extBut D.l2TO) hy fun hd d2 hsd => wpAny_pure ?_)
 have rod : IsPair hd ro x b := hsd.extBut _ _ D.TOi2 roc
 refine wpAny_bind (wpAny_seqItems rod rfl ?_)
 refine wpAny_bind (wpAny_updateSeq_pair rod fun he roe hse => ?_)
 replace roe : IsPair he ro x y := roe
 refine wpAny_bind (wpAny_letGo (wpAny_pure (wpAny_pure ?_)))
 refine wpAny_bind (wpAny_seqItems roe rfl ?_)
 refine wpAny_bind (wpAny_newTuple ?_)
 have sz : he.objs.size = s.heap.objs.size := by rw [hse.1, hsd.1, hsc.1, hsb.1, hsa.1]
 have ze : IsZip he z ti ro .ellipsis := hse.extBut _ _ D.TOz.symm (hsd.extBut _ _ D.i2z.symm (hsc.extBut _ _ D.TOz.symm (hsb.extBut _ _ D.i1z.symm hza)))
 have ke : ∀ c o, c ≠ z → c ≠ ro → c ≠ j1 → c ≠ j2 → s.heap.get? c = some o → he.get? c = some o := fun c o c1 c2 c3 c4 e =>
  hse.extBut _ _ c2 (hsd.extBut _ _ c4 (hsc.extBut _ _ c2 (hsb.extBut _ _ c3 (hsa.extBut _ _ c1 e))))
 have e1 : he.IsListIter j1 t1 (i + 1) := ze3 (ze3 (ze3 b1 hsc.extBut D.TOi1.symm) hsd.extBut D.i12) hse.extBut D.TOi1.symm
 have e2 : he.IsTupleIter j2 t2 (i + 1) := d2.extBut hse.extBut D.TOi2.symm
 have zlt : z < he.objs.size := y0d ze
 show wpAny _ _ (Builtin.SmallTypes.ownedTupleHandOut (.ref z) (.ref he.objs.size) >>= _) _ _ _
 refine wpAny_bind ?_
 unfold Builtin.SmallTypes.ownedTupleHandOut
 have zf : IsZip (he.push { cls := .type "tuple", data := .seq #[x, y] }) z ti ro .ellipsis := y03 _ ze
 refine wpAny_bind (wpAny_setField_rec zf (by simp) fun hg zg hsg => ?_)
 replace zg : IsZip hg z ti ro (rawInt he.objs.size) := zg
 refine wpAny_setField_rec zg (by simp) fun hk zk hsk => ?_
 replace zk : IsZip hk z ti ro (rawInt he.objs.size) := zk
 have up : ∀ c o, c ≠ z → he.get? c = some o → hk.get? c = some o := fun c o c1 e => hsk.extBut _ _ c1 (hsg.extBut _ _ c1 (y03 _ e))
 have tk : IsPair hk he.objs.size x y := hsk.extBut _ _ (y26 zlt) (hsg.extBut _ _ (y26 zlt) (y0e _ rfl))
 have zk8 : hk.objs.size = he.objs.size + 1 := by rw [hsk.1, hsg.1, y16]
 rw [sz] at zk tk zk8
 refine wpAny_pure ⟨_, rfl, wpAny_pure ?_⟩
 show Q (some (.ref he.objs.size)) _
 rw [sz]
 exact q hk ⟨zk, up _ _ D.TIz (ke _ _ D.TIz D.TITO D.TIi1 D.TIi2 Z.ti), ⟨_, _, up _ _ D.TOz roe⟩, zq5 e1 fun o e => up _ o D.i1z e, e2.at fun o e => up _ o D.i2z e⟩ tk zk8 fun c o c1 c2 c3 c4 e => up c o c1 (ke c o c1 c2 c3 c4 e)
theorem zl_end {Q : T9} (hh : A.handled = none) (D : ZipApart z ti ro j1 j2 t1 t2) (Z : ZipL s.heap z ti ro j1 j2 t1 t2 .none i) (p1 : s.heap.IsList t1 its1) (p2 : s.heap.IsTuple t2 its2) (hx : its1[i]? = none)
  (q : ∀ h', (∀ c o, c ≠ z → c ≠ ro → c ≠ j1 → c ≠ j2 → s.heap.get? c = some o → h'.get? c = some o) → Q none { s with heap := h' }) : wpAny (model P w) A (pyNext (.ref z)) Q E s := by
 have hT : s.TypeIs (.ref z) "zip" := ⟨_, Z.z, rfl⟩
 unfold pyNext
 refine wpAny_bind (wpAny_attempt (wpAny_callSpecial?_slot (name := Str.ofString "__next__") hT F.slot_zip_next (wpAny_call_entry F.slot_zip_next hT F.entry_zip_next ?_ (F.args_zip_next_1 _))))
 show wpAny _ _ (field (.ref z) 2 >>= _) _ _ _
 refine wpAny_bind (wpAny_field Z.z rfl (x := .bool false) rfl ?_)
 show wpAny _ _ (field (.ref z) 3 >>= _) _ _ _
 refine wpAny_bind (wpAny_field Z.z rfl (x := .ref ti) rfl ?_)
 refine wpAny_bind (wpAny_seqItems Z.ti rfl ?_)
 show wpAny _ _ (Builtin.SmallTypes.ownedTupleIsFree (.ref z) >>= _) _ _ _
 refine wpAny_bind ?_
 unfold Builtin.SmallTypes.ownedTupleIsFree
 refine wpAny_bind (wpAny_field Z.z rfl (x := .none) rfl (wpAny_pure ?_))
 simp only [if_true]
 refine wpAny_bind (wpAny_rule ?_)
 refine wpAny_bind (wpAny_field Z.z rfl (x := .ref ro) rfl ?_)
 refine wpAny_bind (wpAny_setField_rec Z.z (by simp) fun ha hza hsa => ?_)
 replace hza : IsZip ha z ti ro .ellipsis := hza
 refine wpAny_bind ?_
 simp only [y2i, y2j, y1n, y24]
 refine wpAny_bind (wpAny_bind (wpAny_onRaise ?_))
 exfalso
 refine wpAny_bind (wpAny_nextOf_list_end hh (ze3 Z.j1 hsa.extBut D.i1z) (p1.extBut hsa.extBut D.l1z) hx fun hb e hsb ⟨oe, ge, ce⟩ => ?_)
 have zb : IsZip hb z ti ro .ellipsis := hsb _ _ D.i1z.symm hza
 have nez : e ≠ z := fun z' => by
  subst z'
  rw [zb] at ge
  cases ge
  simp at ce
 refine wpAny_setField_rec zb (by simp) fun hc _ hsc => ?_
 refine wpAny_bind (wpAny_isInstance (T := "StopIteration") (b := true) ⟨oe, hsc.extBut _ _ nez ge, ce⟩ isSubtype_stop ?_)
 exact wpAny_pure (q _ fun c o c1 _ c3 _ x => hsc.extBut _ _ c1 (hsb _ _ c3 (hsa.extBut _ _ c1 x)))
end
abbrev zl1 (h : Heap) (a : Addr) : Heap := h.push { cls := .type "list_iterator", data := .fields #[.ref a, .int 0 0] }
abbrev zl2 (h : Heap) (a b : Addr) : Heap := (zl1 h a).push { cls := .type "tuple_iterator", data := .fields #[.ref b, .int 0 0] }
abbrev zl3 (h : Heap) (a b : Addr) : Heap := (zl2 h a b).push { cls := .type "tuple", data := .seq #[.ref h.objs.size, .ref (zl1 h a).objs.size] }
abbrev zl4 (h : Heap) (a b : Addr) : Heap := (zl3 h a b).push { cls := .type "tuple", data := .seq #[.none, .none] }
abbrev zl5 (h : Heap) (a b : Addr) : Heap := (zl4 h a b).push { cls := .type "zip", data := .fields #[.none, .bool false, .bool false, .ref (zl2 h a b).objs.size, .ref (zl3 h a b).objs.size] }
theorem zl_new (a b : Addr) (xs ys : Array Value) : Meets (Builtin.«zip.__new__» ⟨[.type "zip", .ref a, .ref b], []⟩) (fun _ R s => s.heap.IsList a xs ∧ s.heap.IsTuple b ys ∧ R (.ok (.ret (.ref (zl4 s.heap a b).objs.size))) { s with heap := zl5 s.heap a b }) :=
 .of_wp fun prog w A R s h => by
  obtain ⟨hp, g, d, tk, os⟩ := s
  obtain ⟨ha, hb, h⟩ := h
  have hsub := sub_zip
  have hA : Heap.IsList (Shared.heap ⟨hp, g, d, tk, os⟩) a xs := ha
  have hB : Heap.IsTuple (Shared.heap ⟨hp.push { cls := .type "list_iterator", data := .fields #[.ref a, .int 0 0] }, g, d, tk, os⟩) b ys := by
   obtain ⟨o, e, r⟩ := hb
   exact ⟨o, y03 _ e, r⟩
  wp_walk using wpAny_pyIter_list hA, wpAny_pyIter_tuple hB
  exact ⟨_, rfl, h⟩
section
variable {P : Program} {w : World} {A : Around} {E : T0} {s : Shared}
theorem zso {a b : Addr} {xs ys : Array Value} {Q : T0} (ha : s.heap.IsList a xs) (hb : s.heap.IsTuple b ys)
  (q : ∀ h', ZipL h' (s.heap.objs.size + 4) (s.heap.objs.size + 2) (s.heap.objs.size + 3) s.heap.objs.size (s.heap.objs.size + 1) a b .none 0 → h'.objs.size = s.heap.objs.size + 5 → (∀ c o, s.heap.get? c = some o → h'.get? c = some o) → Q (.ref (s.heap.objs.size + 4)) { s with heap := h' }) :
  wpAny (model P w) A (call (.type "zip") [.ref a, .ref b]) Q E s := by
 refine callType_new F.called_zip (by decide) (F.typeCall_zip_2 _ _) (F.newCall_zip_2 _ _) (fun obj => F.args_object_init_3 obj _ _) F.entry_zip_new (zl_new a b xs ys) ⟨ha, hb, ?_⟩
 have s1 : (zl1 s.heap a).objs.size = s.heap.objs.size + 1 := y16 ..
 have s2 : (zl2 s.heap a b).objs.size = s.heap.objs.size + 2 := by rw [y16, s1]
 have s3 : (zl3 s.heap a b).objs.size = s.heap.objs.size + 3 := by rw [y16, s2]
 have s4 : (zl4 s.heap a b).objs.size = s.heap.objs.size + 4 := by rw [y16, s3]
 have s5 : (zl5 s.heap a b).objs.size = s.heap.objs.size + 5 := by rw [y16, s4]
 have k5 : (zl5 s.heap a b).get? (zl4 s.heap a b).objs.size = some _ := y0e _ rfl
 have k4 : (zl5 s.heap a b).get? (zl3 s.heap a b).objs.size = some _ := y03 _ (y0e _ rfl)
 have k3 : (zl5 s.heap a b).get? (zl2 s.heap a b).objs.size = some _ := y03 _ (y03 _ (y0e _ rfl))
 have k2 : (zl5 s.heap a b).get? (zl1 s.heap a).objs.size = some _ := y03 _ (y03 _ (y03 _ (y0e _ rfl)))
 have k1 : (zl5 s.heap a b).get? s.heap.objs.size = some _ := y03 _ (y03 _ (y03 _ (y03 _ (y0e _ rfl))))
 rw [s2, s3, s4] at k5
 rw [s1, s2] at k3
 rw [s3] at k4
 rw [s1] at k2
 show _ ∧ _
 rw [s4]
 exact ⟨⟨_, k5, rfl⟩, q _ ⟨k5, k3, ⟨_, _, k4⟩, ⟨_, k1, rfl, rfl⟩, ⟨_, k2, rfl, rfl⟩⟩ s5 fun c o x => y03 _ (y03 _ (y03 _ (y03 _ (y03 _ x))))⟩
end
def ItzL (K : Frag) (a b : Addr) : It :=
 ⟨fun i H => ∃ xs ys x y, SqL K H a xs ∧ SqT K H b ys ∧ xs[i]? = some x ∧ ys[i]? = some y,
  fun i H v H' => ∃ p x y, v = .ref p ∧ New H p (.tup [x, y]) H' ∧ (∀ xs, SqL K H a xs → xs[i]? = some x) ∧ ∀ ys, SqT K H b ys → ys[i]? = some y,
  fun i H => ∃ xs ys, SqL K H a xs ∧ SqT K H b ys ∧ xs.length ≤ i⟩
theorem zmp {P : Program} {w : World} {K : Frag} {elts : List Expr} {x1} {tpos : Pos} (z ti ro j1 j2 a b : Addr) (D : ZipApart z ti ro j1 j2 a b) :
  Turn P w K (.Tuple elts x1 tpos) (ItzL K a b) [z, ti, ro, j1, j2] z (fun i h => ZipL h z ti ro j1 j2 a b .none i) where
 mem := by simp
 obj := fun i h st c hc => by
  obtain ⟨u, v, hro⟩ := st.ro
  obtain ⟨o1, e1, c1, d1⟩ := st.j1
  obtain ⟨o2, e2, c2, d2⟩ := st.j2
  simp only [y05, y0a, or_false] at hc
  rcases hc with rfl | rfl | rfl | rfl | rfl
  ·exact ⟨_, st.z, fun v q => nomatch q⟩
  ·exact ⟨_, st.ti, fun v q => nomatch q⟩
  ·exact ⟨_, hro, fun v q => nomatch q⟩
  ·exact ⟨_, e1, fun v q => by rw [d1] at q; cases q⟩
  ·exact ⟨_, e2, fun v q => by rw [d2] at q; cases q⟩
 keep := fun i h h' st k => by
  obtain ⟨u, v, hro⟩ := st.ro
  exact ⟨k z (by simp) _ st.z, k ti (by simp) _ st.ti, ⟨u, v, k ro (by simp) _ hro⟩, zq5 st.j1 fun o e => k j1 (by simp) o e, st.j2.at fun o e => k j2 (by simp) o e⟩
 item := by
  ac_rfl
  subst hP hw hK
  obtain ⟨xs, ys, x, y, hx, hy, ex, ey⟩ := hg
  obtain ⟨its1, r1, p1, _⟩ := I.list hx
  obtain ⟨its2, r2, p2, _⟩ := I.tuple hy
  obtain ⟨u, hu, ru⟩ := r1.get ex
  obtain ⟨v, hv, rv⟩ := r2.get ey
  have fz := hf z (by simp)
  refine zsn D st p1.isList (show s.heap.IsTuple b its2.toArray from p2) (x := u) (y := v) (by simpa using hu) (by simpa using hv) fun h1 Z1 q1 sz1 k1 => ⟨_, rfl, ?_⟩
  refine wpAny_letOwnedTupleGo_zip Z1.z fun h2 z2 sb2 => ?_
  have hlt : ∀ c ∈ [z, ti, ro, j1, j2], c ≠ s.heap.objs.size := fun c hc => by
   obtain ⟨o, e, _⟩ : ∃ o, s.heap.get? c = some o ∧ True := by
    obtain ⟨u', v', hro⟩ := st.ro
    obtain ⟨o1, e1, _⟩ := st.j1
    obtain ⟨o2, e2, _⟩ := st.j2
    simp only [y05, y0a, or_false] at hc
    rcases hc with rfl | rfl | rfl | rfl | rfl
    ·exact ⟨_, st.z, trivial⟩
    ·exact ⟨_, st.ti, trivial⟩
    ·exact ⟨_, hro, trivial⟩
    ·exact ⟨_, e1, trivial⟩
    ·exact ⟨_, e2, trivial⟩
   exact y0l (y0d e)
  have k2 : ∀ c o, c ∉ [z, ti, ro, j1, j2] → s.heap.get? c = some o → h2.get? c = some o := fun c o hc e => by
   have hz : c ≠ z := fun q => hc (by simp [q])
   exact sb2.extBut _ _ hz (k1 c o hz (fun q => hc (by simp [q])) (fun q => hc (by simp [q])) (fun q => hc (by simp [q])) e)
  have tup2 : h2.get? s.heap.objs.size = some { cls := .type "tuple", data := .seq #[u, v] } := sb2.extBut _ _ (Ne.symm (hlt z (by simp))) q1
  have st2 : ZipL h2 z ti ro j1 j2 a b .none (i + 1) := by
   obtain ⟨u', v', hro⟩ := Z1.ro
   exact ⟨z2, sb2.extBut _ _ D.TIz Z1.ti, ⟨u', v', sb2.extBut _ _ D.TOz hro⟩, ze3 Z1.j1 sb2.extBut D.i1z, Z1.j2.extBut sb2.extBut D.i2z⟩
  have there : ∀ c ∈ [z, ti, ro, j1, j2], ∃ o, h2.get? c = some o := fun c hc => by
   obtain ⟨u', v', hro⟩ := st2.ro
   obtain ⟨o1, e1, _⟩ := st2.j1
   obtain ⟨o2, e2, _⟩ := st2.j2
   simp only [y05, y0a, or_false] at hc
   rcases hc with rfl | rfl | rfl | rfl | rfl
   ·exact ⟨_, st2.z⟩
   ·exact ⟨_, st2.ti⟩
   ·exact ⟨_, hro⟩
   ·exact ⟨_, e1⟩
   ·exact ⟨_, e2⟩
  have I2 : Inv X pins σ (upd H s.heap.objs.size (.tup [x, y])) { s with heap := h2, toks := s.toks } := I.turnedNew k2 hf (y06 _) ⟨zab (by simp), [u, v], .cons ru (.cons rv .nil), ⟨_, tup2, rfl, _, rfl⟩⟩ there
  refine ⟨.ref s.heap.objs.size, _, I2, rfl, ⟨_, x, y, rfl, .mk' I.fresh _, fun ws hw => by rw [I.list_inj hw hx]; exact ex, fun ws hw => by rw [I.tuple_inj hw hy]; exact ey⟩, st2, fun c hc => ?_⟩
  rw [zal (hlt c hc)]
  exact (hf c hc).1
 done := by
  ac_rfl
  subst hP hw hK
  obtain ⟨xs, ys, hx, hy, hl⟩ := hg
  obtain ⟨its1, r1, p1, _⟩ := I.list hx
  obtain ⟨its2, r2, p2, _⟩ := I.tuple hy
  have l1 := r1.length
  exact zl_end (I.ok.hd hc) D st p1.isList (show s.heap.IsTuple b its2.toArray from p2) (by simp; omega) fun h' k => ⟨rfl, I.turnedL (t' := s.toks) (fun c o hc e => k c o (fun q => hc (by simp [q])) (fun q => hc (by simp [q])) (fun q => hc (by simp [q])) (fun q => hc (by simp [q])) e) hf⟩
 self := fun _ _ _ _ _ st h => wpAny_pyIter_zip st.z h
def iZipL (K : Frag) (ta : TA) : TI := fun σ H R => ta σ H fun vs H1 => ∃ a b, vs = [.ref a, .ref b] ∧ (∃ xs, SqL K H1 a xs) ∧ (∃ ys, SqT K H1 b ys) ∧ R (ItzL K a b) H1
theorem zs4 {X : Cx} {elts : List Expr} {x1} {tpos : Pos} {a b : Expr} {ta : TA} {p pos : Pos} (hg : Gl X "zip") (hm : X.mg "zip" = none) (ha : PA X [a, b] ta) (h1 : notStar a = true := by rfl) (h2 : notStar b = true := by rfl) : PI X (.Tuple elts x1 tpos) (.Call (.Name "zip" p) [a, b] [] pos) (iZipL X.K ta) := by
 intro pins s σ H R I h
 have hs2 : starEach [b] X.env = [(false, eval b X.env)] := by rw [zay h2, starEach.eq_def]
 have hs : starEach [a, b] X.env = [(false, eval a X.env), (false, eval b X.env)] := by rw [zay h1, hs2]
 refine Call_ (zc6 I hg hm boot_zip (PyProof.Rows.callWith_type1 (thn (ha pos pins s σ H _ I h) fun us s1 ⟨vs, H1, I1, r1, q1⟩ => ?_) (by rw [hs, hs2]) (by rw [hs2]; rfl)))
 obtain ⟨p1, p2, e, ⟨xs, hx⟩, ⟨ys, hy⟩, q⟩ := q1
 subst e
 obtain ⟨u, v, rfl, ru, rv⟩ := vals2 r1
 cases (show u = Value.ref p1 from ru)
 cases (show v = Value.ref p2 from rv)
 obtain ⟨its1, _, t1', _⟩ := I1.list hx
 have t1 := t1'.isList
 obtain ⟨its2, _, t2, _⟩ := I1.tuple hy
 have l1 : p1 < s1.heap.objs.size := by obtain ⟨_, e, _⟩ := t1; exact y0d e
 have l2 : p2 < s1.heap.objs.size := by obtain ⟨_, e, _⟩ := t2; exact y0d e
 refine zso t1 (show s1.heap.IsTuple p2 its2.toArray from t2) fun h' Z sz k => wpAny_pyIter_zip Z.z ?_
 refine ⟨_, [s1.heap.objs.size + 4, s1.heap.objs.size + 2, s1.heap.objs.size + 3, s1.heap.objs.size, s1.heap.objs.size + 1], _, _, H1, rfl, I1.kept (t' := s1.toks) k, zmp _ _ _ _ _ p1 p2 (zipApart_new l1 l2), Z, fun c hc => ?_, q⟩
 have hle : s1.heap.objs.size ≤ c := by
  simp only [y05, y0a, or_false] at hc
  rcases hc with rfl | rfl | rfl | rfl | rfl
  ·exact y1c _ _
  ·exact y1c _ _
  ·exact y1c _ _
  ·exact y06 _
  ·exact y1c _ _
 exact I1.fpOk hle (I1.hok.fresh hle)
theorem zqa {X : Cx} (K : Frag) {elts : List Expr} {x1} {tpos : Pos} {a b : Expr} {ta : TA} {p pos : Pos} (hg : Gl X "zip") (hm : X.mg "zip" = none) (ha : PA X [a, b] ta) (h : X.K = K := by rfl) (h1 : notStar a = true := by rfl) (h2 : notStar b = true := by rfl) :
  PI X (.Tuple elts x1 tpos) (.Call (.Name "zip" p) [a, b] [] pos) (iZipL K ta) := h ▸ zs4 hg hm ha h1 h2
def Ite (K : Frag) (a : Addr) : It :=
 ⟨fun i H => ∃ xs x, SqL K H a xs ∧ xs[i]? = some x, fun i H v H' => ∃ p x, v = .ref p ∧ New H p (.tup [.int (i : Int), x]) H' ∧ ∀ xs, SqL K H a xs → xs[i]? = some x, fun i H => ∃ xs, SqL K H a xs ∧ xs.length ≤ i⟩
theorem zmr {P : Program} {w : World} {K : Frag} {elts : List Expr} {x1} {tpos : Pos} (e it a : Addr) (hne : e ≠ it) :
  Turn P w K (.Tuple elts x1 tpos) (Ite K a) [e, it] e (fun i h => (∃ old, IsEnum h e it (i : Int) old) ∧ h.IsListIter it a i) where
 mem := by simp
 obj := fun i h st c hc => by
  obtain ⟨⟨old, se⟩, o1, e1, c1, d1⟩ := st
  simp only [y05, y0a, or_false] at hc
  rcases hc with rfl | rfl
  ·exact ⟨_, se, fun v q => nomatch q⟩
  ·exact ⟨_, e1, fun v q => by rw [d1] at q; cases q⟩
 keep := fun i h h' st k => ⟨let ⟨old, se⟩ := st.1; ⟨old, k e (by simp) _ se⟩, zq5 st.2 fun o z => k it (by simp) o z⟩
 item := by
  ac_rfl
  subst hP hw hK
  obtain ⟨xs, x, hx, ex⟩ := hg
  obtain ⟨its, r, pl, _⟩ := I.list hx
  obtain ⟨u, hu, ru⟩ := r.get ex
  obtain ⟨⟨old, se⟩, si⟩ := st
  refine wpAny_pyNext_enum_item se si pl.isList (x := u) (by simpa using hu) hne fun h1 eo1 si1 q1 sz1 k1 => ⟨_, rfl, ?_⟩
  refine wpAny_letOwnedTupleGo_enum eo1 fun h2 e2 sb2 => ?_
  have hlt : ∀ c ∈ [e, it], c ≠ s.heap.objs.size := fun c hc => by
   simp only [y05, y0a, or_false] at hc
   rcases hc with rfl | rfl
   ·exact y0l (y0d se)
   ·obtain ⟨o, z, _⟩ := si
    exact y0l (y0d z)
  have k2 : ∀ c o, c ∉ [e, it] → s.heap.get? c = some o → h2.get? c = some o := fun c o hc z =>
   sb2.extBut _ _ (fun q => hc (by simp [q])) (k1 c o (fun q => hc (by simp [q])) (fun q => hc (by simp [q])) z)
  have tup2 := sb2.extBut _ _ (Ne.symm (hlt e (by simp))) q1
  have si2 : h2.IsListIter it a (i + 1) := ze3 si1 sb2.extBut (Ne.symm hne)
  have e2' : IsEnum h2 e it ((i + 1 : Nat) : Int) u := by rw [show ((i + 1 : Nat) : Int) = (i : Int) + 1 by omega]; exact e2
  have there : ∀ c ∈ [e, it], ∃ o, h2.get? c = some o := fun c hc => by
   simp only [y05, y0a, or_false] at hc
   rcases hc with rfl | rfl
   ·exact ⟨_, e2⟩
   ·obtain ⟨o, z, _⟩ := si2
    exact ⟨o, z⟩
  have I2 : Inv X pins σ (upd H s.heap.objs.size (.tup [.int (i : Int), x])) { s with heap := h2, toks := s.toks + 1 } := I.turnedNew k2 hf (y06 _) ⟨zab (by simp), [.int i s.toks, u], .cons ⟨_, rfl⟩ (.cons ru .nil), ⟨_, tup2, rfl, _, rfl⟩⟩ there
  refine ⟨.ref s.heap.objs.size, _, I2, rfl, ⟨_, x, rfl, .mk' I.fresh _, fun ws hw => by rw [I.list_inj hw hx]; exact ex⟩, ⟨⟨_, e2'⟩, si2⟩, fun c hc => ?_⟩
  rw [zal (hlt c hc)]
  exact (hf c hc).1
 done := by
  ac_rfl
  subst hP hw hK
  obtain ⟨xs, hx, hl⟩ := hg
  obtain ⟨its, r, pl, _⟩ := I.list hx
  have l1 := r.length
  obtain ⟨⟨old, se⟩, si⟩ := st
  exact wpAny_pyNext_enum_end (I.ok.hd hc) se si pl.isList (by simp; omega) fun h' k => ⟨rfl, I.turnedL (t' := s.toks) (fun c o hc z => k c o (fun q => hc (by simp [q])) z) hf⟩
 self := fun _ _ _ _ _ st h => let ⟨_, se⟩ := st.1; wpAny_pyIter_enum se h
def iEnum (K : Frag) (ta : TA) : TI := fun σ H R => ta σ H fun vs H1 => ∃ a, vs = [.ref a] ∧ (∃ xs, SqL K H1 a xs) ∧ R (Ite K a) H1
theorem zs7 {X : Cx} {elts : List Expr} {x1} {tpos : Pos} {a : Expr} {ta : TA} {p pos : Pos} (hg : Gl X "enumerate") (hm : X.mg "enumerate" = none) (ha : PA X [a] ta) (h1 : notStar a = true := by rfl) : PI X (.Tuple elts x1 tpos) (.Call (.Name "enumerate" p) [a] [] pos) (iEnum X.K ta) := by
 intro pins s σ H R I h
 have hs : starEach [a] X.env = [(false, eval a X.env)] := by rw [zay h1, starEach.eq_def]
 refine Call_ (zc6 I hg hm boot_enumerate (PyProof.Rows.callWith_type1 (thn (ha pos pins s σ H _ I h) fun us s1 ⟨vs, H1, I1, r1, q1⟩ => ?_) hs rfl))
 obtain ⟨p1, e, ⟨xs, hx⟩, q⟩ := q1
 subst e
 obtain ⟨u, rfl, ru⟩ := vals1 r1
 cases (show u = Value.ref p1 from ru)
 obtain ⟨its, _, t1, _⟩ := I1.list hx
 refine call_enumerate_list t1.isList fun h' se si sz k => wpAny_pyIter_enum se ?_
 refine ⟨_, [s1.heap.objs.size + 1, s1.heap.objs.size], _, _, H1, rfl, I1.kept (t' := s1.toks) k, zmr _ _ p1 (Nat.succ_ne_self _), ⟨⟨_, se⟩, si⟩, fun c hc => ?_, q⟩
 have hle : s1.heap.objs.size ≤ c := by
  simp only [y05, y0a, or_false] at hc
  rcases hc with rfl | rfl
  ·exact y1c _ _
  ·exact y06 _
 exact I1.fpOk hle (I1.hok.fresh hle)
theorem zgn {X : Cx} (K : Frag) {elts : List Expr} {x1} {tpos : Pos} {a : Expr} {ta : TA} {p pos : Pos} (hg : Gl X "enumerate") (hm : X.mg "enumerate" = none) (ha : PA X [a] ta) (h : X.K = K := by rfl) (h1 : notStar a = true := by rfl) :
  PI X (.Tuple elts x1 tpos) (.Call (.Name "enumerate" p) [a] [] pos) (iEnum K ta) := h ▸ zs7 hg hm ha h1
theorem zh0 : typeLookup (.type "list") "keys" = pure none := am_miss_of_fast (by decide +kernel)
theorem ztm {prog : Program} {w : World} {A : Around} {E : T0} {s : Shared} {a : Addr} {xs : Array Value} {k : Nat} {sl : T8} {Q : T9}
  (hx : s.heap.get? a = some { cls := .type "list", dict := none, data := .seq xs k, slots := sl }) (hA : A.handled = none)
  (h : ∀ h' tk, (∀ b o, s.heap.get? b = some o → h'.get? b = some o) → Q none { s with heap := h', toks := tk }) : wpAny (model prog w) A (getAttr? (.ref a) "keys") Q E s := by
 obtain ⟨hp, g, d, tk, os⟩ := s
 have hT : ∀ tk', (⟨hp, g, d, tk', os⟩ : Shared).TypeIs (.ref a) "list" := fun _ => ⟨_, hx, rfl⟩
 have f1 := sub_AttributeError
 have f3 := F.slot_list_getattribute.lookup
 have f4 := F.slot_list_getattribute.bind (.ref a)
 have f5 := am_list_getattr_none
 unfold getAttr? getAttrBy? getAttrBy
 repeat (any_goals (first | assumption | exact hT _ | ((with_reducible show wpAny _ _ (call (Value.builtin "list.__getattribute__") _ _) _ _ _); refine call_meets F.slot_list_getattribute (hT _) am_entry_list_getattribute (F.args_list_getattribute_2 _ _) (meets_getattribute_miss_list a xs k sl "keys" _ zh0 (by decide +kernel) (by decide)) ⟨hx, hA, fun h' tk' e hx' => ?_⟩) | wp_step))
 obtain ⟨t', u', he⟩ := hx'.there
 show wpAny _ _ (getattributeRaised _ _ _ _ _ _ _) _ _ _
 unfold getattributeRaised
 repeat (any_goals (first | assumption | wp_step))
 exact h _ _ hx'.keeps
theorem zbg : entryFor table "dict.update.loop" = some Builtin.«dict.update.loop» := entryFor_of_tree (by kernel_rfl)
theorem za3 : plainId "dict.update.loop" = true := by decide +kernel
section
variable {P : Program} {w : World} {κ : Type} [DecidableEq κ] {knd : KeyKind P w κ} {A : Around} {R : Result → Shared → Prop} {it : Addr} {fp wr : List Addr} {G : Array GenState → Array GenState → Prop} {n : Nat} {Pv : Nat → Value → Prop} {St : Nat → Shared → Prop}
def PairsAt (knd : KeyKind P w κ) (h : Heap) (bad : List Addr) (Pv : Nat → Value → Prop) (kvs : List (κ × Value)) : Prop := ∀ i v k u, Pv i v → kvs[i]? = some (k, u) → ∃ p key, v = .ref p ∧ p ∉ bad ∧ knd.is k key = true ∧ h.IsTuple p #[key, u]
theorem PairsAt.kept {h h' : Heap} {bad : List Addr} {kvs : List (κ × Value)} (x : PairsAt knd h bad Pv kvs) (k : ∀ b o, b ∉ bad → h.get? b = some o → h'.get? b = some o) : PairsAt knd h' bad Pv kvs := fun i v k' u pv e => by
 obtain ⟨p, key, e1, e2, e3, o, ho, r⟩ := x i v k' u pv e
 exact ⟨p, key, e1, e2, e3, o, k p o e2 ho, r⟩
theorem zmg (W : WalksS P w A.in1 it fp wr G n Pv St) (a : Addr) (ha : a ∉ fp) (kvs : List (κ × Value)) (hn : kvs.length = n) (hz : n ≤ sizeLine) :
  ∀ (m i : Nat) (j : Int) (tk : Tok) (s : Shared), n - i = m → i ≤ n → St i s → PairsAt knd s.heap (a :: wr) Pv kvs → s.heap.DictOf knd a (merged [] (kvs.take i)) → (∀ s', Moved (a :: wr) G s s' → s'.heap.DictOf knd a (merged [] kvs) → R (.ok (.ret .none)) s') →
   codeAny (model P w) A (.builtin "dict.update.loop" ⟨[.ref a, .ref it, .int j tk, .none], []⟩) R s := by
 have haw : a ∉ wr := fun h => ha (W.sub _ h)
 have up : ∀ b ∈ wr, b ∈ a :: wr := fun b h => y09 _ h
 have dkept : ∀ {h h' : Heap} {l : List (κ × Value)}, h.DictOf knd a l → (∀ o, h.get? a = some o → h'.get? a = some o) → h'.DictOf knd a l := fun x k => let ⟨o, es, ep, ho, r⟩ := x; ⟨o, es, ep, k o ho, r⟩
 intro m
 induction m with
 | zero =>
  intro i j tk s hm hi st pa x q
  obtain rfl : i = n := by omega
  rw [y0n (y42 hn)] at x
  refine codeAny_builtin zbg ?_
  rw [Around.under_plainId za3 _]
  refine wpAny_bind (W.done s _ _ st fun s' mv => ?_)
  show wpAny _ _ (Builtin.Dict.addKeywords a [] >>= _) _ _ _
  exact wpAny_bind (wpAny_pure (wpAny_pure (q s' (mv.mono up) (dkept x fun o e => mv.heap a _ haw e))))
 | succ m ih =>
  intro i j tk s hm hi st pa x q
  have lt : i < n := by omega
  have hk : kvs[i]? = some (kvs[i].1, kvs[i].2) := by simp [hn, lt]
  refine codeAny_builtin zbg ?_
  rw [Around.under_plainId za3 _]
  refine wpAny_bind (W.item i s _ _ lt st fun v s' pv st' mv => ?_)
  have x' := dkept (h' := s'.heap) x fun o e => mv.heap a _ haw e
  have pa' : PairsAt knd s'.heap (a :: wr) Pv kvs := pa.kept fun b o hb e => mv.heap b o (fun z => hb (up b z)) e
  obtain ⟨p, key, rfl, np, is, o, ho, hc, z, hd⟩ := pa' i v _ _ pv hk
  refine wpAny_bind (wpAny_holding (wpAny_bind ?_))
  refine wpAny_tryCatch (m := Builtin.Dict.pairItems (Value.ref p)) ?_
  unfold Builtin.Dict.pairItems
  refine wpAny_bind (wpAny_typeOf (T := "tuple") ⟨o, ho, hc⟩ ?_)
  rw [if_pos (show (Value.type "tuple" == Value.type "list" || Value.type "tuple" == Value.type "tuple") = true from rfl)]
  refine wpAny_bind (wpAny_seqItems ho hd (wpAny_pure ?_))
  show wpAny _ _ (holding [key, kvs[i].2] (dictSet a key kvs[i].2)) _ _ _
  have len := merged_length_le ([] : List (κ × Value)) (kvs.take i)
  rw [y0w, y0v] at len
  refine wpAny_holding (wpAny_dictSet_pairs (hsz := by omega) is x' fun h' x2 sb => ?_)
  rw [← merged_take_succ [] kvs i _ hk] at x2
  have k2 : ∀ b o, b ∉ a :: wr → s'.heap.get? b = some o → h'.get? b = some o := fun b o hb e => by rw [sb.2 b (fun h => hb (h ▸ y0c))]; exact e
  refine wpAny_pure ⟨plainId_quiet za3 _, ih (i + 1) (j + 1) _ _ (by omega) lt (W.frame _ s' _ _ st' (y3v _) fun b hb o e => ?_) (pa'.kept k2) x2 fun s2 mv2 x4 => ?_⟩
  ·rw [sb.2 b (fun h => ha (h ▸ hb))]; exact e
  ·exact q s2 (Moved.trans W.gtrans ((mv.mono up).then_heap (y3v _) fun b o hb e => k2 b o hb e) mv2) x4
end
section
variable {P : Program} {w : World} {κ : Type} [DecidableEq κ] {knd : KeyKind P w κ} {A : Around} {E : T0} {s : Shared}
theorem zh7 {l : Addr} {its : Array Value} {n : Nat} {sl : T8} {kvs : List (κ × Value)} {Q : T0} (hh : A.handled = none) (hl : s.heap.get? l = some { cls := .type "list", dict := none, data := .seq its n, slots := sl }) (hk : kvs.length = its.size) (hz : its.size ≤ sizeLine)
  (hi : ∀ (i : Nat) v k u, its[i]? = some v → kvs[i]? = some (k, u) → ∃ p key, v = .ref p ∧ knd.is k key = true ∧ s.heap.IsTuple p #[key, u])
  (h : ∀ (h' : Heap) (tk : Nat), h'.DictOf knd s.heap.objs.size (merged [] kvs) → (∀ b o, s.heap.get? b = some o → h'.get? b = some o) → Q (.ref s.heap.objs.size) { s with heap := h', toks := tk }) :
  wpAny (model P w) A (call (.type "dict") [.ref l]) Q E s := by
 refine callType_codes (Q₁ := fun obj s₁ => obj = .ref s.heap.objs.size ∧ s₁ = { s with heap := s.heap.push { cls := .type "dict", data := .dict #[] } }) F.kt_called_dict (F.kt_typeCall_dict_1 _) F.entry_dict_init (kt_code_dict_new _ ⟨rfl, rfl⟩) ?_
 rintro obj s₁ ⟨rfl, rfl⟩
 have hnew : (s.heap.push { cls := .type "dict", data := .dict #[] }).DictOf knd s.heap.objs.size [] := Heap.DictOf.new s.heap
 have hl' : (s.heap.push { cls := .type "dict", data := .dict #[] }).get? l = some { cls := .type "list", dict := none, data := .seq its n, slots := sl } := y03 _ hl
 refine ⟨hnew.typeIs, F.args_dict_init_2 _ _, ?_⟩
 unfold Builtin.«dict.__init__»
 refine wpAny_bind ?_
 unfold Builtin.Dict.selfAndRest
 refine wpAny_bind (wpAny_notOrdered_dict hnew.typeIs ?_)
 show wpAny _ _ (pure (s.heap.objs.size, [Value.ref l])) _ _ _
 refine wpAny_pure ?_
 show wpAny _ _ (Builtin.Dict.updateFrom "dict.__init__" s.heap.objs.size (.ref l) [] .none) _ _ _
 unfold Builtin.Dict.updateFrom
 refine wpAny_bind (wpAny_typeOf (T := "list") ⟨_, hl', rfl⟩ ?_)
 rw [if_pos (by decide)]
 refine wpAny_bind (ztm hl' (by simp [hh]) fun h1 tk1 k1 => ?_)
 rw [if_pos (show (none : Option Value).isNone = true from rfl)]
 refine wpAny_bind (wpAny_rule (wpAny_bind ?_))
 have hl1 : h1.IsList l its := ⟨_, k1 _ _ hl', rfl, n, rfl⟩
 refine wpAny_pyIter_list hl1 ?_
 have ll : l < s.heap.objs.size := y0d hl
 have dlt : s.heap.objs.size < h1.objs.size := by
  obtain ⟨o, _, _, ho, _⟩ := hnew
  exact y0d (k1 _ _ ho)
 have h3 : A.in1.in1.handled = none := by simp [hh]
 have lt1 : l < h1.objs.size := y3e ll dlt
 have nf : s.heap.objs.size ∉ [h1.objs.size, l] := fun z => by
  rcases y05.mp z with z | z
  ·exact absurd z (y0l dlt)
  ·exact absurd (y0o.mp z) (y26 ll)
 have up : ∀ b o, s.heap.get? b = some o → (h1.push { cls := .type "list_iterator", data := .fields #[.ref l, .int 0 0] }).get? b = some o := fun b o e => y03 _ (k1 _ _ (y03 _ e))
 refine wpAny_pure ⟨plainId_quiet za3 _, zmg (knd := knd) (A := A.in1) ((Walks.list h3 _ l (y0l lt1) its).toS) s.heap.objs.size nf kvs hk hz (its.size - 0) 0 0 _ _ rfl (y1b _) ⟨⟨_, y0e _ rfl, rfl, rfl⟩, hl1.push _⟩ ?pa ?x0 ?q0⟩
 case pa =>
  intro i v k u pv e
  obtain ⟨p, key, e1, e2, o, ho, r⟩ := hi i v k u pv e
  have lp := y0d ho
  refine ⟨p, key, e1, fun z => ?_, e2, o, up p o ho, r⟩
  rcases y05.mp z with z | z
  ·exact absurd z (y0l lp)
  ·exact absurd (y0o.mp z) (y0l (y3e lp dlt))
 case x0 =>
  obtain ⟨o, es, ep, ho, r⟩ := hnew
  exact ⟨o, es, ep, y03 _ (k1 _ _ ho), r⟩
 case q0 =>
  intro s' mv x'
  obtain ⟨h', g', d', tk', os'⟩ := s'
  have eg : g' = s.gens := mv.gens
  have ed : d' = s.drawn := mv.drawn
  have eo : os' = s.os := mv.os
  subst eg; subst ed; subst eo
  refine ⟨rfl, h h' tk' x' fun b o e => mv.heap b o (fun z => ?_) (up b o e)⟩
  have lb := y0d e
  rcases y05.mp z with z | z
  ·exact absurd z (y0l lb)
  ·exact absurd (y0o.mp z) (y0l (y3e lb dlt))
end
theorem DGet.b {H : Hp} {a : Addr} {kvs : List (Key × V)} {b : Bool} (e : H a = some (.dK kvs)) : DGet H a (.bl b) (valV kvs (.inl (blI b))) := .inl ⟨kvs, _, .inl e, .inr ⟨b, rfl, rfl⟩, rfl⟩
theorem DPut.b {H : Hp} {a : Addr} {kvs : List (Key × V)} {b : Bool} {v : V} (e : H a = some (.dK kvs)) (hl : kvs.length < sizeLine) : DPut H a (.bl b) v (upd H a (.dK (putK kvs (.inl (blI b)) v))) := .inl ⟨kvs, _, e, .inr ⟨b, rfl, rfl⟩, hl, rfl⟩
theorem DGet.n {H : Hp} {a : Addr} {kvs : List (Key × V)} {n : Int} (e : H a = some (.dK kvs)) : DGet H a (.int n) (valV kvs (.inl n)) := DGet.k (k := .inl n) e
theorem DPut.n {H : Hp} {a : Addr} {kvs : List (Key × V)} {n : Int} {v : V} (e : H a = some (.dK kvs)) (hl : kvs.length < sizeLine) : DPut H a (.int n) v (upd H a (.dK (putK kvs (.inl n) v))) := DPut.k (k := .inl n) e hl
def rInDc (neg : Bool) : R2 := fun y x H Q => ∃ a o, x = .ref a ∧ DGet H a y o ∧ Q (.bl (if neg then !o.isSome else o.isSome)) H
section
variable {X : Cx} {o i value : Expr} {pos pos' : Pos} {td ty tv : TE}
theorem op_in_d (hu : X.A.units + 8 < cLine) : OpR X (compareOp .In) (rInDc false) := by
 intro pins s σ H y x v u Q I ry rx h
 obtain ⟨a, o, rfl, g, q⟩ := h
 obtain rfl : u = Value.ref a := rx
 exact d_in (by omega) I g ry fun s3 I3 => ⟨.bl o.isSome, H, I3, rfl, q⟩
theorem zck (hu : X.A.units + 8 < cLine) : OpR X (compareOp .NotIn) (rInDc true) := by
 intro pins s σ H y x v u Q I ry rx h
 obtain ⟨a, o, rfl, g, q⟩ := h
 obtain rfl : u = Value.ref a := rx
 exact d_notIn (by omega) I g ry fun s3 I3 => ⟨.bl (!o.isSome), H, I3, rfl, q⟩
theorem zd9 (hu : X.A.units + 8 < cLine) (ho : PE X o td) (hi : PE X i ty) (hs : NoSl i) : PE X (.Subscript o i pos) (tDGet td ty) := zta (by omega) ho hi hs
theorem zd8 (hu : X.A.units + 8 < cLine) (ho : PE X o td) (hi : PE X i ty) (hv : PE X value tv) (hs : swapsWith value (some (.Subscript o i pos')) pos.line X.env = pure false) :
  PS X (.Assign [.Subscript o i pos'] value pos) (sDPut td ty tv) := zsz (by omega) ho hi hv hs
def tDNewN : TE := fun _ H Q => ∀ p H', New H p (.dK []) H' → Q (.ref p) H'
def tDNewTN : TE := fun _ H Q => ∀ p H', New H p (.dT []) H' → Q (.ref p) H'
theorem zqc : PE X (.Dict [] [] pos) tDNewN := fun pins s σ H Q I h => zqd pins s σ H Q I fun p np => h p _ (.mk' np _)
theorem zna : PE X (.Dict [] [] pos) tDNewTN := fun pins s σ H Q I h => zqb pins s σ H Q I fun p np => h p _ (.mk' np _)
def rLenD : List V → Hp → VK → Prop := fun xs H Q => ∃ a kvs, xs = [V.ref a] ∧ H a = some (.dK kvs) ∧ Q (.int kvs.length) H
theorem zmj : CallR X (.builtin "len") rLenD := zpd
end
section
variable {prog : Program} {w : World} {κ : Type} [DecidableEq κ] {knd : HeapKind prog w κ} {A : Around} {E : T0} {s : Shared}
theorem zjc (d : Addr) (hd : (d == sysModules) = false) :
  MeetsIn prog w (Builtin.«dict.__len__» ⟨[.ref d], []⟩) (fun _ R s => ∃ xs, s.heap.DictOfH knd d xs ∧ R (.ok (.ret (.int xs.length s.toks))) { s with toks := s.toks + 1 }) :=
 .of_wp fun A R s ⟨xs, hm, h⟩ => by
  obtain ⟨o, es, ep, ho, hc, hdat, he, _⟩ := hm
  show wpAny _ _ (dictSize d >>= _) _ _ s
  unfold dictSize
  refine wpAny_bind (wpAny_bind (wpAny_dictEntries ho hdat (wpAny_pure ?_)))
  show wpAny _ _ (Builtin.Dict.pendingCount d >>= _) _ _ s
  refine wpAny_bind (wpAny_pendingCount_other hd (wpAny_ret_mkInt ?_))
  have e : es.size = xs.length := by rw [← y1w, he, y01]
  rw [Nat.add_zero, e]
  exact h
theorem zl7 {d : Addr} {xs : List (κ × Addr × Value)} {Q : T0} (hd : (d == sysModules) = false) (hm : s.heap.DictOfH knd d xs) (hfit : (xs.length : Int) < 2 ^ 63) (hT : s.TypeIs (.ref d) "dict")
  (h : Q (.int xs.length (s.toks + 1)) { s with toks := s.toks + 1 + 1 }) : wpAny (model prog w) A (call (.builtin "len") [.ref d]) Q E s := by
 refine Calls.call_function_entry kind_len plain_len entry_len (args_len1 _) ?_
 unfold Builtin.«len»
 refine wpAny_bind (m := oneArg "len" _) (wpAny_pure ?_)
 refine wpAny_bind (m := callSpecial? (.ref d) (Str.ofString "__len__")) (wpAny_callSpecial?_slot (name := Str.ofString "__len__") hT PySem.F.slot_dict_len (call_meetsIn PySem.F.slot_dict_len hT PySem.F.entry_dict_len (PySem.F.args_dict_len_1 _) (zjc d hd) ⟨xs, hm, ?_⟩))
 show wpAny _ _ _ _ _ { s with toks := s.toks + 1 }
 refine wpAny_bind (wpAny_holding (wpAny_pure (wpAny_bind (wpAny_letGo ?_))))
 show wpAny _ _ (if ((xs.length : Nat) : Int) < 0 then _ else _) _ _ _
 rw [if_neg (by omega)]
 show wpAny _ _ (if ((xs.length : Nat) : Int) ≥ 2 ^ 63 then _ else _) _ _ _
 rw [if_neg (by omega)]
 exact wpAny_bind (wpAny_mkInt (wpAny_pure ⟨_, rfl, h⟩))
end
def rLenT : List V → Hp → VK → Prop := fun xs H Q => ∃ a kvs, xs = [V.ref a] ∧ H a = some (.dT kvs) ∧ Q (.int kvs.length) H
theorem zpc {X : Cx} : CallR X (.builtin "len") rLenT := by
 intro pins s σ H xs us Q I r h
 obtain ⟨a, kvs, rfl, ha, q⟩ := h
 obtain ⟨u, rfl, ru⟩ := vals1 r
 cases ru
 obtain ⟨z, hd, ys, rel, dd⟩ := dt_of I.hok ha
 have el := Paired.length rel
 have hT : s.TypeIs (.ref a) "dict" := by obtain ⟨o, _, _, ho, hc, _⟩ := id dd; exact ⟨o, ho, hc.1⟩
 refine zl7 hd dd (by rw [sizeLine_eq] at z; omega) hT ?_
 rw [← el]
 exact ⟨.int kvs.length, H, I.tok _, ⟨_, rfl⟩, q⟩
def PairV (H : Hp) (r : V) (kv : Key × V) : Prop := ∃ t, r = .ref t ∧ H t = some (.tup [kV kv.1, kv.2])
theorem zht {P : Program} {w : World} {H : Hp} {h : Heap} (ok : HOk P w H h) : ∀ {rs : List V} {kvs : List (Key × V)} {us : List Value}, Paired (PairV H) rs kvs → Vals rs us →
  ∃ ws : List (Key × Value), KV kvs ws ∧ ∀ (i : Nat) v k u, us[i]? = some v → ws[i]? = some (k, u) → ∃ p key, v = .ref p ∧ (mixKind P w).is k key = true ∧ h.IsTuple p #[key, u]
 | _, _, _, .nil, .nil => ⟨[], .nil, fun i v k u e _ => by simp at e⟩
 | _, _, _, .cons (b := kv) ⟨t, et, ht⟩ pr, .cons rv vs => by
  obtain ⟨ws, h1, h2⟩ := zht ok pr vs
  subst et
  cases (show _ = Value.ref t from rv)
  obtain ⟨_, its, ri, tp⟩ := ok t _ ht
  cases ri with
  | cons r1 rr =>
   cases rr with
   | cons r2 rr =>
    cases rr
    rename_i key u1
    refine ⟨(kv.1, u1) :: ws, .cons ⟨rfl, r2⟩ h1, fun i v k u e1 e2 => ?_⟩
    cases i with
    | zero =>
     simp only [y40, Option.some.injEq, Prod.mk.injEq] at e1 e2
     obtain ⟨rfl, rfl⟩ := e2
     exact ⟨t, key, e1.symm, zob r1, tp⟩
    | succ i =>
     simp only [y0t] at e1 e2
     exact h2 i v k u e1 e2
def rDictOf (K : Frag) : List V → Hp → VK → Prop := fun xs H Q => ∃ (p : Addr) (rs : List V) (kvs : List (Key × V)), xs = [.ref p] ∧ SqL K H p rs ∧ Paired (PairV H) rs kvs ∧ kvs.length ≤ 1000 ∧ ∀ d H', New H d (.dK (mergeK [] kvs)) H' → Q (.ref d) H'
theorem zih {X : Cx} (hc : X.calm = true) : CallR X (.type "dict") (rDictOf X.K) := by
 intro pins s σ H xs us Q I r h
 obtain ⟨p, rs, kvs, rfl, hx, pr, hz, q⟩ := h
 obtain ⟨u, rfl, rx⟩ := vals1 r
 cases (show u = Value.ref p from rx)
 obtain ⟨vs, rv, ⟨o, n, ho, hcl, hdi, hda⟩, _⟩ := I.list hx
 obtain ⟨ws, kw, hw⟩ := zht I.hok pr rv
 have l1 := rv.length
 have l2 := Paired.length pr
 have l3 := kw.length
 obtain ⟨oc, od, oda, osl⟩ := o
 simp only at hcl hdi hda
 subst hcl; subst hdi; subst hda
 refine zh7 (knd := mixKind X.prog X.w) (kvs := ws) (I.ok.hd hc) ho (by rw [y07]; omega) (by rw [y07]; exact zab (by omega)) (fun i v k u e1 e2 => hw i v k u (by simpa using e1) e2) fun h' tk x k => ?_
 have hm : KV (mergeK [] kvs) (merged [] ws) := KV.merge kw .nil
 have hl := zb8 kvs []
 rw [y0v] at hl
 exact ⟨.ref s.heap.objs.size, _, I.laid (t' := tk) k (y06 _) (zow (zab (by omega)) (beq_eq_false_iff_ne.mpr (Ne.symm (y0l I.big))) hm x), rfl, q _ _ (.mk' I.fresh _)⟩
theorem zg3 {X : Cx} (K : Frag) (hc : X.calm = true) (h : X.K = K := by rfl) : CallR X (.type "dict") (rDictOf K) := h ▸ zih hc
theorem ze2 : ∀ (more acc : List (Key × V)) (k : Key), k ∉ more.map (·.1) → valV (mergeK acc more) k = valV acc k
 | [], _, _, _ => rfl
 | kv :: more, acc, k, h => by
  rw [y0k, y05, not_or] at h
  show valV (mergeK (putK acc kv.1 kv.2) more) k = _
  rw [ze2 more _ k h.2, zj0, if_neg h.1]
theorem zkq : ∀ (more acc : List (Key × V)) (k : Key) (v : V), (more.map (·.1)).Nodup → (k, v) ∈ more → valV (mergeK acc more) k = some v
 | [], _, _, _, _, h => nomatch h
 | kv :: more, acc, k, v, hn, h => by
  rw [y0k, y0y] at hn
  show valV (mergeK (putK acc kv.1 kv.2) more) k = _
  rcases y05.mp h with rfl | h
  ·rw [ze2 more _ _ hn.1, zj0, if_pos rfl]
  ·exact zkq more _ k v hn.2 h
def rMaxL (K : Frag) : List V → Hp → VK → Prop := fun xs H Q => ∃ (p : Addr) (ns : List Int), xs = [.ref p] ∧ SqL K H p (ns.map V.int) ∧ 0 < ns.length ∧ ∀ M, M ∈ ns → (∀ a ∈ ns, a ≤ M) → Q (.int M) H
theorem zmi {X : Cx} (hc : X.calm = true) : CallR X (.builtin "max") (rMaxL X.K) := by
 intro pins s σ H xs us Q I r h
 obtain ⟨p, ns, rfl, hx, hne, q⟩ := h
 obtain ⟨u, rfl, rx⟩ := vals1 r
 cases (show u = Value.ref p from rx)
 obtain ⟨vs, rv, pl, _⟩ := I.list hx
 have hi := zdp rv
 obtain ⟨xs, e⟩ := hi.allInts.items
 have hl' : s.heap.IsList p (intItems xs) := e ▸ pl.isList
 have hns : ns = xs.toList.map (·.1) := by
  rw [← nums_intItems, ← e]
  exact (show numsOf vs.toArray.toList = ns from hi.numsOf).symm
 have hsz : 0 < xs.size := by rw [hns, y01, y1w] at hne; exact hne
 refine max_intList (I.ok.hd hc) hl' hsz fun v h' tk hv hk => ?_
 obtain ⟨t, rfl⟩ := intItems_at hv
 obtain ⟨h1, h2⟩ := argBest_gt (numAt xs) (xs.size - 1)
 refine ⟨.int _, H, I.kept hk, ⟨_, rfl⟩, q _ ?_ fun a ha => ?_⟩
 ·rw [hns, numAt_eq]; exact getD_mem (by rw [y01, y1w]; omega)
 ·rw [hns] at ha
  obtain ⟨j, hj, rfl⟩ := mem_getD ha
  rw [y01, y1w] at hj
  rw [← numAt_eq]; exact h2 j (by omega)
theorem zjr {X : Cx} (K : Frag) (hc : X.calm = true) (h : X.K = K := by rfl) : CallR X (.builtin "max") (rMaxL K) := h ▸ zmi hc
def rIndex (K : Frag) : V → List V → Hp → VK → Prop := fun x vs H Q => ∃ (p : Addr) (ns : List Int) (k : Int), x = .ref p ∧ vs = [.int k] ∧ SqL K H p (ns.map V.int) ∧ k ∈ ns ∧ ns.length ≤ 1000 ∧ Q (.int (ns.idxOf k : Nat)) H
theorem zq4 {X : Cx} : MtR X "list.index" (rIndex X.K) := by
 intro pins s σ H x xs v us Q I rx rs h
 obtain ⟨p, ns, k, rfl, rfl, hx, hk, hz, q⟩ := h
 cases rx
 obtain ⟨u, rfl, t, rfl⟩ := vals1 rs
 obtain ⟨vs, rv, pl, _⟩ := I.list hx
 have hi := zdp rv
 obtain ⟨⟨cls, dd, data, sl⟩, ho, hc, n, hd⟩ := pl.isList
 simp only at hc hd
 subst hc hd
 have hlen := hi.length
 have hj : ns.idxOf k < ns.length := y0s.mpr hk
 refine call_meets PySem.F.slot_list_index ⟨_, ho, rfl⟩ PySem.F.entry_list_index (PySem.F.args_list_index_2 _ _)
  (SeqAt.list_indexAt p vs.toArray n dd sl (.int k t) (isInt k) (ns.idxOf k) (by simpa [hlen] using hj) (by omega) ?_ ?_) ⟨ho, fun y hy => (eq_isInt k t hi y (by simpa using hy)).at _ _, ?_⟩
 ·show isInt k vs[ns.idxOf k] = true
  rw [isInt_at k hi _ (by omega) hj]
  simpa using y2b hj
 ·intro j hjs hlt
  show isInt k vs[j] = false
  rw [isInt_at k hi j (by simpa using hjs) (by omega)]
  exact ne_of_lt_idxOf hlt _
 ·exact ⟨.int _, H, I.tok _, ⟨_, rfl⟩, q⟩
theorem zn4 {X : Cx} (K : Frag) (h : X.K = K := by rfl) : MtR X "list.index" (rIndex K) := h ▸ zq4
def rCatTN (K : Frag) : R2 := fun x y H Q => ∃ a b xs ys, x = .ref a ∧ y = .ref b ∧ SqT K H a xs ∧ SqT K H b ys ∧ xs ≠ [] ∧ ys ≠ [] ∧ xs.length + ys.length ≤ sizeLine ∧ ∀ p H', New H p (.tup (xs ++ ys)) H' → Q (.ref p) H'
theorem zql {X : Cx} : OpR X (binaryOp .Add) (rCatTN X.K) := fun pins s σ H x y v u Q I rx ry h => by
 obtain ⟨a, b, xs, ys, e1, e2, ha, hb, hx, hy, hz, q⟩ := h
 exact zth pins s σ H x y v u Q I rx ry ⟨a, b, xs, ys, e1, e2, ha, hb, hx, hz, fun z => absurd z hy, fun _ p np => q p _ (.mk' np _)⟩
theorem zni {X : Cx} (K : Frag) (h : X.K = K := by rfl) : OpR X (binaryOp .Add) (rCatTN K) := h ▸ zql
section
variable {tn : List Str} {cp : T6} {g : TG} {tif : TT} {te : TE} {σ0 : St} {Q : VK} {H1 : Hp} {n : Nat}
def PGen (S : St → Prop) (G : Nat → V → Hp → Prop) (H1 : Hp) (i : Nat) (ys : List V) (σ : St) (H : Hp) : Prop := Same H1 H ∧ S σ ∧ ys.length = i ∧ ∀ j y, ys[j]? = some y → G j y H
theorem zfg {J : It} (S : St → Prop) (G : Nat → V → Hp → Prop) (hn : n ≤ 1000) (h0 : S (stB tn cp σ0)) (hgo : ∀ i H, i < n → Same H1 H → J.go i H) (hstop : ∀ H, Same H1 H → J.stop n H)
  (hs : ∀ D i ys σ H x H', i < n → Same H1 H → H1 D = none → H D = some (.lst ys) → ys.length = i → (∀ j y, ys[j]? = some y → G j y H) → S σ → J.yld i H x H' → g x σ H' fun σ2 H2 => tif σ2 H2 fun c H3 =>
   if c = true then te σ2 H3 fun v H4 => CStep D n i (PGen S G H1) σ2 v H4 else CSkip D n i (PGen S G H1) σ2 H3)
  (hd : ∀ D ys H, H1 D = none → Same H1 H → H D = some (.lst ys) → ys.length = n → (∀ j y, ys[j]? = some y → G j y H) → Q (.ref D) H) : cBody tn cp g tif te σ0 Q J H1 := by
 refine zmh n (fun D => PGen S G H1) (zab hn) (fun D hD => ⟨za4 hD _, h0, rfl, fun j y e => by simp at e⟩) (fun D i ys σ H _ hi _ p => hgo i H hi p.1) (fun D ys σ H _ _ p => hstop H p.1) ?_ ?_
 ·rintro D i ys σ H x H' hD hi hH hl ⟨p1, p2, p3, p4⟩ hy
  exact hs D i ys σ H x H' hi p1 hD hH p3 p4 p2 hy
 ·rintro D ys σ H hD hH hl ⟨p1, p2, p3, p4⟩
  exact hd D ys H hD p1 hH p3 p4
theorem zbv {S : St → Prop} {G : Nat → V → Hp → Prop} {D : Addr} {i : Nat} {ys : List V} {v : V} {σ2 : St} {H H4 : Hp} (hG : ∀ j y H H', TupS H H' → G j y H → G j y H') (hn : n ≤ 1000) (hi : i < n) (hD : H1 D = none) (h4 : H4 D = some (.lst ys)) (hl : ys.length = i)
  (hy : ∀ j y, ys[j]? = some y → G j y H) (ts : TupS H H4) (g4 : Same H1 H4) (s2 : S σ2) (e : G i v H4) : CStep D n i (PGen S G H1) σ2 v H4 := by
 refine cstep (zab hn) hi h4 (by omega) ⟨g4.wr hD _, s2, by simp [hl], fun j y ej => ?_⟩
 by_cases h : j < ys.length
 ·rw [y11 h] at ej
  exact hG j y _ _ (ts.trans (TupS.wr h4 _)) (hy j y ej)
 ·rw [y0x (by omega)] at ej
  have e0 : j - ys.length = 0 := by
   cases hj : j - ys.length with
   | zero => rfl
   | succ k => rw [hj] at ej; simp at ej
  rw [e0] at ej
  simp at ej
  subst ej
  rw [show j = i by omega]
  exact hG i _ _ _ (TupS.wr h4 _) e
end
theorem zjz {K : Frag} {a : Addr} {xs : List V} {i : Nat} {H H' : Hp} {v : V} (hx : SqL K H a xs) (y : (Ite K a).yld i H v H') : ∃ p x, v = .ref p ∧ New H p (.tup [.int (i : Int), x]) H' ∧ xs[i]? = some x := by
 obtain ⟨p, x, e, n, h⟩ := y
 exact ⟨p, x, e, n, h xs hx⟩
theorem zps {K : Frag} {a b : Addr} {xs ys : List V} {i : Nat} {H H' : Hp} {v : V} (hx : SqL K H a xs) (hy : SqT K H b ys) (z : (ItzL K a b).yld i H v H') : ∃ p x y, v = .ref p ∧ New H p (.tup [x, y]) H' ∧ xs[i]? = some x ∧ ys[i]? = some y := by
 obtain ⟨p, x, y, e, n, h1, h2⟩ := z
 exact ⟨p, x, y, e, n, h1 xs hx, h2 ys hy⟩
def tDisp1T (tk tv : TE) : TE := fun σ H Q => ∀ p H1, New H p (.dT []) H1 → tk σ H1 fun y H2 => tv σ H2 fun z H3 => H3 p = some (.dT []) ∧ ∃ b ks, y = .ref b ∧ H3 b = some (.tup (ks.map kV)) ∧ Q (.ref p) (upd H3 p (.dT [(ks, z)]))
theorem znb {X : Cx} {k v : Expr} {tk tv : TE} {pos : Pos} (hu : X.A.units + 8 < cLine) (hk : PE X k tk) (hv : PE X v tv) : PE X (.Dict [some k] [v] pos) (tDisp1T tk tv) := by
 intro pins s σ H Q I q
 have I1 := I.laid (a := s.heap.objs.size) (o := .dT []) (h' := s.heap.push { cls := .type "dict", data := .dict #[] }) (t' := s.toks) (fun _ _ q => y03 _ q) (y06 _) (zk6 s.heap I.big)
 have e : (evalEachOpt [some k] X.env).zip ((evalEach [v] X.env).map fun v => do let x ← v; standAt pos; pure x) = [(eval k X.env, do let x ← eval v X.env; standAt pos; pure x)].map fun p => (some p.1, p.2) := rfl
 rw [arm_eval_Dict, e, dictDisplay_pairs _ (by simp) (by simp)]
 refine wpAny_bind (wpAny_standAt (wpAny_bind ?_))
 unfold subDict
 refine wpAny_bind (wpAny_alloc (wpAny_bind (wpAny_holding ?_)))
 rw [if_pos (by simp)]
 refine wpAny_bind (evalPairs_cons ?_)
 refine thn (hk pins _ σ _ _ I1 (q _ _ (.mk' I.fresh _))) fun kv s2 ⟨y, H2, I2, ry, q2⟩ => ?_
 refine wpAny_bind (thn (hv pins s2 σ H2 _ I2 q2) fun vv s3 ⟨z, H3, I3, rz, ep, b, ks, ey, eb, q3⟩ => ?_)
 subst ey
 obtain rfl : kv = Value.ref b := ry
 refine wpAny_bind (wpAny_standAt (wpAny_pure (evalPairs_nil (wpAny_holding ?_))))
 rw [y1n]
 obtain ⟨zz, hd, xs, rel, dd⟩ := dt_of I3.hok ep
 cases rel
 refine wpAny_bind (wpAny_bind ?_)
 show wpAny _ _ (dictSet s.heap.objs.size (Value.ref b) vv >>= _) _ _ _
 refine wpAny_bind (wpAny_dictSet_heap (knd := tupleKind (mixKind X.prog X.w)) (hsz := by rw [y0v]; exact y1b _) (show X.A.units < cLine by omega) (zf3 I3.hok eb) dd fun h' dd' hs => wpAny_pure ?_)
 dsimp only
 rw [y24]
 refine wpAny_pure (wpAny_pure (wpAny_pure (wpAny_pure ?_)))
 obtain ⟨o, es, ep', hq, h2, h3, h4, h4', h5⟩ := dd'
 refine ⟨.ref s.heap.objs.size, _, zgu I3 (by rw [ep]; exact True.intro) hs ⟨o, hq⟩ ?_, rfl, q3⟩
 refine ⟨zab (by simp), hd, storedH [] ks b vv, ?_, o, es, ep', hq, h2, h3, h4, h5⟩
 show Paired _ [(ks, z)] [(ks, b, vv)]
 refine .cons ⟨rfl, ?_, rz⟩ .nil
 rw [zal (zn0 eb ep (fun z => nomatch z))]
 exact eb
def NeOk (X : Cx) (k : Nat) (H : Hp) (x y : V) (b : Bool) : Prop := ∀ (pins : T2) (σ : St) (s : Shared) (A : Around) (u v : Value), A.units + k < cLine → Inv X pins σ H s → RelV x u → RelV y v → SeqAt.RcNeAt A s u v b
theorem znz {X : Cx} {k : Nat} {H : Hp} {a b : Addr} {xs ys : List V} (hx : SqT X.K H a xs) (hy : SqT X.K H b ys) (e : Nat → Bool) (he : ∀ j (h1 : j < xs.length) (h2 : j < ys.length), EqOk X k H xs[j] ys[j] (e j)) :
  NeOk X (k + 1) H (.ref a) (.ref b) (!((List.range (min xs.length ys.length)).all e && xs.length == ys.length)) := fun pins σ s A u v hu I rx ry => by
 cases (show u = Value.ref a from rx)
 cases (show v = Value.ref b from ry)
 obtain ⟨us, r1, p1, _⟩ := I.tuple hx
 obtain ⟨vs, r2, p2, _⟩ := I.tuple hy
 have l1 := r1.length
 have l2 := r2.length
 have q := SeqAt.RcNeAt.tuples (A := A) (e := e) p1 p2 (by omega) fun j h1 h2 => by
  rw [y07] at h1 h2
  obtain ⟨g1, q1⟩ := r1.at h1
  obtain ⟨g2, q2⟩ := r2.at h2
  exact he j g1 g2 pins σ s A.in1 _ _ (by show A.units + 1 + k < cLine; omega) I (by simpa using q1) (by simpa using q2)
 rw [y07, y07, ← l1, ← l2] at q
 exact q
def rNeM (X : Cx) : R2 := fun x y H Q => ∃ c, NeOk X 8 H x y c ∧ Q (.bl c) H
theorem op_neM {X : Cx} (hu : X.A.units + 8 < cLine) : OpR X (compareOp .NotEq) (rNeM X) := by
 infer_instance
 obtain ⟨c, r, q⟩ := h
 exact r pins σ s X.A v u hu I rx ry _ _ _ _ ⟨.bl c, H, I, rfl, q⟩
end L2
namespace SM
open PySem PySem.Spec PyProof.Rows L2 SS
theorem zbz {α β : Type} {R : α → β → Prop} : ∀ {xs : List α} {ys : List β}, xs.length = ys.length → (∀ (j : Nat) x y, xs[j]? = some x → ys[j]? = some y → R x y) → Paired R xs ys
 | [], [], _, _ => .nil
 | [], _ :: _, h, _ => by simp at h
 | _ :: _, [], h, _ => by simp at h
 | x :: xs, y :: ys, h, f => .cons (f 0 x y rfl rfl) (zbz (by simpa using h) fun j a b e1 e2 => f (j + 1) a b (by simpa using e1) (by simpa using e2))
theorem nodup_map_on {α β : Type} {f : α → β} : ∀ {l : List α}, (∀ a ∈ l, ∀ b ∈ l, f a = f b → a = b) → l.Nodup → (l.map f).Nodup
 | [], _, _ => y3i
 | x :: l, h, hn => by
  rw [y0y] at hn
  rw [y0k, y0y]
  refine ⟨fun z => ?_, nodup_map_on (fun a ha b hb => h a (y09 _ ha) b (y09 _ hb)) hn.2⟩
  obtain ⟨y, my, e⟩ := y0m.mp z
  have := h y (y09 _ my) x y0c e
  rw [this] at my
  exact hn.1 my
theorem zdx : ∀ {a b : List Nat}, (a.map fun (n : Nat) => (n : Int)) = (b.map fun (n : Nat) => (n : Int)) → a = b
 | [], [], _ => rfl
 | [], _ :: _, h => nomatch h
 | _ :: _, [], h => nomatch h
 | x :: a, y :: b, h => by
  rw [y0k, y0k, List.cons.injEq] at h
  rw [zdx h.2, show x = y by have := h.1; omega]
theorem zkz (k : Nat) : ∀ ns : List Nat, (ns.map fun (n : Nat) => (n : Int)).idxOf (k : Int) = ns.idxOf k
 | [] => rfl
 | x :: ns => by
  rw [y0k, y2m, y2m, zkz k ns]
  by_cases h : x = k
  ·subst h; simp
  ·have h1 : (x == k) = false := by simp [h]
   have h2 : ((x : Int) == (k : Int)) = false := by simp; omega
   rw [h1, h2]
def Lk (H : Hp) (b : Addr) (l : List Nat) (g : Nat → Nat) : Prop :=
 (∃ kvs : List (Key × V), H b = some (.dK kvs) ∧ ∀ r ∈ l, valV kvs (.inl (r : Int)) = some (nV (g r))) ∨ ∃ ns : List Nat, H b = some (.lst (ns.map nV)) ∧ ∀ r ∈ l, ns[r]? = some (g r)
theorem Lk.same {H H' : Hp} {b : Addr} {l : List Nat} {g : Nat → Nat} (h : Lk H b l g) (s : Same H H') : Lk H' b l g := by
 rcases h with ⟨kvs, e, z⟩ | ⟨ns, e, z⟩
 ·exact .inl ⟨kvs, s _ _ e, z⟩
 ·exact .inr ⟨ns, s _ _ e, z⟩
def zfm : Sp := fun vs H Q _ => ∃ (a : Addr) (m : Mc), vs = [.ref a] ∧ RepM H a m ∧ m.Ok ∧ ∀ D rooms H', H D = none → Same H H' → H' D = some (.lst (rooms.map nV)) → Come m rooms rooms.length 0 → Q (.ref D) H'
def zdg : Sp := fun vs H Q _ => ∃ (a b : Addr) (l : List Nat) (g : Nat → Nat), vs = [.ref a, .ref b] ∧ H a = some (.tup (l.map nV)) ∧ l.length ≤ 16 ∧ Lk H b l g ∧ ∀ p H', Same H H' → H' p = some (.tup ((l.map g).map nV)) → Q (.ref p) H'
def zhc : Sp := fun vs H Q _ => ∃ (a b c : Addr) (m : Mc) (rooms : List Nat) (g : Nat → Nat), vs = [.ref a, .ref b, .ref c] ∧ RepM H a m ∧ m.Ok ∧ H b = some (.lst (rooms.map nV)) ∧ rooms.length ≤ 100 ∧ (∀ r ∈ rooms, r < m.n) ∧
 (∀ r ∈ rooms, Lk H c (m.ways.getD r []) g) ∧ ∀ p H', Same H H' → RepM H' p (picked m rooms g) → Q (.ref p) H'
def zhe : Sp := fun vs H Q _ => ∃ (a : Addr) (bs : List Bool), vs = [.ref a] ∧ H a = some (.tup (bs.map V.bl)) ∧ bs.length ≤ 100 ∧ ∀ D ns H', H D = none → Same H H' → H' D = some (.lst (ns.map nV)) → Num bs ns → Q (.ref D) H'
def zhd : Sp := fun vs H Q _ => ∃ (a : Addr) (rs : List V) (ms : List (List Nat)), vs = [.ref a] ∧ H a = some (.lst rs) ∧ Paired (Line H) rs ms ∧ ms.length ≤ 100 ∧ ∀ D ns H', H D = none → Same H H' → H' D = some (.lst (ns.map nV)) → Num ms ns → Q (.ref D) H'
def zcr : Sp := fun vs H Q E => zhe vs H Q E ∨ zhd vs H Q E
def zkb : Sp := fun vs H Q _ => ∃ (a b : Addr) (m : Mc) (ns : List Nat), vs = [.ref a, .ref b] ∧ RepM H a m ∧ m.Ok ∧ H b = some (.lst (ns.map nV)) ∧ Sorts m ns ∧
 ∀ D fs H', H D = none → Same H H' → H' D = some (.lst (fs.map nV)) → Num ((List.range m.n).map (markOf m ns)) fs → Q (.ref D) H'
section
variable {α κ : Type} [DecidableEq α] [DecidableEq κ]
def tabF (key : α → κ) : Nat → List α → List (κ × V)
 | _, [] => []
 | n, x :: r => (key x, nV n) :: tabF key (n + 1) r
theorem zg6 (key : α → κ) : ∀ (ds : List α) (n : Nat) (d : α), tabF key n (ds ++ [d]) = tabF key n ds ++ [(key d, nV (n + ds.length))]
 | [], n, d => rfl
 | x :: r, n, d => by
  show (key x, nV n) :: tabF key (n + 1) (r ++ [d]) = _
  rw [zg6 key r]
  show _ = (key x, nV n) :: (tabF key (n + 1) r ++ [(key d, nV (n + (r.length + 1)))])
  rw [show n + 1 + r.length = n + (r.length + 1) by omega]
theorem zcj (key : α → κ) : ∀ (ds : List α) (n : Nat), (tabF key n ds).length = ds.length
 | [], _ => rfl
 | x :: r, n => by show (tabF key (n + 1) r).length + 1 = r.length + 1; rw [zcj key r]
theorem zf8 {key : α → κ} (inj : ∀ a b, key a = key b → a = b) (x : α) : ∀ (ds : List α) (n : Nat), valV (tabF key n ds) (key x) = if x ∈ ds then some (nV (n + ds.idxOf x)) else none
 | [], n => by simp [tabF, zj1]
 | y :: r, n => by
  show valV ((key y, nV n) :: tabF key (n + 1) r) (key x) = _
  by_cases h : y = x
  ·subst h
   rw [zba rfl, if_pos y0c]
   simp
  ·rw [zbb (fun e => h (inj _ _ e)), zf8 inj x r (n + 1)]
   have e : (x ∈ y :: r) ↔ x ∈ r := by simp [y05, Ne.symm h]
   by_cases hr : x ∈ r
   ·rw [if_pos hr, if_pos (e.mpr hr), y2m, show (y == x) = false by simp [h], cond_false, show n + 1 + r.idxOf x = n + (r.idxOf x + 1) by omega]
   ·rw [if_neg hr, if_neg (fun z => hr (e.mp z))]
theorem zde {key : α → κ} (inj : ∀ a b, key a = key b → a = b) {x : α} {ds : List α} (h : x ∈ ds) : valV (tabF key 0 ds) (key x) = some (nV (nOf ds x)) := by
 rw [zf8 inj x ds 0, if_pos h, y3p]; rfl
theorem zd4 {key : α → κ} (inj : ∀ a b, key a = key b → a = b) {x : α} {ds : List α} (h : ¬ x ∈ ds) : valV (tabF key 0 ds) (key x) = none := by
 rw [zf8 inj x ds 0, if_neg h]
theorem zf9 {key : α → κ} (inj : ∀ a b, key a = key b → a = b) {x : α} {ds : List α} (h : ¬ x ∈ ds) : putK (tabF key 0 ds) (key x) (V.int ((tabF key 0 ds).length : Int)) = tabF key 0 (ds ++ [x]) := by
 rw [zki _ (zd4 inj h), zg6, zcj, y3p]
end
def keyB (b : Bool) : Key := .inl (blI b)
def keyL (l : List Nat) : List Key := l.map fun (n : Nat) => (Sum.inl (n : Int) : Key)
theorem zec (a b : Bool) (e : keyB a = keyB b) : a = b := blI_inj (Sum.inl.inj e)
theorem zbn : ∀ (a b : List Nat), keyL a = keyL b → a = b
 | [], [], _ => rfl
 | [], _ :: _, h => nomatch h
 | _ :: _, [], h => nomatch h
 | x :: a, y :: b, h => by
  rw [keyL, keyL, y0k, y0k, List.cons.injEq] at h
  rw [zbn a b h.2]
  have e : (x : Int) = (y : Int) := Sum.inl.inj h.1
  rw [show x = y by omega]
theorem zh1 (l : List Nat) : (keyL l).map kV = l.map nV := by unfold keyL; rw [y0r]; rfl
def knT (rooms : List Nat) : List (Key × V) := rooms.map fun (r : Nat) => ((Sum.inl (r : Int) : Key), V.bl true)
theorem zts (rooms : List Nat) : (knT rooms).length = rooms.length := y01 _
theorem zjf (r : Nat) : ∀ rooms : List Nat, valV (knT rooms) (.inl (r : Int)) = if r ∈ rooms then some (V.bl true) else none
 | [] => by simp [knT, zj1]
 | x :: rooms => by
  show valV (((Sum.inl (x : Int) : Key), V.bl true) :: knT rooms) (.inl (r : Int)) = _
  by_cases h : x = r
  ·subst h; rw [zba rfl, if_pos y0c]
  ·rw [zbb (fun e => h (by have := Sum.inl.inj e; omega)), zjf r rooms]
   have e : (r ∈ x :: rooms) ↔ r ∈ rooms := by simp [y05, Ne.symm h]
   by_cases hr : r ∈ rooms
   ·rw [if_pos hr, if_pos (e.mpr hr)]
   ·rw [if_neg hr, if_neg (fun z => hr (e.mp z))]
theorem ztr {r : Nat} {rooms : List Nat} (h : ¬ r ∈ rooms) : putK (knT rooms) (.inl (r : Int)) (V.bl true) = knT (rooms ++ [r]) := by
 rw [zki _ (by rw [zjf, if_neg h])]
 simp [knT]
theorem TupS.wrT {H : Hp} {p : Addr} {kvs : List (List Key × V)} (h : H p = some (.dT kvs)) (o : HO) : TupS H (upd H p o) := fun b ys e => by rw [zal (zn0 e h (by intro z; cases z))]; exact e
section
variable {X : Cx} {H : Hp}
theorem zbw (n : Nat) : ((List.range n).all fun _ => true) = true := by simp
theorem zsy {a b : Addr} {l : List Nat} {k : Nat} (ha : H a = some (.tup (l.map nV))) (hb : H b = some (.tup (l.map nV))) : RcOk X (k + 1) H (.ref a) (.ref b) true := by
 have r := zcz (X := X) (k := k) (.of ha) (.of hb) (fun _ => true) fun j h1 h2 => by
  have e : (l.map nV)[j] = V.int (l[j]'(by simpa using h1) : Nat) := by simp
  rw [e]
  have z := zb2 (X := X) (k := k) (H := H) (x := V.int ((l[j]'(by simpa using h1) : Nat) : Int)) (y := V.int ((l[j]'(by simpa using h1) : Nat) : Int)) rfl rfl
  rw [show eqV (V.int ((l[j]'(by simpa using h1) : Nat) : Int)) (V.int ((l[j]'(by simpa using h1) : Nat) : Int)) = true by simp [eqV]] at z
  exact z
 rw [zbw, show ((l.map nV).length == (l.map nV).length) = true by simp, y1a] at r
 exact r
theorem zkh {a b : Addr} {l : List Bool} {k : Nat} (ha : H a = some (.tup (l.map V.bl))) (hb : H b = some (.tup (l.map V.bl))) : RcOk X (k + 1) H (.ref a) (.ref b) true := by
 have r := zcz (X := X) (k := k) (.of ha) (.of hb) (fun _ => true) fun j h1 h2 => by
  have e : (l.map V.bl)[j] = V.bl (l[j]'(by simpa using h1)) := by simp
  rw [e]
  have z := zb2 (X := X) (k := k) (H := H) (x := V.bl (l[j]'(by simpa using h1))) (y := V.bl (l[j]'(by simpa using h1))) rfl rfl
  rw [show eqV (V.bl (l[j]'(by simpa using h1))) (V.bl (l[j]'(by simpa using h1))) = true by simp [eqV]] at z
  exact z
 rw [zbw, show ((l.map V.bl).length == (l.map V.bl).length) = true by simp, y1a] at r
 exact r
theorem ze6 {a b : Addr} {k : Nat} (r : RcOk X k H (.ref a) (.ref b) true) : EqOk X k H (.ref a) (.ref b) true := by
 by_cases h : a = b
 ·subst h; exact zos
 ·exact .of_rc h r
theorem zkg {a b : Addr} {rs ts : List V} {ls : List (List Nat)} {k : Nat} (ha : H a = some (.tup rs)) (hb : H b = some (.tup ts)) (pa : Paired (Line H) rs ls) (pb : Paired (Line H) ts ls) : RcOk X (k + 2) H (.ref a) (.ref b) true := by
 have l1 := SS.Paired.len pa
 have l2 := SS.Paired.len pb
 have r := zcz (X := X) (k := k + 1) (.of ha) (.of hb) (fun _ => true) fun j h1 h2 => by
  obtain ⟨x, ex, p, ep, hp⟩ := SS.Paired.at pa (y00 h1)
  obtain ⟨y, ey, q, eq, hq⟩ := SS.Paired.at pb (y00 h2)
  rw [ex] at ey
  cases ey
  rw [ep, eq]
  exact ze6 (zsy hp hq)
 rw [zbw, show (rs.length == ts.length) = true by simp; omega, y1a] at r
 exact r
theorem rc_mach {a b : Addr} {m : Mc} (ha : RepM H a m) (hb : RepM H b m) : RcOk X 8 H (.ref a) (.ref b) true := by
 obtain ⟨b1, c1, rs, e1, e2, e3, e4⟩ := ha
 obtain ⟨b2, c2, ts, f1, f2, f3, f4⟩ := hb
 have r := zcz (X := X) (k := 7) (.of e1) (.of f1) (fun _ => true) fun j h1 h2 => by
  have hj : j = 0 ∨ j = 1 ∨ j = 2 := by simp only [y0i, y0v] at h1; omega
  rcases hj with rfl | rfl | rfl
  ·have z := zb2 (X := X) (k := 7) (H := H) (x := V.int (m.w : Int)) (y := V.int (m.w : Int)) rfl rfl
   rw [show eqV (V.int (m.w : Int)) (V.int (m.w : Int)) = true by simp [eqV]] at z
   exact z
  ·exact ze6 ((zkg (k := 5) e2 f2 e3 f3))
  ·exact ze6 ((zkh (k := 6) e4 f4))
 exact r
theorem zto {a b : Addr} {m : Mc} (ha : RepM H a m) (hb : RepM H b m) : NeOk X 8 H (.ref a) (.ref b) false := by
 obtain ⟨b1, c1, rs, e1, e2, e3, e4⟩ := ha
 obtain ⟨b2, c2, ts, f1, f2, f3, f4⟩ := hb
 have r := znz (X := X) (k := 7) (.of e1) (.of f1) (fun _ => true) fun j h1 h2 => by
  have hj : j = 0 ∨ j = 1 ∨ j = 2 := by simp only [y0i, y0v] at h1; omega
  rcases hj with rfl | rfl | rfl
  ·have z := zb2 (X := X) (k := 7) (H := H) (x := V.int (m.w : Int)) (y := V.int (m.w : Int)) rfl rfl
   rw [show eqV (V.int (m.w : Int)) (V.int (m.w : Int)) = true by simp [eqV]] at z
   exact z
  ·exact ze6 (zkg (k := 5) e2 f2 e3 f3)
  ·exact ze6 (zkh (k := 6) e4 f4)
 exact r
end
end SM
namespace L2
abbrev IsZipF (h : Heap) (z ti ro : Addr) (f0 f1 : Value) : Prop := h.get? z = some { cls := .type "zip", dict := none, data := .fields #[f0, f1, .bool false, .ref ti, .ref ro], slots := #[] }
theorem zl0 {M : Model} {A : Around} {E : T0} {s : Shared} {a : Addr} {Q : Option Obj → Shared → Prop} (h : Q (s.heap.get? a) s) : wpAny M A (loadIfAlive a) Q E s := fun _ _ _ => h
structure ZipG (h : Heap) (z ti ro j1 j2 t1 t2 : Addr) (i : Nat) : Prop where
 z : ∃ f0 f1, IsZipF h z ti ro f0 f1 ∧ (f0 = Value.none ∨ ∃ a : Addr, f0 = rawInt a)
 ti : IsPair h ti (.ref j1) (.ref j2)
 ro : ∃ a b, IsPair h ro a b
 j1 : h.IsTupleIter j1 t1 i
 j2 : h.IsTupleIter j2 t2 i
section
variable {P : Program} {w : World} {A : Around} {E : T0} {s : Shared} {z ti ro j1 j2 t1 t2 : Addr} {i : Nat} {its1 its2 : Array Value}
theorem zfv {f0 f1 : Value} {Q : Bool → Shared → Prop} (hz : IsZipF s.heap z ti ro f0 f1) (hf : f0 = Value.none ∨ ∃ a : Addr, f0 = rawInt a) (q : ∀ b h' g1, IsZipF h' z ti ro f0 g1 → Heap.SameBut z s.heap h' → Q b { s with heap := h' }) :
  wpAny (model P w) A (Builtin.SmallTypes.ownedTupleIsFree (.ref z)) Q E s := by
 unfold Builtin.SmallTypes.ownedTupleIsFree
 refine wpAny_bind (wpAny_field hz rfl (x := f0) rfl ?_)
 rcases hf with rfl | ⟨a, rfl⟩
 ·exact wpAny_pure (q true s.heap f1 hz (Heap.SameBut.refl _ _))
 ·show wpAny _ _ (loadIfAlive _ >>= _) _ _ _
  refine wpAny_bind (zl0 ?_)
  cases s.heap.get? (Int.toNat (a : Int)) with
  | none =>
   rw [if_pos (show (none : Option Obj).isNone = true from rfl)]
   exact wpAny_pure (q true s.heap f1 hz (Heap.SameBut.refl _ _))
  | some o =>
   rw [if_neg (show ¬ (some o : Option Obj).isNone = true from y0f)]
   refine wpAny_bind (wpAny_field hz rfl (x := f1) rfl ?_)
   by_cases c : (f1 != Value.bool true) = true
   ·rw [if_pos c]
    exact wpAny_bind (wpAny_setField_rec hz (by simp) fun h' hz' hs' => wpAny_pure (q false h' (.bool true) hz' hs'))
   ·rw [if_neg c]
    exact wpAny_pure (q false s.heap f1 hz (Heap.SameBut.refl _ _))
end
set_option maxHeartbeats 1000000 in
theorem enum_newZ (z ti ro : Addr) :
  Meets (Builtin.«enumerate.__new__» ⟨[.type "enumerate", .ref z], []⟩) (fun _ R s => IsZip s.heap z ti ro .none ∧
   R (.ok (.ret (.ref s.heap.objs.size))) { s with heap := s.heap.push { cls := .type "enumerate", data := .fields #[.none, .bool false, .ref z, rawInt 0, .none, .none] } }) :=
 .of_wp fun prog w A R s h => by
  obtain ⟨hp, g, d, tk, os⟩ := s; obtain ⟨hl, h⟩ := h
  have hsub := sub_enumerate
  have hL : IsZip (Shared.heap ⟨hp, g, d, tk, os⟩) z ti ro .none := hl
  wp_walk using AutoSeq1.wpAny_loadPart' hl
  refine wpAny_stack_any fun st => wpAny_pure ?_
  split
  ·rename_i c _ _ _ _ _
   cases (c == Value.type "enumerate")
   ·wp_walk using AutoSeq1.wpAny_loadPart' hl, wpAny_pyIter_zip hL
    exact ⟨_, rfl, h⟩
   ·wp_walk using AutoSeq1.wpAny_loadPart' hl, wpAny_pyIter_zip hL
    exact ⟨_, rfl, h⟩
  ·wp_walk using AutoSeq1.wpAny_loadPart' hl, wpAny_pyIter_zip hL
   exact ⟨_, rfl, h⟩
section
variable {tn : List Str} {cp : T6} {g : TG} {tif : TT} {te : TE} {σ0 : St} {Q : VK} {H1 : Hp} {lo : Int} {n : Nat}
def PRnF (S : St → Prop) (p : Nat → Bool) (f : Nat → V) (H1 : Hp) (i : Nat) (ys : List V) (σ : St) (H : Hp) : Prop := Same H1 H ∧ S σ ∧ ys = ((List.range i).filter p).map f
theorem zo3 (S : St → Prop) (p : Nat → Bool) (f : Nat → V) (hn : n ≤ 1000) (h0 : S (stB tn cp σ0))
  (hs : ∀ D i σ H, i < n → Same H1 H → H1 D = none → H D = some (.lst (((List.range i).filter p).map f)) → S σ → g (.int (lo + i)) σ H fun σ2 H2 => tif σ2 H2 fun c H3 =>
   if c = true then te σ2 H3 fun v H4 => CStep D n i (PRnF S p f H1) σ2 v H4 else CSkip D n i (PRnF S p f H1) σ2 H3)
  (hd : ∀ D H, H1 D = none → Same H1 H → H D = some (.lst (((List.range n).filter p).map f)) → Q (.ref D) H) : cBody tn cp g tif te σ0 Q (Itr lo n) H1 := by
 refine zmh n (fun D => PRnF S p f H1) (zab hn) (fun D hD => ⟨za4 hD _, h0, rfl⟩) (fun D i ys σ H _ hi _ _ => hi) (fun D ys σ H _ _ _ => y06 _) ?_ ?_
 ·rintro D i ys σ H x H' hD hi hH hl ⟨p1, p2, rfl⟩ ⟨rfl, rfl⟩
  exact hs D i σ _ hi p1 hD hH p2
 ·rintro D ys σ H hD hH hl ⟨p1, p2, rfl⟩
  exact hd D H hD p1 hH
theorem zo4 (p : Nat → Bool) (f : Nat → V) (i : Nat) : (((List.range i).filter p).map f).length ≤ i := by
 rw [y01]
 have := y1i p (List.range i)
 rw [y17] at this
 exact this
theorem zk9 {S : St → Prop} {p : Nat → Bool} {f : Nat → V} {D : Addr} {i : Nat} {v : V} {σ2 : St} {H4 : Hp} (hn : n ≤ 1000) (hi : i < n) (hp : p i = true) (hD : H1 D = none) (h4 : H4 D = some (.lst (((List.range i).filter p).map f))) (g4 : Same H1 H4) (s2 : S σ2) (e : v = f i) : CStep D n i (PRnF S p f H1) σ2 v H4 := by
 subst e
 refine cstep (zab hn) hi h4 (zo4 p f i) ⟨g4.wr hD _, s2, ?_⟩
 rw [y2k, y2o, y0z]
 simp [hp]
theorem zla {S : St → Prop} {p : Nat → Bool} {f : Nat → V} {D : Addr} {i : Nat} {σ2 : St} {H3 : Hp} (hi : i < n) (hp : p i = false) (h3 : H3 D = some (.lst (((List.range i).filter p).map f))) (g3 : Same H1 H3) (s2 : S σ2) : CSkip D n i (PRnF S p f H1) σ2 H3 := by
 refine cskip hi h3 (zo4 p f i) ⟨g3, s2, ?_⟩
 rw [y2k, y2o]
 simp [hp]
end
theorem zgw {pos pos' : Pos} {v : Value} (l : List Value) (h : TriplesOk l) : codeAmong pos' (l ++ [rawInt pos.line, rawInt pos.col, v]) = match codeAmong pos' l with
  | some x => some x
  | none => if ((pos.line : Int) == (pos'.line : Int) && (pos.col : Int) == (pos'.col : Int)) = true then some v else none := by
 fun_induction TriplesOk l with
 | case1 => simp [codeAmong, rawInt]
 | case2 a t b u x rest ih =>
  simp only [y3t, codeAmong]
  split
  ·rfl
  ·exact ih h
 | case3 l h1 h2 => exact h.elim
def TabOk (H : Hp) (P : Addr) (qs : T3) : Prop := ∃ ps : Array Value, H P = some (.tbl qs ps)
theorem TabOk.same {H H' : Hp} {P : Addr} {qs : T3} (T : TabOk H P qs) (g : Same H H') : TabOk H' P qs := let ⟨ps, h⟩ := T; ⟨ps, g _ _ h⟩
def KCode (K : Frag) (c P : Addr) : Prop := ∃ o vs file tf flags tg inF text tt, K.lookup c = some o ∧ o.cls = .type "code" ∧ o.data = .fields vs ∧ vs[11]? = some (.ref P) ∧ vs.getD 11 .none = .ref P ∧ vs.getD 18 .none = .str file tf ∧
 vs.getD 7 .none = .int flags tg ∧ vs.getD 9 .none = .bool inF ∧ vs.getD 10 .none = .int text tt ∧ c ≠ P
section
variable {X : Cx} {pins : T2} {σ : St} {H : Hp} {s : Shared}
theorem fn_code {E : T0} {c P : Addr} {qs : T3} {pos : Pos} {line : Nat} {name qual : Str} {params : Arguments} {scope : Scope} {body : FuncBody} {Q : T0} (I : Inv X pins σ H s) (hc : X.env.code = .ref c) (kc : KCode X.K c P)
  (T : TabOk H P qs) (hq : (pos, qual) ∈ qs) (hone : ∀ p ∈ qs, p.1.line = pos.line → p.1.col = pos.col → p.2 = qual)
  (h : ∀ c' o H' s', Inv X pins σ H' s' → H' c' = some (.frz o (.own c')) → CodeObj o qual → Same H H' → Q (.ref c') s') :
  wpAny (model X.prog X.w) X.A (functionCode X.env pos line name qual params scope body) Q E s := by
 obtain ⟨ps0, hP⟩ := T
 obtain ⟨more, hop, htr, hcs⟩ := I.hok P _ hP
 obtain ⟨oc, vs, file, tf, flags, tg, inF, text, tt, lk, hcl, hd, h11', h11, h18, h7, h9, h10, hne⟩ := kc
 have ho : s.heap.get? c = some oc := I.kIn c oc lk
 generalize hps : ps0 ++ more = ps at hop htr hcs
 cases hf : codeAmong pos ps.toList with
 | some v =>
  obtain ⟨c', o, rfl, hc', co⟩ := hcs _ hq v hf
  unfold functionCode codeAt
  rw [hc, if_neg (show ¬ ((Value.ref c == Value.none) = true) from y0f)]
  refine wpAny_bind (wpAny_fieldsOf ho hd ?_)
  rw [h11]
  refine wpAny_bind (wpAny_fieldsOf hop rfl ?_)
  rw [hf]
  exact wpAny_pure (h c' o H s I hc' co fun _ _ e => e)
 | none =>
  have ic : s.heap.IsCode c P ps := ⟨oc, vs, file, tf, flags, tg, inF, text, tt, _, ho, hd, h11, h18, h7, h9, h10, hop, rfl, htr, hne⟩
  refine wpAny_functionCodeX hc ic ⟨⟨oc, vs, ho, hcl, hd, h11'⟩, hop⟩ hf fun c' h' tk hx hge hlt hic hrec htab _ => ?_
  obtain ⟨c₂, o', vs', t', e, hc', hd', hv'⟩ := hrec
  cases e
  have nPn : ∀ b, H b = none → b ≠ P := fun b e z => by rw [z, hP] at e; cases e
  have hcn : H c' = none := I.hok.fresh hge
  have nc : ∀ b u, H b = some u → b ≠ c' := fun b u e z => by rw [z, hcn] at e; cases e
  have nP : ∀ b u, H b = some u → (∀ a b, u ≠ .tbl a b) → b ≠ P := fun b u e n z => by rw [z, hP] at e; cases e; exact n _ _ rfl
  have up : ∀ b u, H b = some u → upd H c' (.frz o' (.own c')) b = some u := fun b u e => by rw [zal (nc b u e)]; exact e
  have co : CodeObj o' qual := ⟨vs', t', hd', hv'⟩
  have I' : Inv X pins σ (upd H c' (.frz o' (.own c'))) { s with heap := h', toks := tk } := by
   refine I.un ⟨fun b o e n _ _ => hx b o (nPn b n) e, fun b o e n _ _ => ⟨o.slots, hx b o (nPn b n) e⟩, fun b o e n _ => ?_, fun b o e _ => ?_, fun b xs e => up b _ e, fun b o u e => up b _ e, fun b qs ps e => up b _ e⟩ fun b u e => ?_
   ·rw [zal (y0l (y0q (y0d e) hge))]; exact n
   ·by_cases hb : b = P
    ·subst hb; exact ⟨_, htab.2⟩
    ·exact ⟨o, hx b o hb e⟩
   ·by_cases hb : b = c'
    ·subst hb
     rw [zar] at e; cases e
     exact ⟨hc', _, hc'⟩
    ·rw [zal hb] at e
     by_cases hbP : b = P
     ·subst hbP
      rw [hP] at e; cases e
      have hl : (ps ++ #[rawInt pos.line, rawInt pos.col, Value.ref c']).toList = ps.toList ++ [rawInt pos.line, rawInt pos.col, .ref c'] := by simp
      have e2 : ps0 ++ (more ++ #[rawInt pos.line, rawInt pos.col, Value.ref c']) = ps ++ #[rawInt pos.line, rawInt pos.col, Value.ref c'] := by rw [← Array.append_assoc, hps]
      refine ⟨more ++ #[rawInt pos.line, rawInt pos.col, .ref c'], by rw [e2]; exact htab.2, by rw [e2, hl]; exact TriplesOk_snoc _ _ _ _ htr, fun p hp v e => ?_⟩
      rw [e2, hl, zgw _ htr] at e
      cases hv : codeAmong p.1 ps.toList with
      | some x =>
       rw [hv] at e
       cases e
       obtain ⟨c1, o1, e1, e2, e3⟩ := hcs p hp _ hv
       exact ⟨c1, o1, e1, up c1 _ e2, e3⟩
      | none =>
       rw [hv] at e
       simp only at e
       split at e
       ·rename_i hh
        cases e
        rw [y08] at hh
        have e1 : pos.line = p.1.line := by have := hh.1; simp at this; omega
        have e2 : pos.col = p.1.col := by have := hh.2; simp at this; omega
        exact ⟨c', o', rfl, zar, by rw [hone p hp e1.symm e2.symm]; exact co⟩
       ·cases e
     ·refine (I.hok b u e).stay (fun c w hc q => hx c w ?_ q) (fun c q => up c _ q) (fun c _ _ _ _ q => up c _ q) fun c xs q => up c _ q
      rcases hc with rfl | hc
      ·exact hbP
      ·exact nP c _ hc fun _ _ z => nomatch z
  exact h c' o' _ _ I' zar co up
def cloFd (name qual : Str) (params : Arguments) (body : FuncBody) (scope : Scope) (cl : T4) (ct cd pm : Value) : FuncData :=
 { name, qualname := qual, params, body, scope, globals := mainGlobals, closure := cl, closureTuple := ct, code := cd, builtins := builtinsNs, defaults := .none, kwdefaults := .none, annotations := none, pyModule := pm, doc := .none }
def BltK (base : Heap) (mg : T1) : Prop := ∃ bm o, mg "__builtins__" = some (.ref bm) ∧ bm ≠ builtinsNs ∧ base.get? bm = some o ∧ o.cls = .type "module" ∧ o.dict = some builtinsNs ∧ o.data = .plain
def NoDoc : FuncBody → Prop
 | .stmts b => docOf b = none
 | .expr _ => True
structure Made (X : Cx) (H H' : Hp) (name qual : Str) (params : Arguments) (body : FuncBody) (scope : Scope) (f : Addr) : Prop where
 old : Same H H'
 new : H f = none
 ex : ∃ cl ct c' oc pm, (∀ x c, cl.lookup x = some c → X.env.cells.lookup x = some c) ∧ (∀ p ∈ scope.names, p.2 = .free → ∃ c, cl.lookup p.1 = some c) ∧ H' c' = some (.frz oc (.own c')) ∧ CodeObj oc qual ∧
  H' f = some (.frz { cls := .type "function", data := .func (cloFd name qual params body scope cl ct (.ref c') pm) } (.own f))
theorem zjd {E : T0} {c P : Addr} {qs : T3} {pos : Pos} {line : Nat} {name qual : Str} {params : Arguments} {scope : Scope} {body : FuncBody} {Q : T0} (I : Inv X pins σ H s) (hc : X.env.code = .ref c) (kc : KCode X.K c P) (kb : BltK X.base X.mg)
  (hfr : ∀ p ∈ scope.names, p.2 = .free → X.env.kindOf p.1 = some .cell ∨ X.env.kindOf p.1 = some .free) (nd : NoDoc body)
  (T : TabOk H P qs) (hq : (pos, qual) ∈ qs) (hone : ∀ p ∈ qs, p.1.line = pos.line → p.1.col = pos.col → p.2 = qual)
  (h : ∀ f H' s', Inv X pins σ H' s' → Made X H H' name qual params body scope f → Q (.ref f) s') :
  wpAny (model X.prog X.w) X.A (makeFunction name qual params body scope X.env [] [] [] pos line) Q E s := by
 obtain ⟨cl, hcl, hcl1, hcl2⟩ := zf5 (scope := scope) (env := X.env) fun p hp hf => I.ok.has p.1 (hfr p hp hf)
 obtain ⟨bm, ob, b1, b2, b3, b4, b5, b6⟩ := kb
 have tail : ∀ (ct : Value) (s1 : Shared), Inv X pins σ H s1 → wpAny (model X.prog X.w) X.A (do
   let fd : FuncData := { name, qualname := qual, params, body, scope, globals := X.env.globals, closure := cl, closureTuple := ct, code := ← functionCode X.env pos line name qual params scope body, builtins := ← builtinsFor X.env.globals X.env.builtins, defaults := .none, kwdefaults := .none, annotations := none, pyModule := (← nsGet X.env.globals "__name__").getD .none, doc := ← match body with | .stmts b => (match docOf b with | some s => mkText s | none => pure .none) | .expr _ => pure .none }
   newObj (.type "function") (.func fd)) Q E s1 := by
  intro ct s1 I1
  refine wpAny_bind (fn_code I1 hc kc T hq hone fun c' oc H' s' I' e1 co up => ?_)
  have hg : s'.heap.Ns X.env.globals X.mg := by rw [I'.ok.glob]; exact I'.mod.glob.keeps I'.bk
  refine wpAny_bind (wpAny_builtinsFor hg b1 b2 (I'.bk bm ob b3) b4 b5 b6 ?_)
  refine wpAny_bind (wpAny_nsGet hg ?_)
  have fin : wpAny (model X.prog X.w) X.A (newObj (.type "function") (.func { name, qualname := qual, params, body, scope, globals := X.env.globals, closure := cl, closureTuple := ct, code := .ref c', builtins := builtinsNs, defaults := .none, kwdefaults := .none, annotations := none, pyModule := (X.mg "__name__").getD .none, doc := .none })) Q E s' := by
   refine wpAny_newObj_type ?_ (by size_fits)
   rw [I'.ok.glob]
   have hfn : H' s'.heap.objs.size = none := I'.fresh
   have hfn0 : H s'.heap.objs.size = none := by
    cases e : H s'.heap.objs.size with
    | none => rfl
    | some u => rw [up _ u e] at hfn; cases hfn
   have nf : ∀ b u, H' b = some u → b ≠ s'.heap.objs.size := fun b u e z => by rw [z, hfn] at e; cases e
   have I2 := I'.laid (a := s'.heap.objs.size) (o := .frz { cls := .type "function", data := .func (cloFd name qual params body scope cl ct (.ref c') ((X.mg "__name__").getD .none)) } (.own s'.heap.objs.size)) (t' := s'.toks)
    (h' := s'.heap.push { cls := .type "function", data := .func (cloFd name qual params body scope cl ct (.ref c') ((X.mg "__name__").getD .none)) }) (fun b u e => y03 _ e) (y06 _) ⟨y0e _ rfl, _, y0e _ rfl⟩
   refine h _ _ _ I2 ⟨fun b u e => by rw [zal (nf b u (up b u e))]; exact up b u e, hfn0, cl, ct, c', oc, _, hcl1, hcl2, by rw [zal (nf c' _ e1)]; exact e1, co, zar⟩
  cases body with
  | expr e => exact wpAny_bind (wpAny_pure fin)
  | stmts b =>
   have nd' : docOf b = none := nd
   refine wpAny_bind ?_
   show wpAny _ _ (match docOf b with | some s => mkText s | none => pure .none) _ _ _
   rw [nd']
   exact wpAny_pure fin
 rw [makeFunction_eq]
 simp only [List.isEmpty_nil, if_true, List.zip_nil_right, List.filterMap_nil]
 refine wpAny_bind (wpAny_pure (wpAny_bind (wpAny_pure (wpAny_bind (wpAny_pure ?_)))))
 unfold makeTail
 rw [hcl]
 refine wpAny_bind (wpAny_pure ?_)
 show wpAny _ _ (if cl.isEmpty = true then _ else _) _ _ _
 by_cases he : cl.isEmpty = true
 ·rw [if_pos he]
  exact wpAny_bind (wpAny_pure (tail .none s I))
 ·rw [if_neg he]
  refine wpAny_bind (wpAny_newTextTuple ?_)
  exact (tail _ _ (I.kept (t' := s.toks) fun b o e => y03 _ e))
end
def fnO (fd : FuncData) (f : Addr) : HO := .frz { cls := .type "function", data := .func fd } (.own f)
def Frz (H H' : Hp) : Prop := ∀ b o u, H b = some (.frz o u) → H' b = some (.frz o u)
theorem Frz.refl (H : Hp) : Frz H H := fun _ _ _ e => e
theorem Frz.trans {H H1 H2 : Hp} (a : Frz H H1) (b : Frz H1 H2) : Frz H H2 := fun c o u e => b c o u (a c o u e)
theorem Same.frz {H H' : Hp} (g : Same H H') : Frz H H' := fun b o u e => g _ _ e
def CloH (P : Program) (w : World) (K : Frag) (mg : T1) (base : Heap) (k : Nat) (H : Hp) (f : Addr) (n : Nat) (sp : Sp) : Prop :=
 ∀ (A : Around) (outer : List Env) (s : Shared) (H' : Hp) (us : List Value) (vs : List V) (Q : VK), Room k A → Env0 P w K mg base A outer s H' → Frz H H' → Vals vs us → vs.length = n → sp vs H' Q E0 →
  codeAny (model P w) A (.call (.ref f) ⟨us, []⟩) (CR CX0 outer P w H' s Q E0) s
theorem CloH.mono {P : Program} {w : World} {K : Frag} {mg : T1} {base : Heap} {k : Nat} {H H1 : Hp} {f : Addr} {n : Nat} {sp : Sp} (c : CloH P w K mg base k H f n sp) (g : Frz H H1) : CloH P w K mg base k H1 f n sp :=
 fun A outer s H' us vs Q hr e0 fz => c A outer s H' us vs Q hr e0 (g.trans fz)
def tCallV (P : Program) (w : World) (K : Frag) (mg : T1) (base : Heap) (k n : Nat) (sp : Sp) (i : Nat) (t : TA) : TE := fun σ H Q => ∃ f fd, σ[i]? = some (some (.ref f)) ∧ H f = some (fnO fd f) ∧
 t σ H fun vs H1 => H1 f = some (fnO fd f) ∧ CloH P w K mg base k H1 f n sp ∧ vs.length = n ∧ sp vs H1 Q E0
theorem zq7 (f : Addr) (fd : FuncData) : PySem.W.keepIn [(f, { cls := .type "function", data := .func fd })] (.ref f) = true := by
 unfold PySem.W.keepIn
 simp [List.lookup]
theorem zqe {X : Cx} {x : Str} {i k n : Nat} {sp : Sp} {p pos : Pos} {e : Expr} {es : List Expr} {t : TA} (hN : X.N[i]? = some x) (hv : Vis X.env.scope x) (hr : Room k X.A) (ha : PA X (e :: es) t)
  (hd : (x == ("__debug__" : Str)) = false := by decide) (hcd : (x == ("__classdict__" : Str)) = false := by decide) (he : starEach (e :: es) X.env = (false, eval e X.env) :: starEach es X.env := by rfl) (hpl : (backTo pos (starEach es X.env)).any (·.1) = false := by rfl) :
  PE X (.Call (.Name x p) (e :: es) [] pos) (tCallV X.prog X.w X.K X.mg X.base k n sp i t) := by
 intro pins s σ H Q I h
 obtain ⟨f, fd, hs, hf, h⟩ := h
 refine wpAny_Call_Name_kw (thn (zkk (pos := p) hN hv hd hcd pins s σ H (fun v H' => v = .ref f ∧ H' = H) I ⟨.ref f, hs, rfl, rfl⟩) fun u s1 ⟨v, H1, I1, r1, e1, e2⟩ => ?_)
 subst e1 e2
 cases (show u = Value.ref f from r1)
 have at1 : ∀ {H2 : Hp} {s2 : Shared}, Inv X pins σ H2 s2 → H2 f = some (fnO fd f) → PySem.W.Frag.In [(f, { cls := .type "function", data := .func fd })] s2.heap := fun {H2 s2} I2 hf2 a o e => by
  simp only [List.lookup] at e
  split at e
  ·rename_i q
   cases e
   rw [beq_iff_eq.mp q]
   exact (I2.hok f _ hf2).1
  ·cases e
 refine PySem.W.callWith_K (K := [(f, { cls := .type "function", data := .func fd })]) (h₀ := s1.heap) (at1 I1 hf) (zq7 f fd) (thn (ha pos pins s1 σ H1 _ I1 h) fun us s2 ⟨vs, H2, I2, r, hf2, c, hl, q⟩ => ⟨at1 I2 hf2, ?_⟩) he hpl
 refine wpAny_call (codeAny_mono (c X.A X.stack s2 H2 us vs Q hr I2.env0 (Frz.refl _) r hl q) fun r s' hq => ?_)
 cases r with
 | error e => exact False.elim hq
 | ok fl =>
  cases fl with
  | ret u => exact I2.after hq
  | next => exact False.elim hq
  | brk => exact False.elim hq
  | cont => exact False.elim hq
def tDef (X : Cx) (P : Addr) (qs : T3) (name qual : Str) (params : Arguments) (body : FuncBody) (scope : Scope) (j : Nat) : TS := fun D σ H => TabOk H P qs ∧ ∀ f H', Made X H H' name qual params body scope f → D.nx (σ.set j (some (.ref f))) H'
def tLam (X : Cx) (P : Addr) (qs : T3) (name qual : Str) (params : Arguments) (body : FuncBody) (scope : Scope) : TE := fun σ H Q => TabOk H P qs ∧ ∀ f H', Made X H H' name qual params body scope f → Q (.ref f) H'
section
variable {X : Cx} {c P : Addr} {qs : T3} {pos : Pos} {name qual : Str} {params : Arguments} {scope : Scope}
theorem zm8 {body : Expr} (hc : X.env.code = .ref c) (kc : KCode X.K c P) (kb : BltK X.base X.mg) (hfr : ∀ p ∈ scope.names, p.2 = .free → X.env.kindOf p.1 = some .cell ∨ X.env.kindOf p.1 = some .free)
  (hq : (pos, qual) ∈ qs) (hone : ∀ p ∈ qs, p.1.line = pos.line → p.1.col = pos.col → p.2 = qual) (hd : params.defaults = []) (hk : params.kw_defaults = []) (hqual : X.env.qual ++ "<lambda>" = qual) :
  PE X (.Lambda params body scope pos) (tLam X P qs "<lambda>" qual params (.expr body) scope) := by
 intro pins s σ H Q I h
 obtain ⟨T, h⟩ := h
 rw [arm_eval_Lambda]
 have hdo : defaultsOf params X.env = ([], []) := by rw [defaultsOf_eq, hd, hk]; rfl
 simp only [hdo]
 refine wpAny_bind (wpAny_pure (wpAny_bind (wpAny_holding (wpAny_pure ?_))))
 rw [hqual]
 exact zjd I hc kc kb hfr trivial T hq hone fun f H' s' I' M => ⟨.ref f, H', I', rfl, h f H' M⟩
theorem zs1 {j : Nat} {body : List Stmt} (hc : X.env.code = .ref c) (kc : KCode X.K c P) (kb : BltK X.base X.mg) (hfr : ∀ p ∈ scope.names, p.2 = .free → X.env.kindOf p.1 = some .cell ∨ X.env.kindOf p.1 = some .free) (nd : docOf body = none)
  (hq : (pos, qual) ∈ qs) (hone : ∀ p ∈ qs, p.1.line = pos.line → p.1.col = pos.col → p.2 = qual) (hd : params.defaults = []) (hk : params.kw_defaults = []) (ha : ∀ e, annTrees params none e = []) (hqual : qualnameIn X.env name name = qual)
  (hN : X.N.Nodup) (hj : X.N[j]? = some name) (hx : X.env.scope.names.lookup name = some .local) : PS X (.FunctionDef name params body [] none [] scope none name pos) (tDef X P qs name qual params (.stmts body) scope j) := by
 intro pins s σ H D I h
 obtain ⟨T, h⟩ := h
 rw [exec_def]
 have hdo : defaultsOf params X.env = ([], []) := by rw [defaultsOf_eq, hd, hk]; rfl
 simp only [hdo, ha, hqual]
 refine wpAny_bind (wpAny_standAt (wpAny_bind (wpAny_holding (wpAny_bind (wpAny_pure (wpAny_bind (wpAny_holding (wpAny_pure (wpAny_holding (wpAny_bind (wpAny_pure ?_)))))))))))
 refine zjd I hc kc kb hfr nd T hq hone fun f H' s' I' M => wpAny_bind (wpAny_standAt (wpAny_bind (wpAny_bindName ?_)))
 exact zcy I' hN hj (.inl hx) (v := .ref f) rfl (fun s2 I2 => wpAny_pure ⟨_, H', I2, h f H' M⟩) (.inr hx)
end
def CellOf (X : Cx) (b : Addr) : Prop := ∃ x, X.env.cells.lookup x = some b
def Adopted (X : Cx) (σ : St) (H Hq : Hp) : Prop := (∀ b, ¬ CellOf X b → Hq b = H b) ∧ (∀ b, CellOf X b → H b = none) ∧ (∀ x y c, X.env.cells.lookup x = some c → X.env.cells.lookup y = some c → x = y) ∧ ∀ x c, X.env.cells.lookup x = some c → ∃ o v, Hq c = some (.frz o (.own c)) ∧ o.data = .cell v ∧
 ∀ (i : Nat) y, X.N[i]? = some x → σ[i]? = some (some y) → (X.env.kindOf x = some .cell ∨ X.env.kindOf x = some .free) → ∃ u, RelV y u ∧ v = some u
open Classical in
noncomputable def dropX (X : Cx) (H : Hp) : Hp := fun b => if CellOf X b then none else H b
def tCallA (X : Cx) (sp : Sp) (t : TA) : TE := fun σ H Q => t σ H fun vs H1 => ∀ Hq, Adopted X σ H1 Hq → sp vs Hq (fun v H2 => Q v (dropX X H2)) E0
theorem zqh {X : Cx} {k : Nat} {f : Addr} {fd : FuncData} {ps : List Str} {sp : Sp} {x : Str} {p pos : Pos} {e : Expr} {es : List Expr} {t : TA} (F : FnOk X.prog X.w X.K X.mg X.base CX0 k f fd ps sp) (hr : Room k X.A) (hg : Gl X x) (hm : X.mg x = some (.ref f)) (hk : PySem.W.keepIn X.K (.ref f) = true) (hb : Binds X.K fd ps [])
  (hfn : ∀ x, X.fn x = true) (ha : PA X (e :: es) t) (hdb : (x == ("__debug__" : Str)) = false := by decide) (he : starEach (e :: es) X.env = (false, eval e X.env) :: starEach es X.env := by rfl) (hpl : (backTo pos (starEach es X.env)).any (·.1) = false := by rfl) :
  PE X (.Call (.Name x p) (e :: es) [] pos) (tCallA X sp t) := by
 classical
 intro pins s σ H Q I h
 refine wpAny_Call_Name_kw (zje I hg hm ?_ hdb)
 refine PySem.W.callWith_K (h₀ := X.base) I.ok.mod.kin hk (thn (ha pos pins s σ H _ I h) fun us s1 ⟨vs, H1, I1, r, q⟩ => ⟨I1.kIn, ?_⟩) he hpl
 let Hq : Hp := fun b => if CellOf X b then (s1.heap.get? b).map fun o => .frz o (.own b) else H1 b
 have q1 : ∀ b, ¬ CellOf X b → Hq b = H1 b := fun b n => if_neg n
 have q2 : ∀ x c, X.env.cells.lookup x = some c → ∃ o v, s1.heap.get? c = some o ∧ o.data = .cell v ∧ Hq c = some (.frz o (.own c)) := fun x c e => by
  obtain ⟨v, o, ho, hd⟩ := I1.cell x c e
  exact ⟨o, v, ho, hd, by show (if CellOf X c then _ else _) = _; rw [if_pos ⟨x, e⟩, ho]; rfl⟩
 have tr : ∀ b u, H1 b = some u → ¬ CellOf X b := fun b u e ⟨x, z⟩ => by rw [I1.freeC x b z] at e; cases e
 have ad : Adopted X σ H1 Hq := ⟨q1, fun b ⟨x, z⟩ => I1.freeC x b z, I1.ok.inj, fun x c e => by
  obtain ⟨o, v, ho, hd, hq⟩ := q2 x c e
  refine ⟨o, v, hq, hd, fun i y e1 e2 e3 => ?_⟩
  obtain ⟨m, hn, hl⟩ := I1.loc
  obtain ⟨u, ru, l⟩ := hl i x y e1 e2 (by rcases e3 with z | z; exact .inr (.inl z); exact .inr (.inr z))
  rcases l with ⟨z, _⟩ | ⟨_, c', hc', o', ho', hd'⟩
  ·rcases e3 with y' | y' <;> (rw [z] at y'; cases y')
  ·rw [e] at hc'; cases hc'
   rw [ho] at ho'; cases ho'
   rw [hd] at hd'; cases hd'
   exact ⟨u, ru, rfl⟩⟩
 have low : ∀ b, CellOf X b → X.s₀.heap.objs.size ≤ b := fun b ⟨x, e⟩ => I1.ok.cab x b (hfn x) e
 have nfr : ∀ b ∈ frs X.stack, ¬ CellOf X b := fun b hb ⟨x, e⟩ => by
  rcases y05.mp (I1.stkSub b hb) with z | z
  ·exact I1.cne x b e z
  ·obtain ⟨_, o, ho, _⟩ := I1.ok.funs.mem z
   exact absurd (y0q (y0d ho) (low b ⟨x, e⟩)) (y27 _)
 have up : ∀ b u, H1 b = some u → Hq b = some u := fun b u e => by rw [q1 b (tr b u e)]; exact e
 have hokq : HOk X.prog X.w Hq s1.heap := fun b u e => by
  by_cases hc : CellOf X b
  ·obtain ⟨x, ex⟩ := hc
   obtain ⟨o, v, ho, hd, hq⟩ := q2 x b ex
   rw [hq] at e; cases e
   exact ⟨ho, o, ho⟩
  ·rw [q1 b hc] at e
   exact (I1.hok b u e).stay (fun _ _ _ z => z) (fun c z => up c _ z) (fun c _ _ _ _ z => up c _ z) fun c xs z => up c _ z
 have e0 := I1.env0
 have e0q : Env0 X.prog X.w X.K X.mg X.base X.A X.stack s1 Hq := ⟨e0.frames, e0.mod, fun b o e => ⟨(e0.bs b o e).1, by
  rw [q1 b fun hc => absurd (y0q (y0d e) (y10 I1.ok.bsz (low b hc))) (y27 _)]; exact (e0.bs b o e).2⟩, e0.bsz, e0.funs, fun b hb => by rw [q1 b (nfr b hb)]; exact e0.frf b hb, hokq, e0.bare⟩
 have hl : us.length = ps.length := by rw [← r.length]; exact F.len _ _ _ _ (q Hq ad)
 refine wpAny_call (codeAny_mono (F.run X.A X.stack s1 Hq ⟨us, []⟩ us vs _ E0 hr e0q (by have := hb s1 us I1.kIn (by rw [y13]; exact hl); rw [y13] at this; exact this) r (q Hq ad)) fun r s' hq => ?_)
 cases r with
 | error e => exact False.elim hq
 | ok fl =>
  cases fl with
  | next => exact False.elim hq
  | brk => exact False.elim hq
  | cont => exact False.elim hq
  | ret u =>
   obtain ⟨v, H2, os, bare, un, hok2, rv, qq⟩ := hq
   have c2 : ∀ x c, X.env.cells.lookup x = some c → ∃ o, s1.heap.get? c = some o ∧ H2 c = some (.frz o (.own c)) ∧ s'.heap.get? c = some o := fun x c e => by
    obtain ⟨o, v, ho, hd, hq⟩ := q2 x c e
    have z := un.frzs c o _ hq
    exact ⟨o, ho, z, (hok2 c _ z).1⟩
   have d1 : ∀ b, ¬ CellOf X b → dropX X H2 b = H2 b := fun b n => if_neg n
   have nmC : ∀ b o u q, CodeObj o q → H2 b = some (.frz o u) → ¬ CellOf X b := fun b o u q ⟨vs, t, hv, _⟩ e ⟨x, z⟩ => by
    obtain ⟨o', ho', z2, _⟩ := c2 x b z
    rw [z2] at e; cases e
    obtain ⟨v, o3, ho, hd⟩ := I1.cell x b z
    rw [ho'] at ho; cases ho
    rw [hv] at hd; cases hd
   have nm : ∀ b u, H2 b = some u → (∀ o a, u ≠ .frz o a) → ¬ CellOf X b := fun b u e n ⟨x, z⟩ => by
    obtain ⟨o, _, z2, _⟩ := c2 x b z
    rw [z2] at e; cases e
    exact n _ _ rfl
   refine I1.after ⟨v, dropX X H2, os, bare, ⟨fun b o e n hf hx => ?_, fun b o e n hf hx => ?_, fun b o e n hx => ?_, fun b o e hx => ?_, fun b xs e => ?_, fun b o a e => ?_, fun b qs ps e => ?_⟩, fun b u e => ?_, rv, qq⟩
   ·by_cases hc : CellOf X b
    ·obtain ⟨x, ex⟩ := hc
     obtain ⟨o', ho', _, z⟩ := c2 x b ex
     rw [e] at ho'; cases ho'
     exact z
    ·exact un.keep b o e (by rw [q1 b hc]; exact n) hf hx
   ·exact un.slot b o e (by rw [q1 b (nfr b hf)]; exact n) hf hx
   ·by_cases hc : CellOf X b
    ·exact if_pos hc
    ·rw [d1 b hc]; exact un.free b o e (by rw [q1 b hc]; exact n) hx
   ·exact un.there b o e hx
   ·rw [d1 b (tr b _ e)]; exact un.tups b xs (up b _ e)
   ·rw [d1 b (tr b _ e)]; exact un.frzs b o a (up b _ e)
   ·rw [d1 b (tr b _ e)]; exact un.tbls b qs ps (up b _ e)
   ·have hc : ¬ CellOf X b := fun hc => by
     have : dropX X H2 b = none := if_pos hc
     rw [this] at e; cases e
    rw [d1 b hc] at e
    exact (hok2 b u e).stay (fun _ _ _ z => z) (fun c z => by rw [d1 c (nm c _ z fun _ _ y => nomatch y)]; exact z) (fun c o a q co z => by rw [d1 c (nmC c o a q co z)]; exact z) fun c xs z => by rw [d1 c (nm c _ z fun _ _ y => nomatch y)]; exact z
theorem zfu {α β : Type} {R : α → β → Prop} : ∀ {xs : List α} {ys : List β}, Paired R xs ys → xs.length = ys.length
 | _, _, .nil => rfl
 | _, _, .cons _ t => by rw [y0i, y0i, zfu t]
theorem zpa {α β : Type} {R : α → β → Prop} : ∀ {xs : List α} {ys : List β} {i : Nat} {x : α} {y : β}, Paired R xs ys → xs[i]? = some x → ys[i]? = some y → R x y
 | _, _, _, _, _, .nil, e, _ => by simp at e
 | _, _, 0, _, _, .cons r _, e1, e2 => by simp at e1 e2; subst e1 e2; exact r
 | _, _, i + 1, _, _, .cons _ t, e1, e2 => zpa (i := i) t (by simpa using e1) (by simpa using e2)
theorem zjx : ∀ {ps : List Str} {us : List Value}, ps.Nodup → ((ps.zip us).map (·.1)).Nodup
 | [], _, _ => by simp
 | _ :: _, [], _ => by simp
 | p :: ps, u :: us, h => by
  rw [List.zip_cons_cons, y0k]
  refine y0y.mpr ⟨fun hm => ?_, zjx (y0y.mp h).2⟩
  obtain ⟨q, hq, e⟩ := y0m.mp hm
  have e' : q.1 = p := e
  exact (y0y.mp h).1 (e' ▸ (y25 (show (q.1, q.2) ∈ ps.zip us from hq)).1)
theorem zks {x : Str} {u : Value} : ∀ {l : List (Str × Value)}, (l.map (·.1)).Nodup → (x, u) ∈ l → l.lookup x = some u
 | [], _, h => by simp at h
 | (y, v) :: l, nd, h => by
  rw [y0k] at nd
  rw [y12]
  rcases y05.mp h with e | h
  ·cases e; simp
  ·have : (x == y) = false := by
    rw [beq_eq_false_iff_ne]
    intro z
    exact (y0y.mp nd).1 (z ▸ y0m.mpr ⟨_, h, rfl⟩)
   rw [this]
   exact zks (y0y.mp nd).2 h
theorem zpr {ps : List Str} {us : List Value} {i : Nat} {x : Str} {u : Value} (nd : ps.Nodup) (h1 : ps[i]? = some x) (h2 : us[i]? = some u) : (ps.zip us).reverse.lookup x = some u := by
 refine zks ?_ (List.mem_reverse.mpr (y0h (i := i) (y32.mpr ⟨h1, h2⟩)))
 rw [List.map_reverse]
 exact (List.reverse_perm _).nodup_iff.mpr (zjx nd)
def envL (qual : Str) (scope : Scope) (cl : T4) (L f : Addr) (cd : Value) : Env :=
 { scope := scope, locals := L, globals := mainGlobals, cells := cl, qual := qual ++ ".<locals>.", func := some f, code := cd, frame := some L, builtins := builtinsNs }
def InCl (cl : T4) (b : Addr) : Prop := ∃ x, cl.lookup x = some b
open Classical in
noncomputable def dropL (cl : T4) (H : Hp) : Hp := fun b => if InCl cl b then none else H b
open Classical in
noncomputable def mixL (cl : T4) (H H2 : Hp) : Hp := fun b => if InCl cl b then H b else H2 b
noncomputable def cxL (P : Program) (w : World) (K : Frag) (mg : T1) (base : Heap) (N : List Str) (qual : Str) (scope : Scope) (cl : T4) (f : Addr) (cd : Value) (A : Around) (outer : List Env) (s : Shared) (H : Hp) : Cx where
 prog := P
 w := w
 K := K
 mg := mg
 base := base
 A := A.deeper (envL qual scope cl s.heap.objs.size f cd)
 N := N
 s₀ := s
 H₀ := dropL cl H
 env := envL qual scope cl s.heap.objs.size f cd
 outer := outer
 stack := envL qual scope cl s.heap.objs.size f cd :: outer
 ex := []
 calm := true
 fn := fun _ => false
 pn := []
 xe := fun _ _ => False
structure CloScope (own ps cap : List Str) (sc : Scope) : Prop where
 kind : sc.kind = .function
 co : sc.isCoroutine = false
 gen : sc.isGenerator = false
 nocell : ∀ y ∈ sc.names, y.2 ≠ .cell
 pre : own.take ps.length = ps
 nd : ps.Nodup
 par : ∀ x ∈ ps, sc.names.lookup x = some .local
 cap : ∀ x ∈ cap, sc.names.lookup x = some .free
def Caps (H : Hp) (cl : T4) (cap : List Str) (cv : List V) : Prop := Paired (fun x v => ∃ c o u, cl.lookup x = some c ∧ H c = some (.frz o (.own c)) ∧ o.data = .cell (some u) ∧ RelV v u) cap cv
def stL (own : List Str) (vs cv : List V) : St := vs.map some ++ List.replicate (own.length - vs.length) none ++ cv.map some
section
variable {P : Program} {w : World} {K : Frag} {mg : T1} {base : Heap} {A : Around} {outer : List Env} {s : Shared} {H : Hp} {own ps cap : List Str} {qual : Str} {scope : Scope} {cl : T4} {f : Addr} {cd : Value} {vs cv : List V} {us : List Value}
theorem zb3 {H : Hp} (hcl : ∀ x c, cl.lookup x = some c → ∃ o v, H c = some (.frz o (.own c)) ∧ o.data = .cell v) {b : Addr} {u : HO} (e : H b = some u) (n : ∀ o a, u ≠ .frz o a) : ¬ InCl cl b := fun ⟨x, z⟩ => by
 obtain ⟨o, v, z2, _⟩ := hcl x b z
 rw [z2] at e; cases e
 exact n _ _ rfl
theorem zov {H : Hp} (hcl : ∀ x c, cl.lookup x = some c → ∃ o v, H c = some (.frz o (.own c)) ∧ o.data = .cell v) {b : Addr} {o : Obj} {a : HO} {q : Str} (co : CodeObj o q) (e : H b = some (.frz o a)) : ¬ InCl cl b := fun ⟨x, z⟩ => by
 obtain ⟨o, v, z2, z3⟩ := hcl x b z
 rw [z2] at e; cases e
 obtain ⟨vs, t, hv, _⟩ := co
 rw [hv] at z3; cases z3
theorem zog {h1 : Heap} {tk : Nat} (S : CloScope own ps cap scope) (hd : A.handled = none) (e0 : Env0 P w K mg base A outer s H) (hl : vs.length = ps.length) (hlo : ps.length ≤ own.length) (r : Vals vs us)
  (hcl : ∀ x c, cl.lookup x = some c → ∃ o v, H c = some (.frz o (.own c)) ∧ o.data = .cell v) (hfr : ∀ p ∈ scope.names, p.2 = .free → ∃ c, cl.lookup p.1 = some c) (inj : ∀ x y c, cl.lookup x = some c → cl.lookup y = some c → x = y) (hcap : Caps H cl cap cv)
  (hns : h1.Ns s.heap.objs.size (fun x => (ps.zip us).reverse.lookup x)) (hk : ∀ b o, s.heap.get? b = some o → h1.get? b = some o) :
  Inv (cxL P w K mg base (own ++ cap) qual scope cl f cd A outer s H) [] (stL own vs cv) (dropL cl H) { s with heap := h1, toks := tk } := by
 classical
 have d1 : ∀ b, ¬ InCl cl b → dropL cl H b = H b := fun b n => if_neg n
 have dn : ∀ b, H b = none → dropL cl H b = none := fun b e => by
  by_cases hc : InCl cl b
  ·exact if_pos hc
  ·rw [d1 b hc]; exact e
 have noA : ∀ b : Addr, b ∉ (cxL P w K mg base (own ++ cap) qual scope cl f cd A outer s H).ex := fun b z => absurd (show b ∈ ([] : List Addr) from z) (by simp)
 have at' : ∀ x c, cl.lookup x = some c → ∃ o v, s.heap.get? c = some o ∧ o.data = .cell v := fun x c e => by
  obtain ⟨o, v, z, zd⟩ := hcl x c e
  exact ⟨o, v, (e0.hok c _ z).1, zd⟩
 have hok0 : HOk P w (dropL cl H) s.heap := fun b u e => by
  have hc : ¬ InCl cl b := fun hc => by
   have : dropL cl H b = none := if_pos hc
   rw [this] at e; cases e
  rw [d1 b hc] at e
  exact (e0.hok b u e).stay (fun _ _ _ z => z) (fun c z => by rw [d1 c (zb3 hcl z fun _ _ y => nomatch y)]; exact z) (fun c o a q co z => by rw [d1 c (zov hcl co z)]; exact z) fun c xs z => by rw [d1 c (zb3 hcl z fun _ _ y => nomatch y)]; exact z
 refine ⟨⟨e0.mod, S.kind, rfl, rfl, y06 _, inj, fun x hx => ?_, fun x c hx => (by cases hx), fun _ => hd, Around.frames_deeper e0.frames, .inr ⟨rfl, rfl⟩, fun b z => absurd z (noA b), fun b o e => ⟨(e0.bs b o e).1, dn b (e0.bs b o e).2⟩, e0.bsz, fun b _ _ => noA b, fun b z => absurd z (noA b), e0.funs, fun b hb => dn b (e0.frf b hb)⟩,
  rfl, e0.bare, Un.kept hk, ⟨_, hns, fun i x v e1 e2 e3 => ?_⟩, fun x c e => ?_, hok0.fresh (y06 _), fun x c e => if_pos ⟨x, e⟩, fun p hp => absurd (show p ∈ ([] : T2) from hp) (by simp), hok0.kept hk, ?_⟩
 ·have hx : scope.names.lookup x = some .cell ∨ scope.names.lookup x = some .free := hx
  rcases hx with z | z
  ·exact absurd rfl (S.nocell _ (mem_of_lookup' z))
  ·exact hfr (x, .free) (mem_of_lookup' z) rfl
 ·have e1' : (own ++ cap)[i]? = some x := e1
  have e2' : (vs.map some ++ List.replicate (own.length - vs.length) none ++ cv.map some)[i]? = some (some v) := e2
  have lo : (vs.map some ++ List.replicate (own.length - vs.length) (none : Option V)).length = own.length := by rw [y0j, y01, y2t]; omega
  by_cases hi : i < own.length
  ·rw [y11 (by omega)] at e2'
   by_cases hv : i < vs.length
   ·rw [y11 (by simpa using hv), y04] at e2'
    rw [y11 hi] at e1'
    have ha : vs[i]? = some v := by
     cases q : vs[i]? with
     | none => rw [q] at e2'; cases e2'
     | some z => rw [q] at e2'; exact congrArg some (Option.some.inj (Option.some.inj e2'))
    obtain ⟨u, hu, ru⟩ := r.get ha
    have hp : ps[i]? = some x := by rw [← S.pre, y3z (by omega)]; exact e1'
    refine ⟨u, ru, .inl ⟨S.par x (y0h hp), ?_⟩⟩
    exact zpr S.nd hp hu
   ·rw [y0x (by simpa using y2h hv), y2n] at e2'
    split at e2' <;> cases e2'
  ·rw [y0x (by omega), lo, y04] at e2'
   rw [y0x (by omega)] at e1'
   have ha : cv[i - own.length]? = some v := by
    cases q : cv[i - own.length]? with
    | none => rw [q] at e2'; cases e2'
    | some z => rw [q] at e2'; exact congrArg some (Option.some.inj (Option.some.inj e2'))
   obtain ⟨c, o, u, hc, hz, hd', ru⟩ := zpa hcap e1' ha
   exact ⟨u, ru, .inr ⟨.inr (S.cap x (y0h e1')), c, hc, o, hk c o (e0.hok c _ hz).1, hd'⟩⟩
 ·obtain ⟨o, v, ho, hd'⟩ := at' x c e
  exact ⟨v, o, hk c o ho, hd'⟩
 ·have := zfu hcap
  show (vs.map some ++ List.replicate (own.length - vs.length) none ++ cv.map some).length = (own ++ cap).length
  rw [y0j, y0j, y01, y2t, y01, y0j]
  omega
theorem zjl {N : List Str} {pins : T2} {σ' : St} {H2 : Hp} {s' : Shared} {v : V} {u : Value} {Q : VK} (e0 : Env0 P w K mg base A outer s H) (hcl : ∀ x c, cl.lookup x = some c → ∃ o v, H c = some (.frz o (.own c)) ∧ o.data = .cell v)
  (J : Inv (cxL P w K mg base N qual scope cl f cd A outer s H) pins σ' H2 s') (rv : RelV v u) (q : (∀ b, InCl cl b → H2 b = none) → Q v (mixL cl H H2)) : CE outer P w H s Q u s' := by
 classical
 have d1 : ∀ b, ¬ InCl cl b → dropL cl H b = H b := fun b n => if_neg n
 have m1 : ∀ b, ¬ InCl cl b → mixL cl H H2 b = H2 b := fun b n => if_neg n
 have nc : ∀ b, H b = none → ¬ InCl cl b := fun b e ⟨x, z⟩ => by
  obtain ⟨o, v, z2, _⟩ := hcl x b z
  rw [z2] at e; cases e
 have un : Un (frs outer) [] (dropL cl H) H2 s.heap s'.heap := J.base
 have cellK : ∀ x c, cl.lookup x = some c → ∃ o, H c = some (.frz o (.own c)) ∧ s'.heap.get? c = some o ∧ H2 c = none := fun x c e => by
  obtain ⟨o, v, z, _⟩ := hcl x c e
  have ho := (e0.hok c _ z).1
  have dz : dropL cl H c = none := if_pos ⟨x, e⟩
  have nf : c ∉ frs outer := fun hb => by rw [e0.frf c hb] at z; cases z
  exact ⟨o, z, un.keep c o ho dz nf (by simp), un.free c o ho dz (by simp)⟩
 have nm : ∀ b u, H2 b = some u → ¬ InCl cl b := fun b u e ⟨x, z⟩ => by
  obtain ⟨_, _, _, z2⟩ := cellK x b z
  rw [z2] at e; cases e
 refine ⟨v, mixL cl H H2, J.os, J.bare, ⟨fun b o e n hf hx => un.keep b o e (by rw [d1 b (nc b n)]; exact n) hf hx, fun b o e n hf hx => un.slot b o e (by rw [d1 b (nc b n)]; exact n) hf hx, fun b o e n hx => by rw [m1 b (nc b n)]; exact un.free b o e (by rw [d1 b (nc b n)]; exact n) hx, un.there, fun b xs e => ?_, fun b o a e => ?_, fun b qs ps e => ?_⟩, fun b u e => ?_, rv, q fun b ⟨x, z⟩ => let ⟨_, _, _, z2⟩ := cellK x b z; z2⟩
 ·have hc := zb3 hcl e fun _ _ y => nomatch y
  rw [m1 b hc]; exact un.tups b xs (by rw [d1 b hc]; exact e)
 ·by_cases hc : InCl cl b
  ·show (if InCl cl b then H b else H2 b) = _
   rw [if_pos hc]; exact e
  ·rw [m1 b hc]; exact un.frzs b o a (by rw [d1 b hc]; exact e)
 ·have hc := zb3 hcl e fun _ _ y => nomatch y
  rw [m1 b hc]; exact un.tbls b qs ps (by rw [d1 b hc]; exact e)
 ·by_cases hc : InCl cl b
  ·have e' : H b = some u := by rw [← e]; exact (if_pos hc).symm
   obtain ⟨x, z⟩ := hc
   obtain ⟨o, z1, z2, _⟩ := cellK x b z
   rw [z1] at e'; cases e'
   exact ⟨z2, o, z2⟩
  ·rw [m1 b hc] at e
   exact (J.hok b u e).stay (fun _ _ _ z => z) (fun c z => by rw [m1 c (nm c _ z)]; exact z) (fun c _ _ _ _ z => by rw [m1 c (nm c _ z)]; exact z) fun c xs z => by rw [m1 c (nm c _ z)]; exact z
end
section
variable {prog : Program} {w : World} {A : Around} {R : Result → Shared → Prop} {s : Shared}
theorem zgv {e : Expr} {env : Env} (h : wpAny (model prog w) (A.deeper env) (eval e env) (fun v s' => R (.ok (.ret v)) s') (fun e s' => wpAny (model prog w) (A.deeper env) (leaving env e) (fun _ s'' => R (.error e) s'') (fun e' s'' => R (.error e') s'') s') s) :
  codeAny (model prog w) A (.expr e env) R s := by
 refine codeAny_of_tree ?_
 show wpAny _ (A.deeper env) (do point; ret (← (eval e env).onRaise (leaving env))) _ _ s
 exact wpAny_bind (wpAny_point (wpAny_bind (wpAny_onRaise (wpAny_mono h (fun v s' h' => wpAny_pure h') fun _ _ h' => h'))))
theorem zdb {a : Addr} {args : Args} {o : Obj} {fd : FuncData} {body : Expr} (hroom : A.depth < recursionLimit) (ho : s.heap.get? a = some o) (hd' : o.data = .func fd) (hco : fd.scope.isCoroutine = false) (hgen : fd.scope.isGenerator = false) (hbody : fd.body = .expr body) (hcd : s.heap.CodeRec fd.code fd.qualname)
  (h : wpAny (model prog w) A.in1 (bindArgs fd args) (fun binds s₁ =>
   wpAny (model prog w) A.in1 (newFunctionEnv fd.scope fd.globals fd.closure binds (fd.qualname ++ ".<locals>.") (some a) fd.code none fd.builtins)
    (fun env s₂ => s₂.heap.NoLimit ∧ codeAny (model prog w) A (.expr body env) R s₂) (fun e s' => R (.error e) s') s₁) (fun e s' => R (.error e) s') s) :
  codeAny (model prog w) A (.call (.ref a) args) R s := by
 refine codeAny_of_tree ?_
 show wpAny _ A.in1 (callAny (.ref a) args) _ _ s
 simp only [callAny]
 refine wpAny_bind (wpAny_load ho ?_)
 obtain ⟨c, oc, vs, tq, hc, hoc, hdc, hq⟩ := hcd
 simp only [hd', callFunction, hco, hgen, hbody, hc]
 rw [hc] at h
 refine wpAny_bind (m := field (.ref c) 1) (wpAny_field hoc hdc hq (wpAny_bind (wpAny_pure ?_)))
 exact wpAny_bind (wpAny_mono h (fun binds s₁ h₁ => wpAny_bind (wpAny_mono h₁ (fun env s₂ h₂ => wpAny_bind (wpAny_enterFrame h₂.1 hroom
  (wpAny_pure (And.intro rfl h₂.2)))) fun _ _ h' => h')) fun _ _ h' => h')
end
section
variable {P : Program} {w : World} {K : Frag} {mg : T1} {base : Heap} {H : Hp} {own ps cap : List Str} {name qual : Str} {params : Arguments} {scope : Scope} {cl : T4} {f c' : Addr} {oc : Obj} {ct pm : Value} {cv : List V} {k : Nat} {sp : Sp}
theorem Caps.frz {H H' : Hp} (g : Frz H H') : ∀ {cap : List Str} {cv : List V}, Caps H cl cap cv → Caps H' cl cap cv
 | _, _, .nil => .nil
 | _, _, .cons ⟨c, o, u, e1, e2, e3⟩ t => .cons ⟨c, o, u, e1, g _ _ _ e2, e3⟩ (Caps.frz g t)
theorem zrq {body : Expr} (S : CloScope own ps cap scope) (hlo : ps.length ≤ own.length) (hf : H f = some (fnO (cloFd name qual params (.expr body) scope cl ct (.ref c') pm) f)) (hcode : H c' = some (.frz oc (.own c'))) (co : CodeObj oc qual)
  (hcl : ∀ x c, cl.lookup x = some c → ∃ o v, H c = some (.frz o (.own c)) ∧ o.data = .cell v) (hfr : ∀ p ∈ scope.names, p.2 = .free → ∃ c, cl.lookup p.1 = some c) (inj : ∀ x y c, cl.lookup x = some c → cl.lookup y = some c → x = y) (hcap : Caps H cl cap cv)
  (hbind : ∀ us : List Value, us.length = ps.length → bindArgs (cloFd name qual params (.expr body) scope cl ct (.ref c') pm) ⟨us, []⟩ = pure (ps.zip us))
  (hbody : ∀ (A : Around) (outer : List Env) (s : Shared) (H' : Hp) (vs : List V) (Q : VK), Room k (A.deeper (envL qual scope cl s.heap.objs.size f (.ref c'))) → Frz H H' → vs.length = ps.length → sp vs H' Q E0 →
   ∃ t, PE (cxL P w K mg base (own ++ cap) qual scope cl f (.ref c') A outer s H') body t ∧ t (stL own vs cv) (dropL cl H') (fun v H2 => (∀ b, InCl cl b → H2 b = none) → Q v (mixL cl H' H2))) : CloH P w K mg base (k + 1) H f ps.length sp := by
 intro A outer s H' us vs Q hr e0 fz r hl hsp
 have KX : K.In s.heap := e0.mod.kin.keeps fun b o e => (e0.bs b o e).1
 have lim : s.heap.NoLimit := e0.mod.nolimit.keeps fun b o e => (e0.bs b o e).1
 have ho := (e0.hok f _ (fz _ _ _ hf)).1
 have hoc := (e0.hok c' _ (fz _ _ _ hcode)).1
 obtain ⟨ws, t', cd1, cd2⟩ := co
 have hlu : us.length = ps.length := by rw [← r.length]; exact hl
 have hcl' : ∀ x c, cl.lookup x = some c → ∃ o v, H' c = some (.frz o (.own c)) ∧ o.data = .cell v := fun x c e => let ⟨o, v, z, d⟩ := hcl x c e; ⟨o, v, fz _ _ _ z, d⟩
 refine zdb hr.depth ho rfl S.co S.gen rfl ⟨c', oc, ws, t', rfl, hoc, cd1, cd2⟩ ?_
 rw [hbind us hlu]
 refine wpAny_pure (wpAny_newFunctionEnv S.nocell (fun y hy => S.par y.1 (y25 (show (y.1, y.2) ∈ ps.zip us from hy)).1) (fun h1 hns hsb => ?_) S.kind)
 have hk : ∀ b o, s.heap.get? b = some o → h1.get? b = some o := fun b o e => hsb.extBut b o (y0l (y0d e)) (y03 _ e)
 refine ⟨lim.keeps hk, zgv ?_⟩
 obtain ⟨t, ht, hq⟩ := hbody A outer s H' vs Q (hr.deeper _) fz hl hsp
 have I := zog (qual := qual) (f := f) (cd := .ref c') (tk := s.toks + (ps.zip us).length) S hr.hd e0 hl hlo r hcl' hfr inj (hcap.frz fz) hns hk
 exact wpAny_mono (ht [] _ _ _ _ I hq) (fun u s' ⟨v, H2, J, rv, q⟩ => zjl e0 hcl' J rv q) fun _ _ z => z.elim
theorem zo8 {body : List Stmt} (S : CloScope own ps cap scope) (hlo : ps.length ≤ own.length) (hf : H f = some (fnO (cloFd name qual params (.stmts body) scope cl ct (.ref c') pm) f)) (hcode : H c' = some (.frz oc (.own c'))) (co : CodeObj oc qual)
  (hcl : ∀ x c, cl.lookup x = some c → ∃ o v, H c = some (.frz o (.own c)) ∧ o.data = .cell v) (hfr : ∀ p ∈ scope.names, p.2 = .free → ∃ c, cl.lookup p.1 = some c) (inj : ∀ x y c, cl.lookup x = some c → cl.lookup y = some c → x = y) (hcap : Caps H cl cap cv)
  (hbind : ∀ us : List Value, us.length = ps.length → bindArgs (cloFd name qual params (.stmts body) scope cl ct (.ref c') pm) ⟨us, []⟩ = pure (ps.zip us))
  (hbody : ∀ (A : Around) (outer : List Env) (s : Shared) (H' : Hp) (vs : List V) (Q : VK), Room k (A.deeper (envL qual scope cl s.heap.objs.size f (.ref c'))) → Frz H H' → vs.length = ps.length → sp vs H' Q E0 →
   ∃ t, PSs (cxL P w K mg base (own ++ cap) qual scope cl f (.ref c') A outer s H') body t ∧ t { nx := fun _ H2 => (∀ b, InCl cl b → H2 b = none) → Q .non (mixL cl H' H2), rt := fun v H2 => (∀ b, InCl cl b → H2 b = none) → Q v (mixL cl H' H2) } (stL own vs cv) (dropL cl H')) : CloH P w K mg base (k + 1) H f ps.length sp := by
 intro A outer s H' us vs Q hr e0 fz r hl hsp
 have KX : K.In s.heap := e0.mod.kin.keeps fun b o e => (e0.bs b o e).1
 have lim : s.heap.NoLimit := e0.mod.nolimit.keeps fun b o e => (e0.bs b o e).1
 have ho := (e0.hok f _ (fz _ _ _ hf)).1
 have hoc := (e0.hok c' _ (fz _ _ _ hcode)).1
 obtain ⟨ws, t', cd1, cd2⟩ := co
 have hlu : us.length = ps.length := by rw [← r.length]; exact hl
 have hcl' : ∀ x c, cl.lookup x = some c → ∃ o v, H' c = some (.frz o (.own c)) ∧ o.data = .cell v := fun x c e => let ⟨o, v, z, d⟩ := hcl x c e; ⟨o, v, fz _ _ _ z, d⟩
 refine codeAny_call_function hr.depth ho rfl S.co S.gen rfl ⟨c', oc, ws, t', rfl, hoc, cd1, cd2⟩ ?_
 rw [hbind us hlu]
 refine wpAny_pure (wpAny_newFunctionEnv S.nocell (fun y hy => S.par y.1 (y25 (show (y.1, y.2) ∈ ps.zip us from hy)).1) (fun h1 hns hsb => ?_) S.kind)
 have hk : ∀ b o, s.heap.get? b = some o → h1.get? b = some o := fun b o e => hsb.extBut b o (y0l (y0d e)) (y03 _ e)
 refine ⟨lim.keeps hk, codeAny_func ?_⟩
 obtain ⟨t, ht, hq⟩ := hbody A outer s H' vs Q (hr.deeper _) fz hl hsp
 have I := zog (qual := qual) (f := f) (cd := .ref c') (tk := s.toks + (ps.zip us).length) S hr.hd e0 hl hlo r hcl' hfr inj (hcap.frz fz) hns hk
 refine wpAny_mono (ht [] _ _ _ _ I hq) (fun fl s' hs => ?_) fun _ _ z => z.elim
 cases fl with
 | ret u =>
  obtain ⟨v, σ', H2, J, rv, q⟩ := hs
  exact zjl e0 hcl' J rv q
 | next =>
  obtain ⟨σ', H2, J, q⟩ := hs
  exact zjl (v := V.non) (u := Value.none) e0 hcl' J rfl q
 | brk =>
  obtain ⟨_, _, _, q⟩ := hs
  exact False.elim q
 | cont =>
  obtain ⟨_, _, _, q⟩ := hs
  exact False.elim q
end
structure FunC (K : Frag) (x : Str) (st : Stmt) (f : Addr) (fd : FuncData) (c : Addr) : Prop where
 ex : ∃ (oc : Value) (od : Option Addr) (kV doc pm : Value) (an : Option Addr) (ct : Value) (osl : T8),
  fd = PySem.W.fnOf x x (defArgs st) (defBody st) (defScope st) .none kV doc pm an (.ref c) ct ∧ K.lookup f = some ⟨oc, od, .func fd, osl⟩ ∧ PySem.W.codeIn K (.ref c) x = true
 kp : PySem.W.keepIn K (.ref f) = true
structure DfnC (K : Frag) (mg : T1) (x : Str) (st : Stmt) (ps : List Str) (c P : Addr) : Prop where
 ex : ∃ f fd, FunC K x st f fd c ∧ Binds K fd ps [] ∧ mg x = some (.ref f)
 code : KCode K c P
theorem kcode_mk {K : Frag} {c P : Addr} {od : Option Addr} {vs : Array Value} {sl : T8} {file : Str} {tf tg tt : Tok} {flags text : Int} {inF : Bool} (l : K.lookup c = some ⟨.type "code", od, .fields vs, sl⟩)
  (e11 : vs[11]? = some (.ref P)) (e18 : vs[18]? = some (.str file tf)) (e7 : vs[7]? = some (.int flags tg)) (e9 : vs[9]? = some (.bool inF)) (e10 : vs[10]? = some (.int text tt)) (ne : c ≠ P) : KCode K c P := by
 have g : ∀ {i : Nat} {v : Value}, vs[i]? = some v → vs.getD i .none = v := fun {i v} e => by rw [Array.getD_eq_getD_getElem?, e]; rfl
 exact ⟨_, vs, file, tf, flags, tg, inF, text, tt, l, rfl, rfl, e11, g e11, g e18, g e7, g e9, g e10, ne⟩
theorem dfnc_mk {K : Frag} {h : Heap} {mg : T1} {x : Str} {st : Stmt} {ps : List Str} {f c P : Addr} {oc : Value} {od an : Option Addr} {osl : T8} {kV doc pm ct : Value} (X : K.In h) (G : h.Ns mainGlobals mg)
  (a : PySem.W.nsIn K mainGlobals x = some (some (.ref f))) (l : K.lookup f = some ⟨oc, od, .func (PySem.W.fnOf x x (defArgs st) (defBody st) (defScope st) .none kV doc pm an (.ref c) ct), osl⟩)
  (cd : PySem.W.codeIn K (.ref c) x = true) (k : PySem.W.keepIn K (.ref f) = true) (kc : KCode K c P)
  (hb : ∀ (kV doc pm : Value) (an : Option Addr) (cdv ct : Value) (us : List Value), us.length = ps.length → bindArgs (PySem.W.fnOf x x (defArgs st) (defBody st) (defScope st) .none kV doc pm an cdv ct) ⟨us, []⟩ = pure (ps.zip us)) : DfnC K mg x st ps c P :=
 ⟨⟨f, _, ⟨⟨oc, od, kV, doc, pm, an, ct, osl, rfl, l, cd⟩, k⟩, (zk0 l cd k).binds hb, PySem.W.mg_of X G a⟩, kc⟩
section
variable {P : Program} {w : World} {K : Frag} {mg : T1} {base : Heap}
theorem DfnC.cal {x : Str} {st : Stmt} {N ps : List Str} {k : Nat} {sp : Sp} {c Pt : Addr} (d : DfnC K mg x st ps c Pt) (S : FnScope N ps (defScope st)) (len : ∀ vs H Q E, sp vs H Q E → vs.length = ps.length)
  (hbody : ∀ (f : Addr) (A : Around) (outer : List Env) (s : Shared) (H : Hp) (vs : List V) (Q : VK) (E : XK), Room k (A.deeper (envOfC x (defScope st) s.heap.objs.size f (.ref c))) → sp vs H Q E →
   ∃ t, PSs (cxOf CX0 P w K mg base N x (defScope st) f (.ref c) A outer s H E).nox (defBody st) t ∧ t { nx := fun _ H' => Q .non H', rt := Q } (start N vs) H) : Cal P w K mg base (k + 1) x ps sp := by
 obtain ⟨f, fd, F, b, m⟩ := d.ex
 obtain ⟨oc, od, kV, doc, pm, an, ct, osl, rfl, lk, hcd⟩ := F.ex
 refine ⟨f, _, fn_of lk hcd S len fun A outer s H vs Q E hr hsp => ?_, b, F.kp, m⟩
 obtain ⟨t, h, q⟩ := hbody f A outer s H vs Q E hr hsp
 exact ⟨t, h.nox, q⟩
end
def TabFor (q : Program) (K : Frag) (mg : T1) (b : Addr) : Prop := ∃ d ∈ recsOf q, ∃ f oc od fd osl c, mg d.name = some (.ref f) ∧ K.lookup f = some ⟨oc, od, .func fd, osl⟩ ∧ fd.code = .ref c ∧ KCode K c b
theorem DfnC.tab {q : Program} {K : Frag} {mg : T1} {x : Str} {st : Stmt} {ps : List Str} {c b : Addr} (d : DfnC K mg x st ps c b) (hx : ((recsOf q).any fun r => r.name == x) = true) : TabFor q K mg b := by
 obtain ⟨r, hr, e⟩ := y20.mp hx
 obtain ⟨f, fd, F, _, m⟩ := d.ex
 obtain ⟨oc, od, kV, doc, pm, an, ct, osl, rfl, lk, hcd⟩ := F.ex
 exact ⟨r, hr, f, oc, od, _, osl, c, by rw [beq_iff_eq.mp e]; exact m, lk, rfl, d.code⟩
def TabsOf (q : Program) (mg : T1) (h : Heap) : Prop := ∀ d ∈ recsOf q, ∃ a o fd c P, mg d.name = some (.ref a) ∧ h.get? a = some o ∧ o.data = .func fd ∧ fd.code = .ref c ∧ h.IsCode c P #[] ∧ h.TableAt c P #[]
theorem TabFor.at {q : Program} {K : Frag} {mg : T1} {h : Heap} {b : Addr} (t : TabFor q K mg b) (X : K.In h) (T : TabsOf q mg h) : ∃ c, h.TableAt c b #[] := by
 obtain ⟨d, hd, f, oc, od, fd, osl, c, m, lk, ec, kc⟩ := t
 obtain ⟨a, o, fd', c', P', m', ho, hf, hc, _, ta⟩ := T d hd
 rw [m] at m'; cases m'
 rw [X f _ lk] at ho; cases ho
 cases hf
 rw [ec] at hc; cases hc
 obtain ⟨o, vs, _, _, _, _, _, _, _, lk', _, hd', h11, _⟩ := kc
 obtain ⟨⟨o2, vs2, e1, e2, e3, e4⟩, e5⟩ := id ta
 rw [X c o lk'] at e1; cases e1
 rw [hd'] at e3; cases e3
 rw [h11] at e4; cases e4
 exact ⟨c, ta⟩
def OnlyT (ts : List (Addr × List (Pos × Str))) (H : Hp) : Prop := (∀ b, H b = none ∨ (∃ o xs, H b = some (.frz o (.lst xs))) ∨ ∃ qs, ts.lookup b = some qs ∧ H b = some (.tbl qs #[])) ∧ ∀ b qs, ts.lookup b = some qs → H b = some (.tbl qs #[])
theorem OnlyT.tab {ts : List (Addr × List (Pos × Str))} {H : Hp} (h : OnlyT ts H) {b : Addr} {qs : T3} (e : ts.lookup b = some qs) : TabOk H b qs := ⟨#[], h.2 b qs e⟩
theorem zn8 {P : Program} {w : World} {K : Frag} {mg mb : T1} {CX : CXT} {k : Nat} {fa a : Addr} {fd : FuncData} {x : Str} {sp : Sp} {s₁ : Shared} {vs : List Value} {ns : List Int} {ts : List (Addr × List (Pos × Str))}
  (KX : K.In s₁.heap) (hns : s₁.heap.Ns mainGlobals mg) (hb : s₁.heap.Ns builtinsNs mb) (hbb : ∀ x : Str, x ≠ "__name__" → mb x = bootBuiltins x) (hlim : s₁.heap.NoLimit) (hg : s₁.gens = #[])
  (ha : s₁.heap.get? a = some { cls := .type "list", data := .seq vs.toArray }) (hi : IntsAre vs ns) (hl : ns.length ≤ sizeLine) (hr : Room k callerA)
  (hbm : BltK s₁.heap mg) (hts : ∀ b qs, ts.lookup b = some qs → ∃ c, s₁.heap.TableAt c b #[]) (hKt : ∀ b qs, ts.lookup b = some qs → K.lookup b = none)
  (F : ∀ base : Heap, K.In base → base.Ns mainGlobals mg → BltK base mg → FnOk P w K mg base CX k fa fd [x] sp) (hbind : ∀ (s : Shared) (u : Value), BindsTo s fd ⟨[u], []⟩ [(x, u)])
  (hsp : ∀ H : Hp, OnlyT ts H → SqL K H a (ns.map V.int) → sp [.ref a] H (fun v _ => v = .bl true) fun _ _ _ => False)
  (hCX : ∀ H e s', CX [] H s₁ (fun _ _ _ => False) e s' → False) :
  codeAny (model P w) callerA (.call (.ref fa) ⟨[.ref a], []⟩) (fun r s' => r = .ok (.ret (.bool true)) ∧ OldK s₁.heap s'.heap ∧ s'.os = s₁.os ∧ AllBare s'.gens) s₁ := by
 have rv := zg4 hi
 have lenV := hi.length
 have core : ∀ H : Hp, OnlyT ts H → SqL K H a (ns.map V.int) → HOk P w H s₁.heap → (∀ b, H b ≠ none → b = a ∨ ∃ qs, ts.lookup b = some qs) → (H a ≠ none → K.lookup a = none) →
   codeAny (model P w) callerA (.call (.ref fa) ⟨[.ref a], []⟩) (fun r s' => r = .ok (.ret (.bool true)) ∧ OldK s₁.heap s'.heap ∧ s'.os = s₁.os ∧ AllBare s'.gens) s₁ := by
  intro H hO hS hok hA hK
  have base_of : ∀ {b : Addr} {o : Obj}, s₁.heap.get? b = some o → H b = none → (hidT s₁.heap H).get? b = some o := fun e n => zra e n
  have noT : ∀ {b : Addr} {o : Obj}, s₁.heap.get? b = some o → (∀ q n, o.data ≠ .seq q n) → (∀ ps, o.data ≠ .fields ps ∨ o.cls ≠ .none) → H b = none := fun {b o} e n1 n2 => by
   cases q : H b with
   | none => rfl
   | some u =>
    rcases hA b (by rw [q]; simp) with e' | ⟨qs, e'⟩
    ·subst e'
     rw [ha] at e; cases e
     exact absurd rfl (n1 _ _)
    ·obtain ⟨c, _, e5⟩ := hts b qs e'
     rw [e5] at e; cases e
     rcases n2 #[] with z | z
     ·exact absurd rfl z
     ·exact absurd rfl z
  have noA : ∀ {b : Addr} {o : Obj} {es : Array DictEntry} {ep : Nat}, s₁.heap.get? b = some o → o.data = .dict es ep → H b = none := fun {b o es ep} e d => noT e (fun q n z => by rw [d] at z; cases z) fun ps => .inl fun z => by rw [d] at z; cases z
  have nsK : ∀ {b : Addr} {m : T1}, s₁.heap.Ns b m → (hidT s₁.heap H).Ns b m := fun {b m} ⟨o, es, ep, e, d, r⟩ => ⟨o, es, ep, base_of e (noA e d), d, r⟩
  have hKb : K.In (hidT s₁.heap H) := fun b o e => base_of (KX b o e) (by
   cases q : H b with
   | none => rfl
   | some u =>
    rcases hA b (by rw [q]; simp) with e' | ⟨qs, e'⟩
    ·subst e'
     rw [hK (by rw [q]; simp)] at e; cases e
    ·rw [hKt b qs e'] at e; cases e)
  have hBb : BltK (hidT s₁.heap H) mg := by
   obtain ⟨bm, o, b1, b2, b3, b4, b5, b6⟩ := hbm
   exact ⟨bm, o, b1, b2, base_of b3 (noT b3 (fun q n z => by rw [b6] at z; cases z) fun ps => .inl fun z => by rw [b6] at z; cases z), b4, b5, b6⟩
  have hM : Mod K mg (hidT s₁.heap H) := ⟨hKb, nsK hns, ⟨mb, nsK hb, hbb⟩, let ⟨mc, h1, h2⟩ := hlim; ⟨mc, nsK h1, h2⟩⟩
  have e0 : Env0 P w K mg (hidT s₁.heap H) callerA [] s₁ H := ⟨rfl, hM, fun b o e => ztl e, y42 (zoh _ _), trivial, fun b hb => absurd (show b ∈ ([] : List Addr) from hb) (by simp), hok, .of_eq hg⟩
  refine codeAny_mono ((F _ hKb (nsK hns) hBb).run callerA [] s₁ H ⟨[.ref a], []⟩ [.ref a] [.ref a] _ _ hr e0 (hbind s₁ (.ref a)) (.cons rfl .nil) (hsp H hO hS)) fun r s' h => ?_
  cases r with
  | error e => exact (hCX H e s' h).elim
  | ok fl =>
   cases fl with
   | next => exact False.elim h
   | brk => exact False.elim h
   | cont => exact False.elim h
   | ret u =>
    obtain ⟨v, H', os, bare, un, hok', r', q⟩ := h
    have q' : v = .bl true := q
    subst q'
    obtain rfl : u = Value.bool true := r'
    have was : ∀ b o, s₁.heap.get? b = some o → asItWas s₁.heap s'.heap b o := fun b o e => by
     rcases hO.1 b with z | ⟨ob, xs, z⟩ | ⟨qs, l, z⟩
     ·exact .inl (un.keep b o e z (by intro z; exact absurd (show b ∈ ([] : List Addr) from z) (by simp)) (by simp))
     ·have z2 := un.frzs b ob _ z
      obtain ⟨e1, _⟩ := hok b _ z
      obtain ⟨e2, _⟩ := hok' b _ z2
      rw [e] at e1; cases e1
      exact .inl e2
     ·have z2 := un.tbls b qs _ z
      obtain ⟨more, e2, _⟩ := hok' b _ z2
      obtain ⟨c, ta⟩ := hts b qs l
      have e5 := ta.2
      rw [e5] at e; cases e
      exact .inr (.inl ⟨ta.isCodeTable, rfl, #[], more, rfl, e2⟩)
    exact ⟨rfl, ⟨was, fun b o e => un.there b o e (by simp)⟩, os, bare⟩
 have neA : ∀ qs, ts.lookup a = some qs → False := fun qs e => by
  obtain ⟨c, _, e5⟩ := hts a qs e
  rw [e5] at ha; cases ha
 have tabOk : ∀ (H : Hp) b qs, ts.lookup b = some qs → ObjOk P w H s₁.heap b (.tbl qs #[]) := fun H b qs e => by
  obtain ⟨c, _, e5⟩ := hts b qs e
  exact ⟨#[], by simpa using e5, trivial, fun p hp v z => by simp [codeAmong] at z⟩
 let HT : Hp := fun b => (ts.lookup b).map fun qs => .tbl qs #[]
 have hT1 : ∀ b qs, ts.lookup b = some qs → HT b = some (.tbl qs #[]) := fun b qs e => by show (ts.lookup b).map _ = _; rw [e]; rfl
 have hT2 : ∀ b, ts.lookup b = none → HT b = none := fun b e => by show (ts.lookup b).map _ = _; rw [e]; rfl
 cases hk : K.lookup a with
 | some o =>
  have e := KX a o hk
  rw [ha] at e
  cases e
  refine core HT ⟨fun b => ?_, hT1⟩ (.inr ⟨_, vs.toArray, _, hk, rfl, rfl, rfl, by rw [y07, lenV]; exact hl, by simpa using rv⟩) (fun b u z => ?_) (fun b z => ?_) fun z => ?_
  ·cases e : ts.lookup b with
   | none => exact .inl (hT2 b e)
   | some qs => exact .inr (.inr ⟨qs, rfl, hT1 b qs e⟩)
  ·cases e : ts.lookup b with
   | none => rw [hT2 b e] at z; cases z
   | some qs => rw [hT1 b qs e] at z; cases z; exact tabOk _ b qs e
  ·cases e : ts.lookup b with
   | none => exact absurd (hT2 b e) z
   | some qs => exact .inr ⟨qs, rfl⟩
  ·cases e : ts.lookup a with
   | none => exact absurd (hT2 a e) z
   | some qs => exact (neA qs e).elim
 | none =>
  let H1 : Hp := fun b => if b = a then some (.frz { cls := .type "list", data := .seq vs.toArray } (.lst (ns.map V.int))) else HT b
  have h1a : H1 a = some (.frz { cls := .type "list", data := .seq vs.toArray } (.lst (ns.map V.int))) := if_pos rfl
  have h1b : ∀ b, b ≠ a → H1 b = HT b := fun b e => if_neg e
  refine core H1 ⟨fun b => ?_, fun b qs e => ?_⟩ (.inl (.inr ⟨{ cls := .type "list", data := .seq vs.toArray }, h1a⟩)) (fun b u z => ?_) (fun b z => ?_) fun _ => hk
  ·by_cases hb : b = a
   ·subst hb; exact .inr (.inl ⟨_, _, h1a⟩)
   ·rw [h1b b hb]
    cases e : ts.lookup b with
    | none => exact .inl (hT2 b e)
    | some qs => exact .inr (.inr ⟨qs, rfl, hT1 b qs e⟩)
  ·rw [h1b b fun z => neA qs (z ▸ e)]; exact hT1 b qs e
  ·by_cases hb : b = a
   ·subst hb
    rw [h1a] at z; cases z
    exact ⟨ha, by rw [y01]; exact hl, vs, _, rv, ha⟩
   ·rw [h1b b hb] at z
    cases e : ts.lookup b with
    | none => rw [hT2 b e] at z; cases z
    | some qs => rw [hT1 b qs e] at z; cases z; exact tabOk _ b qs e
  ·by_cases hb : b = a
   ·exact .inl hb
   ·rw [h1b b hb] at z
    cases e : ts.lookup b with
    | none => exact absurd (hT2 b e) z
    | some qs => exact .inr ⟨qs, rfl⟩
theorem walk_ofT {l : PySem.W.OpenLaw} {n k : Nat} {q : Program} {loose : List Str} {XP : (Str → Option Value) → Heap → Prop} {YP : World → Heap → Prop} {d : DefRec} {K : Params → Frag} {CX : CXT} {sp : Frag → List (Addr × List (Pos × Str)) → Sp} {x : Str}
  (hn : l.most = some n) (hn2 : n ≤ sizeLine) (hdf : d.params.defaults = []) (hr : Room k callerA)
  (hY : ∀ (w : World) (h : Heap), YP w h → (K w.params).In h)
  (F : ∀ (w : World) (mg : T1) (fa : Addr) (h : Heap), (K w.params).In h → h.Ns mainGlobals mg → mg d.name = some (.ref fa) →
   ∃ (fd : FuncData) (ts : List (Addr × List (Pos × Str))), (∀ (s : Shared) (u : Value), BindsTo s fd ⟨[u], []⟩ [(x, u)]) ∧ (∀ b qs, ts.lookup b = some qs → TabFor q (K w.params) mg b ∧ (K w.params).lookup b = none) ∧
    ∀ base : Heap, (K w.params).In base → base.Ns mainGlobals mg → BltK base mg → FnOk l.prog w (K w.params) mg base CX k fa fd [x] (sp (K w.params) ts))
  (hsp : ∀ (K : Frag) (ts : List (Addr × List (Pos × Str))) (H : Hp) (a : Addr) (ns : List Int), ns.length ≤ n → OnlyT ts H → SqL K H a (ns.map V.int) → sp K ts [.ref a] H (fun v _ => v = .bl true) fun _ _ _ => False)
  (hCX : ∀ (H : Hp) (s : Shared) (e : Value) (s' : Shared), CX [] H s (fun _ _ _ => False) e s' → False) :
  PySem.W.WalkO q loose XP YP l.row.toRowW d [] (fun f vs => PySem.call f vs) := by
 refine Att.attach_call hn hdf fun w s₀ s₁ mg mb fa o pm cd doc a vs ns G Y ho hd hcd hmg hobj hints hlen hg => ?_
 have KX := hY w _ Y
 obtain ⟨fd, ts, hb, ht, hF⟩ := F w mg fa _ KX G.T.g hmg
 exact zn8 KX G.T.g G.T.b G.T.builtins G.T.nolimit hg hobj hints (y10 hlen hn2) hr G.T.bmain (fun b qs e => (ht b qs e).1.at KX G.T.tab) (fun b qs e => (ht b qs e).2) hF hb (fun H hO hS => hsp (K w.params) ts H a ns hlen hO hS) fun H e s' => hCX H s₁ e s'
theorem zr5 : ∀ {ts : List (Addr × List (Pos × Str))} {b : Addr} {qs : T3}, ts.lookup b = some qs → (b, qs) ∈ ts
 | [], _, _, e => by simp at e
 | (a, q) :: ts, b, qs, e => by
  rw [y12] at e
  split at e
  ·rename_i z
   cases e
   rw [show b = a from beq_iff_eq.mp z]; exact y0c
  ·exact y09 _ (zr5 e)
theorem ts_all {ts : List (Addr × List (Pos × Str))} {R : Addr → Prop} (h : ∀ p ∈ ts, R p.1) : ∀ b qs, ts.lookup b = some qs → R b := fun b qs e => h (b, qs) (zr5 e)
theorem zew {X : Cx} {n k : Nat} {x : Str} {ps : List Str} {sp : Sp} {p pos : Pos} {e : Expr} {es : List Expr} {t : TA} (C : Cal X.prog X.w X.K X.mg X.base n x ps sp) (hr : Room k X.A) (hle : n ≤ k) (hg : Gl X x) (hfn : ∀ x, X.fn x = true) (ha : PA X (e :: es) t) (hdb : (x == ("__debug__" : Str)) = false := by decide)
  (h1 : notStar e = true := by rfl) (h2 : es.all notStar = true := by rfl) : PE X (.Call (.Name x p) (e :: es) [] pos) (tCallA X sp t) := by
 obtain ⟨f, fd, F, b, kp, m⟩ := C.ex
 exact zqh F (hr.mono hle) hg m kp b hfn ha hdb (zay h1) (zbr h2)
theorem znc {X : Cx} {x : Str} (i k n : Nat) (sp : Sp) {m : Nat} {p pos : Pos} {e : Expr} {es : List Expr} {t : TA} (hr : Room m X.A) (hle : k ≤ m) (ha : PA X (e :: es) t) (hN : X.N[i]? = some x := by rfl) (hv : Vis X.env.scope x := by first | exact Or.inl rfl | exact Or.inr (Or.inl rfl) | exact Or.inr (Or.inr rfl))
  (hd : (x == ("__debug__" : Str)) = false := by decide) (hcd : (x == ("__classdict__" : Str)) = false := by decide) (h1 : notStar e = true := by rfl) (h2 : es.all notStar = true := by rfl) :
  PE X (.Call (.Name x p) (e :: es) [] pos) (tCallV X.prog X.w X.K X.mg X.base k n sp i t) := zqe hN hv (hr.mono hle) ha hd hcd (zay h1) (zbr h2)
def freeOk (env : Env) (sc : Scope) : Bool := sc.names.all fun p => p.2 != .free || (env.kindOf p.1 == some .cell || env.kindOf p.1 == some .free)
theorem freeOk.of {env : Env} {sc : Scope} (h : freeOk env sc = true) : ∀ p ∈ sc.names, p.2 = .free → env.kindOf p.1 = some .cell ∨ env.kindOf p.1 = some .free := fun p hp e => by
 have q := y0p.mp h p hp
 rw [e] at q
 simpa using q
def oneOk (qs : T3) (pos : Pos) (qual : Str) : Bool := qs.any (fun p => p.1.line == pos.line && p.1.col == pos.col && p.1.endLine == pos.endLine && p.1.endCol == pos.endCol && p.2 == qual) && qs.all fun p => p.1.line != pos.line || p.1.col != pos.col || p.2 == qual
theorem oneOk.one {qs : T3} {pos : Pos} {qual : Str} (h : oneOk qs pos qual = true) : ∀ p ∈ qs, p.1.line = pos.line → p.1.col = pos.col → p.2 = qual := fun p hp e1 e2 => by
 have q := y0p.mp (y08 _ _ ▸ h : _ ∧ _).2 p hp
 rw [e1, e2] at q
 simpa using q
theorem oneOk.mem {qs : T3} {pos : Pos} {qual : Str} (h : oneOk qs pos qual = true) : (pos, qual) ∈ qs := by
 obtain ⟨p, hp, e⟩ := y20.mp (y08 _ _ ▸ h : _ ∧ _).1
 simp only [y08, beq_iff_eq] at e
 obtain ⟨⟨⟨⟨e1, e2⟩, e3⟩, e4⟩, e5⟩ := e
 have : p = (pos, qual) := by
  obtain ⟨⟨a, b, c, d⟩, z⟩ := p
  obtain ⟨a', b', c', d'⟩ := pos
  simp only at e1 e2 e3 e4 e5
  subst e1 e2 e3 e4 e5
  rfl
 rw [← this]; exact hp
section
variable {X : Cx} {c P : Addr} {qs : T3} {pos : Pos} {params : Arguments} {scope : Scope}
theorem zm9 (qual : Str) {body : Expr} (hc : X.env.code = .ref c) (kc : KCode X.K c P) (kb : BltK X.base X.mg) (hfr : freeOk X.env scope = true) (hq : oneOk qs pos qual = true) (hd : params.defaults = [] := by rfl) (hk : params.kw_defaults = [] := by rfl) (hqual : X.env.qual ++ "<lambda>" = qual := by rfl) :
  PE X (.Lambda params body scope pos) (tLam X P qs "<lambda>" qual params (.expr body) scope) := zm8 hc kc kb (freeOk.of hfr) (oneOk.mem hq) (oneOk.one hq) hd hk hqual
theorem ps_dfn (qual : Str) {name : Str} {j : Nat} {body : List Stmt} (hc : X.env.code = .ref c) (kc : KCode X.K c P) (kb : BltK X.base X.mg) (hfr : freeOk X.env scope = true) (hq : oneOk qs pos qual = true) (hN : X.N.Nodup) (hj : X.N[j]? = some name) (hx : X.env.scope.names.lookup name = some .local) (nd : docOf body = none := by rfl)
  (hd : params.defaults = [] := by rfl) (hk : params.kw_defaults = [] := by rfl) (ha : ∀ e, annTrees params none e = [] := by intro e; rfl) (hqual : qualnameIn X.env name name = qual := by rfl) :
  PS X (.FunctionDef name params body [] none [] scope none name pos) (tDef X P qs name qual params (.stmts body) scope j) := zs1 hc kc kb (freeOk.of hfr) nd (oneOk.mem hq) (oneOk.one hq) hd hk ha hqual hN hj hx
end
open Classical
theorem Adopted.same {X : Cx} {σ : St} {H1 Hq H2 : Hp} (ad : Adopted X σ H1 Hq) (g : Same Hq H2) : Same H1 (dropX X H2) := fun b u e => by
 have hc : ¬ CellOf X b := fun hc => by rw [ad.2.1 b hc] at e; cases e
 show (if CellOf X b then none else H2 b) = some u
 rw [if_neg hc]
 exact g b u (by rw [ad.1 b hc]; exact e)
theorem Adopted.up {X : Cx} {σ : St} {H1 Hq : Hp} (ad : Adopted X σ H1 Hq) : Same H1 Hq := fun b u e => by
 have hc : ¬ CellOf X b := fun hc => by rw [ad.2.1 b hc] at e; cases e
 rw [ad.1 b hc]; exact e
theorem Adopted.keep {X : Cx} {σ : St} {H1 Hq H2 : Hp} (ad : Adopted X σ H1 Hq) (g : Same Hq H2) {b : Addr} {u : HO} (e : H2 b = some u) (n : ∀ o a, u ≠ .frz o a) : dropX X H2 b = some u := by
 have hc : ¬ CellOf X b := fun ⟨x, z⟩ => by
  obtain ⟨o, v, h1, _⟩ := ad.2.2.2 x b z
  rw [g _ _ h1] at e; cases e
  exact n _ _ rfl
 show (if CellOf X b then none else H2 b) = some u
 rw [if_neg hc]; exact e
def SameN (H H' : Hp) : Prop := ∀ b u, H b = some u → (∀ o a, u ≠ .frz o a) → H' b = some u
section
variable {cl : T4} {H : Hp}
def ClOk (cl : T4) (H : Hp) : Prop := ∀ x c, cl.lookup x = some c → ∃ o v, H c = some (.frz o (.own c)) ∧ o.data = .cell v
theorem ClOk.n (hcl : ClOk cl H) : SameN H (dropL cl H) := fun b u e n => by
 show (if InCl cl b then none else H b) = some u
 rw [if_neg (zb3 hcl e n)]; exact e
theorem ClOk.tab (hcl : ClOk cl H) {P : Addr} {qs : T3} (T : TabOk H P qs) : TabOk (dropL cl H) P qs := let ⟨ps, e⟩ := T; ⟨ps, hcl.n _ _ e fun _ _ z => nomatch z⟩
theorem ClOk.fn (hcl : ClOk cl H) {f : Addr} {fd : FuncData} (e : H f = some (fnO fd f)) : dropL cl H f = some (fnO fd f) := by
 have nc : ¬ InCl cl f := fun ⟨x, z⟩ => by
  obtain ⟨o, v, z2, z3⟩ := hcl x f z
  rw [z2] at e; cases e
  cases z3
 exact (if_neg nc).trans e
theorem zc4 {H2 : Hp} (g : Same (dropL cl H) H2) : Same H (mixL cl H H2) := fun b u e => by
 show (if InCl cl b then H b else H2 b) = some u
 by_cases hc : InCl cl b
 ·rw [if_pos hc]; exact e
 ·rw [if_neg hc]
  exact g b u (by show (if InCl cl b then none else H b) = some u; rw [if_neg hc]; exact e)
theorem zkp {H2 : Hp} (g : ∀ b, InCl cl b → H2 b = none) : Same H2 (mixL cl H H2) := fun b u e => by
 show (if InCl cl b then H b else H2 b) = some u
 rw [if_neg fun hc => by rw [g b hc] at e; cases e]; exact e
end
def CapAt (X : Cx) (σ : St) (cap : List Str) (cv : List V) : Prop := Paired (fun x v => ∃ i : Nat, X.N[i]? = some x ∧ σ[i]? = some (some v) ∧ (X.env.kindOf x = some .cell ∨ X.env.kindOf x = some .free)) cap cv
theorem zjp {X : Cx} {σ : St} {H1 Hq : Hp} (ad : Adopted X σ H1 Hq) {cl : T4} (h1 : ∀ x c, cl.lookup x = some c → X.env.cells.lookup x = some c) : ∀ {cap : List Str} {cv : List V}, (∀ x ∈ cap, ∃ c, cl.lookup x = some c) → CapAt X σ cap cv → Caps Hq cl cap cv
 | _, _, _, .nil => .nil
 | x :: _, _ :: _, hc, .cons ⟨i, e1, e2, e3⟩ t => by
  obtain ⟨c, lc⟩ := hc x y0c
  obtain ⟨o, v, z1, z2, z3⟩ := ad.2.2.2 x c (h1 x c lc)
  obtain ⟨u, ru, rfl⟩ := z3 i _ e1 e2 e3
  exact .cons ⟨c, o, u, lc, z1, z2, ru⟩ (zjp ad h1 (fun y hy => hc y (y09 _ hy)) t)
section
variable {X : Cx} {H H1 H1' Hq : Hp} {σ : St} {name qual : Str} {params : Arguments} {scope : Scope} {f : Addr} {own ps cap : List Str} {cv : List V} {k : Nat} {sp : Sp}
theorem Made.fn {body : FuncBody} (M : Made X H H1 name qual params body scope f) : ∃ fd, H1 f = some (fnO fd f) := by
 obtain ⟨cl, ct, c', oc, pm, _, _, _, _, h⟩ := M.ex
 exact ⟨_, h⟩
theorem zk1 {cl : T4} {H' : Hp} (ad : Adopted X σ H1' Hq) (l1 : ∀ x c, cl.lookup x = some c → X.env.cells.lookup x = some c) (fz : Frz Hq H') : Frz H1' (dropL cl H') := fun b o u e => by
 have nc : ¬ InCl cl b := fun ⟨x, z⟩ => by rw [ad.2.1 b ⟨x, l1 x b z⟩] at e; cases e
 show (if InCl cl b then none else H' b) = _
 rw [if_neg nc]
 exact fz _ _ _ (ad.up _ _ e)
theorem Made.clo_e {body : Expr} (M : Made X H H1 name qual params (.expr body) scope f) (g : Same H1 H1') (ad : Adopted X σ H1' Hq) (S : CloScope own ps cap scope) (hlo : ps.length ≤ own.length) (hcap : CapAt X σ cap cv)
  (hbind : ∀ (cl : T4) (ct cd pm : Value) (us : List Value), us.length = ps.length → bindArgs (cloFd name qual params (.expr body) scope cl ct cd pm) ⟨us, []⟩ = pure (ps.zip us))
  (hbody : ∀ (cl : T4) (c' : Addr) (A : Around) (outer : List Env) (s : Shared) (H' : Hp) (vs : List V) (Q : VK), Room k (A.deeper (envL qual scope cl s.heap.objs.size f (.ref c'))) → ClOk cl H' → Frz Hq H' → Frz H1' (dropL cl H') → vs.length = ps.length → sp vs H' Q E0 →
   ∃ t, PE (cxL X.prog X.w X.K X.mg X.base (own ++ cap) qual scope cl f (.ref c') A outer s H') body t ∧ t (stL own vs cv) (dropL cl H') (fun v H2 => (∀ b, InCl cl b → H2 b = none) → Q v (mixL cl H' H2))) : CloH X.prog X.w X.K X.mg X.base (k + 1) Hq f ps.length sp := by
 obtain ⟨cl, ct, c', oc, pm, l1, l2, l3, l4, l5⟩ := M.ex
 have hcl : ClOk cl Hq := fun x c e => let ⟨o, v, z1, z2, _⟩ := ad.2.2.2 x c (l1 x c e); ⟨o, v, z1, z2⟩
 have up := ad.up
 refine zrq S hlo (up _ _ (g _ _ l5)) (up _ _ (g _ _ l3)) l4 hcl l2 (fun x y c e1 e2 => ad.2.2.1 x y c (l1 x c e1) (l1 y c e2)) (zjp ad l1 (fun x hx => l2 (x, .free) (mem_of_lookup' (S.cap x hx)) rfl) hcap) (hbind cl ct _ pm) fun A outer s H' vs Q hr fz hl hsp => ?_
 exact hbody cl c' A outer s H' vs Q hr (fun x c e => let ⟨o, v, z, d⟩ := hcl x c e; ⟨o, v, fz _ _ _ z, d⟩) fz (zk1 ad l1 fz) hl hsp
theorem Made.clo_s {body : List Stmt} (M : Made X H H1 name qual params (.stmts body) scope f) (g : Same H1 H1') (ad : Adopted X σ H1' Hq) (S : CloScope own ps cap scope) (hlo : ps.length ≤ own.length) (hcap : CapAt X σ cap cv)
  (hbind : ∀ (cl : T4) (ct cd pm : Value) (us : List Value), us.length = ps.length → bindArgs (cloFd name qual params (.stmts body) scope cl ct cd pm) ⟨us, []⟩ = pure (ps.zip us))
  (hbody : ∀ (cl : T4) (c' : Addr) (A : Around) (outer : List Env) (s : Shared) (H' : Hp) (vs : List V) (Q : VK), Room k (A.deeper (envL qual scope cl s.heap.objs.size f (.ref c'))) → ClOk cl H' → Frz Hq H' → Frz H1' (dropL cl H') → vs.length = ps.length → sp vs H' Q E0 →
   ∃ t, PSs (cxL X.prog X.w X.K X.mg X.base (own ++ cap) qual scope cl f (.ref c') A outer s H') body t ∧ t { nx := fun _ H2 => (∀ b, InCl cl b → H2 b = none) → Q .non (mixL cl H' H2), rt := fun v H2 => (∀ b, InCl cl b → H2 b = none) → Q v (mixL cl H' H2) } (stL own vs cv) (dropL cl H')) : CloH X.prog X.w X.K X.mg X.base (k + 1) Hq f ps.length sp := by
 obtain ⟨cl, ct, c', oc, pm, l1, l2, l3, l4, l5⟩ := M.ex
 have hcl : ClOk cl Hq := fun x c e => let ⟨o, v, z1, z2, _⟩ := ad.2.2.2 x c (l1 x c e); ⟨o, v, z1, z2⟩
 have up := ad.up
 refine zo8 S hlo (up _ _ (g _ _ l5)) (up _ _ (g _ _ l3)) l4 hcl l2 (fun x y c e1 e2 => ad.2.2.1 x y c (l1 x c e1) (l1 y c e2)) (zjp ad l1 (fun x hx => l2 (x, .free) (mem_of_lookup' (S.cap x hx)) rfl) hcap) (hbind cl ct _ pm) fun A outer s H' vs Q hr fz hl hsp => ?_
 exact hbody cl c' A outer s H' vs Q hr (fun x c e => let ⟨o, v, z, d⟩ := hcl x c e; ⟨o, v, fz _ _ _ z, d⟩) fz (zk1 ad l1 fz) hl hsp
end
end L2
namespace SM
open PySem PySem.Spec PyProof.Rows L2 SS
theorem SameN.tups {H H' : Hp} (g : SameN H H') : TupS H H' := fun b xs e => g b _ e fun _ _ z => nomatch z
theorem zsx {t : TE} {Q : VK} {H : Hp} {σ : L2.St} (σ' : L2.St) (e : σ = σ') (h : t σ' H Q) : t σ H Q := by rw [e]; exact h
theorem zh6 {cl : T4} {H H2 : Hp} {D : Addr} {u : HO} (h : dropL cl H D = none) (e : H2 D = some u) (n : ∀ b, InCl cl b → H2 b = none) : H D = none := by
 classical
 have nc : ¬ InCl cl D := fun z => by rw [n D z] at e; cases e
 unfold dropL at h
 rw [if_neg nc] at h; exact h
def zgb (R : Hp → Prop) (J : List Nat → Prop) (Nx : List Nat → List Nat → Prop) : Sp := fun vs H Q _ => ∃ (b : Addr) (ns : List Nat), vs = [.ref b] ∧ R H ∧ H b = some (.lst (ns.map nV)) ∧ J ns ∧
 ∀ D fs H', H D = none → Same H H' → H' D = some (.lst (fs.map nV)) → Nx ns fs → Q (.ref D) H'
def zfl (P : Program) (w : World) (K : Frag) (mg : T1) (base : Heap) : Sp := fun vs H Q _ => ∃ (e f : Addr) (fd : FuncData) (bs : List Bool) (R : Hp → Prop) (J : List Nat → Prop) (Nx : List Nat → List Nat → Prop) (mu : List Nat → Nat),
 vs = [.ref e, .ref f] ∧ H e = some (.tup (bs.map V.bl)) ∧ bs.length ≤ 100 ∧ H f = some (fnO fd f) ∧ CloH P w K mg base 3 H f 1 (zgb R J Nx) ∧ R H ∧ (∀ H1 H2, Same H1 H2 → R H1 → R H2) ∧ (∀ ns, Num bs ns → J ns) ∧
 (∀ ns, J ns → ns.length ≤ 100) ∧ (∀ ns fs, J ns → Nx ns fs → J fs ∧ (fs ≠ ns → mu fs < mu ns)) ∧ ∀ D ns H', Same H H' → H' D = some (.lst (ns.map nV)) → J ns → Nx ns ns → Q (.ref D) H'
def zeh (Pt : Addr) (qs : T3) : Sp := fun vs H Q _ => ∃ (a : Addr) (m : Mc), vs = [.ref a] ∧ TabOk H Pt qs ∧ RepM H a m ∧ m.Ok ∧ ∀ p m' H', Same H H' → RepM H' p m' → Red m m' → Q (.ref p) H'
def zss (K : Frag) (ts : List (Addr × List (Pos × Str))) : Sp := fun vs H Q _ => ∃ (a : Addr) (ns : List Int), vs = [.ref a] ∧ SqL K H a (ns.map V.int) ∧ ns.length ≤ 63 ∧ OnlyT ts H ∧ ∀ H', Q (.bl true) H'
end SM
namespace L2
theorem zby {X : Cx} {x : Str} (P : Program) (w : World) (K : Frag) (mg : T1) (base : Heap) (i k n : Nat) (sp : Sp) {m : Nat} {p pos : Pos} {e : Expr} {es : List Expr} {t : TA} (hr : Room m X.A) (hle : k ≤ m) (ha : PA X (e :: es) t) (e1 : X.prog = P := by rfl) (e2 : X.w = w := by rfl) (e3 : X.K = K := by rfl) (e4 : X.mg = mg := by rfl) (e5 : X.base = base := by rfl)
  (hN : X.N[i]? = some x := by rfl) (hv : Vis X.env.scope x := by first | exact Or.inl rfl | exact Or.inr (Or.inl rfl) | exact Or.inr (Or.inr rfl))
  (hd : (x == ("__debug__" : Str)) = false := by decide) (hcd : (x == ("__classdict__" : Str)) = false := by decide) (h1 : notStar e = true := by rfl) (h2 : es.all notStar = true := by rfl) :
  PE X (.Call (.Name x p) (e :: es) [] pos) (tCallV P w K mg base k n sp i t) := by
 subst e1 e2 e3 e4 e5
 exact znc i k n sp hr hle ha hN hv hd hcd h1 h2
end L2
namespace SM
structure Thg where
 w : Nat
 step : List Nat → List (List Nat)
 fin : List Nat → Bool
def Thg.run (T : Thg) (t : List Nat) (row : List Nat) : List Nat := row.foldl (fun t l => (T.step t).getD l []) t
theorem Thg.run_cons (T : Thg) (t : List Nat) (l : Nat) (row : List Nat) : T.run t (l :: row) = T.run ((T.step t).getD l []) row := rfl
structure Fnd (T : Thg) (G : List Nat → Prop) (first : List Nat) (fs : List (List Nat)) (at' : Nat) : Prop where
 nd : fs.Nodup
 hd : fs[0]? = some first
 good : ∀ t ∈ fs, G t
 le : at' ≤ fs.length
 clo : ∀ t ∈ fs.take at', ∀ u ∈ T.step t, u ∈ fs
def expl (T : Thg) (fs : List (List Nat)) : Mc := ⟨T.w, fs.map fun t => (T.step t).map (nOf fs), fs.map T.fin⟩
theorem Fnd.start {T : Thg} {G : List Nat → Prop} {first : List Nat} (h : G first) : Fnd T G first [first] 0 :=
 ⟨by simp, rfl, fun t ht => by rw [y0o.mp ht]; exact h, y1b _, fun t ht => by simp at ht⟩
theorem ztn {α : Type} [DecidableEq α] {acc xs : List α} {i : Nat} {x : α} (h : acc[i]? = some x) : (news acc xs)[i]? = some x := by
 obtain ⟨t, e⟩ := zcm xs acc
 rw [e, y11 (y0b.mp h).1]; exact h
theorem Fnd.next {T : Thg} {G : List Nat → Prop} {first : List Nat} {fs : List (List Nat)} {at' : Nat} {t : List Nat} (h : Fnd T G first fs at') (e : fs[at']? = some t) (hg : ∀ u ∈ T.step t, G u) : Fnd T G first (news fs (T.step t)) (at' + 1) := by
 have hlt := (y0b.mp e).1
 obtain ⟨tl, ep⟩ := zcm (T.step t) fs
 refine ⟨zi9 _ _ h.nd, ztn h.hd, fun u hu => ?_, by rw [ep, y0j]; omega, fun u hu v hv => ?_⟩
 ·rcases (zbm _ _ _).mp hu with z | z
  ·exact h.good u z
  ·exact hg u z
 ·rw [ep, y3r (by omega), y1g, e, y21] at hu
  rcases y1f.mp hu with z | z
  ·exact (zbm _ _ _).mpr (.inl (h.clo u z v hv))
  ·rw [y0o.mp z] at hv
   exact (zbm _ _ _).mpr (.inr hv)
theorem zq3 {α : Type} [DecidableEq α] {fs xs : List α} {u : α} (h : u ∈ fs) : nOf (news fs xs) u = nOf fs u := by
 obtain ⟨t, e⟩ := zcm xs fs
 show List.idxOf u (news fs xs) = List.idxOf u fs
 rw [e]
 exact zgq h
theorem zmo {T : Thg} {G : List Nat → Prop} {first : List Nat} {fs : List (List Nat)} {at' : Nat} {t : List Nat} (h : Fnd T G first fs at') (e : fs[at']? = some t) :
  (((news fs (T.step t)).take (at' + 1)).map fun u => (T.step u).map (nOf (news fs (T.step t)))) = ((fs.take at').map fun u => (T.step u).map (nOf fs)) ++ [(T.step t).map (nOf (news fs (T.step t)))] := by
 have hlt := (y0b.mp e).1
 obtain ⟨tl, ep⟩ := zcm (T.step t) fs
 have e1 : (news fs (T.step t)).take (at' + 1) = fs.take at' ++ [t] := by rw [ep, y3r (by omega), y1g, e, y21]
 rw [e1, y0z, y0k, y30]
 congr 1
 refine y1u fun u hu => y1u fun v hv => zq3 (h.clo u hu v hv)
section
variable {T : Thg} {G : List Nat → Prop} {first : List Nat} {fs : List (List Nat)}
theorem zb1 {α : Type} [DecidableEq α] : ∀ {xs : List α} {x : α}, x ∈ xs → xs[nOf xs x]? = some x
 | y :: ys, x, h => by
  by_cases e : y = x
  ·subst e; simp [nOf]
  ·have h' : x ∈ ys := by
    rcases y05.mp h with z | z
    ·exact absurd z.symm e
    ·exact z
   show (y :: ys)[List.idxOf x (y :: ys)]? = some x
   rw [y2m, show (y == x) = false by simp [e], cond_false, y0t]
   exact zb1 h'
theorem zor (hw : T.w ≤ 4) (h : Fnd T G first fs fs.length) (hl : fs.length ≤ 100) (hs : ∀ t, G t → (T.step t).length = 2 ^ T.w) : (expl T fs).Ok := by
 have h0 : 0 < fs.length := (y0b.mp h.hd).1
 have hc : ∀ t ∈ fs, ∀ u ∈ T.step t, u ∈ fs := fun t ht u hu => h.clo t (by rw [y0n (y06 _)]; exact ht) u hu
 refine { pos := ?_, wid := hw, few := ?_, len := ?_, line := ?_, room := ?_ }
 ·simpa [expl] using h0
 ·simpa [expl] using hl
 ·simp [expl]
 ·intro line hm
  obtain ⟨t, ht, rfl⟩ := y0m.mp hm
  rw [y01]
  exact hs t (h.good t ht)
 ·intro line hm r hr
  obtain ⟨t, ht, rfl⟩ := y0m.mp hm
  obtain ⟨u, hu, rfl⟩ := y0m.mp hr
  show nOf fs u < (fs.map T.fin).length
  rw [y01]
  exact (y0b.mp (zb1 (hc t ht u hu))).1
theorem zri {t : List Nat} (ht : t ∈ fs) : (expl T fs).fin (nOf fs t) = T.fin t := by
 show (fs.map T.fin).getD (nOf fs t) false = _
 rw [y02, y04, zb1 ht]; rfl
theorem expl_go (h : Fnd T G first fs fs.length) (hs : ∀ t, G t → (T.step t).length = 2 ^ T.w) {t : List Nat} (ht : t ∈ fs) {l : Nat} (hl : l < 2 ^ T.w) : (T.step t).getD l [] ∈ fs ∧ (expl T fs).go (nOf fs t) l = nOf fs ((T.step t).getD l []) := by
 have hll : l < (T.step t).length := by rw [hs t (h.good t ht)]; exact hl
 have eg : (T.step t).getD l [] = (T.step t)[l] := by rw [y02, y00 hll]; rfl
 refine ⟨?_, ?_⟩
 ·rw [eg]
  exact h.clo t (by rw [y0n (y06 _)]; exact ht) _ (y0g hll)
 ·show ((fs.map fun t => (T.step t).map (nOf fs)).getD (nOf fs t) []).getD l 0 = _
  rw [y02, y02, y04, zb1 ht, y2c, y0u, y04, y00 hll, eg]; rfl
theorem zk4 (h : Fnd T G first fs fs.length) (hs : ∀ t, G t → (T.step t).length = 2 ^ T.w) : ∀ (row : List Nat) {t : List Nat}, t ∈ fs → (∀ l ∈ row, l < 2 ^ T.w) → T.run t row ∈ fs ∧ (expl T fs).run (nOf fs t) row = nOf fs (T.run t row)
 | [], t, ht, _ => ⟨ht, rfl⟩
 | l :: row, t, ht, hr => by
  obtain ⟨h1, h2⟩ := expl_go h hs ht (hr l y0c)
  rw [Mc.run_cons, Thg.run_cons, h2]
  exact zk4 h hs row h1 fun x hx => hr x (y09 _ hx)
theorem zf4 (h : Fnd T G first fs fs.length) (hs : ∀ t, G t → (T.step t).length = 2 ^ T.w) (row : List Nat) (hr : ∀ l ∈ row, l < 2 ^ T.w) : (expl T fs).fin ((expl T fs).run 0 row) = T.fin (T.run first row) := by
 have hm : first ∈ fs := y0h h.hd
 have h0 : nOf fs first = 0 := by
  have e := h.hd
  cases fs with
  | nil => simp at e
  | cons x r => simp at e; subst e; simp [nOf]
 obtain ⟨h1, h2⟩ := zk4 h hs row hm hr
 rw [h0] at h2
 rw [h2, zri h1]
end
theorem news_snoc' {α : Type} [DecidableEq α] (acc xs : List α) (x : α) : news acc (xs ++ [x]) = nxt (news acc xs) x := ze1 xs acc x
theorem zfy {α : Type} [DecidableEq α] {acc xs : List α} {i : Nat} {x : α} (h : xs[i]? = some x) : news acc (xs.take (i + 1)) = nxt (news acc (xs.take i)) x := by rw [y1g, h, y21, news_snoc']
theorem zkn {α : Type} [DecidableEq α] : ∀ {xs ys : List α}, xs.Nodup → (∀ x ∈ xs, x ∈ ys) → xs.length ≤ ys.length
 | [], _, _, _ => y1b _
 | x :: xs, ys, hn, h => by
  rw [y0y] at hn
  have hx := h x y0c
  have := zkn (ys := ys.erase x) hn.2 fun y hy => (List.mem_erase_of_ne (fun e => hn.1 (by rw [← e]; exact hy))).mpr (h y (y09 _ hy))
  rw [y3y hx] at this
  have := y41 hx
  rw [y0i]; omega
def pairT (m1 m2 : Mc) (op : Bool → Bool → Bool) : Thg := ⟨m1.w, fun t => ((m1.ways.getD (ix t 0) []).zip (m2.ways.getD (ix t 1) [])).map fun p => [p.1, p.2], fun t => op (m1.fin (ix t 0)) (m2.fin (ix t 1))⟩
def PairG (m1 m2 : Mc) (t : List Nat) : Prop := ∃ a b, t = [a, b] ∧ a < m1.n ∧ b < m2.n
def pairsL (m1 m2 : Mc) : List (List Nat) := (List.range m1.n).flatMap fun a => (List.range m2.n).map fun b => [a, b]
theorem zlp {m1 m2 : Mc} {t : List Nat} (h : PairG m1 m2 t) : t ∈ pairsL m1 m2 := by
 obtain ⟨a, b, rfl, ha, hb⟩ := h
 exact List.mem_flatMap.mpr ⟨a, y15.mpr ha, y0m.mpr ⟨b, y15.mpr hb, rfl⟩⟩
theorem zlq (m1 m2 : Mc) : (pairsL m1 m2).length = m1.n * m2.n := by
 unfold pairsL
 induction m1.n with
 | zero => simp
 | succ n ih => rw [y2k, List.flatMap_append, y0j, ih]; simp [Nat.succ_mul]
theorem zqi {m1 m2 : Mc} {op : Bool → Bool → Bool} {first : List Nat} {fs : List (List Nat)} {k : Nat} (h : Fnd (pairT m1 m2 op) (PairG m1 m2) first fs k) : fs.length ≤ m1.n * m2.n := by
 rw [← zlq]
 exact zkn h.nd fun t ht => zlp (h.good t ht)
section
variable {m1 m2 : Mc} {op : Bool → Bool → Bool}
theorem zci {m : Mc} (ok : m.Ok) {r : Nat} (hr : r < m.n) : ∃ line, m.ways[r]? = some line ∧ m.ways.getD r [] = line ∧ line.length = 2 ^ m.w ∧ ∀ x ∈ line, x < m.n := by
 have h : r < m.ways.length := by rw [ok.len]; exact hr
 exact ⟨m.ways[r], y00 h, by rw [y02, y00 h]; rfl, ok.line _ (y0g h), ok.room _ (y0g h)⟩
theorem zne (o1 : m1.Ok) (o2 : m2.Ok) (hw : m1.w = m2.w) {t : List Nat} (h : PairG m1 m2 t) : ((pairT m1 m2 op).step t).length = 2 ^ m1.w ∧ ∀ u ∈ (pairT m1 m2 op).step t, PairG m1 m2 u := by
 obtain ⟨a, b, rfl, ha, hb⟩ := h
 obtain ⟨l1, _, e1, n1, r1⟩ := zci o1 ha
 obtain ⟨l2, _, e2, n2, r2⟩ := zci o2 hb
 show (((m1.ways.getD a []).zip (m2.ways.getD b [])).map fun p => [p.1, p.2]).length = _ ∧ ∀ u ∈ ((m1.ways.getD a []).zip (m2.ways.getD b [])).map fun p => [p.1, p.2], _
 rw [e1, e2]
 refine ⟨by rw [y01, List.length_zip, n1, n2, hw, Nat.min_self], fun u hu => ?_⟩
 obtain ⟨⟨x, y⟩, hp, rfl⟩ := y0m.mp hu
 have := y25 hp
 exact ⟨x, y, rfl, r1 x this.1, r2 y this.2⟩
theorem zkl (o1 : m1.Ok) (o2 : m2.Ok) (hw : m1.w = m2.w) : ∀ (row : List Nat) {a b : Nat}, a < m1.n → b < m2.n → (∀ l ∈ row, l < 2 ^ m1.w) → (pairT m1 m2 op).run [a, b] row = [m1.run a row, m2.run b row]
 | [], a, b, _, _, _ => rfl
 | l :: row, a, b, ha, hb, hr => by
  have hl := hr l y0c
  obtain ⟨l1, f1, e1, n1, r1⟩ := zci o1 ha
  obtain ⟨l2, f2, e2, n2, r2⟩ := zci o2 hb
  have h1 : l < l1.length := by rw [n1]; exact hl
  have h2 : l < l2.length := by rw [n2, ← hw]; exact hl
  have es : ((pairT m1 m2 op).step [a, b]).getD l [] = [m1.go a l, m2.go b l] := by
   show (((m1.ways.getD a []).zip (m2.ways.getD b [])).map fun p => [p.1, p.2]).getD l [] = [(m1.ways.getD a []).getD l 0, (m2.ways.getD b []).getD l 0]
   rw [e1, e2, y02, y04, show (l1.zip l2)[l]? = some (l1[l], l2[l]) from y32.mpr ⟨y00 h1, y00 h2⟩]
   rw [y02, y02, y00 h1, y00 h2]; rfl
  rw [Thg.run_cons, es, Mc.run_cons, Mc.run_cons]
  exact zkl o1 o2 hw row (o1.go_lt ha hl) (o2.go_lt hb (by rw [← hw]; exact hl)) fun x hx => hr x (y09 _ hx)
end
end SM
namespace L2
section
variable {P : Program} {w : World} {A : Around} {E : T0} {s : Shared} {z ti ro j1 j2 t1 t2 : Addr} {i : Nat} {its1 its2 : Array Value}
theorem zsl {x y : Value} {Q : T9} (D : ZipApart z ti ro j1 j2 t1 t2) (Z : ZipG s.heap z ti ro j1 j2 t1 t2 i) (p1 : s.heap.IsTuple t1 its1) (p2 : s.heap.IsTuple t2 its2) (hx : its1[i]? = some x) (hy : its2[i]? = some y)
  (q : ∀ h', ZipG h' z ti ro j1 j2 t1 t2 (i + 1) → IsPair h' s.heap.objs.size x y → h'.objs.size = s.heap.objs.size + 1 → (∀ c o, c ≠ z → c ≠ ro → c ≠ j1 → c ≠ j2 → s.heap.get? c = some o → h'.get? c = some o) →
   Q (some (.ref s.heap.objs.size)) { s with heap := h' }) : wpAny (model P w) A (pyNext (.ref z)) Q E s := by
 obtain ⟨f0, f1, zf, hf⟩ := Z.z
 have hT : s.TypeIs (.ref z) "zip" := ⟨_, zf, rfl⟩
 obtain ⟨a, b, hro⟩ := Z.ro
 unfold pyNext
 refine wpAny_bind (wpAny_attempt (wpAny_callSpecial?_slot (name := Str.ofString "__next__") hT F.slot_zip_next (wpAny_call_entry F.slot_zip_next hT F.entry_zip_next ?_ (F.args_zip_next_1 _))))
 show wpAny _ _ (field (.ref z) 2 >>= _) _ _ _
 refine wpAny_bind (wpAny_field zf rfl (x := .bool false) rfl ?_)
 show wpAny _ _ (field (.ref z) 3 >>= _) _ _ _
 refine wpAny_bind (wpAny_field zf rfl (x := .ref ti) rfl ?_)
 refine wpAny_bind (wpAny_seqItems Z.ti rfl ?_)
 show wpAny _ _ (Builtin.SmallTypes.ownedTupleIsFree (.ref z) >>= _) _ _ _
 refine wpAny_bind (zfv zf hf fun free h0 g1 z0 s0 => ?_)
 cases free with
 | true =>
  rw [if_pos rfl]
  refine wpAny_bind (wpAny_rule ?_)
  refine wpAny_bind (wpAny_field z0 rfl (x := .ref ro) rfl ?_)
  refine wpAny_bind (wpAny_setField_rec z0 (by simp) fun ha hza hsa => ?_)
  replace hza : IsZipF ha z ti ro .ellipsis g1 := hza
  have hsa' : Heap.SameBut z s.heap ha := s0.trans hsa
  refine wpAny_bind ?_
  simp only [y2i, y2j, y1n, y24]
  refine wpAny_bind (wpAny_bind (wpAny_onRaise ?_))
  exfalso
  refine wpAny_bind (zbd (Z.j1.extBut hsa'.extBut D.i1z) (p1.extBut hsa'.extBut D.l1z) hx fun hb b1 hsb => wpAny_pure ?_)
  have rob : IsPair hb ro a b := hsb.extBut _ _ D.TOi1 (hsa'.extBut _ _ D.TOz hro)
  refine wpAny_bind (wpAny_seqItems rob rfl ?_)
  refine wpAny_bind (wpAny_updateSeq_pair rob fun hc roc hsc => ?_)
  replace roc : IsPair hc ro x b := roc
  refine wpAny_bind (wpAny_letGo (wpAny_pure ?_))
  refine wpAny_bind (wpAny_bind (wpAny_onRaise ?_))
  show wpAny _ _ (Builtin.SmallTypes.nextOf (.ref j2) >>= _) _ _ _
  refine wpAny_bind (zbd (((Z.j2.extBut hsa'.extBut D.i2z).extBut hsb.extBut D.i12.symm).extBut hsc.extBut D.TOi2.symm) (((p2.extBut hsa'.extBut D.l2z).extBut hsb.extBut D.l2i1).extBut hsc.extBut D.l2TO) hy fun hd d2 hsd => wpAny_pure ?_)
  have rod : IsPair hd ro x b := hsd.extBut _ _ D.TOi2 roc
  refine wpAny_bind (wpAny_seqItems rod rfl ?_)
  refine wpAny_bind (wpAny_updateSeq_pair rod fun he roe hse => ?_)
  replace roe : IsPair he ro x y := roe
  refine wpAny_bind (wpAny_letGo (wpAny_pure (wpAny_pure ?_)))
  refine wpAny_bind (wpAny_seqItems roe rfl ?_)
  refine wpAny_bind (wpAny_newTuple ?_)
  have sz : he.objs.size = s.heap.objs.size := by rw [hse.1, hsd.1, hsc.1, hsb.1, hsa'.1]
  have ze : IsZipF he z ti ro .ellipsis g1 := hse.extBut _ _ D.TOz.symm (hsd.extBut _ _ D.i2z.symm (hsc.extBut _ _ D.TOz.symm (hsb.extBut _ _ D.i1z.symm hza)))
  have ke : ∀ c o, c ≠ z → c ≠ ro → c ≠ j1 → c ≠ j2 → s.heap.get? c = some o → he.get? c = some o := fun c o c1 c2 c3 c4 e =>
   hse.extBut _ _ c2 (hsd.extBut _ _ c4 (hsc.extBut _ _ c2 (hsb.extBut _ _ c3 (hsa'.extBut _ _ c1 e))))
  have e1 : he.IsTupleIter j1 t1 (i + 1) := ((b1.extBut hsc.extBut D.TOi1.symm).extBut hsd.extBut D.i12).extBut hse.extBut D.TOi1.symm
  have e2 : he.IsTupleIter j2 t2 (i + 1) := d2.extBut hse.extBut D.TOi2.symm
  have zlt : z < he.objs.size := y0d ze
  show wpAny _ _ (Builtin.SmallTypes.ownedTupleHandOut (.ref z) (.ref he.objs.size) >>= _) _ _ _
  refine wpAny_bind ?_
  unfold Builtin.SmallTypes.ownedTupleHandOut
  have zf' : IsZipF (he.push { cls := .type "tuple", data := .seq #[x, y] }) z ti ro .ellipsis g1 := y03 _ ze
  refine wpAny_bind (wpAny_setField_rec zf' (by simp) fun hg zg hsg => ?_)
  replace zg : IsZipF hg z ti ro (rawInt he.objs.size) g1 := zg
  refine wpAny_setField_rec zg (by simp) fun hk zk hsk => ?_
  replace zk : IsZipF hk z ti ro (rawInt he.objs.size) (.bool false) := zk
  have up : ∀ c o, c ≠ z → he.get? c = some o → hk.get? c = some o := fun c o c1 e => hsk.extBut _ _ c1 (hsg.extBut _ _ c1 (y03 _ e))
  have tk : IsPair hk he.objs.size x y := hsk.extBut _ _ (y26 zlt) (hsg.extBut _ _ (y26 zlt) (y0e _ rfl))
  have zk8 : hk.objs.size = he.objs.size + 1 := by rw [hsk.1, hsg.1, y16]
  rw [sz] at zk tk zk8
  refine wpAny_pure ⟨_, rfl, wpAny_pure ?_⟩
  show Q (some (.ref he.objs.size)) _
  rw [sz]
  exact q hk ⟨⟨_, _, zk, .inr ⟨_, rfl⟩⟩, up _ _ D.TIz (ke _ _ D.TIz D.TITO D.TIi1 D.TIi2 Z.ti), ⟨_, _, up _ _ D.TOz roe⟩, e1.at fun o e => up _ o D.i1z e, e2.at fun o e => up _ o D.i2z e⟩ tk zk8 fun c o c1 c2 c3 c4 e => up c o c1 (ke c o c1 c2 c3 c4 e)
 | false =>
  rw [if_neg y0f]
  refine wpAny_bind ?_
  rw [← Array.forIn_toList]
  simp only [y1n, y24]
  refine wpAny_bind (wpAny_bind (wpAny_holding ?_))
  exfalso
  refine wpAny_bind (zbd (Z.j1.extBut s0.extBut D.i1z) (p1.extBut s0.extBut D.l1z) hx fun hb b1 hsb => wpAny_pure ?_)
  refine wpAny_pure ?_
  refine wpAny_bind (wpAny_bind (wpAny_holding ?_))
  show wpAny _ _ (Builtin.SmallTypes.nextOf (.ref j2) >>= _) _ _ _
  refine wpAny_bind (zbd ((Z.j2.extBut s0.extBut D.i2z).extBut hsb.extBut D.i12.symm) ((p2.extBut s0.extBut D.l2z).extBut hsb.extBut D.l2i1) hy fun hd d2 hsd => wpAny_pure ?_)
  refine wpAny_pure (wpAny_pure ?_)
  refine wpAny_bind (wpAny_newTuple ?_ (show (2 : Nat) ≤ sizeLine by decide))
  have sz : hd.objs.size = s.heap.objs.size := by rw [hsd.1, hsb.1, s0.1]
  have ke : ∀ c o, c ≠ z → c ≠ ro → c ≠ j1 → c ≠ j2 → s.heap.get? c = some o → hd.get? c = some o := fun c o c1 c2 c3 c4 e =>
   hsd.extBut _ _ c4 (hsb.extBut _ _ c3 (s0.extBut _ _ c1 e))
  have zd : IsZipF hd z ti ro f0 g1 := hsd.extBut _ _ D.i2z.symm (hsb.extBut _ _ D.i1z.symm z0)
  have tk : IsPair (hd.push { cls := .type "tuple", data := .seq #[x, y] }) hd.objs.size x y := y0e _ rfl
  have zk8 : (hd.push { cls := .type "tuple", data := .seq #[x, y] }).objs.size = hd.objs.size + 1 := y16 ..
  rw [sz] at tk zk8
  refine wpAny_pure ⟨_, rfl, wpAny_pure ?_⟩
  show Q (some (.ref hd.objs.size)) _
  rw [sz]
  have rod : IsPair hd ro a b := hsd.extBut _ _ D.TOi2 (hsb.extBut _ _ D.TOi1 (s0.extBut _ _ D.TOz hro))
  have e1 : hd.IsTupleIter j1 t1 (i + 1) := b1.extBut hsd.extBut D.i12
  exact q _ ⟨⟨_, _, y03 _ zd, hf⟩, y03 _ (ke _ _ D.TIz D.TITO D.TIi1 D.TIi2 Z.ti), ⟨_, _, y03 _ rod⟩, e1.at fun o e => y03 _ e, d2.at fun o e => y03 _ e⟩ tk zk8
   fun c o c1 c2 c3 c4 e => y03 _ (ke c o c1 c2 c3 c4 e)
theorem zp_end {Q : T9} (hh : A.handled = none) (D : ZipApart z ti ro j1 j2 t1 t2) (Z : ZipG s.heap z ti ro j1 j2 t1 t2 i) (p1 : s.heap.IsTuple t1 its1) (p2 : s.heap.IsTuple t2 its2) (hx : its1[i]? = none)
  (q : ∀ h', (∀ c o, c ≠ z → c ≠ ro → c ≠ j1 → c ≠ j2 → s.heap.get? c = some o → h'.get? c = some o) → Q none { s with heap := h' }) : wpAny (model P w) A (pyNext (.ref z)) Q E s := by
 obtain ⟨f0, f1, zf, hf⟩ := Z.z
 have hT : s.TypeIs (.ref z) "zip" := ⟨_, zf, rfl⟩
 unfold pyNext
 refine wpAny_bind (wpAny_attempt (wpAny_callSpecial?_slot (name := Str.ofString "__next__") hT F.slot_zip_next (wpAny_call_entry F.slot_zip_next hT F.entry_zip_next ?_ (F.args_zip_next_1 _))))
 show wpAny _ _ (field (.ref z) 2 >>= _) _ _ _
 refine wpAny_bind (wpAny_field zf rfl (x := .bool false) rfl ?_)
 show wpAny _ _ (field (.ref z) 3 >>= _) _ _ _
 refine wpAny_bind (wpAny_field zf rfl (x := .ref ti) rfl ?_)
 refine wpAny_bind (wpAny_seqItems Z.ti rfl ?_)
 show wpAny _ _ (Builtin.SmallTypes.ownedTupleIsFree (.ref z) >>= _) _ _ _
 refine wpAny_bind (zfv zf hf fun free h0 g1 z0 s0 => ?_)
 cases free with
 | true =>
  rw [if_pos rfl]
  refine wpAny_bind (wpAny_rule ?_)
  refine wpAny_bind (wpAny_field z0 rfl (x := .ref ro) rfl ?_)
  refine wpAny_bind (wpAny_setField_rec z0 (by simp) fun ha hza hsa => ?_)
  replace hza : IsZipF ha z ti ro .ellipsis g1 := hza
  have hsa' : Heap.SameBut z s.heap ha := s0.trans hsa
  refine wpAny_bind ?_
  simp only [y2i, y2j, y1n, y24]
  refine wpAny_bind (wpAny_bind (wpAny_onRaise ?_))
  exfalso
  refine wpAny_bind (zdl hh (Z.j1.extBut hsa'.extBut D.i1z) (p1.extBut hsa'.extBut D.l1z) hx fun hb e hsb ⟨oe, ge, ce⟩ => ?_)
  have zb : IsZipF hb z ti ro .ellipsis g1 := hsb _ _ D.i1z.symm hza
  have nez : e ≠ z := fun z' => by
   subst z'
   rw [zb] at ge
   cases ge
   simp at ce
  refine wpAny_setField_rec zb (by simp) fun hc _ hsc => ?_
  refine wpAny_bind (wpAny_isInstance (T := "StopIteration") (b := true) ⟨oe, hsc.extBut _ _ nez ge, ce⟩ isSubtype_stop ?_)
  exact wpAny_pure (q _ fun c o c1 _ c3 _ x => hsc.extBut _ _ c1 (hsb _ _ c3 (hsa'.extBut _ _ c1 x)))
 | false =>
  rw [if_neg y0f]
  refine wpAny_bind ?_
  rw [← Array.forIn_toList]
  simp only [y1n, y24]
  refine wpAny_bind (wpAny_bind (wpAny_holding ?_))
  exfalso
  refine wpAny_bind (zdl hh (Z.j1.extBut s0.extBut D.i1z) (p1.extBut s0.extBut D.l1z) hx fun hb e hsb ex => ?_)
  obtain ⟨oe, ge, ce⟩ := ex
  refine wpAny_bind (wpAny_isInstance (T := "StopIteration") (b := true) ⟨oe, ge, ce⟩ isSubtype_stop ?_)
  exact wpAny_pure (q _ fun c o c1 _ c3 _ x => hsb _ _ c3 (s0.extBut _ _ c1 x))
end
section
variable {X : Cx} {pins : T2} {σ : St}
theorem ZipG.move {h h' : Heap} {z ti ro j1 j2 t1 t2 : Addr} {i : Nat} (Z : ZipG h z ti ro j1 j2 t1 t2 i) (k : ∀ c ∈ [z, ti, ro, j1, j2], ∀ o, h.get? c = some o → h'.get? c = some o) : ZipG h' z ti ro j1 j2 t1 t2 i := by
 obtain ⟨f0, f1, zf, hf⟩ := Z.z
 obtain ⟨u, v, hro⟩ := Z.ro
 exact ⟨⟨f0, f1, k z (by simp) _ zf, hf⟩, k ti (by simp) _ Z.ti, ⟨u, v, k ro (by simp) _ hro⟩, Z.j1.at fun o e => k j1 (by simp) o e, Z.j2.at fun o e => k j2 (by simp) o e⟩
theorem ZipG.there {h : Heap} {z ti ro j1 j2 t1 t2 : Addr} {i : Nat} (Z : ZipG h z ti ro j1 j2 t1 t2 i) : ∀ c ∈ [z, ti, ro, j1, j2], ∃ o, h.get? c = some o := fun c hc => by
 obtain ⟨f0, f1, zf, hf⟩ := Z.z
 obtain ⟨u, v, hro⟩ := Z.ro
 obtain ⟨o1, e1, _⟩ := Z.j1
 obtain ⟨o2, e2, _⟩ := Z.j2
 simp only [y05, y0a, or_false] at hc
 rcases hc with rfl | rfl | rfl | rfl | rfl
 ·exact ⟨_, zf⟩
 ·exact ⟨_, Z.ti⟩
 ·exact ⟨_, hro⟩
 ·exact ⟨_, e1⟩
 ·exact ⟨_, e2⟩
def PairsL (H : Hp) (xs ys : List V) (ps : List Addr) : Prop := ∀ (j : Nat) p, ps[j]? = some p → ∃ x y, xs[j]? = some x ∧ ys[j]? = some y ∧ H p = some (.tup [x, y])
abbrev LstAt (h : Heap) (S : Addr) (ps : List Addr) (c : Nat) : Prop := h.get? S = some { cls := .type "list", dict := none, data := .seq (ps.map Value.ref).toArray c, slots := #[] }
theorem zsm {S z ti ro j1 j2 a b : Addr} {xs ys : List V} (hne : xs.length = ys.length) (hn : xs.length ≤ 1000) (D : ZipApart z ti ro j1 j2 a b) (A : Around) (hh : A.in1.handled = none) (hS : S ∉ [z, ti, ro, j1, j2]) {R : Result → Shared → Prop} (res : Value) (H0 : Hp) :
  ∀ (k i : Nat) (s : Shared) (H : Hp) (c : Nat) (ps : List Addr), xs.length - i = k → i ≤ xs.length → Inv X pins σ H s → Same H0 H → (∀ c ∈ [S, z, ti, ro, j1, j2], FpOk X pins H c) → SqT X.K H a xs → SqT X.K H b ys → ZipG s.heap z ti ro j1 j2 a b i → LstAt s.heap S ps c → ps.length = i → PairsL H xs ys ps →
  (∀ s' H' ps' c', Inv X pins σ H' s' → Same H0 H' → FpOk X pins H' S → LstAt s'.heap S ps' c' → ps'.length = xs.length → PairsL H' xs ys ps' → R (.ok (.ret res)) s') →
  codeAny (model X.prog X.w) A (.builtin "list.extend.loop" ⟨[.ref S, .ref z, res], []⟩) R s := by
 intro k
 induction k with
 | zero =>
  intro i s H c ps hk hi I g hf ha hb Z hL hl hp hR
  have hin : i = xs.length := by omega
  obtain ⟨its1, r1, p1, _⟩ := I.tuple ha
  obtain ⟨its2, r2, p2, _⟩ := I.tuple hb
  have l1 := r1.length
  refine codeAny_builtin F.entry_extend_loop ?_
  rw [Around.under_plainId F.plain_extend_loop _]
  show wpAny _ A.in1 (pyNext (.ref z) >>= _) _ _ s
  refine wpAny_bind (zp_end hh D Z (show s.heap.IsTuple a its1.toArray from p1) (show s.heap.IsTuple b its2.toArray from p2) (by simp; omega) fun h' k' => ?_)
  have kk : ∀ c o, c ∉ [z, ti, ro, j1, j2] → s.heap.get? c = some o → h'.get? c = some o := fun c o hc e => k' c o (fun q => hc (by simp [q])) (fun q => hc (by simp [q])) (fun q => hc (by simp [q])) (fun q => hc (by simp [q])) e
  exact wpAny_pure (hR _ H ps c (I.turnedL (t' := s.toks) kk fun b hb => hf b (y09 _ hb)) g (hf S (y0c ..)) (kk _ _ hS hL) (by omega) hp)
 | succ k ih =>
  intro i s H c ps hk hi I g hf ha hb Z hL hl hp hR
  have hlt : i < xs.length := by omega
  have hlt2 : i < ys.length := by omega
  obtain ⟨its1, r1, p1, _⟩ := I.tuple ha
  obtain ⟨its2, r2, p2, _⟩ := I.tuple hb
  obtain ⟨u, hu, ru⟩ := r1.get (y00 hlt)
  obtain ⟨v, hv, rv⟩ := r2.get (y00 hlt2)
  refine codeAny_builtin F.entry_extend_loop ?_
  rw [Around.under_plainId F.plain_extend_loop _]
  show wpAny _ A.in1 (pyNext (.ref z) >>= _) _ _ s
  refine wpAny_bind (zsl D Z (show s.heap.IsTuple a its1.toArray from p1) (show s.heap.IsTuple b its2.toArray from p2) (x := u) (y := v) (by simpa using hu) (by simpa using hv) fun h1 Z1 q1 sz1 k1 => ?_)
  have kk : ∀ c o, c ∉ [z, ti, ro, j1, j2] → s.heap.get? c = some o → h1.get? c = some o := fun c o hc e => k1 c o (fun q => hc (by simp [q])) (fun q => hc (by simp [q])) (fun q => hc (by simp [q])) (fun q => hc (by simp [q])) e
  have hS' := kk _ _ hS hL
  have Slt : S < s.heap.objs.size := y0d hL
  show wpAny _ A.in1 (updateSeq S (·.push (.ref s.heap.objs.size)) >>= _) _ _ _
  refine wpAny_bind ?_
  refine wpAny_updateSeq hS' rfl (wpAny_pure ⟨plainId_quiet F.plain_extend_loop _, ?_⟩) (by have := small1000 (n := ps.length) (by omega); simp; exact y1t this) (by have := small1000 (n := ps.length) (by omega); simp; exact y1t this)
  have oth : ∀ c o, c ≠ S → h1.get? c = some o → (h1.update S (Obj.mapSeq (·.push (.ref s.heap.objs.size)))).get? c = some o := fun c o hc e => (y1z _ _ (Ne.symm hc)).trans e
  have hSn := y23 (Obj.mapSeq (·.push (.ref s.heap.objs.size))) hS' rfl
  generalize h1.update S (Obj.mapSeq (·.push (.ref s.heap.objs.size))) = h2 at oth hSn
  have zS : ∀ c ∈ [z, ti, ro, j1, j2], c ≠ S := fun c hc e => hS (e ▸ hc)
  have tup2 : IsPair h2 s.heap.objs.size u v := oth _ _ (y26 Slt) q1
  have Z2 : ZipG h2 z ti ro j1 j2 a b (i + 1) := Z1.move fun c hc o e => oth c o (zS c hc) e
  have k2 : ∀ c o, c ∉ [S, z, ti, ro, j1, j2] → s.heap.get? c = some o → h2.get? c = some o := fun c o hc e => oth c o (fun q => hc (by simp [q])) (kk c o (fun q => hc (y09 _ q)) e)
  have there : ∀ c ∈ [S, z, ti, ro, j1, j2], ∃ o, h2.get? c = some o := fun c hc => by
   rcases y05.mp hc with rfl | hc
   ·exact ⟨_, hSn⟩
   ·exact Z2.there c hc
  have I2 : Inv X pins σ (upd H s.heap.objs.size (.tup [xs[i], ys[i]])) { s with heap := h2, toks := s.toks } := I.turnedNew k2 hf (y06 _) ⟨zab (by simp), [u, v], .cons ru (.cons rv .nil), ⟨_, tup2, rfl, _, rfl⟩⟩ there
  have hfr : H s.heap.objs.size = none := I.hok.fresh (y06 _)
  have g2 : Same H (upd H s.heap.objs.size (.tup [xs[i], ys[i]])) := za4 hfr _
  have hlt' : ∀ c ∈ [S, z, ti, ro, j1, j2], c ≠ s.heap.objs.size := fun c hc => by
   rcases y05.mp hc with rfl | hc
   ·exact y0l Slt
   ·obtain ⟨o, e⟩ := Z.there c hc
    exact y0l (y0d e)
  refine ih (i + 1) _ _ (c + 1) (ps ++ [s.heap.objs.size]) (by omega) (by omega) I2 (g.trans g2) (fun c hc => ?_) (g2.seqT ha) (g2.seqT hb) Z2 (by show h2.get? S = _; rw [hSn]; simp [Obj.mapSeq]) (by simp [hl]) (fun j p ej => ?_) hR
  ·obtain ⟨f0, f1, f2, f3, f4, f5⟩ := hf c hc
   exact ⟨by rw [zal (hlt' c hc)]; exact f0, f1, f2, f3, f4, f5⟩
  ·by_cases hj : j < ps.length
   ·rw [y11 hj] at ej
    obtain ⟨x, y, e1, e2, e3⟩ := hp j p ej
    exact ⟨x, y, e1, e2, g2 _ _ e3⟩
   ·have hj2 : j < (ps ++ [s.heap.objs.size]).length := (y0b.mp ej).1
    rw [y0j, y19] at hj2
    have e : j = ps.length := by omega
    subst e
    rw [y0x (y06 _), Nat.sub_self] at ej
    injection ej with ej
    subst ej
    rw [hl]
    exact ⟨_, _, y00 hlt, y00 hlt2, zar⟩
theorem Inv.take {H : Hp} {s : Shared} {a : Addr} {o : HO} (I : Inv X pins σ H s) (f : FpOk X pins H a) (h0 : X.s₀.heap.get? a = none) (new : ObjOk X.prog X.w (upd H a o) s.heap a o) : Inv X pins σ (upd H a o) s := by
 obtain ⟨ha, nL, _, _, nC, hp⟩ := f
 have up : ∀ b u, H b = some u → upd H a o b = some u := fun b u e => by rw [zal (fun z => by rw [z, ha] at e; cases e)]; exact e
 refine ⟨I.ok, I.os, I.bare, ⟨I.base.keep, I.base.slot, fun b ob e k hx => ?_, I.base.there, fun b xs e => up _ _ (I.base.tups b xs e), fun b ob u e => up _ _ (I.base.frzs b ob u e), fun b qs ps e => up _ _ (I.base.tbls b qs ps e)⟩, I.loc, I.cell, by rw [zal (Ne.symm nL)]; exact I.free, fun x c e => by rw [zal (nC x c e)]; exact I.freeC x c e, fun p hpp => ?_, fun b u e => ?_, I.len⟩
 ·rw [zal (fun z => by rw [z, h0] at e; cases e)]
  exact I.base.free b ob e k hx
 ·obtain ⟨e, k, r⟩ := I.pin p hpp
  exact ⟨e, by rw [zal (hp p hpp)]; exact k, r⟩
 ·by_cases hb : b = a
  ·subst hb; rw [zar] at e; cases e; exact new
  ·rw [zal hb] at e
   exact (I.hok b u e).stay (fun _ _ _ q => q) (fun c q => up c _ q) (fun c _ _ _ _ q => up c _ q) fun c xs q => up c _ q
theorem zlf : typeLookup (.type "zip") "__len__" = pure none := by rw [typeLookup_type, builtinLookup_eq_fast]; kernel_rfl
theorem zio : typeLookup (.type "zip") "__length_hint__" = pure none := by rw [typeLookup_type, builtinLookup_eq_fast]; kernel_rfl
theorem zho : ∀ (ps : List Addr), Vals (ps.map V.ref) (ps.map Value.ref)
 | [] => .nil
 | _ :: ps => .cons rfl (zho ps)
theorem zg0 {s : Shared} {H : Hp} {z ti ro j1 j2 a b : Addr} {xs ys : List V} {Q : VK} (hc : X.calm = true) (hne : xs.length = ys.length) (hn : xs.length ≤ 1000) (D : ZipApart z ti ro j1 j2 a b) (I : Inv X pins σ H s) (hf : ∀ c ∈ [z, ti, ro, j1, j2], FpOk X pins H c) (ha : SqT X.K H a xs) (hb : SqT X.K H b ys)
  (Z : ZipT s.heap z ti ro j1 j2 a b .none 0) (q : ∀ L ps H', H L = none → Same H H' → H' L = some (.lst (ps.map V.ref)) → ps.length = xs.length → PairsL H' xs ys ps → Q (.ref L) H') :
  wpAny (model X.prog X.w) X.A (call (.type "list") [.ref z]) (EP X pins σ Q) X.xe s := by
 have hSf : s.heap.objs.size ∉ [z, ti, ro, j1, j2] := fun hm => by
  obtain ⟨u, v, hro⟩ := Z.ro
  obtain ⟨o1, e1, _⟩ := Z.j1
  obtain ⟨o2, e2, _⟩ := Z.j2
  have key : ∀ c o, s.heap.get? c = some o → c ≠ s.heap.objs.size := fun c o e => y0l (y0d e)
  simp only [y05, y0a, or_false] at hm
  rcases hm with e | e | e | e | e
  ·exact key _ _ Z.z e.symm
  ·exact key _ _ Z.ti e.symm
  ·exact key _ _ hro e.symm
  ·exact key _ _ e1 e.symm
  ·exact key _ _ e2 e.symm
 refine callType_codes (Q₁ := fun obj s₁ => obj = .ref s.heap.objs.size ∧ s₁ = { s with heap := s.heap.push { cls := .type "list", data := .seq #[] } }) F.called_list (F.typeCall_list_1 _) F.entry_list_init
  (code_list_new _ ⟨rfl, rfl⟩) fun obj s₁ h₁ => ?_
 obtain ⟨rfl, rfl⟩ := h₁
 have hS : (s.heap.push { cls := .type "list", data := .seq #[] }).get? s.heap.objs.size = some { cls := .type "list", data := .seq #[] } := y0e _ rfl
 have kp : ∀ c o, s.heap.get? c = some o → (s.heap.push { cls := .type "list", data := .seq #[] }).get? c = some o := fun c o e => y03 _ e
 have h0 : X.s₀.heap.get? s.heap.objs.size = none := by
  cases e : X.s₀.heap.get? s.heap.objs.size with
  | none => rfl
  | some o => exact absurd (y0d e) (Nat.not_lt.mpr I.sz)
 have fS : FpOk X pins H s.heap.objs.size := I.fpOk (y06 _) (I.hok.fresh (y06 _))
 generalize s.heap.objs.size = S at *
 generalize s.heap.push { cls := .type "list", data := .seq #[] } = hp at hS kp
 have I1 : Inv X pins σ H { s with heap := hp, toks := s.toks } := I.kept kp
 refine ⟨⟨_, hS, rfl⟩, F.args_list_init_2 _ _, ?_⟩
 show wpAny _ X.A.in1.in1 (do let old ← Builtin.List.listItems (.ref S); Builtin.List.listUpdate (.ref S) (fun _ => #[]); letGo old.toList.reverse; Builtin.List.listExtendWith (.ref S) (.ref z) .none) _ _ _
 have zS : z ≠ S := fun e => hSf (by simp [e])
 refine wpAny_bind ?_
 unfold Builtin.List.listItems
 refine wpAny_bind (wpAny_seqItems hS rfl (wpAny_pure ?_))
 show wpAny _ X.A.in1.in1 (updateSeq S (fun _ => #[]) >>= fun _ => letGo (#[] : Array Value).toList.reverse >>= fun _ => Builtin.List.listExtendWith (.ref S) (.ref z) .none) _ _ _
 refine wpAny_bind (wpAny_updateSeq hS rfl ?_)
 have hS₂ := y23 (Obj.mapSeq (fun _ => (#[] : Array Value))) hS rfl
 have oth : ∀ b o, b ≠ S → hp.get? b = some o → (hp.update S (Obj.mapSeq (fun _ => (#[] : Array Value)))).get? b = some o := fun b o hb e => (y1z _ _ (Ne.symm hb)).trans e
 refine wpAny_bind (wpAny_letGo ?_)
 generalize hp.update S (Obj.mapSeq (fun _ => (#[] : Array Value))) = h2 at hS₂ oth
 have z2 : IsZip h2 z ti ro .none := oth _ _ zS (kp _ _ Z.z)
 have hT : Shared.TypeIs { s with heap := h2 } (.ref z) "zip" := ⟨_, z2, rfl⟩
 unfold Builtin.List.listExtendWith
 refine wpAny_bind (wpAny_typeOf hT ?_)
 have e1 : Builtin.List.listSameRef (.ref S) (.ref z) = false := by simp [Builtin.List.listSameRef, Ne.symm zS]
 have e2 : (Value.type "zip" == Value.type "list") = false := by decide
 have e3 : (Value.type "zip" == Value.type "tuple") = false := by decide
 simp only [e1, e2, e3, Bool.or_false, y1d, if_false]
 refine wpAny_bind (wpAny_pyIter_zip z2 ?_)
 refine wpAny_bind (wpAny_holding ?_)
 unfold Builtin.List.listLengthHint
 refine wpAny_bind (wpAny_specialOf hT zlf ?_)
 show wpAny _ X.A.in1.in1 (specialOf (Value.ref z) (Str.ofString "__length_hint__") >>= _) _ _ _
 refine wpAny_bind (wpAny_specialOf hT zio ?_)
 refine wpAny_pure ?_
 show wpAny _ X.A.in1.in1 (rule "list.extend.makes-room" >>= fun _ => Builtin.List.listTouch (.ref S) >>= fun _ =>
  again (.builtin "list.extend.loop" ⟨[.ref S, .ref z, .none], []⟩)) _ _ _
 refine wpAny_bind (wpAny_rule ?_)
 refine wpAny_bind ?_
 show wpAny _ X.A.in1.in1 (updateSeq S (·.push .none) >>= fun _ => updateSeq S (·.pop)) _ _ _
 refine wpAny_bind (wpAny_updateSeq hS₂ rfl ?_)
 have hS₃ := y23 (Obj.mapSeq (·.push Value.none)) hS₂ rfl
 refine wpAny_updateSeq (hz := by seq_fits) hS₃ rfl ?_
 have hS₄ := y23 (Obj.mapSeq (·.pop)) hS₃ rfl
 have oth2 : ∀ b o, b ≠ S → h2.get? b = some o → ((h2.update S (Obj.mapSeq (·.push Value.none))).update S (Obj.mapSeq (·.pop))).get? b = some o :=
  fun b o hb e => (y1z _ _ (Ne.symm hb)).trans ((y1z _ _ (Ne.symm hb)).trans e)
 generalize (h2.update S (Obj.mapSeq (·.push Value.none))).update S (Obj.mapSeq (·.pop)) = h3 at hS₄ oth2
 have keep : ∀ b o, b ≠ S → s.heap.get? b = some o → h3.get? b = some o := fun b o hb e => oth2 b o hb (oth b o hb (kp b o e))
 have I3 : Inv X pins σ H { s with heap := h3, toks := s.toks } := I.turnedL (L := [S]) (fun b o hb e => keep b o (fun z => hb (by simp [z])) e) fun b hb => by rw [y0o.mp hb]; exact fS
 have Z3 : ZipG h3 z ti ro j1 j2 a b 0 := (show ZipG s.heap z ti ro j1 j2 a b 0 from ⟨⟨_, _, Z.z, .inl rfl⟩, Z.ti, Z.ro, Z.j1, Z.j2⟩).move fun c hc o e => keep c o (fun q => hSf (q ▸ hc)) e
 refine wpAny_pure ⟨plainId_quiet F.plain_extend_loop _, zsm hne hn D X.A.in1 (I.ok.hd hc) hSf .none H xs.length 0 _ H _ [] rfl (y1b _) I3 (Same.refl _) (fun c hc => ?_) ha hb Z3 hS₄ rfl (fun j p e => by simp at e) fun s' H' ps' c' I' g' f' hL hl hp' => ?_⟩
 ·rcases y05.mp hc with rfl | hc
  ·exact fS
  ·exact hf c hc
 ·refine ⟨rfl, .ref S, upd H' S (.lst (ps'.map V.ref)), I'.take f' h0 ⟨by rw [y01]; exact zab (by omega), _, c', zho ps', hL⟩, rfl, ?_⟩
  have g2 : Same H' (upd H' S (.lst (ps'.map V.ref))) := za4 f'.1 _
  exact q S ps' _ fS.1 (g'.trans g2) zar hl fun j p e => by
   obtain ⟨x, y, a1, a2, a3⟩ := hp' j p e
   exact ⟨x, y, a1, a2, g2 _ _ a3⟩
end
def tListZip (K : Frag) (ta : TA) : TE := fun σ H Q => ta σ H fun vs H1 => ∃ a b xs ys, vs = [.ref a, .ref b] ∧ SqT K H1 a xs ∧ SqT K H1 b ys ∧ xs.length = ys.length ∧ xs.length ≤ 1000 ∧
 ∀ L ps H', H1 L = none → Same H1 H' → H' L = some (.lst (ps.map V.ref)) → ps.length = xs.length → PairsL H' xs ys ps → Q (.ref L) H'
theorem zi0 {X : Cx} {a b : Expr} {ta : TA} {p p2 pos pos2 : Pos} (hc : X.calm = true) (hgl : Gl X "list") (hml : X.mg "list" = none) (hgz : Gl X "zip") (hmz : X.mg "zip" = none) (ha : PA X [a, b] ta) (h1 : notStar a = true := by rfl) (h2 : notStar b = true := by rfl) :
  PE X (.Call (.Name "list" p) [.Call (.Name "zip" p2) [a, b] [] pos2] [] pos) (tListZip X.K ta) := by
 intro pins s σ H Q I h
 have hs2 : starEach [b] X.env = [(false, eval b X.env)] := by rw [zay h2, starEach.eq_def]
 have hs : starEach [a, b] X.env = [(false, eval a X.env), (false, eval b X.env)] := by rw [zay h1, hs2]
 have hz : starEach [.Call (.Name "zip" p2) [a, b] [] pos2] X.env = [(false, eval (.Call (.Name "zip" p2) [a, b] [] pos2) X.env)] := by rw [zay rfl, starEach.eq_def]
 refine Call_ (zc6 I hgl hml boot_list (PyProof.Rows.callWith_type1 ?_ hz rfl))
 rw [hz]
 refine Calls.spliced_cons (wpAny_mono (Call_ (zc6 I hgz hmz boot_zip (PyProof.Rows.callWith_type1 (thn (ha pos2 pins s σ H _ I h) fun us s1 ⟨vs, H1, I1, r1, q1⟩ => ?_) (by rw [hs, hs2]) (by rw [hs2]; rfl)))) (fun v s2 hq => Calls.spliced_nil hq) fun _ _ e => e)
 obtain ⟨p1, p3, xs, ys, e, hx, hy, hne, hn, q⟩ := q1
 subst e
 obtain ⟨u, v, rfl, ru, rv⟩ := vals2 r1
 cases (show u = Value.ref p1 from ru)
 cases (show v = Value.ref p3 from rv)
 obtain ⟨its1, _, t1, _⟩ := I1.tuple hx
 obtain ⟨its2, _, t2, _⟩ := I1.tuple hy
 have l1 : p1 < s1.heap.objs.size := by obtain ⟨_, e, _⟩ := t1; exact y0d e
 have l2 : p3 < s1.heap.objs.size := by obtain ⟨_, e, _⟩ := t2; exact y0d e
 refine zmm (show s1.heap.IsTuple p1 its1.toArray from t1) (show s1.heap.IsTuple p3 its2.toArray from t2) fun h' Z sz k => ?_
 refine zg0 hc hne hn (zipApart_new l1 l2) (I1.kept (t' := s1.toks) k) (fun c hc => ?_) hx hy Z q
 have hle : s1.heap.objs.size ≤ c := by
  simp only [y05, y0a, or_false] at hc
  rcases hc with rfl | rfl | rfl | rfl | rfl
  ·exact y1c _ _
  ·exact y1c _ _
  ·exact y1c _ _
  ·exact y06 _
  ·exact y1c _ _
 exact I1.fpOk hle (I1.hok.fresh hle)
end L2
namespace SM
open PySem PySem.Spec PyProof.Rows L2 SS
def zeg : Sp := fun vs H Q _ => ∃ (a b : Addr) (rs : List V) (ls fs : List (List Nat)), vs = [.ref a, .ref b] ∧ H a = some (.lst rs) ∧ Paired (Line H) rs ls ∧ ls.length ≤ 16 ∧ H b = some (.dT (tabF keyL 0 fs)) ∧ (∀ l ∈ ls, l ∈ fs) ∧ ∀ p H', Same H H' → H' p = some (.tup ((ls.map (nOf fs)).map nV)) → Q (.ref p) H'
def zdh (R : Hp → Prop) (T : Thg) (G : List Nat → Prop) : Sp := fun vs H Q _ => ∃ (a : Addr) (t : List Nat), vs = [.ref a] ∧ R H ∧ H a = some (.tup (t.map nV)) ∧ G t ∧ ∀ D rs H', H D = none → Same H H' → H' D = some (.lst rs) → Paired (Line H') rs (T.step t) → Q (.ref D) H'
def zgd (R : Hp → Prop) (T : Thg) (G : List Nat → Prop) : Sp := fun vs H Q _ => ∃ (a : Addr) (t : List Nat), vs = [.ref a] ∧ R H ∧ H a = some (.tup (t.map nV)) ∧ G t ∧ ∀ H', Same H H' → Q (.bl (T.fin t)) H'
def zgf (op : Bool → Bool → Bool) : Sp := fun vs H Q _ => ∃ a b : Bool, vs = [.bl a, .bl b] ∧ Q (.bl (op a b)) H
def ExQ (T : Thg) (t0 : List Nat) (H : Hp) (Q : VK) : Prop := ∀ p m' H', Same H H' → RepM H' p m' → m'.Ok → m'.w = T.w → Canon m' → (∀ row, (∀ l ∈ row, l < 2 ^ T.w) → m'.fin (m'.run 0 row) = T.fin (T.run t0 row)) → Q (.ref p) H'
def zel (P : Program) (w : World) (K : Frag) (mg : T1) (base : Heap) (Pt : Addr) (qs : T3) : Sp := fun vs H Q _ => ∃ (a fc fe : Addr) (fd fd' : FuncData) (T : Thg) (G : List Nat → Prop) (R : Hp → Prop) (t0 : List Nat),
 vs = [nV T.w, .ref a, .ref fc, .ref fe] ∧ TabOk H Pt qs ∧ H a = some (.tup (t0.map nV)) ∧ H fc = some (fnO fd fc) ∧ H fe = some (fnO fd' fe) ∧ CloH P w K mg base 4 H fc 1 (zdh R T G) ∧ CloH P w K mg base 4 H fe 1 (zgd R T G) ∧ R H ∧ (∀ H1 H2, Same H1 H2 → R H1 → R H2) ∧ T.w ≤ 4 ∧ G t0 ∧
 (∀ t, G t → (T.step t).length = 2 ^ T.w ∧ ∀ u ∈ T.step t, G u) ∧ (∀ fs k, Fnd T G t0 fs k → fs.length ≤ 100) ∧ ExQ T t0 H Q
def sprd (m : Mc) (f : Nat → Nat) (W : Nat) : Mc := ⟨W, m.ways.map fun line => (List.range (2 ^ W)).map fun l => line.getD (f l) 0, m.ends⟩
theorem zsq {m : Mc} {f : Nat → Nat} {W r l : Nat} (ok : m.Ok) (hr : r < m.n) (hl : l < 2 ^ W) : (sprd m f W).go r l = m.go r (f l) := by
 have h1 : r < m.ways.length := by rw [ok.len]; exact hr
 simp only [Mc.go, sprd, y02, y04, y00 h1, y2c, y0u, y1j hl]
theorem zir {m : Mc} {f : Nat → Nat} {W : Nat} (ok : m.Ok) (hW : W ≤ 4) (hf : ∀ l, l < 2 ^ W → f l < 2 ^ m.w) : (sprd m f W).Ok := by
 refine ⟨hW, ok.pos, ok.few, ?_, fun ln hl => ?_, fun ln hl r hr => ?_⟩
 ·show (m.ways.map _).length = m.ends.length
  rw [y01]; exact ok.len
 ·obtain ⟨line, _, rfl⟩ := y0m.mp hl
  rw [y01, y17]
  rfl
 ·obtain ⟨line, ml, rfl⟩ := y0m.mp hl
  obtain ⟨l, h, rfl⟩ := y0m.mp hr
  have h1 := hf l (y15.mp h)
  have h2 : f l < line.length := by rw [ok.line line ml]; exact h1
  show line.getD (f l) 0 < m.ends.length
  rw [y02, y00 h2, y0u]
  exact ok.room line ml _ (y0g h2)
theorem zd5 {m : Mc} {f : Nat → Nat} {W : Nat} (ok : m.Ok) (hf : ∀ l, l < 2 ^ W → f l < 2 ^ m.w) : ∀ (row : List Nat) (r : Nat), r < m.n → (∀ l ∈ row, l < 2 ^ W) → (sprd m f W).run r row = m.run r (row.map f)
 | [], _, _, _ => rfl
 | l :: row, r, hr, h => by
  have hl := h l y0c
  rw [Mc.run_cons, y0k, Mc.run_cons, zsq ok hr hl]
  exact zd5 ok hf row _ (ok.go_lt hr (hf l hl)) fun x hx => h x (y09 _ hx)
theorem zpv (m : Mc) (f : Nat → Nat) (W r : Nat) : (sprd m f W).fin r = m.fin r := rfl
def loI (l : Int) : List Nat → Nat → Int
 | [], _ => 0
 | t :: ts, i => Builtin.bitAnd (l / 2 ^ t) 1 * 2 ^ i + loI l ts (i + 1)
def loL (l : Int) : List Nat → Nat → List Int
 | [], _ => []
 | t :: ts, i => Builtin.bitAnd (l / 2 ^ t) 1 * 2 ^ i :: loL l ts (i + 1)
theorem zn7 (l : Int) : ∀ (ts : List Nat) (i : Nat), (loL l ts i).sum = loI l ts i
 | [], _ => rfl
 | t :: ts, i => by rw [loL, loI, y3k, zn7 l ts]
theorem zr4 (l : Int) : ∀ (ts : List Nat) (i j : Nat), (loL l ts i)[j]? = ts[j]?.map fun t => Builtin.bitAnd (l / 2 ^ t) 1 * 2 ^ (i + j)
 | [], _, _ => by simp [loL]
 | t :: ts, i, 0 => by simp [loL]
 | t :: ts, i, j + 1 => by
  rw [loL, y0t, zr4 l ts, y0t]
  congr 1
  funext t
  rw [show i + 1 + j = i + (j + 1) by omega]
def back (bs : List Nat) : Nat := bs.reverse.foldl (fun f b => 2 * f + b) 0
theorem zpg : ∀ l, l < 32 → ∀ t, t < 5 → (Builtin.bitAnd ((l : Nat) : Int) 1).natAbs < 2 ∧ (Builtin.bitAnd (((l : Nat) : Int) / 2 ^ t) 1).natAbs < 2 := by decide +kernel
def zej : Sp := fun vs H Q _ => ∃ (l : Nat) (a : Addr) (ts : List Nat), vs = [nV l, .ref a] ∧ l < 32 ∧ H a = some (.lst (ts.map nV)) ∧ ts.length ≤ 5 ∧ (∀ t ∈ ts, t ≤ 4) ∧ ∀ H', Same H H' → Q (.int (loI l ts 0)) H'
def zgc : Sp := fun vs H Q _ => ∃ (c : Int), vs = [.int c] ∧ ∀ r : Int, 0 ≤ r → r < 999999999989 → Q (.int r) H
def cnt (m : Mc) : Nat → Nat → Nat
 | 0, r => if m.fin r = true then 1 else 0
 | k + 1, r => ((m.ways.getD r []).map (cnt m k)).sum
def cl (m : Mc) (k : Nat) : List Nat := (List.range m.ends.length).map (cnt m k)
def cw (row : List Nat) (k : Nat) : Nat := (row.filter fun l => l / 2 ^ k % 2 == 1).length
def isP (z : Str) : Bool := isNm (.str z) SMALL
def NmOk (z : Str) : Prop := Nam z SMALL ∨ Nam z GREAT
def FrOk (names : List Str) : Prop := names.length ≤ 4 ∧ ∀ z ∈ names, NmOk z
theorem zqz {z : Str} (h : NmOk z) : z.length ≤ 1000 := by
 have key : ∀ l, Nam z l → z.length ≤ 1000 := fun l hl => by
  obtain ⟨d, ds, e, _, h3, _⟩ := hl.ex
  have : z.length = z.cps.toList.length := by simp [Str.length]
  rw [this, e, y0i]
  omega
 rcases h with h | h
 ·exact key _ h
 ·exact key _ h
theorem zr3 {z l : Str} {d : Nat} {ds : List Nat} (e : z.cps.toList = d :: ds) (h1 : d ∈ l.cps.toList) (h2 : ds.length ≤ 3) (h3 : ∀ x ∈ ds, x ∈ FIGS.cps.toList) : Nam z l := ⟨d, ds, e, h1, h2, h3⟩
def fcnt (row : List Nat) (k : Nat) : Nat := (row.filter fun l => l / 2 ^ k % 2 == 1).length
def fitP (ps : List Nat) (row : List Nat) : Bool := ps.all fun k => fcnt row k == 1
theorem zh4 (row : List Nat) (l k : Nat) : fcnt (row ++ [l]) k = fcnt row k + if l / 2 ^ k % 2 == 1 then 1 else 0 := by
 unfold fcnt
 rw [y2o, y0j]
 by_cases h : (l / 2 ^ k % 2 == 1) = true
 ·rw [y1r (p := fun l => l / 2 ^ k % 2 == 1) h, if_pos h]; rfl
 ·rw [y1s (p := fun l => l / 2 ^ k % 2 == 1) h, if_neg h]; rfl
def fput (l : Nat) (f : List Nat) (k : Nat) : List Nat := if l / 2 ^ k % 2 == 1 then f.set k (min 2 (f.getD k 0 + 1)) else f
def fstep (ps : List Nat) (t : List Nat) (l : Nat) : List Nat := if t = [2] then [2] else if 2 ∈ ps.foldl (fput l) t then [2] else ps.foldl (fput l) t
def ffin (ps : List Nat) (t : List Nat) : Bool := decide (t ≠ [2]) && ps.all fun k => t.getD k 0 == 1
def fitT (w : Nat) (ps : List Nat) : Thg := ⟨w, fun t => (List.range (2 ^ w)).map (fstep ps t), ffin ps⟩
def fst0 (w : Nat) : List Nat := List.replicate w 0
def fstate (w : Nat) (ps : List Nat) (row : List Nat) : List Nat := if ps.any fun k => decide (2 ≤ fcnt row k) then [2] else (List.range w).map fun k => if k ∈ ps then fcnt row k else 0
theorem zgr (l : Nat) : ∀ (ps : List Nat) (f : List Nat), (ps.foldl (fput l) f).length = f.length
 | [], f => rfl
 | k :: ps, f => by
  rw [List.foldl_cons, zgr l ps]
  unfold fput
  split <;> simp
theorem zoi (l : Nat) : ∀ (ps : List Nat) (f : List Nat), ps.Nodup → (∀ k ∈ ps, k < f.length) → ∀ j, (ps.foldl (fput l) f).getD j 0 = if j ∈ ps ∧ (l / 2 ^ j % 2 == 1) = true then min 2 (f.getD j 0 + 1) else f.getD j 0
 | [], f, _, _, j => by simp
 | k :: ps, f, hn, hk, j => by
  rw [y0y] at hn
  have hlen : (fput l f k).length = f.length := zgr l [k] f
  have ih := zoi l ps (fput l f k) hn.2 (fun i hi => by rw [hlen]; exact hk i (y09 _ hi)) j
  rw [List.foldl_cons, ih]
  have kl := hk k y0c
  by_cases hb : (l / 2 ^ k % 2 == 1) = true
  ·have e : fput l f k = f.set k (min 2 (f.getD k 0 + 1)) := by unfold fput; rw [if_pos hb]
   rw [e]
   by_cases hj : j = k
   ·subst hj
    have e2 : (f.set j (min 2 (f.getD j 0 + 1))).getD j 0 = min 2 (f.getD j 0 + 1) := by rw [y02, y3c kl]; rfl
    rw [e2, if_neg (fun z => hn.1 z.1), if_pos ⟨y0c, hb⟩]
   ·have e2 : (f.set k (min 2 (f.getD k 0 + 1))).getD j 0 = f.getD j 0 := by rw [y02, y3h (Ne.symm hj), ← y02]
    rw [e2]
    by_cases hm : j ∈ ps ∧ (l / 2 ^ j % 2 == 1) = true
    ·rw [if_pos hm, if_pos ⟨y09 _ hm.1, hm.2⟩]
    ·rw [if_neg hm, if_neg fun z => hm ⟨(y05.mp z.1).resolve_left hj, z.2⟩]
  ·have e : fput l f k = f := by unfold fput; rw [if_neg hb]
   rw [e]
   by_cases hm : j ∈ ps ∧ (l / 2 ^ j % 2 == 1) = true
   ·rw [if_pos hm, if_pos ⟨y09 _ hm.1, hm.2⟩]
   ·rw [if_neg hm, if_neg fun z => hm ⟨(y05.mp z.1).resolve_left fun q => hb (by rw [← q]; exact z.2), z.2⟩]
theorem getD_mem {f : List Nat} {j : Nat} (h : j < f.length) : f.getD j 0 ∈ f := by
 rw [y02, y00 h]; exact y0g h
theorem zk3 {f g : List Nat} (hl : f.length = g.length) (h : ∀ j, j < f.length → f.getD j 0 = g.getD j 0) : f = g := by
 refine y2a hl fun j h1 h2 => ?_
 have := h j h1
 rw [y02, y00 h1, y02, y00 h2] at this
 exact this
theorem zkr (w : Nat) (g : Nat → Nat) (j : Nat) : ((List.range w).map g).getD j 0 = if j < w then g j else 0 := by
 rw [y02, y04]
 by_cases h : j < w
 ·rw [if_pos h, y1j h]; rfl
 ·rw [if_neg h, y1m (by simpa using h)]; rfl
section
variable {w : Nat} {ps : List Nat}
theorem ze9 {row : List Nat} (h : (ps.any fun k => decide (2 ≤ fcnt row k)) = false) : ∀ k ∈ ps, fcnt row k ≤ 1 := fun k hk => by
 have := y3o.mp h k hk
 have := of_decide_eq_false (y1h.mpr this)
 omega
theorem zdy {row : List Nat} (h : (ps.any fun k => decide (2 ≤ fcnt row k)) = false) : fstate w ps row ≠ [2] := fun e => by
 have hk := ze9 h
 unfold fstate at e
 rw [h, if_neg (by simp)] at e
 have : 2 ∈ (List.range w).map fun k => if k ∈ ps then fcnt row k else 0 := by rw [e]; simp
 obtain ⟨k, _, e2⟩ := y0m.mp this
 split at e2
 ·rename_i hm; have := hk k hm; omega
 ·omega
theorem zjh (hn : ps.Nodup) (hp : ∀ k ∈ ps, k < w) (row : List Nat) (l : Nat) : fstep ps (fstate w ps row) l = fstate w ps (row ++ [l]) := by
 cases h : ps.any fun k => decide (2 ≤ fcnt row k) with
 | true =>
  have e1 : fstate w ps row = [2] := by unfold fstate; rw [h]; rfl
  have h2 : (ps.any fun k => decide (2 ≤ fcnt (row ++ [l]) k)) = true := by
   obtain ⟨k, hk, h3⟩ := y20.mp h
   refine y20.mpr ⟨k, hk, decide_eq_true ?_⟩
   have := of_decide_eq_true h3
   rw [zh4]
   omega
  unfold fstep
  rw [e1, if_pos rfl]
  unfold fstate
  rw [h2]
  rfl
 | false =>
  have hk := ze9 h
  have al := zdy (w := w) h
  unfold fstep
  rw [if_neg al]
  have e1 : fstate w ps row = (List.range w).map fun k => if k ∈ ps then fcnt row k else 0 := by unfold fstate; rw [h]; rfl
  have len : (fstate w ps row).length = w := by rw [e1]; simp
  have at1 := zoi l ps (fstate w ps row) hn (fun k hk => by rw [len]; exact hp k hk)
  have at2 : ∀ j, j < w → (ps.foldl (fput l) (fstate w ps row)).getD j 0 = if j ∈ ps then min 2 (fcnt (row ++ [l]) j) else 0 := fun j hj => by
   rw [at1 j, e1, zkr, if_pos hj, zh4]
   by_cases hm : j ∈ ps
   ·have := hk j hm
    rw [if_pos hm, if_pos hm]
    by_cases hb : (l / 2 ^ j % 2 == 1) = true
    ·rw [if_pos ⟨hm, hb⟩, if_pos hb]
    ·rw [if_neg fun z => hb z.2, if_neg hb]; omega
   ·rw [if_neg fun z => hm z.1, if_neg hm, if_neg hm]
  have len2 : (ps.foldl (fput l) (fstate w ps row)).length = w := by rw [zgr, len]
  have two : 2 ∈ ps.foldl (fput l) (fstate w ps row) ↔ (ps.any fun k => decide (2 ≤ fcnt (row ++ [l]) k)) = true := by
   constructor
   ·intro m
    obtain ⟨j, hj, e⟩ := y28 m
    have := at2 j (by rw [← len2]; exact hj)
    rw [y02, y00 hj, y0u, e] at this
    split at this
    ·rename_i hm; exact y20.mpr ⟨j, hm, decide_eq_true (by omega)⟩
    ·omega
   ·intro m
    obtain ⟨k, hm, h3⟩ := y20.mp m
    have h4 := of_decide_eq_true h3
    have := at2 k (hp k hm)
    rw [if_pos hm, show min 2 (fcnt (row ++ [l]) k) = 2 by omega] at this
    rw [← this]
    exact getD_mem (by rw [len2]; exact hp k hm)
  unfold fstate
  cases h2 : ps.any fun k => decide (2 ≤ fcnt (row ++ [l]) k) with
  | true => rw [if_pos (by rw [← fstate] ; exact two.mpr h2)]; rfl
  | false =>
   rw [if_neg (by rw [← fstate]; exact fun z => by rw [two.mp z] at h2; cases h2)]
   have hk2 := ze9 h2
   rw [← fstate]
   refine zk3 (by rw [len2]; simp) fun j hj => ?_
   rw [len2] at hj
   rw [at2 j hj]
   show _ = ((List.range w).map fun k => if k ∈ ps then fcnt (row ++ [l]) k else 0).getD j 0
   rw [zkr, if_pos hj]
   split
   ·rename_i hm; have := hk2 j hm; omega
   ·rfl
theorem zrd {t : List Nat} {l : Nat} (hl : l < 2 ^ w) : ((fitT w ps).step t).getD l [] = fstep ps t l := by
 show ((List.range (2 ^ w)).map (fstep ps t)).getD l [] = _
 rw [y02, y04, y1j hl]
 rfl
theorem fstate0 (w : Nat) (ps : List Nat) : fstate w ps [] = fst0 w := by
 have h : (ps.any fun k => decide (2 ≤ fcnt [] k)) = false := y3o.mpr fun k _ => by simp [fcnt]
 unfold fstate
 rw [h]
 refine zk3 (by simp [fst0]) fun j hj => ?_
 show ((List.range w).map fun k => if k ∈ ps then fcnt [] k else 0).getD j 0 = _
 rw [zkr]
 have : (fst0 w).getD j 0 = 0 := by
  unfold fst0
  rw [y02, y2n]
  split <;> rfl
 rw [this]
 simp [fcnt]
theorem frun (hn : ps.Nodup) (hp : ∀ k ∈ ps, k < w) : ∀ (row pre : List Nat), (∀ l ∈ row, l < 2 ^ w) → (fitT w ps).run (fstate w ps pre) row = fstate w ps (pre ++ row)
 | [], pre, _ => by rw [y13]; rfl
 | l :: row, pre, h => by
  rw [Thg.run_cons, zrd (h l y0c), zjh hn hp, frun hn hp row _ fun x hx => h x (y09 _ hx), y37]
  rfl
theorem frun0 (hn : ps.Nodup) (hp : ∀ k ∈ ps, k < w) (row : List Nat) (h : ∀ l ∈ row, l < 2 ^ w) : (fitT w ps).run (fst0 w) row = fstate w ps row := by
 rw [← fstate0 w ps, frun hn hp row [] h]
 rfl
theorem zme (hp : ∀ k ∈ ps, k < w) (row : List Nat) : ffin ps (fstate w ps row) = fitP ps row := by
 cases h : ps.any fun k => decide (2 ≤ fcnt row k) with
 | true =>
  have e1 : fstate w ps row = [2] := by unfold fstate; rw [h]; rfl
  obtain ⟨k, hk, h3⟩ := y20.mp h
  have h4 := of_decide_eq_true h3
  have : fitP ps row = false := by
   refine y1h.mpr fun z => ?_
   have := y0p.mp z k hk
   rw [beq_iff_eq] at this
   omega
  rw [this, e1]
  rfl
 | false =>
  have al := zdy (w := w) h
  have e1 : fstate w ps row = (List.range w).map fun k => if k ∈ ps then fcnt row k else 0 := by unfold fstate; rw [h]; rfl
  unfold ffin fitP
  rw [decide_eq_true al, y1a]
  have : ∀ k ∈ ps, ((fstate w ps row).getD k 0 == 1) = (fcnt row k == 1) := fun k hk => by
   rw [e1, zkr, if_pos (hp k hk), if_pos hk]
  rw [y1v, y0p, y0p]
  exact ⟨fun z k hk => by rw [← this k hk]; exact z k hk, fun z k hk => by rw [this k hk]; exact z k hk⟩
theorem zol (hn : ps.Nodup) (hp : ∀ k ∈ ps, k < w) (row : List Nat) (h : ∀ l ∈ row, l < 2 ^ w) : (fitT w ps).fin ((fitT w ps).run (fst0 w) row) = fitP ps row := by
 rw [frun0 hn hp row h]
 exact zme hp row
end
def explF (T : Thg) : Nat → List (List Nat) → Nat → List (List Nat)
 | 0, fs, _ => fs
 | n + 1, fs, a => match fs[a]? with
  | some t => explF T n (news fs (T.step t)) (a + 1)
  | none => fs
theorem zh5 {T : Thg} {first : List Nat} : ∀ (n : Nat) (fs : List (List Nat)) (a : Nat), Fnd T (fun _ => True) first fs a → (explF T n fs a).length < a + n → Fnd T (fun _ => True) first (explF T n fs a) (explF T n fs a).length
 | 0, fs, a, h, hl => by have := h.le; unfold explF at hl; omega
 | n + 1, fs, a, h, hl => by
  unfold explF at hl ⊢
  cases e : fs[a]? with
  | some t =>
   rw [e] at hl
   exact zh5 n _ _ (h.next e fun _ _ => trivial) (by simp only at hl ⊢; omega)
  | none =>
   have : a = fs.length := by
    have := List.getElem?_eq_none_iff.mp e
    have := h.le
    omega
   simp only
   rw [← this]
   exact h
def fitS (w : Nat) (ps : List Nat) : List (List Nat) := explF (fitT w ps) 40 [fst0 w] 0
def fitM (w : Nat) (ps : List Nat) : Mc := expl (fitT w ps) (fitS w ps)
def ordF : Nat → List Nat → Option Nat
 | t, [] => some t
 | t, x :: xs => if x ≤ t then ordF t xs else if x = t + 1 then ordF (t + 1) xs else none
theorem zi2 : ∀ (xs : List Nat) (t u : Nat), ordF t xs = some u → t ≤ u
 | [], t, u, h => by cases h; exact y06 _
 | x :: xs, t, u, h => by
  unfold ordF at h
  split at h
  ·exact zi2 xs t u h
  ·split at h
   ·have := zi2 xs _ u h; omega
   ·cases h
theorem zi1 : ∀ (xs : List Nat) (t u : Nat), ordF t xs = some u → (∀ (i x b : Nat), xs[i]? = some x → t < b → b < x → ∃ j, j < i ∧ xs[j]? = some b) ∧ (∀ x ∈ xs, x ≤ u) ∧ ∀ b, t < b → b ≤ u → ∃ j : Nat, xs[j]? = some b
 | [], t, u, h => by cases h; exact ⟨fun i x b e => by simp at e, fun x hx => by simp at hx, fun b h1 h2 => by omega⟩
 | y :: xs, t, u, h => by
  unfold ordF at h
  have ge := zi2
  by_cases c : y ≤ t
  ·rw [if_pos c] at h
   obtain ⟨h1, h2, h3⟩ := zi1 xs t u h
   have := ge xs t u h
   refine ⟨fun i x b e hb hx => ?_, fun x hx => ?_, fun b hb hu => ?_⟩
   ·cases i with
    | zero => simp at e; omega
    | succ i =>
     rw [y0t] at e
     obtain ⟨j, hj, ej⟩ := h1 i x b e hb hx
     exact ⟨j + 1, by omega, by rw [y0t]; exact ej⟩
   ·rcases y05.mp hx with rfl | hx
    ·omega
    ·exact h2 x hx
   ·obtain ⟨j, ej⟩ := h3 b hb hu
    exact ⟨j + 1, by rw [y0t]; exact ej⟩
  ·rw [if_neg c] at h
   by_cases c2 : y = t + 1
   ·rw [if_pos c2] at h
    obtain ⟨h1, h2, h3⟩ := zi1 xs (t + 1) u h
    have := ge xs _ u h
    refine ⟨fun i x b e hb hx => ?_, fun x hx => ?_, fun b hb hu => ?_⟩
    ·cases i with
     | zero => simp at e; omega
     | succ i =>
      rw [y0t] at e
      by_cases hbt : b = t + 1
      ·exact ⟨0, by omega, by rw [hbt, ← c2]; rfl⟩
      ·obtain ⟨j, hj, ej⟩ := h1 i x b e (by omega) hx
       exact ⟨j + 1, by omega, by rw [y0t]; exact ej⟩
    ·rcases y05.mp hx with rfl | hx
     ·omega
     ·exact h2 x hx
    ·by_cases hbt : b = t + 1
     ·exact ⟨0, by rw [hbt, ← c2]; rfl⟩
     ·obtain ⟨j, ej⟩ := h3 b (by omega) hu
      exact ⟨j + 1, by rw [y0t]; exact ej⟩
   ·rw [if_neg c2] at h
    cases h
def flatW (m : Mc) : List Nat := (List.range (m.n * 2 ^ m.w)).map fun i => m.go (i / 2 ^ m.w) (i % 2 ^ m.w)
def canonB (m : Mc) : Bool := (ordF 0 (flatW m) == some (m.n - 1)) && ((List.range m.n).all fun b => b == 0 || decide ((flatW m).idxOf b < b * 2 ^ m.w)) &&
 ((List.range m.n).all fun i => (List.range i).all fun j => (List.range (2 ^ m.w)).any fun l => m.fin (m.go i l) != m.fin (m.go j l))
theorem zrg {m : Mc} {r l : Nat} (hr : r < m.n) (hl : l < 2 ^ m.w) : (flatW m)[r * 2 ^ m.w + l]? = some (m.go r l) := by
 have hp : 0 < 2 ^ m.w := y3j (y1b _) hl
 have e1 : (r * 2 ^ m.w + l) / 2 ^ m.w = r := by rw [y2y, Nat.mul_add_div hp, Nat.div_eq_of_lt hl, Nat.add_zero]
 have e2 : (r * 2 ^ m.w + l) % 2 ^ m.w = l := by rw [y2y, Nat.mul_add_mod, Nat.mod_eq_of_lt hl]
 have hlt : r * 2 ^ m.w + l < m.n * 2 ^ m.w := by
  have : (r + 1) * 2 ^ m.w ≤ m.n * 2 ^ m.w := y2v _ hr
  rw [Nat.add_mul, Nat.one_mul] at this
  omega
 unfold flatW
 rw [y04, y1j hlt]
 show some (m.go ((r * 2 ^ m.w + l) / 2 ^ m.w) ((r * 2 ^ m.w + l) % 2 ^ m.w)) = _
 rw [e1, e2]
theorem zk2 {m : Mc} {i x : Nat} (h : (flatW m)[i]? = some x) : i / 2 ^ m.w < m.n ∧ i % 2 ^ m.w < 2 ^ m.w ∧ m.go (i / 2 ^ m.w) (i % 2 ^ m.w) = x := by
 have hp : 0 < 2 ^ m.w := y3d _
 have hi := (y0b.mp h).1
 unfold flatW at hi h
 rw [y01, y17] at hi
 rw [y04, y1j hi] at h
 exact ⟨Nat.div_lt_of_lt_mul (by rw [y2y]; exact hi), y3x _ hp, Option.some.inj h⟩
theorem zpb {m : Mc} (h : canonB m = true) (h0 : 0 < m.n) : Canon m := by
 unfold canonB at h
 rw [y08, y08] at h
 obtain ⟨⟨h1, h2⟩, h3⟩ := h
 have h1' : ordF 0 (flatW m) = some (m.n - 1) := by simpa using h1
 obtain ⟨o1, o2, o3⟩ := zi1 _ _ _ h1'
 have hp : 0 < 2 ^ m.w := y3d _
 refine ⟨⟨fun r l b hr hl hb hlt => ?_, fun b hb hn => ?_⟩, fun i j hi hj p => ?_⟩
 ·obtain ⟨k, hk, ek⟩ := o1 _ _ b (zrg hr hl) hb hlt
  obtain ⟨q1, q2, q3⟩ := zk2 ek
  refine ⟨k / 2 ^ m.w, k % 2 ^ m.w, q2, ?_, q3⟩
  have hd := Nat.div_add_mod k (2 ^ m.w)
  by_cases c : k / 2 ^ m.w < r
  ·exact .inl c
  ·have hr' : r * 2 ^ m.w ≤ k / 2 ^ m.w * 2 ^ m.w := y2v _ (by omega)
   have c2 : k / 2 ^ m.w = r := by
    by_cases c3 : k / 2 ^ m.w = r
    ·exact c3
    ·have : (r + 1) * 2 ^ m.w ≤ k / 2 ^ m.w * 2 ^ m.w := y2v _ (by omega)
     rw [Nat.add_mul, Nat.one_mul] at this
     rw [y2y] at hd
     omega
   refine .inr ⟨c2, ?_⟩
   rw [y2y, c2] at hd
   omega
 ·have := y0p.mp h2 b (y15.mpr hn)
  rw [y2x, beq_iff_eq, decide_eq_true_eq] at this
  have hx : (flatW m).idxOf b < b * 2 ^ m.w := this.resolve_left (by omega)
  obtain ⟨j, ej⟩ := o3 b hb (by omega)
  have hm : b ∈ flatW m := y0h ej
  have e := zb1 hm
  obtain ⟨q1, q2, q3⟩ := zk2 e
  exact ⟨nOf (flatW m) b / 2 ^ m.w, nOf (flatW m) b % 2 ^ m.w, Nat.div_lt_of_lt_mul (by rw [y2y]; exact hx), q2, q3⟩
 ·have key : ∀ i j, i < m.n → j < i → ¬ Par m i m j := fun i j hi hj p => by
   have := y0p.mp (y0p.mp h3 i (y15.mpr hi)) j (y15.mpr hj)
   obtain ⟨l, hl, hne⟩ := y20.mp this
   have := (p.go (y15.mp hl)).fin
   rw [this] at hne
   simp at hne
  by_cases c : i = j
  ·exact c
  ·rcases Nat.lt_or_gt_of_ne c with c | c
   ·exact absurd (p.symm rfl) (key j i hj c)
   ·exact absurd p (key i j hi c)
def manyOf (p : Nat) : Nat := [1, 3, 5, 9, 17].getD p 0
def psOf (bs : List Bool) : List Nat := (List.range bs.length).filter fun k => bs.getD k false
def bools : Nat → List (List Bool)
 | 0 => [[]]
 | n + 1 => (bools n).flatMap fun l => [false :: l, true :: l]
theorem zii : ∀ (bs : List Bool), bs ∈ bools bs.length
 | [] => by simp [bools]
 | b :: bs => by
  have ih := zii bs
  show b :: bs ∈ (bools bs.length).flatMap fun l => [false :: l, true :: l]
  refine List.mem_flatMap.mpr ⟨bs, ih, ?_⟩
  cases b <;> simp
def caseB (bs : List Bool) : Bool := canonB (fitM bs.length (psOf bs)) && decide ((fitS bs.length (psOf bs)).length = manyOf (psOf bs).length)
theorem cases4 : ∀ n, n ≤ 4 → ∀ bs ∈ bools n, caseB bs = true := by decide +kernel
theorem zrh {bs : List Bool} (h : bs.length ≤ 4) : caseB bs = true := cases4 bs.length h bs (zii bs)
theorem ps_nd (bs : List Bool) : (psOf bs).Nodup := List.Nodup.sublist List.filter_sublist List.nodup_range
theorem ps_lt (bs : List Bool) : ∀ k ∈ psOf bs, k < bs.length := fun k hk => y15.mp (y2d.mp hk).1
theorem zrx (bs : List Bool) : (psOf bs).length ≤ bs.length := by
 have := y1i (fun k => bs.getD k false) (List.range bs.length)
 rw [y17] at this
 exact this
theorem zn5 {p : Nat} (h : p ≤ 4) : 1 ≤ manyOf p ∧ manyOf p ≤ 17 := by
 have : p = 0 ∨ p = 1 ∨ p = 2 ∨ p = 3 ∨ p = 4 := by omega
 rcases this with rfl | rfl | rfl | rfl | rfl <;> decide
structure FitM (bs : List Bool) : Prop where
 fnd : Fnd (fitT bs.length (psOf bs)) (fun _ => True) (fst0 bs.length) (fitS bs.length (psOf bs)) (fitS bs.length (psOf bs)).length
 len : (fitS bs.length (psOf bs)).length = manyOf (psOf bs).length
 ok : (fitM bs.length (psOf bs)).Ok
 canon : Canon (fitM bs.length (psOf bs))
 takes : ∀ row, (∀ l ∈ row, l < 2 ^ bs.length) → (fitM bs.length (psOf bs)).fin ((fitM bs.length (psOf bs)).run 0 row) = fitP (psOf bs) row
theorem zdz (w : Nat) (ps t : List Nat) : ((fitT w ps).step t).length = 2 ^ (fitT w ps).w := by simp [fitT]
theorem fitm {bs : List Bool} (h : bs.length ≤ 4) : FitM bs := by
 have hc := zrh h
 unfold caseB at hc
 rw [y08, decide_eq_true_eq] at hc
 have hm := zn5 (y10 (zrx bs) h)
 have fnd : Fnd (fitT bs.length (psOf bs)) (fun _ => True) (fst0 bs.length) (fitS bs.length (psOf bs)) (fitS bs.length (psOf bs)).length :=
  zh5 40 _ 0 (.start trivial) (by have := hc.2; unfold fitS at this; omega)
 have ok := zor (T := fitT bs.length (psOf bs)) h fnd (by omega) fun t _ => zdz _ _ _
 refine ⟨fnd, hc.2, ok, zpb hc.1 ok.pos, fun row hr => ?_⟩
 show (expl (fitT bs.length (psOf bs)) (fitS bs.length (psOf bs))).fin _ = _
 rw [show fitM bs.length (psOf bs) = expl (fitT bs.length (psOf bs)) (fitS bs.length (psOf bs)) from rfl, zf4 fnd (fun t _ => zdz _ _ _) row hr, zol (ps_nd bs) (ps_lt bs) row hr]
theorem fit_one {bs : List Bool} (h : bs.length ≤ 4) {m : Mc} (ok : m.Ok) (c : Canon m) (hw : m.w = bs.length) (t : ∀ row, m.Row row → m.fin (m.run 0 row) = fitP (psOf bs) row) : m = fitM bs.length (psOf bs) := by
 have F := fitm h
 refine zib hw ok F.ok c F.canon fun row hr => ?_
 rw [t row hr, F.takes row fun l hl => by rw [← hw]; exact hr l hl]
def justM : Mc := ⟨1, [[0, 1], [1, 2], [2, 2]], [false, true, false]⟩
def anyM : Mc := ⟨0, [[0]], [true]⟩
theorem zjg : justM.Ok := by
 refine ⟨by decide, by decide, by decide, by decide, ?_, ?_⟩
 ·intro l hl
  simp only [justM, y05, y0a, or_false] at hl
  rcases hl with rfl | rfl | rfl <;> rfl
 ·intro l hl r hr
  simp only [justM, y05, y0a, or_false] at hl
  rcases hl with rfl | rfl | rfl <;> (simp only [y05, y0a, or_false] at hr; show r < 3; omega)
theorem zpn : anyM.Ok := by
 refine ⟨by decide, by decide, by decide, by decide, ?_, ?_⟩
 ·intro l hl
  simp only [anyM, y05, y0a, or_false] at hl
  rw [hl]; rfl
 ·intro l hl r hr
  simp only [anyM, y05, y0a, or_false] at hl
  rw [hl] at hr
  rw [y0o.mp hr]
  decide
def bitN (t l : Nat) : Nat := l / 2 ^ t % 2
theorem ztt : ∀ r, r < 3 → ∀ b, b < 2 → justM.go r b = min 2 (r + b) := by decide
theorem zkw (t : Nat) : ∀ (row : List Nat) (r : Nat), r ≤ 2 → justM.run r (row.map (bitN t)) = min 2 (r + fcnt row t)
 | [], r, hr => by show r = min 2 (r + 0); omega
 | l :: row, r, hr => by
  have hb : bitN t l < 2 := y3x _ (by decide)
  rw [y0k, Mc.run_cons, ztt r (by omega) _ hb, zkw t row _ (by omega)]
  have e : fcnt (l :: row) t = bitN t l + fcnt row t := by
   unfold fcnt bitN
   by_cases h : (l / 2 ^ t % 2 == 1) = true
   ·rw [y1r (p := fun l => l / 2 ^ t % 2 == 1) h, y0i]
    have := beq_iff_eq.mp h
    omega
   ·rw [y1s (p := fun l => l / 2 ^ t % 2 == 1) h]
    have h1 : ¬ l / 2 ^ t % 2 = 1 := fun z => h (beq_iff_eq.mpr z)
    have : l / 2 ^ t % 2 < 2 := y3x _ (by decide)
    omega
  rw [e]
  omega
theorem zq8 : ∀ r, r ≤ 2 → justM.fin r = (r == 1) := by decide
theorem zl8 (t : Nat) (row : List Nat) : justM.fin (justM.run 0 (row.map (bitN t))) = (fcnt row t == 1) := by
 rw [zkw t row 0 (by decide), zq8 _ (by omega)]
 by_cases h : fcnt row t = 1
 ·rw [h]; rfl
 ·rw [show (fcnt row t == 1) = false by simp [h], show (min 2 (0 + fcnt row t) == 1) = false by rw [beq_eq_false_iff_ne]; omega]
theorem zpm : ∀ row : List Nat, (∀ l ∈ row, l = 0) → anyM.run 0 row = 0
 | [], _ => rfl
 | l :: row, h => by
  rw [Mc.run_cons, h l y0c]
  exact zpm row fun x hx => h x (y09 _ hx)
def sofar (bs : List Bool) (i : Nat) : List Bool := (List.range bs.length).map fun k => decide (k < i) && bs.getD k false
theorem zbx (bs : List Bool) (i : Nat) : (sofar bs i).length = bs.length := by simp [sofar]
theorem zb5 (bs : List Bool) (i k : Nat) (hk : k < bs.length) : (sofar bs i).getD k false = (decide (k < i) && bs.getD k false) := by
 unfold sofar
 rw [y02, y04, y1j hk]
 rfl
theorem zmx (bs : List Bool) : sofar bs bs.length = bs := by
 refine y2a (zbx bs _) fun k h1 h2 => ?_
 have := zb5 bs bs.length k h2
 rw [decide_eq_true h2, y1a, y02, y00 h1, y02, y00 h2] at this
 exact this
theorem zgs (bs : List Bool) (row : List Nat) : fitP (psOf bs) row = true ↔ ∀ k, k < bs.length → bs.getD k false = true → fcnt row k = 1 := by
 unfold fitP psOf
 rw [y0p]
 constructor
 ·intro h k hk hb
  exact beq_iff_eq.mp (h k (y2d.mpr ⟨y15.mpr hk, hb⟩))
 ·intro h k hk
  obtain ⟨h1, h2⟩ := y2d.mp hk
  exact beq_iff_eq.mpr (h k (y15.mp h1) h2)
theorem zon (bs : List Bool) (row : List Nat) : fitP (psOf (sofar bs 0)) row = true := (zgs _ _).mpr fun k hk hb => by
 rw [zbx] at hk
 rw [zb5 bs 0 k hk] at hb
 simp at hb
theorem zoo {bs : List Bool} {i : Nat} (hi : i < bs.length) (hb : bs.getD i false = true) (row : List Nat) : fitP (psOf (sofar bs (i + 1))) row = (fitP (psOf (sofar bs i)) row && (fcnt row i == 1)) := by
 rw [y1v, y08, zgs, zgs, zbx, zbx, beq_iff_eq]
 constructor
 ·intro h
  refine ⟨fun k hk z => h k hk ?_, h i hi ?_⟩
  ·rw [zb5 bs i k hk, y08, decide_eq_true_eq] at z
   rw [zb5 bs _ k hk, y08, decide_eq_true_eq]
   exact ⟨by omega, z.2⟩
  ·rw [zb5 bs _ i hi, y08, decide_eq_true_eq]
   exact ⟨by omega, hb⟩
 ·rintro ⟨h1, h2⟩ k hk z
  rw [zb5 bs _ k hk, y08, decide_eq_true_eq] at z
  by_cases c : k = i
  ·rw [c]; exact h2
  ·exact h1 k hk (by rw [zb5 bs _ k hk, y08, decide_eq_true_eq]; exact ⟨by omega, z.2⟩)
theorem zom {bs : List Bool} {i : Nat} (hi : i < bs.length) (hb : bs.getD i false = false) : sofar bs (i + 1) = sofar bs i := by
 refine y1u fun k hk => ?_
 by_cases c : k = i
 ·rw [c, hb, y1q, y1q]
 ·congr 1
  exact decide_eq_decide.mpr ⟨fun z => by omega, fun z => by omega⟩
theorem fit_n {bs : List Bool} (h : bs.length ≤ 4) {m : Mc} (ok : m.Ok) (c : Canon m) (hw : m.w = bs.length) (t : ∀ row, m.Row row → m.fin (m.run 0 row) = fitP (psOf bs) row) : m.n = manyOf (psOf bs).length ∧ m.n ≤ 17 := by
 have F := fitm h
 have e := fit_one h ok c hw t
 have hn : m.n = (fitS bs.length (psOf bs)).length := by rw [e]; show (List.map _ _).length = _; rw [y01]
 have hm := zn5 (y10 (zrx bs) h)
 rw [F.len] at hn
 exact ⟨hn, by omega⟩
theorem zfh {m : Mc} (ok : m.Ok) (h : m.n = 1) : Canon m := by
 refine ⟨⟨fun r l b hr hl hb hlt => ?_, fun b hb hn => ?_⟩, fun i j hi hj _ => ?_⟩
 ·have := ok.go_lt hr hl
  omega
 ·omega
 ·omega
end SM
namespace L2
theorem fb_enum {K : Frag} {a : Addr} {xs : List V} {g : TG} {tb : TS} {D : Ends} {σ0 : St} {H1 : Hp} (Pv : Nat → St → Hp → Prop) (h0 : Pv 0 σ0 H1) (hl : ∀ i σ H, i ≤ xs.length → Pv i σ H → SqL K H a xs)
  (hs : ∀ i x σ H p H2, xs[i]? = some x → Pv i σ H → New H p (.tup [.int (i : Int), x]) H2 → g (.ref p) σ H2 fun σ2 H2 => tb { D with nx := Pv (i + 1), ct := Pv (i + 1), bk := D.nx } σ2 H2)
  (hd : ∀ σ H, Pv xs.length σ H → D.nx σ H) : fBody g tb D σ0 (Ite K a) H1 := by
 refine ⟨fun i m σ H => m = xs.length - i ∧ i ≤ xs.length ∧ Pv i σ H, ⟨xs.length, by simp, y1b _, h0⟩, ?_⟩
 rintro i m σ H ⟨rfl, hi, p⟩
 have q1 := hl i σ H hi p
 by_cases hlt : i < xs.length
 ·refine .inr ⟨⟨xs, xs[i], q1, y00 hlt⟩, Pv (i + 1), fun σ' H' p' => ⟨xs.length - (i + 1), by omega, rfl, hlt, p'⟩, fun x H' y => ?_⟩
  obtain ⟨p1, u, e, n1, ex⟩ := y
  subst e
  exact hs i u σ H p1 H' (ex xs q1) p n1
 ·have e : i = xs.length := by omega
  subst e
  exact .inl ⟨⟨xs, q1, y06 _⟩, hd σ H p⟩
end L2
namespace SM
open PySem PySem.Spec PyProof.Rows L2 SS
def EndsK (K : Frag) (H : Hp) (c : Addr) (bs : List Bool) : Prop := H c = some (.tup (bs.map V.bl)) ∨ ∀ H', SqT K H' c (bs.map V.bl)
theorem EndsK.sq {K : Frag} {H : Hp} {c : Addr} {bs : List Bool} (h : EndsK K H c bs) : SqT K H c (bs.map V.bl) := h.elim .of fun z => z H
theorem EndsK.ts {K : Frag} {H H' : Hp} {c : Addr} {bs : List Bool} (h : EndsK K H c bs) (g : TupS H H') : EndsK K H' c bs := h.imp (g _ _) id
def RepMK (K : Frag) (H : Hp) (a : Addr) (m : Mc) : Prop := ∃ (b c : Addr) (rs : List V), H a = some (.tup [nV m.w, .ref b, .ref c]) ∧ H b = some (.tup rs) ∧ Paired (Line H) rs m.ways ∧ EndsK K H c m.ends
theorem RepM.k {K : Frag} {H : Hp} {a : Addr} {m : Mc} (h : RepM H a m) : RepMK K H a m := let ⟨b, c, rs, h1, h2, h3, h4⟩ := h; ⟨b, c, rs, h1, h2, h3, .inl h4⟩
theorem RepMK.ts {K : Frag} {H H' : Hp} {a : Addr} {m : Mc} (h : RepMK K H a m) (g : TupS H H') : RepMK K H' a m := by
 obtain ⟨b, c, rs, h1, h2, h3, h4⟩ := h
 exact ⟨b, c, rs, g _ _ h1, g _ _ h2, L2.Paired.mapP h3 fun _ _ z => z.ts g, h4.ts g⟩
theorem RepMK.same {K : Frag} {H H' : Hp} {a : Addr} {m : Mc} (h : RepMK K H a m) (g : Same H H') : RepMK K H' a m := h.ts g.tups
def CMach (K : Frag) (a : Addr) (m : Mc) : Prop := ∃ (b c : Addr) (ls : List Addr), (∀ H, SqT K H a [nV m.w, .ref b, .ref c]) ∧ (∀ H, SqT K H b (ls.map V.ref)) ∧ Paired (fun l line => ∀ H, SqT K H l (line.map nV)) ls m.ways ∧ ∀ H, SqT K H c (m.ends.map V.bl)
theorem cm_mk {K : Frag} {h : Heap} {mg : T1} {x : Str} {p b c : Addr} {m : Mc} {ls : List Addr} (X : K.In h) (G : h.Ns mainGlobals mg) (a : PySem.W.nsIn K mainGlobals x = some (some (.ref p))) (hp : ∀ H, SqT K H p [nV m.w, .ref b, .ref c]) (hb : ∀ H, SqT K H b (ls.map V.ref)) (hl : Paired (fun l line => ∀ H, SqT K H l (line.map nV)) ls m.ways) (hc : ∀ H, SqT K H c (m.ends.map V.bl)) : ∃ q, GlV mg x (.ref q) ∧ CMach K q m :=
 ⟨p, ⟨.ref p, PySem.W.mg_of X G a, rfl⟩, b, c, ls, hp, hb, hl, hc⟩
def zdt (K : Frag) : Sp := fun vs H Q _ => ∃ (a b : Addr) (l line : List Nat), vs = [.ref a, .ref b] ∧ H a = some (.lst (l.map nV)) ∧ l.length ≤ 32 ∧ (∀ H', SqT K H' b (line.map nV)) ∧ (∀ x ∈ l, x < line.length) ∧
 ∀ p H', Same H H' → H' p = some (.tup ((l.map fun x => line.getD x 0).map nV)) → Q (.ref p) H'
def zdf (K : Frag) : Sp := fun vs H Q _ => ∃ (a b : Addr) (m : Mc) (ts : List Nat) (W : Nat) (f : Nat → Nat), vs = [.ref a, .ref b, nV W] ∧ CMach K a m ∧ m.Ok ∧ H b = some (.lst (ts.map nV)) ∧ ts.length ≤ 5 ∧ (∀ t ∈ ts, t ≤ 4) ∧ W ≤ 4 ∧
 (∀ l : Nat, l < 2 ^ W → loI (l : Int) ts 0 = (f l : Int) ∧ f l < 2 ^ m.w) ∧ ∀ p H', Same H H' → RepMK K H' p (sprd m f W) → Q (.ref p) H'
def zfn (P : Program) (w : World) (K : Frag) (mg : T1) (base : Heap) (Pr : Addr) (qr : T3) (Pp : Addr) (qp : T3) : Sp := fun vs H Q _ => ∃ (a b f : Addr) (fd : FuncData) (m1 m2 : Mc) (op : Bool → Bool → Bool),
 vs = [.ref a, .ref b, .ref f] ∧ TabOk H Pr qr ∧ TabOk H Pp qp ∧ RepMK K H a m1 ∧ RepMK K H b m2 ∧ m1.Ok ∧ m2.Ok ∧ m1.w = m2.w ∧ m1.n * m2.n ≤ 100 ∧ H f = some (fnO fd f) ∧ CloH P w K mg base 2 H f 2 (zgf op) ∧
 ∀ p m' H', Same H H' → RepM H' p m' → m'.Ok → m'.w = m1.w → Canon m' → (∀ row, m1.Row row → m'.fin (m'.run 0 row) = op (m1.fin (m1.run 0 row)) (m2.fin (m2.run 0 row))) → Q (.ref p) H'
def zit (K : Frag) (Pr : Addr) (qr : T3) (Pp : Addr) (qp : T3) (Pm : Addr) (qm : T3) (op : Bool → Bool → Bool) : Sp := fun vs H Q _ => ∃ (a b : Addr) (m1 m2 : Mc),
 vs = [.ref a, .ref b] ∧ TabOk H Pr qr ∧ TabOk H Pp qp ∧ TabOk H Pm qm ∧ RepMK K H a m1 ∧ RepMK K H b m2 ∧ m1.Ok ∧ m2.Ok ∧ m1.w = m2.w ∧ m1.n * m2.n ≤ 100 ∧
 ∀ p m' H', Same H H' → RepM H' p m' → m'.Ok → m'.w = m1.w → Canon m' → (∀ row, m1.Row row → m'.fin (m'.run 0 row) = op (m1.fin (m1.run 0 row)) (m2.fin (m2.run 0 row))) → Q (.ref p) H'
def bsOf (names : List Str) : List Bool := names.map isP
structure FitR (names : List Str) (m : Mc) : Prop where
 ok : m.Ok
 canon : Canon m
 w : m.w = names.length
 takes : ∀ row, m.Row row → m.fin (m.run 0 row) = fitP (psOf (bsOf names)) row
def zka (K : Frag) (Pr : Addr) (qr : T3) (Pp : Addr) (qp : T3) (Pm : Addr) (qm : T3) : Sp := fun vs H Q _ => ∃ (a : Addr) (names : List Str), vs = [.ref a] ∧ TabOk H Pr qr ∧ TabOk H Pp qp ∧ TabOk H Pm qm ∧ H a = some (.lst (names.map V.str)) ∧ FrOk names ∧
 ∀ p m H', Same H H' → RepMK K H' p m → FitR names m → Q (.ref p) H'
theorem bit_lo : ∀ t, t < 4 → ∀ l : Nat, l < 16 → loI (l : Int) [t] 0 = (bitN t l : Int) := by decide +kernel
theorem zpe {names : List Str} {i : Nat} {z : Str} (h : names[i]? = some z) : (bsOf names).getD i false = isP z := by
 unfold bsOf
 rw [y02, y04, h]
 rfl
theorem zed (names : List Str) : (bsOf names).length = names.length := y01 _
def zj9 (K : Frag) : Sp := fun vs H Q _ => ∃ (a b : Addr) (m : Mc) (row : List Nat), vs = [.ref a, .ref b] ∧ RepMK K H a m ∧ m.Ok ∧ SqL K H b (row.map nV) ∧ (∀ l ∈ row, l < 2 ^ m.w) ∧ row.length ≤ 300 ∧
 ∀ D H', H D = none → Same H H' → H' D = some (.lst ((m.path 0 row).map nV)) → Q (.ref D) H'
def zg9 (K : Frag) : Sp := fun vs H Q _ => ∃ (a b : Addr) (m : Mc) (row : List Nat), vs = [.ref a, .ref b] ∧ RepMK K H a m ∧ m.Ok ∧ SqL K H b (row.map nV) ∧ (∀ l ∈ row, l < 2 ^ m.w) ∧ row.length ≤ 300 ∧
 ∀ H', Same H H' → Q (.bl (m.fin (m.run 0 row))) H'
open PySem
def rowWords : List Str := ["in", "same", "within", "ahead", "next"]
def bst (wd : Str) (l : Nat) (one other : Bool) : Nat :=
 if l ≤ 1 then l else if l = 2 then
  (if wd = "within" then (if one && !other then 0 else 2)
  else if !one && (!other || decide (wd = "in")) then 2
  else if decide (wd = "in") || decide (wd = "same") then (if one && other then 1 else 0)
  else if other then 0 else if wd = "ahead" then 1 else 3)
 else if one then 1 else 0
def bit (c k : Nat) : Bool := c / 2 ^ k % 2 == 1
def bstep (wd : Str) (i j : Nat) (l c : Nat) : Nat := if l ≤ 1 then l else if l = 2 then bst wd 2 (bit c i) (bit c j) else bst wd 3 (bit c j) (bit c j)
def brun (wd : Str) (i j : Nat) (l : Nat) (row : List Nat) : Nat := row.foldl (bstep wd i j) l
def aend (wd : Str) (l : Nat) : Bool := decide (l = 1) || (decide (l = 2) && decide (wd = "within"))
def plc (k : Nat) : Nat → List Nat → List Nat
 | _, [] => []
 | o, c :: r => if bit c k then o :: plc k (o + 1) r else plc k (o + 1) r
theorem zes {k : Nat} : ∀ {o : Nat} {r : List Nat} {x : Nat}, x ∈ plc k o r → o ≤ x
 | o, [], x, h => by simp [plc] at h
 | o, c :: r, x, h => by
  unfold plc at h
  split at h
  ·rcases y05.mp h with e | e
   ·omega
   ·have := zes e; omega
  ·have := zes h; omega
theorem za7 {wd : Str} {i j l : Nat} (h : l ≤ 1) : ∀ r : List Nat, brun wd i j l r = l
 | [] => rfl
 | c :: r => by
  show brun wd i j (bstep wd i j l c) r = l
  rw [show bstep wd i j l c = l by unfold bstep; rw [if_pos h]]
  exact za7 h r
theorem zbq {wd : Str} {i j l c : Nat} {r : List Nat} : brun wd i j l (c :: r) = brun wd i j (bstep wd i j l c) r := rfl
theorem zea {k o : Nat} {r : List Nat} : o ∉ plc k (o + 1) r := fun h => by have := zes h; omega
theorem b_within {i j : Nat} : ∀ (r : List Nat) (o : Nat), aend "within" (brun "within" i j 2 r) = (plc i o r).all fun x => decide (x ∈ plc j o r)
 | [], o => by simp [brun, plc, aend]
 | c :: r, o => by
  have ih := b_within (i := i) (j := j) r (o + 1)
  rw [zbq]
  have hs : bstep "within" i j 2 c = if bit c i && !bit c j then 0 else 2 := by
   show bst "within" 2 (bit c i) (bit c j) = _
   cases bit c i <;> cases bit c j <;> decide +kernel
  rw [hs]
  cases hi : bit c i <;> cases hj : bit c j <;> simp only [plc, hi, hj, y2r, y1q, y39, y34, if_true, if_false, y1d, Bool.true_eq_false]
  ·exact ih
  ·rw [ih]
   refine List.all_congr_mem fun x hx => ?_
   have : x ≠ o := by have := zes hx; omega
   simp [this]
  ·rw [za7 (by decide)]
   simp [aend, zea]
  ·rw [y1o, ih]
   simp only [y05, true_or, decide_true, y1a]
   refine List.all_congr_mem fun x hx => ?_
   have : x ≠ o := by have := zes hx; omega
   simp [this]
where
 List.all_congr_mem {l : List Nat} {p q : Nat → Bool} (h : ∀ x ∈ l, p x = q x) : l.all p = l.all q := by
  induction l with
  | nil => rfl
  | cons x l ih => rw [y1o, y1o, h x y0c, ih fun y hy => h y (y09 _ hy)]
theorem b_in {i j : Nat} : ∀ (r : List Nat) (o : Nat), (plc i o r).length = 1 → aend "in" (brun "in" i j 2 r) = (plc i o r).all fun x => decide (x ∈ plc j o r)
 | [], o, h => by simp [plc] at h
 | c :: r, o, h => by
  rw [zbq]
  have hs : bstep "in" i j 2 c = if !bit c i then 2 else if bit c i && bit c j then 1 else 0 := by
   show bst "in" 2 (bit c i) (bit c j) = _
   cases bit c i <;> cases bit c j <;> decide +kernel
  rw [hs]
  cases hi : bit c i
  ·simp only [plc, hi, y34, if_true, y1d, if_false] at h ⊢
   have ih := b_in (i := i) (j := j) r (o + 1) h
   rw [ih]
   refine b_within.List.all_congr_mem fun x hx => ?_
   have : x ≠ o := by have := zes hx; omega
   split <;> simp [this]
  ·simp only [plc, hi, if_true, y0i] at h
   have e : plc i (o + 1) r = [] := y2l.mp (by omega)
   cases hj : bit c j <;> simp only [plc, hi, hj, e, y39, y2r, y1q, if_true, if_false, y1d]
   ·rw [za7 (by decide)]; simp [aend, zea]
   ·rw [za7 (by decide)]; simp [aend]
theorem zsi {i j : Nat} : ∀ (r : List Nat) (o : Nat), (plc i o r).length = 1 → (plc j o r).length = 1 → aend "same" (brun "same" i j 2 r) = decide (plc i o r = plc j o r)
 | [], o, h, _ => by simp [plc] at h
 | c :: r, o, h, h' => by
  rw [zbq]
  have hs : bstep "same" i j 2 c = if !bit c i && !bit c j then 2 else if bit c i && bit c j then 1 else 0 := by
   show bst "same" 2 (bit c i) (bit c j) = _
   cases bit c i <;> cases bit c j <;> decide +kernel
  rw [hs]
  cases hi : bit c i <;> cases hj : bit c j <;> simp only [plc, hi, hj, y39, y34, y2r, y1q, if_true, if_false, y1d, y0i] at h h' ⊢
  ·exact zsi r (o + 1) h h'
  ·rw [za7 (by decide)]
   have : ¬ plc i (o + 1) r = o :: plc j (o + 1) r := fun e => zea (k := i) (r := r) (by rw [e]; exact y0c)
   simp [aend, this]
  ·rw [za7 (by decide)]
   have : ¬ o :: plc i (o + 1) r = plc j (o + 1) r := fun e => zea (k := j) (r := r) (by rw [← e]; exact y0c)
   simp [aend, this]
  ·rw [za7 (by decide)]
   have e1 : plc i (o + 1) r = [] := y2l.mp (by omega)
   have e2 : plc j (o + 1) r = [] := y2l.mp (by omega)
   simp [aend, e1, e2]
theorem zrb {k o : Nat} {r : List Nat} (h : (plc k o r).length = 1) : o ≤ (plc k o r).getD 0 0 := by
 match e : plc k o r, h with
 | [x], _ => exact zes (k := k) (r := r) (by rw [e]; exact y0c)
theorem zpk {i j : Nat} : ∀ (r : List Nat) (o : Nat), (plc i o r).length = 1 → (plc j o r).length = 1 → aend "ahead" (brun "ahead" i j 2 r) = decide ((plc i o r).getD 0 0 < (plc j o r).getD 0 0)
 | [], o, h, _ => by simp [plc] at h
 | c :: r, o, h, h' => by
  rw [zbq]
  have hs : bstep "ahead" i j 2 c = if !bit c i && !bit c j then 2 else if bit c j then 0 else 1 := by
   show bst "ahead" 2 (bit c i) (bit c j) = _
   cases bit c i <;> cases bit c j <;> decide +kernel
  rw [hs]
  cases hi : bit c i <;> cases hj : bit c j <;> simp only [plc, hi, hj, y39, y34, y2r, y1q, if_true, if_false, y1d, y0i] at h h' ⊢
  ·exact zpk r (o + 1) h h'
  ·rw [za7 (by decide)]
   have := zrb h
   simp only [y29]
   rw [decide_eq_false (by omega)]; rfl
  ·rw [za7 (by decide)]
   have := zrb h'
   simp only [y29]
   rw [decide_eq_true (by omega)]; rfl
  ·rw [za7 (by decide)]; simp [aend]
theorem b_here {i j : Nat} : ∀ (r : List Nat) (o : Nat), (plc j o r).length = 1 → aend "next" (brun "next" i j 3 r) = decide (o = (plc j o r).getD 0 0)
 | [], o, h => by simp [plc] at h
 | c :: r, o, h => by
  rw [zbq]
  have hs : bstep "next" i j 3 c = if bit c j then 1 else 0 := by
   show bst "next" 3 (bit c j) (bit c j) = _
   cases bit c i <;> cases bit c j <;> decide +kernel
  rw [hs]
  cases hj : bit c j <;> simp only [plc, hj, if_true, if_false, y1d] at h ⊢
  ·rw [za7 (by decide)]
   have := zrb h
   rw [decide_eq_false (by omega)]; rfl
  ·rw [za7 (by decide)]; simp [aend]
theorem zsj {i j : Nat} : ∀ (r : List Nat) (o : Nat), (plc i o r).length = 1 → (plc j o r).length = 1 → aend "next" (brun "next" i j 2 r) = decide ((plc i o r).getD 0 0 + 1 = (plc j o r).getD 0 0)
 | [], o, h, _ => by simp [plc] at h
 | c :: r, o, h, h' => by
  rw [zbq]
  have hs : bstep "next" i j 2 c = if !bit c i && !bit c j then 2 else if bit c j then 0 else 3 := by
   show bst "next" 2 (bit c i) (bit c j) = _
   cases bit c i <;> cases bit c j <;> decide +kernel
  rw [hs]
  cases hi : bit c i <;> cases hj : bit c j <;> simp only [plc, hi, hj, y39, y34, y2r, y1q, if_true, if_false, y1d, y0i] at h h' ⊢
  ·exact zsj r (o + 1) h h'
  ·rw [za7 (by decide)]
   have := zrb h
   simp only [y29]
   rw [decide_eq_false (by omega)]; rfl
  ·rw [b_here r (o + 1) h']
   simp only [y29]
  ·rw [za7 (by decide)]
   simp only [y29]
   rw [decide_eq_false (by omega)]; rfl
theorem zfs {k : Nat} : ∀ (row : List Nat) (o : Nat), plc k o row = (((List.range row.length).filter fun x => bit (row.getD x 0) k).map (· + o))
 | [], o => rfl
 | c :: r, o => by
  rw [y0i, y1x, y1p, List.filter_map]
  have ih := zfs (k := k) r (o + 1)
  have e : (((List.range r.length).filter ((fun x => bit ((c :: r).getD x 0) k) ∘ Nat.succ)).map Nat.succ).map (· + o) = plc k (o + 1) r := by
   rw [ih, y0r]
   refine (y1u fun x _ => ?_).trans rfl
   show x + 1 + o = x + (o + 1)
   omega
  show plc k o (c :: r) = _
  unfold plc
  rw [y29]
  cases h : bit c k
  ·simp only [y1d, if_false]; exact e.symm
  ·simp only [if_true, y0k, y3p]; rw [e]
def wth (row : List Nat) (k : Nat) : List Nat := (List.range row.length).filter fun x => bit (row.getD x 0) k
theorem zer {k : Nat} (row : List Nat) : plc k 0 row = wth row k := by
 rw [zfs]
 show List.map (fun x => x + 0) _ = _
 simp [wth]
theorem zm7 {k : Nat} : ∀ (row : List Nat) (o : Nat), (plc k o row).length = (row.filter fun c => bit c k).length
 | [], o => rfl
 | c :: r, o => by
  unfold plc
  rw [y1p]
  cases bit c k <;> simp [zm7 r (o + 1)]
def due (wd : Str) (p q : List Nat) : Bool := if wd = "in" ∨ wd = "within" then p.all fun x => decide (x ∈ q) else if wd = "same" then decide (p = q) else if wd = "ahead" then decide (p.getD 0 0 < q.getD 0 0) else decide (p.getD 0 0 + 1 = q.getD 0 0)
theorem b_due {wd : Str} {i j : Nat} {row : List Nat} (hw : wd ∈ rowWords) (h1 : wd ≠ "within" → (wth row i).length = 1) (h2 : wd ≠ "within" → wd ≠ "in" → (wth row j).length = 1) : aend wd (brun wd i j 2 row) = due wd (wth row i) (wth row j) := by
 rw [← zer, ← zer] at *
 simp only [rowWords, y05, y0a, or_false] at hw
 rcases hw with rfl | rfl | rfl | rfl | rfl
 ·exact (b_in row 0 (h1 (by decide))).trans (by unfold due; rw [if_pos (by decide)])
 ·exact (zsi row 0 (h1 (by decide)) (h2 (by decide) (by decide))).trans (by unfold due; rw [if_neg (by decide), if_pos rfl])
 ·exact (b_within row 0).trans (by unfold due; rw [if_pos (by decide)])
 ·exact (zpk row 0 (h1 (by decide)) (h2 (by decide) (by decide))).trans (by unfold due; rw [if_neg (by decide), if_neg (by decide), if_pos rfl])
 ·exact (zsj row 0 (h1 (by decide)) (h2 (by decide) (by decide))).trans (by unfold due; rw [if_neg (by decide), if_neg (by decide), if_neg (by decide)])
end SM
namespace L2
theorem idx_le : ∀ (zs : List Str) (m : Nat) (h : m < zs.length), zs.idxOf zs[m] ≤ m
 | y :: r, 0, h => by simp
 | y :: r, m + 1, h => by
  rw [y2m]
  have := idx_le r m (by simpa using h)
  cases (y == (y :: r)[m + 1])
  ·simp only [cond_false, List.getElem_cons_succ]; omega
  ·simp
def rIndexT (K : Frag) : V → List V → Hp → VK → Prop := fun x vs H Q => ∃ (p : Addr) (zs : List Str) (z : Str), x = .ref p ∧ vs = [.str z] ∧ SqL K H p (zs.map V.str) ∧ z ∈ zs ∧ zs.length ≤ 1000 ∧ Q (.int ((zs.idxOf z : Nat) : Int)) H
theorem zn3 {X : Cx} (hu : X.A.units + 8 < cLine) : MtR X "list.index" (rIndexT X.K) := by
 intro pins s σ H x xs v us Q I rx rs h
 obtain ⟨p, zs, z, rfl, rfl, hx, hk, hz, q⟩ := h
 cases rx
 obtain ⟨u, rfl, t, rfl⟩ := vals1 rs
 obtain ⟨vs, rv, pl, _⟩ := I.list hx
 have hlen := rv.length
 rw [y01] at hlen
 have hv : ∀ (i : Nat) (hi : i < zs.length), ∃ (h : i < vs.length) (t : Tok), vs[i] = .str zs[i] t := fun i hi => by
  obtain ⟨h', y⟩ := rv.at (j := i) (by omega)
  rw [y3s] at y
  obtain ⟨t, e⟩ := (show ∃ t, vs[i] = Value.str zs[i] t from y)
  exact ⟨by omega, t, e⟩
 obtain ⟨⟨cls, dd, data, sl⟩, ho, hc, n, hd⟩ := pl.isList
 simp only at hc hd
 subst hc hd
 have hj : zs.idxOf z < zs.length := y0s.mpr hk
 let e' : Value → Bool := fun | .str b _ => decide (b = z) | _ => false
 refine call_meets PySem.F.slot_list_index ⟨_, ho, rfl⟩ PySem.F.entry_list_index (PySem.F.args_list_index_2 _ _)
  (SeqAt.list_indexAt p vs.toArray n dd sl (.str z t) e' (zs.idxOf z) (by simp; omega) (by omega) ?_ ?_) ⟨ho, fun y hy => ?_, ?_⟩
 ·obtain ⟨h, t', e⟩ := hv _ hj
  show e' vs[zs.idxOf z] = true
  rw [e]
  exact decide_eq_true (y2b hj)
 ·intro m hm hlt
  have hm' : m < zs.length := by simp at hm; omega
  obtain ⟨h, t', e⟩ := hv m hm'
  show e' vs[m] = false
  rw [e]
  refine decide_eq_false fun c => ?_
  have h2 : zs.idxOf z ≤ m := by
   rw [← c]
   exact idx_le zs m hm'
  omega
 ·obtain ⟨i, hi, rfl⟩ := y28 (show y ∈ vs by simpa using hy)
  obtain ⟨h, t', e⟩ := hv i (by omega)
  rw [e]
  exact zb2 (X := X) (k := 0) (H := H) (x := .str zs[i]) (y := .str z) rfl rfl pins σ s X.A.in1 _ _ (by show X.A.units + 1 + 0 < cLine; omega) I ⟨t', rfl⟩ ⟨t, rfl⟩
 ·exact ⟨.int _, H, I.tok _, ⟨_, rfl⟩, q⟩
theorem zdm {X : Cx} (K : Frag) (hu : X.A.units + 8 < cLine) (h : X.K = K := by rfl) : MtR X "list.index" (rIndexT K) := h ▸ zn3 hu
end L2
namespace SM
open PySem PySem.Spec PyProof.Rows L2 SS
structure BareIn (tl : List Str) (wd n m : Str) (i j : Nat) : Prop where
 hw : wd ∈ rowWords
 ei : tl.idxOf n = i
 hi : i < tl.length
 ej : tl.idxOf m = j
 hj : j < tl.length
 fr : frameB (tl.map V.str) = true
 ok : letB treeWords 4 tl (.bare wd n m) = true
 wf : wfB (.bare wd n m) = true
def zfo : Sp := fun vs H Q _ => ∃ (b : Addr) (tl : List Str), vs = [.ref b] ∧ H b = some (.lst (tl.map V.str)) ∧ tl.length ≤ 4 ∧ (∀ z ∈ tl, z.length ≤ 4) ∧ frameB (tl.map V.str) = true ∧ ∀ H', Same H H' → Q .non H'
def zj6 : Sp := fun vs H Q _ => ∃ (v : V) (b : Addr) (tl : List Str) (wd n m : Str) (i j : Nat), vs = [v, .ref b] ∧ Rep H v (.bare wd n m) ∧ H b = some (.lst (tl.map V.str)) ∧ tl.length ≤ 4 ∧ (∀ z ∈ tl, z.length ≤ 4) ∧ BareIn tl wd n m i j ∧ ∀ H', Same H H' → Q .non H'
def frames10 : List (List Str) := [["x", "X"], ["X", "x"], ["x", "y"], ["X", "Y"], ["y", "X", "x"], ["X", "x", "Y"], ["y", "x"], ["x"], ["X"], ["x", "Y", "X"], ["x", "X", "y"]]
def isXY (z : Str) : Bool := decide (z ∈ (["x", "y"] : List Str))
def isSS (z : Str) : Bool := decide (z ∈ (["X", "Y"] : List Str))
def okS (wd n m : Str) : Bool := (decide (wd ∈ (["same", "ahead", "next"] : List Str)) && (isXY n && isXY m)) || (decide (wd = "in") && (isXY n && isSS m)) || (decide (wd = "within") && (isSS n && isSS m))
theorem fr10 {tl : List Str} (h : tl ∈ frames10) : (1 ≤ tl.length ∧ tl.length ≤ 3) ∧ FrOk tl ∧ (∀ z ∈ tl, z.length ≤ 4) ∧ frameB (tl.map V.str) = true ∧ ∀ k, k < tl.length → isP (tl.getD k (Str.ofString "")) = isXY (tl.getD k (Str.ofString "")) := by
 have nx : ∀ z : Str, z ∈ (["x", "y"] : List Str) → NmOk z := fun z hz => by
  refine .inl ?_
  simp only [y05, y0a, or_false] at hz
  rcases hz with rfl | rfl <;> exact zr3 rfl (by decide +kernel) (by decide) (by intro x hx; cases hx)
 have nX : ∀ z : Str, z ∈ (["X", "Y"] : List Str) → NmOk z := fun z hz => by
  refine .inr ?_
  simp only [y05, y0a, or_false] at hz
  rcases hz with rfl | rfl <;> exact zr3 rfl (by decide +kernel) (by decide) (by intro x hx; cases hx)
 have h1 : ∀ tl ∈ frames10, (1 ≤ tl.length ∧ tl.length ≤ 3) ∧ (∀ z ∈ tl, z ∈ (["x", "y"] : List Str) ∨ z ∈ (["X", "Y"] : List Str)) ∧ (∀ z ∈ tl, z.length ≤ 4) ∧ ∀ k, k < tl.length → isP (tl.getD k (Str.ofString "")) = isXY (tl.getD k (Str.ofString "")) := by decide +kernel
 have h2 : ∀ tl ∈ frames10, frameB (tl.map V.str) = true := by decide +kernel
 obtain ⟨a, b, c, d⟩ := h1 tl h
 exact ⟨a, ⟨by omega, fun z hz => (b z hz).elim (nx z) (nX z)⟩, c, h2 tl h, d⟩
theorem bare10 {tl : List Str} (h : tl ∈ frames10) {wd n m : Str} (hn : n ∈ tl) (hm : m ∈ tl) (ok : okS wd n m = true) : BareIn tl wd n m (tl.idxOf n) (tl.idxOf m) := by
 have hw : wd ∈ SM.rowWords := by
  simp only [okS, y2x, y08, decide_eq_true_eq] at ok
  rcases ok with (⟨h, _⟩ | ⟨h, _⟩) | ⟨h, _⟩
  ·simp only [y05, y0a, or_false] at h
   rcases h with rfl | rfl | rfl <;> decide
  ·subst h; decide
  ·subst h; decide
 have h1 : ∀ tl ∈ frames10, ∀ wd ∈ SM.rowWords, ∀ n ∈ tl, ∀ m ∈ tl, okS wd n m = true → letB treeWords 4 tl (.bare wd n m) = true ∧ wfB (.bare wd n m) = true := by decide +kernel
 obtain ⟨a, b⟩ := h1 tl h wd hw n hn m hm ok
 exact ⟨hw, rfl, y0s.mpr hn, rfl, y0s.mpr hm, (fr10 h).2.2.2.1, a, b⟩
def clr (k c : Nat) : Nat := c - c / 2 ^ k % 2 * 2 ^ k
theorem zia {n k k' c : Nat} (hn : n ≤ 3) (hk : k < n) (hk' : k' < n) (hc : c < 2 ^ n) : clr k c < 2 ^ n ∧ bit (clr k c) k' = (bit c k' && !decide (k' = k)) ∧ (bit c k = false → c + 2 ^ k < 2 ^ n ∧ bit (c + 2 ^ k) k' = (bit c k' || decide (k' = k))) := by
 have h : ∀ (n : Fin 4) (k k' : Fin 3) (c : Fin 8), k.val < n.val → k'.val < n.val → c.val < 2 ^ n.val → clr k.val c.val < 2 ^ n.val ∧ bit (clr k.val c.val) k'.val = (bit c.val k'.val && !decide (k'.val = k.val)) ∧ (bit c.val k.val = false → c.val + 2 ^ k.val < 2 ^ n.val ∧ bit (c.val + 2 ^ k.val) k'.val = (bit c.val k'.val || decide (k'.val = k.val))) := by decide +kernel
 have : 2 ^ n ≤ 8 := y2f (by decide) hn
 exact h ⟨n, by omega⟩ ⟨k, by omega⟩ ⟨k', by omega⟩ ⟨c, by omega⟩ hk hk' hc
theorem zc9 (row : List Nat) (k : Nat) : cw row k = (row.filter fun c => bit c k).length := rfl
theorem zmn (row : List Nat) (k : Nat) : (wth row k).length = cw row k := by rw [← zer, zm7]; rfl
theorem zsf {f : Nat → Nat} {k : Nat} : ∀ {row : List Nat}, (∀ c ∈ row, bit (f c) k = bit c k) → cw (row.map f) k = cw row k
 | [], _ => rfl
 | c :: r, h => by
  have ih := zsf (f := f) (k := k) (row := r) fun x hx => h x (y09 _ hx)
  rw [zc9, zc9] at ih ⊢
  rw [y0k, y1p, y1p, h c y0c]
  cases bit c k <;> simp [ih]
theorem cw_zero {k : Nat} {row : List Nat} (h : ∀ c ∈ row, bit c k = false) : cw row k = 0 := by
 rw [zc9, y2l, List.filter_eq_nil_iff]
 intro c hc
 rw [h c hc]; decide
theorem zse {k x : Nat} : ∀ {row : List Nat} {i : Nat} (hi : i < row.length), bit x k = bit row[i] k → cw (row.set i x) k = cw row k
 | c :: r, 0, _, e => by
  have e' : bit x k = bit c k := e
  rw [zc9, zc9, y18, y1p, y1p, e']
  cases bit c k <;> rfl
 | c :: r, i + 1, hi, e => by
  have ih := zse (k := k) (x := x) (row := r) (i := i) (by simpa using hi) (by simpa using e)
  rw [zc9, zc9] at ih ⊢
  rw [y2z, y1p, y1p]
  cases bit c k <;> simp [ih]
theorem zo2 {k x : Nat} : ∀ {row : List Nat} {i : Nat} (hi : i < row.length), bit x k = true → (∀ c ∈ row, bit c k = false) → cw (row.set i x) k = 1
 | c :: r, 0, _, e, h => by
  have := cw_zero (k := k) (row := r) fun y hy => h y (y09 _ hy)
  rw [zc9] at this ⊢
  rw [y18, y1p, e, if_pos rfl, y0i, this]
 | c :: r, i + 1, hi, e, h => by
  have ih := zo2 (k := k) (x := x) (row := r) (i := i) (by simpa using hi) e fun y hy => h y (y09 _ hy)
  rw [zc9] at ih ⊢
  rw [y2z, y1p, h c y0c]
  simpa using ih
def Fit10 (tl : List Str) (k : Nat) (row : List Nat) : Prop := ∀ j, j < k → isXY (tl.getD j (Str.ofString "")) = true → cw row j = 1
theorem due10 {tl : List Str} {row : List Nat} {wd n m : Str} (h : tl ∈ frames10) (f : Fit10 tl tl.length row) (hn : n ∈ tl) (hm : m ∈ tl) (ok : okS wd n m = true) :
  (wd ≠ "within" → (wth row (tl.idxOf n)).length = 1) ∧ (wd ≠ "within" → wd ≠ "in" → (wth row (tl.idxOf m)).length = 1) := by
 have hg : ∀ z, z ∈ tl → isXY z = true → (wth row (tl.idxOf z)).length = 1 := fun z hz hx => by
  have hi := y0s.mpr hz
  rw [zmn]
  refine f _ hi ?_
  rw [y02, y00 hi, y0u, y2b hi]
  exact hx
 simp only [okS, y2x, y08, decide_eq_true_eq] at ok
 rcases ok with (⟨_, h1, h2⟩ | ⟨e, h1, _⟩) | ⟨e, _⟩
 ·exact ⟨fun _ => hg n hn h1, fun _ _ => hg m hm h2⟩
 ·exact ⟨fun _ => hg n hn h1, fun _ z => absurd e z⟩
 ·exact ⟨fun z => absurd e z, fun z _ => absurd e z⟩
def Sys (tl : List Str) (H : Hp) (rs : List V) : Prop := ∀ v ∈ rs, ∃ (a : Addr) (wd n m : Str), v = .ref a ∧ H a = some (.tup [.str wd, .str n, .str m]) ∧ n ∈ tl ∧ m ∈ tl ∧ okS wd n m = true
theorem Sys.ts {tl : List Str} {H H' : Hp} {rs : List V} (h : Sys tl H rs) (g : TupS H H') : Sys tl H' rs := fun v hv => let ⟨a, wd, n, m, e, ea, r⟩ := h v hv; ⟨a, wd, n, m, e, g _ _ ea, r⟩
def zha : Sp := fun vs H Q _ => ∃ (b : Addr) (tl : List Str), vs = [.ref b] ∧ H b = some (.lst (tl.map V.str)) ∧ tl ∈ frames10 ∧ ∀ D rs H', Same H H' → H' D = some (.lst rs) → rs.length ≤ 100 → Sys tl H' rs → Q (.ref D) H'
def zj5 : Sp := fun vs H Q _ => ∃ (c b : Addr) (ns : List Int) (tl : List Str) (n : Int), vs = [.ref c, .ref b, .int n] ∧ H c = some (.lst (ns.map V.int)) ∧ 1 ≤ ns.length ∧ ns.length ≤ 63 ∧ H b = some (.lst (tl.map V.str)) ∧ tl ∈ frames10 ∧ 0 ≤ n ∧
 ∀ D row H', H D = none → Same H H' → H' D = some (.lst (row.map nV)) → row.length = ns.length → (∀ c ∈ row, c < 2 ^ tl.length) → Fit10 tl tl.length row → Q (.ref D) H'
theorem ixN10 {n j : Nat} (h : j < n) : ixN n (j : Int) = some j := by unfold ixN; rw [if_pos (by omega), if_pos (by omega), y1l]
theorem zn2 {b : Nat} : ∀ {ys : List V}, (∀ (j : Nat) y, ys[j]? = some y → ∃ x : Nat, x < b ∧ y = nV x) → ∃ row : List Nat, ys = row.map nV ∧ ∀ c ∈ row, c < b
 | [], _ => ⟨[], rfl, fun c hc => (nomatch hc)⟩
 | y :: ys, h => by
  obtain ⟨x, hx, rfl⟩ := h 0 _ rfl
  obtain ⟨row, rfl, hr⟩ := zn2 (ys := ys) fun j y e => h (j + 1) y e
  exact ⟨x :: row, rfl, fun c hc => (y05.mp hc).elim (fun e => e ▸ hx) (hr c)⟩
def clrs (k i : Nat) (row : List Nat) : List Nat := (row.take i).map (clr k) ++ row.drop i
theorem zro {k i : Nat} {row : List Nat} (h : i ≤ row.length) : (clrs k i row).length = row.length := by simp [clrs]; omega
theorem clrs_at {k i : Nat} {row : List Nat} (h : i < row.length) : (clrs k i row)[i]? = some row[i] := by
 unfold clrs
 rw [y0x (by simp; omega)]
 simp only [y01, y0w, List.getElem?_drop]
 rw [show i + (i - min i row.length) = i by omega]
 exact y00 h
theorem zo7 {k i : Nat} {row : List Nat} (h : i < row.length) : (clrs k i row).set i (clr k row[i]) = clrs k (i + 1) row := by
 unfold clrs
 rw [List.set_append_right _ _ (by simp; omega)]
 simp only [y01, y0w]
 rw [show i - min i row.length = 0 by omega, y33 h, y18, y1g, y00 h, y21, y0z]
 simp
theorem zrp {k : Nat} {row : List Nat} : clrs k row.length row = row.map (clr k) := by simp [clrs]
theorem clr_int {n k c : Nat} (hn : n ≤ 3) (hk : k < n) (hc : c < 2 ^ n) : (c : Int) - (c : Int) / ((2 ^ k : Nat) : Int) % 2 * ((2 ^ k : Nat) : Int) = ((clr k c : Nat) : Int) := by
 have h : ∀ (k : Fin 3) (c : Fin 8), ((c.val : Int)) - ((c.val : Nat) : Int) / ((2 ^ k.val : Nat) : Int) % 2 * ((2 ^ k.val : Nat) : Int) = ((clr k.val c.val : Nat) : Int) := by decide +kernel
 have : 2 ^ n ≤ 8 := y2f (by decide) hn
 exact h ⟨k, by omega⟩ ⟨c, by omega⟩
theorem zmd {tl : List Str} {row : List Nat} {k at' : Nat} (hl : tl.length ≤ 3) (hk : k < tl.length) (hc : ∀ c ∈ row, c < 2 ^ tl.length) (f : Fit10 tl k row) (ha : at' < row.length) :
  (∀ c ∈ (row.map (clr k)).set at' (((row.map (clr k)).getD at' 0) + 2 ^ k), c < 2 ^ tl.length) ∧ Fit10 tl (k + 1) ((row.map (clr k)).set at' (((row.map (clr k)).getD at' 0) + 2 ^ k)) := by
 have hlen : at' < (row.map (clr k)).length := by rw [y01]; exact ha
 have h0 : ∀ c ∈ row.map (clr k), c < 2 ^ tl.length ∧ bit c k = false := fun c hm => by
  obtain ⟨x, hx, rfl⟩ := y0m.mp hm
  obtain ⟨a, b, _⟩ := zia hl hk hk (hc x hx)
  exact ⟨a, by rw [b]; simp⟩
 have hg : (row.map (clr k)).getD at' 0 = (row.map (clr k))[at'] := by rw [y02, y00 hlen]; rfl
 rw [hg]
 have hx := h0 _ (y0g hlen)
 refine ⟨fun c hm => ?_, fun j hj hxy => ?_⟩
 ·rcases List.mem_or_eq_of_mem_set hm with z | z
  ·exact (h0 c z).1
  ·rw [z]; exact ((zia hl hk hk hx.1).2.2 hx.2).1
 ·by_cases e : j = k
  ·subst e
   refine zo2 hlen ?_ fun c hm => (h0 c hm).2
   rw [((zia hl hk hk hx.1).2.2 hx.2).2]; simp
  ·have hj' : j < tl.length := by omega
   rw [zse hlen (by rw [((zia hl hk hj' hx.1).2.2 hx.2).2]; simp [e]), zsf fun c hm => by rw [(zia hl hk hj' (hc c hm)).2.1]; simp [e]]
   exact f j (by omega) hxy
theorem bit_int {c k : Nat} : decide ((c : Int) / ((2 ^ k : Nat) : Int) % 2 = 1) = bit c k := by
 unfold bit
 rw [y1v, decide_eq_true_iff, beq_iff_eq]
 rw [← Int.natCast_ediv]
 omega
theorem zdq (z : Nat) : ∀ l : List Nat, inV (nV z) (l.map nV) = decide (z ∈ l)
 | [] => by simp [inV]
 | y :: r => by
  have e : inV (nV z) ((y :: r).map nV) = (eqV (nV y) (nV z) || inV (nV z) (r.map nV)) := rfl
  have e2 : eqV (nV y) (nV z) = decide ((y : Int) = (z : Int)) := rfl
  rw [e, zdq z r, e2]
  by_cases h : z = y
  ·simp [h]
  ·have h1 : ¬ (y : Int) = (z : Int) := by omega
   simp [h, h1]
theorem zkx : ∀ (a b : List Nat), a.map (fun (x : Nat) => (x : Int)) = b.map (fun (x : Nat) => (x : Int)) → a = b
 | [], [], _ => rfl
 | [], _ :: _, h => by simp at h
 | _ :: _, [], h => by simp at h
 | x :: a, y :: b, h => by
  rw [y0k, y0k, List.cons.injEq] at h
  have e : x = y := by omega
  rw [e, zkx a b h.2]
def eachM : Mc := ⟨2, [[0, 1, 0, 0], [1, 1, 1, 1]], [true, false]⟩
def aheadM : Mc := ⟨2, [[0, 1, 2, 2], [1, 1, 1, 1], [2, 2, 2, 2]], [false, true, false]⟩
def nextM : Mc := ⟨2, [[0, 1, 3, 3], [3, 3, 2, 2], [2, 2, 2, 2], [3, 3, 3, 3]], [false, false, true, false]⟩
def ruleM (wd : Str) : Mc := if wd = "ahead" then aheadM else if wd = "next" then nextM else eachM
def ruleW (wd : Str) : Str := if wd = "ahead" then "ahead" else if wd = "next" then "next" else "within"
def seen2 (i j c : Nat) : Nat := (bit c i).toNat + 2 * (bit c j).toNat
theorem zrj : eachM.Ok := ⟨by decide, by decide, by decide, by decide, by decide, by decide⟩
theorem zpq : aheadM.Ok := ⟨by decide, by decide, by decide, by decide, by decide, by decide⟩
theorem zq0 : nextM.Ok := ⟨by decide, by decide, by decide, by decide, by decide, by decide⟩
theorem zp4 (wd : Str) : (ruleM wd).Ok ∧ (ruleM wd).w = 2 ∧ (ruleM wd).n ≤ 4 := by
 unfold ruleM
 split
 ·exact ⟨zpq, rfl, by decide⟩
 ·split
  ·exact ⟨zq0, rfl, by decide⟩
  ·exact ⟨zrj, rfl, by decide⟩
theorem zpz (i j c : Nat) : seen2 i j c < 4 := by unfold seen2; cases bit c i <;> cases bit c j <;> decide
theorem zp0 {i j c : Nat} (hi : i < 4) (hj : j < 4) (hc : c < 16) : loI (c : Int) [i, j] 0 = (seen2 i j c : Int) := by
 have h : ∀ (i j : Fin 4) (c : Fin 16), loI ((c.val : Nat) : Int) [i.val, j.val] 0 = ((seen2 i.val j.val c.val : Nat) : Int) := by decide +kernel
 exact h ⟨i, hi⟩ ⟨j, hj⟩ ⟨c, hc⟩
def bstB (wd : Str) (l : Nat) (b1 b2 : Bool) : Nat := if l ≤ 1 then l else if l = 2 then bst wd 2 b1 b2 else bst wd 3 b2 b2
theorem sim {m : Mc} {wd : Str} {rel : List (Nat × Nat)} (hs : ∀ p ∈ rel, ∀ b1 b2 : Bool, (m.go p.1 (b1.toNat + 2 * b2.toNat), bstB wd p.2 b1 b2) ∈ rel) {i j : Nat} : ∀ (row : List Nat) (s l : Nat), (s, l) ∈ rel → (m.run s (row.map (seen2 i j)), brun wd i j l row) ∈ rel
 | [], s, l, h => h
 | c :: r, s, l, h => by
  rw [y0k, Mc.run_cons, zbq]
  exact sim hs r _ _ (hs (s, l) h (bit c i) (bit c j))
theorem zp2 (wd : Str) (i j : Nat) (row : List Nat) : (ruleM wd).fin ((ruleM wd).run 0 (row.map (seen2 i j))) = aend (ruleW wd) (brun (ruleW wd) i j 2 row) := by
 unfold ruleM ruleW
 split
 ·have z := sim (m := aheadM) (wd := "ahead") (rel := [(0, 2), (1, 1), (2, 0)]) (by decide +kernel) (i := i) (j := j) row 0 2 (by decide)
  have f : ∀ p ∈ ([(0, 2), (1, 1), (2, 0)] : List (Nat × Nat)), aheadM.fin p.1 = aend "ahead" p.2 := by decide +kernel
  exact f _ z
 ·split
  ·have z := sim (m := nextM) (wd := "next") (rel := [(0, 2), (1, 3), (2, 1), (3, 0)]) (by decide +kernel) (i := i) (j := j) row 0 2 (by decide)
   have f : ∀ p ∈ ([(0, 2), (1, 3), (2, 1), (3, 0)] : List (Nat × Nat)), nextM.fin p.1 = aend "next" p.2 := by decide +kernel
   exact f _ z
  ·have z := sim (m := eachM) (wd := "within") (rel := [(0, 2), (1, 0)]) (by decide +kernel) (i := i) (j := j) row 0 2 (by decide)
   have f : ∀ p ∈ ([(0, 2), (1, 0)] : List (Nat × Nat)), eachM.fin p.1 = aend "within" p.2 := by decide +kernel
   exact f _ z
theorem zp3 {wd : Str} {i j : Nat} {row : List Nat} (hw : wd ∈ SM.rowWords) (h1 : wd ≠ "within" → (wth row i).length = 1) (h2 : wd ≠ "within" → wd ≠ "in" → (wth row j).length = 1) : aend (ruleW wd) (brun (ruleW wd) i j 2 row) = SM.due wd (wth row i) (wth row j) := by
 have hb : aend "within" (brun "within" i j 2 row) = (wth row i).all fun x => decide (x ∈ wth row j) := by
  have := b_within (i := i) (j := j) row 0
  rw [zer, zer] at this
  exact this
 simp only [SM.rowWords, y05, y0a, or_false] at hw
 rcases hw with rfl | rfl | rfl | rfl | rfl
 ·rw [show ruleW "in" = "within" by decide, hb, SM.due, if_pos (by decide)]
 ·rw [show ruleW "same" = "within" by decide, hb, SM.due, if_neg (by decide), if_pos rfl]
  obtain ⟨x, ex⟩ := y1y.mp (h1 (by decide))
  obtain ⟨y, ey⟩ := y1y.mp (h2 (by decide) (by decide))
  rw [ex, ey]
  simp
 ·rw [show ruleW "within" = "within" by decide, hb, SM.due, if_pos (by decide)]
 ·rw [show ruleW "ahead" = "ahead" by decide]
  exact b_due (by decide) h1 h2
 ·rw [show ruleW "next" = "next" by decide]
  exact b_due (by decide) h1 h2
def fitL (tl : List Str) (row : List Nat) : Bool := (List.range tl.length).all fun k => !isXY (tl.getD k (Str.ofString "")) || cw row k == 1
theorem fitP_L {tl : List Str} (h : tl ∈ frames10) (row : List Nat) : fitP (psOf (bsOf tl)) row = fitL tl row := by
 unfold fitP psOf fitL
 rw [List.all_filter, zed]
 rw [y1v, y0p, y0p]
 have key : ∀ k, k < tl.length → (bsOf tl).getD k false = isXY (tl.getD k (Str.ofString "")) := fun k hk => by
  rw [zpe (y00 hk), y02, y00 hk, y0u]
  have := (fr10 h).2.2.2.2 k hk
  rw [y02, y00 hk, y0u] at this
  exact this
 constructor
 ·intro z k hk
  have := z k hk
  rw [key k (y15.mp hk)] at this
  exact this
 ·intro z k hk
  have := z k hk
  rw [key k (y15.mp hk)]
  exact this
structure BareM (tl : List Str) (wd : Str) (i j : Nat) (m : Mc) : Prop where
 ok : m.Ok
 canon : Canon m
 w : m.w = tl.length
 fin : ∀ row, m.Row row → m.fin (m.run 0 row) = (aend (ruleW wd) (brun (ruleW wd) i j 2 row) && fitP (psOf (bsOf tl)) row)
theorem zop {tl : List Str} {row : List Nat} (hf : fitL tl row = true) : Fit10 tl tl.length row := fun k hk hx => by
 have := y0p.mp hf k (y15.mpr hk)
 rw [hx] at this
 simpa using this
theorem zpj {tl : List Str} (h : tl ∈ frames10) {wd n m : Str} (hn : n ∈ tl) (hm : m ∈ tl) (ok : okS wd n m = true) {M : Mc} (B : BareM tl wd (tl.idxOf n) (tl.idxOf m) M) {row : List Nat} (hr : ∀ c ∈ row, c < 2 ^ tl.length) :
  M.fin (M.run 0 row) = (fitL tl row && SM.due wd (wth row (tl.idxOf n)) (wth row (tl.idxOf m))) := by
 rw [B.fin row (fun c hc => by rw [B.w]; exact hr c hc), fitP_L h, Bool.and_comm]
 cases hf : fitL tl row with
 | false => rfl
 | true =>
  obtain ⟨h1, h2⟩ := due10 h (zop hf) hn hm ok
  rw [zp3 (bare10 h hn hm ok).hw h1 h2]
def zmu (K : Frag) : Sp := fun vs H Q _ => ∃ wd : Str, vs = [.str wd] ∧ ∀ p, CMach K p (ruleM wd) → Q (.ref p) H
def zhh (K : Frag) (Pr : Addr) (qr : T3) (Pp : Addr) (qp : T3) (Pm : Addr) (qm : T3) : Sp := fun vs H Q _ => ∃ (v : V) (b : Addr) (tl : List Str) (wd n m : Str), vs = [v, .ref b] ∧ TabOk H Pr qr ∧ TabOk H Pp qp ∧ TabOk H Pm qm ∧ Rep H v (.bare wd n m) ∧ H b = some (.lst (tl.map V.str)) ∧ tl ∈ frames10 ∧ n ∈ tl ∧ m ∈ tl ∧ okS wd n m = true ∧
 ∀ p M H', Same H H' → RepM H' p M → BareM tl wd (tl.idxOf n) (tl.idxOf m) M → Q (.ref p) H'
def zj7 (P : Program) (w : World) (K : Frag) (mg : T1) (base : Heap) (fb : Addr) (Pk : Addr) (qk : T3) (sp : Sp) : Sp := fun vs H Q _ => ∃ v2 v3 v4 v5 v6 : V, vs = [.ref fb, v2, v3, v4, v5, v6] ∧ TabOk H Pk qk ∧
 ∀ f fd H', Same H H' → H' f = some (fnO fd f) → CloH P w K mg base 11 H' f 2 sp → Q (.ref f) H'
def zkd (K : Frag) (Pr : Addr) (qr : T3) (Pp : Addr) (qp : T3) (Pm : Addr) (qm : T3) (Pk : Addr) (qk : T3) : Sp := fun vs H Q _ => ∃ (v : V) (b : Addr) (tl : List Str) (wd n m : Str), vs = [v, .ref b] ∧ TabOk H Pr qr ∧ TabOk H Pp qp ∧ TabOk H Pm qm ∧ TabOk H Pk qk ∧ Rep H v (.bare wd n m) ∧ H b = some (.lst (tl.map V.str)) ∧ tl ∈ frames10 ∧ n ∈ tl ∧ m ∈ tl ∧ okS wd n m = true ∧
 ∀ p M H', Same H H' → RepM H' p M → BareM tl wd (tl.idxOf n) (tl.idxOf m) M → Q (.ref p) H'
theorem zpi {tl : List Str} {wd : Str} {i j : Nat} {M M' : Mc} (B : BareM tl wd i j M) (B' : BareM tl wd i j M') : M = M' := by
 refine zib (by rw [B.w, B'.w]) B.ok B'.ok B.canon B'.canon fun row hr => ?_
 rw [B.fin row hr, B'.fin row fun c hc => by rw [B'.w, ← B.w]; exact hr c hc]
end SM
namespace L2
section
variable {X : Cx} {pins : T2} {σ : St} {H : Hp} {s : Shared}
open Classical in
theorem Inv.froze (I : Inv X pins σ H s) (hfn : ∀ x, X.fn x = true) : ∃ Hq, Adopted X σ H Hq ∧ HOk X.prog X.w Hq s.heap ∧ (∀ b u, H b = some u → Hq b = some u) ∧ (∀ b, ¬ CellOf X b → Hq b = H b) ∧ ∀ b, CellOf X b → X.s₀.heap.objs.size ≤ b := by
 let Hq : Hp := fun b => if CellOf X b then (s.heap.get? b).map fun o => .frz o (.own b) else H b
 have q1 : ∀ b, ¬ CellOf X b → Hq b = H b := fun b n => if_neg n
 have q2 : ∀ x c, X.env.cells.lookup x = some c → ∃ o v, s.heap.get? c = some o ∧ o.data = .cell v ∧ Hq c = some (.frz o (.own c)) := fun x c e => by
  obtain ⟨v, o, ho, hd⟩ := I.cell x c e
  exact ⟨o, v, ho, hd, by show (if CellOf X c then _ else _) = _; rw [if_pos ⟨x, e⟩, ho]; rfl⟩
 have tr : ∀ b u, H b = some u → ¬ CellOf X b := fun b u e ⟨x, z⟩ => by rw [I.freeC x b z] at e; cases e
 have ad : Adopted X σ H Hq := ⟨q1, fun b ⟨x, z⟩ => I.freeC x b z, I.ok.inj, fun x c e => by
  obtain ⟨o, v, ho, hd, hq⟩ := q2 x c e
  refine ⟨o, v, hq, hd, fun i y e1 e2 e3 => ?_⟩
  obtain ⟨m, hn, hl⟩ := I.loc
  obtain ⟨u, ru, l⟩ := hl i x y e1 e2 (by rcases e3 with z | z; exact .inr (.inl z); exact .inr (.inr z))
  rcases l with ⟨z, _⟩ | ⟨_, c', hc', o', ho', hd'⟩
  ·rcases e3 with y' | y' <;> (rw [z] at y'; cases y')
  ·rw [e] at hc'; cases hc'
   rw [ho] at ho'; cases ho'
   rw [hd] at hd'; cases hd'
   exact ⟨u, ru, rfl⟩⟩
 have low : ∀ b, CellOf X b → X.s₀.heap.objs.size ≤ b := fun b ⟨x, e⟩ => I.ok.cab x b (hfn x) e
 have up : ∀ b u, H b = some u → Hq b = some u := fun b u e => by rw [q1 b (tr b u e)]; exact e
 refine ⟨Hq, ad, fun b u e => ?_, up, q1, low⟩
 by_cases hc : CellOf X b
 ·obtain ⟨x, ex⟩ := hc
  obtain ⟨o, v, ho, hd, hq⟩ := q2 x b ex
  rw [hq] at e; cases e
  exact ⟨ho, o, ho⟩
 ·rw [q1 b hc] at e
  exact (I.hok b u e).stay (fun _ _ _ z => z) (fun c z => up c _ z) (fun c _ _ _ _ z => up c _ z) fun c xs z => up c _ z
end
section
variable {P : Program} {w : World} {K : Frag} {mg : T1} {base : Heap}
theorem DfnC.calR {x : Str} {st d1 : Stmt} {N ps : List Str} {k j : Nat} {sp : Sp} {c Pt : Addr} {y : Str} {py pr : Pos} (d : DfnC K mg x st ps c Pt) (S : FnScope N ps (defScope st)) (len : ∀ vs H Q E, sp vs H Q E → vs.length = ps.length)
  (hb : defBody st = [d1, .Return (some (.Name y py)) pr]) (hj : N[j]? = some y) (hv : Vis (defScope st) y) (hdb : (y == ("__debug__" : Str)) = false) (hcd : (y == ("__classdict__" : Str)) = false)
  (hbody : ∀ (f : Addr) (A : Around) (outer : List Env) (s : Shared) (H : Hp) (vs : List V) (Q : VK) (E : XK), Room k (A.deeper (envOfC x (defScope st) s.heap.objs.size f (.ref c))) → sp vs H Q E →
   ∃ t, PS (cxOf CX0 P w K mg base N x (defScope st) f (.ref c) A outer s H E) d1 t ∧
    t { nx := fun σ H' => ∃ v, σ[j]? = some (some v) ∧ ∀ Hq, Adopted (cxOf CX0 P w K mg base N x (defScope st) f (.ref c) A outer s H E) σ H' Hq → Q v Hq, rt := fun _ _ => False } (start N vs) H) : Cal P w K mg base (k + 1) x ps sp := by
 obtain ⟨f, fd, F, b, m⟩ := d.ex
 obtain ⟨oc, od, kV, doc, pm, an, ct, osl, rfl, lk, hcd'⟩ := F.ex
 refine ⟨f, _, ⟨len, fun A outer s H args us vs Q E hr e0 hb' r hsp => ?_⟩, b, F.kp, m⟩
 have hl := len _ _ _ _ hsp
 have KX : K.In s.heap := e0.mod.kin.keeps fun b o e => (e0.bs b o e).1
 have lim : s.heap.NoLimit := e0.mod.nolimit.keeps fun b o e => (e0.bs b o e).1
 have hkind : ∀ y ∈ ps.zip us, (defScope st).names.lookup y.1 = some .local ∨ ((defScope st).names.lookup y.1 = some .cell ∧ ((cellsFrom (s.heap.objs.size + 1) (defScope st).names []).lookup y.1).isSome = true) := fun ⟨n, v⟩ hy => by
  rcases S.par n (y25 hy).1 with q | q
  ·exact .inl q
  ·exact .inr ⟨q, PySem.W.cellsFrom_some _ _ _ (.inl q)⟩
 refine codeAny_call_function hr.depth (KX _ _ lk) rfl S.co S.gen rfl (PySem.W.codeRec_of KX hcd') (hb' _ _ _ _ ?_)
 refine wpAny_newFunctionEnv_cells S.kind hkind fun env he s1 x1 => ?_
 subst he
 refine ⟨lim.keeps x1.toInCall.keep, codeAny_func ?_⟩
 obtain ⟨t, ht, hq⟩ := hbody f A outer s H vs Q E (hr.deeper _) hsp
 have I : Inv (cxOf CX0 P w K mg base N x (defScope st) f (.ref c) A outer s H E) [] (start N vs) H s1 := zh3 S hr.hd e0 hl r x1
 have key : wpAny (model P w) (A.deeper (envOfC x (defScope st) s.heap.objs.size f (.ref c))) (execs (defBody st) (envOfC x (defScope st) s.heap.objs.size f (.ref c)))
   (fun fl s' => ∃ u, fl = .ret u ∧ CE outer P w H s Q u s') (cxOf CX0 P w K mg base N x (defScope st) f (.ref c) A outer s H E).xe s1 := by
  rw [hb]
  refine wpAny_execs_cons (thn (ht [] s1 (start N vs) H _ I hq) fun fl s2 hs => ?_)
  cases fl with
  | ret u => obtain ⟨_, _, _, _, _, q⟩ := hs; exact False.elim q
  | brk => obtain ⟨_, _, _, q⟩ := hs; exact False.elim q
  | cont => obtain ⟨_, _, _, q⟩ := hs; exact False.elim q
  | next =>
   obtain ⟨σ', H', J, v, ev, q⟩ := hs
   refine wpAny_execs_cons (wpAny_Return_some (thn (zkk (X := cxOf CX0 P w K mg base N x (defScope st) f (.ref c) A outer s H E) (pos := py) hj hv hdb hcd [] s2 σ' H' (fun z Hz => z = v ∧ Hz = H') J ⟨v, ev, rfl, rfl⟩) fun u s3 ⟨z, Hz, J3, rz, e1, e2⟩ => ?_))
   subst e1 e2
   obtain ⟨Hq, ad, hok, up, nc, low⟩ := J3.froze fun _ => rfl
   have un := J3.base
   have old : ∀ b o, s.heap.get? b = some o → ¬ CellOf (cxOf CX0 P w K mg base N x (defScope st) f (.ref c) A outer s H E) b := fun b o e hc => absurd (y0q (y0d e) (low b hc)) (y27 _)
   exact ⟨u, rfl, z, Hq, J3.os, J3.bare, ⟨un.keep, un.slot, fun b o e n hx => by rw [nc b (old b o e)]; exact un.free b o e n hx, un.there, fun b xs e => up _ _ (un.tups b xs e), fun b o u e => up _ _ (un.frzs b o u e), fun b qs ps e => up _ _ (un.tbls b qs ps e)⟩, hok, rz, q Hq ad⟩
 refine wpAny_mono key (fun fl s' hs => ?_) fun e s' hs => hs
 obtain ⟨u, rfl, h⟩ := hs
 exact h
end
section
variable {X : Cx} {c P : Addr} {qs : T3} {name qual : Str} {params : Arguments} {scope : Scope} {pos : Pos}
theorem zp7 {j : Nat} {body : List Stmt} (hc : X.env.code = .ref c) (kc : KCode X.K c P) (kb : BltK X.base X.mg) (hfr : ∀ p ∈ scope.names, p.2 = .free → X.env.kindOf p.1 = some .cell ∨ X.env.kindOf p.1 = some .free) (nd : docOf body = none)
  (hq : (pos, qual) ∈ qs) (hone : ∀ p ∈ qs, p.1.line = pos.line → p.1.col = pos.col → p.2 = qual) (hd : params.defaults = []) (hk : params.kw_defaults = []) (ha : ∀ e, annTrees params none e = []) (hqual : qualnameIn X.env name name = qual)
  (hN : X.N.Nodup) (hj : X.N[j]? = some name) (hx : Loc X.env.scope name) (hf : X.fn name = true) : PS X (.FunctionDef name params body [] none [] scope none name pos) (tDef X P qs name qual params (.stmts body) scope j) := by
 intro pins s σ H D I h
 obtain ⟨T, h⟩ := h
 rw [exec_def]
 have hdo : defaultsOf params X.env = ([], []) := by rw [defaultsOf_eq, hd, hk]; rfl
 simp only [hdo, ha, hqual]
 refine wpAny_bind (wpAny_standAt (wpAny_bind (wpAny_holding (wpAny_bind (wpAny_pure (wpAny_bind (wpAny_holding (wpAny_pure (wpAny_holding (wpAny_bind (wpAny_pure ?_)))))))))))
 refine zjd I hc kc kb hfr nd T hq hone fun f H' s' I' M => wpAny_bind (wpAny_standAt (wpAny_bind (wpAny_bindName ?_)))
 exact zcy I' hN hj hx (v := .ref f) rfl (fun s2 I2 => wpAny_pure ⟨_, H', I2, h f H' M⟩) (.inl hf)
theorem zs0 (qual : Str) {j : Nat} {body : List Stmt} (hc : X.env.code = .ref c) (kc : KCode X.K c P) (kb : BltK X.base X.mg) (hfr : freeOk X.env scope = true) (hq : oneOk qs pos qual = true) (hN : X.N.Nodup) (hj : X.N[j]? = some name) (hx : Loc X.env.scope name) (hf : X.fn name = true) (nd : docOf body = none := by rfl)
  (hd : params.defaults = [] := by rfl) (hk : params.kw_defaults = [] := by rfl) (ha : ∀ e, annTrees params none e = [] := by intro e; rfl) (hqual : qualnameIn X.env name name = qual := by rfl) :
  PS X (.FunctionDef name params body [] none [] scope none name pos) (tDef X P qs name qual params (.stmts body) scope j) := zp7 hc kc kb (freeOk.of hfr) nd (oneOk.mem hq) (oneOk.one hq) hd hk ha hqual hN hj hx hf
end
def FnNd (N : List Str) : Prop := N.Nodup
instance (N : List Str) : Decidable (FnNd N) := inferInstanceAs (Decidable N.Nodup)
theorem FnNd.nd {N : List Str} (h : FnNd N) : N.Nodup := h
structure CalF (P : Program) (w : World) (K : Frag) (mg : T1) (base : Heap) (n : Nat) (f : Addr) (ps : List Str) (sp : Sp) : Prop where
 ex : ∃ fd, FnOk P w K mg base CX0 n f fd ps sp ∧ Binds K fd ps [] ∧ PySem.W.keepIn K (.ref f) = true
theorem Cal.fn {P : Program} {w : World} {K : Frag} {mg : T1} {base : Heap} {n : Nat} {x : Str} {ps : List Str} {sp : Sp} (C : Cal P w K mg base n x ps sp) : ∃ f, CalF P w K mg base n f ps sp ∧ mg x = some (.ref f) := by
 obtain ⟨f, fd, F, b, k, m⟩ := C.ex
 exact ⟨f, ⟨fd, F, b, k⟩, m⟩
def tCallG (f : Addr) (sp : Sp) (i : Nat) (t : TA) : TE := fun σ H Q => σ[i]? = some (some (.ref f)) ∧ t σ H fun vs H1 => sp vs H1 Q E0
theorem zqf {X : Cx} {x : Str} {i k n : Nat} {f : Addr} {ps : List Str} {sp : Sp} {p pos : Pos} {e : Expr} {es : List Expr} {t : TA} (C : CalF X.prog X.w X.K X.mg X.base n f ps sp) (hr : Room k X.A) (hle : n ≤ k) (ha : PA X (e :: es) t) (hN : X.N[i]? = some x := by rfl) (hv : Vis X.env.scope x := by first | exact Or.inl rfl | exact Or.inr (Or.inl rfl) | exact Or.inr (Or.inr rfl))
  (hd : (x == ("__debug__" : Str)) = false := by decide) (hcd : (x == ("__classdict__" : Str)) = false := by decide) (h1 : notStar e = true := by rfl) (h2 : es.all notStar = true := by rfl) :
  PE X (.Call (.Name x p) (e :: es) [] pos) (tCallG f sp i t) := by
 intro pins s σ H Q I h
 obtain ⟨fd, F, b, hk⟩ := C.ex
 obtain ⟨hs, h⟩ := h
 refine wpAny_Call_Name_kw (thn (zkk (pos := p) hN hv hd hcd pins s σ H (fun v H' => v = .ref f ∧ H' = H) I ⟨.ref f, hs, rfl, rfl⟩) fun u s1 ⟨v, H1, I1, r1, e1, e2⟩ => ?_)
 subst e1 e2
 cases (show u = Value.ref f from r1)
 refine PySem.W.callWith_K (h₀ := X.base) I1.ok.mod.kin hk (thn (ha pos pins s1 σ _ _ I1 h) fun us s2 ⟨vs, H2, I2, r, q⟩ => ⟨I2.kIn, ?_⟩) (zay h1) (zbr h2)
 exact zrv F (hr.mono hle) b .nil pass0 I2 r (by rw [y13]; exact q)
end L2
set_option maxHeartbeats 4000000
namespace K32
open PySem PySem.Spec PyProof.Rows L2 SS SM
local macro_rules | `(tactic| trivial) => `(tactic| simp only [tLstN, tSeq, tC, gName, tAsg, tNil, tCons, tDisp, tPairs, y18, y2z, rLen, tTest, tOp, tRet, rI0, tCB, rIxL, rIxT, iTup, zbj, zcp, zrw, V.int.injEq, V.bl.injEq, V.ref.injEq, List.cons.injEq, and_true, exists_eq_left', exists_and_left, rInDc, sDPut, tIfS, tNext, tDrop, tBM, tyV, rAppend, true_and, if_true, ipI, tAug, Option.some.injEq, and_assoc, cxK, zgj, tDGet, tYes, tTupN, iList, tCall, y13, tDNewN, exists_eq', rLenD, tDNewTN, rLenT, iZipL, rCatTN, gNil, gCons, gTup, tCallV, rNeI, rDictOf, rMaxL, iEnum, tLam, tCallA, iRng1, rIndex, tDisp1T, tDef, rNe, tListZip, cxP, cxW, List.nil_append, y3t, rAll, tB, tOr, tNot, tAndV, rEq, tNoPart, tPart, tSl, rSlS, rIxS, iStr, V.str.injEq, V.ty.injEq, if_false, rd_ss, reduceCtorEq, rd_ii, rSum, rI, iZip, rInD, rIxD, rSlTN, rEqD, rCatN, rIn, rIndexT, tCallG])
def top (i : Nat) : Stmt := PySem.Challenge.pw_setsays_k32_bare_machines.main.body.getD i (.Pass ⟨0, 0, 0, 0⟩)
structure Txt (K : Frag) (mg : T1) (w : World) (tw rw fa cj ca ce co cn : Addr) : Prop where
 b_isinstance : mg "isinstance" = none
 b_str : mg "str" = none
 b_tuple : mg "tuple" = none
 b_list : mg "list" = none
 b_int : mg "int" = none
 b_bool : mg "bool" = none
 b_dict : mg "dict" = none
 b_set : mg "set" = none
 b_len : mg "len" = none
 b_all : mg "all" = none
 b_sum : mg "sum" = none
 b_max : mg "max" = none
 b_range : mg "range" = none
 b_zip : mg "zip" = none
 b_enumerate : mg "enumerate" = none
 g_MOST_COME_TO : GlV mg "MOST_COME_TO" (.int 100)
 g_FIGURES : GlV mg "FIGURES" (.str FIGS)
 g_LONGEST_NAME : GlV mg "LONGEST_NAME" (.int 4)
 g_SMALL_LETTERS : GlV mg "SMALL_LETTERS" (.str SMALL)
 g_GREAT_LETTERS : GlV mg "GREAT_LETTERS" (.str GREAT)
 g_MOST_NAMES : GlV mg "MOST_NAMES" (.int 4)
 g_DEEPEST : GlV mg "DEEPEST" (.int 12)
 g_MOST_PARTS : GlV mg "MOST_PARTS" (.int 60)
 g_TELLING_WORDS : GlV mg "TELLING_WORDS" (.ref tw)
 t_TELLING_WORDS : ∀ H, SqT K H tw [.str "some", .str "all"]
 g_TREE_WORDS : GlV mg "TREE_WORDS" (.ref rw)
 t_TREE_WORDS : ∀ H, SqT K H rw [.str "left", .str "right", .str "above"]
 g_FORMS : GlV mg "FORMS" (.ref fa)
 f_FORMS : Forms K w fa
 g_JUST_ONCE : GlV mg "JUST_ONCE" (.ref cj)
 c_JUST_ONCE : CMach K cj justM
 g_ANY_ROW : GlV mg "ANY_ROW" (.ref ca)
 c_ANY_ROW : CMach K ca anyM
 g_EACH_IN : GlV mg "EACH_IN" (.ref ce)
 c_EACH_IN : CMach K ce eachM
 g_COMES_AHEAD : GlV mg "COMES_AHEAD" (.ref co)
 c_COMES_AHEAD : CMach K co aheadM
 g_COMES_NEXT : GlV mg "COMES_NEXT" (.ref cn)
 c_COMES_NEXT : CMach K cn nextM
 v_joined : ∃ q, GlV mg "joined" (.ref q)
 v_flipped : ∃ q, GlV mg "flipped" (.ref q)
 v_dropped : ∃ q, GlV mg "dropped" (.ref q)
seal PE PT PW PA PS PSs
section
variable {P : Program} {w : World} {K : Frag} {mg : T1} {base : Heap} {tw rw fa cj ca ce co cn : Addr}
abbrev s_reached : Stmt := top 9
theorem sc_reached : FnScope ["machine", "rooms", "known", "at", "here", "room"] ["machine"] (defScope s_reached) := ⟨rfl, rfl, rfl, by decide +kernel, rfl, by decide +kernel, by decide +kernel⟩
theorem zlw (T : Txt K mg w tw rw fa cj ca ce co cn) (d : Dfn K mg "reached" s_reached ["machine"]) : Cal P w K mg base 1 "reached" ["machine"] zfm := by
 refine d.cal sc_reached (fun vs H Q E h => ?_) (fun f cdv A outer s H vs Q E hr h => ?_)
 ·obtain ⟨a, m, rfl, _⟩ := h
  rfl
 obtain ⟨a, m, rfl, ⟨b, c, rs, ea, eb, pr, ec⟩, ok, q⟩ := h
 have hu := zff hr 8 (by decide)
 have hps := zbp ok.wid
 have hf : m.n ≤ 100 := ok.few
 have at1 : atI [nV m.w, V.ref b, V.ref c] 1 = some (V.ref b) := zaj (j := 1) rfl
 refine ⟨_, (zac (zat (i := 1) sc_reached.nd rfl (Or.inl rfl) (zas (pa_c zaf zaa))) (zac (zat (i := 2) sc_reached.nd rfl (Or.inl rfl) (zs9 (zp8 zaf zd3 zs2) rfl rfl (by simp) (by decide))) (zac (zat (i := 3) sc_reached.nd rfl (Or.inl rfl) zaf) (zac (zgl PassesOwn.never (zam zqj (pv 3) (za1 (zag K) (by rfl) T.b_len boot_len (pa_c (pv 1) zaa)) (nomark _)) (zac (zat (i := 4) sc_reached.nd rfl (Or.inl rfl) (zan (zaw K) (pv 1) (pv 3) (fun _ _ => rfl))) (zac (zbo PassesOwn.never rfl (zb7 K (zan (zak K) (zan (zak K) (pv 0) zaf (fun _ _ => rfl)) (pv 4) (fun _ _ => rfl))) (zah (i := 5) sc_reached.nd (by rfl) (Or.inl (by rfl))) (zad (za8 (zam (zck hu) (pv 5) (pv 2) (by with_unfolding_all rfl)) (zac (zd8 hu (pv 2) (pv 5) zd3 rfl) (zad (zcu (zc1 K PySem.F.plainAttrs_list PySem.F.slot_list_append PySem.F.type_list_append zb0 (pv 1) (pa_c (pv 5) zaa))))) zap))) (zad (ps_aug (i := 3) sc_reached.nd rfl (Or.inl rfl) zaf ip_add))))) (zad (zai (pv 1))))))), ?_⟩
 refine za0 [some (.ref a), none, none, none, none, none] rfl ?_
 trivial
 refine ⟨by decide, fun p H1 n1 kd nkd => ⟨zar, [((Sum.inl 0 : Key), V.bl true)], rfl, by decide, ?_⟩⟩
 have npk : p ≠ kd := zao n1.at' nkd
 refine ⟨fun mm σ H' => ∃ (rooms : List Nat) (at' : Nat) (v4 v5 : Option V), mm = m.n - at' ∧ Same H H' ∧ σ = [some (.ref a), some (.ref p), some (.ref kd), some (nV at'), v4, v5] ∧ H' p = some (.lst (rooms.map nV)) ∧ H' kd = some (.dK (knT rooms)) ∧ Come m rooms at' 0 ∧ at' ≤ rooms.length,
  ⟨m.n, [0], 0, none, none, rfl, ?_, rfl, ?_, ?_, Come.start ok.pos, y1b _⟩, ?_⟩
 ·exact ((n1.g.trans (za4 nkd _)).wr (n1.g.free nkd) _)
 ·rw [zal npk, zal npk]; exact n1.at'
 ·rw [zar]; rfl
 rintro mm σ H' ⟨rooms, at', v4, v5, rfl, g, rfl, ep, ek, cm, ha⟩
 have hrl : rooms.length ≤ m.n := zcl cm.nd cm.lt
 trivial
 refine ⟨_, .inl (.of ep), ?_⟩
 rw [y01]
 by_cases hlt : at' < rooms.length
 ·rw [decide_eq_true (show (at' : Int) < (rooms.length : Int) by omega)]
  refine iteT ⟨fun σ' H'' => ∃ m', m' < m.n - at' ∧ _, fun σ' H'' z => z, ?_⟩
  have hlt2 := cm.lt _ (zc7 hlt)
  have atr : (rooms.map nV)[at']? = some (nV (ix rooms at')) := by rw [y04, zb9 hlt]; rfl
  have hw1 : ix rooms at' < m.ways.length := by rw [ok.len]; exact hlt2
  obtain ⟨v, ev, a2, rfl, e4⟩ := Paired.at2 pr (y00 hw1)
  have hll := ok.line _ (y0g hw1)
  refine ⟨_, .of ep, _, zaj atr, _, .of (g _ _ ea), _, at1, _, rfl, _, _, rfl, .of (g _ _ eb), _, zaj ev, _, rfl, ⟨_, .of (g _ _ e4)⟩, ?_⟩
  refine zsb (K := K) (a := a2) (xs := m.ways[ix rooms at'].map nV) (fun l σ H'' => Same H H'' ∧ ∃ (rooms' : List Nat) (v5 : Option V), σ = [some (.ref a), some (.ref p), some (.ref kd), some (nV at'), some (nV (ix rooms at')), v5] ∧ H'' p = some (.lst (rooms'.map nV)) ∧ H'' kd = some (.dK (knT rooms')) ∧ Come m rooms' at' l ∧ at' < rooms'.length ∧ ix rooms' at' = ix rooms at')
   ⟨g, rooms, _, rfl, ep, ek, cm, hlt, rfl⟩ (fun i σ H'' _ z => .of (z.1 _ _ e4)) ?_ ?_
  ·rintro l y σ H'' hy ⟨g2, rooms', v5', rfl, ep2, ek2, cm2, ha2, ei⟩
   rw [y04] at hy
   obtain ⟨r, er, rfl⟩ := y14.mp hy
   have hl : l < 2 ^ m.w := by rw [← hll]; exact (y0b.mp er).1
   obtain ⟨line, f1, f2, f3⟩ := ok.at hlt2 hl
   have egl : r = m.go (ix rooms' at') l := by
    rw [y00 hw1] at f1
    cases f1
    rw [er] at f2
    rw [ei]
    exact Option.some.inj f2
   have hrl2 : rooms'.length ≤ m.n := zcl cm2.nd cm2.lt
   have nn : p ≠ kd := zn0 ep2 ek2 (by intro z; cases z)
   trivial
   refine ⟨_, DGet.n ek2, ?_⟩
   rw [zjf]
   by_cases hm : r ∈ rooms'
   ·rw [if_pos hm]
    refine iteF ⟨g2, rooms', ep2, ek2, ?_, ha2, ei⟩
    exact cm2.old ha2 (by rw [← egl]; exact hm)
   ·rw [if_neg hm]
    have hnk : H kd = none := n1.g.free nkd
    refine iteT ⟨_, DPut.n ek2 (by rw [zts]; exact small1000 (by omega)), .inl ⟨_, .of (by rw [zal nn]; exact ep2)⟩, _, by rw [zal nn]; exact ep2, by rw [y01]; exact small1000 (by omega), ?_⟩
    refine ⟨(g2.wr hnk _).wr n1.nil _, rooms' ++ [r], ?_, ?_, ?_, by rw [y0j, y19]; omega, by rw [zsa ha2]; exact ei⟩
    ·rw [zar, y0z]; rfl
    ·rw [zal (Ne.symm nn), zar, ztr hm]
    ·have z := cm2.new ha2 hl (by rw [ei]; exact f3) (by rw [← egl]; exact hm)
     rw [← egl] at z
     exact z
  ·rintro σ H'' ⟨g2, rooms', v5', rfl, ep2, ek2, cm2, ha2, ei⟩
   rw [y01, hll] at cm2
   have hrl2 : rooms'.length ≤ m.n := zcl cm2.nd cm2.lt
   trivial
   exact ⟨_, rfl, _, rfl, m.n - (at' + 1), by omega, rooms', at' + 1, rfl, g2, rfl, ep2, ek2, cm2.turn, by omega⟩
 ·rw [decide_eq_false (show ¬ (at' : Int) < (rooms.length : Int) by omega)]
  have e : at' = rooms.length := by omega
  subst e
  refine iteF ?_
  exact q p rooms H' n1.nil g ep cm
abbrev s_renamed : Stmt := top 10
theorem zdi : FnScope ["rooms", "numbers"] ["rooms", "numbers"] (defScope s_renamed) := ⟨rfl, rfl, rfl, by decide +kernel, rfl, by decide +kernel, by decide +kernel⟩
theorem zlu (T : Txt K mg w tw rw fa cj ca ce co cn) (d : Dfn K mg "renamed" s_renamed ["rooms", "numbers"]) : Cal P w K mg base 1 "renamed" ["rooms", "numbers"] zdg := by
 refine d.cal zdi (fun vs H Q E h => ?_) (fun f cdv A outer s H vs Q E hr h => ?_)
 ·obtain ⟨a, b, l, g, rfl, _⟩ := h
  rfl
 obtain ⟨a, b, l, g, rfl, ea, h16, lk, q⟩ := h
 have hu := zff hr 8 (by decide)
 rcases lk with ⟨kvs, eb, hv⟩ | ⟨ns, eb, hv⟩
 ·refine ⟨_, (zad (zai (zcc zax (by rfl) T.b_tuple boot_tuple (pa_c (zau ["room"] [(1, "numbers")] (CompOk.of rfl (by rfl) (by rfl)) (by rfl) (zb7 K (pv 0)) (fun _ _ _ _ _ => (zah (i := 0) (show List.Nodup (["room", "numbers"] : List Str) by decide +kernel) (by rfl) (Or.inl (by rfl)))) (fun _ _ _ _ _ => za5) (fun _ _ _ _ _ => (zd9 hu (pv 1) (pv 0) (fun _ _ => rfl)))) zaa)))), ?_⟩
  refine za0 [some (.ref a), some (.ref b)] rfl ?_
  trivial
  refine ⟨⟨_, .of ea⟩, zh9 (K := K) (a := a) (xs := l.map nV) (fun σ => ∃ v, σ = [v, some (.ref b)]) (fun y => match y with | .int z => nV (g z.toNat) | v => v) (by rw [y01]; omega) (.of ea) ⟨_, rfl⟩ ?_ ?_⟩
  ·rintro D i σ H' x hi hm hx gg hD hD' ⟨v, rfl⟩
   obtain ⟨r, mr, rfl⟩ := y0m.mp hm
   have z := DGet.n (n := (r : Int)) (gg _ _ eb)
   rw [hv r mr] at z
   trivial
   exact ⟨_, z, zcb (by rw [y01]; omega) hx hD hD' gg ⟨_, rfl⟩ rfl⟩
  intro D H1 hD g1 eD
  have eD' : H1 D = some (.lst ((l.map g).map nV)) := by rw [eD, y0r, y0r]; rfl
  exact ⟨_, rfl, _, .inl ⟨.of eD', fun t H2 n2 => q t H2 (g1.trans n2.g) n2.at'⟩⟩
 ·refine ⟨_, (zad (zai (zcc zax (by rfl) T.b_tuple boot_tuple (pa_c (zau ["room"] [(1, "numbers")] (CompOk.of rfl (by rfl) (by rfl)) (by rfl) (zb7 K (pv 0)) (fun _ _ _ _ _ => (zah (i := 0) (show List.Nodup (["room", "numbers"] : List Str) by decide +kernel) (by rfl) (Or.inl (by rfl)))) (fun _ _ _ _ _ => za5) (fun _ _ _ _ _ => (zan (zaw K) (pv 1) (pv 0) (fun _ _ => rfl)))) zaa)))), ?_⟩
  refine za0 [some (.ref a), some (.ref b)] rfl ?_
  trivial
  refine ⟨⟨_, .of ea⟩, zh9 (K := K) (a := a) (xs := l.map nV) (fun σ => ∃ v, σ = [v, some (.ref b)]) (fun y => match y with | .int z => nV (g z.toNat) | v => v) (by rw [y01]; omega) (.of ea) ⟨_, rfl⟩ ?_ ?_⟩
  ·rintro D i σ H' x hi hm hx gg hD hD' ⟨v, rfl⟩
   obtain ⟨r, mr, rfl⟩ := y0m.mp hm
   have z : atI (ns.map nV) (r : Int) = some (nV (g r)) := zaj (by rw [y04, hv r mr]; rfl)
   trivial
   exact ⟨_, .of (gg _ _ eb), _, z, zcb (by rw [y01]; omega) hx hD hD' gg ⟨_, rfl⟩ rfl⟩
  intro D H1 hD g1 eD
  have eD' : H1 D = some (.lst ((l.map g).map nV)) := by rw [eD, y0r, y0r]; rfl
  exact ⟨_, rfl, _, .inl ⟨.of eD', fun t H2 n2 => q t H2 (g1.trans n2.g) n2.at'⟩⟩
abbrev s_picked : Stmt := top 11
theorem sc_picked : FnScope ["machine", "rooms", "numbers", "ways", "ends"] ["machine", "rooms", "numbers"] (defScope s_picked) := ⟨rfl, rfl, rfl, by decide +kernel, rfl, by decide +kernel, by decide +kernel⟩
theorem znp (T : Txt K mg w tw rw fa cj ca ce co cn) (d : Dfn K mg "picked" s_picked ["machine", "rooms", "numbers"]) (C_renamed : Cal P w K mg base 1 "renamed" ["rooms", "numbers"] zdg) : Cal P w K mg base 2 "picked" ["machine", "rooms", "numbers"] zhc := by
 refine d.cal sc_picked (fun vs H Q E h => ?_) (fun f cdv A outer s H vs Q E hr h => ?_)
 ·obtain ⟨a, b, c, m, rooms, g, rfl, _⟩ := h
  rfl
 obtain ⟨a, b, c, m, rooms, g, rfl, ⟨b1, c1, rs, ea, eb1, pr, ec1⟩, ok, eb, h100, hr', lk, q⟩ := h
 have hps := zbp ok.wid
 refine ⟨_, (zac (zct (i := 3) sc_picked.nd rfl (Or.inl rfl) ["room"] [(2, "numbers"), (0, "machine")] (CompOk.of rfl (by rfl) (by rfl)) (by rfl) (zav K (pv 1)) (fun _ _ _ _ _ => (zah (i := 0) (show List.Nodup (["room", "numbers", "machine"] : List Str) by decide +kernel) (by rfl) (Or.inl (by rfl)))) (fun _ _ _ _ _ => za5) (fun _ _ _ _ _ => (zae C_renamed hr (by omega) (by rfl) (pa_c (zan (zak K) (zan (zak K) (pv 2) zaf (fun _ _ => rfl)) (pv 0) (fun _ _ => rfl)) (pa_c (pv 1) zaa))))) (zac (zct (i := 4) sc_picked.nd rfl (Or.inl rfl) ["room"] [(0, "machine")] (CompOk.of rfl (by rfl) (by rfl)) (by rfl) (zav K (pv 1)) (fun _ _ _ _ _ => (zah (i := 0) (show List.Nodup (["room", "machine"] : List Str) by decide +kernel) (by rfl) (Or.inl (by rfl)))) (fun _ _ _ _ _ => za5) (fun _ _ _ _ _ => (zan (zak K) (zan (zak K) (pv 1) zaf (fun _ _ => rfl)) (pv 0) (fun _ _ => rfl)))) (zad (zai (zbc (pa_c (zan (zak K) (pv 0) zaf (fun _ _ => rfl)) (pa_c (zcc zax (by rfl) T.b_tuple boot_tuple (pa_c (pv 3) zaa)) (pa_c (zcc zax (by rfl) T.b_tuple boot_tuple (pa_c (pv 4) zaa)) zaa)))))))), ?_⟩
 refine za0 [some (.ref a), some (.ref b), some (.ref c), none, none] rfl ?_
 trivial
 have wat : ∀ {i : Nat}, i < rooms.length → ∃ a2, rs[ix rooms i]? = some (.ref a2) ∧ H a2 = some (.tup ((m.ways.getD (ix rooms i) []).map nV)) ∧ (m.ways.getD (ix rooms i) []).length ≤ 16 := fun {i} hi => by
  have hw1 : ix rooms i < m.ways.length := by rw [ok.len]; exact hr' _ (zc7 hi)
  obtain ⟨v2, ev, a2, rfl, e4⟩ := Paired.at2 pr (y00 hw1)
  have eg : m.ways.getD (ix rooms i) [] = m.ways[ix rooms i] := by rw [y02, y00 hw1]; rfl
  rw [eg]
  refine ⟨a2, ev, e4, ?_⟩
  rw [ok.line _ (y0g hw1)]
  omega
 refine ⟨⟨_, .of eb⟩, zfg (n := rooms.length) (fun σ => ∃ v, σ = [v, some (.ref c), some (.ref a)]) (fun j y H => Line H y ((m.ways.getD (ix rooms j) []).map g)) (by omega) ⟨_, rfl⟩ (fun i H' hi gg => ⟨_, nV (ix rooms i), .of (gg _ _ eb), by rw [y04, zb9 hi]; rfl⟩) (fun H' gg => ⟨_, .of (gg _ _ eb), by rw [y01]; exact y06 _⟩) ?_ ?_⟩
 ·rintro D i ys σ H1 x H1' hi gg hD hD' hl hy ⟨v, rfl⟩ ⟨rfl, yx⟩
  have ex := yx _ (.of (gg _ _ eb))
  rw [y04, zb9 hi] at ex
  cases ex
  obtain ⟨a2, ev, e4, h16⟩ := wat hi
  trivial
  exact ⟨_, .of (gg _ _ ea), _, zaj (j := 1) rfl, _, rfl, _, .of (gg _ _ eb1), _, zaj ev, a2, c, _, g, rfl, gg _ _ e4, h16, (lk _ (zc7 hi)).same gg, fun p H2 g2 e2 => zbv (fun j y H H' ts z => z.ts ts) (by omega) hi hD (g2 _ _ hD') hl hy g2.tups (gg.trans g2) ⟨_, rfl⟩ ⟨p, rfl, e2⟩⟩
 intro D1 ys H1 hD1 g1 eD1 hl1 hy1
 simp only [V.ref.injEq, exists_eq_left']
 refine ⟨⟨_, .of (g1 _ _ eb)⟩, zgx (K := K) (a := b) (xs := rooms.map nV) (fun σ => ∃ v, σ = [v, some (.ref a)]) (fun y => match y with | .int z => .bl (m.fin z.toNat) | v => v) (by rw [y01]; omega) (.of (g1 _ _ eb)) ⟨_, rfl⟩ ?_ ?_⟩
 ·rintro D i σ H' x hi hm hx gg hD hD' ⟨v, rfl⟩
  obtain ⟨r, mr, rfl⟩ := y0m.mp hm
  have at3 : (m.ends.map V.bl)[r]? = some (.bl (m.fin r)) := by rw [y04, Mc.fin_at (hr' r mr)]; rfl
  trivial
  exact ⟨_, .of ((g1.trans gg) _ _ ea), _, zaj (j := 2) rfl, _, rfl, _, .of ((g1.trans gg) _ _ ec1), _, zaj at3, zcb (by rw [y01]; omega) hx hD hD' gg ⟨_, rfl⟩ rfl⟩
 intro D2 H2 hD2 g2 eD2
 have eD2' : H2 D2 = some (.lst ((rooms.map m.fin).map V.bl)) := by rw [eD2, y0r, y0r]; rfl
 have g12 := g1.trans g2
 simp only [V.ref.injEq, exists_eq_left']
 refine ⟨_, .of (g12 _ _ ea), _, zbf, _, .inl ⟨.of (g2 _ _ eD1), fun t1 H3 n3 => ⟨_, .inl ⟨.of (n3.g _ _ eD2'), fun t2 H4 n4 => ⟨zab (by simp), fun t3 H5 n5 => ?_⟩⟩⟩⟩⟩
 have g25 : Same H2 H5 := n3.g.trans (n4.g.trans n5.g)
 refine q t3 H5 (g12.trans g25) ⟨t1, t2, ys, n5.at', (n4.g.trans n5.g) _ _ n3.at', zbz (by rw [hl1]; exact (y01 _).symm) fun j y l e1 e2 => ?_, n5.g _ _ n4.at'⟩
 have hj : j < rooms.length := by rw [← hl1]; exact (y0b.mp e1).1
 have e2' : some ((m.ways.getD (ix rooms j) []).map g) = some l := by rw [← e2]; show _ = (rooms.map fun r => (m.ways.getD r []).map g)[j]?; rw [y04, zb9 hj]; rfl
 cases e2'
 exact (hy1 j y e1).ts (g2.trans g25).tups
abbrev s_numbered : Stmt := top 12
theorem sc_numbered : FnScope ["marks", "numbers", "mark"] ["marks"] (defScope s_numbered) := ⟨rfl, rfl, rfl, by decide +kernel, rfl, by decide +kernel, by decide +kernel⟩
theorem zi4 (T : Txt K mg w tw rw fa cj ca ce co cn) (d : Dfn K mg "numbered" s_numbered ["marks"]) : Cal P w K mg base 1 "numbered" ["marks"] zcr := by
 refine d.cal sc_numbered (fun vs H Q E h => ?_) (fun f cdv A outer s H vs Q E hr h => ?_)
 ·rcases h with ⟨a, bs, rfl, _⟩ | ⟨a, rs, ms, rfl, _⟩ <;> rfl
 have hu := zff hr 8 (by decide)
 rcases h with ⟨a, bs, rfl, ea, h100, q⟩ | ⟨a, rs, ms, rfl, ea, pr, h100, q⟩
 ·refine ⟨_, (zac (zat (i := 1) sc_numbered.nd rfl (Or.inr rfl) zqc) (zac (zbo PassesOwn.never rfl (zb7 K (pv 0)) (zah (i := 2) sc_numbered.nd (by rfl) (Or.inl (by rfl))) (zad (za8 (zam (zck hu) (pv 2) (pv 1) (by with_unfolding_all rfl)) (zad (zd8 hu (pv 1) (pv 2) (za1 zmj (by rfl) T.b_len boot_len (pa_c (pv 1) zaa)) rfl)) zap))) (zad (zai (zau ["mark"] [(1, "numbers")] (CompOk.of rfl (by rfl) (by rfl)) (by rfl) (zb7 K (pv 0)) (fun _ _ _ _ _ => (zah (i := 0) (show List.Nodup (["mark", "numbers"] : List Str) by decide +kernel) (by rfl) (Or.inl (by rfl)))) (fun _ _ _ _ _ => za5) (fun _ _ _ _ _ => (zd9 hu (pv 1) (pv 0) (fun _ _ => rfl)))))))), ?_⟩
  refine za0 [some (.ref a), none, none] rfl ?_
  trivial
  refine fun p H1 n1 => ⟨⟨_, .of (n1.g _ _ ea)⟩, zsb (K := K) (a := a) (xs := bs.map V.bl) (fun i σ H' => Same H H' ∧ (∃ v2, σ = [some (.ref a), some (.ref p), v2]) ∧ H' p = some (.dK (tabF keyB 0 (news [] (bs.take i))))) ⟨n1.g, ⟨none, rfl⟩, n1.at'⟩ (fun i σ H' _ z => .of (z.1 _ _ ea)) ?_ ?_⟩
  ·rintro i y σ H' hy ⟨g, ⟨v2, rfl⟩, ep⟩
   rw [y04] at hy
   obtain ⟨x, ex, rfl⟩ := y14.mp hy
   have en := zhz ex
   have hnl := zeb (bs.take i) []
   rw [y0w, y0v] at hnl
   trivial
   refine ⟨_, DGet.b ep, ?_⟩
   by_cases hx : x ∈ news [] (bs.take i)
   ·rw [show valV (tabF keyB 0 (news [] (bs.take i))) (.inl (blI x)) = _ from zde zec hx]
    exact iteF ⟨g, by rw [en, zny hx]; exact ep⟩
   ·rw [show valV (tabF keyB 0 (news [] (bs.take i))) (.inl (blI x)) = _ from zd4 zec hx]
    refine iteT ⟨_, ep, _, DPut.b ep (by rw [zcj]; exact small1000 (by omega)), g.wr n1.nil _, ?_⟩
    rw [zar, en, zi8 hx]
    exact congrArg (fun z => some (HO.dK z)) (zf9 zec hx)
  ·rintro σ H' ⟨g, ⟨v2, rfl⟩, ep⟩
   rw [y01, y0n (y06 _)] at ep
   simp only [tRet, iTup, zbj, zgj, V.ref.injEq, exists_eq_left']
   refine ⟨⟨_, .of (g _ _ ea)⟩, zh9 (K := K) (a := a) (xs := bs.map V.bl) (fun σ => ∃ v, σ = [v, some (.ref p)]) (fun y => match y with | .bl x => nV (nOf (news [] bs) x) | v => v) (by rw [y01]; omega) (.of (g _ _ ea)) ⟨_, rfl⟩ ?_ ?_⟩
   ·rintro D i σ H2 x hi hm hx gg hD hD' ⟨v, rfl⟩
    obtain ⟨r, mr, rfl⟩ := y0m.mp hm
    have tv : valV (tabF keyB 0 (news [] bs)) (.inl (blI r)) = _ := zde zec ((zbm bs [] r).mpr (.inr mr))
    have z := DGet.b (b := r) (gg _ _ ep)
    rw [tv] at z
    trivial
    exact ⟨_, z, zcb (by rw [y01]; omega) hx hD hD' gg ⟨_, rfl⟩ rfl⟩
   intro D H3 hD g3 eD
   exact q D (bs.map (nOf (news [] bs))) H3 (g.free hD) (g.trans g3) (by rw [eD, y0r, y0r]; rfl) (zr2 bs)
 ·have hlr := SS.Paired.len pr
  refine ⟨_, (zac (zat (i := 1) sc_numbered.nd rfl (Or.inr rfl) zna) (zac (zbo PassesOwn.never rfl (zav K (pv 0)) (zah (i := 2) sc_numbered.nd (by rfl) (Or.inl (by rfl))) (zad (za8 (zam (zck hu) (pv 2) (pv 1) (by with_unfolding_all rfl)) (zad (zd8 hu (pv 1) (pv 2) (za1 zpc (by rfl) T.b_len boot_len (pa_c (pv 1) zaa)) rfl)) zap))) (zad (zai (zau ["mark"] [(1, "numbers")] (CompOk.of rfl (by rfl) (by rfl)) (by rfl) (zav K (pv 0)) (fun _ _ _ _ _ => (zah (i := 0) (show List.Nodup (["mark", "numbers"] : List Str) by decide +kernel) (by rfl) (Or.inl (by rfl)))) (fun _ _ _ _ _ => za5) (fun _ _ _ _ _ => (zd9 hu (pv 1) (pv 0) (fun _ _ => rfl)))))))), ?_⟩
  refine za0 [some (.ref a), none, none] rfl ?_
  trivial
  refine fun p H1 n1 => ⟨⟨_, .of (n1.g _ _ ea)⟩, zca (K := K) (a := a) (xs := rs) (fun i σ H' => Same H H' ∧ (∃ v2, σ = [some (.ref a), some (.ref p), v2]) ∧ H' p = some (.dT (tabF keyL 0 (news [] (ms.take i))))) ⟨n1.g, ⟨none, rfl⟩, n1.at'⟩ (fun i σ H' _ z => .of (z.1 _ _ ea)) ?_ ?_⟩
  ·rintro i y σ H' hy ⟨g, ⟨v2, rfl⟩, ep⟩
   obtain ⟨x, ex, t, rfl, et⟩ := SS.Paired.at pr hy
   have en := zhz ex
   have hnl := zeb (ms.take i) []
   rw [y0w, y0v] at hnl
   have et' : H' t = some (.tup ((keyL x).map kV)) := by rw [zh1]; exact g _ _ et
   trivial
   refine ⟨_, DGet.t ep et', ?_⟩
   by_cases hx : x ∈ news [] (ms.take i)
   ·rw [show valV (tabF keyL 0 (news [] (ms.take i))) (keyL x) = _ from zde zbn hx]
    exact iteF ⟨g, by rw [en, zny hx]; exact ep⟩
   ·rw [show valV (tabF keyL 0 (news [] (ms.take i))) (keyL x) = _ from zd4 zbn hx]
    refine iteT ⟨_, ep, _, DPut.t ep et' (by rw [zcj]; exact small1000 (by omega)), g.wr n1.nil _, ?_⟩
    rw [zar, en, zi8 hx]
    exact congrArg (fun z => some (HO.dT z)) (zf9 zbn hx)
  ·rintro σ H' ⟨g, ⟨v2, rfl⟩, ep⟩
   rw [y0n (by omega)] at ep
   simp only [tRet, iList, zbj, zgj, V.ref.injEq, exists_eq_left']
   refine ⟨⟨_, .of (g _ _ ea)⟩, zjm (K := K) (a := a) (xs := rs) (fun σ => ∃ v, σ = [v, some (.ref p)]) (fun i => nV (nOf (news [] ms) (ms.getD i []))) (by omega) (.of (g _ _ ea)) ⟨_, rfl⟩ ?_ ?_⟩
   ·rintro D i σ H2 x hi hx gg hD hD' ⟨v, rfl⟩
    obtain ⟨r, er, t, rfl, et⟩ := SS.Paired.at pr hx
    have tv : valV (tabF keyL 0 (news [] ms)) (keyL r) = _ := zde zbn ((zbm ms [] r).mpr (.inr (y0h er)))
    have et' : H2 t = some (.tup ((keyL r).map kV)) := by rw [zh1]; exact gg _ _ (g _ _ et)
    have z := DGet.t (gg _ _ ep) et'
    rw [tv] at z
    trivial
    refine ⟨_, z, cstep (zab (by omega)) hi hD' (by simp) ⟨gg.wr hD _, ⟨_, rfl⟩, ?_⟩⟩
    rw [y2k, y0z, List.map_singleton, y02, er, y0u]
   intro D H3 hD g3 eD
   refine q D (ms.map (nOf (news [] ms))) H3 (g.free hD) (g.trans g3) ?_ (zr2 ms)
   rw [eD, hlr]
   congr 2
   refine y2a (by simp) fun i h1 h2 => ?_
   simp only [y01, y17] at h1
   simp [y02, y00 h1]
abbrev s_finer_sorts : Stmt := top 13
theorem zfc : FnScope ["machine", "sorts"] ["machine", "sorts"] (defScope s_finer_sorts) := ⟨rfl, rfl, rfl, by decide +kernel, rfl, by decide +kernel, by decide +kernel⟩
theorem zqu (T : Txt K mg w tw rw fa cj ca ce co cn) (d : Dfn K mg "finer_sorts" s_finer_sorts ["machine", "sorts"]) (C_renamed : Cal P w K mg base 1 "renamed" ["rooms", "numbers"] zdg) (C_numbered : Cal P w K mg base 1 "numbered" ["marks"] zcr) : Cal P w K mg base 2 "finer_sorts" ["machine", "sorts"] zkb := by
 refine d.cal zfc (fun vs H Q E h => ?_) (fun f cdv A outer s H vs Q E hr h => ?_)
 ·obtain ⟨a, b, m, ns, rfl, _⟩ := h
  rfl
 obtain ⟨a, b, m, ns, rfl, ⟨b1, c1, rs, ea, eb1, pr, ec1⟩, ok, eb, S, q⟩ := h
 have hps := zbp ok.wid
 have hf : m.n ≤ 100 := ok.few
 have hsl : ns.length = m.n := S.len
 have hrs : rs.length = m.n := by rw [SS.Paired.len pr, ok.len]
 refine ⟨_, (zad (zai (zae C_numbered hr (by omega) (by rfl) (pa_c (zau ["sort", "ways"] [(1, "sorts")] (CompOk.of rfl (by rfl) (by rfl)) (by rfl) (zqa K (by rfl) T.b_zip (pa_c (pv 1) (pa_c (zan (zak K) (pv 0) zaf (fun _ _ => rfl)) zaa))) (fun _ _ _ _ _ => (zeu K (n := 2) rfl (zbh (zah (i := 0) (show List.Nodup (["sort", "ways", "sorts"] : List Str) by decide +kernel) (by rfl) (Or.inl (by rfl))) (zbh (zah (i := 1) (show List.Nodup (["sort", "ways", "sorts"] : List Str) by decide +kernel) (by rfl) (Or.inl (by rfl))) zet)))) (fun _ _ _ _ _ => za5) (fun _ _ _ _ _ => (za6 (zni K) (zbc (pa_c (pv 0) zaa)) (zae C_renamed hr (by omega) (by rfl) (pa_c (pv 1) (pa_c (pv 2) zaa)))))) zaa)))), ?_⟩
 refine za0 [some (.ref a), some (.ref b)] rfl ?_
 trivial
 refine ⟨_, .of ea, _, zaj (j := 1) rfl, _, rfl, ⟨_, .of eb⟩, ⟨_, .of eb1⟩, zfg (n := m.n) (fun σ => ∃ v v', σ = [v, v', some (.ref b)]) (fun j y H => Line H y (markOf m ns j)) (by omega) ⟨_, _, rfl⟩ (fun i H' hi gg => ?_) (fun H' gg => ⟨_, _, .of (gg _ _ eb), .of (gg _ _ eb1), by rw [y01]; omega⟩) ?_ ?_⟩
 ·obtain ⟨v2, ev, _⟩ := Paired.at2 pr (y00 (show i < m.ways.length by rw [ok.len]; exact hi))
  exact ⟨_, _, nV (ix ns i), v2, .of (gg _ _ eb), .of (gg _ _ eb1), by rw [y04, zb9 (by omega)]; rfl, ev⟩
 ·rintro D i ys σ H1 x H1' hi gg hD hD' hl hy ⟨v, v', rfl⟩ yz
  obtain ⟨p, x1, y1, rfl, n1, ex, ey⟩ := zps (.of (gg _ _ eb)) (.of (gg _ _ eb1)) yz
  rw [y04, zb9 (by omega)] at ex
  cases ex
  have hw1 : i < m.ways.length := by rw [ok.len]; exact hi
  obtain ⟨v2, ev, a2, rfl, e4⟩ := Paired.at2 pr (y00 hw1)
  rw [ev] at ey
  cases ey
  have eg : m.ways.getD i [] = m.ways[i] := by rw [y02, y00 hw1]; rfl
  have hll := ok.line _ (y0g hw1)
  have g1 := gg.trans n1.g
  trivial
  refine ⟨_, .of n1.at', rfl, _, _, rfl, _, _, rfl, rfl, zab (by simp), fun t H2 n2 => ⟨a2, b, m.ways[i], ix ns, rfl, n2.g _ _ (g1 _ _ e4), by omega, .inr ⟨ns, n2.g _ _ (g1 _ _ eb), fun r mr => zb9 (by rw [hsl]; exact ok.room _ (y0g hw1) r mr)⟩, fun p3 H3 g3 e3 => ?_⟩⟩
  refine ⟨_, rfl, _, .of (g3 _ _ n2.at'), _, .of e3, by simp, ?_, ?_, fun p4 H4 n4 => ?_⟩
  ·intro z
   have := congrArg List.length z
   rw [y01, y01, y0v] at this
   omega
  ·rw [y01, y01, y19]; exact zab (by omega)
  have g24 : Same H1' H4 := n2.g.trans (g3.trans n4.g)
  refine zbv (fun j y H H' ts z => z.ts ts) (by omega) hi hD (g24 _ _ (n1.g _ _ hD')) hl hy (n1.g.trans g24).tups (g1.trans g24) ⟨_, _, rfl⟩ ⟨p4, rfl, ?_⟩
  rw [n4.at']
  unfold markOf
  rw [eg]
  rfl
 intro D ys H1 hD g1 eD hl hy
 refine .inr ⟨D, ys, (List.range m.n).map (markOf m ns), rfl, eD, zbz (by rw [hl, y01, y17]) fun j y l e1 e2 => ?_, by rw [y01, y17]; omega, fun D2 fs H2 hD2 g2 e2 N => q D2 fs H2 (g1.free hD2) (g1.trans g2) e2 N⟩
 have hj : j < m.n := by rw [← hl]; exact (y0b.mp e1).1
 rw [y04, y1j hj] at e2
 cases e2
 exact hy j y e1
abbrev s_sorts_by : Stmt := top 14
theorem sc_sorts_by : FnScope ["ends", "part_further", "sorts", "finer"] ["ends", "part_further"] (defScope s_sorts_by) := ⟨rfl, rfl, rfl, by decide +kernel, rfl, by decide +kernel, by decide +kernel⟩
theorem zls (T : Txt K mg w tw rw fa cj ca ce co cn) (d : Dfn K mg "sorts_by" s_sorts_by ["ends", "part_further"]) (C_numbered : Cal P w K mg base 1 "numbered" ["marks"] zcr) : Cal P w K mg base 4 "sorts_by" ["ends", "part_further"] (zfl P w K mg base) := by
 refine d.cal sc_sorts_by (fun vs H Q E h => ?_) (fun f cdv A outer s H vs Q E hr h => ?_)
 ·obtain ⟨e, f, fd, bs, R, J, Nx, mu, rfl, _⟩ := h
  rfl
 obtain ⟨e, pf, fd, bs, R, J, Nx, mu, rfl, ee, hb, ef, cl, hR, hRs, hJ0, hJl, hnx, q⟩ := h
 have hu := zff hr 8 (by decide)
 refine ⟨_, (zac (zat (i := 2) sc_sorts_by.nd rfl (Or.inl rfl) (zae C_numbered hr (by omega) (by rfl) (pa_c (pv 0) zaa))) (zac (zat (i := 3) sc_sorts_by.nd rfl (Or.inl rfl) (zby P w K mg base 1 3 1 (zgb R J Nx) hr (by omega) (pa_c (pv 2) zaa))) (zac (zgl PassesOwn.never (zam (zte K hu) (pv 3) (pv 2) (nomark _)) (zac (zat (i := 2) sc_sorts_by.nd rfl (Or.inl rfl) (pv 3)) (zad (zat (i := 3) sc_sorts_by.nd rfl (Or.inl rfl) (zby P w K mg base 1 3 1 (zgb R J Nx) hr (by omega) (pa_c (pv 2) zaa)))))) (zad (zai (pv 2)))))), ?_⟩
 refine za0 [some (.ref e), some (.ref pf), none, none] rfl ?_
 trivial
 refine .inl ⟨e, bs, rfl, ee, hb, fun D1 ns H1 hD1 g1 e1 N1 => ?_⟩
 refine ⟨pf, rfl, fd, g1 _ _ ef, g1 _ _ ef, cl.mono g1.frz, rfl, D1, ns, rfl, hRs _ _ g1 hR, e1, hJ0 ns N1, fun D2 fs H2 hD2 g2 e2 N2 => ?_⟩
 refine ⟨fun mm σ H' => ∃ (ns fs : List Nat) (D1 D2 : Addr), mm = mu ns ∧ Same H H' ∧ σ = [some (.ref e), some (.ref pf), some (.ref D1), some (.ref D2)] ∧ H' D1 = some (.lst (ns.map nV)) ∧ H' D2 = some (.lst (fs.map nV)) ∧ J ns ∧ Nx ns fs,
  ⟨_, ns, fs, D1, D2, rfl, g1.trans g2, rfl, g2 _ _ e1, e2, hJ0 ns N1, N2⟩, ?_⟩
 rintro mm σ H' ⟨ns, fs, D1, D2, rfl, g, rfl, e1, e2, S, N⟩
 obtain ⟨S', dn⟩ := hnx ns fs S N
 trivial
 refine ⟨fs.map fun (n : Nat) => (n : Int), .of (by rw [← zf1]; exact e2), ns.map fun (n : Nat) => (n : Int), .of (by rw [← zf1]; exact e1), ?_⟩
 by_cases hn : fs = ns
 ·rw [decide_eq_true (by rw [hn])]
  refine iteF ?_
  exact q D1 ns H' g e1 S (hn ▸ N)
 ·rw [decide_eq_false (fun z => hn (zdx z))]
  refine iteT ⟨fun σ' H'' => ∃ m', m' < mu ns ∧ _, fun σ' H'' z => z, ?_⟩
  refine ⟨pf, rfl, fd, g _ _ ef, g _ _ ef, cl.mono g.frz, rfl, D2, fs, rfl, hRs _ _ g hR, e2, S', fun D3 fs' H3 hD3 g3 e3 N3 => ⟨mu fs, dn hn, fs, rfl, g.trans g3, fs', D2, D3, rfl, g3 _ _ e2, e3, S', N3⟩⟩
abbrev s_reduced : Stmt := top 15
theorem sc_reduced : FnScope ["machine", "rooms", "in_order", "sorts", "firsts"] ["machine"] (defScope s_reduced) := ⟨rfl, rfl, rfl, by decide +kernel, rfl, by decide +kernel, by decide +kernel⟩
abbrev qs_reduced : List (Pos × Str) := [(⟨56, 34, 56, 80⟩, "reduced.<locals>.<lambda>")]
theorem zlv {c Pt : Addr} (T : Txt K mg w tw rw fa cj ca ce co cn) (d : DfnC K mg "reduced" s_reduced ["machine"] c Pt) (kb : BltK base mg) (C_reached : Cal P w K mg base 1 "reached" ["machine"] zfm) (C_picked : Cal P w K mg base 2 "picked" ["machine", "rooms", "numbers"] zhc) (C_finer_sorts : Cal P w K mg base 2 "finer_sorts" ["machine", "sorts"] zkb) (C_sorts_by : Cal P w K mg base 4 "sorts_by" ["ends", "part_further"] (zfl P w K mg base)) : Cal P w K mg base 5 "reduced" ["machine"] (zeh Pt qs_reduced) := by
 refine d.cal sc_reduced (fun vs H Q E h => ?_) (fun f A outer s H vs Q E hr h => ?_)
 ·obtain ⟨a, m, rfl, _⟩ := h
  rfl
 obtain ⟨a, m, rfl, tab, rm, ok, q⟩ := h
 have hf : m.n ≤ 100 := ok.few
 refine ⟨_, (zac (zat (i := 1) sc_reduced.nd rfl (Or.inl rfl) (zae C_reached hr (by omega) (by rfl) (pa_c (pv 0) zaa))) (zac (zat (i := 2) sc_reduced.nd rfl (Or.inr rfl) (zae C_picked hr (by omega) (by rfl) (pa_c (pv 0) (pa_c (pv 1) (pa_c (zcc (zg3 K rfl) (by rfl) T.b_dict boot_dict (pa_c (zau ["number", "room"] [] (CompOk.of rfl (by rfl) (by rfl)) (by rfl) (zgn K (by rfl) T.b_enumerate (pa_c (pv 1) zaa)) (fun _ _ _ _ _ => (zeu K (n := 2) rfl (zbh (zah (i := 0) (show List.Nodup (["number", "room"] : List Str) by decide +kernel) (by rfl) (Or.inl (by rfl))) (zbh (zah (i := 1) (show List.Nodup (["number", "room"] : List Str) by decide +kernel) (by rfl) (Or.inl (by rfl))) zet)))) (fun _ _ _ _ _ => za5) (fun _ _ _ _ _ => (zbc (pa_c (pv 1) (pa_c (pv 0) zaa))))) zaa)) zaa))))) (zac (zat (i := 3) sc_reduced.nd rfl (Or.inr rfl) (zew C_sorts_by hr (by omega) (by rfl) (fun _ => rfl) (pa_c (zan (zak K) (pv 2) zaf (fun _ _ => rfl)) (pa_c (zm9 (qs := qs_reduced) "reduced.<locals>.<lambda>" rfl d.code kb (by rfl) (by rfl)) zaa)))) (zac (zct (i := 4) sc_reduced.nd rfl (Or.inl rfl) ["sort"] [(3, "sorts")] (CompOk.of rfl (by rfl) (by rfl)) (by rfl) (zbi (by rfl) T.b_range (pa_c (za6 zez (za1 (zjr K rfl) (by rfl) T.b_max boot_max (pa_c (pv 3) zaa)) zaf) zaa)) (fun _ _ _ _ _ => (zah (i := 0) (show List.Nodup (["sort", "sorts"] : List Str) by decide +kernel) (by rfl) (Or.inl (by rfl)))) (fun _ _ _ _ _ => za5) (fun _ _ _ _ _ => (zc1 K PySem.F.plainAttrs_list PySem.F.slot_list_index PySem.F.type_list_index (zn4 K) (pv 1) (pa_c (pv 0) zaa)))) (zad (zai (zae C_picked hr (by omega) (by rfl) (pa_c (pv 2) (pa_c (pv 4) (pa_c (pv 3) zaa)))))))))), ?_⟩
 refine za0 [some (.ref a), none, none, none, none] rfl ?_
 trivial
 refine ⟨a, m, rfl, rm, ok, fun D rooms H1 hD g1 eD cm => ?_⟩
 have hrl : rooms.length ≤ m.n := zcl cm.nd cm.lt
 refine ⟨_, rfl, ⟨_, .of eD⟩, zfg (n := rooms.length) (fun σ => ∃ v v', σ = [v, v']) (fun j y H => ∃ t, y = .ref t ∧ H t = some (.tup [nV (ix rooms j), nV j])) (by omega) ⟨_, _, rfl⟩ (fun i H' hi gg => ⟨_, nV (ix rooms i), .of (gg _ _ eD), by rw [y04, zb9 hi]; rfl⟩) (fun H' gg => ⟨_, .of (gg _ _ eD), by rw [y01]; exact y06 _⟩) ?_ ?_⟩
 ·rintro D' i ys σ H2 x H2' hi gg hD1 hD2 hl hy ⟨v, v', rfl⟩ yz
  obtain ⟨p, x1, rfl, n1, ex⟩ := zjz (.of (gg _ _ eD)) yz
  rw [y04, zb9 hi] at ex
  cases ex
  trivial
  refine ⟨_, .of n1.at', rfl, _, _, rfl, _, _, rfl, rfl, zab (by simp), fun t H3 n3 => zbv (fun j y H H' ts ⟨t, e, z⟩ => ⟨t, e, ts _ _ z⟩) (by omega) hi hD1 (n3.g _ _ (n1.g _ _ hD2)) hl hy (n1.g.trans n3.g).tups (gg.trans (n1.g.trans n3.g)) ⟨_, _, rfl⟩ ⟨t, rfl, n3.at'⟩⟩
 intro D2 ys H2 hD2 g2 eD2 hl2 hy2
 have hpo : ∀ j y (l : Key × V), ys[j]? = some y → ((List.range rooms.length).map fun i => ((Sum.inl ((ix rooms i : Nat) : Int) : Key), nV i))[j]? = some l → PairV H2 y l := fun j y l e1 e2 => by
  have hj : j < rooms.length := by rw [← hl2]; exact (y0b.mp e1).1
  rw [y04, y1j hj] at e2
  cases e2
  exact hy2 j y e1
 refine ⟨_, rfl, _, .of eD2, (List.range rooms.length).map fun i => ((Sum.inl ((ix rooms i : Nat) : Int) : Key), nV i), zbz (by rw [hl2, y01, y17]) hpo, by rw [y01, y17]; omega, fun dd H3 n3 => ?_⟩
 have g13 : Same H1 H3 := g2.trans n3.g
 have hg : ∀ i, i < rooms.length → rooms.idxOf (ix rooms i) = i := fun i hi => by
  obtain ⟨h1, h2⟩ := zky (zc7 hi)
  exact zr9 cm.nd h1 hi h2
 have knd : (((List.range rooms.length).map fun i => ((Sum.inl ((ix rooms i : Nat) : Int) : Key), nV i)).map (·.1)).Nodup := by
  rw [y0r]
  refine SM.nodup_map_on (fun i hi j hj e => ?_) List.nodup_range
  exact zr9 cm.nd (y15.mp hi) (y15.mp hj) (by have := Sum.inl.inj e; omega)
 have hlk : ∀ r ∈ rooms, Lk H3 dd (m.ways.getD r []) (fun x => rooms.idxOf x) := fun r mr => by
  refine .inl ⟨_, n3.at', fun x mx => zkq _ [] _ _ knd ?_⟩
  have hx : x ∈ rooms := by
   obtain ⟨i, hi, rfl⟩ := zgp mr
   have hw1 : ix rooms i < m.ways.length := by rw [ok.len]; exact cm.lt _ mr
   rw [y02, y00 hw1, y0u] at mx
   obtain ⟨l, hl, el⟩ := y28 mx
   rw [ok.line _ (y0g hw1)] at hl
   obtain ⟨line, f1, f2, _⟩ := ok.at (cm.lt _ mr) hl
   rw [y00 hw1] at f1
   cases f1
   rw [y00 (by rw [ok.line _ (y0g hw1)]; exact hl), el] at f2
   obtain ⟨t, ht, et, _⟩ := cm.clos i l hi hl (.inl hi)
   rw [Option.some.inj f2, ← et]
   exact zc7 ht
  obtain ⟨h1, h2⟩ := zky hx
  refine y0m.mpr ⟨rooms.idxOf x, y15.mpr h1, ?_⟩
  rw [h2]
 obtain ⟨ok1, ord1, _, _⟩ := ze8 ok cm (g := fun x => rooms.idxOf x) hg
 refine ⟨a, D, dd, m, rooms, fun x => rooms.idxOf x, rfl, rm.same (g1.trans g13), ok, g13 _ _ eD, by omega, cm.lt, hlk, fun p1 H4 g4 rm1 => ?_⟩
 obtain ⟨b1, c1, rs1, ea1, eb1, pr1, ec1⟩ := id rm1
 refine ⟨p1, rfl, _, .of ea1, _, zaj (j := 2) rfl, tab.same (g1.trans (g13.trans g4)), fun fl H4a M => ?_⟩
 intro Hq ad
 have gq : Same H4 Hq := M.old.trans ad.up
 obtain ⟨fdl, efl⟩ := M.fn
 generalize epm : (picked m rooms fun x => rooms.idxOf x) = pm1 at ok1 ord1 rm1 ea1 pr1 ec1
 have cl : CloH P w K mg base 3 Hq fl 1 (zgb (fun H => RepM H p1 pm1) (Sorts pm1) fun ns fs => Num ((List.range pm1.n).map (markOf pm1 ns)) fs) := by
  refine M.clo_e (own := ["coarser"]) (ps := ["coarser"]) (cap := ["in_order"]) (cv := [.ref p1]) (k := 2) (Same.refl _) ad ⟨rfl, rfl, rfl, by decide +kernel, rfl, by decide +kernel, by decide +kernel, by decide +kernel⟩ (y06 _) (.cons ⟨2, rfl, rfl, .inl rfl⟩ .nil) (fun cl ct cd pm us hl => match us, hl with | [_], _ => rfl) ?_
  rintro clo c' A' outer' s' H' vs Q' hr hcl fz fz2 hl ⟨b, ns, rfl, hR, eb, S, q'⟩
  refine ⟨_, (zae C_finer_sorts hr (by omega) (by rfl) (pa_c (pv 1) (pa_c (pv 0) zaa))), ?_⟩
  refine zsx [some (.ref b), some (.ref p1)] rfl ?_
  simp only [tNil, tCons, tCall, zbj, zcp, y13]
  exact ⟨p1, b, pm1, ns, rfl, hR.ts (SameN.tups hcl.n), ok1, hcl.n _ _ eb (fun _ _ z => nomatch z), S, fun D5 fs H5 hD5 g5 eD5 N5 hnone => q' D5 fs (mixL clo H' H5) (zc4 (cl := clo) (H := H') g5 |> fun _ => by
   have := zh6 hD5 eD5 hnone
   exact this) (zc4 g5) (zkp hnone _ _ eD5) N5⟩
 refine ⟨c1, fl, fdl, pm1.ends, (fun H => RepM H p1 pm1), Sorts pm1, _, (fun ns => pm1.n * pm1.n - ns.sum), rfl, gq _ _ ec1, ok1.few, ad.up _ _ efl, cl, rm1.same gq, (fun H1 H2 g z => z.same g), (fun ns N => ziu N), (fun ns S => by rw [S.len]; exact ok1.few), (fun ns fs S N => ?_), fun D5 ns H5' g5' eD5' S N5 => ?_⟩
 ·obtain ⟨S', ref, _⟩ := zfp ok1 S N
  refine ⟨S', fun hn => ?_⟩
  obtain ⟨m1, m2⟩ := zlj S S' ref hn
  show pm1.n * pm1.n - fs.sum < pm1.n * pm1.n - ns.sum
  omega
 have st := (zfp ok1 S N5).2.2 rfl
 have g5 := M.old.trans (ad.same g5')
 have eD5 := ad.keep g5' eD5' (fun _ _ z => nomatch z)
 dsimp only
 generalize dropX _ H5' = H5 at g5 eD5 ⊢
 subst epm
 have hnl : ns.length = rooms.length := by rw [S.len, zb6]
 refine ⟨_, rfl, ns.map fun (n : Nat) => (n : Int), .of (by rw [← zf1]; exact eD5), by rw [y01, hnl]; exact cm.pos, fun M mM hM => ?_⟩
 obtain ⟨Mn, mMn, rfl⟩ := y0m.mp mM
 have hMl : ∀ x ∈ ns, x ≤ Mn := fun x mx => by have := hM _ (y0m.mpr ⟨x, mx, rfl⟩); omega
 obtain ⟨F, mem⟩ := zoq S.srt mMn hMl
 have hMb : Mn < 100 := by
  obtain ⟨i, hi, ei⟩ := zgp mMn
  have := S.srt.le i hi
  omega
 have etn : ((Mn : Int) + 1 - 0).toNat = Mn + 1 := by omega
 refine ⟨by omega, by omega, ?_⟩
 rw [show ((Mn : Int) + 1).toNat = Mn + 1 by omega]
 refine zsg (fun σ => ∃ v, σ = [v, some (.ref D5)]) (fun i => nV (ns.idxOf i)) (by omega) ⟨_, rfl⟩ ?_ ?_
 ·rintro D6 i σ H6 hi gg hD6 hD6' ⟨v, rfl⟩
  trivial
  refine ⟨.inl ⟨_, .of (gg _ _ eD5)⟩, ns.map fun (n : Nat) => (n : Int), .of (by rw [← zf1]; exact gg _ _ eD5), y0m.mpr ⟨i, mem i (by omega), by omega⟩, by rw [y01]; omega, ?_⟩
  refine zo5 (by omega) hi hD6 hD6' gg ⟨_, rfl⟩ ?_
  rw [show (0 : Int) + (i : Int) = ((i : Nat) : Int) by omega, zkz]
 intro D6 H6 hD6 g6 eD6
 have eD6' : H6 D6 = some (.lst (((List.range (Mn + 1)).map fun s => ns.idxOf s).map nV)) := by rw [eD6, y0r]; rfl
 have fl : ∀ r ∈ ((List.range (Mn + 1)).map fun s => ns.idxOf s), r < (picked m rooms fun x => rooms.idxOf x).n := fun r mr => by
  obtain ⟨s', hs, rfl⟩ := zgp mr
  rw [← S.len]
  exact F.lt s' hs
 refine ⟨p1, D6, D5, _, _, ix ns, rfl, rm1.same (g5.trans g6), ok1, eD6', by rw [y01, y17]; omega, fl, fun r mr => .inr ⟨ns, g6 _ _ eD5, fun x mx => zb9 ?_⟩, fun p2 H7 g7 rm2 => ?_⟩
 ·rw [S.len]
  have hw1 : r < (picked m rooms fun x => rooms.idxOf x).ways.length := by rw [ok1.len]; exact fl r mr
  rw [y02, y00 hw1, y0u] at mx
  exact ok1.room _ (y0g hw1) x mx
 ·exact q p2 _ H7 (g1.trans (g13.trans (g4.trans (g5.trans (g6.trans g7))))) rm2 (red_of ok cm hg S st F)
theorem zi3 (T : Txt K mg w tw rw fa cj ca ce co cn) (d : Dfn K mg "renamed" s_renamed ["rooms", "numbers"]) : Cal P w K mg base 1 "renamed" ["rooms", "numbers"] zeg := by
 refine d.cal zdi (fun vs H Q E h => ?_) (fun f cdv A outer s H vs Q E hr h => ?_)
 ·obtain ⟨a, b, rs, ls, fs, rfl, _⟩ := h
  rfl
 obtain ⟨a, b, rs, ls, fs, rfl, ea, pr, h16, eb, hin, q⟩ := h
 have hu := zff hr 8 (by decide)
 have hrl := SS.Paired.len pr
 refine ⟨_, (zad (zai (zcc zax (by rfl) T.b_tuple boot_tuple (pa_c (zau ["room"] [(1, "numbers")] (CompOk.of rfl (by rfl) (by rfl)) (by rfl) (zav K (pv 0)) (fun _ _ _ _ _ => (zah (i := 0) (show List.Nodup (["room", "numbers"] : List Str) by decide +kernel) (by rfl) (Or.inl (by rfl)))) (fun _ _ _ _ _ => za5) (fun _ _ _ _ _ => (zd9 hu (pv 1) (pv 0) (fun _ _ => rfl)))) zaa)))), ?_⟩
 refine za0 [some (.ref a), some (.ref b)] rfl ?_
 trivial
 refine ⟨⟨_, .of ea⟩, zfg (n := ls.length) (fun σ => ∃ v, σ = [v, some (.ref b)]) (fun j y H => y = nV (nOf fs (ls.getD j []))) (by omega) ⟨_, rfl⟩ (fun i H' hi gg => ⟨_, rs[i]'(by omega), .of (gg _ _ ea), y00 _⟩) (fun H' gg => ⟨_, .of (gg _ _ ea), by omega⟩) ?_ ?_⟩
 ·rintro D i ys σ H1 x H1' hi gg hD hD' hl hy ⟨v, rfl⟩ ⟨rfl, yx⟩
  have ex := yx _ (.of (gg _ _ ea))
  obtain ⟨l, el, t, rfl, et⟩ := SS.Paired.at pr ex
  have et2 := gg _ _ et
  rw [← zh1] at et2
  have z := DGet.t (gg _ _ eb) et2
  rw [zde zbn (hin l (y0h el))] at z
  trivial
  refine ⟨_, z, zbv (fun j y H H' ts z => z) (by omega) hi hD hD' hl hy (Same.refl _).tups gg ⟨_, rfl⟩ ?_⟩
  rw [y02, el]; rfl
 intro D ys H1 hD g1 eD hl hy
 have eD' : H1 D = some (.lst ((ls.map (nOf fs)).map nV)) := by
  rw [eD]
  congr 2
  refine y3n fun j => ?_
  by_cases hj : j < ls.length
  ·rw [y00 (show j < ys.length by omega), hy j _ (y00 (show j < ys.length by omega)), y04, y04, y02, y00 hj]
   rfl
  ·rw [y1m (by omega), y1m (by rw [y01, y01]; omega)]
 exact ⟨_, rfl, _, .inl ⟨.of eD', fun t H2 n2 => q t H2 (g1.trans n2.g) n2.at'⟩⟩
abbrev s_explored : Stmt := top 21
theorem sc_explored : FnScope ["tracks", "first", "comings", "is_end", "numbers", "found", "ways", "coming_here", "thing"] ["tracks", "first", "comings", "is_end"] (defScope s_explored) := ⟨rfl, rfl, rfl, by decide +kernel, rfl, by decide +kernel, by decide +kernel⟩
theorem zi6 {Pt : Addr} (T : Txt K mg w tw rw fa cj ca ce co cn) (d : Dfn K mg "explored" s_explored ["tracks", "first", "comings", "is_end"]) (C_renamed : Cal P w K mg base 1 "renamed" ["rooms", "numbers"] zeg) (C_reduced : Cal P w K mg base 5 "reduced" ["machine"] (zeh Pt qs_reduced)) :
  Cal P w K mg base 6 "explored" ["tracks", "first", "comings", "is_end"] (zel P w K mg base Pt qs_reduced) := by
 refine d.cal sc_explored (fun vs H Q E h => ?_) (fun f cdv A outer s H vs Q E hr h => ?_)
 ·obtain ⟨a, fc, fe, fd, fd', Th, G, R, t0, rfl, _⟩ := h
  rfl
 obtain ⟨a, fc, fe, fdc, fde, Th, G, R, t0, rfl, tab, ea, efc, efe, clc, cle, hR, hRs, hw, hG0, hst, h100, q⟩ := h
 have hu := zff hr 8 (by decide)
 refine ⟨_, (zac (zat (i := 4) sc_explored.nd rfl (Or.inl rfl) (znb hu (pv 1) zaf)) (zac (zat (i := 5) sc_explored.nd rfl (Or.inl rfl) (zas (pa_c (pv 1) zaa))) (zac (zat (i := 6) sc_explored.nd rfl (Or.inl rfl) (zas zaa)) (zac (zgl PassesOwn.never (zam zqj (za1 (zag K) (by rfl) T.b_len boot_len (pa_c (pv 6) zaa)) (za1 (zag K) (by rfl) T.b_len boot_len (pa_c (pv 5) zaa)) (nomark _)) (zac (zat (i := 7) sc_explored.nd rfl (Or.inl rfl) (zby P w K mg base 2 4 1 (zdh R Th G) hr (by omega) (pa_c (zan (zaw K) (pv 5) (za1 (zag K) (by rfl) T.b_len boot_len (pa_c (pv 6) zaa)) (fun _ _ => rfl)) zaa))) (zac (zbo PassesOwn.never rfl (zav K (pv 7)) (zah (i := 8) sc_explored.nd (by rfl) (Or.inl (by rfl))) (zad (za8 (zam (zck hu) (pv 8) (pv 4) (by with_unfolding_all rfl)) (zac (zd8 hu (pv 4) (pv 8) (za1 (zag K) (by rfl) T.b_len boot_len (pa_c (pv 5) zaa)) rfl) (zad (zcu (zc1 K PySem.F.plainAttrs_list PySem.F.slot_list_append PySem.F.type_list_append zb0 (pv 5) (pa_c (pv 8) zaa))))) zap))) (zac (za8 (zam zqk (za1 (zag K) (by rfl) T.b_len boot_len (pa_c (pv 5) zaa)) (zbl (by rfl) T.g_MOST_COME_TO) (nomark _)) (zad zd7) zap) (zad (zcu (zc1 K PySem.F.plainAttrs_list PySem.F.slot_list_append PySem.F.type_list_append zb0 (pv 6) (pa_c (zae C_renamed hr (by omega) (by rfl) (pa_c (pv 7) (pa_c (pv 4) zaa))) zaa)))))))) (zad (zai (zae C_reduced hr (by omega) (by rfl) (pa_c (zbc (pa_c (pv 0) (pa_c (zcc zax (by rfl) T.b_tuple boot_tuple (pa_c (pv 6) zaa)) (pa_c (zcc zax (by rfl) T.b_tuple boot_tuple (pa_c (zau ["thing"] [(3, "is_end")] (CompOk.of rfl (by rfl) (by rfl)) (by rfl) (zav K (pv 5)) (fun _ _ _ _ _ => (zah (i := 0) (show List.Nodup (["thing", "is_end"] : List Str) by decide +kernel) (by rfl) (Or.inl (by rfl)))) (fun _ _ _ _ _ => za5) (fun _ _ _ _ _ => (zby P w K mg base 1 4 1 (zgd R Th G) hr (by omega) (pa_c (pv 0) zaa)))) zaa)) zaa)))) zaa)))))))), ?_⟩
 refine za0 [some (nV Th.w), some (.ref a), some (.ref fc), some (.ref fe), none, none, none, none, none] rfl ?_
 trivial
 refine fun kd Hk nk => ⟨nk.at', keyL t0, by rw [zh1]; exact nk.g _ _ ea, zab (by simp), fun pf H2 n2 => ⟨by decide, fun pw H3 n3 => ?_⟩⟩
 generalize eH : upd Hk kd (.dT [(keyL t0, V.int 0)]) = Hk2 at n2
 have gk : Same H Hk2 := by rw [← eH]; exact nk.g.wr nk.nil _
 have ek : Hk2 kd = some (.dT (tabF keyL 0 [t0])) := by rw [← eH, zar]; rfl
 have g3 : Same H H3 := gk.trans (n2.g.trans n3.g)
 have nfk : kd ≠ pf := zao ek n2.nil
 have nwk : kd ≠ pw := zao (n2.g _ _ ek) n3.nil
 have nfw : pf ≠ pw := zao n2.at' n3.nil
 have hkd : H kd = none := nk.nil
 have hpf : H pf = none := gk.free n2.nil
 have hpw : H pw = none := (gk.trans n2.g).free n3.nil
 have hps := zbp hw
 refine ⟨fun mm σ H' => ∃ (k : Nat) (fs : List (List Nat)) (rs rw : List V) (v7 v8 : Option V), mm = 100 - k ∧ Same H H' ∧ σ = [some (nV Th.w), some (.ref a), some (.ref fc), some (.ref fe), some (.ref kd), some (.ref pf), some (.ref pw), v7, v8] ∧ H' kd = some (.dT (tabF keyL 0 fs)) ∧ H' pf = some (.lst rs) ∧ Paired (Line H') rs fs ∧ H' pw = some (.lst rw) ∧ Paired (Line H') rw ((fs.take k).map fun t => (Th.step t).map (nOf fs)) ∧ Fnd Th G t0 fs k,
  ⟨100, 0, [t0], [.ref a], [], none, none, rfl, g3, rfl, (n2.g.trans n3.g) _ _ ek, n3.g _ _ n2.at', .cons ⟨a, rfl, g3 _ _ ea⟩ .nil, n3.at', .nil, Fnd.start hG0⟩, ?_⟩
 rintro mm σ H' ⟨k, fs, rs, rw', v7, v8, rfl, g, rfl, ek', ef', pr, ew', pw', F⟩
 have hrl := SS.Paired.len pr
 have hwl := SS.Paired.len pw'
 rw [y01, y0w, Nat.min_eq_left F.le] at hwl
 have h1 := h100 fs k F
 trivial
 refine ⟨_, .inl (.of ew'), _, .inl (.of ef'), ?_⟩
 by_cases hlt : k < fs.length
 ·rw [decide_eq_true (by omega)]
  refine iteT ⟨fun σ' H'' => ∃ m', m' < 100 - k ∧ _, fun σ' H'' z => z, ?_⟩
  have et : fs[k]? = some fs[k] := y00 hlt
  obtain ⟨v, ev, ta, rfl, eta⟩ := Paired.at2 pr et
  have hGt := F.good _ (y0g hlt)
  generalize fs[k] = t at et eta hGt
  obtain ⟨hsl, hsG⟩ := hst t hGt
  refine ⟨fc, rfl, fdc, g _ _ efc, _, .inl (.of ew'), _, .of ef', _, by rw [hwl]; exact zaj ev, g _ _ efc, clc.mono g.frz, rfl, ta, t, rfl, hRs _ _ g hR, eta, hGt, fun D rs' H1 hD g1 eD pr1 => ⟨D, rfl, ⟨_, .of eD⟩, ?_⟩⟩
  have nkD : kd ≠ D := zao ek' hD
  have nfD : pf ≠ D := zao ef' hD
  have hpl := SS.Paired.len pr1
  refine zca (K := K) (a := D) (xs := rs') (fun j σ H'' => Same H H'' ∧ TupS H1 H'' ∧ (∃ v8, σ = [some (nV Th.w), some (.ref a), some (.ref fc), some (.ref fe), some (.ref kd), some (.ref pf), some (.ref pw), some (.ref D), v8]) ∧ H'' D = some (.lst rs') ∧ H'' pw = some (.lst rw') ∧ ∃ rsj, H'' kd = some (.dT (tabF keyL 0 (news fs ((Th.step t).take j)))) ∧ H'' pf = some (.lst rsj) ∧ Paired (Line H'') rsj (news fs ((Th.step t).take j)))
   ⟨g.trans g1, TupS.refl _, ⟨_, rfl⟩, eD, g1 _ _ ew', rs, g1 _ _ ek', g1 _ _ ef', L2.Paired.mapP pr fun _ _ z => z.ts g1.tups⟩ (fun j σ H'' _ z => .of z.2.2.2.1) ?_ ?_
  ·rintro j y σ H'' hy ⟨g2, ts, ⟨v8', rfl⟩, eD2, ew2, rsj, ek2, ef2, prj⟩
   obtain ⟨u, eu, tu, rfl, etu⟩ := SS.Paired.at pr1 hy
   have etu1 := ts _ _ etu
   have etu2 : H'' tu = some (.tup ((keyL u).map kV)) := by rw [zh1]; exact etu1
   have hjl := SS.Paired.len prj
   have hnl := zeb ((Th.step t).take j) fs
   rw [y0w] at hnl
   trivial
   refine ⟨_, DGet.t ek2 etu2, ?_⟩
   by_cases hin : u ∈ news fs ((Th.step t).take j)
   ·rw [zde zbn hin]
    refine iteF ?_
    rw [zfy eu, zny hin]
    exact ⟨g2, ts, eD2, ew2, ek2, rsj, ef2, prj⟩
   ·rw [zd4 zbn hin]
    have ef3 : ∀ o, upd H'' kd o pf = some (.lst rsj) := fun o => by rw [zal (Ne.symm nfk)]; exact ef2
    refine iteT ⟨_, .inl (.of ef2), _, DPut.t ek2 etu2 (by rw [zcj]; exact small1000 (by omega)), .inl ⟨_, .of (ef3 _)⟩, _, ef3 _, small1000 (by omega), ?_⟩
    rw [zfy eu, zi8 hin]
    generalize news fs ((Th.step t).take j) = ds at hin ek2 prj hjl hnl
    have ep : putK (tabF keyL 0 ds) (keyL u) (V.int (rsj.length : Int)) = tabF keyL 0 (ds ++ [u]) := by
     rw [← zf9 zbn hin, zcj, hjl]
    have tsA : TupS H'' (upd (upd H'' kd (.dT (putK (tabF keyL 0 ds) (keyL u) (V.int (rsj.length : Int))))) pf (.lst (rsj ++ [.ref tu]))) := (TupS.wrT ek2 _).trans (TupS.wr (ef3 _) _)
    refine ⟨(g2.wr hkd _).wr hpf _, ts.trans tsA, by rw [zal (Ne.symm nfD), zal (Ne.symm nkD)]; exact eD2, by rw [zal (Ne.symm nfw), zal (Ne.symm nwk)]; exact ew2, by rw [zal nfk, zar, ep], rsj ++ [.ref tu], zar, SM.Paired.snoc (L2.Paired.mapP prj fun _ _ z => z.ts tsA) ⟨tu, rfl, tsA _ _ etu1⟩⟩
  ·rintro σ H'' ⟨g2, ts, ⟨v8', rfl⟩, eD2, ew2, rsj, ek2, ef2, prj⟩
   rw [hpl, y0n (y06 _)] at ek2 prj
   have F' := F.next et hsG
   have h2 := h100 _ _ F'
   have hjl := SS.Paired.len prj
   trivial
   refine ⟨_, .inl (.of ef2), ?_⟩
   rw [decide_eq_false (by omega)]
   refine iteF ⟨.inl ⟨_, .of ew2⟩, D, kd, rs', Th.step t, news fs (Th.step t), rfl, eD2, L2.Paired.mapP pr1 (fun _ _ z => z.ts ts), by omega, ek2, (fun l hl => (zbm _ _ _).mpr (.inr hl)), fun p H4 g4 ep => ⟨_, g4 _ _ ew2, small1000 (by omega), ?_⟩⟩
   have tsB : TupS H'' (upd H4 pw (.lst (rw' ++ [.ref p]))) := g4.tups.trans (TupS.wr (g4 _ _ ew2) _)
   refine ⟨100 - (k + 1), by omega, k + 1, rfl, (g2.trans g4).wr hpw _, news fs (Th.step t), by rw [zal nwk]; exact g4 _ _ ek2, rsj, by rw [zal nfw]; exact g4 _ _ ef2, L2.Paired.mapP prj (fun _ _ z => z.ts tsB), rw' ++ [.ref p], zar, ?_, F'⟩
   rw [zmo F et]
   exact SM.Paired.snoc (L2.Paired.mapP pw' fun _ _ z => z.ts (g1.tups.trans (ts.trans tsB))) ⟨p, rfl, TupS.wr (g4 _ _ ew2) _ _ _ ep⟩
 ·rw [decide_eq_false (by omega)]
  have hk : k = fs.length := by have := F.le; omega
  subst hk
  refine iteF ?_
  have hF : ∀ t ∈ fs, G t := F.good
  refine ⟨_, .inl ⟨.of ew', fun t1 H4 n4 => ⟨⟨_, .of (n4.g _ _ ef')⟩, ?_⟩⟩⟩
  refine zfg (n := fs.length) (fun σ => ∃ v, σ = [v, some (.ref fe)]) (fun j y H => y = .bl (Th.fin (fs.getD j []))) (by omega) ⟨_, rfl⟩ (fun i H5 hi gg => ⟨_, rs[i]'(by omega), .of (gg _ _ (n4.g _ _ ef')), y00 _⟩) (fun H5 gg => ⟨_, .of (gg _ _ (n4.g _ _ ef')), by omega⟩) ?_ ?_
  ·rintro D i ys σ H5 x H5' hi gg hD hD' hl hy ⟨v, rfl⟩ ⟨rfl, yx⟩
   have ex := yx _ (.of (gg _ _ (n4.g _ _ ef')))
   obtain ⟨l, el, tl, rfl, etl⟩ := SS.Paired.at pr ex
   have gg' := g.trans (n4.g.trans gg)
   simp only [tCallV, gName, tNil, tCons, tYes, zbj, y18, exists_and_left, if_true]
   refine ⟨fe, rfl, fde, gg' _ _ efe, gg' _ _ efe, cle.mono gg'.frz, rfl, tl, l, rfl, hRs _ _ gg' hR, (n4.g.trans gg) _ _ etl, F.good l (y0h el), fun H6 g6 => zbv (fun j y H H' ts z => z) (by omega) hi hD (g6 _ _ hD') hl hy g6.tups (gg.trans g6) ⟨_, rfl⟩ ?_⟩
   rw [y02, el]; rfl
  intro D ys H5 hD g5 eD hl hy
  have eD' : H5 D = some (.lst ((fs.map Th.fin).map V.bl)) := by
   rw [eD]
   congr 2
   refine y3n fun j => ?_
   by_cases hj : j < fs.length
   ·rw [y00 (show j < ys.length by omega), hy j _ (y00 (show j < ys.length by omega)), y04, y04, y02, y00 hj]
    rfl
   ·rw [y1m (by omega), y1m (by rw [y01, y01]; omega)]
  refine ⟨D, rfl, _, .inl ⟨.of eD', fun t2 H6 n6 => ⟨zab (by simp), fun t3 H7 n7 => ?_⟩⟩⟩
  have gA := n4.g.trans (g5.trans (n6.g.trans n7.g))
  rw [y0n (y06 _)] at pw'
  have rp : RepM H7 t3 (expl Th fs) := ⟨t1, t2, rw', n7.at', (g5.trans (n6.g.trans n7.g)) _ _ n4.at', L2.Paired.mapP pw' (fun _ _ z => z.ts gA.tups), n7.g _ _ n6.at'⟩
  refine ⟨t3, expl Th fs, rfl, tab.same (g.trans gA), rp, zor hw F (by omega) (fun t h => (hst t h).1), fun p m' H8 g8 r8 Rd => q p m' H8 (g.trans (gA.trans g8)) r8 Rd.ok Rd.w Rd.canon fun row hr => ?_⟩
  rw [← Rd.par row hr, zf4 F (fun t h => (hst t h).1) row hr]
abbrev s_paired : Stmt := top 22
theorem sc_paired : FnScope ["one", "other", "is_end", "comings"] ["one", "other", "is_end"] (defScope s_paired) := ⟨rfl, rfl, rfl, by decide +kernel, rfl, by decide +kernel, by decide +kernel⟩
abbrev qs_paired : List (Pos × Str) := [(⟨84, 4, 85, 60⟩, "paired.<locals>.comings"), (⟨86, 45, 86, 100⟩, "paired.<locals>.<lambda>")]
theorem zlx {c Pp Pt : Addr} (T : Txt K mg w tw rw fa cj ca ce co cn) (d : DfnC K mg "paired" s_paired ["one", "other", "is_end"] c Pp) (kb : BltK base mg) (C_explored : Cal P w K mg base 6 "explored" ["tracks", "first", "comings", "is_end"] (zel P w K mg base Pt qs_reduced)) :
  Cal P w K mg base 7 "paired" ["one", "other", "is_end"] (zfn P w K mg base Pt qs_reduced Pp qs_paired) := by
 refine d.cal sc_paired (fun vs H Q E h => ?_) (fun f A outer s H vs Q E hr h => ?_)
 ·obtain ⟨a, b, pf, fd, m1, m2, op, rfl, _⟩ := h
  rfl
 obtain ⟨a, b, pf, fd, m1, m2, op, rfl, tr, tp, rm1, rm2, o1, o2, hw, h100, ef, cl, q⟩ := h
 obtain ⟨b1, c1, rs1, ea, eb1, pr1, ec1⟩ := id rm1
 obtain ⟨b2, c2, rs2, eb, eb2, pr2, ec2⟩ := id rm2
 refine ⟨_, (zac (za8 (zam ztf (zan (zak K) (pv 0) zaf (fun _ _ => rfl)) (zan (zak K) (pv 1) zaf (fun _ _ => rfl)) (nomark _)) (zad zd7) zap) (zac (ps_dfn (qs := qs_paired) "paired.<locals>.comings" (j := 3) rfl d.code kb (by rfl) (by rfl) sc_paired.nd rfl rfl) (zad (zai (zew C_explored hr (by omega) (by rfl) (fun _ => rfl) (pa_c (zan (zak K) (pv 0) zaf (fun _ _ => rfl)) (pa_c (zbc (pa_c zaf (pa_c zaf zaa))) (pa_c (pv 3) (pa_c (zm9 (qs := qs_paired) "paired.<locals>.<lambda>" rfl d.code kb (by rfl) (by rfl)) zaa))))))))), ?_⟩
 refine za0 [some (.ref a), some (.ref b), some (.ref pf), none] rfl ?_
 trivial
 refine ⟨_, .of ea, _, zbf, _, .of eb, _, zbf, rfl, ?_⟩
 rw [show (!decide (nV m1.w = nV m2.w)) = false by rw [hw]; simp]
 refine iteF ⟨tp, fun f1 H1 M1 => ⟨_, .of (M1.old _ _ ea), _, zbf, zab (by simp), fun t0 H2 n2 => ⟨tp.same (M1.old.trans n2.g), fun f2 H3 M2 Hq ad => ?_⟩⟩⟩
 have g3 : Same H H3 := M1.old.trans (n2.g.trans M2.old)
 have gq : Same H Hq := g3.trans ad.up
 obtain ⟨fd1, ef1⟩ := M1.fn
 obtain ⟨fd2, ef2⟩ := M2.fn
 have clc : CloH P w K mg base 4 Hq f1 1 (zdh (fun H => RepMK K H a m1 ∧ RepMK K H b m2) (pairT m1 m2 op) (PairG m1 m2)) := by
  refine M1.clo_s (own := ["pair"]) (ps := ["pair"]) (cap := ["one", "other"]) (cv := [.ref a, .ref b]) (k := 3) (n2.g.trans M2.old) ad ⟨rfl, rfl, rfl, by decide +kernel, rfl, by decide +kernel, by decide +kernel, by decide +kernel⟩ (y06 _) (.cons ⟨0, rfl, rfl, .inl rfl⟩ (.cons ⟨1, rfl, rfl, .inl rfl⟩ .nil)) (fun cl ct cd pm us hl => match us, hl with | [_], _ => rfl) ?_
  rintro clo c' A' outer' s' H' vs Q' hr hcl fz fz2 hl ⟨pa, t, rfl, ⟨hR1, hR2⟩, et, ⟨x, y, rfl, hx, hy⟩, q'⟩
  refine ⟨_, (zad (zai (zi0 rfl (by rfl) T.b_list (by rfl) T.b_zip (pa_c (zan (zak K) (zan (zak K) (pv 1) zaf (fun _ _ => rfl)) (zan (zak K) (pv 0) zaf (fun _ _ => rfl)) (fun _ _ => rfl)) (pa_c (zan (zak K) (zan (zak K) (pv 2) zaf (fun _ _ => rfl)) (zan (zak K) (pv 0) zaf (fun _ _ => rfl)) (fun _ _ => rfl)) zaa))))), ?_⟩
  refine za0 [some (.ref pa), some (.ref a), some (.ref b)] rfl ?_
  trivial
  obtain ⟨b1', c1', rs1', ea', eb1', pr1', ec1'⟩ := hR1.ts (SameN.tups hcl.n)
  obtain ⟨b2', c2', rs2', eb', eb2', pr2', ec2'⟩ := hR2.ts (SameN.tups hcl.n)
  have et' := hcl.n _ _ et (fun _ _ z => nomatch z)
  obtain ⟨l1, w1, e1, n1, r1⟩ := zci o1 hx
  obtain ⟨l2, w2, e2, n2', r2⟩ := zci o2 hy
  obtain ⟨v1, ev1, u1, rfl, eu1⟩ := Paired.at2 pr1' w1
  obtain ⟨v2, ev2, u2, rfl, eu2⟩ := Paired.at2 pr2' w2
  have hps := zbp o1.wid
  refine ⟨_, .of ea', _, zaj (j := 1) rfl, _, .of et', _, zbf, b1', rfl, _, _, rfl, .of eb1', _, zaj ev1, _, .of eb', _, zaj (j := 1) rfl, _, .of et', _, zaj (j := 1) rfl, b2', rfl, _, _, rfl, .of eb2', _, zaj ev2, u1, rfl, u2, rfl, _, .of eu1, _, .of eu2, by rw [y01, y01, n1, n2', hw], by rw [y01, n1]; omega, fun L ps H5 hL g5 eL lps PL hn => q' L (ps.map V.ref) (mixL clo H' H5) (zh6 hL eL hn) (zc4 g5) (zkp hn _ _ eL) ?_⟩
  show Paired _ _ (((m1.ways.getD x []).zip (m2.ways.getD y [])).map fun p => [p.1, p.2])
  rw [e1, e2]
  refine zbz (by rw [y01, y01, List.length_zip, lps, y01, n1, n2', ← hw, Nat.min_self]) fun j v l ev el => ?_
  rw [y04] at ev el
  obtain ⟨p, ep, rfl⟩ := y14.mp ev
  obtain ⟨⟨z1, z2⟩, ez, rfl⟩ := y14.mp el
  obtain ⟨x', y', h1, h2, h3⟩ := PL j p ep
  obtain ⟨hz1, hz2⟩ := y32.mp ez
  rw [y04, hz1] at h1
  rw [y04, hz2] at h2
  cases h1
  cases h2
  exact ⟨p, rfl, zkp hn _ _ h3⟩
 have cle : CloH P w K mg base 4 Hq f2 1 (zgd (fun H => RepMK K H a m1 ∧ RepMK K H b m2) (pairT m1 m2 op) (PairG m1 m2)) := by
  refine M2.clo_e (own := ["pair"]) (ps := ["pair"]) (cap := ["is_end", "one", "other"]) (cv := [.ref pf, .ref a, .ref b]) (k := 3) (Same.refl _) ad ⟨rfl, rfl, rfl, by decide +kernel, rfl, by decide +kernel, by decide +kernel, by decide +kernel⟩ (y06 _) (.cons ⟨2, rfl, rfl, .inl rfl⟩ (.cons ⟨0, rfl, rfl, .inl rfl⟩ (.cons ⟨1, rfl, rfl, .inl rfl⟩ .nil))) (fun cl ct cd pm us hl => match us, hl with | [_], _ => rfl) ?_
  rintro clo c' A' outer' s' H' vs Q' hr hcl fz fz2 hl ⟨pa, t, rfl, ⟨hR1, hR2⟩, et, ⟨x, y, rfl, hx, hy⟩, q'⟩
  refine ⟨_, (zby P w K mg base 1 2 2 (zgf op) hr (by omega) (pa_c (zan (zak K) (zan (zak K) (pv 2) zaf (fun _ _ => rfl)) (zan (zak K) (pv 0) zaf (fun _ _ => rfl)) (fun _ _ => rfl)) (pa_c (zan (zak K) (zan (zak K) (pv 3) zaf (fun _ _ => rfl)) (zan (zak K) (pv 0) zaf (fun _ _ => rfl)) (fun _ _ => rfl)) zaa))), ?_⟩
  refine zsx [some (.ref pa), some (.ref pf), some (.ref a), some (.ref b)] rfl ?_
  trivial
  obtain ⟨b1', c1', rs1', ea', eb1', pr1', ec1'⟩ := hR1.ts (SameN.tups hcl.n)
  obtain ⟨b2', c2', rs2', eb', eb2', pr2', ec2'⟩ := hR2.ts (SameN.tups hcl.n)
  have et' := hcl.n _ _ et (fun _ _ z => nomatch z)
  exact ⟨pf, rfl, fd, fz2 _ _ _ (g3 _ _ ef), _, .of ea', _, zaj (j := 2) rfl, _, .of et', _, zbf, c1', rfl, _, _, rfl, ec1'.sq, _, zaj (by rw [y04, Mc.fin_at hx]; rfl), _, .of eb', _, zaj (j := 2) rfl, _, .of et', _, zaj (j := 1) rfl, c2', rfl, _, _, rfl, ec2'.sq, _, zaj (by rw [y04, Mc.fin_at hy]; rfl), fz2 _ _ _ (g3 _ _ ef), cl.mono (g3.frz.trans fz2), rfl, _, _, rfl, fun hn => q' _ (zc4 (Same.refl _))⟩
 refine ⟨t0, f1, f2, fd1, fd2, pairT m1 m2 op, PairG m1 m2, (fun H => RepMK K H a m1 ∧ RepMK K H b m2), [0, 0], rfl, tr.same gq, (M2.old.trans ad.up) _ _ n2.at', ((n2.g.trans M2.old).trans ad.up) _ _ ef1, ad.up _ _ ef2, clc, cle, ⟨rm1.same gq, rm2.same gq⟩, (fun H1 H2 g z => ⟨z.1.same g, z.2.same g⟩), o1.wid, ⟨0, 0, rfl, o1.pos, o2.pos⟩, (fun t h => zne o1 o2 hw h), (fun fs k F => y10 (zqi F) h100), fun p m' H5 g5 rp ok' ew cn tk => ?_⟩
 exact q p m' _ (g3.trans (ad.same g5)) (rp.ts fun b xs e => ad.keep g5 e (fun _ _ z => nomatch z)) ok' ew cn fun row hr => by rw [tk row hr, zkl o1 o2 hw row o1.pos o2.pos hr]; rfl
abbrev s_met : Stmt := top 24
theorem sc_met : FnScope ["one", "other"] ["one", "other"] (defScope s_met) := ⟨rfl, rfl, rfl, by decide +kernel, rfl, by decide +kernel, by decide +kernel⟩
abbrev qs_met : List (Pos × Str) := [(⟨90, 30, 90, 68⟩, "met.<locals>.<lambda>")]
theorem ztj {c Pm Pp Pt : Addr} (T : Txt K mg w tw rw fa cj ca ce co cn) (d : DfnC K mg "met" s_met ["one", "other"] c Pm) (kb : BltK base mg) (C_paired : Cal P w K mg base 7 "paired" ["one", "other", "is_end"] (zfn P w K mg base Pt qs_reduced Pp qs_paired)) :
  Cal P w K mg base 8 "met" ["one", "other"] (zit K Pt qs_reduced Pp qs_paired Pm qs_met fun x y => x && y) := by
 refine d.cal sc_met (fun vs H Q E h => ?_) (fun f A outer s H vs Q E hr h => ?_)
 ·obtain ⟨a, b, m1, m2, rfl, _⟩ := h
  rfl
 obtain ⟨a, b, m1, m2, rfl, tr, tp, tm, rm1, rm2, o1, o2, hw, h100, q⟩ := h
 refine ⟨_, (zad (zai (zew C_paired hr (by omega) (by rfl) (fun _ => rfl) (pa_c (pv 0) (pa_c (pv 1) (pa_c (zm9 (qs := qs_met) "met.<locals>.<lambda>" rfl d.code kb (by rfl) (by rfl)) zaa)))))), ?_⟩
 refine za0 [some (.ref a), some (.ref b)] rfl ?_
 simp only [tLam, tCallA, tRet, tNil, tCons, zbj, zcp]
 refine ⟨tm, fun fl H1 M Hq ad => ?_⟩
 have gq : Same H Hq := M.old.trans ad.up
 obtain ⟨fdl, efl⟩ := M.fn
 have cl : CloH P w K mg base 2 Hq fl 2 (zgf fun x y => x && y) := by
  refine M.clo_e (own := ["first", "second"]) (ps := ["first", "second"]) (cap := []) (cv := []) (k := 1) (Same.refl _) ad ⟨rfl, rfl, rfl, by decide +kernel, rfl, by decide +kernel, by decide +kernel, by decide +kernel⟩ (y06 _) .nil (fun cl ct cd pm us hl => match us, hl with | [_, _], _ => rfl) ?_
  rintro clo c' A' outer' s' H' vs Q' hr hcl fz fz2 hl ⟨x, y, rfl, q'⟩
  refine ⟨_, (zey (pv 0) (zev (pv 1))), ?_⟩
  refine zsx [some (.bl x), some (.bl y)] rfl ?_
  simp only [tAndV, zbj, zcp, V.bl.injEq, exists_eq_left']
  have hm : mixL clo H' (dropL clo H') = H' := by
   classical
   funext b
   unfold mixL dropL
   by_cases hb : InCl clo b
   ·rw [if_pos hb]
   ·rw [if_neg hb, if_neg hb]
  rw [hm]
  cases x with
  | true => exact iteT fun _ => q'
  | false => exact iteF fun _ => q'
 exact ⟨a, b, fl, fdl, m1, m2, _, rfl, tr.same gq, tp.same gq, rm1.same gq, rm2.same gq, o1, o2, hw, h100, ad.up _ _ efl, cl, fun p m' H5 g5 rp ok' ew cn tk => q p m' _ (M.old.trans (ad.same g5)) (rp.ts fun b xs e => ad.keep g5 e (fun _ _ z => nomatch z)) ok' ew cn tk⟩
abbrev s_is_letter_with_figures : Stmt := top 39
theorem zbt : FnScope ["thing", "letters"] ["thing", "letters"] (defScope s_is_letter_with_figures) := ⟨rfl, rfl, rfl, by decide +kernel, rfl, by decide +kernel, by decide +kernel⟩
theorem ok_lf (T : Txt K mg w tw rw fa cj ca ce co cn) (d : Dfn K mg "is_letter_with_figures" s_is_letter_with_figures ["thing", "letters"]) : Cal P w K mg base 1 "is_letter_with_figures" ["thing", "letters"] zsr := by
 refine d.cal zbt (fun vs H Q E h => ?_) (fun f cdv A outer s H vs Q E hr h => ?_)
 ·obtain ⟨x, l, k, rfl, _⟩ := h
  rfl
 obtain ⟨x, l, k, rfl, hk, hz, q⟩ := h
 refine ⟨_, (zac (za8 (PW.pt (zgk (zeq (zcq (za1 zdd (by rfl) T.b_isinstance boot_isinstance (pa_c (pv 0) (pa_c (zex (v := .ty "str") (by rfl) T.b_str boot_str (by rfl)) zaa))))) (zgk (zam zbu (pv 0) zaq (nomark _)) (zep (zam zqk (za1 zif (by rfl) T.b_len boot_len (pa_c (pv 0) zaa)) (zbl (by rfl) T.g_LONGEST_NAME) (nomark _)))))) (zad (zai zd3)) zap) (zad (zai (zey (zbk zhw (zan ix_str (pv 0) zaf (fun _ _ => rfl)) (pv 1) (by with_unfolding_all rfl)) (zev (za1 (za9 K rfl) (by rfl) T.b_all boot_all (pa_c (zau ["sign"] [] (CompOk.of rfl (by rfl) (by rfl)) (by rfl) (pi_str (zc0 sl_str (pv 0) (zdj zaf) zgm)) (fun _ _ _ _ _ => (zah (i := 0) (show List.Nodup (["sign"] : List Str) by decide +kernel) (by rfl) (Or.inl (by rfl)))) (fun _ _ _ _ _ => za5) (fun _ _ _ _ _ => (zbk zhw (pv 0) (zbl (by rfl) T.g_FIGURES) (by with_unfolding_all rfl)))) zaa))))))), ?_⟩
 refine za0 [some x, some (.str l)] rfl ?_
 trivial
 refine ⟨k, hk, by decide, ?_⟩
 cases hk with
 | str z =>
  have hz' := hz z rfl
  have hl := zmt z
  rw [show (!subT "str" "str") = false by decide]
  trivial
  refine ite2 (fun c => ?_) (fun c => ?_)
  ·have c' := of_decide_eq_true c
   subst c'
   exact q H (Same.refl H)
  have c' := of_decide_eq_false (y1h.mpr c)
  have ne : z.cps.toList ≠ [] := fun e => c' (ext_toList e)
  refine ⟨by have := small1000 hz'; omega, ?_⟩
  obtain ⟨c0, r0, e0⟩ := List.exists_cons_of_ne_nil ne
  have q' : ∀ H', Same H H' → Q (.bl (decide (r0.length ≤ 3) && signIn c0 l && r0.all fun d => signIn d FIGS)) H' := fun H' g => by
   have h := q H' g
   simp only [isNm, nameB, e0] at h
   exact h
  rw [e0, y0i] at hl
  refine ite2 (fun c => ?_) (fun c => ?_)
  ·have c2 := of_decide_eq_true c
   have h := q' H (Same.refl H)
   rw [show decide (r0.length ≤ 3) = false by simp; omega, y1k, y1k] at h
   exact h
  have c2 := of_decide_eq_false (y1h.mpr c)
  rw [show decide (r0.length ≤ 3) = true by simp; omega, y1a] at q'
  refine ⟨by have := small1000 hz'; omega, c0, by rw [e0]; exact zbf, ?_⟩
  refine ite2 (fun c => ?_) (fun c => ?_)
  ·rw [show signIn c0 l = true from c, y1a] at q'
   have es : (Txt.slice z (some 1) none).cps.toList = r0 := by
    rw [zmz, show ((1 : Int)) = ((1 : Nat) : Int) from rfl, zda, e0]
    rfl
   have en : (Txt.slice z (some 1) none).cps.size = r0.length := by rw [← es]; simp
   refine ⟨by have := small1000 hz'; omega, ?_⟩
   refine cb_str (fun D i ys σ H' => Same H H' ∧ (∃ v, σ = [v]) ∧ ys = (r0.take i).map fun d => V.bl (signIn d FIGS)) (by rw [en]; exact y1t (small1000 (by omega))) (fun D hD => ⟨za4 hD _, ⟨none, rfl⟩, rfl⟩) ?_ ?_
   ·rintro D i ys σ H' d hD hi hd hD' hys ⟨g, ⟨v, rfl⟩, rfl⟩
    trivial
    refine cstep (by rw [en]; exact y1t (small1000 (by omega))) hi hD' hys ⟨fun b o e => ?_, ⟨_, rfl⟩, ?_⟩
    ·rw [zal (zao e hD)]; exact g b o e
    ·rw [en] at hi
     have e1 : r0[i]? = some d := by rw [← es]; simpa using hd
     rw [y1g, e1, y0z]
     rfl
   ·rintro D ys σ H' hD hD' hys ⟨g, _, rfl⟩
    rw [en, y0n (y06 _)] at hD'
    refine ⟨_, rfl, r0.map fun d => signIn d FIGS, .of (by rw [hD', y0r]; rfl), ?_⟩
    have h := q' H' g
    rw [y22]
    exact h
  ·have h := q' H (Same.refl H)
   rw [show signIn c0 l = false from y1h.mpr c, y1k] at h
   exact h
 | non => exact q H (Same.refl H)
 | bl b => exact q H (Same.refl H)
 | int i => exact q H (Same.refl H)
 | lst e => exact q H (Same.refl H)
 | tup e => exact q H (Same.refl H)
 | dK e => exact q H (Same.refl H)
abbrev s_is_place : Stmt := top 40
theorem ziy : FnScope ["thing"] ["thing"] (defScope s_is_place) := ⟨rfl, rfl, rfl, by decide +kernel, rfl, by decide +kernel, by decide +kernel⟩
theorem zqm (T : Txt K mg w tw rw fa cj ca ce co cn) (d : Dfn K mg "is_place" s_is_place ["thing"]) (C_is_letter_with_figures : Cal P w K mg base 1 "is_letter_with_figures" ["thing", "letters"] zsr) : Cal P w K mg base 2 "is_place" ["thing"] (zga SMALL) := by
 refine d.cal ziy (fun vs H Q E h => ?_) (fun f cdv A outer s H vs Q E hr h => ?_)
 ·obtain ⟨x, k, rfl, _⟩ := h
  rfl
 obtain ⟨x, k, rfl, hk, hz, q⟩ := h
 refine ⟨_, (zad (zai (zae C_is_letter_with_figures hr (by omega) (by rfl) (pa_c (pv 0) (pa_c (zbl (by rfl) T.g_SMALL_LETTERS) zaa))))), ?_⟩
 refine za0 [some x] rfl ?_
 simp only [tC, tRet, tNil, tCons, tCall, zbj, y13]
 exact ⟨x, SMALL, k, rfl, hk, hz, q⟩
abbrev s_is_set : Stmt := top 41
theorem zm4 : FnScope ["thing"] ["thing"] (defScope s_is_set) := ⟨rfl, rfl, rfl, by decide +kernel, rfl, by decide +kernel, by decide +kernel⟩
theorem ok_set (T : Txt K mg w tw rw fa cj ca ce co cn) (d : Dfn K mg "is_set" s_is_set ["thing"]) (C_is_letter_with_figures : Cal P w K mg base 1 "is_letter_with_figures" ["thing", "letters"] zsr) : Cal P w K mg base 2 "is_set" ["thing"] (zga GREAT) := by
 refine d.cal zm4 (fun vs H Q E h => ?_) (fun f cdv A outer s H vs Q E hr h => ?_)
 ·obtain ⟨x, k, rfl, _⟩ := h
  rfl
 obtain ⟨x, k, rfl, hk, hz, q⟩ := h
 refine ⟨_, (zad (zai (zae C_is_letter_with_figures hr (by omega) (by rfl) (pa_c (pv 0) (pa_c (zbl (by rfl) T.g_GREAT_LETTERS) zaa))))), ?_⟩
 refine za0 [some x] rfl ?_
 simp only [tC, tRet, tNil, tCons, tCall, zbj, y13]
 exact ⟨x, GREAT, k, rfl, hk, hz, q⟩
abbrev s_is_name : Stmt := top 42
theorem zll : FnScope ["thing"] ["thing"] (defScope s_is_name) := ⟨rfl, rfl, rfl, by decide +kernel, rfl, by decide +kernel, by decide +kernel⟩
theorem ok_nm (T : Txt K mg w tw rw fa cj ca ce co cn) (d : Dfn K mg "is_name" s_is_name ["thing"]) (C_is_place : Cal P w K mg base 2 "is_place" ["thing"] (zga SMALL)) (C_is_set : Cal P w K mg base 2 "is_set" ["thing"] (zga GREAT)) : Cal P w K mg base 3 "is_name" ["thing"] zpw := by
 refine d.cal zll (fun vs H Q E h => ?_) (fun f cdv A outer s H vs Q E hr h => ?_)
 ·obtain ⟨x, rfl, _⟩ := h
  rfl
 obtain ⟨x, rfl, ⟨⟨k, hk⟩, hz⟩, q⟩ := h
 refine ⟨_, (zad (zai (pe_or (zae C_is_place hr (by omega) (by rfl) (pa_c (pv 0) zaa)) (zev (zae C_is_set hr (by omega) (by rfl) (pa_c (pv 0) zaa)))))), ?_⟩
 refine za0 [some x] rfl ?_
 simp only [tOrV, tRet, tNil, tCons, tCall, zbj, y13]
 refine ⟨x, k, rfl, hk, hz, fun H1 g1 => ⟨_, rfl, ite2 (fun c => ?_) (fun c => ⟨x, k, rfl, hk.same g1, hz, fun H2 g2 => ?_⟩)⟩⟩
 ·have h := q H1 g1
  rw [show isName x = true by unfold isName; rw [c, y43]] at h
  exact h
 ·have h := q H2 (g1.trans g2)
  rw [show isName x = isNm x GREAT by unfold isName; rw [y1h.mpr c, Bool.false_or]] at h
  exact h
abbrev s_is_frame : Stmt := top 43
theorem ziz : FnScope ["thing"] ["thing"] (defScope s_is_frame) := ⟨rfl, rfl, rfl, by decide +kernel, rfl, by decide +kernel, by decide +kernel⟩
theorem zqs (T : Txt K mg w tw rw fa cj ca ce co cn) (d : Dfn K mg "is_frame" s_is_frame ["thing"]) (C_is_name : Cal P w K mg base 3 "is_name" ["thing"] zpw) : Cal P w K mg base 4 "is_frame" ["thing"] zst := by
 refine d.cal ziz (fun vs H Q E h => ?_) (fun f cdv A outer s H vs Q E hr h => ?_)
 ·obtain ⟨x, rfl, _⟩ := h
  rfl
 obtain ⟨x, rfl, ⟨⟨k, hk⟩, hz⟩, hxs, q⟩ := h
 refine ⟨_, (zac (za8 (PW.pt (zgk (zeq (zcq (za1 zdd (by rfl) T.b_isinstance boot_isinstance (pa_c (pv 0) (pa_c (zex (v := .ty "list") (by rfl) T.b_list boot_list (by rfl)) zaa))))) (zep (zam zqk (za1 (zag K) (by rfl) T.b_len boot_len (pa_c (pv 0) zaa)) (zbl (by rfl) T.g_MOST_NAMES) (nomark _))))) (zad (zai zd3)) zap) (zad (zai (zey (za1 (za9 K rfl) (by rfl) T.b_all boot_all (pa_c (zau ["name"] [] (CompOk.of rfl (by rfl) (by rfl)) (by rfl) (zav K (pv 0)) (fun _ _ _ _ _ => (zah (i := 0) (show List.Nodup (["name"] : List Str) by decide +kernel) (by rfl) (Or.inl (by rfl)))) (fun _ _ _ _ _ => za5) (fun _ _ _ _ _ => (zae C_is_name hr (by omega) (by rfl) (pa_c (pv 0) zaa)))) zaa)) (zev (zbk zbu (za1 zg2 (by rfl) T.b_len boot_len (pa_c (zcc (zid rfl) (by rfl) T.b_set boot_set (pa_c (pv 0) zaa)) zaa)) (za1 (zag K) (by rfl) T.b_len boot_len (pa_c (pv 0) zaa)) (nomark _))))))), ?_⟩
 refine za0 [some x] rfl ?_
 trivial
 refine ⟨k, hk, by decide, ?_⟩
 cases hk with
 | lst e =>
  rename_i a xs
  obtain ⟨hl, hy⟩ := hxs a xs rfl e
  have hS : SqL K H a xs := .of e
  have ef : frB H (.ref a) = frameB xs := by simp only [frB, e]
  rw [ef] at q
  refine iteF ⟨a, rfl, xs, .inl hS, ?_⟩
  refine ite2 (fun c => ?_) (fun c => ⟨a, rfl, ⟨xs, hS⟩, ?_⟩)
  ·have c' := of_decide_eq_true c
   have h := q H (Same.refl H)
   rw [show frameB xs = false by unfold frameB; rw [decide_eq_false (by omega), y1k, y1k]] at h
   exact h
  have c' := of_decide_eq_false (y1h.mpr c)
  have ef2 : frameB xs = (xs.all isName && decide xs.Nodup) := by unfold frameB; rw [decide_eq_true (by omega), y1a]
  rw [ef2] at q
  refine zgy (K := K) (a := a) (xs := xs) (fun D i ys σ H' => Same H H' ∧ (∃ v, σ = [v]) ∧ ys = (xs.take i).map fun y => V.bl (isName y)) (zab hl) (fun D hD => ⟨za4 hD _, ⟨none, rfl⟩, rfl⟩) (fun D i ys σ H' _ _ _ ⟨g, _⟩ => g.seq hS) ?_ ?_
  ·rintro D i ys σ H' y hD hi hx hD' hys ⟨g, ⟨v, rfl⟩, rfl⟩
   simp only [gName, tNil, tCons, tCall, tYes, zbj, y18, y13, if_true]
   refine ⟨y, rfl, (hy y (y0h hx)).same g, fun H2 g2 => ?_⟩
   refine cstep (zab hl) hi (g2 _ _ hD') hys ⟨fun b o e => ?_, ⟨_, rfl⟩, ?_⟩
   ·rw [zal (zao e hD)]; exact g2 b o (g b o e)
   ·rw [y1g, hx, y0z]
    rfl
  ·rintro D ys σ H' hD hD' hys ⟨g, _, rfl⟩
   rw [y0n (y06 _)] at hD'
   refine ⟨D, rfl, xs.map isName, .of (by rw [hD', y0r]; rfl), ?_⟩
   rw [y22, show (id ∘ isName) = isName from rfl]
   refine ite2 (fun ca => ?_) (fun ca => ?_)
   ·obtain ⟨ks, ek, nk⟩ := zf0 ca
    have lk : ks.length = xs.length := by rw [ek, y01]
    refine ⟨a, rfl, ks, ek ▸ g.seq hS, by omega, fun b H3 n3 => ⟨ks, n3.at', by omega, a, rfl, xs, .inl (n3.g.seq (g.seq hS)), ?_⟩⟩
    have h := q _ (g.trans n3.g)
    rw [ca, y1a] at h
    have ed : decide xs.Nodup = decide (((onceK [] ks).length : Int) = (xs.length : Int)) := by
     refine decide_eq_decide.mpr ?_
     rw [nk, ← znj, lk]
     omega
    rw [ed] at h
    exact h
   ·have h := q H' g
    rw [y1h.mpr ca, y1k] at h
    exact h
 | non => exact q H (Same.refl H)
 | bl b => exact q H (Same.refl H)
 | int i => exact q H (Same.refl H)
 | str z => exact q H (Same.refl H)
 | tup e =>
  have h := q H (Same.refl H)
  simp only [frB, e] at h
  exact h
 | dK e =>
  have h := q H (Same.refl H)
  simp only [frB, e] at h
  exact h
theorem zhx (T : Txt K mg w tw rw fa cj ca ce co cn) (d : Dfn K mg "renamed" s_renamed ["rooms", "numbers"]) : Cal P w K mg base 1 "renamed" ["rooms", "numbers"] (zdt K) := by
 refine d.cal zdi (fun vs H Q E h => ?_) (fun f cdv A outer s H vs Q E hr h => ?_)
 ·obtain ⟨a, b, l, line, rfl, _⟩ := h
  rfl
 obtain ⟨a, b, l, line, rfl, ea, h32, eb, hb, q⟩ := h
 refine ⟨_, (zad (zai (zcc zax (by rfl) T.b_tuple boot_tuple (pa_c (zau ["room"] [(1, "numbers")] (CompOk.of rfl (by rfl) (by rfl)) (by rfl) (zav K (pv 0)) (fun _ _ _ _ _ => (zah (i := 0) (show List.Nodup (["room", "numbers"] : List Str) by decide +kernel) (by rfl) (Or.inl (by rfl)))) (fun _ _ _ _ _ => za5) (fun _ _ _ _ _ => (zan (zak K) (pv 1) (pv 0) (fun _ _ => rfl)))) zaa)))), ?_⟩
 refine za0 [some (.ref a), some (.ref b)] rfl ?_
 trivial
 refine ⟨⟨_, .of ea⟩, zgx (K := K) (a := a) (xs := l.map nV) (fun σ => ∃ v, σ = [v, some (.ref b)]) (fun y => match y with | .int z => nV (line.getD z.toNat 0) | v => v) (by rw [y01]; omega) (.of ea) ⟨_, rfl⟩ ?_ ?_⟩
 ·rintro D i σ H' x hi hm hx gg hD hD' ⟨v, rfl⟩
  obtain ⟨r, mr, rfl⟩ := y0m.mp hm
  have z : atI (line.map nV) (r : Int) = some (nV (line.getD r 0)) := zaj (by rw [y04, y02, y00 (hb r mr)]; rfl)
  trivial
  exact ⟨_, eb _, _, z, zcb (by rw [y01]; omega) hx hD hD' gg ⟨_, rfl⟩ rfl⟩
 intro D H1 hD g1 eD
 have eD' : H1 D = some (.lst ((l.map fun x => line.getD x 0).map nV)) := by rw [eD, y0r, y0r]; rfl
 exact ⟨_, rfl, _, .inl ⟨.of eD', fun t H2 n2 => q t H2 (g1.trans n2.g) n2.at'⟩⟩
abbrev s_letter_of : Stmt := top 26
theorem zhk : FnScope ["letter", "tracks"] ["letter", "tracks"] (defScope s_letter_of) := ⟨rfl, rfl, rfl, by decide +kernel, rfl, by decide +kernel, by decide +kernel⟩
theorem zi5 (T : Txt K mg w tw rw fa cj ca ce co cn) (d : Dfn K mg "letter_of" s_letter_of ["letter", "tracks"]) : Cal P w K mg base 1 "letter_of" ["letter", "tracks"] zej := by
 refine d.cal zhk (fun vs H Q E h => ?_) (fun f cdv A outer s H vs Q E hr h => ?_)
 ·obtain ⟨l, a, ts, rfl, _⟩ := h
  rfl
 obtain ⟨l, a, ts, rfl, h32, ea, h5, h4, q⟩ := h
 refine ⟨_, (zad (zai (za1 (zdc K rfl) (by rfl) T.b_sum boot_sum (pa_c (zau ["number", "track"] [(0, "letter")] (CompOk.of rfl (by rfl) (by rfl)) (by rfl) (zgn K (by rfl) T.b_enumerate (pa_c (pv 1) zaa)) (fun _ _ _ _ _ => (zeu K (n := 2) rfl (zbh (zah (i := 0) (show List.Nodup (["number", "track", "letter"] : List Str) by decide +kernel) (by rfl) (Or.inl (by rfl))) (zbh (zah (i := 1) (show List.Nodup (["number", "track", "letter"] : List Str) by decide +kernel) (by rfl) (Or.inl (by rfl))) zet)))) (fun _ _ _ _ _ => za5) (fun _ _ _ _ _ => (za6 zng (za6 op_and (za6 op_shr (pv 2) (pv 1)) zaf) (pv 0)))) zaa)))), ?_⟩
 refine za0 [some (nV l), some (.ref a)] rfl ?_
 trivial
 refine ⟨⟨_, .of ea⟩, zfg (n := ts.length) (fun σ => ∃ v v', σ = [v, v', some (nV l)]) (fun j y H => ∃ t, ts[j]? = some t ∧ y = .int (Builtin.bitAnd ((l : Int) / 2 ^ t) 1 * 2 ^ j)) (by omega) ⟨_, _, rfl⟩ (fun i H' hi gg => ⟨_, nV (ix ts i), .of (gg _ _ ea), by rw [y04, zb9 hi]; rfl⟩) (fun H' gg => ⟨_, .of (gg _ _ ea), by rw [y01]; exact y06 _⟩) ?_ ?_⟩
 ·rintro D' i ys σ H2 x H2' hi gg hD1 hD2 hl hy ⟨v, v', rfl⟩ yz
  obtain ⟨p, x1, rfl, n1, ex⟩ := zjz (.of (gg _ _ ea)) yz
  rw [y04, zb9 hi] at ex
  cases ex
  have h4' := h4 _ (zc7 hi)
  trivial
  have hbs := (zpg l h32 (ix ts i) (by omega)).2
  refine ⟨_, .of n1.at', rfl, _, _, rfl, _, _, rfl, rfl, _, rfl, by omega, _, rfl, ⟨by omega, by omega, y3e hbs (by decide)⟩, ?_⟩
  exact zbv (G := fun j y H => ∃ t, ts[j]? = some t ∧ y = .int (Builtin.bitAnd ((l : Int) / 2 ^ t) 1 * 2 ^ j)) (fun j y H H' _ z => z) (by omega) hi hD1 (n1.g _ _ hD2) hl hy n1.g.tups (gg.trans n1.g) ⟨_, _, rfl⟩ ⟨ix ts i, zb9 hi, rfl⟩
 intro D2 ys H2 hD2 g2 eD2 hl2 hy2
 have ey : ys = (loL (l : Int) ts 0).map V.int := by
  refine y3n fun j => ?_
  rw [y04, zr4]
  by_cases hj : j < ys.length
  ·obtain ⟨t, et, e⟩ := hy2 j _ (y00 hj)
   rw [y00 hj, e, et, y3p]
   rfl
  ·rw [y1m (by omega), y1m (by omega)]
   rfl
 subst ey
 rw [← zn7] at q
 exact ⟨_, rfl, _, .of eD2, q H2 g2⟩
abbrev s_spread : Stmt := top 27
theorem sc_spread : FnScope ["machine", "tracks", "width", "seen"] ["machine", "tracks", "width"] (defScope s_spread) := ⟨rfl, rfl, rfl, by decide +kernel, rfl, by decide +kernel, by decide +kernel⟩
theorem zlr (T : Txt K mg w tw rw fa cj ca ce co cn) (d : Dfn K mg "spread" s_spread ["machine", "tracks", "width"]) (C_letter_of : Cal P w K mg base 1 "letter_of" ["letter", "tracks"] zej) (C_renamed : Cal P w K mg base 1 "renamed" ["rooms", "numbers"] (zdt K)) : Cal P w K mg base 2 "spread" ["machine", "tracks", "width"] (zdf K) := by
 refine d.cal sc_spread (fun vs H Q E h => ?_) (fun f cdv A outer s H vs Q E hr h => ?_)
 ·obtain ⟨a, b, m, ts, W, f, rfl, _⟩ := h
  rfl
 obtain ⟨a, b, m, ts, W, f, rfl, ⟨b1, c1, ls, ea, eb1, pr, ec1⟩, ok, eb, h5, h4, hW, hf, q⟩ := h
 have hps := zbp hW
 have hp2 : (1 : Int) * 2 ^ ((W : Nat) : Int).toNat = ((2 ^ W : Nat) : Int) := by rw [Int.one_mul, zs3]; rfl
 have hfew := ok.few
 refine ⟨_, (zac (zat (i := 3) sc_spread.nd rfl (Or.inr rfl) (zau ["letter"] [(1, "tracks")] (CompOk.of rfl (by rfl) (by rfl)) (by rfl) (zbi (by rfl) T.b_range (pa_c (za6 zng zaf (pv 2)) zaa)) (fun _ _ _ _ _ => (zah (i := 0) (show List.Nodup (["letter", "tracks"] : List Str) by decide +kernel) (by rfl) (Or.inl (by rfl)))) (fun _ _ _ _ _ => za5) (fun _ _ _ _ _ => (zae C_letter_of hr (by omega) (by rfl) (pa_c (pv 0) (pa_c (pv 1) zaa)))))) (zad (zai (zbc (pa_c (pv 2) (pa_c (zcc zax (by rfl) T.b_tuple boot_tuple (pa_c (zau ["ways"] [(3, "seen")] (CompOk.of rfl (by rfl) (by rfl)) (by rfl) (zb7 K (zan (zak K) (pv 0) zaf (fun _ _ => rfl))) (fun _ _ _ _ _ => (zah (i := 0) (show List.Nodup (["ways", "seen"] : List Str) by decide +kernel) (by rfl) (Or.inl (by rfl)))) (fun _ _ _ _ _ => za5) (fun _ _ _ _ _ => (zae C_renamed hr (by omega) (by rfl) (pa_c (pv 1) (pa_c (pv 0) zaa))))) zaa)) (pa_c (zan (zak K) (pv 0) zaf (fun _ _ => rfl)) zaa))))))), ?_⟩
 refine za0 [some (.ref a), some (.ref b), some (nV W), none] rfl ?_
 trivial
 refine ⟨⟨by omega, by omega, by decide⟩, by rw [hp2]; omega, by rw [hp2]; omega, ?_⟩
 rw [hp2, show ((2 ^ W : Nat) : Int).toNat = 2 ^ W from rfl]
 refine zsg (fun σ => ∃ v, σ = [v, some (.ref b)]) (fun i => nV (f i)) (by omega) ⟨_, rfl⟩ ?_ ?_
 ·rintro D i σ H' hi gg hD hD' ⟨v, rfl⟩
  simp only [gName, tNil, tCons, tCall, tYes, zbj, zcp, y18, y13, if_true]
  refine ⟨i, b, ts, by rw [y31], by omega, gg _ _ eb, h5, h4, fun H2 g2 => zo5 (by omega) hi hD (g2 _ _ hD') (gg.trans g2) ⟨_, rfl⟩ ?_⟩
  rw [(hf i hi).1]
 intro D1 H1 hD1 g1 eD1
 have eD1' : H1 D1 = some (.lst (((List.range (2 ^ W)).map f).map nV)) := by rw [eD1, y0r]; rfl
 have hl1 : ls.length = m.ways.length := SS.Paired.len pr
 have hwl := ok.len
 refine ⟨_, ea _, _, zaj (j := 1) rfl, _, rfl, ⟨_, eb1 _⟩, zfg (n := ls.length) (fun σ => ∃ v, σ = [v, some (.ref D1)]) (fun j y H => Line H y ((List.range (2 ^ W)).map fun l => (m.ways.getD j []).getD (f l) 0)) (by omega) ⟨_, rfl⟩ (fun i H' hi gg => ⟨_, _, eb1 _, by rw [y04, y00 hi]; rfl⟩) (fun H' gg => ⟨_, eb1 _, by rw [y01]; exact y06 _⟩) ?_ ?_⟩
 ·rintro D i ys σ H2 x H2' hi gg hD hD' hl hy ⟨v, rfl⟩ ⟨rfl, yx⟩
  have ex := yx _ (eb1 _)
  have hi' : i < m.ways.length := by omega
  obtain ⟨a2, ev, e4⟩ := Paired.at2 pr (y00 hi')
  rw [y04, ev] at ex
  cases ex
  have hll := ok.line _ (y0g hi')
  have eg : m.ways.getD i [] = m.ways[i] := by rw [y02, y00 hi']; rfl
  simp only [gName, tNil, tCons, tCall, tYes, zbj, zcp, y18, y13, if_true]
  refine ⟨D1, a2, (List.range (2 ^ W)).map f, m.ways[i], rfl, gg _ _ eD1', by rw [y01, y17]; omega, e4, fun x hx => ?_, fun p H3 g3 e3 => ?_⟩
  ·obtain ⟨l, hl, rfl⟩ := y0m.mp hx
   rw [hll]
   exact (hf l (y15.mp hl)).2
  refine zbv (fun j y H H' ts z => z.ts ts) (by omega) hi hD (g3 _ _ hD') hl hy g3.tups (gg.trans g3) ⟨_, rfl⟩ ⟨p, rfl, ?_⟩
  rw [e3, eg]
  simp only [y0r]
  rfl
 intro D2 ys H2 hD2 g2 eD2 hl2 hy2
 refine ⟨_, rfl, _, .inl ⟨.of eD2, fun t1 H3 n3 => ⟨_, ea _, _, zaj (j := 2) rfl, zab (by simp), fun t2 H4 n4 => ?_⟩⟩⟩
 have g24 : Same H2 H4 := n3.g.trans n4.g
 have g04 : Same H H4 := g1.trans (g2.trans g24)
 refine q t2 H4 g04 ⟨t1, c1, ys, n4.at', n4.g _ _ n3.at', zbz (by rw [hl2, hl1]; exact (y01 _).symm) fun j y l e1 e2 => ?_, Or.inr ec1⟩
 have hj : j < m.ways.length := by rw [← hl1, ← hl2]; exact (y0b.mp e1).1
 have e2' : some ((List.range (2 ^ W)).map fun l => (m.ways.getD j []).getD (f l) 0) = some l := by
  rw [← e2]
  show _ = (m.ways.map fun line => (List.range (2 ^ W)).map fun l => line.getD (f l) 0)[j]?
  rw [y04, y00 hj, y02, y00 hj]
  rfl
 cases e2'
 exact (hy2 j y e1).ts g24.tups
abbrev s_fitting_of : Stmt := top 66
theorem sc_fitting_of : FnScope ["frame", "machine", "track", "name"] ["frame"] (defScope s_fitting_of) := ⟨rfl, rfl, rfl, by decide +kernel, rfl, by decide +kernel, by decide +kernel⟩
theorem zqt {Pr Pp Pm : Addr} (T : Txt K mg w tw rw fa cj ca ce co cn) (d : Dfn K mg "fitting_of" s_fitting_of ["frame"]) (C_is_place : Cal P w K mg base 2 "is_place" ["thing"] (zga SMALL)) (C_spread : Cal P w K mg base 2 "spread" ["machine", "tracks", "width"] (zdf K)) (C_met : Cal P w K mg base 8 "met" ["one", "other"] (zit K Pr qs_reduced Pp qs_paired Pm qs_met fun x y => x && y)) : Cal P w K mg base 9 "fitting_of" ["frame"] (zka K Pr qs_reduced Pp qs_paired Pm qs_met) := by
 refine d.cal sc_fitting_of (fun vs H Q E h => ?_) (fun f cdv A outer s H vs Q E hr h => ?_)
 ·obtain ⟨a, names, rfl, _⟩ := h
  rfl
 obtain ⟨a, names, rfl, tr, tp, tm, ea, fo, q⟩ := h
 have h4 := fo.1
 refine ⟨_, (zac (zat (i := 1) sc_fitting_of.nd rfl (Or.inl rfl) (zae C_spread hr (by omega) (by rfl) (pa_c (zbl (by rfl) T.g_ANY_ROW) (pa_c (zas zaa) (pa_c (za1 (zag K) (by rfl) T.b_len boot_len (pa_c (pv 0) zaa)) zaa))))) (zac (zbo PassesOwn.never rfl (zgn K (by rfl) T.b_enumerate (pa_c (pv 0) zaa)) (zeu K (n := 2) rfl (zbh (zah (i := 2) sc_fitting_of.nd (by rfl) (Or.inl (by rfl))) (zbh (zah (i := 3) sc_fitting_of.nd (by rfl) (Or.inl (by rfl))) zet))) (zad (za8 (zcq (zae C_is_place hr (by omega) (by rfl) (pa_c (pv 3) zaa))) (zad (zat (i := 1) sc_fitting_of.nd rfl (Or.inl rfl) (zae C_met hr (by omega) (by rfl) (pa_c (pv 1) (pa_c (zae C_spread hr (by omega) (by rfl) (pa_c (zbl (by rfl) T.g_JUST_ONCE) (pa_c (zas (pa_c (pv 2) zaa)) (pa_c (za1 (zag K) (by rfl) T.b_len boot_len (pa_c (pv 0) zaa)) zaa)))) zaa))))) zap))) (zad (zai (pv 1))))), ?_⟩
 refine za0 [some (.ref a), none, none, none] rfl ?_
 trivial
 have bl := zed names
 have h01 : ∀ l : Nat, l < 2 ^ names.length → (fun _ : Nat => 0) l < 2 ^ anyM.w := fun l _ => (by decide : (0 : Nat) < 2 ^ anyM.w)
 refine ⟨zab (by simp), fun p0 H0 n0 => ⟨_, .inl (.of (n0.g _ _ ea)), ?_⟩⟩
 rw [y01]
 refine ⟨ca, p0, anyM, [], names.length, fun _ => 0, rfl, T.c_ANY_ROW, zpn, n0.at', by decide, (fun t h => nomatch h), h4, (fun l hl => ⟨rfl, h01 l hl⟩), fun pm0 H1 g1 r1 => ⟨⟨_, .of ((n0.g.trans g1) _ _ ea)⟩, ?_⟩⟩
 have e1 := (n0.g.trans g1) _ _ ea
 have ok0 : (sprd anyM (fun _ => 0) names.length).Ok := zir zpn h4 h01
 refine fb_enum (K := K) (a := a) (xs := names.map V.str) (fun i σ H' => Same H1 H' ∧ ∃ (pm : Addr) (m : Mc) (v2 v3 : Option V), σ = [some (.ref a), some (.ref pm), v2, v3] ∧ RepMK K H' pm m ∧ m.Ok ∧ Canon m ∧ m.w = names.length ∧ ∀ row, m.Row row → m.fin (m.run 0 row) = fitP (psOf (sofar (bsOf names) i)) row)
  ⟨Same.refl _, pm0, _, none, none, rfl, r1, ok0, zfh ok0 rfl, rfl, fun row hr => ?_⟩ (fun i σ H' _ z => .of (z.1 _ _ e1)) ?_ ?_
 ·rw [zon, zd5 (W := names.length) zpn h01 row 0 (by decide) hr, zpm _ fun l hl => (y0m.mp hl).elim fun x hx => hx.2.symm]
  rfl
 ·rintro i y σ H' pt H4 hy ⟨g, pm, m, v2, v3, rfl, rm, ok, cn, hw, tk⟩ n4
  rw [y04] at hy
  obtain ⟨z, ez, rfl⟩ := y14.mp hy
  have hi := (y0b.mp ez).1
  have bz := zpe ez
  trivial
  refine ⟨_, .of n4.at', rfl, _, _, rfl, _, _, rfl, rfl, .str z, _, rfl, .str z, (fun z' ez' => by injection ez' with ez'; subst ez'; exact zqz (fo.2 z (y0h ez))), fun H5 g5 => ⟨_, rfl, ?_⟩⟩
  have g45 : Same H' H5 := n4.g.trans g5
  have hv : isNm (.str z) SMALL = isP z := rfl
  rw [hv]
  cases hP : isP z with
  | false =>
   rw [hP] at bz
   refine iteF ⟨g.trans g45, m, rm.same g45, ok, cn, hw, fun row hr => ?_⟩
   rw [zom (by rw [bl]; exact hi) bz]
   exact tk row hr
  | true =>
   rw [hP] at bz
   have n17 := (fit_n (bs := sofar (bsOf names) i) (by rw [zbx, bl]; exact h4) ok cn (by rw [zbx, bl]; exact hw) tk).2
   refine iteT ⟨zab (by simp), fun p6 H6 n6 => ⟨_, .inl (.of ((g.trans (g45.trans n6.g)) _ _ e1)), ?_⟩⟩
   rw [y01]
   have hbit : ∀ l : Nat, l < 2 ^ names.length → loI (l : Int) [i] 0 = (bitN i l : Int) ∧ bitN i l < 2 ^ justM.w := fun l hl => ⟨bit_lo i (by omega) l (by have := zbp h4; omega), y3x _ (by decide)⟩
   refine ⟨cj, p6, justM, [i], names.length, bitN i, rfl, T.c_JUST_ONCE, zjg, n6.at', by simp, (fun t h => by rw [y0o.mp h]; omega), h4, hbit, fun p7 H7 g7 r7 => ?_⟩
   have g07 : Same H H7 := n0.g.trans (g1.trans (g.trans (g45.trans (n6.g.trans g7))))
   have ok7 : (sprd justM (bitN i) names.length).Ok := zir zjg h4 fun l hl => (hbit l hl).2
   refine ⟨pm, p7, m, _, rfl, tr.same g07, tp.same g07, tm.same g07, rm.same (g45.trans (n6.g.trans g7)), r7, ok, ok7, hw, ?_, fun p8 m8 H8 g8 r8 ok8 w8 cn8 tk8 => ?_⟩
   ·have : (sprd justM (bitN i) names.length).n = 3 := rfl
    rw [this]
    omega
   ·refine ⟨g.trans (g45.trans (n6.g.trans (g7.trans g8))), p8, rfl, m8, r8.k, ok8, cn8, w8.trans hw, fun row hr => ?_⟩
    have hr' : m.Row row := fun l hl => by rw [← w8]; exact hr l hl
    rw [tk8 row hr', tk row hr', zoo (by rw [bl]; exact hi) bz, zd5 zjg (fun l hl => (hbit l hl).2) row 0 (by decide) (fun l hl => by rw [← hw]; exact hr' l hl)]
    show (_ && justM.fin _) = _
    rw [zl8]
 ·rintro σ H' ⟨g, pm, m, v2, v3, rfl, rm, ok, cn, hw, tk⟩
  simp only [tRet, zbj, zcp]
  refine q pm m H' (n0.g.trans (g1.trans g)) rm ⟨ok, cn, hw, fun row hr => ?_⟩
  rw [tk row hr, y01, ← bl, zmx]
abbrev s_is_of_sort : Stmt := top 50
theorem zgi : FnScope ["thing", "sort", "deepest"] ["thing", "sort", "deepest"] (defScope s_is_of_sort) := ⟨rfl, rfl, rfl, by decide +kernel, rfl, by decide +kernel, by decide +kernel⟩
theorem znm {n k : Nat} (hk : 3 ≤ k) (T : Txt K mg w tw rw fa cj ca ce co cn) (d : Dfn K mg "is_of_sort" s_is_of_sort ["thing", "sort", "deepest"]) (C_is_place : Cal P w K mg base 2 "is_place" ["thing"] (zga SMALL)) (C_is_set : Cal P w K mg base 2 "is_set" ["thing"] (zga GREAT)) (C_is_name : Cal P w K mg base 3 "is_name" ["thing"] zpw)
  (C_has_form : Cal P w K mg base k "has_form" ["thing", "deepest"] (zge n)) : Cal P w K mg base (k + 1) "is_of_sort" ["thing", "sort", "deepest"] (zis n) := by
 refine d.cal zgi (fun vs H Q E h => ?_) (fun f cdv A outer s H vs Q E hr h => ?_)
 ·obtain ⟨v, s, rfl, _⟩ := h
  rfl
 obtain ⟨v, so, rfl, ex, q⟩ := h
 refine ⟨_, (zac (za8 (zam zbu (pv 1) zaq (nomark _)) (zad (zai (zae C_is_place hr (by omega) (by rfl) (pa_c (pv 0) zaa)))) zap) (zac (za8 (zam zbu (pv 1) zaq (nomark _)) (zad (zai (zae C_is_set hr (by omega) (by rfl) (pa_c (pv 0) zaa)))) zap) (zac (za8 (zam zbu (pv 1) zaq (nomark _)) (zad (zai (zae C_is_name hr (by omega) (by rfl) (pa_c (pv 0) zaa)))) zap) (zad (zai (zae C_has_form hr (by omega) (by rfl) (pa_c (pv 0) (pa_c (pv 2) zaa)))))))), ?_⟩
 refine za0 [some v, some (.str so), some (.int n)] rfl ?_
 trivial
 obtain ⟨⟨kd, hkd⟩, hz⟩ := ex.thing
 have e1 : ∀ b : Str, decide (V.str so = V.str b) = decide (so = b) := fun b => by simp
 unfold sortB at q
 refine ite2 (fun c => ?_) fun c => ?_
 ·rw [if_pos (of_decide_eq_true c)] at q
  exact ⟨v, kd, rfl, hkd, hz, q⟩
 rw [if_neg (of_decide_eq_false (y1h.mpr c))] at q
 refine ite2 (fun c => ?_) fun c => ?_
 ·rw [if_pos (of_decide_eq_true c)] at q
  exact ⟨v, kd, rfl, hkd, hz, q⟩
 rw [if_neg (of_decide_eq_false (y1h.mpr c))] at q
 refine ite2 (fun c => ?_) fun c => ?_
 ·rw [if_pos (of_decide_eq_true c)] at q
  exact ⟨v, rfl, ⟨⟨kd, hkd⟩, hz⟩, q⟩
 rw [if_neg (of_decide_eq_false (y1h.mpr c))] at q
 exact ⟨v, rfl, ex, q⟩
abbrev s_has_form : Stmt := top 51
theorem sc_has_form : FnScope ["thing", "deepest", "sorts"] ["thing", "deepest"] (defScope s_has_form) := ⟨rfl, rfl, rfl, by decide +kernel, rfl, by decide +kernel, by decide +kernel⟩
theorem znt {n k : Nat} (T : Txt K mg w tw rw fa cj ca ce co cn) (d : Dfn K mg "has_form" s_has_form ["thing", "deepest"]) (C_is_of_sort : Cal P w K mg base k "is_of_sort" ["thing", "sort", "deepest"] (sp_sort' n)) : Cal P w K mg base (k + 1) "has_form" ["thing", "deepest"] (zge n) := by
 refine d.cal sc_has_form (fun vs H Q E h => ?_) (fun f cdv A outer s H vs Q E hr h => ?_)
 ·obtain ⟨v, rfl, _⟩ := h
  rfl
 obtain ⟨v, rfl, ex, q⟩ := h
 refine ⟨_, (zac (za8 (PW.pt (zgk (zam zbu (pv 1) zaf (nomark _)) (zgk (zeq (zcq (za1 zdd (by rfl) T.b_isinstance boot_isinstance (pa_c (pv 0) (pa_c (zex (v := .ty "tuple") (by rfl) T.b_tuple boot_tuple (by rfl)) zaa))))) (zep (zam zbu (za1 (zag K) (by rfl) T.b_len boot_len (pa_c (pv 0) zaa)) zaf (nomark _)))))) (zad (zai zd3)) zap) (zac (za8 (PW.pt (zgk (zeq (zcq (za1 zdd (by rfl) T.b_isinstance boot_isinstance (pa_c (zan (zak K) (pv 0) zaf (fun _ _ => rfl)) (pa_c (zex (v := .ty "str") (by rfl) T.b_str boot_str (by rfl)) zaa))))) (zep (zam (zhu K w) (zan (zak K) (pv 0) zaf (fun _ _ => rfl)) (zbl (by rfl) T.g_FORMS) (by with_unfolding_all rfl))))) (zad (zai zd3)) zap) (zac (zat (i := 2) sc_has_form.nd rfl (Or.inl rfl) (zan (ix_dct K w) (zbl (by rfl) T.g_FORMS) (zan (zak K) (pv 0) zaf (fun _ _ => rfl)) (fun _ _ => rfl))) (zac (za8 (zam ztf (za1 (zag K) (by rfl) T.b_len boot_len (pa_c (pv 0) zaa)) (za6 zez zaf (za1 (zag K) (by rfl) T.b_len boot_len (pa_c (pv 2) zaa))) (nomark _)) (zad (zai zd3)) zap) (zad (zai (za1 (za9 K rfl) (by rfl) T.b_all boot_all (pa_c (zau ["part", "sort"] [(1, "deepest")] (CompOk.of rfl (by rfl) (by rfl)) (by rfl) (zs5 K (by rfl) T.b_zip (pa_c (zc0 (zgh K) (pv 0) (zdj zaf) zgm) (pa_c (pv 2) zaa))) (fun _ _ _ _ _ => (zeu K (n := 2) rfl (zbh (zah (i := 0) (show List.Nodup (["part", "sort", "deepest"] : List Str) by decide +kernel) (by rfl) (Or.inl (by rfl))) (zbh (zah (i := 1) (show List.Nodup (["part", "sort", "deepest"] : List Str) by decide +kernel) (by rfl) (Or.inl (by rfl))) zet)))) (fun _ _ _ _ _ => za5) (fun _ _ _ _ _ => (zae C_is_of_sort hr (by omega) (by rfl) (pa_c (pv 0) (pa_c (pv 1) (pa_c (za6 znf (pv 2) zaf) zaa)))))) zaa)))))))), ?_⟩
 refine za0 [some v, some (.int n), none] rfl ?_
 trivial
 cases n with
 | zero =>
  rw [decide_eq_true (show ((0 : Nat) : Int) = 0 from rfl)]
  exact iteT (q H (Same.refl H))
 | succ n =>
 rw [decide_eq_false (show ¬ ((n + 1 : Nat) : Int) = 0 by omega)]
 obtain ⟨⟨⟨kd, hkd⟩, hz⟩, hin⟩ := id ex
 refine iteF ⟨kd, hkd, by decide, ?_⟩
 cases hkd with
 | tup e =>
  rename_i a xs
  obtain ⟨hl, hx⟩ := hin a xs rfl e
  have hS : SqT K H a xs := .of e
  refine iteF ⟨a, rfl, xs, .inr hS, ?_⟩
  cases xs with
  | nil =>
   have h := q H (Same.refl H)
   simp only [formH, e] at h
   exact iteT h
  | cons x0 r =>
  rw [decide_eq_false (show ¬ (((x0 :: r).length : Nat) : Int) = 0 by rw [y0i]; omega)]
  obtain ⟨⟨k0, hk0⟩, _⟩ := (hx x0 y0c).thing
  refine iteF ⟨a, rfl, _, hS, _, zbf, k0, hk0, by decide, ?_⟩
  cases hk0 with
  | str wd =>
   have q' : ∀ H', Same H H' → Q (.bl (match forms.lookup wd with | some ss => zipB (formH H n) r ss | none => false)) H' := fun H' g => by
    have h := q H' g
    simp only [formH, e] at h
    exact h
   obtain ⟨fm, hd, hf⟩ := T.f_FORMS.ex
   refine iteF ⟨a, rfl, _, hS, _, zbf, wd, rfl, fm, hd, ?_⟩
   rcases hf wd with ⟨ss, b, hls, hfw, hst⟩ | ⟨hls, hfw⟩
   ·rw [hls] at q'
    replace q' : ∀ H', Same H H' → Q (.bl (zipB (formH H n) r ss)) H' := q'
    rw [hfw]
    refine iteF ⟨a, rfl, _, hS, _, zbf, wd, rfl, fm, hd, .ref b, hfw, a, rfl, _, .inr hS, b, rfl, _, .inr (hst H), ?_⟩
    rw [y0i, y01]
    by_cases hlen : r.length = ss.length
    ·rw [decide_eq_true (show (((r.length + 1 : Nat)) : Int) = 1 + (ss.length : Int) by omega)]
     refine iteF ⟨a, rfl, _, hS, zeo (by simp), fun p H1 n1 => ?_⟩
     have ec : cutL (V.str wd :: r) (some 1) none = r := by
      rw [show ((1 : Int)) = ((1 : Nat) : Int) from rfl, zda]
      rfl
     rw [ec] at n1
     have lr : r.length ≤ 1000 := by rw [y0i] at hl; omega
     refine ⟨b, rfl, ⟨_, .of n1.at'⟩, ⟨_, hst H1⟩, cz_map (K := K) (a := p) (b := b) (xs := r) (ys := ss.map V.str) (fun σ => ∃ v1 v2, σ = [v1, v2, some (.int ((n + 1 : Nat) : Int))]) (fun i => .bl (sortB (formH H n) (r.getD i .non) (ss.getD i ""))) lr (by rw [y01]; exact hlen) (.of n1.at') (hst H1) ⟨_, _, rfl⟩ ?_ ?_⟩
     ·rintro D i σ G G' pp x y ex1 ey1 g hD hD' ⟨v1, v2, rfl⟩ nw
      rw [y04] at ey1
      obtain ⟨sx, es, rfl⟩ := y14.mp ey1
      have hi : i < r.length := (y0b.mp ex1).1
      have mx : x ∈ r := y0h ex1
      have gx : Same H G' := n1.g.trans (g.trans nw.g)
      have exx := hx x (y09 _ mx)
      trivial
      refine ⟨_, .of nw.at', rfl, _, _, rfl, _, _, rfl, rfl, ?_⟩
      have en : (((n + 1 : Nat) : Int) - 1) = (n : Int) := by omega
      rw [en]
      refine ⟨x, sx, rfl, exx.same gx, fun G2 g2 => zjj lr hi hD (g2 _ _ (nw.g _ _ hD')) (g.trans (nw.g.trans g2)) ⟨_, _, rfl⟩ ?_⟩
      have e1 : r.getD i .non = x := by rw [y02, ex1]; rfl
      have e2 : ss.getD i "" = sx := by rw [y02, es]; rfl
      rw [e1, e2]
      unfold sortB
      rw [zdr gx exx]
     ·intro D G hD g eD
      refine ⟨D, rfl, (List.range r.length).map fun i => sortB (formH H n) (r.getD i .non) (ss.getD i ""), .of (by rw [eD, y0r]; rfl), ?_⟩
      have h := q' G (n1.g.trans g)
      rw [zfj hlen] at h
      rw [y22]
      exact h
    ·rw [decide_eq_false (show ¬ (((r.length + 1 : Nat)) : Int) = 1 + (ss.length : Int) by omega)]
     have h := q' H (Same.refl H)
     rw [zjy hlen] at h
     exact iteT h
   ·rw [hls] at q'
    rw [hfw]
    exact iteT (q' H (Same.refl H))
  | _ =>
   have h := q H (Same.refl H)
   simp only [formH, e] at h
   exact iteT h
 | non => exact iteT (q H (Same.refl H))
 | bl b => exact iteT (q H (Same.refl H))
 | int i => exact iteT (q H (Same.refl H))
 | str z => exact iteT (q H (Same.refl H))
 | lst e =>
  have h := q H (Same.refl H)
  simp only [formH, e] at h
  exact iteT h
 | dK e =>
  have h := q H (Same.refl H)
  simp only [formH, e] at h
  exact iteT h
theorem zle (T : Txt K mg w tw rw fa cj ca ce co cn) (d1 : Dfn K mg "is_of_sort" s_is_of_sort ["thing", "sort", "deepest"]) (d2 : Dfn K mg "has_form" s_has_form ["thing", "deepest"]) (C1 : Cal P w K mg base 2 "is_place" ["thing"] (zga SMALL)) (C2 : Cal P w K mg base 2 "is_set" ["thing"] (zga GREAT)) (C3 : Cal P w K mg base 3 "is_name" ["thing"] zpw) :
  ∀ n, Cal P w K mg base (2 * n + 4) "has_form" ["thing", "deepest"] (zge n) ∧ Cal P w K mg base (2 * n + 5) "is_of_sort" ["thing", "sort", "deepest"] (zis n)
 | 0 => by
  have c := znt (n := 0) T d2 ((d1.never (sp := sp_sort' 0) fun vs H Q E h => h).mono (y1b 3) : Cal P w K mg base 3 _ _ _)
  exact ⟨c, znm (by decide) T d1 C1 C2 C3 c⟩
 | n + 1 => by
  have ih := zle T d1 d2 C1 C2 C3 n
  have c := znt (n := n + 1) T d2 ih.2
  exact ⟨c, znm (by omega) T d1 C1 C2 C3 c⟩
abbrev s_inner_sayings : Stmt := top 52
theorem zd2 : FnScope ["saying"] ["saying"] (defScope s_inner_sayings) := ⟨rfl, rfl, rfl, by decide +kernel, rfl, by decide +kernel, by decide +kernel⟩
theorem zqq (T : Txt K mg w tw rw fa cj ca ce co cn) (d : Dfn K mg "inner_sayings" s_inner_sayings ["saying"]) : Cal P w K mg base 1 "inner_sayings" ["saying"] zb4 := by
 refine d.cal zd2 (fun vs H Q E h => ?_) (fun f cdv A outer s H vs Q E hr h => ?_)
 ·obtain ⟨a, xs, rfl, _⟩ := h
  rfl
 obtain ⟨a, xs, rfl, e, hl, hk, q⟩ := h
 refine ⟨_, (zad (zai (zau ["thing"] [] (CompOk.of rfl (by rfl) (by rfl)) (by rfl) (zb7 K (pv 0)) (fun _ _ _ _ _ => (zah (i := 0) (show List.Nodup (["thing"] : List Str) by decide +kernel) (by rfl) (Or.inl (by rfl)))) (fun _ _ _ _ _ => (zhs (zcq (za1 zdd (by rfl) T.b_isinstance boot_isinstance (pa_c (pv 0) (pa_c (zex (v := .ty "tuple") (by rfl) T.b_tuple boot_tuple (by rfl)) zaa)))))) (fun _ _ _ _ _ => (pv 0))))), ?_⟩
 refine za0 [some (.ref a)] rfl ?_
 trivial
 have hS : SqT K H a xs := .of e
 refine ⟨⟨xs, hS⟩, cf_tup (fun σ => ∃ v, σ = [v]) (isT H) id hl hS ⟨_, rfl⟩ ?_ ?_⟩
 ·rintro D i σ H' x hi hm hx g hD hD' ⟨v, rfl⟩
  obtain ⟨k, hk'⟩ := hk x hm
  trivial
  refine ⟨k, hk'.same g, by decide, ?_⟩
  rw [Kd.isT hk']
  cases ht : isT H x with
  | true => exact iteT (zjn hl hx ht hD hD' g ⟨_, rfl⟩ rfl)
  | false => exact iteF (zjo hx ht hD' g ⟨_, rfl⟩)
 ·intro D H' hD g hD'
  rw [List.map_id] at hD'
  exact q D H' hD g hD'
abbrev s_is_bare : Stmt := top 53
theorem zlm : FnScope ["saying"] ["saying"] (defScope s_is_bare) := ⟨rfl, rfl, rfl, by decide +kernel, rfl, by decide +kernel, by decide +kernel⟩
theorem zns (T : Txt K mg w tw rw fa cj ca ce co cn) (d : Dfn K mg "is_bare" s_is_bare ["saying"]) (C_inner_sayings : Cal P w K mg base 1 "inner_sayings" ["saying"] zb4) : Cal P w K mg base 2 "is_bare" ["saying"] zek := by
 refine d.cal zlm (fun vs H Q E h => ?_) (fun f cdv A outer s H vs Q E hr h => ?_)
 ·obtain ⟨v, s, rfl, _⟩ := h
  rfl
 obtain ⟨v, sy, rfl, r, q⟩ := h
 have hu := zff hr 8 (by decide)
 refine ⟨_, (zad (zai (zbk (zr1 hu) (zae C_inner_sayings hr (by omega) (by rfl) (pa_c (pv 0) zaa)) (zas zaa) (nomark _)))), ?_⟩
 refine za0 [some v] rfl ?_
 trivial
 obtain ⟨a, xs, rfl, e, hl, hk, hp⟩ := r.items
 refine ⟨a, xs, rfl, e, by omega, hk, fun D H1 hD g1 eD => ⟨by decide, fun p H2 n2 => ⟨_, (zp5 (k := 0) (.of (n2.g _ _ eD)) n2.lst).up (by decide), ?_⟩⟩⟩
 have h := q H2 (g1.trans n2.g)
 have eb : sy.isBare = decide (xs.filter (isT H) = []) := by
  generalize xs.filter (isT H) = ys at hp
  cases sy with
  | bare w n m => cases hp; rfl
  | neg s => cases hp; rfl
  | two w s t => cases hp; rfl
  | qu w n s => cases hp; rfl
 rw [eb] at h
 exact h
abbrev s_count_parts : Stmt := top 54
theorem zfd : FnScope ["saying"] ["saying"] (defScope s_count_parts) := ⟨rfl, rfl, rfl, by decide +kernel, rfl, by decide +kernel, by decide +kernel⟩
theorem zqw {n : Nat} (T : Txt K mg w tw rw fa cj ca ce co cn) (d : Dfn K mg "count_parts" s_count_parts ["saying"]) (C_inner_sayings : Cal P w K mg base 1 "inner_sayings" ["saying"] zb4) (C_count_parts : Cal P w K mg base (n + 1) "count_parts" ["saying"] (zd6 n)) : Cal P w K mg base (n + 1 + 1) "count_parts" ["saying"] (zd6 (n + 1)) := by
 refine d.cal zfd (fun vs H Q E h => ?_) (fun f cdv A outer s H vs Q E hr h => ?_)
 ·obtain ⟨v, s, rfl, _⟩ := h
  rfl
 obtain ⟨v, sy, rfl, r, hd, q⟩ := h
 refine ⟨_, (zad (zai (za6 zez zaf (za1 (zdc K rfl) (by rfl) T.b_sum boot_sum (pa_c (zau ["inner"] [] (CompOk.of rfl (by rfl) (by rfl)) (by rfl) (zav K (zae C_inner_sayings hr (by omega) (by rfl) (pa_c (pv 0) zaa))) (fun _ _ _ _ _ => (zah (i := 0) (show List.Nodup (["inner"] : List Str) by decide +kernel) (by rfl) (Or.inl (by rfl)))) (fun _ _ _ _ _ => za5) (fun _ _ _ _ _ => (zae C_count_parts hr (by omega) (by rfl) (pa_c (pv 0) zaa)))) zaa))))), ?_⟩
 refine za0 [some v] rfl ?_
 trivial
 obtain ⟨a, xs, rfl, e, hl, hk, hp⟩ := r.items
 refine ⟨a, xs, rfl, e, by omega, hk, fun D1 H1 hD1 g1 e1 => ⟨D1, rfl, ⟨_, .of e1⟩, ?_⟩⟩
 have hpl := Paired.len hp
 have l3 : (xs.filter (isT H)).length ≤ 1000 := y10 (y1i _ _) (by omega)
 refine zjm (K := K) (a := D1) (xs := xs.filter (isT H)) (fun σ => ∃ v, σ = [v]) (fun i => .int (((sy.inner[i]?).map Sy.parts).getD 0)) l3 (.of e1) ⟨_, rfl⟩ ?_ ?_
 ·rintro D i σ H' x hi hx g hD hD' ⟨v, rfl⟩
  obtain ⟨t, et, rt⟩ := Paired.at hp hx
  have dt := (ze5 (y0h et)).1
  simp only [gName, tNil, tCons, tCall, tYes, zbj, y18, y13, if_true]
  refine ⟨x, t, rfl, rt.same (g1.trans g), by omega, fun H2 g2 => zjj l3 hi hD (g2 _ _ hD') (g.trans g2) ⟨_, rfl⟩ (by rw [et]; rfl)⟩
 ·intro D H' hD g eD
  refine ⟨D, rfl, (List.range (xs.filter (isT H)).length).map fun i => (((sy.inner[i]?).map Sy.parts).getD 0 : Nat), .of (by rw [eD, y0r]; rfl), ?_⟩
  have h := q H' (g1.trans g)
  have es : (1 : Int) + ((List.range (xs.filter (isT H)).length).map fun i => ((((sy.inner[i]?).map Sy.parts).getD 0 : Nat) : Int)).sum = (sy.parts : Int) := by
   rw [hpl]
   cases sy with
   | bare w n m => rfl
   | neg s => show (1 : Int) + ((s.parts : Int) + 0) = ((s.parts + 1 : Nat) : Int); omega
   | two w s t => show (1 : Int) + ((s.parts : Int) + ((t.parts : Int) + 0)) = ((s.parts + t.parts + 1 : Nat) : Int); omega
   | qu w n s => show (1 : Int) + ((s.parts : Int) + 0) = ((s.parts + 1 : Nat) : Int); omega
  rw [es]
  exact h
theorem zin (T : Txt K mg w tw rw fa cj ca ce co cn) (d : Dfn K mg "count_parts" s_count_parts ["saying"]) (C1 : Cal P w K mg base 1 "inner_sayings" ["saying"] zb4) : ∀ n, Cal P w K mg base (n + 1) "count_parts" ["saying"] (zd6 n)
 | 0 => (d.never fun vs H Q E h => by obtain ⟨v, s, _, _, hd, _⟩ := h; exact absurd hd (y3u _)).mono (by decide)
 | n + 1 => zqw T d C1 (zin T d C1 n)
abbrev s_is_any_saying : Stmt := top 55
theorem zd1 : FnScope ["thing"] ["thing"] (defScope s_is_any_saying) := ⟨rfl, rfl, rfl, by decide +kernel, rfl, by decide +kernel, by decide +kernel⟩
theorem znw (T : Txt K mg w tw rw fa cj ca ce co cn) (d : Dfn K mg "is_any_saying" s_is_any_saying ["thing"]) (C_has_form : Cal P w K mg base 28 "has_form" ["thing", "deepest"] (zge 12)) (C_count_parts : Cal P w K mg base 14 "count_parts" ["saying"] (zd6 13)) : Cal P w K mg base 29 "is_any_saying" ["thing"] zhi := by
 refine d.cal zd1 (fun vs H Q E h => ?_) (fun f cdv A outer s H vs Q E hr h => ?_)
 ·obtain ⟨v, rfl, _⟩ := h
  rfl
 obtain ⟨v, rfl, ex, q⟩ := h
 refine ⟨_, (zad (zai (zey (zae C_has_form hr (by omega) (by rfl) (pa_c (pv 0) (pa_c (zbl (by rfl) T.g_DEEPEST) zaa))) (zev (zbk op_le (zae C_count_parts hr (by omega) (by rfl) (pa_c (pv 0) zaa)) (zbl (by rfl) T.g_MOST_PARTS) (nomark _)))))), ?_⟩
 refine za0 [some v] rfl ?_
 trivial
 refine ⟨v, rfl, ex, fun H1 g1 => ⟨_, rfl, ite2 (fun c => ?_) fun c => q false H1 g1 ⟨fun z => (by cases z), fun ⟨s, r, hw, hd, _⟩ => absurd (zkf r hw hd) c⟩⟩⟩
 obtain ⟨sy, r, hw, hd⟩ := zco c
 refine ⟨v, sy, rfl, r.same g1, by omega, fun H2 g2 => ⟨_, rfl, q _ H2 (g1.trans g2) ⟨fun z => ⟨sy, r, hw, hd, ?_⟩, fun ⟨s, r', _, _, hp⟩ => ?_⟩⟩⟩
 ·have := of_decide_eq_true z
  omega
 ·rw [r.det r']
  exact decide_eq_true (by omega)
abbrev s_is_let : Stmt := top 56
theorem zm5 : FnScope ["saying", "known", "barred", "most"] ["saying", "known", "barred", "most"] (defScope s_is_let) := ⟨rfl, rfl, rfl, by decide +kernel, rfl, by decide +kernel, by decide +kernel⟩
theorem ok_let {n : Nat} {bw : List Str} (T : Txt K mg w tw rw fa cj ca ce co cn) (d : Dfn K mg "is_let" s_is_let ["saying", "known", "barred", "most"]) (C_inner_sayings : Cal P w K mg base 1 "inner_sayings" ["saying"] zb4) (C_is_bare : Cal P w K mg base 2 "is_bare" ["saying"] zek)
  (C_is_let : Cal P w K mg base (n + 2) "is_let" ["saying", "known", "barred", "most"] (zhf K bw n)) : Cal P w K mg base (n + 1 + 2) "is_let" ["saying", "known", "barred", "most"] (zhf K bw (n + 1)) := by
 refine d.cal zm5 (fun vs H Q E h => ?_) (fun f cdv A outer s H vs Q E hr h => ?_)
 ·obtain ⟨v, a, ba, s, tl, mo, rfl, _⟩ := h
  rfl
 obtain ⟨v, a, ba, sy, tl, mo, rfl, r, hd, ea, hl, hb, q⟩ := h
 refine ⟨_, (zac (za8 (PW.pt (zgk (zam zqk (za1 (zag K) (by rfl) T.b_len boot_len (pa_c (pv 1) zaa)) (pv 3) (nomark _)) (zep (zam (zbe K) (zan (zak K) (pv 0) zaf (fun _ _ => rfl)) (pv 2) (by with_unfolding_all rfl))))) (zad (zai zd3)) zap) (zac (za8 (zam (zbe K) (zan (zak K) (pv 0) zaf (fun _ _ => rfl)) (zbl (by rfl) T.g_TELLING_WORDS) (by with_unfolding_all rfl)) (zad (zai (zey (zbk (zgo K) (zan (zak K) (pv 0) zaf (fun _ _ => rfl)) (pv 1) (by with_unfolding_all rfl)) (zev (zae C_is_let hr (by omega) (by rfl) (pa_c (zan (zak K) (pv 0) zaf (fun _ _ => rfl)) (pa_c (za6 zce (pv 1) (zas (pa_c (zan (zak K) (pv 0) zaf (fun _ _ => rfl)) zaa))) (pa_c (pv 2) (pa_c (pv 3) zaa))))))))) zap) (zac (za8 (zcq (zae C_is_bare hr (by omega) (by rfl) (pa_c (pv 0) zaa))) (zad (zai (za1 (za9 K rfl) (by rfl) T.b_all boot_all (pa_c (zau ["name"] [(1, "known")] (CompOk.of rfl (by rfl) (by rfl)) (by rfl) (zb7 K (zc0 (zgh K) (pv 0) (zdj zaf) zgm)) (fun _ _ _ _ _ => (zah (i := 0) (show List.Nodup (["name", "known"] : List Str) by decide +kernel) (by rfl) (Or.inl (by rfl)))) (fun _ _ _ _ _ => za5) (fun _ _ _ _ _ => (zbk (zbe K) (pv 0) (pv 1) (by with_unfolding_all rfl)))) zaa)))) zap) (zad (zai (za1 (za9 K rfl) (by rfl) T.b_all boot_all (pa_c (zau ["inner"] [(1, "known"), (2, "barred"), (3, "most")] (CompOk.of rfl (by rfl) (by rfl)) (by rfl) (zav K (zae C_inner_sayings hr (by omega) (by rfl) (pa_c (pv 0) zaa))) (fun _ _ _ _ _ => (zah (i := 0) (show List.Nodup (["inner", "known", "barred", "most"] : List Str) by decide +kernel) (by rfl) (Or.inl (by rfl)))) (fun _ _ _ _ _ => za5) (fun _ _ _ _ _ => (zae C_is_let hr (by omega) (by rfl) (pa_c (pv 0) (pa_c (pv 1) (pa_c (pv 2) (pa_c (pv 3) zaa))))))) zaa))))))), ?_⟩
 refine za0 [some v, some (.ref a), some (.ref ba), some (.int mo)] rfl ?_
 trivial
 rw [ztq] at q
 refine ⟨_, .inl (.of ea), ite2 (fun c => ?_) fun c => ?_⟩
 ·have c' := of_decide_eq_true c
  rw [y01] at c'
  have h := q H (Same.refl H)
  rw [decide_eq_false (by omega), y1k, y1k] at h
  exact h
 have c' := of_decide_eq_false (y1h.mpr c)
 rw [y01] at c'
 rw [decide_eq_true (by omega), y1a] at q
 have tw' := T.t_TELLING_WORDS H
 obtain ⟨p0, rest, ev, e0⟩ : ∃ p rest, v = .ref p ∧ H p = some (.tup (.str (wordOf sy) :: rest)) := by
  cases r with
  | bare hw e => exact ⟨_, _, rfl, e⟩
  | neg e hx => exact ⟨_, _, rfl, e⟩
  | two hw e h1 h2 => exact ⟨_, _, rfl, e⟩
  | qu hw e hx => exact ⟨_, _, rfl, e⟩
 subst ev
 refine ⟨p0, rfl, _, .of e0, _, zbf, _, .inr (hb H), rfl, zcf bw, ?_⟩
 rw [zbs]
 by_cases hwb : wordOf sy ∈ bw
 ·rw [decide_eq_true hwb]
  have h := q H (Same.refl H)
  rw [decide_eq_false (fun z => z hwb), y1k] at h
  exact iteT h
 rw [decide_eq_false hwb]
 rw [decide_eq_true hwb, y1a] at q
 refine iteF ⟨p0, rfl, _, .of e0, _, zbf, _, .inr tw', rfl, rfl, ?_⟩
 have other : (∀ w n t, sy ≠ .qu w n t) → sy.isBare = false → ∀ H1, Same H H1 → zb4 [.ref p0] H1 (fun x H1 => ∃ a_1, x = V.ref a_1 ∧ (∃ xs, SqL K H1 a_1 xs) ∧
   cBody ["inner"] [(1, "known"), (2, "barred"), (3, "most")] (gName 0) tYes (tCall (zhf K bw n) [] E0 (tCons (tVar 0) (tCons (tVar 1) (tCons (tVar 2) (tCons (tVar 3) tNil)))))
    [some (.ref p0), some (V.ref a), some (V.ref ba), some (V.int mo)] (fun x H1 => ∃ p, x = V.ref p ∧ ∃ x, SqL K H1 p (List.map V.bl x) ∧ Q (V.bl (x.all id)) H1) (Itl K a_1) H1) E0 := by
  intro nq hbare H1 g1
  obtain ⟨p1, xs, ev', e, hl3, hk, pr⟩ := r.items
  cases ev'
  rw [zl6 nq hbare] at q
  have eis : xs.filter (isT H1) = xs.filter (isT H) := List.filter_congr fun y hy => by
   obtain ⟨k, z⟩ := hk y hy
   rw [← Kd.isT z, ← Kd.isT (z.same g1)]
  have hpl := Paired.len pr
  have l3 : (xs.filter (isT H)).length ≤ 1000 := y10 (y1i _ _) (by omega)
  refine ⟨p0, xs, rfl, g1 _ _ e, by omega, fun y hy => let ⟨k, z⟩ := hk y hy; ⟨k, z.same g1⟩, fun D1 H2 hD1 g2 e2 => ⟨D1, rfl, ⟨_, .of e2⟩, ?_⟩⟩
  rw [eis] at e2
  have g12 := g1.trans g2
  refine zjm (K := K) (a := D1) (xs := xs.filter (isT H)) (fun σ => ∃ v, σ = [v, some (V.ref a), some (V.ref ba), some (V.int mo)]) (fun i => .bl (((sy.inner[i]?).map (letB bw mo tl)).getD true)) l3 (.of e2) ⟨_, rfl⟩ ?_ ?_
  ·rintro D i σ H' x hi hx g hD hD' ⟨v, rfl⟩
   obtain ⟨t, et, rt⟩ := Paired.at pr hx
   have dt := (ze5 (y0h et)).1
   have gx := g12.trans g
   simp only [gName, tNil, tCons, tCall, tYes, zbj, zcp, y18, y13, if_true]
   exact ⟨x, a, ba, t, tl, mo, rfl, rt.same gx, by omega, gx _ _ ea, by omega, hb, fun H3 g3 => zjj l3 hi hD (g3 _ _ hD') (g.trans g3) ⟨_, rfl⟩ (by rw [et]; rfl)⟩
  ·intro D H' hD g eD
   refine ⟨D, rfl, (List.range (xs.filter (isT H)).length).map fun i => ((sy.inner[i]?).map (letB bw mo tl)).getD true, .of (by rw [eD, y0r]; rfl), ?_⟩
   rw [hpl, zch]
   exact q H' (g12.trans g)
 cases r with
 | qu hw e hx =>
  rename_i wd nm x t
  rw [show wordOf (Sy.qu wd nm t) = wd from rfl, zms wd hw]
  replace q : ∀ H', Same H H' → Q (.bl (decide (nm ∉ tl) && letB bw mo (tl ++ [nm]) t)) H' := q
  have dn := zrk wd nm t
  refine iteT ⟨p0, rfl, _, .of e, _, zaj (j := 1) rfl, _, .inl (.of ea), rfl, zcf tl, ?_⟩
  rw [zbs]
  by_cases hn : nm ∈ tl
  ·rw [decide_eq_true hn]
   have h := q H (Same.refl H)
   rw [decide_eq_false (fun z => z hn), y1k] at h
   exact iteF h
  rw [decide_eq_false hn]
  rw [decide_eq_true hn, y1a] at q
  refine iteT ⟨p0, rfl, _, .of e, _, zaj (j := 2) rfl, p0, rfl, _, .of e, _, zaj (j := 1) rfl, zab (by simp), fun p1 H1 n1 => ⟨_, n1.g _ _ ea, _, n1.at', zab (by rw [y01, y19]; omega), fun p2 H2 n2 => ?_⟩⟩
  have g2 := n1.g.trans n2.g
  exact ⟨x, p2, ba, t, tl ++ [nm], mo, rfl, hx.same g2, by omega, by rw [n2.at', y0z]; rfl, by rw [y0j, y19]; omega, hb, fun H3 g3 => q H3 (g2.trans g3)⟩
 | neg e hx =>
  rw [show wordOf (Sy.neg _) = ("not" : Str) from rfl, zqy]
  exact iteF ⟨_, _, rfl, .neg e hx, fun H1 g1 => ⟨_, rfl, iteF (other (fun _ _ _ z => by cases z) rfl H1 g1)⟩⟩
 | two hw e h1 h2 =>
  rename_i wd x y t1 t2
  rw [show wordOf (Sy.two wd t1 t2) = wd from rfl, zoc wd hw]
  exact iteF ⟨_, _, rfl, .two hw e h1 h2, fun H1 g1 => ⟨_, rfl, iteF (other (fun _ _ _ z => by cases z) rfl H1 g1)⟩⟩
 | bare hw e =>
  rename_i wd nm m
  rw [show wordOf (Sy.bare wd nm m) = wd from rfl, zph wd hw]
  replace q : ∀ H', Same H H' → Q (.bl (decide (nm ∈ tl) && decide (m ∈ tl))) H' := q
  refine iteF ⟨_, _, rfl, .bare hw e, fun H1 g1 => ⟨_, rfl, iteT ⟨p0, rfl, _, .of (g1 _ _ e), zeo (by simp), fun p H2 n2 => ⟨⟨_, .of n2.at'⟩, ?_⟩⟩⟩⟩
  have ec : cutL [V.str wd, V.str nm, V.str m] (some 1) none = [nm, m].map V.str := by
   rw [show ((1 : Int)) = ((1 : Nat) : Int) from rfl, zda]
   rfl
  rw [ec] at n2
  have g := g1.trans n2.g
  refine zh9 (K := K) (a := p) (xs := [nm, m].map V.str) (fun σ => ∃ v, σ = [v, some (.ref a)]) (fun y => .bl (inV y (tl.map V.str))) (by simp) (.of n2.at') ⟨_, rfl⟩ ?_ ?_
  ·rintro D i σ H' x hi hm hx g' hD hD' ⟨v, rfl⟩
   have fx : flatV x = true := by
    obtain ⟨z, _, rfl⟩ := y0m.mp hm
    rfl
   trivial
   exact ⟨_, .inl (.of (g' _ _ (g _ _ ea))), fx, zcf tl, zcb (by simp) hx hD hD' g' ⟨_, rfl⟩ rfl⟩
  ·intro D H' hD g' hD'
   refine ⟨D, rfl, [decide (nm ∈ tl), decide (m ∈ tl)], .of ?_, ?_⟩
   ·rw [hD']
    show some (HO.lst [.bl (inV (.str nm) (tl.map V.str)), .bl (inV (.str m) (tl.map V.str))]) = _
    rw [zbs, zbs]
    rfl
   ·have h := q H' (g.trans g')
    rw [show [decide (nm ∈ tl), decide (m ∈ tl)].all id = (decide (nm ∈ tl) && (decide (m ∈ tl) && true)) from rfl, y2r]
    exact h
theorem zpo {bw : List Str} (T : Txt K mg w tw rw fa cj ca ce co cn) (d : Dfn K mg "is_let" s_is_let ["saying", "known", "barred", "most"]) (C1 : Cal P w K mg base 1 "inner_sayings" ["saying"] zb4) (C2 : Cal P w K mg base 2 "is_bare" ["saying"] zek) :
  ∀ n, Cal P w K mg base (n + 2) "is_let" ["saying", "known", "barred", "most"] (zhf K bw n)
 | 0 => (d.never fun vs H Q E h => by obtain ⟨v, a, ba, s, tl, mo, _, _, hd, _⟩ := h; exact absurd hd (y3u _)).mono (by decide)
 | n + 1 => ok_let T d C1 C2 (zpo T d C1 C2 n)
abbrev s_is_saying : Stmt := top 57
theorem zhm : FnScope ["thing", "frame"] ["thing", "frame"] (defScope s_is_saying) := ⟨rfl, rfl, rfl, by decide +kernel, rfl, by decide +kernel, by decide +kernel⟩
theorem zqp (T : Txt K mg w tw rw fa cj ca ce co cn) (d : Dfn K mg "is_saying" s_is_saying ["thing", "frame"]) (C_is_frame : Cal P w K mg base 4 "is_frame" ["thing"] zst) (C_is_any_saying : Cal P w K mg base 29 "is_any_saying" ["thing"] zhi)
  (C_is_let : Cal P w K mg base 15 "is_let" ["saying", "known", "barred", "most"] (zhf K treeWords 13)) : Cal P w K mg base 30 "is_saying" ["thing", "frame"] (zj8 treeWords 4) := by
 refine d.cal zhm (fun vs H Q E h => ?_) (fun f cdv A outer s H vs Q E hr h => ?_)
 ·obtain ⟨v, fv, rfl, _⟩ := h
  rfl
 obtain ⟨v, fv, rfl, ex, tf, hf, q⟩ := h
 refine ⟨_, (zad (zai (zey (zae C_is_frame hr (by omega) (by rfl) (pa_c (pv 1) zaa)) (zey (zae C_is_any_saying hr (by omega) (by rfl) (pa_c (pv 0) zaa)) (zev (zae C_is_let hr (by omega) (by rfl) (pa_c (pv 0) (pa_c (pv 1) (pa_c (zbl (by rfl) T.g_TREE_WORDS) (pa_c (zbl (by rfl) T.g_MOST_NAMES) zaa)))))))))), ?_⟩
 refine za0 [some v, some fv] rfl ?_
 trivial
 refine ⟨fv, rfl, tf, hf, fun H1 g1 => ⟨_, rfl, ite2 (fun c => ?_) fun c => q false H1 g1 ⟨fun z => (by cases z), fun ⟨a, tl, s, ev, e, hfr, _⟩ => absurd (show frB H fv = true by rw [ev]; simp only [frB, e]; exact hfr) c⟩⟩⟩
 obtain ⟨a, tl, rfl, e, hfr, h4⟩ := frB_ex c
 refine ⟨v, rfl, ex.same g1, fun b H2 g2 hb => ⟨_, rfl, ?_⟩⟩
 have back : (∃ s, AnySay H1 v s) ↔ ∃ s, AnySay H v s := ⟨fun ⟨s, r, hw, hd, hp⟩ => by
   have h1 := zkf r hw hd
   rw [zdr g1 ex] at h1
   obtain ⟨s', r', hw', hd'⟩ := zco h1
   rw [r.det (r'.same g1)] at hp
   exact ⟨s', r', hw', hd', hp⟩, fun ⟨s, r, hw, hd, hp⟩ => ⟨s, r.same g1, hw, hd, hp⟩⟩
 rw [back] at hb
 refine ite2 (fun cb => ?_) fun cb => q false H2 (g1.trans g2) ⟨fun z => (by cases z), fun ⟨_, _, s, _, _, _, as, _⟩ => absurd (hb.mpr ⟨s, as⟩) cb⟩
 obtain ⟨sy, as⟩ := hb.mp cb
 obtain ⟨r, hw, hd, hp⟩ := id as
 refine ⟨v, a, rw, sy, tl, 4, rfl, r.same (g1.trans g2), by omega, g2 _ _ (g1 _ _ e), by omega, T.t_TREE_WORDS, fun H3 g3 => q _ H3 (g1.trans (g2.trans g3)) ⟨fun z => ⟨a, tl, sy, rfl, e, hfr, as, z⟩, fun ⟨a', tl', s', ev, e', _, as', z⟩ => ?_⟩⟩
 cases ev
 rw [e] at e'
 have et : tl = tl' := by
  have := (Option.some.inj e')
  exact zj4 (HO.lst.inj this)
 subst et
 rw [r.det as'.1]
 exact z
abbrev s_rule_of : Stmt := top 67
theorem zlk : FnScope ["word"] ["word"] (defScope s_rule_of) := ⟨rfl, rfl, rfl, by decide +kernel, rfl, by decide +kernel, by decide +kernel⟩
theorem zti (T : Txt K mg w tw rw fa cj ca ce co cn) (d : Dfn K mg "rule_of" s_rule_of ["word"]) : Cal P w K mg base 1 "rule_of" ["word"] (zmu K) := by
 refine d.cal zlk (fun vs H Q E h => ?_) (fun f cdv A outer s H vs Q E hr h => ?_)
 ·obtain ⟨wd, rfl, _⟩ := h
  rfl
 obtain ⟨wd, rfl, q⟩ := h
 refine ⟨_, (zac (za8 (zam zbu (pv 0) zaq (nomark _)) (zad (zai (zbl (by rfl) T.g_COMES_AHEAD))) zap) (zac (za8 (zam zbu (pv 0) zaq (nomark _)) (zad (zai (zbl (by rfl) T.g_COMES_NEXT))) zap) (zad (zai (zbl (by rfl) T.g_EACH_IN))))), ?_⟩
 refine za0 [some (.str wd)] rfl ?_
 trivial
 unfold ruleM at q
 by_cases h1 : wd = "ahead"
 ·rw [if_pos h1] at q
  rw [decide_eq_true h1]
  exact iteT (q _ T.c_COMES_AHEAD)
 rw [if_neg h1] at q
 rw [decide_eq_false h1]
 refine iteF ?_
 by_cases h2 : wd = "next"
 ·rw [if_pos h2] at q
  rw [decide_eq_true h2]
  exact iteT (q _ T.c_COMES_NEXT)
 rw [if_neg h2] at q
 rw [decide_eq_false h2]
 exact iteF (q _ T.c_EACH_IN)
abbrev s_bare_of : Stmt := top 68
theorem sc_bare_of : FnScope ["saying", "frame", "tracks"] ["saying", "frame"] (defScope s_bare_of) := ⟨rfl, rfl, rfl, by decide +kernel, rfl, by decide +kernel, by decide +kernel⟩
theorem znv {Pr Pp Pm : Addr} (T : Txt K mg w tw rw fa cj ca ce co cn) (d : Dfn K mg "bare_of" s_bare_of ["saying", "frame"]) (C_rule_of : Cal P w K mg base 1 "rule_of" ["word"] (zmu K)) (C_spread : Cal P w K mg base 2 "spread" ["machine", "tracks", "width"] (zdf K)) (C_fitting_of : Cal P w K mg base 9 "fitting_of" ["frame"] (zka K Pr qs_reduced Pp qs_paired Pm qs_met)) (C_met : Cal P w K mg base 8 "met" ["one", "other"] (zit K Pr qs_reduced Pp qs_paired Pm qs_met fun x y => x && y)) :
  Cal P w K mg base 10 "bare_of" ["saying", "frame"] (zhh K Pr qs_reduced Pp qs_paired Pm qs_met) := by
 refine d.cal sc_bare_of (fun vs H Q E h => ?_) (fun f cdv A outer s H vs Q E hr h => ?_)
 ·obtain ⟨v, b, tl, wd, n, m, rfl, _⟩ := h
  rfl
 obtain ⟨v, b, tl, wd, n, m, rfl, tr, tp, tm, rp, eb, ht, hn, hm, ok, q⟩ := h
 have hu := zff hr 8 (by decide)
 refine ⟨_, (zac (zct (i := 2) sc_bare_of.nd rfl (Or.inl rfl) ["name"] [(1, "frame")] (CompOk.of rfl (by rfl) (by rfl)) (by rfl) (zb7 K (zc0 (zgh K) (pv 0) (zdj zaf) zgm)) (fun _ _ _ _ _ => (zah (i := 0) (show List.Nodup (["name", "frame"] : List Str) by decide +kernel) (by rfl) (Or.inl (by rfl)))) (fun _ _ _ _ _ => za5) (fun _ _ _ _ _ => (zc1 K PySem.F.plainAttrs_list PySem.F.slot_list_index PySem.F.type_list_index (zdm K hu) (pv 1) (pa_c (pv 0) zaa)))) (zad (zai (zae C_met hr (by omega) (by rfl) (pa_c (zae C_spread hr (by omega) (by rfl) (pa_c (zae C_rule_of hr (by omega) (by rfl) (pa_c (zan (zak K) (pv 0) zaf (fun _ _ => rfl)) zaa)) (pa_c (pv 2) (pa_c (za1 (zag K) (by rfl) T.b_len boot_len (pa_c (pv 1) zaa)) zaa)))) (pa_c (zae C_fitting_of hr (by omega) (by rfl) (pa_c (pv 1) zaa)) zaa)))))), ?_⟩
 refine za0 [some v, some (.ref b), none] rfl ?_
 trivial
 cases rp with
 | bare hw e =>
 rename_i a
 refine ⟨a, rfl, _, .of e, zeo (by simp), fun p3 H3 n3 => ⟨⟨_, .of n3.at'⟩, ?_⟩⟩
 have ec : cutL [V.str wd, V.str n, V.str m] (some 1) none = [n, m].map V.str := by
  rw [show ((1 : Int)) = ((1 : Nat) : Int) from rfl, zda]
  rfl
 rw [ec] at n3
 obtain ⟨⟨hl1, hl3⟩, fo, hz4, hfr, hP⟩ := fr10 ht
 have hi := y0s.mpr hn
 have hj := y0s.mpr hm
 refine zh9 (K := K) (a := p3) (xs := [n, m].map V.str) (fun σ => ∃ v, σ = [v, some (.ref b)]) (fun v => match v with | .str z => nV (tl.idxOf z) | _ => .non) (by simp) (.of n3.at') ⟨_, rfl⟩ ?_ ?_
 ·rintro D3 i σ H4 x hx0 hmm hx gg hD3 hD3' ⟨v, rfl⟩
  obtain ⟨z, mz, rfl⟩ := y0m.mp hmm
  have hz : z ∈ tl := by
   simp only [y05, y0a, or_false] at mz
   rcases mz with rfl | rfl
   ·exact hn
   ·exact hm
  trivial
  exact ⟨.inl ⟨_, .of ((n3.g.trans gg) _ _ eb)⟩, _, .of ((n3.g.trans gg) _ _ eb), hz, by omega, zcb (by simp) hx hD3 hD3' gg ⟨_, rfl⟩ rfl⟩
 intro D H4 hD g4 eD
 have g04 := n3.g.trans g4
 have eD' : H4 D = some (.lst (([tl.idxOf n, tl.idxOf m] : List Nat).map nV)) := eD
 have h16 : ∀ l : Nat, l < 2 ^ tl.length → l < 16 := fun l hl => by
  have : 2 ^ tl.length ≤ 8 := y2f (by decide) hl3
  omega
 obtain ⟨rok, rw2, rn⟩ := zp4 wd
 have hsl : ∀ l : Nat, l < 2 ^ tl.length → seen2 (tl.idxOf n) (tl.idxOf m) l < 2 ^ (ruleM wd).w := fun l _ => by rw [rw2]; exact zpz _ _ _
 refine ⟨a, rfl, _, .of (g04 _ _ e), _, zbf, wd, rfl, fun p0 CM => ⟨_, .inl (.of (g04 _ _ eb)), p0, D, ruleM wd, [tl.idxOf n, tl.idxOf m], tl.length, seen2 (tl.idxOf n) (tl.idxOf m), by rw [y01], CM, rok, eD', by simp, (fun t ht => by simp only [y05, y0a, or_false] at ht; rcases ht with rfl | rfl <;> omega), by omega, (fun l hl => ⟨zp0 (by omega) (by omega) (h16 l hl), hsl l hl⟩), fun p5 H5 g5 rm => ?_⟩⟩
 have g05 := g04.trans g5
 refine ⟨b, tl, rfl, tr.same g05, tp.same g05, tm.same g05, g05 _ _ eb, fo, fun p6 mF H6 g6 rF FF => ?_⟩
 have g06 := g05.trans g6
 have hFn := (fit_n (by rw [zed]; omega) FF.ok FF.canon (by rw [zed]; exact FF.w) FF.takes).2
 refine ⟨p5, p6, _, mF, rfl, tr.same g06, tp.same g06, tm.same g06, rm.same g6, rF, zir rok (by omega) hsl, FF.ok, FF.w.symm, ?_, fun p7 m' H7 g7 r7 ok7 w7 can fin7 => q p7 m' H7 (g06.trans g7) r7 ⟨ok7, can, w7, fun row hr => ?_⟩⟩
 ·show (ruleM wd).n * mF.n ≤ 100
  exact y10 (Nat.mul_le_mul rn hFn) (by decide)
 ·have hr1 : (sprd (ruleM wd) (seen2 (tl.idxOf n) (tl.idxOf m)) tl.length).Row row := fun l hl => by have := hr l hl; rw [w7] at this; exact this
  rw [fin7 row hr1, zpv, zd5 rok hsl row 0 rok.pos hr1, zp2, FF.takes row fun l hl => by rw [FF.w]; exact hr1 l hl]
abbrev s_check_frame : Stmt := top 58
theorem zfe : FnScope ["frame"] ["frame"] (defScope s_check_frame) := ⟨rfl, rfl, rfl, by decide +kernel, rfl, by decide +kernel, by decide +kernel⟩
theorem zi7 (T : Txt K mg w tw rw fa cj ca ce co cn) (d : Dfn K mg "check_frame" s_check_frame ["frame"]) (C_is_frame : Cal P w K mg base 4 "is_frame" ["thing"] zst) : Cal P w K mg base 5 "check_frame" ["frame"] zfo := by
 refine d.cal zfe (fun vs H Q E h => ?_) (fun f cdv A outer s H vs Q E hr h => ?_)
 ·obtain ⟨b, tl, rfl, _⟩ := h
  rfl
 obtain ⟨b, tl, rfl, eb, h4, hl, hf, q⟩ := h
 refine ⟨_, (zad (za8 (zeq (zcq (zae C_is_frame hr (by omega) (by rfl) (pa_c (pv 0) zaa)))) (zad zd7) zap)), ?_⟩
 refine za0 [some (.ref b)] rfl ?_
 simp only [tIfS, tB, tNot, tNext, tNil, tCons, tCall, zbj, y13]
 refine ⟨_, rfl, ⟨⟨_, .lst eb⟩, fun z e => by cases e⟩, (fun a xs ea e => by cases ea; rw [eb] at e; cases e; exact zee (by omega) (fun z hz => by have := hl z hz; omega)), fun H1 g1 => ⟨_, rfl, ?_⟩⟩
 rw [show frB H (.ref b) = true by unfold frB; simp only [eb]; exact hf]
 exact iteF (q H1 g1)
abbrev s_check_let : Stmt := top 59
theorem zhn : FnScope ["saying", "frame"] ["saying", "frame"] (defScope s_check_let) := ⟨rfl, rfl, rfl, by decide +kernel, rfl, by decide +kernel, by decide +kernel⟩
theorem zhy (T : Txt K mg w tw rw fa cj ca ce co cn) (d : Dfn K mg "check_let" s_check_let ["saying", "frame"]) (C_check_frame : Cal P w K mg base 5 "check_frame" ["frame"] zfo) (C_is_saying : Cal P w K mg base 30 "is_saying" ["thing", "frame"] (zj8 treeWords 4)) : Cal P w K mg base 31 "check_let" ["saying", "frame"] zj6 := by
 refine d.cal zhn (fun vs H Q E h => ?_) (fun f cdv A outer s H vs Q E hr h => ?_)
 ·obtain ⟨v, b, tl, wd, n, m, i, j, rfl, _⟩ := h
  rfl
 obtain ⟨v, b, tl, wd, n, m, i, j, rfl, r, eb, h4, hl, B, q⟩ := h
 refine ⟨_, (zac (zcu (zae C_check_frame hr (by omega) (by rfl) (pa_c (pv 1) zaa))) (zad (za8 (zeq (zcq (zae C_is_saying hr (by omega) (by rfl) (pa_c (pv 0) (pa_c (pv 1) zaa))))) (zad zd7) zap))), ?_⟩
 refine za0 [some v, some (.ref b)] rfl ?_
 trivial
 refine ⟨b, tl, rfl, eb, h4, hl, B.fr, fun H1 g1 => ?_⟩
 have eb1 := g1 _ _ eb
 have r1 := r.same g1
 refine ⟨v, .ref b, rfl, r1.exp B.wf 12, ⟨⟨_, .lst eb1⟩, fun z e => by cases e⟩, (fun a xs ea e => by cases ea; rw [eb1] at e; cases e; exact zee (by omega) (fun z hz => by have := hl z hz; omega)), fun tb H2 g2 hb => ⟨_, rfl, ?_⟩⟩
 have : tb = true := hb.mpr ⟨b, tl, _, rfl, eb1, B.fr, ⟨r1, B.wf, by show (1 : Nat) ≤ 12; decide, by show (1 : Nat) ≤ 60; decide⟩, B.ok⟩
 rw [this]
 exact iteF (q H2 (g1.trans g2))
abbrev s_maker : Stmt := top 32
theorem sc_maker : FnScope ["bare_of", "fitting_of", "met", "joined", "flipped", "dropped", "machine_of"] ["bare_of", "fitting_of", "met", "joined", "flipped", "dropped"] (defScope s_maker) := ⟨rfl, rfl, rfl, by decide +kernel, rfl, by decide +kernel, by decide +kernel⟩
abbrev qs_maker : List (Pos × Str) := [(⟨118, 4, 130, 37⟩, "maker.<locals>.machine_of")]
abbrev SPM (K : Frag) (Pr Pp Pm : Addr) : Sp := zhh K Pr qs_reduced Pp qs_paired Pm qs_met
theorem zqo {c Pk Pr Pp Pm fb : Addr} (T : Txt K mg w tw rw fa cj ca ce co cn) (d : DfnC K mg "maker" s_maker ["bare_of", "fitting_of", "met", "joined", "flipped", "dropped"] c Pk) (kb : BltK base mg) (C_bareF : CalF P w K mg base 10 fb ["saying", "frame"] (SPM K Pr Pp Pm)) :
  Cal P w K mg base 1 "maker" ["bare_of", "fitting_of", "met", "joined", "flipped", "dropped"] (zj7 P w K mg base fb Pk qs_maker (SPM K Pr Pp Pm)) := by
 refine d.calR sc_maker (fun vs H Q E h => ?_) rfl (j := 6) rfl (.inr (.inl rfl)) (by decide) (by decide) (fun f A outer s H vs Q E hr h => ?_)
 ·obtain ⟨v2, v3, v4, v5, v6, rfl, _⟩ := h
  rfl
 obtain ⟨v2, v3, v4, v5, v6, rfl, tk, q⟩ := h
 refine ⟨_, zs0 (qs := qs_maker) "maker.<locals>.machine_of" (j := 6) rfl d.code kb (by rfl) (by rfl) sc_maker.nd rfl (.inr rfl) rfl, tk, fun f1 H1 M1 => ⟨.ref f1, rfl, fun Hq ad => ?_⟩⟩
 obtain ⟨fd1, ef1⟩ := M1.fn
 refine q f1 fd1 Hq (M1.old.trans ad.up) (ad.up _ _ ef1) ?_
 refine M1.clo_s (own := ["saying", "frame", "word"]) (ps := ["saying", "frame"]) (cap := ["met", "machine_of", "joined", "flipped", "fitting_of", "dropped", "bare_of"]) (cv := [v3, .ref f1, v4, v5, v2, v6, .ref fb]) (k := 10) (Same.refl _) ad ⟨rfl, rfl, rfl, by decide +kernel, rfl, by decide +kernel, by decide +kernel, by decide +kernel⟩ (by decide)
  (.cons ⟨2, rfl, rfl, .inl rfl⟩ (.cons ⟨6, rfl, rfl, .inl rfl⟩ (.cons ⟨3, rfl, rfl, .inl rfl⟩ (.cons ⟨4, rfl, rfl, .inl rfl⟩ (.cons ⟨1, rfl, rfl, .inl rfl⟩ (.cons ⟨5, rfl, rfl, .inl rfl⟩ (.cons ⟨0, rfl, rfl, .inl rfl⟩ .nil))))))) (fun cl ct cd pm us hl => match us, hl with | [_, _], _ => rfl) ?_
 rintro clo c' A' outer' s' H' vs Q' hr hcl fz fz2 hl ⟨v, b, tl, wd, n, m, rfl, tr, tp, tm, rp, eb, ht, hn, hm, ok, q'⟩
 refine ⟨_, (zac (zat (i := 2) (show FnNd ["saying", "frame", "word", "met", "machine_of", "joined", "flipped", "fitting_of", "dropped", "bare_of"] by decide +kernel).nd rfl (Or.inl rfl) (zan (zak K) (pv 0) zaf (fun _ _ => rfl))) (zac (za8 (zam zbu (pv 2) zaq (nomark _)) zcd zap) (zac (za8 (zam zbu (pv 2) zaq (nomark _)) zcd zap) (zac (za8 (zam zbu (pv 2) zaq (nomark _)) zcd zap) (zac (za8 (zam zbu (pv 2) zaq (nomark _)) zcd zap) (zac (za8 (zam zbu (pv 2) zaq (nomark _)) zcd zap) (zad (zai (zqf C_bareF hr (by omega) (pa_c (pv 0) (pa_c (pv 1) zaa)) (i := 9)))))))))), ?_⟩
 refine za0 [some v, some (.ref b), none, some v3, some (.ref f1), some v4, some v5, some v2, some v6, some (.ref fb)] rfl ?_
 trivial
 cases rp with
 | bare hw e =>
 rename_i a
 have ed := hcl.n _ _ e fun _ _ z => nomatch z
 have ebd := hcl.n _ _ eb fun _ _ z => nomatch z
 have nn : ∀ z : Str, z ∈ (["and", "or", "not", "some", "all"] : List Str) → ¬ V.str wd = V.str z := fun z hz e0 => by
  have := V.str.inj e0
  subst this
  have hwd := (bare10 ht hn hm ok).hw
  simp only [SM.rowWords, y05, y0a, or_false] at hwd hz
  rcases hwd with rfl | rfl | rfl | rfl | rfl <;> revert hz <;> decide
 refine ⟨a, rfl, _, .of ed, _, zbf, rfl, ?_⟩
 rw [decide_eq_false (nn _ (by decide))]
 refine iteF ⟨rfl, ?_⟩
 rw [decide_eq_false (nn _ (by decide))]
 refine iteF ⟨rfl, ?_⟩
 rw [decide_eq_false (nn _ (by decide))]
 refine iteF ⟨rfl, ?_⟩
 rw [decide_eq_false (nn _ (by decide))]
 refine iteF ⟨rfl, ?_⟩
 rw [decide_eq_false (nn _ (by decide))]
 refine iteF ⟨rfl, .ref a, b, tl, wd, n, m, rfl, hcl.tab tr, hcl.tab tp, hcl.tab tm, .bare hw ed, ebd, ht, hn, hm, ok, fun p M H2 g2 r2 B hno => ?_⟩
 exact q' p M _ (zc4 g2) (r2.same (zkp hno)) B
abbrev s_built : Stmt := top 69
theorem sc_built : FnScope ["saying", "frame", "machine_of"] ["saying", "frame"] (defScope s_built) := ⟨rfl, rfl, rfl, by decide +kernel, rfl, by decide +kernel, by decide +kernel⟩
theorem zqx {Pk Pr Pp Pm fb ff fm : Addr} (T : Txt K mg w tw rw fa cj ca ce co cn) (d : Dfn K mg "built" s_built ["saying", "frame"]) (C_check_let : Cal P w K mg base 31 "check_let" ["saying", "frame"] zj6) (m_bare_of : mg "bare_of" = some (.ref fb)) (m_fitting_of : mg "fitting_of" = some (.ref ff)) (m_met : mg "met" = some (.ref fm)) (C_maker : Cal P w K mg base 1 "maker" ["bare_of", "fitting_of", "met", "joined", "flipped", "dropped"] (zj7 P w K mg base fb Pk qs_maker (SPM K Pr Pp Pm))) :
  Cal P w K mg base 32 "built" ["saying", "frame"] (zkd K Pr qs_reduced Pp qs_paired Pm qs_met Pk qs_maker) := by
 refine d.cal sc_built (fun vs H Q E h => ?_) (fun f cdv A outer s H vs Q E hr h => ?_)
 ·obtain ⟨v, b, tl, wd, n, m, rfl, _⟩ := h
  rfl
 obtain ⟨v, b, tl, wd, n, m, rfl, tr, tp, tm, tk, rp, eb, ht, hn, hm, ok, q⟩ := h
 obtain ⟨fj, uj, m_joined, hj⟩ := T.v_joined
 obtain rfl : uj = Value.ref fj := hj
 obtain ⟨fl, ul, m_flipped, hl⟩ := T.v_flipped
 obtain rfl : ul = Value.ref fl := hl
 obtain ⟨fd, ud, m_dropped, hd⟩ := T.v_dropped
 obtain rfl : ud = Value.ref fd := hd
 refine ⟨_, (zac (zcu (zae C_check_let hr (by omega) (by rfl) (pa_c (pv 0) (pa_c (pv 1) zaa)))) (zac (zat (i := 2) sc_built.nd rfl (Or.inl rfl) (zae C_maker hr (by omega) (by rfl) (pa_c (zbl (v := V.ref _) (by rfl) ⟨_, m_bare_of, rfl⟩) (pa_c (zbl (v := V.ref _) (by rfl) ⟨_, m_fitting_of, rfl⟩) (pa_c (zbl (v := V.ref _) (by rfl) ⟨_, m_met, rfl⟩) (pa_c (zbl (v := V.ref _) (by rfl) ⟨_, m_joined, rfl⟩) (pa_c (zbl (v := V.ref _) (by rfl) ⟨_, m_flipped, rfl⟩) (pa_c (zbl (v := V.ref _) (by rfl) ⟨_, m_dropped, rfl⟩) zaa)))))))) (zad (zai (zby P w K mg base 2 11 2 (SPM K Pr Pp Pm) hr (by omega) (pa_c (pv 0) (pa_c (pv 1) zaa))))))), ?_⟩
 refine za0 [some v, some (.ref b), none] rfl ?_
 trivial
 have B := bare10 ht hn hm ok
 obtain ⟨⟨hl1, hl3⟩, fo, hz4, hfr, hP⟩ := fr10 ht
 refine ⟨v, b, tl, wd, n, m, _, _, rfl, rp, eb, by omega, hz4, B, fun H1 g1 => ⟨_, _, _, _, _, rfl, tk.same g1, fun f1 fd1 H2 g2 ef cl => ?_⟩⟩
 have g02 := g1.trans g2
 exact ⟨f1, rfl, fd1, ef, ef, cl, rfl, v, b, tl, wd, n, m, rfl, tr.same g02, tp.same g02, tm.same g02, rp.same g02, g02 _ _ eb, ht, hn, hm, ok, fun p M H3 g3 r3 BM => q p M H3 (g02.trans g3) r3 BM⟩
end
end K32
namespace L2
def SameB (D : Addr) (H H' : Hp) : Prop := ∀ b o, b ≠ D → H b = some o → H' b = some o
theorem Same.b {H H' : Hp} (g : Same H H') (D : Addr) : SameB D H H' := fun b o _ e => g b o e
theorem SameB.trans {D : Addr} {H H1 H2 : Hp} (a : SameB D H H1) (b : SameB D H1 H2) : SameB D H H2 := fun c o n e => b c o n (a c o n e)
theorem SameB.wr {D : Addr} {H : Hp} (o : HO) : SameB D H (upd H D o) := fun b u n e => by rw [zal n]; exact e
section
variable {tn : List Str} {cp : T6} {g : TG} {tif : TT} {te : TE} {σ0 : St} {Q : VK} {H1 : Hp} {n : Nat}
def PGenL (S : St → Prop) (G : Addr → Nat → V → Hp → Prop) (H1 : Hp) (D : Addr) (i : Nat) (ys : List V) (σ : St) (H : Hp) : Prop := Same H1 H ∧ S σ ∧ ys.length = i ∧ ∀ j y, ys[j]? = some y → G D j y H
theorem cl_by {J : It} (S : St → Prop) (G : Addr → Nat → V → Hp → Prop) (hn : n ≤ 1000) (h0 : S (stB tn cp σ0)) (hgo : ∀ i H, i < n → Same H1 H → J.go i H) (hstop : ∀ H, Same H1 H → J.stop n H)
  (hs : ∀ D i ys σ H x H', i < n → Same H1 H → H1 D = none → H D = some (.lst ys) → ys.length = i → (∀ j y, ys[j]? = some y → G D j y H) → S σ → J.yld i H x H' → g x σ H' fun σ2 H2 => tif σ2 H2 fun c H3 =>
   if c = true then te σ2 H3 fun v H4 => CStep D n i (PGenL S G H1 D) σ2 v H4 else CSkip D n i (PGenL S G H1 D) σ2 H3)
  (hd : ∀ D ys H, H1 D = none → Same H1 H → H D = some (.lst ys) → ys.length = n → (∀ j y, ys[j]? = some y → G D j y H) → Q (.ref D) H) : cBody tn cp g tif te σ0 Q J H1 := by
 refine zmh n (fun D => PGenL S G H1 D) (zab hn) (fun D hD => ⟨za4 hD _, h0, rfl, fun j y e => by simp at e⟩) (fun D i ys σ H _ hi _ p => hgo i H hi p.1) (fun D ys σ H _ _ p => hstop H p.1) ?_ ?_
 ·rintro D i ys σ H x H' hD hi hH hl ⟨p1, p2, p3, p4⟩ hy
  exact hs D i ys σ H x H' hi p1 hD hH p3 p4 p2 hy
 ·rintro D ys σ H hD hH hl ⟨p1, p2, p3, p4⟩
  exact hd D ys H hD p1 hH p3 p4
theorem cl_step {S : St → Prop} {G : Addr → Nat → V → Hp → Prop} {D : Addr} {i : Nat} {ys : List V} {v : V} {σ2 : St} {H H4 : Hp} (hG : ∀ j y H H', SameB D H H' → G D j y H → G D j y H') (hn : n ≤ 1000) (hi : i < n) (hD : H1 D = none) (h4 : H4 D = some (.lst ys)) (hl : ys.length = i)
  (hy : ∀ j y, ys[j]? = some y → G D j y H) (ts : SameB D H H4) (g4 : Same H1 H4) (s2 : S σ2) (e : G D i v H4) : CStep D n i (PGenL S G H1 D) σ2 v H4 := by
 refine cstep (zab hn) hi h4 (by omega) ⟨g4.wr hD _, s2, by simp [hl], fun j y ej => ?_⟩
 by_cases h : j < ys.length
 ·rw [y11 h] at ej
  exact hG j y _ _ (ts.trans (SameB.wr _)) (hy j y ej)
 ·rw [y0x (by omega)] at ej
  have e0 : j - ys.length = 0 := by
   cases hj : j - ys.length with
   | zero => rfl
   | succ k => rw [hj] at ej; simp at ej
  rw [e0] at ej
  simp at ej
  subst ej
  have : j = i := by omega
  subst this
  exact hG _ _ _ _ (SameB.wr _) e
end
end L2
namespace SM
open PySem PySem.Spec PyProof.Rows L2 SS
def Rows (w L : Nat) (H : Hp) (rs : List V) : Prop := ∀ v ∈ rs, ∃ (a : Addr) (row : List Nat), v = .ref a ∧ H a = some (.lst (row.map nV)) ∧ row.length ≤ L ∧ ∀ c ∈ row, c < 2 ^ w
theorem Rows.same {w L : Nat} {H H' : Hp} {rs : List V} (h : Rows w L H rs) (g : Same H H') : Rows w L H' rs := fun v hv => let ⟨a, row, e, ea, r⟩ := h v hv; ⟨a, row, e, g _ _ ea, r⟩
theorem Rows.app {w L : Nat} {H : Hp} {rs ys : List V} (h : Rows w L H rs) (k : Rows w L H ys) : Rows w L H (rs ++ ys) := fun v hv => (y1f.mp hv).elim (h v) (k v)
theorem Rows.mono {w L L' : Nat} {H : Hp} {rs : List V} (h : Rows w L H rs) (hl : L ≤ L') : Rows w L' H rs := fun v hv => let ⟨a, row, e, ea, r1, r2⟩ := h v hv; ⟨a, row, e, ea, by omega, r2⟩
def zef : Sp := fun vs H Q _ => ∃ (r : Addr) (row : List Nat) (k : Nat), vs = [.ref r, nV k] ∧ H r = some (.lst (row.map nV)) ∧ row.length ≤ 100 ∧ k < 3 ∧ ∀ D H', H D = none → Same H H' → H' D = some (.lst ((wth row k).map nV)) → Q (.ref D) H'
def zhg : Sp := fun vs H Q _ => ∃ (b r : Addr) (tl : List Str) (row : List Nat), vs = [.ref b, .ref r] ∧ H b = some (.lst (tl.map V.str)) ∧ tl ∈ frames10 ∧ H r = some (.lst (row.map nV)) ∧ row.length ≤ 100 ∧ ∀ H', Same H H' → Q (.bl (fitL tl row)) H'
def zkc : Sp := fun vs H Q _ => ∃ (v : V) (b r : Addr) (wd n m : Str) (tl : List Str) (row : List Nat), vs = [v, .ref b, .ref r] ∧ Rep H v (.bare wd n m) ∧ n ∈ tl ∧ m ∈ tl ∧ okS wd n m = true ∧ H b = some (.lst (tl.map V.str)) ∧ tl ∈ frames10 ∧ H r = some (.lst (row.map nV)) ∧ row.length ≤ 100 ∧
 ∀ H', Same H H' → Q (.bl (fitL tl row && SM.due wd (wth row (tl.idxOf n)) (wth row (tl.idxOf m)))) H'
def zei : Sp := fun vs H Q _ => ∃ (a : Addr) (rs : List V) (w L : Nat), vs = [.ref a, nV w] ∧ H a = some (.lst rs) ∧ w ≤ 3 ∧ rs.length * 2 ^ w ≤ 64 ∧ L ≤ 10 ∧ Rows w L H rs ∧ ∀ D ys H', H D = none → Same H H' → H' D = some (.lst ys) → ys.length = rs.length * 2 ^ w → Rows w (L + 1) H' ys → Q (.ref D) H'
def zhb : Sp := fun vs H Q _ => ∃ w mo : Nat, vs = [nV w, nV mo] ∧ w ≤ 3 ∧ w * mo ≤ 6 ∧ mo ≤ 3 ∧ ∀ D ys H', H D = none → Same H H' → H' D = some (.lst ys) → ys.length ≤ 300 → Rows w 4 H' ys → (∀ v ∈ ys, v ≠ .ref D) → Q (.ref D) H'
end SM
namespace K32
open PySem PySem.Spec PyProof.Rows L2 SS SM
local macro_rules | `(tactic| trivial) => `(tactic| simp only [rLen, tSeq, tIfS, tTest, tOp, tC, tNext, tRet, rI0, tNil, tCons, tCB, rIxL, zbj, zcp, V.int.injEq, V.bl.injEq, V.ref.injEq, List.cons.injEq, and_true, exists_eq_left', exists_and_left, rI, tLstN, gName, tAsg, iList, zgj, zrw, y18, y2z, tTupN, rIn, if_false, reduceCtorEq, rCatN, true_and, Option.some.injEq, and_assoc, iRng1, rEq, rd_ii, rAll, tCall, y13, rEqI, rIndexT, tB, tOr, tNot, rIxT, tBM, tyV, if_true, tYes, rSetL, gSub, exists_eq', tUn, tDrop, rU, rAppend, rListOf, rSlLN, tPart, tSl, rNe, rNeM, rNeS])
seal PE PT PW PA PS PSs
section
variable {P : Program} {w : World} {K : Frag} {mg : T1} {base : Heap} {tw rw fa cj ca ce co cn : Addr}
abbrev s_law_cell_at : Stmt := top 71
theorem zfb : FnScope ["_law_script", "_law_k"] ["_law_script", "_law_k"] (defScope s_law_cell_at) := ⟨rfl, rfl, rfl, by decide +kernel, rfl, by decide +kernel, by decide +kernel⟩
theorem ztk (T : Txt K mg w tw rw fa cj ca ce co cn) (d : Dfn K mg "_law_cell_at" s_law_cell_at ["_law_script", "_law_k"]) : Cal P w K mg base 1 "_law_cell_at" ["_law_script", "_law_k"] (zmv K) := by
 refine d.cal zfb (fun vs H Q E h => ?_) (fun f cdv A outer s H vs Q E hr h => ?_)
 ·obtain ⟨a, ns, k, rfl, _⟩ := h
  rfl
 obtain ⟨a, ns, k, rfl, hS, h0, q⟩ := h
 refine ⟨_, (zac (za8 (zam zqj (pv 1) (za1 (zag K) (by rfl) T.b_len boot_len (pa_c (pv 0) zaa)) (nomark _)) (zad (zai (zan (zaw K) (pv 0) (pv 1) (fun _ _ => rfl)))) zap) (zad (zai zaf))), ?_⟩
 refine za0 [some (.ref a), some (.int k)] rfl ?_
 trivial
 refine ⟨_, .inl hS, ite2 (fun c => ?_) (fun _ => q 0)⟩
 have c' := of_decide_eq_true c
 rw [y01] at c'
 have hk : k.toNat < ns.length := by omega
 have ek : k = ((k.toNat : Nat) : Int) := by omega
 have e : atI (ns.map V.int) ((k.toNat : Nat) : Int) = some (.int ns[k.toNat]) := zaj (by simp [hk])
 rw [← ek] at e
 exact ⟨_, hS, _, e, q _⟩
abbrev s_law_mixed : Stmt := top 72
theorem zhl : FnScope ["_law_cell"] ["_law_cell"] (defScope s_law_mixed) := ⟨rfl, rfl, rfl, by decide +kernel, rfl, by decide +kernel, by decide +kernel⟩
theorem zqn (T : Txt K mg w tw rw fa cj ca ce co cn) (d : Dfn K mg "_law_mixed" s_law_mixed ["_law_cell"]) : Cal P w K mg base 1 "_law_mixed" ["_law_cell"] zgc := by
 refine d.cal zhl (fun vs H Q E h => ?_) (fun f cdv A outer s H vs Q E hr h => ?_)
 ·obtain ⟨c, rfl, _⟩ := h
  rfl
 obtain ⟨c, rfl, q⟩ := h
 refine ⟨_, (zad (zai (za6 zc2 (za6 zr0 (pv 0) zaf) zaf))), ?_⟩
 refine za0 [some (.int c)] rfl ?_
 trivial
 exact ⟨.inr ⟨by decide, by decide⟩, by decide, q _ (y2p _ (by decide)) (y2q _ (by decide))⟩
abbrev s_law_sayings : Stmt := top 73
theorem sc_law_sayings : FnScope ["_law_frame", "_law_found", "_law_places", "_law_sets", "_law_one", "_law_other"] ["_law_frame"] (defScope s_law_sayings) := ⟨rfl, rfl, rfl, by decide +kernel, rfl, by decide +kernel, by decide +kernel⟩
theorem znn (T : Txt K mg w tw rw fa cj ca ce co cn) (d : Dfn K mg "_law_sayings" s_law_sayings ["_law_frame"]) : Cal P w K mg base 1 "_law_sayings" ["_law_frame"] zha := by
 refine d.cal sc_law_sayings (fun vs H Q E h => ?_) (fun f cdv A outer s H vs Q E hr h => ?_)
 ·obtain ⟨b, tl, rfl, _⟩ := h
  rfl
 obtain ⟨b, tl, rfl, eb, ht, q⟩ := h
 refine ⟨_, (zac (zat (i := 1) sc_law_sayings.nd rfl (Or.inl rfl) (zas zaa)) (zac (zct (i := 2) sc_law_sayings.nd rfl (Or.inl rfl) ["_law_name"] [] (CompOk.of rfl (by rfl) (by rfl)) (by rfl) (zav K (pv 0)) (fun _ _ _ _ _ => (zah (i := 0) (show List.Nodup (["_law_name"] : List Str) by decide +kernel) (by rfl) (Or.inl (by rfl)))) (fun _ _ _ _ _ => (zhs (zam (zbe K) (pv 0) (zbc (pa_c zaq (pa_c zaq zaa))) (by with_unfolding_all rfl)))) (fun _ _ _ _ _ => (pv 0))) (zac (zct (i := 3) sc_law_sayings.nd rfl (Or.inl rfl) ["_law_name"] [] (CompOk.of rfl (by rfl) (by rfl)) (by rfl) (zav K (pv 0)) (fun _ _ _ _ _ => (zah (i := 0) (show List.Nodup (["_law_name"] : List Str) by decide +kernel) (by rfl) (Or.inl (by rfl)))) (fun _ _ _ _ _ => (zhs (zam (zbe K) (pv 0) (zbc (pa_c zaq (pa_c zaq zaa))) (by with_unfolding_all rfl)))) (fun _ _ _ _ _ => (pv 0))) (zac (zbo PassesOwn.never rfl (zav K (pv 2)) (zah (i := 4) sc_law_sayings.nd (by rfl) (Or.inr (by rfl))) (zac (zbo PassesOwn.never rfl (zav K (pv 2)) (zah (i := 5) sc_law_sayings.nd (by rfl) (Or.inl (by rfl))) (zad (zat (i := 1) sc_law_sayings.nd rfl (Or.inl rfl) (za6 zce (pv 1) (zas (pa_c (zbc (pa_c zaq (pa_c (pv 4) (pa_c (pv 5) zaa)))) (pa_c (zbc (pa_c zaq (pa_c (pv 4) (pa_c (pv 5) zaa)))) (pa_c (zbc (pa_c zaq (pa_c (pv 4) (pa_c (pv 5) zaa)))) zaa)))))))) (zad (zat (i := 1) sc_law_sayings.nd rfl (Or.inl rfl) (za6 zce (pv 1) (zau ["_law_other"] [(4, "_law_one")] (CompOk.of rfl (by rfl) (by rfl)) (by rfl) (zav K (pv 3)) (fun _ _ _ _ _ => (zah (i := 0) (show List.Nodup (["_law_other", "_law_one"] : List Str) by decide +kernel) (by rfl) (Or.inl (by rfl)))) (fun _ _ _ _ _ => za5) (fun _ _ _ _ _ => (zbc (pa_c zaq (pa_c (pv 1) (pa_c (pv 0) zaa))))))))))) (zac (zbo PassesOwn.never rfl (zav K (pv 3)) (zah (i := 4) sc_law_sayings.nd (by rfl) (Or.inr (by rfl))) (zad (zat (i := 1) sc_law_sayings.nd rfl (Or.inl rfl) (za6 zce (pv 1) (zau ["_law_other"] [(4, "_law_one")] (CompOk.of rfl (by rfl) (by rfl)) (by rfl) (zav K (pv 3)) (fun _ _ _ _ _ => (zah (i := 0) (show List.Nodup (["_law_other", "_law_one"] : List Str) by decide +kernel) (by rfl) (Or.inl (by rfl)))) (fun _ _ _ _ _ => za5) (fun _ _ _ _ _ => (zbc (pa_c zaq (pa_c (pv 1) (pa_c (pv 0) zaa)))))))))) (zad (zai (pv 1)))))))), ?_⟩
 refine za0 [some (.ref b), none, none, none, none, none] rfl ?_
 trivial
 have hl3 := (fr10 ht).1
 refine ⟨by decide, fun pf H1 n1 => ⟨⟨_, .of (n1.g _ _ eb)⟩, ?_⟩⟩
 have hflt : ∀ (l : List Str) (g : Str → Bool) (p : V → Bool), (∀ z, p (V.str z) = g z) → ((l.map V.str).filter p).map id = (l.filter g).map V.str := fun l g p h => by
  rw [List.map_id, List.filter_map]
  exact congrArg (List.map V.str) (List.filter_congr fun z _ => h z)
 refine zo9 (K := K) (a := b) (xs := tl.map V.str) (fun σ => ∃ v, σ = [v]) (fun y => inV y [V.str "x", V.str "y"]) id (by rw [y01]; omega) (.of (n1.g _ _ eb)) ⟨_, rfl⟩ ?_ ?_
 ·rintro D i σ H' x hi hm hx g' hD hD' ⟨v, rfl⟩
  obtain ⟨z, hz, rfl⟩ := y0m.mp hm
  trivial
  refine ⟨zab (by simp), fun pt Ht nt => ⟨_, .inr (.of nt.at'), rfl, rfl, ?_⟩⟩
  cases hin : inV (V.str z) [V.str "x", V.str "y"] with
  | true => exact iteT (zjn (by rw [y01]; omega) hx hin hD (nt.g _ _ hD') (g'.trans nt.g) ⟨_, rfl⟩ rfl)
  | false => exact iteF (zjo hx hin (nt.g _ _ hD') (g'.trans nt.g) ⟨_, rfl⟩)
 intro pp H2 hpp g2 epp
 rw [hflt tl isXY _ (fun z => zbs z ["x", "y"])] at epp
 refine ⟨⟨_, .of ((n1.g.trans g2) _ _ eb)⟩, zo9 (K := K) (a := b) (xs := tl.map V.str) (fun σ => ∃ v, σ = [v]) (fun y => inV y [V.str "X", V.str "Y"]) id (by rw [y01]; omega) (.of ((n1.g.trans g2) _ _ eb)) ⟨_, rfl⟩ ?_ ?_⟩
 ·rintro D i σ H' x hi hm hx g' hD hD' ⟨v, rfl⟩
  obtain ⟨z, hz, rfl⟩ := y0m.mp hm
  trivial
  refine ⟨zab (by simp), fun pt Ht nt => ⟨_, .inr (.of nt.at'), rfl, rfl, ?_⟩⟩
  cases hin : inV (V.str z) [V.str "X", V.str "Y"] with
  | true => exact iteT (zjn (by rw [y01]; omega) hx hin hD (nt.g _ _ hD') (g'.trans nt.g) ⟨_, rfl⟩ rfl)
  | false => exact iteF (zjo hx hin (nt.g _ _ hD') (g'.trans nt.g) ⟨_, rfl⟩)
 intro pS H3 hpS g3 epS
 rw [hflt tl isSS _ (fun z => zbs z ["X", "Y"])] at epS
 have hpl : (tl.filter isXY).length ≤ 3 := y10 (y1i _ _) (by omega)
 have hsl : (tl.filter isSS).length ≤ 3 := y10 (y1i _ _) (by omega)
 have hpm : ∀ z ∈ tl.filter isXY, z ∈ tl ∧ isXY z = true := fun z hz => y2d.mp hz
 have hsm : ∀ z ∈ tl.filter isSS, z ∈ tl ∧ isSS z = true := fun z hz => y2d.mp hz
 generalize tl.filter isXY = pl at epp hpl hpm
 generalize tl.filter isSS = sl at epS hsl hsm
 have epp3 := g3 _ _ epp
 have epf3 := (g2.trans g3) _ _ n1.at'
 have g03 : Same H H3 := n1.g.trans (g2.trans g3)
 refine ⟨pp, rfl, ⟨_, .of epp3⟩, ?_⟩
 refine zca (K := K) (a := pp) (xs := pl.map V.str) (fun k σ H' => Same H3 H' ∧ ∃ pf rs v4 v5, σ = [some (.ref b), some (.ref pf), some (.ref pp), some (.ref pS), v4, v5] ∧ H' pf = some (.lst rs) ∧ rs.length ≤ 12 * k ∧ Sys tl H' rs)
  ⟨Same.refl _, pf, [], none, none, rfl, epf3, by simp, fun v hv => (nomatch hv)⟩ (fun k σ H' _ z => .of (z.1 _ _ epp3)) ?_ ?_
 ·rintro k y σ H' hy ⟨g, pf', rs, v4, v5, rfl, ef, hl, S⟩
  rw [y04] at hy
  obtain ⟨one, e1, rfl⟩ := y14.mp hy
  obtain ⟨h1, h1'⟩ := hpm one (y0h e1)
  have hk := (y0b.mp e1).1
  trivial
  refine ⟨⟨_, .of (g _ _ epp3)⟩, ?_⟩
  refine zca (K := K) (a := pp) (xs := pl.map V.str) (fun j σ H'' => Same H3 H'' ∧ ∃ pf rs v5, σ = [some (.ref b), some (.ref pf), some (.ref pp), some (.ref pS), some (.str one), v5] ∧ H'' pf = some (.lst rs) ∧ rs.length ≤ 12 * k + 3 * j ∧ Sys tl H'' rs)
   ⟨g, pf', rs, v5, rfl, ef, by omega, S⟩ (fun k σ H' _ z => .of (z.1 _ _ epp3)) ?_ ?_
  ·rintro j y σ H'' hy ⟨gg, pf2, rs2, v5', rfl, ef2, hl2, S2⟩
   rw [y04] at hy
   obtain ⟨oth, e2, rfl⟩ := y14.mp hy
   obtain ⟨h2, h2'⟩ := hpm oth (y0h e2)
   have hj := (y0b.mp e2).1
   trivial
   refine ⟨zab (by simp), fun t1 Ha na => ⟨zab (by simp), fun t2 Hb nb => ⟨zab (by simp), fun t3 Hc nc => ⟨zab (by simp), fun t4 Hd nd => ⟨_, (na.g.trans (nb.g.trans (nc.g.trans nd.g))) _ _ ef2, _, nd.at', zab (by simp only [y0i, y0v]; omega), fun t5 He ne => ?_⟩⟩⟩⟩⟩
   have gA := na.g.trans (nb.g.trans (nc.g.trans (nd.g.trans ne.g)))
   refine ⟨gg.trans gA, _, ne.at', by simp only [y0j, y0i, y0v]; omega, fun v hv => ?_⟩
   rcases y1f.mp hv with hv | hv
   ·exact S2.ts gA.tups v hv
   ·simp only [y05, y0a, or_false] at hv
    have o1 : ∀ wd : Str, wd ∈ (["same", "ahead", "next"] : List Str) → okS wd one oth = true := fun wd hw => by simp [okS, hw, h1', h2']
    rcases hv with rfl | rfl | rfl
    ·exact ⟨t1, _, _, _, rfl, (nb.g.trans (nc.g.trans (nd.g.trans ne.g))) _ _ na.at', h1, h2, o1 _ (by decide)⟩
    ·exact ⟨t2, _, _, _, rfl, (nc.g.trans (nd.g.trans ne.g)) _ _ nb.at', h1, h2, o1 _ (by decide)⟩
    ·exact ⟨t3, _, _, _, rfl, (nd.g.trans ne.g) _ _ nc.at', h1, h2, o1 _ (by decide)⟩
  ·rintro σ H'' ⟨gg, pf2, rs2, v5', rfl, ef2, hl2, S2⟩
   rw [y01] at hl2
   trivial
   refine ⟨⟨_, .of (gg _ _ epS)⟩, zfg (n := sl.length) (fun σ => ∃ v, σ = [v, some (.str one)]) (fun j y H => ∃ a, y = .ref a ∧ ∃ z, z ∈ sl ∧ H a = some (.tup [.str "in", .str one, .str z])) (by omega) ⟨_, rfl⟩ (fun i H5 hi gh => ⟨_, .str sl[i], .of (gh _ _ (gg _ _ epS)), by rw [y04, y00 hi]; rfl⟩) (fun H5 gh => ⟨_, .of (gh _ _ (gg _ _ epS)), by rw [y01]; exact y06 _⟩) ?_ ?_⟩
   ·rintro D i ys σ H5 x H5' hi gh hD hD' hl hy' ⟨v, rfl⟩ ⟨rfl, yx⟩
    have ex := yx _ (.of (gh _ _ (gg _ _ epS)))
    rw [y04, y00 hi] at ex
    cases ex
    simp only [tTupN, tC, gName, tNil, tCons, tYes, zbj, zcp, y18, if_true]
    exact ⟨zab (by simp), fun t Ht nt => zbv (fun j y H H' ts z => let ⟨a, e, z, hz, ea⟩ := z; ⟨a, e, z, hz, ts _ _ ea⟩) (by omega) hi hD (nt.g _ _ hD') hl hy' nt.g.tups (gh.trans nt.g) ⟨_, rfl⟩ ⟨t, rfl, _, y0g hi, nt.at'⟩⟩
   intro D ys H5 hD g5 eD hyl hy'
   refine ⟨D, rfl, _, g5 _ _ ef2, _, eD, zab (by omega), fun t5 He ne => ?_⟩
   have gA := g5.trans ne.g
   refine ⟨gg.trans gA, _, ne.at', by rw [y0j]; omega, fun v hv => ?_⟩
   rcases y1f.mp hv with hv | hv
   ·exact S2.ts gA.tups v hv
   ·obtain ⟨j, hj⟩ := y3f.mp hv
    obtain ⟨a, rfl, z, hz, ea⟩ := hy' j v hj
    obtain ⟨h3, h3'⟩ := hsm z hz
    exact ⟨a, _, _, _, rfl, ne.g _ _ ea, h1, h3, by simp [okS, h1', h3']⟩
 ·rintro σ H' ⟨g, pf', rs, v4, v5, rfl, ef, hl, S⟩
  rw [y01] at hl
  trivial
  refine ⟨⟨_, .of (g _ _ epS)⟩, ?_⟩
  refine zca (K := K) (a := pS) (xs := sl.map V.str) (fun k σ H' => Same H3 H' ∧ ∃ pf rs v4 v5, σ = [some (.ref b), some (.ref pf), some (.ref pp), some (.ref pS), v4, v5] ∧ H' pf = some (.lst rs) ∧ rs.length ≤ 36 + 3 * k ∧ Sys tl H' rs)
   ⟨g, pf', rs, v4, v5, rfl, ef, by omega, S⟩ (fun k σ H' _ z => .of (z.1 _ _ epS)) ?_ ?_
  ·rintro k y σ H'' hy ⟨gg, pf2, rs2, v4', v5', rfl, ef2, hl2, S2⟩
   rw [y04] at hy
   obtain ⟨one, e1, rfl⟩ := y14.mp hy
   obtain ⟨h1, h1'⟩ := hsm one (y0h e1)
   have hk := (y0b.mp e1).1
   trivial
   refine ⟨⟨_, .of (gg _ _ epS)⟩, zfg (n := sl.length) (fun σ => ∃ v, σ = [v, some (.str one)]) (fun j y H => ∃ a, y = .ref a ∧ ∃ z, z ∈ sl ∧ H a = some (.tup [.str "within", .str one, .str z])) (by omega) ⟨_, rfl⟩ (fun i H5 hi gh => ⟨_, .str sl[i], .of (gh _ _ (gg _ _ epS)), by rw [y04, y00 hi]; rfl⟩) (fun H5 gh => ⟨_, .of (gh _ _ (gg _ _ epS)), by rw [y01]; exact y06 _⟩) ?_ ?_⟩
   ·rintro D i ys σ H5 x H5' hi gh hD hD' hl hy' ⟨v, rfl⟩ ⟨rfl, yx⟩
    have ex := yx _ (.of (gh _ _ (gg _ _ epS)))
    rw [y04, y00 hi] at ex
    cases ex
    simp only [tTupN, tC, gName, tNil, tCons, tYes, zbj, zcp, y18, if_true]
    exact ⟨zab (by simp), fun t Ht nt => zbv (fun j y H H' ts z => let ⟨a, e, z, hz, ea⟩ := z; ⟨a, e, z, hz, ts _ _ ea⟩) (by omega) hi hD (nt.g _ _ hD') hl hy' nt.g.tups (gh.trans nt.g) ⟨_, rfl⟩ ⟨t, rfl, _, y0g hi, nt.at'⟩⟩
   intro D ys H5 hD g5 eD hyl hy'
   refine ⟨D, rfl, _, g5 _ _ ef2, _, eD, zab (by omega), fun t5 He ne => ?_⟩
   have gA := g5.trans ne.g
   refine ⟨gg.trans gA, _, ne.at', by rw [y0j]; omega, fun v hv => ?_⟩
   rcases y1f.mp hv with hv | hv
   ·exact S2.ts gA.tups v hv
   ·obtain ⟨j, hj⟩ := y3f.mp hv
    obtain ⟨a, rfl, z, hz, ea⟩ := hy' j v hj
    obtain ⟨h3, h3'⟩ := hsm z hz
    exact ⟨a, _, _, _, rfl, ne.g _ _ ea, h1, h3, by simp [okS, h1', h3']⟩
  ·rintro σ H'' ⟨gg, pf2, rs2, v4', v5', rfl, ef2, hl2, S2⟩
   rw [y01] at hl2
   simp only [tRet, zbj, zcp]
   exact q pf2 rs2 H'' (g03.trans gg) ef2 (by omega) S2
abbrev s_law_with : Stmt := top 74
theorem ziw : FnScope ["_law_row", "_law_k"] ["_law_row", "_law_k"] (defScope s_law_with) := ⟨rfl, rfl, rfl, by decide +kernel, rfl, by decide +kernel, by decide +kernel⟩
theorem znk (T : Txt K mg w tw rw fa cj ca ce co cn) (d : Dfn K mg "_law_with" s_law_with ["_law_row", "_law_k"]) : Cal P w K mg base 1 "_law_with" ["_law_row", "_law_k"] zef := by
 refine d.cal ziw (fun vs H Q E h => ?_) (fun f cdv A outer s H vs Q E hr h => ?_)
 ·obtain ⟨r, row, k, rfl, _⟩ := h
  rfl
 obtain ⟨r, row, k, rfl, er, h100, hk, q⟩ := h
 refine ⟨_, (zad (zai (zau ["_law_place"] [(0, "_law_row"), (1, "_law_k")] (CompOk.of rfl (by rfl) (by rfl)) (by rfl) (zbi (by rfl) T.b_range (pa_c (za1 (zag K) (by rfl) T.b_len boot_len (pa_c (pv 0) zaa)) zaa)) (fun _ _ _ _ _ => (zah (i := 0) (show List.Nodup (["_law_place", "_law_row", "_law_k"] : List Str) by decide +kernel) (by rfl) (Or.inl (by rfl)))) (fun _ _ _ _ _ => (zhs (zam zbu (za6 zc2 (za6 zdk (zan (zaw K) (pv 1) (pv 0) (fun _ _ => rfl)) (zan (zaw K) (zas (pa_c zaf (pa_c zaf (pa_c zaf zaa)))) (pv 2) (fun _ _ => rfl))) zaf) zaf (nomark _)))) (fun _ _ _ _ _ => (pv 0))))), ?_⟩
 refine za0 [some (.ref r), some (nV k)] rfl ?_
 trivial
 have hpi : ∀ k, k < 3 → ([V.int 1, V.int 2, V.int 4] : List V)[k]? = some (nV (2 ^ k)) := fun k hk => by
  rcases (show k = 0 ∨ k = 1 ∨ k = 2 by omega) with rfl | rfl | rfl <;> rfl
 have hp2 : 1 ≤ 2 ^ k ∧ 2 ^ k ≤ 4 := by rcases (show k = 0 ∨ k = 1 ∨ k = 2 by omega) with rfl | rfl | rfl <;> decide
 refine ⟨_, .inl (.of er), by rw [y01]; omega, by rw [y01]; omega, ?_⟩
 rw [y01, y1l]
 refine zo3 (fun σ => ∃ v, σ = [v, some (.ref r), some (nV k)]) (fun x => bit (row.getD x 0) k) (fun x => nV x) (by omega) ⟨_, rfl⟩ ?_ ?_
 ·rintro D i σ H4 hi gg hD hD' ⟨v, rfl⟩
  have ei : (row.map nV)[i]? = some (nV row[i]) := by rw [y04, y00 hi]; rfl
  have egd : row.getD i 0 = row[i] := by rw [y02, y00 hi]; rfl
  trivial
  rw [y31]
  refine ⟨_, .of (gg _ _ er), _, zaj ei, zab (by simp), fun p5 H5 n5 => ⟨_, n5.lst, _, zaj (hpi _ (by omega)), _, rfl, _, rfl, ⟨by omega, by omega⟩, by decide, ?_⟩⟩
  rw [bit_int, ← egd]
  cases hb : bit (row.getD i 0) k with
  | true => exact iteT (zk9 (by omega) hi hb hD (n5.g _ _ hD') (gg.trans n5.g) ⟨_, rfl⟩ rfl)
  | false => exact iteF (zla hi hb (n5.g _ _ hD') (gg.trans n5.g) ⟨_, rfl⟩)
 intro D H4 hD g4 eD
 exact q D H4 hD g4 eD
abbrev s_law_fits : Stmt := top 75
theorem zix : FnScope ["_law_frame", "_law_row"] ["_law_frame", "_law_row"] (defScope s_law_fits) := ⟨rfl, rfl, rfl, by decide +kernel, rfl, by decide +kernel, by decide +kernel⟩
theorem znu (T : Txt K mg w tw rw fa cj ca ce co cn) (d : Dfn K mg "_law_fits" s_law_fits ["_law_frame", "_law_row"]) (C_law_with : Cal P w K mg base 1 "_law_with" ["_law_row", "_law_k"] zef) : Cal P w K mg base 2 "_law_fits" ["_law_frame", "_law_row"] zhg := by
 refine d.cal zix (fun vs H Q E h => ?_) (fun f cdv A outer s H vs Q E hr h => ?_)
 ·obtain ⟨b, r, tl, row, rfl, _⟩ := h
  rfl
 obtain ⟨b, r, tl, row, rfl, eb, ht, er, h100, q⟩ := h
 refine ⟨_, (zad (zai (za1 (za9 K rfl) (by rfl) T.b_all boot_all (pa_c (zau ["_law_k"] [(1, "_law_row"), (0, "_law_frame")] (CompOk.of rfl (by rfl) (by rfl)) (by rfl) (zbi (by rfl) T.b_range (pa_c (za1 (zag K) (by rfl) T.b_len boot_len (pa_c (pv 0) zaa)) zaa)) (fun _ _ _ _ _ => (zah (i := 0) (show List.Nodup (["_law_k", "_law_row", "_law_frame"] : List Str) by decide +kernel) (by rfl) (Or.inl (by rfl)))) (fun _ _ _ _ _ => (zhs (zam (zbe K) (zan (zaw K) (pv 2) (pv 0) (fun _ _ => rfl)) (zbc (pa_c zaq (pa_c zaq zaa))) (by with_unfolding_all rfl)))) (fun _ _ _ _ _ => (zbk zbu (za1 (zag K) (by rfl) T.b_len boot_len (pa_c (zae C_law_with hr (by omega) (by rfl) (pa_c (pv 1) (pa_c (pv 0) zaa))) zaa)) zaf (nomark _)))) zaa)))), ?_⟩
 refine za0 [some (.ref b), some (.ref r)] rfl ?_
 trivial
 obtain ⟨⟨hl1, hl3⟩, fo, hz4, hfr, hP⟩ := fr10 ht
 refine ⟨_, .inl (.of eb), by rw [y01]; omega, by rw [y01]; omega, ?_⟩
 rw [y01, y1l]
 refine zo3 (fun σ => ∃ v, σ = [v, some (.ref r), some (.ref b)]) (fun k => isXY (tl.getD k (Str.ofString ""))) (fun k => .bl (cw row k == 1)) (by omega) ⟨_, rfl⟩ ?_ ?_
 ·rintro D i σ H4 hi gg hD hD' ⟨v, rfl⟩
  have ek : (tl.map V.str)[i]? = some (.str tl[i]) := by rw [y04, y00 hi]; rfl
  have egd : tl.getD i (Str.ofString "") = tl[i] := by rw [y02, y00 hi]; rfl
  trivial
  rw [y31]
  refine ⟨_, .of (gg _ _ eb), _, zaj ek, zab (by simp), fun p1 H2 n2 => ⟨_, .inr (.of n2.at'), rfl, rfl, ?_⟩⟩
  have hxy : inV (V.str tl[i]) [V.str "x", V.str "y"] = isXY tl[i] := zbs _ ["x", "y"]
  rw [hxy]
  have g2 := gg.trans n2.g
  cases hX : isXY tl[i] with
  | false => exact iteF (zla hi (by rw [egd]; exact hX) (n2.g _ _ hD') g2 ⟨_, rfl⟩)
  | true =>
   refine iteT ⟨r, row, i, rfl, g2 _ _ er, h100, by omega, fun D3 H5 hD3 g5 eD5 => ⟨D3, rfl, _, .inl (.of eD5), ?_⟩⟩
   rw [y01, zmn]
   refine zk9 (by omega) hi (by rw [egd]; exact hX) hD ((n2.g.trans g5) _ _ hD') (g2.trans g5) ⟨_, rfl⟩ ?_
   exact congrArg V.bl (by rw [y1v, decide_eq_true_iff, beq_iff_eq]; omega)
 intro D H4 hD g4 eD
 have eD' : H4 D = some (.lst ((((List.range tl.length).filter fun k => isXY (tl.getD k (Str.ofString ""))).map fun k => cw row k == 1).map V.bl)) := by rw [eD, y0r]; rfl
 refine ⟨D, rfl, _, .of eD', ?_⟩
 have e : ((((List.range tl.length).filter fun k => isXY (tl.getD k (Str.ofString ""))).map fun k => cw row k == 1).all id) = fitL tl row := by
  unfold fitL
  rw [y22, List.all_filter]
  rfl
 rw [e]
 exact q H4 g4
abbrev s_law_due : Stmt := top 76
theorem sc_law_due : FnScope ["_law_saying", "_law_frame", "_law_row", "_law_one", "_law_other"] ["_law_saying", "_law_frame", "_law_row"] (defScope s_law_due) := ⟨rfl, rfl, rfl, by decide +kernel, rfl, by decide +kernel, by decide +kernel⟩
theorem zqv (T : Txt K mg w tw rw fa cj ca ce co cn) (d : Dfn K mg "_law_due" s_law_due ["_law_saying", "_law_frame", "_law_row"]) (C_law_fits : Cal P w K mg base 2 "_law_fits" ["_law_frame", "_law_row"] zhg) (C_law_with : Cal P w K mg base 1 "_law_with" ["_law_row", "_law_k"] zef) : Cal P w K mg base 3 "_law_due" ["_law_saying", "_law_frame", "_law_row"] zkc := by
 refine d.cal sc_law_due (fun vs H Q E h => ?_) (fun f cdv A outer s H vs Q E hr h => ?_)
 ·obtain ⟨v, b, r, wd, n, m, tl, row, rfl, _⟩ := h
  rfl
 obtain ⟨v, b, r, wd, n, m, tl, row, rfl, rp, hn, hm, ok, eb, ht, er, h100, q⟩ := h
 have hu := zff hr 8 (by decide)
 refine ⟨_, (zac (za8 (zeq (zcq (zae C_law_fits hr (by omega) (by rfl) (pa_c (pv 1) (pa_c (pv 2) zaa))))) (zad (zai zd3)) zap) (zac (zat (i := 3) sc_law_due.nd rfl (Or.inl rfl) (zae C_law_with hr (by omega) (by rfl) (pa_c (pv 2) (pa_c (zc1 K PySem.F.plainAttrs_list PySem.F.slot_list_index PySem.F.type_list_index (zdm K hu) (pv 1) (pa_c (zan (zak K) (pv 0) zaf (fun _ _ => rfl)) zaa)) zaa)))) (zac (zat (i := 4) sc_law_due.nd rfl (Or.inr rfl) (zae C_law_with hr (by omega) (by rfl) (pa_c (pv 2) (pa_c (zc1 K PySem.F.plainAttrs_list PySem.F.slot_list_index PySem.F.type_list_index (zdm K hu) (pv 1) (pa_c (zan (zak K) (pv 0) zaf (fun _ _ => rfl)) zaa)) zaa)))) (zac (za8 (PW.pt (zgk (zam zbu (zan (zak K) (pv 0) zaf (fun _ _ => rfl)) zaq (nomark _)) (zep (zam zbu (zan (zak K) (pv 0) zaf (fun _ _ => rfl)) zaq (nomark _))))) (zad (zai (za1 (za9 K rfl) (by rfl) T.b_all boot_all (pa_c (zau ["_law_place"] [(4, "_law_other")] (CompOk.of rfl (by rfl) (by rfl)) (by rfl) (zav K (pv 3)) (fun _ _ _ _ _ => (zah (i := 0) (show List.Nodup (["_law_place", "_law_other"] : List Str) by decide +kernel) (by rfl) (Or.inl (by rfl)))) (fun _ _ _ _ _ => za5) (fun _ _ _ _ _ => (zbk (zbe K) (pv 0) (pv 1) (by with_unfolding_all rfl)))) zaa)))) zap) (zac (za8 (zam zbu (zan (zak K) (pv 0) zaf (fun _ _ => rfl)) zaq (nomark _)) (zad (zai (zbk (ztg K hu) (pv 3) (pv 4) (nomark _)))) zap) (zac (za8 (zam zbu (zan (zak K) (pv 0) zaf (fun _ _ => rfl)) zaq (nomark _)) (zad (zai (zbk zqj (zan (zaw K) (pv 3) zaf (fun _ _ => rfl)) (zan (zaw K) (pv 4) zaf (fun _ _ => rfl)) (nomark _)))) zap) (zad (zai (zbk zbu (za6 zez (zan (zaw K) (pv 3) zaf (fun _ _ => rfl)) zaf) (zan (zaw K) (pv 4) zaf (fun _ _ => rfl)) (nomark _)))))))))), ?_⟩
 refine za0 [some v, some (.ref b), some (.ref r), none, none] rfl ?_
 trivial
 obtain ⟨⟨hl1, hl3⟩, fo, hz4, hfr, hP⟩ := fr10 ht
 refine ⟨b, r, tl, row, rfl, eb, ht, er, h100, fun H1 g1 => ⟨_, rfl, ?_⟩⟩
 cases hf : fitL tl row with
 | false =>
  rw [hf] at q
  exact iteT (q H1 g1)
 | true =>
 rw [hf] at q
 refine iteF ?_
 cases rp with
 | bare hw e =>
 rename_i a
 have hi := y0s.mpr hn
 have hj := y0s.mpr hm
 refine ⟨.inl ⟨_, .of (g1 _ _ eb)⟩, a, rfl, _, .of (g1 _ _ e), _, zaj (j := 1) rfl, tl, n, rfl, .of (g1 _ _ eb), hn, by omega, r, row, _, rfl, g1 _ _ er, h100, by omega, fun q1 H2 hD1 g2 e1 => ?_⟩
 have g02 := g1.trans g2
 refine ⟨.inl ⟨_, .of (g02 _ _ eb)⟩, a, rfl, _, .of (g02 _ _ e), _, zaj (j := 2) rfl, tl, m, rfl, .of (g02 _ _ eb), hm, by omega, r, row, _, rfl, g02 _ _ er, h100, by omega, fun q2 H' hD2 g3 e2 => ?_⟩
 have g' := g02.trans g3
 have e1 := g3 _ _ e1
 have eA := g' _ _ e
 refine ⟨a, rfl, _, .of eA, _, zbf, rfl, ?_⟩
 obtain ⟨hd1, hd2⟩ := due10 ht (zop hf) hn hm ok
 have hwl : ∀ k, (wth row k).length ≤ 100 := fun k => y10 (y1i _ _) (by rw [y17]; exact h100)
 have hw1 := hwl (tl.idxOf n)
 have hw2 := hwl (tl.idxOf m)
 have hwd := (bare10 ht hn hm ok).hw
 simp only [SM.rowWords, y05, y0a, or_false] at hwd
 rcases hwd with rfl | rfl | rfl | rfl | rfl
 ·rw [decide_eq_true rfl]
  refine iteT ⟨q1, rfl, ⟨_, .of e1⟩, zgx (K := K) (a := q1) (xs := (wth row (tl.idxOf n)).map nV) (fun σ => ∃ v, σ = [v, some (.ref q2)]) (fun v => .bl (inV v ((wth row (tl.idxOf m)).map nV))) (by rw [y01]; omega) (.of e1) ⟨_, rfl⟩ ?_ ?_⟩
  ·rintro D3 i σ H3 x hi hm hx gg hD3 hD3' ⟨v, rfl⟩
   obtain ⟨x, hx', rfl⟩ := y0m.mp hm
   trivial
   exact ⟨_, .inl (.of (gg _ _ e2)), rfl, by rw [y22]; simp [flatV, Function.comp_def], zcb (by rw [y01]; omega) hx hD3 hD3' gg ⟨_, rfl⟩ rfl⟩
  intro D3 H3 hD3 g3' eD3
  have eD3' : H3 D3 = some (.lst (((wth row (tl.idxOf n)).map fun x => decide (x ∈ wth row (tl.idxOf m))).map V.bl)) := by
   rw [eD3, y0r, y0r]
   refine congrArg some (congrArg HO.lst (y1u fun x _ => ?_))
   show V.bl (inV (nV x) _) = V.bl _
   rw [zdq]
  refine ⟨D3, rfl, _, .of eD3', ?_⟩
  have := q H3 (g'.trans g3')
  rw [SM.due, if_pos (by decide)] at this
  rw [y22]
  exact this
 ·rw [decide_eq_false (by intro z; exact absurd (V.str.inj z) (by decide))]
  refine iteF ⟨a, rfl, _, .of eA, _, zbf, rfl, ?_⟩
  rw [decide_eq_false (by intro z; exact absurd (V.str.inj z) (by decide))]
  refine iteF ⟨a, rfl, _, .of eA, _, zbf, rfl, ?_⟩
  rw [decide_eq_true rfl]
  refine iteT ?_
  refine ⟨q1, rfl, q2, rfl, (wth row (tl.idxOf n)).map (fun (x : Nat) => (x : Int)), by rw [← zf1]; exact .of e1, (wth row (tl.idxOf m)).map (fun (x : Nat) => (x : Int)), by rw [← zf1]; exact .of e2, ?_⟩
  have z := q H' g'
  rw [SM.due, if_neg (by decide), if_pos rfl] at z
  rw [show decide ((wth row (tl.idxOf n)).map (fun (x : Nat) => (x : Int)) = (wth row (tl.idxOf m)).map (fun (x : Nat) => (x : Int))) = decide (wth row (tl.idxOf n) = wth row (tl.idxOf m)) from decide_eq_decide.mpr ⟨fun h => zkx _ _ h, fun h => by rw [h]⟩]
  exact z
 ·rw [decide_eq_false (by intro z; exact absurd (V.str.inj z) (by decide))]
  refine iteF ⟨a, rfl, _, .of eA, _, zbf, rfl, ?_⟩
  rw [decide_eq_true rfl]
  refine iteT ⟨q1, rfl, ⟨_, .of e1⟩, zgx (K := K) (a := q1) (xs := (wth row (tl.idxOf n)).map nV) (fun σ => ∃ v, σ = [v, some (.ref q2)]) (fun v => .bl (inV v ((wth row (tl.idxOf m)).map nV))) (by rw [y01]; omega) (.of e1) ⟨_, rfl⟩ ?_ ?_⟩
  ·rintro D3 i σ H3 x hi hm hx gg hD3 hD3' ⟨v, rfl⟩
   obtain ⟨x, hx', rfl⟩ := y0m.mp hm
   trivial
   exact ⟨_, .inl (.of (gg _ _ e2)), rfl, by rw [y22]; simp [flatV, Function.comp_def], zcb (by rw [y01]; omega) hx hD3 hD3' gg ⟨_, rfl⟩ rfl⟩
  intro D3 H3 hD3 g3' eD3
  have eD3' : H3 D3 = some (.lst (((wth row (tl.idxOf n)).map fun x => decide (x ∈ wth row (tl.idxOf m))).map V.bl)) := by
   rw [eD3, y0r, y0r]
   refine congrArg some (congrArg HO.lst (y1u fun x _ => ?_))
   show V.bl (inV (nV x) _) = V.bl _
   rw [zdq]
  refine ⟨D3, rfl, _, .of eD3', ?_⟩
  have := q H3 (g'.trans g3')
  rw [SM.due, if_pos (by decide)] at this
  rw [y22]
  exact this
 ·rw [decide_eq_false (by intro z; exact absurd (V.str.inj z) (by decide))]
  refine iteF ⟨a, rfl, _, .of eA, _, zbf, rfl, ?_⟩
  rw [decide_eq_false (by intro z; exact absurd (V.str.inj z) (by decide))]
  refine iteF ⟨a, rfl, _, .of eA, _, zbf, rfl, ?_⟩
  rw [decide_eq_false (by intro z; exact absurd (V.str.inj z) (by decide))]
  refine iteF ⟨a, rfl, _, .of eA, _, zbf, rfl, ?_⟩
  rw [decide_eq_true rfl]
  refine iteT ?_
  obtain ⟨x1, ex1⟩ := y1y.mp (hd1 (by decide))
  obtain ⟨x2, ex2⟩ := y1y.mp (hd2 (by decide) (by decide))
  have z := q H' g'
  rw [ex1, ex2, SM.due, if_neg (by decide), if_neg (by decide), if_pos rfl] at z
  rw [ex1] at e1
  rw [ex2] at e2
  refine ⟨q1, rfl, _, .of e1, _, zbf, q2, rfl, _, .of e2, _, zbf, _, rfl, _, rfl, ?_⟩
  rw [show decide ((x1 : Int) < (x2 : Int)) = decide (x1 < x2) from decide_eq_decide.mpr (by omega)]
  exact z
 ·rw [decide_eq_false (by intro z; exact absurd (V.str.inj z) (by decide))]
  refine iteF ⟨a, rfl, _, .of eA, _, zbf, rfl, ?_⟩
  rw [decide_eq_false (by intro z; exact absurd (V.str.inj z) (by decide))]
  refine iteF ⟨a, rfl, _, .of eA, _, zbf, rfl, ?_⟩
  rw [decide_eq_false (by intro z; exact absurd (V.str.inj z) (by decide))]
  refine iteF ⟨a, rfl, _, .of eA, _, zbf, rfl, ?_⟩
  rw [decide_eq_false (by intro z; exact absurd (V.str.inj z) (by decide))]
  refine iteF ?_
  obtain ⟨x1, ex1⟩ := y1y.mp (hd1 (by decide))
  obtain ⟨x2, ex2⟩ := y1y.mp (hd2 (by decide) (by decide))
  have z := q H' g'
  rw [ex1, ex2, SM.due, if_neg (by decide), if_neg (by decide), if_neg (by decide)] at z
  rw [ex1] at e1
  rw [ex2] at e2
  refine ⟨q1, rfl, _, .of e1, _, zbf, _, rfl, q2, rfl, _, .of e2, _, zbf, rfl, ?_⟩
  rw [show decide (V.int ((x1 : Int) + 1) = nV x2) = decide (x1 + 1 = x2) from decide_eq_decide.mpr ⟨fun h => by have := V.int.inj h; omega, fun h => by rw [← h]; rfl⟩]
  exact z
abbrev s_law_long : Stmt := top 79
theorem sc_law_long : FnScope ["_law_cells", "_law_frame", "_law_mixed_here", "_law_row", "_law_at", "_law_k", "_law_place"] ["_law_cells", "_law_frame", "_law_mixed_here"] (defScope s_law_long) := ⟨rfl, rfl, rfl, by decide +kernel, rfl, by decide +kernel, by decide +kernel⟩
theorem znr (T : Txt K mg w tw rw fa cj ca ce co cn) (d : Dfn K mg "_law_long" s_law_long ["_law_cells", "_law_frame", "_law_mixed_here"]) (C_law_mixed : Cal P w K mg base 1 "_law_mixed" ["_law_cell"] zgc) : Cal P w K mg base 2 "_law_long" ["_law_cells", "_law_frame", "_law_mixed_here"] zj5 := by
 refine d.cal sc_law_long (fun vs H Q E h => ?_) (fun f cdv A outer s H vs Q E hr h => ?_)
 ·obtain ⟨c, b, ns, tl, n, rfl, _⟩ := h
  rfl
 obtain ⟨c, b, ns, tl, n, rfl, ec, h1, h63, eb, ht, hn, q⟩ := h
 refine ⟨_, (zac (zct (i := 3) sc_law_long.nd rfl (Or.inl rfl) ["_law_cell"] [(1, "_law_frame")] (CompOk.of rfl (by rfl) (by rfl)) (by rfl) (zav K (pv 0)) (fun _ _ _ _ _ => (zah (i := 0) (show List.Nodup (["_law_cell", "_law_frame"] : List Str) by decide +kernel) (by rfl) (Or.inl (by rfl)))) (fun _ _ _ _ _ => za5) (fun _ _ _ _ _ => (za6 zc2 (za6 zdk (zae C_law_mixed hr (by omega) (by rfl) (pa_c (pv 0) zaa)) zaf) (zan (zaw K) (zas (pa_c zaf (pa_c zaf (pa_c zaf (pa_c zaf zaa))))) (za1 (zag K) (by rfl) T.b_len boot_len (pa_c (pv 1) zaa)) (fun _ _ => rfl))))) (zac (zat (i := 4) sc_law_long.nd rfl (Or.inl rfl) (za6 zc2 (pv 2) (za1 (zag K) (by rfl) T.b_len boot_len (pa_c (pv 3) zaa)))) (zac (zbo PassesOwn.never rfl (zbi (by rfl) T.b_range (pa_c (za1 (zag K) (by rfl) T.b_len boot_len (pa_c (pv 1) zaa)) zaa)) (zah (i := 5) sc_law_long.nd (by rfl) (Or.inl (by rfl))) (zad (za8 (zam (zbe K) (zan (zaw K) (pv 1) (pv 5) (fun _ _ => rfl)) (zbc (pa_c zaq (pa_c zaq zaa))) (by with_unfolding_all rfl)) (zac (zbo PassesOwn.never rfl (zbi (by rfl) T.b_range (pa_c (za1 (zag K) (by rfl) T.b_len boot_len (pa_c (pv 3) zaa)) zaa)) (zah (i := 6) sc_law_long.nd (by rfl) (Or.inl (by rfl))) (zad (zry (za6 znf (zan (zaw K) (pv 3) (pv 6) (fun _ _ => rfl)) (za6 zr0 (za6 zc2 (za6 zdk (zan (zaw K) (pv 3) (pv 6) (fun _ _ => rfl)) (zan (zaw K) (zas (pa_c zaf (pa_c zaf (pa_c zaf zaa)))) (pv 5) (fun _ _ => rfl))) zaf) (zan (zaw K) (zas (pa_c zaf (pa_c zaf (pa_c zaf zaa)))) (pv 5) (fun _ _ => rfl)))) (zrz (pv 3) (pv 6) zke)))) (zac (zry (za6 zez (zan (zaw K) (pv 3) (pv 4) (fun _ _ => rfl)) (zan (zaw K) (zas (pa_c zaf (pa_c zaf (pa_c zaf zaa)))) (pv 5) (fun _ _ => rfl))) (zrz (pv 3) (pv 4) zke)) (zad (zat (i := 4) sc_law_long.nd rfl (Or.inl rfl) (za6 zc2 (zan (zaw K) (zas (pa_c (za6 zez (pv 4) zaf) (pa_c (za6 zc2 (za6 zdk (pv 2) zaf) (za1 (zag K) (by rfl) T.b_len boot_len (pa_c (pv 3) zaa))) (pa_c (pv 4) (pa_c (za6 znf (za6 zez (pv 4) (za1 (zag K) (by rfl) T.b_len boot_len (pa_c (pv 3) zaa))) zaf) zaa))))) (za6 zc2 (za6 zdk (pv 2) zaf) zaf) (fun _ _ => rfl)) (za1 (zag K) (by rfl) T.b_len boot_len (pa_c (pv 3) zaa))))))) zap))) (zad (zai (pv 3)))))), ?_⟩
 refine za0 [some (.ref c), some (.ref b), some (.int n), none, none, none, none] rfl ?_
 trivial
 obtain ⟨⟨hl1, hl3⟩, fo, hz4, hfr, hP⟩ := fr10 ht
 have h8 : 2 ^ tl.length ≤ 8 := y2f (by decide) hl3
 have hpi : ∀ k, k < 3 → ([V.int 1, V.int 2, V.int 4] : List V)[k]? = some (nV (2 ^ k)) := fun k hk => by
  rcases (show k = 0 ∨ k = 1 ∨ k = 2 by omega) with rfl | rfl | rfl <;> rfl
 have hpi4 : ([V.int 1, V.int 2, V.int 4, V.int 8] : List V)[tl.length]? = some (nV (2 ^ tl.length)) := by
  rcases (show tl.length = 1 ∨ tl.length = 2 ∨ tl.length = 3 by omega) with e | e | e <;> rw [e] <;> rfl
 refine ⟨⟨_, .of ec⟩, zfg (n := ns.length) (fun σ => ∃ v, σ = [v, some (.ref b)]) (fun j y H => ∃ x : Nat, x < 2 ^ tl.length ∧ y = nV x) (by omega) ⟨_, rfl⟩ (fun i H5 hi gh => ⟨_, .int ns[i], .of (gh _ _ ec), by rw [y04, y00 hi]; rfl⟩) (fun H5 gh => ⟨_, .of (gh _ _ ec), by rw [y01]; exact y06 _⟩) ?_ ?_⟩
 ·rintro D i ys σ H5 x H5' hi gh hD hD' hl hy' ⟨v, rfl⟩ ⟨rfl, yx⟩
  have ex := yx _ (.of (gh _ _ ec))
  rw [y04, y00 hi] at ex
  cases ex
  trivial
  refine ⟨_, rfl, fun r0 h0 hr1 => ⟨_, rfl, ⟨by decide, by decide⟩, zab (by simp), fun p Hp np => ⟨_, .inl (.of ((gh.trans np.g) _ _ eb)), _, np.lst, _, by rw [y01]; exact zaj hpi4, _, rfl, by have := y3d tl.length; omega, ?_⟩⟩⟩
  have hp0 : 0 < 2 ^ tl.length := y3d tl.length
  have e1 : 0 ≤ r0 / 3 % ((2 ^ tl.length : Nat) : Int) := y2p _ (by omega)
  have e2 : r0 / 3 % ((2 ^ tl.length : Nat) : Int) < ((2 ^ tl.length : Nat) : Int) := y2q _ (by omega)
  refine zbv (fun j y H H' ts z => z) (by omega) hi hD (np.g _ _ hD') hl hy' np.g.tups (gh.trans np.g) ⟨_, rfl⟩ ⟨(r0 / 3 % ((2 ^ tl.length : Nat) : Int)).toNat, by omega, ?_⟩
  show V.int _ = V.int _
  congr 1
  omega
 intro pr ys H1 hpr g1 epr hyl hy
 obtain ⟨row0, rfl, hrow0⟩ := zn2 hy
 rw [y01] at hyl
 have eb1 := g1 _ _ eb
 refine ⟨pr, rfl, _, .inl (.of epr), by rw [y01]; omega, _, .inl (.of eb1), by rw [y01]; omega, by rw [y01]; omega, ?_⟩
 rw [y01, y01, y1l]
 refine zgt (fun k σ H' => Same H H' ∧ ∃ row at' v5 v6, σ = [some (.ref c), some (.ref b), some (.int n), some (.ref pr), some (nV at'), v5, v6] ∧ H' pr = some (.lst (row.map nV)) ∧ row.length = ns.length ∧ (∀ c ∈ row, c < 2 ^ tl.length) ∧ Fit10 tl k row ∧ at' < ns.length)
  ⟨g1, row0, (n % (row0.length : Int)).toNat, none, none, ?_, epr, hyl, hrow0, fun j hj => absurd hj (by omega), ?_⟩ ?_ ?_
 ·have := y2p n (show (row0.length : Int) ≠ 0 by omega)
  show _ = [_, _, _, _, some (V.int _), _, _]
  rw [Int.toNat_of_nonneg this]
 ·have := y2p n (show (row0.length : Int) ≠ 0 by omega)
  have := y2q n (show (0 : Int) < (row0.length : Int) by omega)
  omega
 ·rintro k σ H' hk ⟨g, row, at', v5, v6, rfl, ep, hlen, hc, F, ha⟩
  have ek : (tl.map V.str)[k]? = some (.str tl[k]) := by rw [y04, y00 hk]; rfl
  have hp2 : 1 ≤ 2 ^ k ∧ 2 ^ k ≤ 4 := by rcases (show k = 0 ∨ k = 1 ∨ k = 2 by omega) with rfl | rfl | rfl <;> decide
  have egd : tl.getD k (Str.ofString "") = tl[k] := by rw [y02, y00 hk]; rfl
  trivial
  rw [y31]
  refine ⟨_, .of (g _ _ eb), _, zaj ek, zab (by simp), fun p1 H2 n2 => ⟨_, .inr (.of n2.at'), rfl, rfl, ?_⟩⟩
  have hxy : inV (V.str tl[k]) [V.str "x", V.str "y"] = isXY tl[k] := zbs _ ["x", "y"]
  rw [hxy]
  have g2 := g.trans n2.g
  cases hX : isXY tl[k] with
  | false =>
   refine iteF ?_
   refine ⟨g2, row, at', rfl, n2.g _ _ ep, hlen, hc, fun j hj hj' => ?_, ha⟩
   by_cases e : j = k
   ·subst e; rw [egd, hX] at hj'; cases hj'
   ·exact F j (by omega) hj'
  | true =>
   refine iteT ⟨_, .inl (.of (n2.g _ _ ep)), by rw [y01]; omega, by rw [y01]; omega, ?_⟩
   rw [y01, y1l]
   refine zgt (fun i σ H'' => Same H H'' ∧ ∃ v6, σ = [some (.ref c), some (.ref b), some (.int n), some (.ref pr), some (nV at'), some (nV k), v6] ∧ H'' pr = some (.lst ((clrs k i row).map nV)))
    ⟨g2, _, rfl, by simpa [clrs] using n2.g _ _ ep⟩ ?_ ?_
   ·rintro i σ H'' hi ⟨gg, v6', rfl, ep'⟩
    have hci := hc _ (y0g hi)
    have hai : ((clrs k i row).map nV)[i]? = some (nV row[i]) := by rw [y04, clrs_at hi]; rfl
    trivial
    rw [y31]
    refine ⟨_, .of ep', _, zaj hai, _, .of ep', _, zaj hai, zab (by simp), fun p4 H4 n4 => ⟨_, n4.lst, _, zaj (hpi k (by omega)), _, rfl, _, rfl, ⟨by omega, by omega⟩, by decide, zab (by simp), fun p5 H5 n5 => ⟨_, n5.lst, _, zaj (hpi k (by omega)), _, rfl, .inr ⟨by omega, by omega⟩, _, rfl, _, (n4.g.trans n5.g) _ _ ep', i, ixN10 (by rw [y01, zro (by omega)]; exact hi), ?_⟩⟩⟩
    refine ⟨(gg.trans (n4.g.trans n5.g)).wr hpr _, ?_⟩
    rw [zar, clr_int hl3 hk hci, ← zo7 hi, List.map_set]
   ·rintro σ H'' ⟨gg, v6', rfl, ep'⟩
    rw [zrp] at ep'
    have hat : at' < (row.map (clr k)).length := by rw [y01]; omega
    have hgd : (row.map (clr k)).getD at' 0 = (row.map (clr k))[at'] := by rw [y02, y00 hat]; rfl
    have eat : ((row.map (clr k)).map nV)[at']? = some (nV (row.map (clr k))[at']) := by rw [y04, y00 hat]; rfl
    obtain ⟨hc', F'⟩ := zmd hl3 hk hc F (show at' < row.length by omega)
    have hl' : ((row.map (clr k)).set at' ((row.map (clr k)).getD at' 0 + 2 ^ k)).length = ns.length := by rw [List.length_set, y01]; exact hlen
    have em : ((row.map (clr k)).map nV).set at' (V.int (((row.map (clr k))[at'] : Nat) + ((2 ^ k : Nat) : Int))) = ((row.map (clr k)).set at' ((row.map (clr k)).getD at' 0 + 2 ^ k)).map nV := by
     rw [List.map_set, hgd]
     congr 1
    generalize (row.map (clr k)).set at' ((row.map (clr k)).getD at' 0 + 2 ^ k) = row2 at hc' F' hl' em
    trivial
    refine ⟨_, .of ep', _, zaj eat, zab (by simp), fun p4 H4 n4 => ⟨_, n4.lst, _, zaj (hpi k (by omega)), _, rfl, _, rfl, _, n4.g _ _ ep', at', ixN10 (by rw [y01]; exact hat), ?_⟩⟩
    rw [em]
    have e6 : upd H4 pr (.lst (row2.map nV)) pr = some (.lst (row2.map nV)) := zar
    have g6 : Same H (upd H4 pr (.lst (row2.map nV))) := (gg.trans n4.g).wr hpr _
    generalize upd H4 pr (.lst (row2.map nV)) = H6 at e6 g6
    refine ⟨⟨by decide, by decide⟩, _, .inl (.of e6), by rw [y01]; omega, _, .inl (.of e6), zab (by simp), fun p7 H7 n7 => ⟨⟨by decide, by decide⟩, by decide, _, n7.lst, ?_⟩⟩
    obtain ⟨y, hy', my⟩ := zpl (i := n / 1000) (xs := ([V.int ((at' : Int) + 1), V.int (n / 31 % ((row2.map nV).length : Int)), nV at', V.int ((at' : Int) + ((row2.map nV).length : Int) - 1)] : List V)) (n := 4) rfl (by decide)
    refine ⟨y, hy', _, .inl (.of (n7.g _ _ e6)), ?_⟩
    obtain ⟨x, rfl⟩ : ∃ x : Int, y = .int x := by
     simp only [y05, y0a, or_false] at my
     rcases my with rfl | rfl | rfl | rfl <;> exact ⟨_, rfl⟩
    have h1' := y2p x (show ((row2.map nV).length : Int) ≠ 0 by rw [y01]; omega)
    have h2' := y2q x (show (0 : Int) < ((row2.map nV).length : Int) by rw [y01]; omega)
    rw [y01] at h1' h2'
    refine ⟨x, rfl, by rw [y01]; omega, ?_⟩
    refine ⟨g6.trans n7.g, row2, (x % ((row2.map nV).length : Int)).toNat, by rw [y01]; omega, n7.g _ _ e6, hl', hc', F', by rw [y01]; omega⟩
 ·rintro σ H' ⟨g, row, at', v5, v6, rfl, ep, hlen, hc, F, ha⟩
  simp only [tRet, zbj, zcp]
  exact q pr row H' hpr g ep hlen hc F
abbrev s_law_longer : Stmt := top 77
theorem sc_law_longer : FnScope ["_law_rows_here", "_law_width", "_law_found", "_law_row"] ["_law_rows_here", "_law_width"] (defScope s_law_longer) := ⟨rfl, rfl, rfl, by decide +kernel, rfl, by decide +kernel, by decide +kernel⟩
theorem znq (T : Txt K mg w tw rw fa cj ca ce co cn) (d : Dfn K mg "_law_longer" s_law_longer ["_law_rows_here", "_law_width"]) : Cal P w K mg base 1 "_law_longer" ["_law_rows_here", "_law_width"] zei := by
 refine d.cal sc_law_longer (fun vs H Q E h => ?_) (fun f cdv A outer s H vs Q E hr h => ?_)
 ·obtain ⟨a, rs, w, L, rfl, _⟩ := h
  rfl
 obtain ⟨a, rs, wd, L, rfl, ea, h3, h64, hL, R, q⟩ := h
 refine ⟨_, (zac (zat (i := 2) sc_law_longer.nd rfl (Or.inl rfl) (zas zaa)) (zac (zbo PassesOwn.never rfl (zav K (pv 0)) (zah (i := 3) sc_law_longer.nd (by rfl) (Or.inr (by rfl))) (zad (zat (i := 2) sc_law_longer.nd rfl (Or.inl rfl) (za6 zce (pv 2) (zau ["_law_letter"] [(3, "_law_row")] (CompOk.of rfl (by rfl) (by rfl)) (by rfl) (zbi (by rfl) T.b_range (pa_c (za6 zng zaf (pv 1)) zaa)) (fun _ _ _ _ _ => (zah (i := 0) (show List.Nodup (["_law_letter", "_law_row"] : List Str) by decide +kernel) (by rfl) (Or.inl (by rfl)))) (fun _ _ _ _ _ => za5) (fun _ _ _ _ _ => (za6 zce (pv 1) (zas (pa_c (pv 0) zaa))))))))) (zad (zai (pv 2))))), ?_⟩
 refine za0 [some (.ref a), some (nV wd), none, none] rfl ?_
 trivial
 refine ⟨by decide, fun pf H1 n1 => ⟨⟨_, .of (n1.g _ _ ea)⟩, ?_⟩⟩
 refine zca (K := K) (a := a) (xs := rs) (fun k σ H' => Same H H' ∧ ∃ p ys v3, σ = [some (.ref a), some (nV wd), some (.ref p), v3] ∧ H p = none ∧ H' p = some (.lst ys) ∧ ys.length = k * 2 ^ wd ∧ Rows wd (L + 1) H' ys)
  ⟨n1.g, pf, [], none, rfl, n1.nil, n1.at', by simp, fun v hv => (nomatch hv)⟩ (fun k σ H' _ z => .of (z.1 _ _ ea)) ?_ ?_
 ·rintro k y σ H' hy ⟨g, p, ys, v3, rfl, hp, ep, hl, RR⟩
  obtain ⟨ar, row, rfl, er, hr1, hr2⟩ := R y (y0h hy)
  have hk := (y0b.mp hy).1
  have hp8 : 1 ≤ 2 ^ wd ∧ 2 ^ wd ≤ 8 := by rcases (show wd = 0 ∨ wd = 1 ∨ wd = 2 ∨ wd = 3 by omega) with rfl | rfl | rfl | rfl <;> decide
  have hpi : (1 * 2 ^ ((wd : Nat) : Int).toNat : Int) = ((2 ^ wd : Nat) : Int) := by simp
  have hpw : (1 * 2 ^ ((wd : Nat) : Int).toNat : Int).toNat = 2 ^ wd := by rw [hpi]; exact y1l _
  have hks : (k + 1) * 2 ^ wd ≤ rs.length * 2 ^ wd := y2v _ hk
  have hk1 : (k + 1) * 2 ^ wd = k * 2 ^ wd + 2 ^ wd := by rw [Nat.add_mul, Nat.one_mul]
  trivial
  refine ⟨⟨by omega, by omega, by decide⟩, by rw [hpi]; omega, by rw [hpi]; omega, ?_⟩
  rw [hpw]
  refine cl_by (n := 2 ^ wd) (fun σ => ∃ v, σ = [v, some (.ref ar)]) (fun D j y H => ∃ a, y = .ref a ∧ a ≠ D ∧ H a = some (.lst ((row ++ [j]).map nV))) (by omega) ⟨_, rfl⟩ (fun i H5 hi gh => hi) (fun H5 gh => y06 _) ?_ ?_
  ·rintro D i ys' σ H5 x H5' hi gh hD hD' hl' hy' ⟨v, rfl⟩ ⟨rfl, rfl⟩
   trivial
   rw [y31]
   refine ⟨zab (by simp), fun t Ht nt => ⟨_, (gh.trans nt.g) _ _ (g _ _ er), _, nt.at', zab (by rw [y01]; simp only [y0i, y0v]; omega), fun t2 Hu nu => ?_⟩⟩
   have g2 := nt.g.trans nu.g
   refine cl_step (fun j y H H' ts z => let ⟨a, e, n, ea⟩ := z; ⟨a, e, n, ts _ _ n ea⟩) (by omega) hi hD (g2 _ _ hD') hl' hy' (g2.b _) (gh.trans g2) ⟨_, rfl⟩ ⟨t2, rfl, (zao (nt.g _ _ hD') nu.nil).symm, by rw [nu.at', y0z]; rfl⟩
  intro D ys' H5 hD g5 eD hyl hy'
  refine ⟨D, rfl, _, g5 _ _ ep, _, eD, zab (by omega), fun p2 H6 n6 => ⟨g.trans (g5.trans n6.g), (g.trans g5).free n6.nil, _, n6.at', by rw [y0j]; omega, ?_⟩⟩
  refine (RR.same (g5.trans n6.g)).app fun v hv => ?_
  obtain ⟨j, hj⟩ := y3f.mp hv
  have hj2 : j < 2 ^ wd := by rw [← hyl]; exact (y0b.mp hj).1
  obtain ⟨a2, rfl, _, ea2⟩ := hy' j v hj
  refine ⟨a2, row ++ [j], rfl, n6.g _ _ ea2, by simp only [y0j, y0i, y0v]; omega, fun c hc => ?_⟩
  rcases y1f.mp hc with h | h
  ·exact hr2 c h
  ·rw [y0o.mp h]; exact hj2
 ·rintro σ H' ⟨g, p, ys, v3, rfl, hp, ep, hl, RR⟩
  simp only [tRet, zbj, zcp]
  exact q p ys H' hp g ep hl RR
abbrev s_law_rows : Stmt := top 78
theorem sc_law_rows : FnScope ["_law_width", "_law_most", "_law_rows_here", "_law_last", "_law_k"] ["_law_width", "_law_most"] (defScope s_law_rows) := ⟨rfl, rfl, rfl, by decide +kernel, rfl, by decide +kernel, by decide +kernel⟩
theorem zno (T : Txt K mg w tw rw fa cj ca ce co cn) (d : Dfn K mg "_law_rows" s_law_rows ["_law_width", "_law_most"]) (C_law_longer : Cal P w K mg base 1 "_law_longer" ["_law_rows_here", "_law_width"] zei) : Cal P w K mg base 2 "_law_rows" ["_law_width", "_law_most"] zhb := by
 refine d.cal sc_law_rows (fun vs H Q E h => ?_) (fun f cdv A outer s H vs Q E hr h => ?_)
 ·obtain ⟨wd, mo, rfl, _⟩ := h
  rfl
 obtain ⟨wd, mo, rfl, h3, h6, hm3, q⟩ := h
 refine ⟨_, (zac (zat (i := 2) sc_law_rows.nd rfl (Or.inl rfl) (zas (pa_c (zas zaa) zaa))) (zac (zat (i := 3) sc_law_rows.nd rfl (Or.inl rfl) (zas (pa_c (zas zaa) zaa))) (zac (zbo PassesOwn.never rfl (zbi (by rfl) T.b_range (pa_c (pv 1) zaa)) (zah (i := 4) sc_law_rows.nd (by rfl) (Or.inl (by rfl))) (zac (zat (i := 3) sc_law_rows.nd rfl (Or.inl rfl) (zae C_law_longer hr (by omega) (by rfl) (pa_c (pv 3) (pa_c (pv 0) zaa)))) (zad (zat (i := 2) sc_law_rows.nd rfl (Or.inl rfl) (za6 zce (pv 2) (pv 3)))))) (zad (zai (pv 2)))))), ?_⟩
 refine za0 [some (nV wd), some (nV mo), none, none, none] rfl ?_
 trivial
 refine ⟨by decide, fun p1 H1 n1 => ⟨zab (by simp), fun p2 H2 n2 => ⟨by decide, fun p3 H3 n3 => ⟨zab (by simp), fun p4 H4 n4 => ⟨by omega, by omega, ?_⟩⟩⟩⟩⟩
 rw [y1l]
 have g04 : Same H H4 := n1.g.trans (n2.g.trans (n3.g.trans n4.g))
 have e1 := (n2.g.trans (n3.g.trans n4.g)) _ _ n1.at'
 have e2 := (n3.g.trans n4.g) _ _ n2.at'
 have e3 := n4.g _ _ n3.at'
 have np : p1 ≠ p2 := zao n1.at' n2.nil
 refine zgt (fun k σ H' => Same H H' ∧ ∃ pr pl rs ls v4, σ = [some (nV wd), some (nV mo), some (.ref pr), some (.ref pl), v4] ∧ H pr = none ∧ H' pr = some (.lst rs) ∧ H' pl = some (.lst ls) ∧ rs.length ≤ 1 + 64 * k ∧ ls.length = 2 ^ (wd * k) ∧ Rows wd k H' rs ∧ Rows wd k H' ls ∧ ∀ v ∈ rs, v ≠ .ref pr)
  ⟨g04, p2, p4, [.ref p1], [.ref p3], none, rfl, n1.g.free n2.nil, e2, n4.at', by simp, by simp, fun v hv => ⟨p1, [], y0o.mp hv, e1, by simp, fun c hc => (nomatch hc)⟩, fun v hv => ⟨p3, [], y0o.mp hv, e3, by simp, fun c hc => (nomatch hc)⟩, fun v hv => by rw [y0o.mp hv]; intro z; exact np (V.ref.inj z)⟩ ?_ ?_
 ·rintro k σ H' hk ⟨g, pr, pl, rs, ls, v4, rfl, hpr, er, el, hrl, hll, R1, R2, hne⟩
  have hpk : 2 ^ (wd * (k + 1)) ≤ 2 ^ 6 := y2f (by decide) (y10 (Nat.mul_le_mul_left wd (show k + 1 ≤ mo by omega)) h6)
  have hmul : ls.length * 2 ^ wd = 2 ^ (wd * (k + 1)) := by rw [hll, ← Nat.pow_add, Nat.mul_add, Nat.mul_one]
  trivial
  refine ⟨pl, ls, wd, k, rfl, el, h3, by rw [hmul]; exact hpk, by omega, R2, fun D ys H5 hD g5 eD hyl RY => ?_⟩
  rw [hmul] at hyl
  refine ⟨D, rfl, _, g5 _ _ er, _, eD, zab (by omega), fun p5 H6 n6 => ?_⟩
  have g6 := g5.trans n6.g
  refine ⟨g.trans g6, D, rfl, (g.trans g5).free n6.nil, _, n6.at', ys, n6.g _ _ eD, by rw [y0j]; omega, hyl, ((R1.same g6).mono (by omega)).app (RY.same n6.g), RY.same n6.g, fun v hv => ?_⟩
  intro z
  subst z
  rcases y1f.mp hv with h | h
  ·obtain ⟨a2, row, e, ea, _⟩ := R1 _ h
   cases e
   exact absurd (g5 _ _ ea) (by rw [n6.nil]; simp)
  ·obtain ⟨a2, row, e, ea, _⟩ := RY _ h
   cases e
   exact absurd ea (by rw [n6.nil]; simp)
 ·rintro σ H' ⟨g, pr, pl, rs, ls, v4, rfl, hpr, er, el, hrl, hll, R1, R2, hne⟩
  simp only [tRet, zbj, zcp]
  exact q pr rs H' hpr g er (by omega) (R1.mono (by omega)) hne
abbrev s_gone : Stmt := top 7
theorem sc_gone : FnScope ["machine", "row", "rooms", "letter"] ["machine", "row"] (defScope s_gone) := ⟨rfl, rfl, rfl, by decide +kernel, rfl, by decide +kernel, by decide +kernel⟩
theorem zqr (T : Txt K mg w tw rw fa cj ca ce co cn) (d : Dfn K mg "gone" s_gone ["machine", "row"]) : Cal P w K mg base 1 "gone" ["machine", "row"] (zj9 K) := by
 refine d.cal sc_gone (fun vs H Q E h => ?_) (fun f cdv A outer s H vs Q E hr h => ?_)
 ·obtain ⟨a, b, m, row, rfl, _⟩ := h
  rfl
 obtain ⟨a, b, m, row, rfl, ⟨b1, c1, rs, ea, eb, pr, ec⟩, ok, hb, hl, h300, q⟩ := h
 refine ⟨_, (zac (zat (i := 2) sc_gone.nd rfl (Or.inl rfl) (zas (pa_c zaf zaa))) (zac (zbo PassesOwn.never rfl (zav K (pv 1)) (zah (i := 3) sc_gone.nd (by rfl) (Or.inl (by rfl))) (zad (zcu (zc1 K PySem.F.plainAttrs_list PySem.F.slot_list_append PySem.F.type_list_append zb0 (pv 2) (pa_c (zan (zak K) (zan (zak K) (zan (zak K) (pv 0) zaf (fun _ _ => rfl)) (zan (zaw K) (pv 2) (pe_un zrs zaf) (fun _ _ => rfl)) (fun _ _ => rfl)) (pv 3) (fun _ _ => rfl)) zaa))))) (zad (zai (pv 2))))), ?_⟩
 refine za0 [some (.ref a), some (.ref b), none, none] rfl ?_
 trivial
 refine ⟨by decide, fun p H1 n1 => ⟨⟨_, n1.g.seq hb⟩, ?_⟩⟩
 refine zca (K := K) (a := b) (xs := row.map nV) (fun i σ H' => Same H H' ∧ (∃ v3, σ = [some (.ref a), some (.ref b), some (.ref p), v3]) ∧ H' p = some (.lst ((m.path 0 (row.take i)).map nV))) ⟨n1.g, ⟨none, rfl⟩, n1.at'⟩ (fun i σ H' _ ⟨g, _⟩ => g.seq hb) ?_ ?_
 ·rintro i y σ H' hy ⟨g, ⟨v3, rfl⟩, ep⟩
  rw [y04] at hy
  obtain ⟨l, el, rfl⟩ := y14.mp hy
  have hll := hl l (y0h el)
  obtain ⟨ini, ei⟩ := m.path_last (row.take i) 0
  have hpl := m.path_len (row.take i) 0
  have hlt := ok.run_lt (row.take i) 0 ok.pos fun x hx => hl x (List.mem_of_mem_take hx)
  obtain ⟨line, e1, e2, e3⟩ := ok.at hlt hll
  obtain ⟨v, ev, a2, rfl, e4⟩ := Paired.at2 pr e1
  have en : m.path 0 (row.take (i + 1)) = ini ++ [m.run 0 (row.take i)] ++ [m.go (m.run 0 (row.take i)) l] := by rw [y1g, el, y21, m.path_snoc, ei]
  have ep' : H' p = some (.lst (ini.map nV ++ [nV (m.run 0 (row.take i))])) := by rw [ep, ei, y0z]; rfl
  have at4 : (line.map nV)[l]? = some (nV (m.go (m.run 0 (row.take i)) l)) := by rw [y04, e2]; rfl
  have hln : (ini.map nV ++ [nV (m.run 0 (row.take i))]).length ≤ 400 := by
   rw [ei, y0j, y19, y0w] at hpl
   rw [y0j, y01, y19]
   omega
  trivial
  refine ⟨.inl ⟨_, .of ep'⟩, _, .of (g _ _ ea), _, zaj (j := 1) rfl, _, .of ep', _, zld _ _, _, rfl, _, _, rfl, .of (g _ _ eb), _, zaj ev, _, rfl, _, .of (g _ _ e4), _, zaj at4, _, ep', small1000 (by omega), ?_⟩
  refine ⟨g.wr n1.nil _, ?_⟩
  rw [zar, en, y0z, y0z]
  rfl
 ·rintro σ H' ⟨g, ⟨v3, rfl⟩, ep⟩
  rw [y01, y0n (y06 _)] at ep
  simp only [tRet, zbj, zcp]
  exact q p H' n1.nil g ep
abbrev s_takes : Stmt := top 8
theorem zp1 : FnScope ["machine", "row"] ["machine", "row"] (defScope s_takes) := ⟨rfl, rfl, rfl, by decide +kernel, rfl, by decide +kernel, by decide +kernel⟩
theorem znl (T : Txt K mg w tw rw fa cj ca ce co cn) (d : Dfn K mg "takes" s_takes ["machine", "row"]) (C_gone : Cal P w K mg base 1 "gone" ["machine", "row"] (zj9 K)) : Cal P w K mg base 2 "takes" ["machine", "row"] (zg9 K) := by
 refine d.cal zp1 (fun vs H Q E h => ?_) (fun f cdv A outer s H vs Q E hr h => ?_)
 ·obtain ⟨a, b, m, row, rfl, _⟩ := h
  rfl
 obtain ⟨a, b, m, row, rfl, rm, ok, hb, hl, h300, q⟩ := h
 obtain ⟨b1, c1, rs, ea, eb, pr, ec⟩ := id rm
 refine ⟨_, (zad (zai (zan (zak K) (zan (zak K) (pv 0) zaf (fun _ _ => rfl)) (zan (zaw K) (zae C_gone hr (by omega) (by rfl) (pa_c (pv 0) (pa_c (pv 1) zaa))) (pe_un zrs zaf) (fun _ _ => rfl)) (fun _ _ => rfl)))), ?_⟩
 refine za0 [some (.ref a), some (.ref b)] rfl ?_
 trivial
 refine ⟨_, .of ea, _, zaj (j := 2) rfl, a, b, m, row, rfl, rm, ok, hb, hl, h300, fun D H' hD g eD => ?_⟩
 obtain ⟨ini, ei⟩ := m.path_last row 0
 have eD' : H' D = some (.lst (ini.map nV ++ [nV (m.run 0 row)])) := by rw [eD, ei, y0z]; rfl
 have hlt := ok.run_lt row 0 ok.pos hl
 have at3 : (m.ends.map V.bl)[m.run 0 row]? = some (.bl (m.fin (m.run 0 row))) := by rw [y04, Mc.fin_at hlt]; rfl
 exact ⟨_, rfl, _, .of eD', _, zld _ _, _, rfl, _, _, rfl, (ec.ts g.tups).sq, _, zaj at3, q H' g⟩
theorem zkt {α : Type} {x : Addr} {v : α} {r : List (Addr × α)} : List.lookup x ((x, v) :: r) = some v := by simp [List.lookup]
theorem zdn {α : Type} {x y : Addr} {v : α} {r : List (Addr × α)} (h : x ≠ y) : List.lookup x ((y, v) :: r) = List.lookup x r := by
 have : (x == y) = false := by simpa using h
 simp [List.lookup, this]
abbrev s_law : Stmt := top 80
theorem sc_law : FnScope ["_law_script", "_law_mixed_here", "_law_some", "_law_frame", "_law_handed", "_law_rows_here", "_law_saying", "_law_machine", "_law_row"] ["_law_script"] (defScope s_law) := ⟨rfl, rfl, rfl, by decide +kernel, rfl, by decide +kernel, by decide +kernel⟩
abbrev sp_law := zss
theorem ok_law {f : Addr} {fd : FuncData} {Pk Pr Pp Pm : Addr} (T : Txt K mg w tw rw fa cj ca ce co cn) (F : Fun K "law" "law" s_law f fd) (n1 : Pp ≠ Pr) (n2 : Pm ≠ Pr) (n3 : Pm ≠ Pp) (n4 : Pk ≠ Pr) (n5 : Pk ≠ Pp) (n6 : Pk ≠ Pm) (C_law_cell_at : Cal P w K mg base 1 "_law_cell_at" ["_law_script", "_law_k"] (zmv K)) (C_law_mixed : Cal P w K mg base 1 "_law_mixed" ["_law_cell"] zgc)
  (C_law_rows : Cal P w K mg base 2 "_law_rows" ["_law_width", "_law_most"] zhb) (C_law_long : Cal P w K mg base 2 "_law_long" ["_law_cells", "_law_frame", "_law_mixed_here"] zj5) (C_law_sayings : Cal P w K mg base 1 "_law_sayings" ["_law_frame"] zha) (C_built : Cal P w K mg base 32 "built" ["saying", "frame"] (zkd K Pr qs_reduced Pp qs_paired Pm qs_met Pk qs_maker))
  (C_takes : Cal P w K mg base 2 "takes" ["machine", "row"] (zg9 K)) (C_law_due : Cal P w K mg base 3 "_law_due" ["_law_saying", "_law_frame", "_law_row"] zkc) : FnOk P w K mg base CX0 33 f fd ["_law_script"] (sp_law K [(Pr, qs_reduced), (Pp, qs_paired), (Pm, qs_met), (Pk, qs_maker)]) := by
 refine F.ok sc_law (fun vs H Q E h => ?_) (fun cdv A outer s H vs Q E hr h => ?_)
 ·obtain ⟨a, ns, rfl, _⟩ := h
  rfl
 obtain ⟨a, ns, rfl, hS, h63, hO, q⟩ := h
 have hu := zff hr 8 (by decide)
 have tr : TabOk H Pr qs_reduced := hO.tab zkt
 have tp : TabOk H Pp qs_paired := hO.tab (by rw [zdn n1]; exact zkt)
 have tm : TabOk H Pm qs_met := hO.tab (by rw [zdn n2, zdn n3]; exact zkt)
 have tk : TabOk H Pk qs_maker := hO.tab (by rw [zdn n4, zdn n5, zdn n6]; exact zkt)
 refine ⟨_, (zac (zat (i := 1) sc_law.nd rfl (Or.inl rfl) (zae C_law_mixed hr (by omega) (by rfl) (pa_c (zae C_law_cell_at hr (by omega) (by rfl) (pa_c (pv 0) (pa_c zaf zaa))) zaa))) (zac (zat (i := 2) sc_law.nd rfl (Or.inl rfl) (zas (pa_c (zas (pa_c zaq (pa_c zaq zaa))) (pa_c (zas (pa_c zaq (pa_c zaq zaa))) (pa_c (zas (pa_c zaq (pa_c zaq zaa))) (pa_c (zas (pa_c zaq (pa_c zaq zaa))) (pa_c (zas (pa_c zaq (pa_c zaq zaa))) (pa_c (zas (pa_c zaq zaa)) (pa_c (zas (pa_c zaq zaa)) (pa_c (zas (pa_c zaq (pa_c zaq (pa_c zaq zaa)))) (pa_c (zas (pa_c zaq (pa_c zaq (pa_c zaq zaa)))) zaa))))))))))) (zac (zat (i := 3) sc_law.nd rfl (Or.inl rfl) (zan (zaw K) (pv 2) (za6 zc2 (pv 1) zaf) (fun _ _ => rfl))) (zac (zat (i := 4) sc_law.nd rfl (Or.inl rfl) (zcc (zfi K) (by rfl) T.b_list boot_list (pa_c (pv 3) zaa))) (zac (zat (i := 5) sc_law.nd rfl (Or.inl rfl) (zae C_law_rows hr (by omega) (by rfl) (pa_c (za1 (zag K) (by rfl) T.b_len boot_len (pa_c (pv 3) zaa)) (pa_c (zan (zaw K) (zas (pa_c zaf (pa_c zaf (pa_c zaf (pa_c zaf zaa))))) (za1 (zag K) (by rfl) T.b_len boot_len (pa_c (pv 3) zaa)) (fun _ _ => rfl)) zaa)))) (zac (zcu (zc1 K PySem.F.plainAttrs_list PySem.F.slot_list_append PySem.F.type_list_append zb0 (pv 5) (pa_c (zae C_law_long hr (by omega) (by rfl) (pa_c (za6 zce (zc0 (zm0 K) (pv 0) (zdj zaf) (zdj zaf)) (zas (pa_c zaf zaa))) (pa_c (pv 3) (pa_c (za6 zdk (pv 1) zaf) zaa)))) zaa))) (zac (zbo PassesOwn.never rfl (zav K (zae C_law_sayings hr (by omega) (by rfl) (pa_c (pv 3) zaa))) (zah (i := 6) sc_law.nd (by rfl) (Or.inl (by rfl))) (zac (zat (i := 7) sc_law.nd rfl (Or.inl rfl) (zae C_built hr (by omega) (by rfl) (pa_c (pv 6) (pa_c (pv 4) zaa)))) (zac (zbo PassesOwn.never rfl (zav K (pv 5)) (zah (i := 8) sc_law.nd (by rfl) (Or.inl (by rfl))) (zad (za8 (zam ztf (zae C_takes hr (by omega) (by rfl) (pa_c (pv 7) (pa_c (pv 8) zaa))) (zae C_law_due hr (by omega) (by rfl) (pa_c (pv 6) (pa_c (pv 3) (pa_c (pv 8) zaa)))) (nomark _)) (zad (zai zd3)) zap))) (zad (za8 (PW.pt (zgk (zam (op_neM hu) (zae C_built hr (by omega) (by rfl) (pa_c (pv 6) (pa_c (pv 4) zaa))) (pv 7) (nomark _)) (zep (zam (ztd K hu) (pv 4) (pv 3) (nomark _))))) (zad (zai zd3)) zap))))) (zad (zai zd3))))))))), ?_⟩
 refine za0 [some (.ref a), none, none, none, none, none, none, none, none] rfl ?_
 trivial
 refine ⟨a, ns, 0, rfl, hS, by decide, fun c0 => ⟨c0, rfl, fun r0 h0 hr0 => ?_⟩⟩
 show _ ≤ _ ∧ _
 refine ⟨zab (by simp), fun p1 H1 n1 => ⟨zab (by simp), fun p2 H2 n2 => ⟨zab (by simp), fun p3 H3 n3 => ⟨zab (by simp), fun p4 H4 n4 => ⟨zab (by simp), fun p5 H5 n5 => ⟨zab (by simp), fun p6 H6 n6 => ⟨zab (by simp), fun p7 H7 n7 => ⟨zab (by simp), fun p8 H8 n8 => ⟨zab (by simp), fun p9 H9 n9 => ⟨zab (by simp), fun p10 H10 n10 => ?_⟩⟩⟩⟩⟩⟩⟩⟩⟩⟩
 obtain ⟨y, hy, my⟩ := zpl (i := r0) (xs := ([.ref p1, .ref p2, .ref p3, .ref p4, .ref p5, .ref p6, .ref p7, .ref p8, .ref p9] : List V)) (n := 9) rfl (by decide)
 have g10 := Same.refl H10
 have g9 := n10.g.trans g10
 have g8 := n9.g.trans g9
 have g7 := n8.g.trans g8
 have g6 := n7.g.trans g7
 have g5 := n6.g.trans g6
 have g4 := n5.g.trans g5
 have g3 := n4.g.trans g4
 have g2 := n3.g.trans g3
 have g1 := n2.g.trans g2
 have g0 := n1.g.trans g1
 obtain ⟨pb, tl, rfl, eb, ht⟩ : ∃ pb tl, y = .ref pb ∧ H10 pb = some (.lst (tl.map V.str)) ∧ tl ∈ frames10 := by
  simp only [y05, y0a, or_false] at my
  rcases my with rfl | rfl | rfl | rfl | rfl | rfl | rfl | rfl | rfl
  ·exact ⟨p1, ["x", "X"], rfl, g1 _ _ n1.at', by decide⟩
  ·exact ⟨p2, ["X", "x"], rfl, g2 _ _ n2.at', by decide⟩
  ·exact ⟨p3, ["x", "y"], rfl, g3 _ _ n3.at', by decide⟩
  ·exact ⟨p4, ["X", "Y"], rfl, g4 _ _ n4.at', by decide⟩
  ·exact ⟨p5, ["y", "x"], rfl, g5 _ _ n5.at', by decide⟩
  ·exact ⟨p6, ["x"], rfl, g6 _ _ n6.at', by decide⟩
  ·exact ⟨p7, ["X"], rfl, g7 _ _ n7.at', by decide⟩
  ·exact ⟨p8, ["x", "Y", "X"], rfl, g8 _ _ n8.at', by decide⟩
  ·exact ⟨p9, ["x", "X", "y"], rfl, g9 _ _ n9.at', by decide⟩
 obtain ⟨⟨hl1, hl3⟩, fo, hz4, hfr, hP⟩ := fr10 ht
 refine ⟨r0, rfl, by decide, _, n10.lst, _, hy, pb, rfl, _, .inl (.of eb), fun ph H11 n11 => ?_⟩
 have g011 : Same H H11 := g0.trans n11.g
 have e11 := n11.g _ _ eb
 obtain ⟨mo, hmo, hm6, hm3⟩ : ∃ mo : Nat, ([V.int 3, V.int 3, V.int 3, V.int 2] : List V)[tl.length]? = some (nV mo) ∧ tl.length * mo ≤ 6 ∧ mo ≤ 3 := by
  rcases (show tl.length = 1 ∨ tl.length = 2 ∨ tl.length = 3 by omega) with e | e | e <;> rw [e]
  ·exact ⟨3, rfl, by decide, by decide⟩
  ·exact ⟨3, rfl, by decide, by decide⟩
  ·exact ⟨2, rfl, by decide, by decide⟩
 refine ⟨pb, rfl, _, .inl (.of e11), zab (by simp), fun p12 H12 n12 => ⟨pb, rfl, _, .inl (.of (n12.g _ _ e11)), _, n12.lst, _, by rw [y01]; exact zaj hmo, ?_⟩⟩
 have e12 := n12.g _ _ e11
 have eh12 := n12.g _ _ n11.at'
 have g012 := g011.trans n12.g
 refine ⟨tl.length, mo, by rw [y01], hl3, hm6, hm3, fun D ys HD hD gD eD hyl R hne => ⟨.inl ⟨_, .of eD⟩, _, (g012.trans gD).seq hS, fun p14 H14 n14 => ⟨zab (by simp), fun p15 H15 n15 => ⟨_, n15.g _ _ n14.at', _, n15.at', ?_⟩⟩⟩⟩
 rw [zrl] at n14 ⊢
 have lm := zrm ns (some 1) (some 31)
 have lm30 : (cutL ns (some 1) (some 31)).length ≤ 30 := by
  unfold cutL
  rw [show (1 : Int) = ((1 : Nat) : Int) from rfl, show (31 : Int) = ((31 : Nat) : Int) from rfl, HT.sIx_nat, HT.sIx_nat, y0w]
  omega
 generalize cutL ns (some 1) (some 31) = cells at n14 lm lm30 ⊢
 refine ⟨zab (by rw [y01]; simp only [y0i, y0v]; omega), fun p16 H16 n16 => ⟨r0, rfl, ⟨by decide, by decide⟩, ?_⟩⟩
 have g16 : Same HD H16 := n14.g.trans (n15.g.trans n16.g)
 have e16 : H16 p16 = some (.lst ((cells ++ [2]).map V.int)) := by rw [n16.at', y0z]; rfl
 refine ⟨p16, pb, cells ++ [2], tl, _, rfl, e16, by simp, by simp only [y0j, y0i, y0v]; omega, (gD.trans g16) _ _ e12, ht, by omega, fun DL rowL HL hDL gL eDL hlr hcL FL => ?_⟩
 have gDL := g16.trans gL
 have nDL : DL ≠ D := (zao (g16 _ _ eD) hDL).symm
 refine ⟨D, rfl, _, gDL _ _ eD, small1000 (by omega), ?_⟩
 have gA : Same H12 (upd HL D (.lst (ys ++ [.ref DL]))) := (gD.trans gDL).wr hD _
 have eDA : upd HL D (.lst (ys ++ [.ref DL])) D = some (.lst (ys ++ [.ref DL])) := zar
 have RA : Rows tl.length 40 (upd HL D (.lst (ys ++ [.ref DL]))) (ys ++ [.ref DL]) := fun v hv => by
  rcases y1f.mp hv with h | h
  ·obtain ⟨a1, row, rfl, ea, h1, h2⟩ := R v h
   exact ⟨a1, row, rfl, by rw [zal fun z => hne _ h (by rw [z])]; exact gDL _ _ ea, by omega, h2⟩
  ·rw [y0o.mp h]
   exact ⟨DL, rowL, rfl, by rw [zal nDL]; exact eDL, by rw [hlr]; simp only [y0j, y0i, y0v]; omega, hcL⟩
 generalize upd HL D (.lst (ys ++ [.ref DL])) = HA at gA eDA RA
 generalize ys ++ [V.ref DL] = rws at eDA RA
 have g0A := g012.trans gA
 have eb0 := gA _ _ e12
 have eh0 := gA _ _ eh12
 refine ⟨pb, tl, rfl, eb0, ht, fun DS rs HS gS eDS hlS S => ⟨DS, rfl, ⟨_, .of eDS⟩, ?_⟩⟩
 refine zca (K := K) (a := DS) (xs := rs) (fun k σ H' => Same HS H' ∧ ∃ v6 v7 v8, σ = [some (.ref a), some (.int r0), some (.ref p10), some (.ref pb), some (.ref ph), some (.ref D), v6, v7, v8])
  ⟨Same.refl _, none, none, none, rfl⟩ (fun k σ H' _ z => .of (z.1 _ _ eDS)) ?_ ?_
 ·rintro k y σ H' hy' ⟨g, v6, v7, v8, rfl⟩
  obtain ⟨a2, wd, n, m, rfl, ea, hn, hm, ok⟩ := S y (y0h hy')
  have B := bare10 ht hn hm ok
  have hbw : wd ∈ bareWords := by
   have := B.hw
   simp only [SM.rowWords, y05, y0a, or_false] at this
   rcases this with rfl | rfl | rfl | rfl | rfl <;> decide
  have gg := gS.trans g
  have g0' := g0A.trans gg
  have rp : Rep H' (.ref a2) (.bare wd n m) := .bare hbw (g _ _ ea)
  trivial
  refine ⟨.ref a2, ph, tl, wd, n, m, rfl, tr.same g0', tp.same g0', tm.same g0', tk.same g0', rp, gg _ _ eh0, ht, hn, hm, ok, fun pM M H1 gM rM BM => ⟨⟨_, .of ((gg.trans gM) _ _ eDA)⟩, ?_⟩⟩
  refine zca (K := K) (a := D) (xs := rws) (fun k σ H'' => Same H1 H'' ∧ ∃ v8, σ = [some (.ref a), some (.int r0), some (.ref p10), some (.ref pb), some (.ref ph), some (.ref D), some (.ref a2), some (.ref pM), v8])
   ⟨Same.refl _, _, rfl⟩ (fun k σ H' _ z => .of (z.1 _ _ ((gg.trans gM) _ _ eDA))) ?_ ?_
  ·rintro j y σ H2 hy2 ⟨g2, v8', rfl⟩
   obtain ⟨ar, row, rfl, er, hr1, hr2⟩ := RA y (y0h hy2)
   have g12' := (gg.trans gM).trans g2
   trivial
   refine ⟨pM, ar, M, row, rfl, RepM.k (rM.same g2), BM.ok, .of (g12' _ _ er), (fun l hl => by rw [BM.w]; exact hr2 l hl), by omega, fun H3 g3 => ?_⟩
   have g03 := g12'.trans g3
   refine ⟨.ref a2, pb, ar, wd, n, m, tl, row, rfl, rp.same (gM.trans (g2.trans g3)), hn, hm, ok, g03 _ _ eb0, ht, g03 _ _ er, by omega, fun H4 g4 => ⟨rfl, ?_⟩⟩
   rw [zpj ht hn hm ok BM hr2, decide_eq_true rfl]
   exact iteF (g2.trans (g3.trans g4))
  ·rintro σ H2 ⟨g2, v8', rfl⟩
   trivial
   have g02 := g0'.trans (gM.trans g2)
   refine ⟨.ref a2, ph, tl, wd, n, m, rfl, tr.same g02, tp.same g02, tm.same g02, tk.same g02, rp.same (gM.trans g2), (gg.trans (gM.trans g2)) _ _ eh0, ht, hn, hm, ok, fun pM2 M2 H3 g3 rM2 BM2 => ?_⟩
   obtain rfl := zpi BM BM2
   have g13 := gM.trans (g2.trans g3)
   refine ⟨false, zto rM2 (rM.same (g2.trans g3)), iteF ⟨tl, .of ((gg.trans g13) _ _ eh0), tl, .of ((gg.trans g13) _ _ eb0), ?_⟩⟩
   rw [decide_eq_true rfl]
   exact iteF (g.trans g13)
 ·rintro σ H' ⟨g, v6, v7, v8, rfl⟩
  simp only [tC, tRet]
  exact q H'
end
section
variable {P : Program} {w : World} {K : Frag} {mg : T1} {base : Heap} {f : Addr} {fd : FuncData} {tw rw fa cj ca ce co cn : Addr}
theorem all (T : Txt K mg w tw rw fa cj ca ce co cn) (d_gone : Dfn K mg "gone" s_gone ["machine", "row"]) (d_takes : Dfn K mg "takes" s_takes ["machine", "row"]) (d_reached : Dfn K mg "reached" s_reached ["machine"]) (d_renamed : Dfn K mg "renamed" s_renamed ["rooms", "numbers"]) (d_picked : Dfn K mg "picked" s_picked ["machine", "rooms", "numbers"]) (d_numbered : Dfn K mg "numbered" s_numbered ["marks"]) (d_finer_sorts : Dfn K mg "finer_sorts" s_finer_sorts ["machine", "sorts"]) (d_sorts_by : Dfn K mg "sorts_by" s_sorts_by ["ends", "part_further"]) {c_reduced t_reduced : Addr} (d_reduced : DfnC K mg "reduced" s_reduced ["machine"] c_reduced t_reduced) (d_explored : Dfn K mg "explored" s_explored ["tracks", "first", "comings", "is_end"]) {c_paired t_paired : Addr} (d_paired : DfnC K mg "paired" s_paired ["one", "other", "is_end"] c_paired t_paired) {c_met t_met : Addr} (d_met : DfnC K mg "met" s_met ["one", "other"] c_met t_met) (d_letter_of : Dfn K mg "letter_of" s_letter_of ["letter", "tracks"]) (d_spread : Dfn K mg "spread" s_spread ["machine", "tracks", "width"]) {c_maker t_maker : Addr} (d_maker : DfnC K mg "maker" s_maker ["bare_of", "fitting_of", "met", "joined", "flipped", "dropped"] c_maker t_maker) (d_is_letter_with_figures : Dfn K mg "is_letter_with_figures" s_is_letter_with_figures ["thing", "letters"]) (d_is_place : Dfn K mg "is_place" s_is_place ["thing"]) (d_is_set : Dfn K mg "is_set" s_is_set ["thing"]) (d_is_name : Dfn K mg "is_name" s_is_name ["thing"]) (d_is_frame : Dfn K mg "is_frame" s_is_frame ["thing"]) (d_is_of_sort : Dfn K mg "is_of_sort" s_is_of_sort ["thing", "sort", "deepest"]) (d_has_form : Dfn K mg "has_form" s_has_form ["thing", "deepest"]) (d_inner_sayings : Dfn K mg "inner_sayings" s_inner_sayings ["saying"]) (d_is_bare : Dfn K mg "is_bare" s_is_bare ["saying"]) (d_count_parts : Dfn K mg "count_parts" s_count_parts ["saying"]) (d_is_any_saying : Dfn K mg "is_any_saying" s_is_any_saying ["thing"]) (d_is_let : Dfn K mg "is_let" s_is_let ["saying", "known", "barred", "most"]) (d_is_saying : Dfn K mg "is_saying" s_is_saying ["thing", "frame"]) (d_check_frame : Dfn K mg "check_frame" s_check_frame ["frame"]) (d_check_let : Dfn K mg "check_let" s_check_let ["saying", "frame"]) (d_fitting_of : Dfn K mg "fitting_of" s_fitting_of ["frame"]) (d_rule_of : Dfn K mg "rule_of" s_rule_of ["word"]) (d_bare_of : Dfn K mg "bare_of" s_bare_of ["saying", "frame"]) (d_built : Dfn K mg "built" s_built ["saying", "frame"]) (d_law_cell_at : Dfn K mg "_law_cell_at" s_law_cell_at ["_law_script", "_law_k"]) (d_law_mixed : Dfn K mg "_law_mixed" s_law_mixed ["_law_cell"]) (d_law_sayings : Dfn K mg "_law_sayings" s_law_sayings ["_law_frame"]) (d_law_with : Dfn K mg "_law_with" s_law_with ["_law_row", "_law_k"]) (d_law_fits : Dfn K mg "_law_fits" s_law_fits ["_law_frame", "_law_row"]) (d_law_due : Dfn K mg "_law_due" s_law_due ["_law_saying", "_law_frame", "_law_row"]) (d_law_longer : Dfn K mg "_law_longer" s_law_longer ["_law_rows_here", "_law_width"]) (d_law_rows : Dfn K mg "_law_rows" s_law_rows ["_law_width", "_law_most"]) (d_law_long : Dfn K mg "_law_long" s_law_long ["_law_cells", "_law_frame", "_law_mixed_here"]) (n1 : t_paired ≠ t_reduced) (n2 : t_met ≠ t_reduced) (n3 : t_met ≠ t_paired) (n4 : t_maker ≠ t_reduced) (n5 : t_maker ≠ t_paired) (n6 : t_maker ≠ t_met) (kb : BltK base mg) (F : Fun K "law" "law" s_law f fd) :
  FnOk P w K mg base CX0 33 f fd ["_law_script"] (sp_law K [(t_reduced, qs_reduced), (t_paired, qs_paired), (t_met, qs_met), (t_maker, qs_maker)]) := by
 have c1 := zlw (P := P) (w := w) (base := base) T d_reached
 have c2 := zlu (P := P) (w := w) (base := base) T d_renamed
 have c3 := znp T d_picked c2
 have c4 := zi4 (P := P) (w := w) (base := base) T d_numbered
 have c5 := zqu T d_finer_sorts c2 c4
 have c6 := zls T d_sorts_by c4
 have c7 := zlv T d_reduced kb c1 c3 c5 c6
 have e1 := zi3 (P := P) (w := w) (base := base) T d_renamed
 have e2 := zi6 T d_explored e1 c7
 have e3 := zlx T d_paired kb e2
 have e4 := ztj T d_met kb e3
 have a1 := ok_lf (P := P) (w := w) (base := base) T d_is_letter_with_figures
 have a2 := zqm T d_is_place a1
 have a3 := ok_set T d_is_set a1
 have a4 := ok_nm T d_is_name a2 a3
 have a5 := zqs T d_is_frame a4
 have s6 := zle T d_is_of_sort d_has_form a2 a3 a4 12
 have s7 := zqq (P := P) (w := w) (base := base) T d_inner_sayings
 have s8 := zns T d_is_bare s7
 have s9 := zin T d_count_parts s7 13
 have s10 := znw T d_is_any_saying s6.1 s9
 have s11 := zpo (bw := treeWords) T d_is_let s7 s8 13
 have s12 := zqp T d_is_saying a5 s10 s11
 have b1 := zhx (P := P) (w := w) (base := base) T d_renamed
 have b2 := zi5 (P := P) (w := w) (base := base) T d_letter_of
 have b3 := zlr T d_spread b2 b1
 have b4 := zqt T d_fitting_of a2 b3 e4
 have k1 := zqr (P := P) (w := w) (base := base) T d_gone
 have k2 := znl T d_takes k1
 have r1 := zti (P := P) (w := w) (base := base) T d_rule_of
 have r2 := znv T d_bare_of r1 b3 b4 e4
 obtain ⟨fb, rF, mb⟩ := r2.fn
 obtain ⟨ff, _, mf⟩ := b4.fn
 obtain ⟨fm, _, mm⟩ := e4.fn
 have h1 := zqo T d_maker kb rF
 have h2 := zi7 T d_check_frame a5
 have h3 := zhy T d_check_let h2 s12
 have h4 := zqx T d_built h3 mb mf mm h1
 have l1 := ztk (P := P) (w := w) (base := base) T d_law_cell_at
 have l2 := zqn (P := P) (w := w) (base := base) T d_law_mixed
 have l3 := znn (P := P) (w := w) (base := base) T d_law_sayings
 have l4 := znk (P := P) (w := w) (base := base) T d_law_with
 have l5 := znu T d_law_fits l4
 have l6 := zqv T d_law_due l5 l4
 have l7 := znq (P := P) (w := w) (base := base) T d_law_longer
 have l8 := zno T d_law_rows l7
 have l9 := znr T d_law_long l2
 exact ok_law T F n1 n2 n3 n4 n5 n6 l1 l2 l8 l9 l3 h4 k2 l6
end
end K32
open PySem PySem.W PyProof.Rows
set_option hygiene false in
local macro_rules
| `(tactic| exact_mod_cast $t) => `(tactic| (dsimp only [L2.KOf]; refine' L2.dfn_mk KX G ?a ?l ?c ?k (fun _ _ _ _ _ _ us hl => match us, hl with | $t, _ => rfl); ((case a => k_is); (case l => k_is); (case c => k_is); (case k => k_is))))
namespace PySem.W.Fast
theorem tw8710297448838517382 : True := trivial
theorem tw18392763991467891303 : True := trivial
theorem tw3496554116619116534 : True := trivial
theorem tw10463822669906795970 : True := trivial
theorem tw15871423768879156030 : True := trivial
theorem tw814247510386234865 : True := trivial
theorem tw18292109966673984835 : True := trivial
theorem tw800221848439616217 : True := trivial
theorem tw10703617422532492478 : True := trivial
theorem tw10106306805004173531 : True := trivial
theorem tw13027992240296890616 : True := trivial
theorem tw10838908586145711354 : True := trivial
theorem tw13549459947310119617 : True := trivial
theorem tw2173729598926313318 : True := trivial
theorem tw16178509852172083261 : True := trivial
theorem tw15730211820697964430 : True := trivial
theorem tw14116244520590814911 : True := trivial
theorem tw10840163539374840265 : True := trivial
theorem tw3920326038679044696 : True := trivial
theorem tw4788384808988785338 : True := trivial
theorem tw12423585244777354019 : True := trivial
theorem tw10139348755152682932 : True := trivial
end PySem.W.Fast
set_option maxRecDepth 100000 in
set_option maxHeartbeats 0 in
theorem PySem.Challenge.cw_setsays_k32_bare_machines_holds : PySem.Challenge.rw_setsays_k32_bare_machines.Holds := by
 w_on; o_law; k_head; (case hw => w_witness2)
 k_fill
 refine L2.walk_ofT (l := PySem.Challenge.rw_setsays_k32_bare_machines) (n := 63) (k := 33) (x := "_law_script") (CX := L2.CX0) (sp := K32.sp_law) rfl (by decide) rfl ⟨rfl, by decide, by decide⟩ (fun w h Y => PySem.W.km_in_of Y) ?F (fun _ _ _ a ns hl hO hS => ⟨a, ns, rfl, hS, hl, hO, fun _ => rfl⟩) fun _ _ _ _ z => z
 case F =>
  intro w mg fa h KX G hmg
  obtain ⟨tw, g_TELLING_WORDS, t_TELLING_WORDS⟩ : ∃ q, L2.GlV mg "TELLING_WORDS" (.ref q) ∧ ∀ H, L2.SqT (L2.KOf KX) H q [.str "some", .str "all"] := by
   dsimp only [L2.KOf]
   refine' L2.glt_mk KX G ?a ?l ?z ?r
   (case a => k_is); (case l => k_is); (case z => decide); (case r => exact .cons ⟨_, rfl⟩ (.cons ⟨_, rfl⟩ (.nil)))
  obtain ⟨rw, g_TREE_WORDS, t_TREE_WORDS⟩ : ∃ q, L2.GlV mg "TREE_WORDS" (.ref q) ∧ ∀ H, L2.SqT (L2.KOf KX) H q [.str "left", .str "right", .str "above"] := by
   dsimp only [L2.KOf]
   refine' L2.glt_mk KX G ?a ?l ?z ?r
   (case a => k_is); (case l => k_is); (case z => decide); (case r => exact .cons ⟨_, rfl⟩ (.cons ⟨_, rfl⟩ (.cons ⟨_, rfl⟩ (.nil))))
  obtain ⟨ff, g_FORMS, f_FORMS⟩ : ∃ q, L2.GlV mg "FORMS" (.ref q) ∧ SS.Forms (L2.KOf KX) w q := by
   dsimp only [L2.KOf]
   refine' SS.forms_mk KX G ?a ?lo ?l ?hk ?he
   (case a => k_is); (case lo => decide); (case l => k_is)
   (case hk => exact ⟨⟨_, _, rfl, rfl⟩, ⟨⟨_, _, rfl, rfl⟩, ⟨⟨_, _, rfl, rfl⟩, ⟨⟨_, _, rfl, rfl⟩, ⟨⟨_, _, rfl, rfl⟩, ⟨⟨_, _, rfl, rfl⟩, ⟨⟨_, _, rfl, rfl⟩, ⟨⟨_, _, rfl, rfl⟩, ⟨⟨_, _, rfl, rfl⟩, ⟨⟨_, _, rfl, rfl⟩, ⟨⟨_, _, rfl, rfl⟩, ⟨⟨_, _, rfl, rfl⟩, ⟨⟨_, _, rfl, rfl⟩, trivial⟩⟩⟩⟩⟩⟩⟩⟩⟩⟩⟩⟩⟩)
   refine' .cons ⟨⟨_, rfl⟩, _, rfl, SS.sqt_mk ?l0 ?z0 ?r0⟩ (.cons ⟨⟨_, rfl⟩, _, rfl, SS.sqt_mk ?l1 ?z1 ?r1⟩ (.cons ⟨⟨_, rfl⟩, _, rfl, SS.sqt_mk ?l2 ?z2 ?r2⟩ (.cons ⟨⟨_, rfl⟩, _, rfl, SS.sqt_mk ?l3 ?z3 ?r3⟩ (.cons ⟨⟨_, rfl⟩, _, rfl, SS.sqt_mk ?l4 ?z4 ?r4⟩ (.cons ⟨⟨_, rfl⟩, _, rfl, SS.sqt_mk ?l5 ?z5 ?r5⟩ (.cons ⟨⟨_, rfl⟩, _, rfl, SS.sqt_mk ?l6 ?z6 ?r6⟩ (.cons ⟨⟨_, rfl⟩, _, rfl, SS.sqt_mk ?l7 ?z7 ?r7⟩ (.cons ⟨⟨_, rfl⟩, _, rfl, SS.sqt_mk ?l8 ?z8 ?r8⟩ (.cons ⟨⟨_, rfl⟩, _, rfl, SS.sqt_mk ?l9 ?z9 ?r9⟩ (.cons ⟨⟨_, rfl⟩, _, rfl, SS.sqt_mk ?l10 ?z10 ?r10⟩ (.cons ⟨⟨_, rfl⟩, _, rfl, SS.sqt_mk ?l11 ?z11 ?r11⟩ (.cons ⟨⟨_, rfl⟩, _, rfl, SS.sqt_mk ?l12 ?z12 ?r12⟩ (.nil)))))))))))))
   (case l0 => k_is); (case z0 => decide); (case r0 => exact .cons ⟨_, rfl⟩ (.cons ⟨_, rfl⟩ (.nil)))
   (case l1 => k_is); (case z1 => decide); (case r1 => exact .cons ⟨_, rfl⟩ (.cons ⟨_, rfl⟩ (.nil)))
   (case l2 => k_is); (case z2 => decide); (case r2 => exact .cons ⟨_, rfl⟩ (.cons ⟨_, rfl⟩ (.nil)))
   (case l3 => k_is); (case z3 => decide); (case r3 => exact .cons ⟨_, rfl⟩ (.cons ⟨_, rfl⟩ (.nil)))
   (case l4 => k_is); (case z4 => decide); (case r4 => exact .cons ⟨_, rfl⟩ (.cons ⟨_, rfl⟩ (.nil)))
   (case l5 => k_is); (case z5 => decide); (case r5 => exact .cons ⟨_, rfl⟩ (.cons ⟨_, rfl⟩ (.nil)))
   (case l6 => k_is); (case z6 => decide); (case r6 => exact .cons ⟨_, rfl⟩ (.cons ⟨_, rfl⟩ (.nil)))
   (case l7 => k_is); (case z7 => decide); (case r7 => exact .cons ⟨_, rfl⟩ (.cons ⟨_, rfl⟩ (.nil)))
   (case l8 => k_is); (case z8 => decide); (case r8 => exact .cons ⟨_, rfl⟩ (.nil))
   (case l9 => k_is); (case z9 => decide); (case r9 => exact .cons ⟨_, rfl⟩ (.cons ⟨_, rfl⟩ (.nil)))
   (case l10 => k_is); (case z10 => decide); (case r10 => exact .cons ⟨_, rfl⟩ (.cons ⟨_, rfl⟩ (.nil)))
   (case l11 => k_is); (case z11 => decide); (case r11 => exact .cons ⟨_, rfl⟩ (.cons ⟨_, rfl⟩ (.nil)))
   (case l12 => k_is); (case z12 => decide); (case r12 => exact .cons ⟨_, rfl⟩ (.cons ⟨_, rfl⟩ (.nil)))
  obtain ⟨cj, g_JUST_ONCE, c_JUST_ONCE⟩ : ∃ q, L2.GlV mg "JUST_ONCE" (.ref q) ∧ SM.CMach (L2.KOf KX) q SM.justM := by
   dsimp only [L2.KOf]
   refine' SM.cm_mk (ls := [_, _, _]) KX G ?cj_a (SS.sqt_mk ?cj_lp ?cj_zp ?cj_rp) (SS.sqt_mk ?cj_lb ?cj_zb ?cj_rb) (.cons (SS.sqt_mk ?cj_l0 ?cj_z0 ?cj_r0) (.cons (SS.sqt_mk ?cj_l1 ?cj_z1 ?cj_r1) (.cons (SS.sqt_mk ?cj_l2 ?cj_z2 ?cj_r2) (.nil)))) (SS.sqt_mk ?cj_lc ?cj_zc ?cj_rc)
   (case cj_a => k_is); (case cj_lp => k_is); (case cj_rp => exact .cons ⟨_, rfl⟩ (.cons rfl (.cons rfl (.nil)))); (case cj_lb => k_is); (case cj_rb => exact .cons rfl (.cons rfl (.cons rfl (.nil))))
   (case cj_l0 => k_is); (case cj_r0 => exact .cons ⟨_, rfl⟩ (.cons ⟨_, rfl⟩ (.nil)))
   (case cj_l1 => k_is); (case cj_r1 => exact .cons ⟨_, rfl⟩ (.cons ⟨_, rfl⟩ (.nil)))
   (case cj_l2 => k_is); (case cj_r2 => exact .cons ⟨_, rfl⟩ (.cons ⟨_, rfl⟩ (.nil)))
   (case cj_lc => k_is); (case cj_rc => exact .cons rfl (.cons rfl (.cons rfl (.nil))))
   all_goals decide
  obtain ⟨ca, g_ANY_ROW, c_ANY_ROW⟩ : ∃ q, L2.GlV mg "ANY_ROW" (.ref q) ∧ SM.CMach (L2.KOf KX) q SM.anyM := by
   dsimp only [L2.KOf]
   refine' SM.cm_mk (ls := [_]) KX G ?ca_a (SS.sqt_mk ?ca_lp ?ca_zp ?ca_rp) (SS.sqt_mk ?ca_lb ?ca_zb ?ca_rb) (.cons (SS.sqt_mk ?ca_l0 ?ca_z0 ?ca_r0) (.nil)) (SS.sqt_mk ?ca_lc ?ca_zc ?ca_rc)
   (case ca_a => k_is); (case ca_lp => k_is); (case ca_rp => exact .cons ⟨_, rfl⟩ (.cons rfl (.cons rfl (.nil)))); (case ca_lb => k_is); (case ca_rb => exact .cons rfl (.nil))
   (case ca_l0 => k_is); (case ca_r0 => exact .cons ⟨_, rfl⟩ (.nil))
   (case ca_lc => k_is); (case ca_rc => exact .cons rfl (.nil))
   all_goals decide
  obtain ⟨ce, g_EACH_IN, c_EACH_IN⟩ : ∃ q, L2.GlV mg "EACH_IN" (.ref q) ∧ SM.CMach (L2.KOf KX) q SM.eachM := by
   dsimp only [L2.KOf]
   refine' SM.cm_mk (ls := [_, _]) KX G ?ce_a (SS.sqt_mk ?ce_lp ?ce_zp ?ce_rp) (SS.sqt_mk ?ce_lb ?ce_zb ?ce_rb) (.cons (SS.sqt_mk ?ce_l0 ?ce_z0 ?ce_r0) (.cons (SS.sqt_mk ?ce_l1 ?ce_z1 ?ce_r1) (.nil))) (SS.sqt_mk ?ce_lc ?ce_zc ?ce_rc)
   (case ce_a => k_is); (case ce_lp => k_is); (case ce_rp => exact .cons ⟨_, rfl⟩ (.cons rfl (.cons rfl (.nil)))); (case ce_lb => k_is); (case ce_rb => exact .cons rfl (.cons rfl (.nil)))
   (case ce_l0 => k_is); (case ce_r0 => exact .cons ⟨_, rfl⟩ (.cons ⟨_, rfl⟩ (.cons ⟨_, rfl⟩ (.cons ⟨_, rfl⟩ (.nil)))))
   (case ce_l1 => k_is); (case ce_r1 => exact .cons ⟨_, rfl⟩ (.cons ⟨_, rfl⟩ (.cons ⟨_, rfl⟩ (.cons ⟨_, rfl⟩ (.nil)))))
   (case ce_lc => k_is); (case ce_rc => exact .cons rfl (.cons rfl (.nil)))
   all_goals decide
  obtain ⟨co, g_COMES_AHEAD, c_COMES_AHEAD⟩ : ∃ q, L2.GlV mg "COMES_AHEAD" (.ref q) ∧ SM.CMach (L2.KOf KX) q SM.aheadM := by
   dsimp only [L2.KOf]
   refine' SM.cm_mk (ls := [_, _, _]) KX G ?co_a (SS.sqt_mk ?co_lp ?co_zp ?co_rp) (SS.sqt_mk ?co_lb ?co_zb ?co_rb) (.cons (SS.sqt_mk ?co_l0 ?co_z0 ?co_r0) (.cons (SS.sqt_mk ?co_l1 ?co_z1 ?co_r1) (.cons (SS.sqt_mk ?co_l2 ?co_z2 ?co_r2) (.nil)))) (SS.sqt_mk ?co_lc ?co_zc ?co_rc)
   (case co_a => k_is); (case co_lp => k_is); (case co_rp => exact .cons ⟨_, rfl⟩ (.cons rfl (.cons rfl (.nil)))); (case co_lb => k_is); (case co_rb => exact .cons rfl (.cons rfl (.cons rfl (.nil))))
   (case co_l0 => k_is); (case co_r0 => exact .cons ⟨_, rfl⟩ (.cons ⟨_, rfl⟩ (.cons ⟨_, rfl⟩ (.cons ⟨_, rfl⟩ (.nil)))))
   (case co_l1 => k_is); (case co_r1 => exact .cons ⟨_, rfl⟩ (.cons ⟨_, rfl⟩ (.cons ⟨_, rfl⟩ (.cons ⟨_, rfl⟩ (.nil)))))
   (case co_l2 => k_is); (case co_r2 => exact .cons ⟨_, rfl⟩ (.cons ⟨_, rfl⟩ (.cons ⟨_, rfl⟩ (.cons ⟨_, rfl⟩ (.nil)))))
   (case co_lc => k_is); (case co_rc => exact .cons rfl (.cons rfl (.cons rfl (.nil))))
   all_goals decide
  obtain ⟨cn, g_COMES_NEXT, c_COMES_NEXT⟩ : ∃ q, L2.GlV mg "COMES_NEXT" (.ref q) ∧ SM.CMach (L2.KOf KX) q SM.nextM := by
   dsimp only [L2.KOf]
   refine' SM.cm_mk (ls := [_, _, _, _]) KX G ?cn_a (SS.sqt_mk ?cn_lp ?cn_zp ?cn_rp) (SS.sqt_mk ?cn_lb ?cn_zb ?cn_rb) (.cons (SS.sqt_mk ?cn_l0 ?cn_z0 ?cn_r0) (.cons (SS.sqt_mk ?cn_l1 ?cn_z1 ?cn_r1) (.cons (SS.sqt_mk ?cn_l2 ?cn_z2 ?cn_r2) (.cons (SS.sqt_mk ?cn_l3 ?cn_z3 ?cn_r3) (.nil))))) (SS.sqt_mk ?cn_lc ?cn_zc ?cn_rc)
   (case cn_a => k_is); (case cn_lp => k_is); (case cn_rp => exact .cons ⟨_, rfl⟩ (.cons rfl (.cons rfl (.nil)))); (case cn_lb => k_is); (case cn_rb => exact .cons rfl (.cons rfl (.cons rfl (.cons rfl (.nil)))))
   (case cn_l0 => k_is); (case cn_r0 => exact .cons ⟨_, rfl⟩ (.cons ⟨_, rfl⟩ (.cons ⟨_, rfl⟩ (.cons ⟨_, rfl⟩ (.nil)))))
   (case cn_l1 => k_is); (case cn_r1 => exact .cons ⟨_, rfl⟩ (.cons ⟨_, rfl⟩ (.cons ⟨_, rfl⟩ (.cons ⟨_, rfl⟩ (.nil)))))
   (case cn_l2 => k_is); (case cn_r2 => exact .cons ⟨_, rfl⟩ (.cons ⟨_, rfl⟩ (.cons ⟨_, rfl⟩ (.cons ⟨_, rfl⟩ (.nil)))))
   (case cn_l3 => k_is); (case cn_r3 => exact .cons ⟨_, rfl⟩ (.cons ⟨_, rfl⟩ (.cons ⟨_, rfl⟩ (.cons ⟨_, rfl⟩ (.nil)))))
   (case cn_lc => k_is); (case cn_rc => exact .cons rfl (.cons rfl (.cons rfl (.cons rfl (.nil)))))
   all_goals decide
  have T : K32.Txt (L2.KOf KX) mg w tw rw ff cj ca ce co cn := by
   refine' ⟨PySem.W.mg_none_of KX G ?t0, PySem.W.mg_none_of KX G ?t1, PySem.W.mg_none_of KX G ?t2, PySem.W.mg_none_of KX G ?t3, PySem.W.mg_none_of KX G ?t4, PySem.W.mg_none_of KX G ?t5, PySem.W.mg_none_of KX G ?t6, PySem.W.mg_none_of KX G ?t7, PySem.W.mg_none_of KX G ?t8, PySem.W.mg_none_of KX G ?t9, PySem.W.mg_none_of KX G ?t10, PySem.W.mg_none_of KX G ?t11, PySem.W.mg_none_of KX G ?t12, PySem.W.mg_none_of KX G ?t13, PySem.W.mg_none_of KX G ?t14, L2.glv_mk KX G ?t15 ?r15, L2.glv_mk KX G ?t16 ?r16, L2.glv_mk KX G ?t17 ?r17, L2.glv_mk KX G ?t18 ?r18, L2.glv_mk KX G ?t19 ?r19, L2.glv_mk KX G ?t20 ?r20, L2.glv_mk KX G ?t21 ?r21, L2.glv_mk KX G ?t22 ?r22, g_TELLING_WORDS, t_TELLING_WORDS, g_TREE_WORDS, t_TREE_WORDS, g_FORMS, f_FORMS, g_JUST_ONCE, c_JUST_ONCE, g_ANY_ROW, c_ANY_ROW, g_EACH_IN, c_EACH_IN, g_COMES_AHEAD, c_COMES_AHEAD, g_COMES_NEXT, c_COMES_NEXT, ⟨_, L2.glv_mk KX G ?t39 ?r39⟩, ⟨_, L2.glv_mk KX G ?t40 ?r40⟩, ⟨_, L2.glv_mk KX G ?t41 ?r41⟩⟩
   (case t0 => k_is)
   (case t1 => k_is)
   (case t2 => k_is)
   (case t3 => k_is)
   (case t4 => k_is)
   (case t5 => k_is)
   (case t6 => k_is)
   (case t7 => k_is)
   (case t8 => k_is)
   (case t9 => k_is)
   (case t10 => k_is)
   (case t11 => k_is)
   (case t12 => k_is)
   (case t13 => k_is)
   (case t14 => k_is)
   (case t15 => k_is); (case r15 => exact ⟨_, rfl⟩)
   (case t16 => k_is); (case r16 => exact ⟨_, rfl⟩)
   (case t17 => k_is); (case r17 => exact ⟨_, rfl⟩)
   (case t18 => k_is); (case r18 => exact ⟨_, rfl⟩)
   (case t19 => k_is); (case r19 => exact ⟨_, rfl⟩)
   (case t20 => k_is); (case r20 => exact ⟨_, rfl⟩)
   (case t21 => k_is); (case r21 => exact ⟨_, rfl⟩)
   (case t22 => k_is); (case r22 => exact ⟨_, rfl⟩)
   (case t39 => k_is); (case r39 => exact rfl)
   (case t40 => k_is); (case r40 => exact rfl)
   (case t41 => k_is); (case r41 => exact rfl)
  obtain ⟨c_reduced, t_reduced, c_paired, t_paired, c_met, t_met, c_maker, t_maker, d_reduced, d_paired, d_met, d_maker, n_reduced, n_paired, n_met, n_maker, ne_paired_reduced, ne_met_reduced, ne_met_paired, ne_maker_reduced, ne_maker_paired, ne_maker_met⟩ : ∃ c_reduced t_reduced c_paired t_paired c_met t_met c_maker t_maker, L2.DfnC (L2.KOf KX) mg "reduced" K32.s_reduced ["machine"] c_reduced t_reduced ∧ L2.DfnC (L2.KOf KX) mg "paired" K32.s_paired ["one", "other", "is_end"] c_paired t_paired ∧ L2.DfnC (L2.KOf KX) mg "met" K32.s_met ["one", "other"] c_met t_met ∧ L2.DfnC (L2.KOf KX) mg "maker" K32.s_maker ["bare_of", "fitting_of", "met", "joined", "flipped", "dropped"] c_maker t_maker ∧ (L2.KOf KX).lookup t_reduced = none ∧ (L2.KOf KX).lookup t_paired = none ∧ (L2.KOf KX).lookup t_met = none ∧ (L2.KOf KX).lookup t_maker = none ∧ t_paired ≠ t_reduced ∧ t_met ≠ t_reduced ∧ t_met ≠ t_paired ∧ t_maker ≠ t_reduced ∧ t_maker ≠ t_paired ∧ t_maker ≠ t_met := by
   dsimp only [L2.KOf]
   refine' ⟨_, _, _, _, _, _, _, _, L2.dfnc_mk KX G ?a0 ?l0 ?c0 ?k0 (L2.kcode_mk ?m0 ?x0 ?y0 ?z0 ?u0 ?v0 ?w0) (fun _ _ _ _ _ _ us hl => match us, hl with | [_], _ => rfl), L2.dfnc_mk KX G ?a1 ?l1 ?c1 ?k1 (L2.kcode_mk ?m1 ?x1 ?y1 ?z1 ?u1 ?v1 ?w1) (fun _ _ _ _ _ _ us hl => match us, hl with | [_, _, _], _ => rfl), L2.dfnc_mk KX G ?a2 ?l2 ?c2 ?k2 (L2.kcode_mk ?m2 ?x2 ?y2 ?z2 ?u2 ?v2 ?w2) (fun _ _ _ _ _ _ us hl => match us, hl with | [_, _], _ => rfl), L2.dfnc_mk KX G ?a3 ?l3 ?c3 ?k3 (L2.kcode_mk ?m3 ?x3 ?y3 ?z3 ?u3 ?v3 ?w3) (fun _ _ _ _ _ _ us hl => match us, hl with | [_, _, _, _, _, _], _ => rfl), ?n0, ?n1, ?n2, ?n3, ?e0, ?e1, ?e2, ?e3, ?e4, ?e5⟩
   (case a0 => k_is); (case l0 => k_is); (case c0 => k_is); (case k0 => k_is); (case m0 => k_is); (case x0 => rfl); (case y0 => rfl); (case z0 => rfl); (case u0 => rfl); (case v0 => rfl); (case w0 => decide)
   (case a1 => k_is); (case l1 => k_is); (case c1 => k_is); (case k1 => k_is); (case m1 => k_is); (case x1 => rfl); (case y1 => rfl); (case z1 => rfl); (case u1 => rfl); (case v1 => rfl); (case w1 => decide)
   (case a2 => k_is); (case l2 => k_is); (case c2 => k_is); (case k2 => k_is); (case m2 => k_is); (case x2 => rfl); (case y2 => rfl); (case z2 => rfl); (case u2 => rfl); (case v2 => rfl); (case w2 => decide)
   (case a3 => k_is); (case l3 => k_is); (case c3 => k_is); (case k3 => k_is); (case m3 => k_is); (case x3 => rfl); (case y3 => rfl); (case z3 => rfl); (case u3 => rfl); (case v3 => rfl); (case w3 => decide)
   (case n0 => first | k_is | kernel_rfl)
   (case n1 => first | k_is | kernel_rfl)
   (case n2 => first | k_is | kernel_rfl)
   (case n3 => first | k_is | kernel_rfl)
   (case e0 => decide)
   (case e1 => decide)
   (case e2 => decide)
   (case e3 => decide)
   (case e4 => decide)
   (case e5 => decide)
  have d_gone : L2.Dfn (L2.KOf KX) mg "gone" K32.s_gone ["machine", "row"] := by exact_mod_cast [_, _]
  have d_takes : L2.Dfn (L2.KOf KX) mg "takes" K32.s_takes ["machine", "row"] := by exact_mod_cast [_, _]
  have d_reached : L2.Dfn (L2.KOf KX) mg "reached" K32.s_reached ["machine"] := by exact_mod_cast [_]
  have d_renamed : L2.Dfn (L2.KOf KX) mg "renamed" K32.s_renamed ["rooms", "numbers"] := by exact_mod_cast [_, _]
  have d_picked : L2.Dfn (L2.KOf KX) mg "picked" K32.s_picked ["machine", "rooms", "numbers"] := by exact_mod_cast [_, _, _]
  have d_numbered : L2.Dfn (L2.KOf KX) mg "numbered" K32.s_numbered ["marks"] := by exact_mod_cast [_]
  have d_finer_sorts : L2.Dfn (L2.KOf KX) mg "finer_sorts" K32.s_finer_sorts ["machine", "sorts"] := by exact_mod_cast [_, _]
  have d_sorts_by : L2.Dfn (L2.KOf KX) mg "sorts_by" K32.s_sorts_by ["ends", "part_further"] := by exact_mod_cast [_, _]
  have d_explored : L2.Dfn (L2.KOf KX) mg "explored" K32.s_explored ["tracks", "first", "comings", "is_end"] := by exact_mod_cast [_, _, _, _]
  have d_letter_of : L2.Dfn (L2.KOf KX) mg "letter_of" K32.s_letter_of ["letter", "tracks"] := by exact_mod_cast [_, _]
  have d_spread : L2.Dfn (L2.KOf KX) mg "spread" K32.s_spread ["machine", "tracks", "width"] := by exact_mod_cast [_, _, _]
  have d_is_letter_with_figures : L2.Dfn (L2.KOf KX) mg "is_letter_with_figures" K32.s_is_letter_with_figures ["thing", "letters"] := by exact_mod_cast [_, _]
  have d_is_place : L2.Dfn (L2.KOf KX) mg "is_place" K32.s_is_place ["thing"] := by exact_mod_cast [_]
  have d_is_set : L2.Dfn (L2.KOf KX) mg "is_set" K32.s_is_set ["thing"] := by exact_mod_cast [_]
  have d_is_name : L2.Dfn (L2.KOf KX) mg "is_name" K32.s_is_name ["thing"] := by exact_mod_cast [_]
  have d_is_frame : L2.Dfn (L2.KOf KX) mg "is_frame" K32.s_is_frame ["thing"] := by exact_mod_cast [_]
  have d_is_of_sort : L2.Dfn (L2.KOf KX) mg "is_of_sort" K32.s_is_of_sort ["thing", "sort", "deepest"] := by exact_mod_cast [_, _, _]
  have d_has_form : L2.Dfn (L2.KOf KX) mg "has_form" K32.s_has_form ["thing", "deepest"] := by exact_mod_cast [_, _]
  have d_inner_sayings : L2.Dfn (L2.KOf KX) mg "inner_sayings" K32.s_inner_sayings ["saying"] := by exact_mod_cast [_]
  have d_is_bare : L2.Dfn (L2.KOf KX) mg "is_bare" K32.s_is_bare ["saying"] := by exact_mod_cast [_]
  have d_count_parts : L2.Dfn (L2.KOf KX) mg "count_parts" K32.s_count_parts ["saying"] := by exact_mod_cast [_]
  have d_is_any_saying : L2.Dfn (L2.KOf KX) mg "is_any_saying" K32.s_is_any_saying ["thing"] := by exact_mod_cast [_]
  have d_is_let : L2.Dfn (L2.KOf KX) mg "is_let" K32.s_is_let ["saying", "known", "barred", "most"] := by exact_mod_cast [_, _, _, _]
  have d_is_saying : L2.Dfn (L2.KOf KX) mg "is_saying" K32.s_is_saying ["thing", "frame"] := by exact_mod_cast [_, _]
  have d_check_frame : L2.Dfn (L2.KOf KX) mg "check_frame" K32.s_check_frame ["frame"] := by exact_mod_cast [_]
  have d_check_let : L2.Dfn (L2.KOf KX) mg "check_let" K32.s_check_let ["saying", "frame"] := by exact_mod_cast [_, _]
  have d_fitting_of : L2.Dfn (L2.KOf KX) mg "fitting_of" K32.s_fitting_of ["frame"] := by exact_mod_cast [_]
  have d_rule_of : L2.Dfn (L2.KOf KX) mg "rule_of" K32.s_rule_of ["word"] := by exact_mod_cast [_]
  have d_bare_of : L2.Dfn (L2.KOf KX) mg "bare_of" K32.s_bare_of ["saying", "frame"] := by exact_mod_cast [_, _]
  have d_built : L2.Dfn (L2.KOf KX) mg "built" K32.s_built ["saying", "frame"] := by exact_mod_cast [_, _]
  have d_law_cell_at : L2.Dfn (L2.KOf KX) mg "_law_cell_at" K32.s_law_cell_at ["_law_script", "_law_k"] := by exact_mod_cast [_, _]
  have d_law_mixed : L2.Dfn (L2.KOf KX) mg "_law_mixed" K32.s_law_mixed ["_law_cell"] := by exact_mod_cast [_]
  have d_law_sayings : L2.Dfn (L2.KOf KX) mg "_law_sayings" K32.s_law_sayings ["_law_frame"] := by exact_mod_cast [_]
  have d_law_with : L2.Dfn (L2.KOf KX) mg "_law_with" K32.s_law_with ["_law_row", "_law_k"] := by exact_mod_cast [_, _]
  have d_law_fits : L2.Dfn (L2.KOf KX) mg "_law_fits" K32.s_law_fits ["_law_frame", "_law_row"] := by exact_mod_cast [_, _]
  have d_law_due : L2.Dfn (L2.KOf KX) mg "_law_due" K32.s_law_due ["_law_saying", "_law_frame", "_law_row"] := by exact_mod_cast [_, _, _]
  have d_law_longer : L2.Dfn (L2.KOf KX) mg "_law_longer" K32.s_law_longer ["_law_rows_here", "_law_width"] := by exact_mod_cast [_, _]
  have d_law_rows : L2.Dfn (L2.KOf KX) mg "_law_rows" K32.s_law_rows ["_law_width", "_law_most"] := by exact_mod_cast [_, _]
  have d_law_long : L2.Dfn (L2.KOf KX) mg "_law_long" K32.s_law_long ["_law_cells", "_law_frame", "_law_mixed_here"] := by exact_mod_cast [_, _, _]
  have L : ∃ fd : FuncData, (∀ (s : Shared) (v : Value), BindsTo s fd ⟨[v], []⟩ [("_law_script", v)]) ∧ L2.Fun (L2.KOf KX) "law" "law" K32.s_law fa fd := by
   dsimp only [L2.KOf]
   refine' L2.law_mk KX G hmg ?a ?l ?c ?k ?b
   (case a => k_is); (case l => k_is); (case c => k_is); (case k => k_is)
   exact fun s u => .of_eq rfl
  obtain ⟨fd, hb, F⟩ := L
  exact ⟨fd, [(t_reduced, K32.qs_reduced), (t_paired, K32.qs_paired), (t_met, K32.qs_met), (t_maker, K32.qs_maker)], hb, L2.ts_all (List.forall_mem_cons.mpr ⟨⟨d_reduced.tab (by decide +kernel), n_reduced⟩, (List.forall_mem_cons.mpr ⟨⟨d_paired.tab (by decide +kernel), n_paired⟩, (List.forall_mem_cons.mpr ⟨⟨d_met.tab (by decide +kernel), n_met⟩, (List.forall_mem_cons.mpr ⟨⟨d_maker.tab (by decide +kernel), n_maker⟩, fun _ z => nomatch z⟩)⟩)⟩)⟩), fun base _ _ kb => K32.all T d_gone d_takes d_reached d_renamed d_picked d_numbered d_finer_sorts d_sorts_by d_reduced d_explored d_paired d_met d_letter_of d_spread d_maker d_is_letter_with_figures d_is_place d_is_set d_is_name d_is_frame d_is_of_sort d_has_form d_inner_sayings d_is_bare d_count_parts d_is_any_saying d_is_let d_is_saying d_check_frame d_check_let d_fitting_of d_rule_of d_bare_of d_built d_law_cell_at d_law_mixed d_law_sayings d_law_with d_law_fits d_law_due d_law_longer d_law_rows d_law_long ne_paired_reduced ne_met_reduced ne_met_paired ne_maker_reduced ne_maker_paired ne_maker_met kb F⟩
#print axioms PySem.Challenge.cw_setsays_k32_bare_machines_holds
