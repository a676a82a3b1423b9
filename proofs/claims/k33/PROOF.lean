import PyProof.Rows.All
import Wide.All
import OpenK.AllK
import PySem.Challenge.RW_setsays_k33_built_by_parts
set_option compiler.extract_closed false
set_option bootstrap.genMatcherCode false
set_option genSizeOf false
set_option genSizeOfSpec false
set_option maxHeartbeats 4000000
noncomputable section
local macro_rules|`(tactic|omega)=>`(tactic|first|assumption|exact Nat.le_refl _|exact Nat.le_add_left _ _|exact Nat.le_add_right _ _|exact Nat.le_of_lt (by assumption)|exact Nat.le_of_succ_le_succ (by assumption)|exact Nat.lt_of_succ_lt (by assumption)|exact Nat.le_of_succ_le (by assumption)|exact Nat.lt_of_succ_lt_succ (by assumption)|exact Nat.le_trans (by assumption) (by decide)|exact Nat.lt_of_le_of_lt (by assumption) (by decide)|exact Nat.min_le_left _ _|decide|lia|omega+splitDisjunctions)
local macro_rules|`(tactic|let $d:letDecl)=>do
 match d with
 |`(letDecl|$p:term:=$e)=>
  let rec go:Nat->Lean.Syntax->Lean.MacroM (Lean.TSyntax `rcasesPat)
   |0,_=>Lean.Macro.throwUnsupported
   |n+1,s=>do match (⟨s⟩:Lean.Term) with
    |`(($a,$b,*))=>do
     let x<-(#[a]++b.getElems).mapM λx=>go n x.raw
     let x<-x.mapM λx=>`(Lean.Parser.Tactic.rcasesPatMed|$x:rcasesPat)
     let x:Array (Lean.TSyntax `Lean.Parser.Tactic.rcasesPatLo)<-x.mapM λx=>`(Lean.Parser.Tactic.rcasesPatLo|$x:rcasesPatMed)
     `(rcasesPat|⟨$x,*⟩)
    |`(_)=>`(rcasesPat|_)
    |`($i:ident)=>`(rcasesPat|$i:ident)
    |_=>Lean.Macro.throwUnsupported
  let q<-go 9 p
  `(tactic|obtain $q:rcasesPat:=$e)
 |_=>`(tactic|have $d:letDecl)
local macro_rules|`(tactic|show $e:term)=>`(tactic|exact $e)
local macro_rules|`(tactic|apply $e:term)=>`(tactic|refine $e)
set_option hygiene false
local macro_rules|`(tactic|nofun)=>`(tactic|first|(cases h;subst_vars;rfl)|(rcases h with ⟨_,rfl,_⟩;rfl)|(rcases h with ⟨_,_,rfl,_⟩;rfl)|(rcases h with ⟨_,_,_,rfl,_⟩;rfl)|(rcases h with ⟨_,_,_,_,rfl,_⟩;rfl)|(rcases h with ⟨_,_,_,_,_,rfl,_⟩;rfl)|(rcases h with ⟨_,_,_,_,_,_,rfl,_⟩;rfl)|(rcases h with ⟨_,_,_,_,_,_,_,rfl,_⟩;rfl)|(rcases h with ⟨_,_,_,_,_,_,_,_,rfl,_⟩;rfl)|(rcases h with ⟨_,_,_,_,_,_,_,_,_,rfl,_⟩;rfl)|(rcases h with ⟨_,_,_,_,_,_,_,_,_,_,rfl,_⟩;rfl))
set_option hygiene true
universe u v
theorem R{q:Sort u}{a:q}:a=a:=rfl
theorem Xp{c:Prop}{h:Decidable c}(n:¬c){q:Sort u}{t e:q}:ite c t e=e:=if_neg n
theorem Xq{c:Prop}{h:Decidable c}(n:c){q:Sort u}{t e:q}:ite c t e=t:=if_pos n
theorem Xa{a b:Prop}(h:a)(n:¬a):b:=absurd h n
theorem Xf{p:Prop}[i:Decidable p](h:¬p):decide p=false:=decide_eq_false h
theorem Xg{p:Prop}[i:Decidable p](h:p):decide p=true:=decide_eq_true h
open PySem renaming Addr → Ad,Value → Va
open Option renaming some → G,none → B
open Bool renaming true → N,false → Fa
set_option Elab.async false
set_option linter.all false
set_option maxRecDepth 100000
open List renaming getElem?_eq_getElem → y00, length_map → y01, getD_eq_getElem?_getD → y02, getElem?_map → y05, mem_cons → y06, size_toArray → y08, getElem?_eq_some_iff → y09, mem_cons_of_mem → y0a, mem_singleton → y0b, mem_cons_self → y0c, length_append → y0d, not_mem_nil → y0h, take_of_length_le → y0i, mem_map → y0j, mem_of_getElem? → y0l, getElem_mem → y0n, length_singleton → y0q, map_cons → y0r, length_cons → y0s, length_take → y0t, map_map → y0u, mem_append → y0v, mem_append_right → y0x, mem_range → y0z, length_drop → y10, all_eq_true → y11, lookup_cons → y12, map_append → y13, take_append_drop → y14, getElem?_append_left → y15, length_range → y16, append_assoc → y17, getElem?_append_right → y1b, getElem?_eq_none → y1c, take_add_one → y1h, mem_filter → y1i, append_nil → y1k, pairwise_append → y1l, idxOf_lt_length_iff → y1n, length_nil → y1o, getElem?_range → y1p, mem_of_mem_take → y1r, nodup_cons → y1u, extract_eq_take_drop → y1v, getElem?_cons_succ → y20, getElem_of_mem → y22, getElem?_take_of_lt → y25, mem_of_mem_drop → y27, filterMap_cons → y28, all_cons → y2b, mem_append_left → y2c, of_mem_zip → y2d, forIn_cons → y2e, filter_cons_of_pos → y2f, filter_cons_of_neg → y2g, any_cons → y2h, any_eq_true → y2i, drop_zero → y2j, range_succ_eq_map → y2k, drop_eq_nil_of_le → y2l, getElem?_drop → y2m, length_filter_le → y2o, find?_cons → y2p, pairwise_iff_getElem → y2s, take_length → y2v, mem_reverse → y2w, ext_getElem → y2x, reverse_append → y2y, replicate_succ → y2z, map_congr_left → y30, length_eq_zero_iff → y32, idxOf_cons → y33, getElem_idxOf → y34, nodup_append → y37, ext_getElem? → y38, forIn_nil → y39, map_nil → y3c, length_replicate → y3d, take_append_of_le_length → y3e, cons_append → y3f, getElem?_of_mem → y3g, nil_append → y3j, all_map → y3m, drop_eq_getElem_cons → y3o, take_sublist → y3q, flatten_cons → y3r, getElem?_replicate → y3s, mem_flatMap → y3t, pairwise_lt_range → y3v, range_succ → y3x, nodup_nil → y41, drop_drop → y42, sum_cons → y43, pairwise_cons → y44, filter_append → y45, reverse_perm → y48, filter_congr → y49, eraseIdx_eq_take_drop_succ → y4a, drop_sublist → y4b, zipIdx_cons → y4h, getElem_map → y4i, map_id → y4k, filter_map → y4l, nodup_iff_pairwise_ne → y4m, length_eraseIdx_of_lt → y4n, take_zero → y4q, rel_of_pairwise_cons → y4r, getElem?_zip_eq_some → y4s, length_erase_of_mem → y4t, getElem?_cons_zero → y4u, reverse_singleton → y4w, length_pos_of_mem → y4x, getElem_cons_drop → y4y, getElem?_set_self → y4z, perm_append_comm → y52, pairwise_reverse → y53
open PySem.Heap renaming get?_push_of_some → y03, lt_size → y0e, get?_push_size → y0f, size_push → y1a, get?_update_other → y1f, get?_update_self → y1j
open Nat renaming le_refl → y04, ne_of_lt → y0o, lt_of_lt_of_le → y0p, zero_le → y18, le_trans → y19, lt_irrefl → y1g, le_of_lt → y1x, lt_trans → y21, lt_succ_self → y29, ne_of_gt → y2a, not_lt_zero → y2n, succ_le_succ → y2t, le_of_not_lt → y2u, add_sub_cancel_left → y31, lt_succ_of_lt → y36, le_of_eq → y3b, min_eq_left → y3h, le_succ → y3i, zero_add → y3k, lt_of_le_of_lt → y3l, le_of_succ_le_succ → y3u, not_succ_le_zero → y3z, mod_lt → y46, lt_trichotomy → y47, pow_succ → y4e, max_eq_right → y4f, le_add_right → y4g, le_add_left → y4j, succ_mul → y50, sub_self → y51
open Bool renaming and_eq_true → y07, false_ne_true → y0g, eq_false_iff → y0w, true_and → y1d, false_and → y1q, eq_iff_iff → y23, or_eq_true → y35, and_false → y3a, false_eq_true → y3n, not_eq_true' → y4d, false_or → y4v
open Array renaming getElem?_toList → y0k, length_toList → y0m, toList_append → y1e, toList_extract → y1s, getElem?_eq_getElem → y1w, toList_push → y2q, getElem?_eq_some_iff → y2r, getElem?_eq_none → y3w, toList_reverse → y40, perm_iff_toList_perm → y4p
open Option renaming getD_some → y0y, map_eq_some_iff → y1m, map_some → y1z, toList_some → y24, isSome_iff_exists → y3p
open Int renaming le_trans → y1t, toNat_natCast → y1y, le_refl → y26, le_of_lt → y3y, not_lt → y4c, fdiv_eq_ediv_of_nonneg → y4o
open PySem renaming wpAny_bind → ig, wpAny_pure → ii, Shared → ik, Program → im, sizeLine → io, starEach → iq, Around → ir, wpAny_holding → iu, compareOp → iw, wpAny_mono → iy, mainGlobals → iz, cellsFrom → i0, Paired → i4, FuncData → i5, wpAny_newObj_type → i6, wpAny_field → i7, wpAny_call_entry → i8, wpAny_callSpecial?_slot → i9, boot_len → iA, rawInt → iB, wpAny_setField → iC, wpAny_truthy_bool → iD, wpAny_seqItems → iE, codeAny_builtin → iF, codeAny_mono → iG, wpAny_Call_Name_kw → iI, sysModules → iJ, Arguments → iK, wpAny_setField_rec → iL, binaryOp → iM, wpAny_setState_of → iN, wpAny_execs_cons → iP, scanBound → iQ, wpAny_execs_nil → iR, wpAny_passesOwn → iS, letOwnedTupleGo → iT, wpAny_pyIter_list → iV, wpAny_standAt → iW, plainId_quiet → iX, codeAny → iY, bindArgs → iZ, wpAny_askSetting → ja, builtinsNs → jb, bootBuiltins → jc, wpAny_rule → jd, wpAny_specialOf → je, wpAny_updateSeq → jf, codeAny_call_function → jg, builtinLookup_eq_fast → jh, backTo → ji, NameKind → jj, SetTable → jk, wpAny_call → jm, call_meets → jn, sliceBounds → jo, GenState → jq, foldedSetIterable → jr, wpAny_typeOf → js, codeAmong → ju, assignEach → jv, typeLookup → jw, wpAny_attempt → jx, pyNext → jy, codeAny_of_tree → jz, typeLookup_type → j0, wpAny_setEntries_of → j6, InCallC → j8, swapsWith → j9, wpAny_newFunctionEnv_cells → jA, tupleKind_room_in1 → jB, firstArgMember → jC, ZipApart → jD, wpAny_newTuple → jE, wpAny_fieldsOf → jG, newFunctionEnv → jH, sizeLine_eq → jI, getItem → jJ, wpAny_pyIter_slot → jK, behindInMarks → jL, IsPair → jN, wpAny_onRaise → jO, ExceptHandler → jP, tupleKind → jQ, storeName → jR, wpAny_isInstance → jS, setFlight → jT, updateSeq → jU, intKind → jV, codeAny_func → jW, pyIter → jX, recursionLimit → jY, subscripted → jZ, wpAny_letGo → lg, relayAll → lh, isSubtype_type → li, leaving → lj, callerA → lm, noteFrame → lq, valueAt → lu, wpAny_load → lw, findBy → lz, IsPart → lA, qualnameIn → lB, setsByText → lC, BindsTo → lD, FuncBody → lE
open PyProof.Rows renaming kindOf → iH, boot_tuple → iO, boot_isinstance → iU, envOfC → jl, IntsAre → jt, AllBare → j7, boot_all → lG
open PySem PySem.Spec PyProof.Rows
open PySem.W (Frag)
abbrev Y0:=Va->ik->Prop
abbrev Y1:=Str->Option Va
abbrev Y2:=List<|Ad×Obj
abbrev Y3:=List<|Pos×Str
abbrev Y4:=List<|Str×Ad
abbrev Y6:=List<|Nat×Str
abbrev Y8:=Array<|Option Va
abbrev Y9:=Option Va->ik->Prop
set_option hygiene false in
local macro_rules
| `(tactic|ac_rfl) => `(tactic|refine iI (thn (zf1 (pos:=p) hN hv hd hcd pins s σ H (λv H'=>v =.ref f/\H'=H) I (zeb hs ⟨rfl,rfl⟩)) λu s1 zz=>ex5 zz λv H1 I1 r1 zq=>?_))
set_option hygiene false in
local macro_rules
| `(tactic|infer_instance) => `(tactic|intro pins s σ H x y v u Q I rx ry h)
set_option hygiene false
local macro_rules|`(07)=>`(λvs H Q E h=>?_)
local macro_rules|`(08)=>`(λf cdv A outer s H vs Q E hr h=>?_)
local macro_rules|`(03)=>`(Cal P w K mg base)
local macro_rules|`(02)=>`(Inv X pins σ)
local macro_rules|`(00)=>`(by omega)
local macro_rules|`(01)=>`(by rfl)
local macro_rules|`(06)=>`(model X.prog X.w)
local macro_rules|`(04)=>`(by decide)
local macro_rules|`(36)=>`(PySem.W.mg_none_of KX Gq (by k_is))
local macro_rules|`(09)=>`(by exact_mod_cast 0)
local macro_rules|`(05)=>`(by k_is)
local macro_rules|`(35)=>`(.cons ⟨_,rfl⟩ (.nil))
set_option hygiene true
namespace L2
theorem ex5{q s:Type}{A Bq C:q->s->Prop}{Gq:Prop}(h:∃x y,A x y/\Bq x y/\C x y)(k:∀x y,A x y->Bq x y->C x y->Gq):Gq:=let⟨x,y,a,b,c⟩:=h;k x y a b c
abbrev Key:=Sum Int Str
noncomputable def blI(b:Bool):Int:=if b=N then 1 else 0
def isBl(k:Int):Va->Bool
 |.bool b=>k==blI b
 |_=>Fa
def keyIs:Key->Va->Bool
 |.inl k,v=>Va.isInt k v||isBl k v
 |.inr x,v=>Va.isStrOf x v
noncomputable def keyH(w:World):Key->Int
 |.inl k=>hashInt k
 |.inr x=>hashStr w x
theorem zox:∀{v:Va},isBl k v=N->∃b,k=blI b/\v=Va.bool b:=by
 intro v h;cases v
 case bool b=>show⟨b,eq_of_beq h,R⟩
 all_goals show Xa h y0g
theorem za0:∀{k:Key} {v:Va},keyIs k v=N->(∃i t,k=Sum.inl i/\v=Va.int i t)\/(∃x t,k=Sum.inr x/\v=Va.str x t)\/∃b,k=Sum.inl (blI b)/\v=Va.bool b
 |.inl i,v,h=>by
  rcases(y35 _ _).mp (show(Va.isInt i v||isBl i v)=N from h)with h|h
  .let(t,e):=Va.isInt_shape (k:=i) (v:=v) h;show .inl ⟨i,t,R,e⟩
  .let(b,e,Q):=zox h;show .inr<|.inr ⟨b,by rw[e],Q⟩
 |.inr x,v,h=>by
  let(t,e):=Va.isStrOf_shape (x:=x) (v:=v) h;show .inr<|.inl ⟨x,t,R,e⟩
theorem zrq(i:Int)(t:Tok):keyIs (.inl i) (.int i t)=N:=by simp[keyIs,Va.isInt]
theorem zu5(b:Bool):keyIs (.inl<|blI b) (.bool b)=N:=by simp[keyIs,isBl]
theorem zyj(e:blI a=blI b):a=b:=by
 cases a<;>cases b<;>first|rfl|show Xa e (by decide)
theorem zx7(h:Q (hashInt<|blI b) {s with toks:=s.toks+1}):wpAny (model prog w) A (pyHash<|.bool b) Q E s:=by
 let p:s.TypeIs (.bool b) "bool":=rfl;let L:=rawHash_range<|blI b;unfold pyHash;apply ig ?_;rw[cRoomFor,Xp<|show¬[Va.bool b].any Va.onHeap=N from y0g];apply ii<|ig (je p PySem.F.slot_bool_hash.lookup ?_);change wpAny _ _ (if(G (Va.builtin "int.__hash__")==G Va.none)=N then _ else _) Q E s;rw[Xp<|show¬(G (Va.builtin "int.__hash__")==G Va.none)=N from y0g];apply ig<|je p PySem.F.slot_bool_hash.lookup ?_;change wpAny _ _ (callSpecialIfBoundUnlessNone? (.bool b) "__hash__" _>>=_) Q E s;apply ig<|wpAny_callSpecialIfBoundUnlessNone?_slot p PySem.F.slot_bool_hash (i8 PySem.F.slot_bool_hash p PySem.F.entry_int_hash ?_<|PySem.F.args_int_hash_1 _);apply(show wpAny _ _ (do ret<|←mkInt (rawHash<|blI b)) _ _ s from wpAny_ret_mkInt ?_);change wpAny _ _ (if(decide (-(2:Int)^63<=rawHash (blI b))&&decide (rawHash (blI b)<2^63))=N then _ else _) Q E _;rw[Xq<|by rw[Xg L.1,Xg L.2];rfl];show ii h
theorem zrp(x:Str)(t:Tok):keyIs (.inr x) (.str x t)=N:=by simp[keyIs,Va.isStrOf]
theorem znb(a b:Int):decide ((Sum.inl a:Key)=Sum.inl b)=(a==b):=by
 by_cases e:a=b
 .subst e;simp
 .let h:¬(Sum.inl a:Key)=Sum.inl b:=λq=>e<|Sum.inl.inj q;rw[Xf h];show(beq_eq_false_iff_ne.mpr e).symm
theorem key_rr(a b:Str):decide ((Sum.inr a:Key)=Sum.inr b)=decide (a=b):=by
 by_cases e:a=b
 .subst e;simp
 .let h:¬(Sum.inr a:Key)=Sum.inr b:=λq=>e<|Sum.inr.inj q;rw[Xf h,Xf e]
theorem zwc(a:Int)(b:Str):decide ((Sum.inl a:Key)=Sum.inr b)=Fa:=Xf λq=>nomatch q
theorem zwb(a:Str)(b:Int):decide ((Sum.inr a:Key)=Sum.inl b)=Fa:=Xf λq=>nomatch q
def mixKind(prog:im)(w:World):PySem.KeyKind prog w Key where
 is:=keyIs
 hash:=keyH w
 inj:=λv a b A U=>by
  rcases za0 A with⟨i,t,rfl,rfl⟩|⟨x,t,rfl,rfl⟩|⟨c,rfl,rfl⟩
  .rcases za0 U with⟨j,u,rfl,e⟩|⟨y,u,rfl,e⟩|⟨d,rfl,e⟩
   .injection e with J _;rw[J]
   .exact nomatch e
   .exact nomatch e
  .rcases za0 U with⟨j,u,rfl,e⟩|⟨y,u,rfl,e⟩|⟨d,rfl,e⟩
   .exact nomatch e
   .injection e with J _;rw[J]
   .exact nomatch e
  .rcases za0 U with⟨j,u,rfl,e⟩|⟨y,u,rfl,e⟩|⟨d,rfl,e⟩
   .exact nomatch e
   .exact nomatch e
   .injection e with J;rw[J]
 byValue:=λk v h=>by
  rcases za0 h with⟨i,t,rfl,rfl⟩|⟨x,t,rfl,rfl⟩|⟨c,rfl,rfl⟩<;>rfl
 pyHash:=λhv h=>by
  rcases za0 hv with⟨i,t,rfl,rfl⟩|⟨x,t,rfl,rfl⟩|⟨c,rfl,rfl⟩
  .exact wpAny_pyHash_int h
  .exact wpAny_pyHash_str h
  .exact zx7 h
 eqBool:=λY hv h=>by
  rcases za0 Y with⟨i,t,rfl,rfl⟩|⟨x,t,rfl,rfl⟩|⟨c,rfl,rfl⟩
  .rcases za0 hv with⟨j,u,rfl,rfl⟩|⟨y,u,rfl,rfl⟩|⟨d,rfl,rfl⟩
   .rw[znb]at h;show wpAny_eqBool_int h
   .rw[zwc]at h;show SeqAt.EqAt.int_str i t y u _ _ _ _ h
   .rw[znb]at h;show SeqAt.EqAt.int_bool i t d _ _ _ _ h
  .rcases za0 hv with⟨j,u,rfl,rfl⟩|⟨y,u,rfl,rfl⟩|⟨d,rfl,rfl⟩
   .rw[zwb]at h;show SeqAt.EqAt.str_int x t j u _ _ _ _ h
   .rw[key_rr]at h;show wpAny_eqBool_str h
   .rw[zwb]at h;show SeqAt.EqAt.str_bool x t d _ _ _ _ h
  .rcases za0 hv with⟨j,u,rfl,rfl⟩|⟨y,u,rfl,rfl⟩|⟨d,rfl,rfl⟩
   .rw[znb]at h;show SeqAt.EqAt.bool_int c j u _ _ _ _ h
   .rw[zwc]at h;show SeqAt.EqAt.bool_str c y u _ _ _ _ h
   .rw[znb,show(blI c==blI d)=(c==d) by cases c<;>cases d<;>rfl]at h;show SeqAt.EqAt.bool_bool c d _ _ _ _ h
 «strs»:=λk x t v h=>by
  rcases za0 h with⟨i,u,rfl,e⟩|⟨y,u,rfl,e⟩|⟨d,rfl,e⟩
  .exact nomatch e
  .injection e with J _
   subst J;cases v<;>rfl
  .exact nomatch e
theorem zlu(prog:im)(w:World)(i:Int)(t:Tok):(mixKind prog w).is (.inl i) (.int i t)=N:=zrq i t
theorem zls(prog:im)(w:World)(x:Str)(t:Tok):(mixKind prog w).is (.inr x) (.str x t)=N:=zrp x t
inductive V where
 |non|bl (b:Bool)|int (i:Int)|str (x:Str)|byt (b:Array UInt8)|flt (b:UInt64)|ref (a:Ad)|ty (n:String)
 deriving DecidableEq
def RelV:V->Va->Prop
 |.non,u=>u=Va.none
 |.bl b,u=>u=Va.bool b
 |.int i,u=>∃t,u=Va.int i t
 |.str x,u=>∃t,u=Va.str x t
 |.byt b,u=>∃t,u=Va.bytes b t
 |.flt b,u=>∃t,u=Va.float b t
 |.ref a,u=>u=Va.ref a
 |.ty n,u=>u=Va.type n
abbrev Vals:List V->List Va->Prop:=i4 RelV
theorem Vals.length(r:Vals xs us):xs.length=us.length:=Paired.length r
theorem Vals.get:∀{xs:List V} {us:List Va} {i:Nat} {x:V},Vals xs us->xs[i]?=G x->∃u,us[i]?=G u/\RelV x u
 |_,_,_,_,.nil,e=>by simp at e
 |_,_,0,_,.cons r _,e=>by simp at e;subst e;show⟨_,R,r⟩
 |_,_,i+1,x,.cons _ t,e=>by
  let(u,Y,M):=Vals.get (i:=i) (x:=x) t (by simpa using e);show⟨u,by simpa using Y,M⟩
theorem Vals.append:∀{xs ys:List V} {us l:List Va},Vals xs us->Vals ys l->Vals (xs++ys) (us++l)
 |_,_,_,_,.nil,s=>s
 |_,_,_,_,.cons r t,s=>.cons r<|Vals.append t s
theorem Vals.take:∀{xs:List V} {us:List Va} (n:Nat),Vals xs us->Vals (xs.take n) (us.take n)
 |_,_,0,_=>.nil
 |_,_,_+1,.nil=>.nil
 |_,_,n+1,.cons r t=>.cons r<|Vals.take n t
theorem Vals.drop:∀{xs:List V} {us:List Va} (n:Nat),Vals xs us->Vals (xs.drop n) (us.drop n)
 |_,_,0,r=>r
 |_,_,_+1,.nil=>.nil
 |_,_,n+1,.cons _ t=>Vals.drop n t
def RelO:Option V->Option Va->Prop
 |some v,G u=>RelV v u
 |none,B=>True
 |_,_=>False
def KV{a:Type}:List (a×V)->List (a×Va)->Prop:=i4 λ(p:a×V) (q:a×Va)=>p.1=q.1/\RelV p.2 q.2
noncomputable def kV:Key->V
 |.inl i=>.int i
 |.inr x=>.str x
inductive HO where
  |lst (xs:List V)
  |tup (xs:List V)
  |dK (kvs:List<|Key×V)|dT (kvs:List<|List Key×V)
  |set (S:Int->Bool) (n:Nat)
  |ins (C dx:Ad) (fs:List<|Str×V)
  |own (x:Ad)
  |xd (fs:List<|Str×V)
  |met (f x:Ad)
  |rng (lo hi:Int)
  |frz (o:Obj) (u:HO)
  |tbl (qs:Y3) (ps:Array Va)
  |ext (φ:Heap->Prop)
abbrev Hp:=Ad->Option HO
noncomputable def upd(H:Hp)(a:Ad)(o:HO):Hp:=λb=>if b=a then G o else H b
theorem zar:upd H a o a=G o:=by unfold upd;rw[Xq rfl]
theorem zak(h:b≠a):upd H a o b=H b:=by unfold upd;rw[Xp h]
theorem zrd{H:Hp}{a b:Ad}{o u:HO}(h:H a=G o)(h':H b=G u)(d:o≠u):a≠b:=by
 intro e;subst e;rw[h]at h';show d<|Option.some.inj h'
theorem zas{H:Hp}{a b:Ad}{o:HO}(h:H a=G o)(h':H b=B):a≠b:=by
 intro e;subst e;rw[h]at h';cases h'
section
variable (P:im)(w:World)
def CodeObj(o:Obj)(q:Str):Prop:=∃vs t,o.data=.fields vs/\vs[1]?=G (.str q t)
def ObjOk(H:Hp)(h:Heap)(a:Ad):HO->Prop
 |.lst xs=>xs.length<=io/\∃(its:List Va) (n:Nat),Vals xs its/\h.get? a=G {cls:=.type "list",data:=.seq its.toArray n}
 |.tup xs=>xs.length<=io/\∃its:List Va,Vals xs its/\IsTup h a its.toArray
 |.dK kvs=>kvs.length<=io/\(a==iJ)=Fa/\∃vs,KV kvs vs/\h.DictOf (mixKind P w) a vs
 |.dT kvs=>kvs.length<=io/\(a==iJ)=Fa/\∃xs:List<|List Key×Ad×Va,
   i4 (λ(p:List Key×V) (q:List Key×Ad×Va)=>p.1=q.1/\H q.2.1=G (.tup<|p.1.map kV)/\RelV p.2 q.2.2) kvs xs/\
   ∃o l ep,h.get? a=G o/\o.ExactDict/\o.data=.dict l ep/\l.toList=xs.map (entryOfKey<|jQ (mixKind P w))/\(xs.map (·.1)).Nodup
 |.set S n=>h.SetOf (jV P w) a S n
 |.ins C dx fs=>H dx=G (.own a)/\fs.length<=1000/\dx≠a/\h.get? a=G (PySem.W.instObj C dx)/\
   ∃U,h.Ns1 dx U/\(∀f,RelO (fs.lookup f)<|U f)/\PySem.Within U (fs.map (·.1))
 |.own _=>∃o,h.get? a=G o
 |.xd fs=>∃U,h.Ns1 a U/\∀f,RelO (fs.lookup f)<|U f
 |.rng lo hi=>∃t u v,h.get? a=G {cls:=.type "range",data:=.fields #[.int lo t,.int hi u,.int 1 v]}
 |.frz o u=>h.get? a=G o/\ObjOk H h a u
 |.tbl qs ps=>∃i:Array Va,h.get? a=G {cls:=.none,data:=.fields (ps++i)}/\TriplesOk (ps++i).toList/\∀p∈qs,∀v,ju p.1 (ps++i).toList=G v->∃c o,v=.ref c/\H c=G (.frz o<|.own c)/\CodeObj o p.2
 |.met f x=>h.get? a=G (PySem.W.methodObj (.ref f)<|.ref x)
 |.ext J=>J h/\(∃o,h.get? a=G o)/\∀Y M:Heap,J Y->(∀o,Y.get? a=G o->M.get? a=G o)->J M
def HOk(H:Hp)(h:Heap):Prop:=∀a o,H a=G o->ObjOk P w H h a o
end
section
variable {P:im}{w:World}{H H':Hp}{h h':Heap}{a:Ad}{o:HO}
theorem ObjOk.lt(x:ObjOk P w H h a o):a<h.objs.size:=by
 cases o with
 |lst xs=>let(_,_,_,_,e):=x;show y0e e
 |tup xs=>let(_,_,_,p):=x;show p.lt
 |dK kvs=>let(_,_,_,_,o,_,_,e,_):=x;show y0e e
 |dT kvs=>let(_,_,_,_,o,_,_,e,_):=x;show y0e e
 |set S n=>let(o,_,_,_,e,_):=x;show y0e e
 |ins C dx fs=>let(_,_,_,e,_):=x;show y0e e
 |own y=>let(_,e):=x;show y0e e
 |xd fs=>let(_,(_,_,_,e,_),_):=x;show y0e e
 |rng lo hi=>let(_,_,_,e):=x;show y0e e
 |frz ob u=>let(e,_):=x;show y0e e
 |tbl qs ps=>let(_,e,_):=x;show y0e e
 |met f y=>show y0e<|show h.get? a=G _ from x
 |ext J=>let(_,(_,e),_):=x;show y0e e
theorem Paired.mapP:∀{d:List q} {c:List s},i4 F d c->(∀a b,F a b->Gq a b)->i4 Gq d c
 |_,_,.nil,_=>.nil
 |_,_,.cons r t,f=>.cons (f _ _ r)<|Paired.mapP t f
theorem ObjOk.stay(x:ObjOk P w H h a o)(k:∀b u,(b=a\/H b=G (.own a))->h.get? b=G u->h'.get? b=G u)
  (j:∀b,H b=G (.own a)->H' b=G (.own a)) (T:∀b o u q,CodeObj o q->H b=G (.frz o u)->H' b=G (.frz o u)) (D:∀b xs,H b=G (.tup xs)->H' b=G (.tup xs)):ObjOk P w H' h' a o:=by
 induction o with
 |lst xs=>let(z,its,n,r,e):=x;show⟨z,its,n,r,k _ _ (.inl R) e⟩
 |tup xs=>let(z,its,r,ob,e,c):=x;show⟨z,its,r,ob,k _ _ (.inl R) e,c⟩
 |dK kvs=>let(z,y,vs,r,ob,l,ep,e,c):=x;show⟨z,y,vs,r,ob,l,ep,k _ _ (.inl R) e,c⟩
 |dT kvs =>
  let(z,y,xs,r,ob,l,ep,e,c):=x;show⟨z,y,xs,Paired.mapP r λp q z=>⟨z.1,D _ _ z.2.1,z.2.2⟩,ob,l,ep,k _ _ (.inl R) e,c⟩
 |set S n=>let(ob,l,ep,t,e,c):=x;show⟨ob,l,ep,t,k _ _ (.inl R) e,c⟩
 |ins C dx fs =>
  let(d,z,ne,e,U,(M,l,ep,g,c),r):=x;show⟨j _ d,z,ne,k _ _ (.inl R) e,U,⟨M,l,ep,k _ _ (.inr d) g,c⟩,r⟩
 |own y=>let(ob,e):=x;show⟨ob,k _ _ (.inl R) e⟩
 |xd fs=>let(U,(M,l,ep,e,c),r):=x;show⟨U,⟨M,l,ep,k _ _ (.inl R) e,c⟩,r⟩
 |rng lo hi=>let(t,u,v,e):=x;show⟨t,u,v,k _ _ (.inl R) e⟩
 |frz ob u E=>let(e,q):=x;show⟨k _ _ (.inl R) e,E q⟩
 |tbl qs ps=>let(i,e,t,c):=x;show⟨i,k _ _ (.inl R) e,t,λp L v q=>let⟨Y,o,r,z,co⟩:=c p L v q;⟨Y,o,r,T _ _ _ _ co z,co⟩⟩
 |met f y =>
  let e:h.get? a=G (PySem.W.methodObj (.ref f)<|.ref y):=x;change h'.get? a=G (PySem.W.methodObj (.ref f)<|.ref y);show k a _ (.inl R) e
 |ext J=>let(p,(o,e),st):=x;show⟨st _ _ p λo q=>k _ _ (.inl R) q,⟨o,k _ _ (.inl R) e⟩,st⟩
theorem HOk.lt(x:HOk P w H h)(e:H a=G o):a<h.objs.size:=(x a o e).lt
theorem HOk.fresh(x:HOk P w H h)(e:h.objs.size<=a):H a=B:=by
 cases q:H a with
 |none=>rfl
 |some u=>show Xa (y0p (x.lt q) e)<|y1g _
theorem HOk.kept(x:HOk P w H h)(k:∀b u,h.get? b=G u->h'.get? b=G u):HOk P w H h':=λa o e =>
 (x a o e).stay (λb u _ q=>k b u q) (λ_ q=>q) (λ_ _ _ _ _ q=>q) λ_ _ q=>q
theorem HOk.laid(x:HOk P w H h)(k:∀b u,h.get? b=G u->h'.get? b=G u)(L:h.objs.size<=a)(new:ObjOk P w (upd H a o) h' a o):HOk P w (upd H a o) h':=λb u e=>by
 let I:=x.fresh L;by_cases U:b=a
 .subst U;rw[zar]at e;cases e;show new
 .rw[zak U]at e;show(x b u e).stay (λc v _ q=>k c v q) (λc q=>by rw[zak<|zas q I];show q) (λc _ _ _ _ q=>by rw[zak<|zas q I];show q) λc xs q=>by rw[zak<|zas q I];show q
end
def Rd(H:Hp)(a:Ad)(u:HO):Prop:=H a=G u\/∃o,H a=G (.frz o u)
theorem Rd.ok(r:Rd H a u)(x:HOk P w H h):ObjOk P w H h a u:=by
 rcases r with r|⟨o,r⟩
 .exact x a u r
 .let(_,q):=x a _ r;show q
def Mut:Option HO->Prop
 |some (.lst _)=>True
 |some (.dK _)=>True
 |some (.dT _)=>True
 |some (.set _ _)=>True
 |some (.ins _ _ _)=>True
 |some (.ext _)=>True
 |_=>False
section
variable {P:im}{w:World}{H:Hp}{h h':Heap}{x e:Ad}{o':HO}
theorem HOk.write(ok:HOk P w H h)(j:Mut<|H x)(f:e=x\/H e=G (.own x))(k:∀b u,b≠e->h.get? b=G u->h'.get? b=G u)(g:∃u,h'.get? e=G u)
  (new:ObjOk P w (upd H x o') h' x o'):HOk P w (upd H x o') h':=λb u q=>by
 let a:∀c y,H c=G (.own y)->c≠x:=λc y r z=>by subst z;rw[r]at j;show j
 let i:∀c xs,H c=G (.tup xs)->c≠x:=λc xs r z=>by subst z;rw[r]at j;show j
 let l:∀c o y,H c=G (.frz o y)->c≠x:=λc o y r z=>by subst z;rw[r]at j;show j
 by_cases U:b=x
 .subst U;rw[zar]at q;cases q;show new
 .rw[zak U]at q;by_cases d:b=e
  .let Y:H b=G (.own x):=by
    rcases f with z|z
    .exact Xa (d.trans z) U
    .rw[d];show z
   rw[q]at Y;cases Y;let(v,hv):=g;show⟨v,by rw[d];show hv⟩
  .refine(ok b u q).stay (λc v C r=>k c v ?_ r) (λc r=>by rw[zak<|a c b r];show r) (λc o y _ _ r=>by rw[zak<|l c o y r];show r) λc xs r=>by rw[zak<|i c xs r];show r
   rcases C with rfl|C
   .exact d
   .rintro rfl;rcases f with z|z
    .exact a c b C z
    .rw[C]at z;cases z;show U R
end
structure Un(fs ex:List Ad)(H H':Hp)(h h':Heap):Prop where
 keep:∀b o,h.get? b=G o->H b=B->b∉fs->b∉ex->h'.get? b=G o
 slot:∀b o,h.get? b=G o->H b=B->b∈fs->b∉ex->∃sl,h'.get? b=G {o with slots:=sl}
 free:∀b o,h.get? b=G o->H b=B->b∉ex->H' b=B
 there:∀b o,h.get? b=G o->b∉ex->∃o',h'.get? b=G o'
 tups:∀b xs,H b=G (.tup xs)->H' b=G (.tup xs)
 frzs:∀b o u,H b=G (.frz o u)->H' b=G (.frz o u)
 tbls:∀b qs ps,H b=G (.tbl qs ps)->H' b=G (.tbl qs ps)
section
variable {fs fs' ex ex':List Ad}{H H1 H2:Hp}{h h1 h2 h':Heap}{a x e:Ad}{o:HO}
theorem Un.any(u:Un fs ex H H1 h h1)(q:h.get? b=G ob)(n:H b=B)(O:b∉ex):∃f,h1.get? b=G {ob with slots:=f}:=by
 by_cases U:b∈fs
 .exact u.slot b ob q n U O
 .exact⟨ob.slots,u.keep b ob q n U O⟩
theorem Un.kept(k:∀b u,h.get? b=G u->h'.get? b=G u):Un fs ex H H h h' :=
 ⟨λb ob q _ _ _=>k b ob q,λb ob q _ _ _=>⟨ob.slots,k b ob q⟩,λ_ _ _ n _=>n,λb ob q _=>⟨ob,k b ob q⟩,λ_ _ q=>q,λ_ _ _ q=>q,λ_ _ _ q=>q⟩
theorem Un.refl:Un fs ex H H h h:=Un.kept λ_ _ q=>q
theorem Un.laid(k:∀b u,h.get? b=G u->h'.get? b=G u)(L:h.objs.size<=a)(I:H a=B):Un fs ex H (upd H a o) h h' where
 keep:=λb u q _ _ _=>k b u q
 slot:=λb u q _ _ _=>⟨u.slots,k b u q⟩
 free:=λb u q n _=>by rw[zak<|y0o (y0p (y0e q) L)];show n
 there:=λb u q _=>⟨u,k b u q⟩
 tups:=λb xs q=>by rw[zak<|zas q I];show q
 frzs:=λb u xs q=>by rw[zak<|zas q I];show q
 tbls:=λb qs ps q=>by rw[zak<|zas q I];show q
theorem Un.write(j:Mut<|H x)(f:e=x\/H e=G (.own x))(k:∀b u,b≠e->h.get? b=G u->h'.get? b=G u)(g:∃u,h'.get? e=G u):Un fs ex H (upd H x o) h h':=by
 let O:∀b,H b=B->b≠x:=λb n z=>by subst z;rw[n]at j;show j
 let U:∀b,H b=B->b≠e:=λb n z=>by
  subst z;rcases f with r|r
  .exact O b n r
  .rw[n]at r;cases r
 let J:∀b u,H b=G u->¬Mut (G u)->b≠x:=λb u q nm z=>by subst z;rw[q]at j;show nm j
 apply⟨λb u q n _ _=>k b u (U b n) q,λb u q n _ _=>⟨u.slots,k b u (U b n) q⟩,λb u q n _=>by rw[zak<|O b n];show n,λb u q _=>?_,
  λb xs q=>by rw[zak<|J b _ q λz=>z];show q,λb u xs q=>by rw[zak<|J b _ q λz=>z];show q,λb qs ps q=>by rw[zak<|J b _ q λz=>z];show q⟩
 by_cases d:b=e
 .subst d;show g
 .exact⟨u,k b u d q⟩
end
noncomputable def trk(h:Heap)(H:Hp):List Ad:=(List.range h.objs.size).filter λa=>(H a).isSome
def hidT(h:Heap)(H:Hp):Heap:=PySem.W.hideAll h<|trk h H
theorem zrx(h:Heap)(H:Hp):(hidT h H).objs.size=h.objs.size:=PySem.W.hideAll_size _ _
theorem zu9(e:h.get? b=G o)(n:H b=B):(hidT h H).get? b=G o :=
 PySem.W.hideAll_get _ e λJ=>by
  let q:(H b).isSome=N:=(y1i.mp J).2;rw[n]at q;simp at q
theorem zxu(e:(hidT h H).get? b=G o):h.get? b=G o/\H b=B:=by
 let Q:h.get? b=G o:=PySem.W.of_hideAll (trk h H) e;apply⟨Q,?_⟩;cases q:H b with
 |none=>rfl
 |some x =>
  let J:b∈trk h H:=y1i.mpr ⟨y0z.mpr<|y0e Q,by simp[q]⟩;let z:(hidT h H).get? b=B:=PySem.W.hideAll_none (trk h H) J;rw[z]at e;cases e
noncomputable def allNews(g h:Heap)(L:Ad):List (Ad×Obj):=(List.range h.objs.size).filterMap λa=>if a=L\/(g.get? a).isSome=N then B else(h.get? a).map λo=>(a,o)
def rest(g h:Heap)(L d:Ad):List (Ad×Obj):=(allNews g h L).filter λp=>decide (p.1≠d)
structure Mod(K:Frag)(mg:Y1)(base:Heap):Prop where
 kin:K.In base
 glob:base.Ns iz mg
 blt:∃mb,base.Ns jb mb/\∀x:Str,x≠"__name__"->mb x=jc x
 nolimit:base.NoLimit
structure Cx where
 prog:im
 w:World
 K:Frag
 mg:Str->Option Va
 base:Heap
 A:ir
 Nq:List Str
 s₀:ik
 H₀:Hp
 env:Env
 outer:List Env
 stack:List Env
 ex:List Ad
 fn:Str->Bool
 calm:Bool
 pn:List<|Ad×Obj
 xe:Va->ik->Prop
noncomputable def frs(l:List Env):List Ad:=l.filterMap (·.frame)
abbrev Cx.fs(X:Cx):List Ad:=frs X.outer
def Vis(a:Scope)(x:Str):Prop:=a.names.lookup x=G .local\/a.names.lookup x=G .cell\/a.names.lookup x=G .free
def Loc(a:Scope)(x:Str):Prop:=a.names.lookup x=G .local\/a.names.lookup x=G .cell
def Look(env:Env)(h:Heap)(m:Y1)(x:Str)(u:Va):Prop :=
 (env.kindOf x=G .local/\m x=G u)\/((env.kindOf x=G .cell\/env.kindOf x=G .free)/\∃c,env.cells.lookup x=G c/\h.IsCell c (G u))
structure Cx.Ok(X:Cx):Prop where
 mod:Mod X.K X.mg X.base
 kind:X.env.scope.kind=.function
 glob:X.env.globals=iz
 blt:X.env.builtins=jb
 above:X.s₀.heap.objs.size<=X.env.locals
 inj:∀x y c,X.env.cells.lookup x=G c->X.env.cells.lookup y=G c->x=y
 has:∀x,(X.env.kindOf x=G .cell\/X.env.kindOf x=G .free)->∃c,X.env.cells.lookup x=G c
 cab:∀x c,X.fn x=N->X.env.cells.lookup x=G c->X.s₀.heap.objs.size<=c
 hd:X.calm=N->X.A.handled=B
 frames:X.A.frames=G X.stack
 stk:X.stack=X.outer\/(X.stack=X.env::X.outer/\X.env.frame=G X.env.locals)
 exf:∀b∈X.ex,b≠X.env.locals/\∀x c,X.env.cells.lookup x=G c->c≠b
 bs:∀b o,X.base.get? b=G o->X.s₀.heap.get? b=G o/\X.H₀ b=B
 bsz:X.base.objs.size<=X.s₀.heap.objs.size
 noex:∀b o,X.base.get? b=G o->b∉X.ex
 exfs:∀b∈X.ex,b∉X.fs
 funs:X.s₀.heap.FunFrames X.base X.outer
 frf:∀b∈X.fs,X.H₀ b=B
structure Inv(X:Cx)(pins:Y2)(σ:List<|Option V)(H:Hp)(s:ik):Prop where
 ok:X.Ok
 os:s.os=X.s₀.os
 bare:j7 s.gens
 base:Un X.fs X.ex X.H₀ H X.s₀.heap s.heap
 loc:∃m,s.heap.Ns X.env.locals m/\∀(i:Nat) (x:Str) (v:V),X.Nq[i]?=G x->σ[i]?=G (G v)->Vis X.env.scope x->∃u,RelV v u/\Look X.env s.heap m x u
 cell:∀x c,X.env.cells.lookup x=G c->∃v,s.heap.IsCell c v
 free:H X.env.locals=B
 freeC:∀x c,X.env.cells.lookup x=G c->H c=B
 pin:∀p∈X.pn++pins,s.heap.get? p.1=G p.2/\H p.1=B/\p.1≠X.env.locals/\p.1∉X.fs/\∀v,p.2.data ≠ .cell v
 hok:HOk X.prog X.w H s.heap
 len:σ.length=X.Nq.length
section
variable {X:Cx}{pins:Y2}{σ:List (Option V)}{H H':Hp}{s:ik}{h':Heap}
theorem Cx.Ok.nofr(ok:X.Ok)(e:X.base.get? b=G o):b∉X.fs:=λU=>by
 let:=(ok.funs.mem U).1;rw[e]at this;cases this
theorem Inv.bs(I:02 H s):∀b o,X.base.get? b=G o->s.heap.get? b=G o/\H b=B:=λb o e =>
 ⟨I.base.keep b o (I.ok.bs b o e).1 (I.ok.bs b o e).2 (I.ok.nofr e)<|I.ok.noex b o e,I.base.free b o (I.ok.bs b o e).1 (I.ok.bs b o e).2<|I.ok.noex b o e⟩
theorem Inv.bk(I:02 H s):∀b o,X.base.get? b=G o->s.heap.get? b=G o:=λb o e=>(I.bs b o e).1
theorem Inv.mod(I:02 H s):Mod X.K X.mg X.base:=I.ok.mod
theorem Inv.kIn(I:02 H s):X.K.In s.heap:=I.ok.mod.kin.keeps I.bk
theorem Inv.lt(I:02 H s):X.env.locals<s.heap.objs.size:=let⟨_,g,_⟩:=I.loc;g.lt
theorem Inv.sz(I:02 H s):X.s₀.heap.objs.size<=s.heap.objs.size:=y19 I.ok.above<|y1x I.lt
theorem Inv.nofs(I:02 H s){a:Ad}(h:s.heap.objs.size<=a):a∉X.fs:=λU=>by
 let(_,o,j,_):=I.ok.funs.mem U;show Xa (y0p (y0e j)<|y19 I.sz h)<|y1g _
theorem Inv.cne(I:02 H s):∀x c,X.env.cells.lookup x=G c->c≠X.env.locals:=λx c e z=>by
 let(v,o,j,hd):=I.cell x c e;let(m,(D,l,ep,Y,p,_),_):=I.loc;rw[z,Y]at j;cases j;rw[p]at hd;cases hd
theorem Inv.funs(I:02 H s):s.heap.FunFrames X.base X.outer:=by
 let all:∀(l:List Env),(∀b∈frs l,b∈X.fs)->X.s₀.heap.FunFrames X.base l->s.heap.FunFrames X.base l:=by
  intro l
  induction l with
  |nil=>intro _ _;trivial
  |cons env r E =>
   intro hs hl;let(D,(L,o,T,g,j,hd),q):=hl;let A:L∈X.fs:=hs L (by unfold frs;rw[y28,T];show y0c);let(f,e):=I.base.slot L o j (I.ok.frf L A) A λz=>I.ok.exfs L z A;show⟨D,⟨L,_,T,g,e,hd⟩,E (λb U=>hs b<|by unfold frs;rw[y28,T];show y0a _ U) q⟩
 show all X.outer (λ_ U=>U) I.ok.funs
theorem Inv.stack(I:02 H s):s.heap.FunFrames X.base X.stack:=by
 rcases I.ok.stk with e|⟨e,T⟩
 .rw[e];show I.funs
 .rw[e];let(m,g,_):=I.loc;apply .cons (by rw[I.ok.kind];decide) T g ?_ I.funs;show Heap.get?_none_of_le<|y19 I.ok.bsz I.ok.above
theorem Inv.stkSub(I:02 H s):∀b∈frs X.stack,b∈X.env.locals::X.fs:=λb U=>by
 rcases I.ok.stk with e|⟨e,T⟩
 .rw[e]at U;show y0a _ U
 .rw[e]at U;unfold frs at U;rw[y28,T]at U;show U
theorem Inv.stkFree(I:02 H s):∀b∈frs X.stack,H b=B:=λb U=>by
 rcases y06.mp (I.stkSub b U)with e|U
 .rw[e];show I.free
 .let(_,o,j,_):=I.ok.funs.mem U;show I.base.free b o j (I.ok.frf b U) λz=>I.ok.exfs b z U
theorem Inv.step{g':Array jq}{t':Nat}{d':Drawn}{ch:List Ad}(I:02 H s)
  (a:∀b∈ch,(b∈X.ex\/X.s₀.heap.objs.size<=b)/\b≠X.env.locals/\(∀x c,X.env.cells.lookup x=G c->c≠b)/\∀p∈X.pn++pins,p.1≠b)
  (keep:∀b o,b≠X.env.locals->b∉X.fs->b∉ch->s.heap.get? b=G o->H b=B->h'.get? b=G o)
  (slot:∀b o,b≠X.env.locals->b∈X.fs->b∉ch->s.heap.get? b=G o->H b=B->∃f,h'.get? b=G {o with slots:=f}) (free:∀b o,b∉ch->s.heap.get? b=G o->H b=B->H' b=B)
  (there:∀b o,b∉ch->s.heap.get? b=G o->∃D,h'.get? b=G D)
  (tups:∀b xs,H b=G (.tup xs)->H' b=G (.tup xs)) (frzs:∀b o u,H b=G (.frz o u)->H' b=G (.frz o u)) (tbls:∀b qs ps,H b=G (.tbl qs ps)->H' b=G (.tbl qs ps))
  (ns:∀m,s.heap.Ns X.env.locals m->h'.Ns X.env.locals m) (hok:HOk X.prog X.w H' h') (y:j7 g') :
  02 H' {s with heap:=h',gens:=g',drawn:=d',toks:=t'}:=by
 let M:∀b o,X.s₀.heap.get? b=G o->b≠X.env.locals:=λb o e=>y0o<|y0p (y0e e) I.ok.above;let A:∀b o,X.s₀.heap.get? b=G o->b∉X.ex->b∉ch:=λb o e O U=>by
  rcases(a b U).1 with z|z
  .exact O z
  .exact Xa (y0p (y0e e) z)<|y1g _
 let Y:∀x c,X.env.cells.lookup x=G c->∀v,s.heap.IsCell c v->h'.IsCell c v:=λx c e v ⟨o,j,hd⟩=>by
  let w:c∉ch:=λz=>(a c z).2.2.1 x c e rfl;by_cases C:c∈X.fs
  .let(f,q):=slot c o (I.cne x c e) C w j<|I.freeC x c e;show⟨_,q,hd⟩
  .exact⟨o,keep c o (I.cne x c e) C w j<|I.freeC x c e,hd⟩
 apply⟨I.ok,I.os,y,⟨λb o e n U O=>?_,λb o e n U O=>?_,λb o e n O=>?_,λb o e O=>?_,λb xs e=>tups b xs<|I.base.tups b xs e,λb o xs e=>frzs b o xs<|I.base.frzs b o xs e,λb qs ps e=>tbls b qs ps<|I.base.tbls b qs ps e⟩,?_,λx c e=>?_,?_,λx c e=>?_,λp L=>?_,hok,I.len⟩
 .exact keep b o (M b o e) U (A b o e O) (I.base.keep b o e n U O)<|I.base.free b o e n O
 .let(f,J):=I.base.slot b o e n U O;let(E,g):=slot b _ (M b o e) U (A b o e O) J<|I.base.free b o e n O;show⟨E,g⟩
 .let(D,J):=I.base.there b o e O;show free b D (A b o e O) J<|I.base.free b o e n O
 .let(D,J):=I.base.there b o e O;show there b D (A b o e O) J
 .let(m,hn,hl):=I.loc;apply⟨m,ns m hn,λi x v J g Q=>?_⟩;let(u,r,l):=hl i x v J g Q;apply⟨u,r,?_⟩;rcases l with l|⟨k,c,e,z⟩
  .exact .inl l
  .exact .inr ⟨k,c,e,Y x c e _ z⟩
 .let(v,z):=I.cell x c e;show⟨v,Y x c e v z⟩
 .let(m,(o,_,_,j,_),_):=I.loc;show free _ o (λz=>(a _ z).2.1 R) j I.free
 .let(v,o,j,hd):=I.cell x c e;show free c o (λz=>(a c z).2.2.1 x c e R) j<|I.freeC x c e
 .let(e,n,ne,T,d):=I.pin p L;let w:p.1∉ch:=λz=>(a p.1 z).2.2.2 p L rfl;show⟨keep p.1 p.2 ne T w e n,free p.1 p.2 w e n,ne,T,d⟩
theorem Inv.un{t':Nat}(I:02 H s)(u:Un X.fs [] H H' s.heap h')(hok:HOk X.prog X.w H' h'):02 H' {s with heap:=h',toks:=t'}:=by
 let(m,(o,l,ep,j,r),_):=id I.loc;let(f,A):=u.any j I.free (by simp);show I.step (g':=s.gens) (d':=s.drawn) (ch:=[]) (λ_ z=>nomatch z) (λb o _ U _ e n=>u.keep b o e n U<|by simp) (λb o _ U _ e n=>u.slot b o e n U<|by simp) (λb o _ e n=>u.free b o e n<|by simp) (λb o _ e=>u.there b o e<|by simp) u.tups u.frzs u.tbls (λO J=>by
  let(D,d,w,Y,r'):=J;rw[j]at Y;cases Y;show⟨_,d,w,A,r'⟩) hok I.bare
theorem Inv.call{g':Array jq}{t':Nat}{d':Drawn}{ch:List Ad}(I:02 H s)(u:Un (frs X.stack) ch H H' s.heap h')(hok:HOk X.prog X.w H' h')(y:j7 g')
  (a:∀b∈ch,(b∈X.ex\/X.s₀.heap.objs.size<=b)/\b≠X.env.locals/\(∀x c,X.env.cells.lookup x=G c->c≠b)/\∀p∈X.pn++pins,p.1≠b) :
  02 H' {s with heap:=h',gens:=g',drawn:=d',toks:=t'}:=by
 let(m,(o,l,ep,j,r),_):=id I.loc;let(f,A):=u.any j I.free λz=>(a _ z).2.1 rfl;show I.step (ch:=ch) a (λb o A U C e n=>u.keep b o e n (λz=>(y06.mp<|I.stkSub b z).elim A U) C) (λb o _ _ C e n=>u.any e n C) (λb o C e n=>u.free b o e n C) (λb o C e=>u.there b o e C) u.tups u.frzs u.tbls (λO J=>by
  let(D,d,w,Y,r'):=J;rw[j]at Y;cases Y;show⟨_,d,w,A,r'⟩) hok y
theorem Inv.turned{t':Nat}{it:Ad}(I:02 H s)(k:∀b o,b≠it->s.heap.get? b=G o->h'.get? b=G o)(g:H it=B)(A:it≠X.env.locals)
  (Y:it∈X.ex\/X.s₀.heap.objs.size<=it) (M:∀x c,X.env.cells.lookup x=G c->c≠it) (Q:∀p∈X.pn++pins,p.1≠it):02 H {s with heap:=h',toks:=t'}:=by
 let a:∀b u,H b=G u->b≠it:=λb u e z=>by rw[z,g]at e;cases e
 apply I.step (g':=s.gens) (d':=s.drawn) (ch:=[it]) (λb U=>?_) (λb o _ _ C e _=>k b o (λz=>C<|by simp[z]) e) (λb o _ _ C e _=>⟨o.slots,k b o (λz=>C<|by simp[z]) e⟩) (λ_ _ _ _ n=>n)
  (λb o C e=>⟨o,k b o (λz=>C<|by simp[z]) e⟩) (λ_ _ e=>e) (λ_ _ _ e=>e) (λ_ _ _ e=>e) (λm J=>?_) (λb u e=>?_) I.bare
 .let e:b=it:=by simpa using U
  subst e;show⟨Y,A,M,Q⟩
 .let(o,l,ep,j,r):=J;show⟨o,l,ep,k _ o (Ne.symm A) j,r⟩
 .refine(I.hok b u e).stay (λc v C q=>k c v ?_ q) (λ_ q=>q) (λ_ _ _ _ _ q=>q) λ_ _ q=>q;rcases C with z|z
  .rw[z];show a b u e
  .exact a c _ z
theorem Inv.tok(I:02 H s)(t:Nat):02 H {s with toks:=t}:=I.un (h':=s.heap) (t':=t) Un.refl I.hok
theorem Inv.kept(I:02 H s)(k:∀b u,s.heap.get? b=G u->h'.get? b=G u):02 H {s with heap:=h',toks:=t'}:=I.un (Un.kept k)<|I.hok.kept k
theorem Inv.laid{a:Ad}{o:HO}{t':Nat}(I:02 H s)(k:∀b u,s.heap.get? b=G u->h'.get? b=G u)(L:s.heap.objs.size<=a)(new:ObjOk X.prog X.w (upd H a o) h' a o):
  02 (upd H a o) {s with heap:=h',toks:=t'}:=I.un (Un.laid k L<|I.hok.fresh L)<|I.hok.laid k L new
theorem Inv.write(I:02 H s)(j:Mut<|H x)(f:e=x\/H e=G (.own x))(k:∀b u,b≠e->s.heap.get? b=G u->h'.get? b=G u)(g:∃u,h'.get? e=G u)
  (new:ObjOk X.prog X.w (upd H x o) h' x o):02 (upd H x o) {s with heap:=h',toks:=t'}:=I.un (Un.write j f k g)<|I.hok.write j f k g new
theorem Inv.pins_of(I:02 H s)(h:∀p∈a,s.heap.get? p.1=G p.2/\H p.1=B/\p.1≠X.env.locals/\p.1∉X.fs/\∀v,p.2.data ≠ .cell v):Inv X a σ H s :=
 ⟨I.ok,I.os,I.bare,I.base,I.loc,I.cell,I.free,I.freeC,λp L=>(y0v.mp L).elim (λz=>I.pin p<|y2c _ z)<|h p,I.hok,I.len⟩
theorem zm5{Nq:List Str}(hN:Nq.Nodup){i j:Nat}{x:Str}(a:Nq[i]?=G x)(b:Nq[j]?=G x):i=j:=by
 let(Y,J):=y09.mp a;let(M,g):=y09.mp b;show(List.getElem_inj hN).mp<|J.trans g.symm
theorem zi2(I:02 H s)(hN:X.Nq.Nodup)(hi:X.Nq[i]?=G x)(O:Loc X.env.scope x)(r:RelV v u)
  (h:∀s',Inv X pins (σ.set i<|G v) H s'->(∃a,Heap.SameBut a s.heap s'.heap/\(a=X.env.locals\/X.env.cells.lookup x=G a))->Q () s') (T:X.fn x=N\/X.env.scope.names.lookup x=G .local:=by first|show .inl rfl|show .inr rfl|assumption):wpAny M A (jR X.env x u) Q E s:=by
 let(m,hn,hl):=id I.loc;let hcls:(X.env.scope.kind ==.class||(X.env.scope.kind ==.module&&X.env.locals !=X.env.globals))=Fa:=by rw[I.ok.kind];rfl
 let ol:i<σ.length:=by rw[I.len];show(y09.mp hi).1
 let cne:=I.cne;let w:∀{a:Ad} {h':Heap},(∃o,s.heap.get? a=G o/\H a=B)->Heap.SameBut a s.heap h'->HOk X.prog X.w H h':=λ{a h'} ha hs b ob e=>by
  let(_,_,ko):=ha;apply(I.hok b ob e).stay (λc w' C q=>(hs.2 c ?_).trans q) (λ_ q=>q) (λ_ _ _ _ _ q=>q) λ_ _ q=>q;rintro rfl;rcases C with rfl|C
  .rw[ko]at e;cases e
  .rw[ko]at C;cases C
 rcases O with D|D
 .refine wpAny_storeName_local D hn (λh' hn' hs=>?_) hcls;let(oL,_,_,hoL,_):=id hn;apply h _ ⟨I.ok,I.os,I.bare,⟨λb o e n U O=>?_,λb o e n U O=>?_,I.base.free,λb o e O=>?_,I.base.tups,I.base.frzs,I.base.tbls⟩,⟨_,hn',λj y v' J g e3=>?_⟩,λy c e=>?_,I.free,I.freeC,λp L=>?_,w ⟨oL,hoL,I.free⟩ hs,by simpa using I.len⟩ ⟨_,hs,.inl R⟩
  .exact(hs.2 b<|y0o (y0p (y0e e) I.ok.above)).trans<|I.base.keep b o e n U O
  .let(f,J):=I.base.slot b o e n U O;show⟨f,(hs.2 b<|y0o (y0p (y0e e) I.ok.above)).trans J⟩
  .let(o',J):=I.base.there b o e O;show⟨o',(hs.2 b<|y0o (y0p (y0e e) I.ok.above)).trans J⟩
  .by_cases hj:j=i
   .subst hj;rw[hi]at J;cases J;rw[y4z ol]at g;cases g;show⟨u,r,.inl ⟨D,by simp⟩⟩
   .rw[List.getElem?_set_ne (Ne.symm hj)]at g;let(u',r',q):=hl j y v' J g e3;apply⟨u',r',?_⟩;rcases q with⟨k,e⟩|⟨k,c,e,z⟩
    .refine .inl ⟨k,?_⟩;let:y≠x:=λe=>hj<|zm5 hN J (e▸hi);simp[this,e]
    .exact .inr ⟨k,c,e,z.sameBut hs<|cne y c e⟩
  .let(w',z):=I.cell y c e;show⟨w',z.sameBut hs<|cne y c e⟩
  .let(e,n,ne,nf,d):=I.pin p L;show⟨(hs.2 p.1 ne).trans e,n,ne,nf,d⟩
 .let bq:X.fn x=N:=by
   rcases T with z|z
   .exact z
   .rw[z]at D;cases D
  let(c,C):=I.ok.has x<|.inl D;let(w',z):=I.cell x c C;apply wpAny_storeName_cell I.ok.kind D C z λh' au hs=>?_;let(oc,l,hocd):=id z;apply h {s with heap:=h'} ⟨I.ok,I.os,I.bare,⟨λb o e n U O=>?_,λb o e n U O=>?_,I.base.free,λb o e O=>?_,I.base.tups,I.base.frzs,I.base.tbls⟩,⟨m,hn.sameBut hs<|Ne.symm (cne x c C),λj y v' J g e3=>?_⟩,λy c' e=>?_,I.free,I.freeC,λp L=>?_,w ⟨oc,l,I.freeC x c C⟩ hs,by simpa using I.len⟩ ⟨c,hs,.inr C⟩
  .exact(hs.2 b<|y0o (y0p (y0e e)<|I.ok.cab x c bq C)).trans<|I.base.keep b o e n U O
  .let(f,J):=I.base.slot b o e n U O;show⟨f,(hs.2 b<|y0o (y0p (y0e e)<|I.ok.cab x c bq C)).trans J⟩
  .let(o',J):=I.base.there b o e O;show⟨o',(hs.2 b<|y0o (y0p (y0e e)<|I.ok.cab x c bq C)).trans J⟩
  .by_cases hj:j=i
   .subst hj;rw[hi]at J;cases J;rw[y4z ol]at g;cases g;show⟨u,r,.inr ⟨.inl D,c,C,au⟩⟩
   .rw[List.getElem?_set_ne (Ne.symm hj)]at g;let(u',r',q):=hl j y v' J g e3;apply⟨u',r',?_⟩;rcases q with q|⟨k,c',e,z'⟩
    .exact .inl q
    .refine .inr ⟨k,c',e,z'.sameBut hs ?_⟩;rintro rfl;show hj<|zm5 hN J (I.ok.inj _ _ _ e C▸hi)
  .by_cases hcc:c'=c
   .subst hcc;show⟨_,au⟩
   .let(w2,z2):=I.cell y c' e;show⟨w2,z2.sameBut hs hcc⟩
  .let(e,n,ne,nf,d):=I.pin p L;apply⟨(hs.2 p.1 ?_).trans e,n,ne,nf,d⟩;intro q;rw[q,l]at e;let Y:oc=p.2:=Option.some.inj e;show d w' (by rw[←Y];show hocd)
theorem zcw(I:02 H s)(hN:X.Nq.Nodup)(hi:X.Nq[i]?=G x)(O:Loc X.env.scope x)(r:RelV v u)
  (h:∀s',Inv X pins (σ.set i<|G v) H s'->Q () s') (T:X.fn x=N\/X.env.scope.names.lookup x=G .local:=by first|show .inl rfl|show .inr rfl|assumption):wpAny M A (jR X.env x u) Q E s :=
 zi2 I hN hi O r (λs' c _=>h s' c) T
theorem Inv.call'{ch:List Ad}(I:02 H s)(j:s'.os=s.os)(u:Un (frs X.stack) ch H H' s.heap s'.heap)(hok:HOk X.prog X.w H' s'.heap)(y:j7 s'.gens)
  (a:∀b∈ch,(b∈X.ex\/X.s₀.heap.objs.size<=b)/\b≠X.env.locals/\(∀x c,X.env.cells.lookup x=G c->c≠b)/\∀p∈X.pn++pins,p.1≠b):02 H' s':=by
 let(h',g',d',t',D):=s';let e:D=s.os:=j;subst e;show I.call (g':=g') (t':=t') (d':=d') u hok y a
end
abbrev XK:=Va->Option Ad->Hp->Prop
abbrev St:=List<|Option V
abbrev VK:=V->Hp->Prop
abbrev TE:=St->Hp->VK->Prop
abbrev TT:=St->Hp->(Bool->Hp->Prop)->Prop
abbrev TA:=St->Hp->(List V->Hp->Prop)->Prop
structure Ends where
 nx:St->Hp->Prop
 rt:VK
 bk:St->Hp->Prop:=λ_ _=>False
 ct:St->Hp->Prop:=λ_ _=>False
abbrev TS:=Ends->St->Hp->Prop
def EP(X:Cx)(pins:Y2)(σ:St)(Q:VK)(u:Va)(s':ik):Prop:=∃v H',02 H' s'/\RelV v u/\Q v H'
def TP(X:Cx)(pins:Y2)(σ:St)(Q:Bool->Hp->Prop)(b:Bool)(s':ik):Prop:=∃H',02 H' s'/\Q b H'
def AP(X:Cx)(pins:Y2)(σ:St)(Q:List V->Hp->Prop)(us:List Va)(s':ik):Prop:=∃vs H',02 H' s'/\Vals vs us/\Q vs H'
def SP(X:Cx)(pins:Y2)(D:Ends)(f:Flow)(s':ik):Prop :=
 match f with
 |.next=>∃l H',Inv X pins l H' s'/\D.nx l H'
 |.brk=>∃l H',Inv X pins l H' s'/\D.bk l H'
 |.cont=>∃l H',Inv X pins l H' s'/\D.ct l H'
 |.ret u=>∃v l H',Inv X pins l H' s'/\RelV v u/\D.rt v H'
def PE(X:Cx)(e:Expr)(t:TE):Prop :=
 ∀(pins:Y2) (s:ik) (σ:St) (H:Hp) (Q:VK),02 H s->t σ H Q->wpAny 06 X.A (eval e X.env) (EP X pins σ Q) X.xe s
def PT(X:Cx)(e:Expr)(t:TT):Prop :=
 ∀(pins:Y2) (s:ik) (σ:St) (H:Hp) (Q:Bool->Hp->Prop),02 H s->t σ H Q->wpAny 06 X.A (isTrue e X.env<|eval e X.env) (TP X pins σ Q) X.xe s
def PW(X:Cx)(e:Expr)(t:TT):Prop :=
 ∀(c:Sem Va) (pins:Y2) (s:ik) (σ:St) (H:Hp) (Q:Bool->Hp->Prop),02 H s->t σ H Q->wpAny 06 X.A (isTrue e X.env c) (TP X pins σ Q) X.xe s
theorem PW.pt(h:PW X e t):PT X e t:=h _
def PA(X:Cx)(l:List Expr)(t:TA):Prop :=
 ∀(pos:Pos) (pins:Y2) (s:ik) (σ:St) (H:Hp) (Q:List V->Hp->Prop),02 H s->t σ H Q->wpAny 06 X.A (spliced<|ji pos (iq l X.env)) (AP X pins σ Q) X.xe s
def PS(X:Cx)(st:Stmt)(t:TS):Prop :=
 ∀(pins:Y2) (s:ik) (σ:St) (H:Hp) (D:Ends),02 H s->t D σ H->wpAny 06 X.A (exec st X.env) (SP X pins D) X.xe s
def PSs(X:Cx)(st:List Stmt)(t:TS):Prop :=
 ∀(pins:Y2) (s:ik) (σ:St) (H:Hp) (D:Ends),02 H s->t D σ H->wpAny 06 X.A (execs st X.env) (SP X pins D) X.xe s
theorem thn{q:Type}{t:Sem q}{Q d:q->ik->Prop}{M:Model}{A:ir}{E:Y0}{s:ik}(h:wpAny M A t Q E s)(w:∀a s,Q a s->d a s):wpAny M A t d E s:=iy h w λ_ _ x=>x
section
variable {X:Cx}
def tVar(i:Nat):TE:=λσ H Q=>match σ[i]? with
 |some (G v)=>Q v H
 |_=>False
theorem zwq(h:tVar i σ H Q):∃v,σ[i]?=G (G v)/\Q v H:=by
 unfold tVar at h;split at h
 .rename_i e;show⟨_,e,h⟩
 .exact h.elim
theorem zeb(e:σ[i]?=G (G v))(h:Q v H):tVar i σ H Q:=by
 unfold tVar;rw[e];show h
def tC(v:V):TE:=λ_ H Q=>Q v H
theorem zf1{i:Nat}{x:Str}{pos:Pos}(hN:X.Nq[i]?=G x)(hv:Vis X.env.scope x)(hd:(x==("__debug__":Str))=Fa:=by decide)(hcd:(x==("__classdict__":Str))=Fa:=by decide):PE X (.Name x pos) (tVar i):=by
 intro pins s σ H Q I h;let(v,e,h):=zwq h;let(m,g,hl):=I.loc;let(u,r,l):=hl i x v hN e hv;let fin:EP X pins σ Q u s:=⟨v,H,I,r,h⟩;rcases l with⟨D,J⟩|⟨D,c,C,a⟩
 .exact wpAny_Name (wpAny_loadName_local I.ok.kind D g J fin) hd
 .rcases D with D|D
  .exact wpAny_Name (wpAny_loadName_cell I.ok.kind D C a fin) hd
  .exact wpAny_Name (wpAny_loadName_free I.ok.kind D C a fin hcd) hd
theorem zad:PE X (.Constant (.int i) j pos) (tC<|.int i):=λ_ _ _ H _ I h=>wpAny_Constant_int ⟨.int i,H,I.tok _,⟨_,R⟩,h⟩
theorem zf2:PE X (.Constant (.bool b) j pos) (tC<|.bl b):=λ_ _ _ H _ I h=>Constant_bool ⟨.bl b,H,I,R,h⟩
theorem zda:PE X (.Constant .none j pos) (tC .non):=λ_ _ _ H _ I h=>Constant_none ⟨.non,H,I,R,h⟩
theorem zal:PE X (.Constant (.str x) j pos) (tC<|.str x):=λ_ _ _ H _ I h=>Calls.Constant_str ⟨.str x,H,I.tok _,⟨_,R⟩,h⟩
def Gl(X:Cx)(x:Str):Prop:=X.env.kindOf x=G .globalImplicit
theorem zeo{E:Y0}{pins:Y2}{s:ik}{σ:St}{H:Hp}{x:Str}{u:Va}{pos:Pos}{Q:Y0}(I:02 H s)(y:Gl X x)(J:X.mg x=G u)(h:Q u s)
  (hd:(x==("__debug__":Str))=Fa:=by decide):wpAny 06 X.A (eval (.Name x pos) X.env) Q E s :=
 Calls.Name_function_global I.ok.kind y (Calls.loadGlobal_global (by rw[I.ok.glob];show I.mod.glob.keeps I.bk) J h) hd
theorem zd1{E:Y0}{pins:Y2}{s:ik}{σ:St}{H:Hp}{x:Str}{u:Va}{pos:Pos}{Q:Y0}(I:02 H s)(y:Gl X x)(J:X.mg x=B)(hv:jc x=G u)(h:Q u s)
  (g:x≠"__name__":=by decide) (hd:(x==("__debug__":Str))=Fa:=by decide):wpAny 06 X.A (eval (.Name x pos) X.env) Q E s:=by
 let(mb,Y,M):=I.mod.blt;show Calls.Name_function_global I.ok.kind y (Calls.loadGlobal_builtin (by rw[I.ok.glob];show I.mod.glob.keeps I.bk) J (by rw[I.ok.blt];show Y.keeps I.bk) ((M x g).trans hv) h) hd
theorem zqj(y:Gl X x)(J:X.mg x=G u)(r:RelV v u)(hd:(x==("__debug__":Str))=Fa:=by decide):PE X (.Name x pos) (tC v) :=
 λ_ _ _ H _ I h=>zeo I y J ⟨v,H,I,r,h⟩ hd
theorem zdo{x:Str}{v:V}{u:Va}{pos:Pos}(y:Gl X x)(J:X.mg x=B)(hv:jc x=G u)(r:RelV v u)(g:x≠"__name__":=by decide)(hd:(x==("__debug__":Str))=Fa:=by decide):PE X (.Name x pos) (tC v) :=
 λ_ _ _ H _ I h=>zd1 I y J hv ⟨v,H,I,r,h⟩ g hd
variable {a b:Expr}{ta tb:TE}{pos:Pos}
def asI(x:V)(k:Int->Prop):Prop:=match x with
 |.int i=>k i
 |_=>False
theorem zd9(h:asI x k):∃i,x=.int i/\k i:=by
 cases x<;>first|show⟨_,R,h⟩|show False.elim h
theorem asI_l:asI (.int i) k=k i:=rfl
def asR(x:V)(k:Ad->Prop):Prop:=match x with
 |.ref i=>k i
 |_=>False
theorem zcf(h:asR x k):∃i,x=.ref i/\k i:=by
 cases x<;>first|show⟨_,R,h⟩|show False.elim h
theorem asR_l:asR (.ref i) k=k i:=rfl
def asS(x:V)(k:Str->Prop):Prop:=match x with
 |.str i=>k i
 |_=>False
theorem zs4(h:asS x k):∃i,x=.str i/\k i:=by
 cases x<;>first|show⟨_,R,h⟩|show False.elim h
theorem asS_l:asS (.str i) k=k i:=rfl
def asB(x:V)(k:Bool->Prop):Prop:=match x with
 |.bl i=>k i
 |_=>False
theorem zkr(h:asB x k):∃i,x=.bl i/\k i:=by
 cases x<;>first|show⟨_,R,h⟩|show False.elim h
theorem asB_l:asB (.bl i) k=k i:=rfl
def tB(t:TE):TT:=λσ H Q=>t σ H λx H1=>asB x λc=>Q c H1
theorem zb4(h:PE X e t)(f:∀c,isTrue e X.env c=(do let v ←c;standAt e.pos;holding [v] (truthy v)):=by intro _;rfl):PT X e (tB t):=by
 intro pins s σ H Q I j;apply isTrue_plain (thn (h pins s σ H _ I j) λv s1 zz=>ex5 zz λx H1 I1 r1 w=>?_)<|f _;let(d,rfl,q):=zkr w;cases r1;show iD ⟨H1,I1,q⟩
variable {tA tB':TT}{rest:List Expr}
def tAnd(t u:TT):TT:=λσ H Q=>t σ H λc H1=>if c=N then u σ H1 Q else Q Fa H1
def tOr(t u:TT):TT:=λσ H Q=>t σ H λc H1=>if c=N then Q N H1 else u σ H1 Q
def tNot(t:TT):TT:=λσ H Q=>t σ H λc H1=>Q (!c) H1
theorem zw7(d:PT X a tA):PW X (.BoolOp .And [a] pos) tA:=by
 intro f pins s σ H Q I h;apply isTrue_and<|thn (d pins s σ H Q I h) λc s1 e=>?_;cases c with
 |true=>show isTrue_and_nil e
 |false=>show e
theorem zdu(d:PT X a tA):PW X (.BoolOp .Or [a] pos) tA:=by
 intro f pins s σ H Q I h;apply isTrue_or<|thn (d pins s σ H Q I h) λc s1 e=>?_;cases c with
 |false=>show isTrue_or_nil e
 |true=>show e
theorem zvx(d:PT X a tA)(U:PW X (.BoolOp .And (b::rest) pos) tB'):PW X (.BoolOp .And (a::b::rest) pos) (tAnd tA tB'):=by
 intro f pins s σ H Q I h;apply isTrue_and<|thn (d pins s σ H _ I h) λc s1 ⟨H1,I1,w⟩=>?_;cases c with
 |true=>show U f pins s1 σ H1 Q I1 w
 |false=>show⟨H1,I1,w⟩
theorem ze8(d:PT X a tA)(U:PW X (.BoolOp .Or (b::rest) pos) tB'):PW X (.BoolOp .Or (a::b::rest) pos) (tOr tA tB'):=by
 intro f pins s σ H Q I h;apply isTrue_or<|thn (d pins s σ H _ I h) λc s1 ⟨H1,I1,w⟩=>?_;cases c with
 |true=>show⟨H1,I1,w⟩
 |false=>show U f pins s1 σ H1 Q I1 w
theorem zdv(d:PT X a tA):PT X (.UnaryOp .Not a pos) (tNot tA):=by
 intro pins s σ H Q I h;show isTrue_not<|d pins s σ H (λc H1=>Q (!c) H1) I h
def tAndV(ta tb:TE):TE:=λσ H Q=>ta σ H λx H1=>∃c,x=.bl c/\if c=N then tb σ H1 Q else Q (.bl Fa) H1
def tOrV(ta tb:TE):TE:=λσ H Q=>ta σ H λx H1=>∃c,x=.bl c/\if c=N then Q (.bl N) H1 else tb σ H1 Q
def tNotV(ta:TE):TE:=λσ H Q=>ta σ H λx H1=>∃c,x=.bl c/\Q (.bl<|!c) H1
theorem zcl(h:PE X a t):PE X (.BoolOp A [a] pos) t:=λpins s σ H Q I j=>BoolOp_one<|h pins s σ H Q I j
theorem zdb(d:PE X a ta)(U:PE X (.BoolOp .And (b::rest) pos) tb):PE X (.BoolOp .And (a::b::rest) pos) (tAndV ta tb):=by
 intro pins s σ H Q I h;apply BoolOp_and<|thn (d pins s σ H _ I h) λv s1 zz=>ex5 zz λx H1 I1 r1 w=>?_;let(c,rfl,w):=w;cases r1;apply iD ?_;cases c with
 |true=>show U pins s1 σ H1 Q I1 w
 |false=>show⟨.bl Fa,H1,I1,R,w⟩
theorem zy9(d:PE X a ta)(U:PE X (.BoolOp .Or (b::rest) pos) tb):PE X (.BoolOp .Or (a::b::rest) pos) (tOrV ta tb):=by
 intro pins s σ H Q I h;apply BoolOp_or<|thn (d pins s σ H _ I h) λv s1 zz=>ex5 zz λx H1 I1 r1 w=>?_;let(c,rfl,w):=w;cases r1;apply iD ?_;cases c with
 |false=>show U pins s1 σ H1 Q I1 w
 |true=>show⟨.bl N,H1,I1,R,w⟩
theorem zv1(d:PE X a ta):PE X (.UnaryOp .Not a pos) (tNotV ta):=by
 intro pins s σ H Q I h;apply UnaryOp_<|thn (d pins s σ H _ I h) λv s1 zz=>ex5 zz λx H1 I1 r1 w=>?_;let(c,rfl,w):=w;cases r1;show not_of<|iD ⟨.bl<|!c,H1,I1,R,w⟩
def tIf(t:TT)(ta tb:TE):TE:=λσ H Q=>t σ H λc H1=>if c=N then ta σ H1 Q else tb σ H1 Q
end
def SqL(K:Frag)(H:Hp)(a:Ad)(xs:List V):Prop :=
 Rd H a (.lst xs)\/
  ∃(o:Obj) (its:Array Va) (n:Nat),K.lookup a=G o/\o.cls=.type "list"/\o.dict=B/\o.data=.seq its n/\its.size<=io/\Vals xs its.toList
def SqT(K:Frag)(H:Hp)(a:Ad)(xs:List V):Prop :=
 Rd H a (.tup xs)\/
  ∃(o:Obj) (its:Array Va) (n:Nat),K.lookup a=G o/\o.cls=.type "tuple"/\o.data=.seq its n/\its.size<=io/\Vals xs its.toList
noncomputable def absV:Va->Option V
 |.none=>G .non
 |.bool b=>G<|.bl b
 |.int i _=>G<|.int i
 |.str x _=>G<|.str x
 |.bytes b _=>G<|.byt b
 |.float b _=>G<|.flt b
 |.ref a=>G<|.ref a
 |.type n=>G<|.ty n
 |_=>B
theorem RelV.abs(r:RelV x u):absV u=G x:=by
 cases x with
 |non=>cases r;rfl
 |bl _=>cases r;rfl
 |int _=>let(t,rfl):=r;rfl
 |str _=>let(t,rfl):=r;rfl
 |byt _=>let(t,rfl):=r;rfl
 |flt _=>let(t,rfl):=r;rfl
 |ref _=>cases r;rfl
 |ty _=>cases r;rfl
theorem RelV.inj(r:RelV x u)(q:RelV y u):x=y:=Option.some.inj<|r.abs.symm.trans q.abs
theorem Vals.inj:∀{xs ys:List V} {us:List Va},Vals xs us->Vals ys us->xs=ys
 |_,_,_,.nil,.nil=>rfl
 |_,_,_,.cons r t,.cons r' t'=>by rw[r.inj r',Vals.inj t t']
section
variable {X:Cx}{pins:Y2}{σ:St}{H:Hp}{s:ik}{a:Ad}{xs ys:List V}
theorem SqL.of{K:Frag}(h:H a=G (.lst xs)):SqL K H a xs:=.inl<|.inl h
theorem SqT.of{K:Frag}(h:H a=G (.tup xs)):SqT K H a xs:=.inl<|.inl h
theorem Inv.list(I:02 H s)(h:SqL X.K H a xs):∃its:List Va,Vals xs its/\PlainL s.heap a its.toArray/\xs.length<=io:=by
 rcases h with h|⟨o,its,n,D,C,hd,hs,hz,r⟩
 .let(z,its,n,r,e):=h.ok I.hok;show⟨its,r,⟨_,n,e,R,R,R⟩,z⟩
 .refine⟨its.toList,r,⟨o,n,I.kIn a o D,C,hd,by simpa using hs⟩,?_⟩;let e:=r.length;simp only[y0m]at e;omega
theorem Inv.tuple(I:02 H s)(h:SqT X.K H a xs):∃its:List Va,Vals xs its/\IsTup s.heap a its.toArray/\xs.length<=io:=by
 rcases h with h|⟨o,its,n,D,C,hs,hz,r⟩
 .let(z,its,r,p):=h.ok I.hok;show⟨its,r,p,z⟩
 .refine⟨its.toList,r,⟨o,I.kIn a o D,C,n,by simpa using hs⟩,?_⟩;let e:=r.length;simp only[y0m]at e;omega
theorem Inv.list_inj(I:02 H s)(h:SqL X.K H a xs)(h':SqL X.K H a ys):xs=ys:=by
 let(its,r,(o,n,e,_,_,d),_):=I.list h;let(its',r',(D,n',Q,_,_,d'),_):=I.list h';rw[e]at Q;cases Q;rw[d]at d';injection d' with p _
 let:its=its':=by simpa using congrArg Array.toList p
 subst this;show r.inj r'
theorem Inv.tuple_inj(I:02 H s)(h:SqT X.K H a xs)(h':SqT X.K H a ys):xs=ys:=by
 let(its,r,(o,e,_,n,d),_):=I.tuple h;let(its',r',(D,Q,_,n',d'),_):=I.tuple h';rw[e]at Q;cases Q;rw[d]at d';injection d' with p _
 let:its=its':=by simpa using congrArg Array.toList p
 subst this;show r.inj r'
end
noncomputable abbrev Cx.wish(X:Cx)(E:Y0):Cx:={X with xe:=E}
noncomputable abbrev Cx.nox(X:Cx):Cx:=X.wish λ_ _=>False
theorem Cx.Ok.wish{X:Cx}(ok:X.Ok)(E:Y0):(X.wish E).Ok :=
 ⟨ok.mod,ok.kind,ok.glob,ok.blt,ok.above,ok.inj,ok.has,ok.cab,ok.hd,ok.frames,ok.stk,ok.exf,ok.bs,ok.bsz,ok.noex,ok.exfs,ok.funs,ok.frf⟩
theorem Cx.Ok.unwish{X:Cx}(ok:(X.wish E).Ok):X.Ok :=
 ⟨ok.mod,ok.kind,ok.glob,ok.blt,ok.above,ok.inj,ok.has,ok.cab,ok.hd,ok.frames,ok.stk,ok.exf,ok.bs,ok.bsz,ok.noex,ok.exfs,ok.funs,ok.frf⟩
section
variable {X:Cx}{pins:Y2}{σ:St}{H:Hp}{s:ik}{E:Y0}
theorem Inv.wish(I:02 H s)(E:Y0):Inv (X.wish E) pins σ H s:=⟨I.ok.wish E,I.os,I.bare,I.base,I.loc,I.cell,I.free,I.freeC,I.pin,I.hok,I.len⟩
theorem Inv.unwish(I:Inv (X.wish E) pins σ H s):02 H s:=⟨I.ok.unwish,I.os,I.bare,I.base,I.loc,I.cell,I.free,I.freeC,I.pin,I.hok,I.len⟩
theorem SP.unwish(h:SP (X.wish E) pins D f s'):SP X pins D f s':=by
 cases f with
 |next=>let(l,H',I,q):=h;show⟨l,H',I.unwish,q⟩
 |brk=>let(l,H',I,q):=h;show⟨l,H',I.unwish,q⟩
 |cont=>let(l,H',I,q):=h;show⟨l,H',I.unwish,q⟩
 |ret u=>let(v,l,H',I,r,q):=h;show⟨v,l,H',I.unwish,r,q⟩
theorem PSs.nox{st:List Stmt}{t:TS}(h:PSs X.nox st t):PSs X st t:=λpins s σ H D I j =>
 iy (h pins s σ H D (I.wish _) j) (λ_ _ q=>q.unwish) λ_ _ z=>False.elim z
end
section
variable {X:Cx}{st:Stmt}{rest:List Stmt}{t u:TS}{e:Expr}{te:TE}{pos:Pos}
def tNext:TS:=λD σ H=>D.nx σ H
def tSeq(t u:TS):TS:=λD σ H=>t {D with nx:=u D} σ H
theorem zan:PSs X [] tNext:=λ_ _ σ H _ I h=>iR ⟨σ,H,I,h⟩
theorem zab(Y:PS X st t)(M:PSs X rest u):PSs X (st::rest) (tSeq t u):=by
 intro pins s σ H D I h;apply iP<|thn (Y pins s σ H {D with nx:=u D} I h) λf s1 q=>?_;cases f with
 |next =>
  let(l,H',r,q):=q;show M pins s1 l H' D r q
 |ret v=>show q
 |brk=>show q
 |cont=>show q
theorem zac(Y:PS X st t):PSs X [st] t:=by
 intro pins s σ H D I h;apply iP<|thn (Y pins s σ H D I h) λf s1 q=>?_;cases f with
 |next=>show iR q
 |ret v=>show q
 |brk=>show q
 |cont=>show q
def tBreak:TS:=λD σ H=>D.bk σ H
def tCont:TS:=λD σ H=>D.ct σ H
theorem Inv.quiet{pins:Y2}{σ:St}{H:Hp}{s:ik}(I:02 H s):interactive X.env=Fa:=by simp[interactive,I.ok.kind]
def tDrop(te:TE):TS:=λD σ H=>te σ H λ_ H1=>D.nx σ H1
theorem zdl(f:PE X e te)(hs:j9 e B pos.line X.env=pure Fa:=by rfl):PS X (.Expr e pos) (tDrop te):=by
 intro pins s σ H D I h;show wpAny_Expr_any (thn (f pins s σ H _ I h) λv s1 zz=>ex5 zz λx H1 I1 r1 w=>⟨σ,H1,I1,w⟩) I.quiet hs
def tRet(te:TE):TS:=λD σ H=>te σ H D.rt
theorem zag(f:PE X e te):PS X (.Return (G e) pos) (tRet te):=by
 intro pins s σ H D I h;show wpAny_Return_some<|thn (f pins s σ H _ I h) λv s1 zz=>ex5 zz λx H1 I1 r1 w=>⟨x,σ,H1,I1,r1,w⟩
def tRetN:TS:=λD _ H=>D.rt .non H
def tIfS(c:TT)(t u:TS):TS:=λD σ H=>c σ H λb H1=>if b=N then t D σ H1 else u D σ H1
theorem za6(C:PT X c g)(A:PSs X a t)(U:PSs X b u):PS X (.If c a b pos) (tIfS g t u):=by
 intro pins s σ H D I h;apply wpAny_If<|thn (C pins s σ H _ I h) λd s1 ⟨H1,I1,w⟩=>?_;cases d with
 |true=>show A pins s1 σ H1 D I1 w
 |false=>show U pins s1 σ H1 D I1 w
def tNever:TS:=λ_ _ _=>False
theorem zfi:PS X st tNever:=λ_ _ _ _ _ _ h=>h.elim
end
abbrev TG:=V->St->Hp->(St->Hp->Prop)->Prop
abbrev TGs:=List V->St->Hp->(St->Hp->Prop)->Prop
def PG(X:Cx)(a:Expr)(t:TG):Prop :=
 ∀(pins:Y2) (s:ik) (σ:St) (H:Hp) (v:V) (u:Va) (Q:St->Hp->Prop),02 H s->RelV v u->t v σ H Q->
  wpAny 06 X.A (assign a X.env u) (λ_ s'=>∃l H',Inv X pins l H' s'/\Q l H') X.xe s
def PGs(X:Cx)(ts:List Expr)(t:TGs):Prop :=
 ∀(pins:Y2) (s:ik) (σ:St) (H:Hp) (vs:List V) (us:List Va) (Q:St->Hp->Prop),02 H s->Vals vs us->t vs σ H Q->
  wpAny 06 X.A (assignInOrder ((jv ts X.env).map (·.2)) us) (λ_ s'=>∃l H',Inv X pins l H' s'/\Q l H') X.xe s
abbrev TSet:=V->V->V->Hp->(Hp->Prop)->Prop
abbrev TIp:=V->V->Hp->VK->Prop
def PIp(X:Cx)(A:Operator)(t:TIp):Prop :=
 ∀(pins:Y2) (s:ik) (σ:St) (H:Hp) (x y:V) (v u:Va) (Q:VK),02 H s->RelV x v->RelV y u->t x y H Q->
  wpAny 06 X.A (inplaceOp A v u) (EP X pins σ Q) X.xe s
section
variable {X:Cx}{pos:Pos}
def gName(i:Nat):TG:=λv σ H Q=>Q (σ.set i<|G v) H
theorem zam(hN:X.Nq.Nodup)(hi:X.Nq[i]?=G x)(O:Loc X.env.scope x)(T:X.fn x=N\/X.env.scope.names.lookup x=G .local:=by first|show .inl rfl|show .inr rfl|assumption):PG X (.Name x pos) (gName i):=by
 intro pins s σ H v u Q I r h;show wpAny_assign_Name<|zcw I hN hi O r (λs' c=>⟨_,H,c,h⟩) T
def gNil:TGs:=λvs σ H Q=>vs=[]/\Q σ H
def gCons(t:TG)(u:TGs):TGs:=λvs σ H Q=>∃v r,vs=v::r/\t v σ H λl H'=>u r l H' Q
theorem zdm:PGs X [] gNil:=by
 intro pins s σ H vs us Q I r h;let(e,h):=h;subst e;cases r;show assignInOrder_nil ⟨σ,H,I,h⟩
theorem zba(Y:PG X e t)(M:PGs X l u)
  (hs:(jv (e::l) X.env).map (·.2)=assign e X.env::(jv l X.env).map (·.2):=by rfl):PGs X (e::l) (gCons t u):=by
 intro pins s σ H vs us Q I r h;let(v,c,J,h):=h;subst J;cases r with
 |cons r z =>
  rw[hs];apply assignInOrder_cons<|thn (Y pins s σ H _ _ _ I r h) λ_ s1 ⟨a,H1,I1,w⟩=>?_;show M pins s1 a H1 _ _ Q I1 z w
def gTup(K:Frag)(n:Nat)(t:TGs):TG:=λv σ H Q=>∃a xs,v=.ref a/\SqT K H a xs/\xs.length=n/\t xs σ H Q
theorem zy8{l:List Expr}{k:Nat}{t:TGs}{n:Nat}(C:X.calm=N)(h:PGs X l t)
  (g:(jv l X.env).length=n:=by rfl) (E:(jv l X.env).findIdx? (·.1)=B:=by rfl):PG X (.Tuple l k pos) (gTup X.K n t):=by
 intro pins s σ H v u Q I r j;let(a,xs,J,A,hl,j):=j;subst J;cases r;let(its,T,p,hz):=I.tuple A;apply assign_Tuple_tuple (I.ok.hd C) p (by simp[g,←hl,T.length]) E λh' O=>?_;let I1:02 H {s with heap:=h'}:=I.kept (t':=s.toks) λb o e=>O b o (y0o<|y0e e) e;show h pins _ σ H xs _ Q I1 (by simpa using T) j
def gSub(c ti:TE)(t:TSet):TG:=λv σ H Q=>c σ H λo H1=>ti σ H1 λi H2=>t o i v H2 λH3=>Q σ H3
def tAsg(te:TE)(g:TG):TS:=λD σ H=>te σ H λx H1=>g x σ H1 D.nx
theorem zao(hN:X.Nq.Nodup)(hi:X.Nq[i]?=G x)(O:Loc X.env.scope x)(f:PE X e te)(hs:j9 e (G<|.Name x p) pos.line X.env=pure Fa:=by rfl)(T:X.fn x=N\/X.env.scope.names.lookup x=G .local:=by first|show .inl rfl|show .inr rfl|assumption):
  PS X (.Assign [.Name x p] e pos) (tAsg te<|gName i):=by
 intro pins s σ H D I h;apply wpAny_Assign_Name (thn (f pins s σ H _ I h) λv s1 zz=>ex5 zz λy H1 I1 r1 w=>?_) hs;show zcw I1 hN hi O r1 (λs2 Q=>⟨_,H1,Q,w⟩) T
def tPar(i j:Nat)(A:TA):TS:=λD σ H=>A σ H λvs H1=>∃v w,vs=[v,w]/\D.nx ((σ.set i<|G v).set j<|G w) H1
def tAug(i:Nat)(te:TE)(ti:TIp):TS:=λD σ H=>∃x,σ[i]?=G (G x)/\te σ H λy H1=>ti x y H1 λz H2=>D.nx (σ.set i<|G z) H2
theorem zy4(hN:X.Nq.Nodup)(hi:X.Nq[i]?=G x)(O:Loc X.env.scope x)(f:PE X e te)(j:PIp X A ti)(T:X.fn x=N\/X.env.scope.names.lookup x=G .local:=by first|show .inl rfl|show .inr rfl|assumption):
  PS X (.AugAssign (.Name x p) A e pos) (tAug i te ti):=by
 intro pins s σ H D I h;let(v,J,h):=h;let(m,hn,hl):=I.loc;let d:Vis X.env.scope x:=by rcases O with k|k;show .inl k;show .inr<|.inl k
 let(u,r,l):=hl i x v hi J d;apply wpAny_AugAssign_Name ?_;let go:wpAny 06 X.A (eval e X.env) (λw s₂=>wpAny 06 X.A (inplaceOp A u w) (λr s₃=>wpAny 06 X.A (jR X.env x r) (λ_=>SP X pins D .next) X.xe s₃) X.xe s₂) X.xe s:=by
  apply thn (f pins s σ H _ I h) λw s1 zz=>ex5 zz λy H1 I1 r1 Q=>?_;apply thn (j pins s1 σ H1 v y u w _ I1 r r1 Q) λz s2 zz=>ex5 zz λg H2 q Y E=>?_;show zcw q hN hi O Y (λo M=>⟨_,H2,M,E⟩) T
 rcases l with⟨U,L⟩|⟨U,c,C,a⟩
 .exact wpAny_loadName_local I.ok.kind U hn L go
 .rcases U with U|U
  .exact wpAny_loadName_cell I.ok.kind U C a go
  .rcases O with k|k
   .let:X.env.scope.names.lookup x=G .free:=U;rw[k]at this;cases this
   .let:X.env.scope.names.lookup x=G .free:=U;rw[k]at this;cases this
def ipI(f:Int->Int->Int):TIp:=λx y H Q=>∃i j,x=.int i/\y=.int j/\Q (.int<|f i j) H
theorem ip_add:PIp X .Add (ipI λi j=>i+j):=by
 intro pins s σ H x y v u Q I r1 l h;let(i,j,J,g,q):=h;subst J;subst g;let(t,rfl):=r1;let(t',rfl):=l;show iadd_int ⟨.int _,H,I.tok _,⟨_,R⟩,q⟩
end
section
variable {X:Cx}{pos:Pos}
def tWhile(c:TT)(z:TS):TS:=λD σ H=>∃W:Nat->St->Hp->Prop,(∃m,W m σ H)/\∀m σ H,W m σ H->
 c σ H λb H1=>if b=N then∃Nq:St->Hp->Prop,(∀l H',Nq l H'->∃O,O<m/\W O l H')/\z {D with nx:=Nq,ct:=Nq,bk:=D.nx} σ H1 else D.nx σ H1
theorem zh5(L:PassesOwn 06 X.A X.env X.xe)(C:PT X c g)(U:PSs X body z):PS X (.While c body [] pos) (tWhile g z):=by
 intro pins s σ H D I h;let(W,(e,Q),turn):=h;apply wpAny_While<|codeAny_whileLoop (λn s'=>∃l H',Inv X pins l H' s'/\W n l H') ?_ e ⟨σ,H,I,Q⟩;rintro n s1 ⟨a,H1,I1,d⟩;apply iS L<|thn (C pins s1 a H1 _ I1<|turn n a H1 d) λb s2 ⟨H2,q,E⟩=>?_;cases b with
 |true =>
  let(Nq,hN,E):=E;rw[Xq rfl];apply iS L<|thn (U pins s2 a H2 _ q E) λf i o=>?_;cases f with
  |next =>
   let(j,H3,M,r):=o;let(O,J,p):=hN j H3 r;show⟨O,J,j,H3,M,p⟩
  |cont =>
   let(j,H3,M,r):=o;let(O,J,p):=hN j H3 r;show⟨O,J,j,H3,M,p⟩
  |brk=>show o
  |ret v=>show o
 |false =>
  rw[Xp y0g];show iR ⟨a,H2,q,E⟩
end
structure It where
 go:Nat->Hp->Prop
 yld:Nat->Hp->V->Hp->Prop
 stop:Nat->Hp->Prop
def FpOk(X:Cx)(pins:Y2)(H:Hp)(b:Ad):Prop :=
 H b=B/\b≠X.env.locals/\b∉X.fs/\(b∈X.ex\/X.s₀.heap.objs.size<=b)/\(∀x c,X.env.cells.lookup x=G c->c≠b)/\∀p∈X.pn++pins,p.1≠b
theorem Inv.fpOk{X:Cx}{pins:Y2}{σ:St}{H H':Hp}{s:ik}{b:Ad}(I:02 H s)(U:s.heap.objs.size<=b)(g:H' b=B):FpOk X pins H' b:=by
 apply⟨g,y2a<|y0p I.lt U,I.nofs U,.inr<|y19 I.sz U,λx c e z=>?_,λp L z=>?_⟩
 .let(v,q):=I.cell x c e;show Xa (y0p q.lt<|by rw[z];show U)<|y1g _
 .exact Xa (y0p (y0e (I.pin p L).1)<|by rw[z];show U)<|y1g _
structure Turn(P:im)(w:World)(K:Frag)(tg:Expr)(J:It)(fp:List Ad)(it:Ad)(tn:Nat->Heap->Prop):Prop where
 mem:it∈fp
 obj:∀i h,tn i h->∀b∈fp,∃o,h.get? b=G o/\∀v,o.data ≠ .cell v
 keep:∀i h h',tn i h->(∀b∈fp,∀o,h.get? b=G o->h'.get? b=G o)->tn i h'
 item:∀(X:Cx),X.prog=P->X.w=w->X.K=K->X.calm=N->∀(i:Nat) (pins:Y2) (s:ik) (σ:St) (H:Hp) (E:Y0),02 H s->(∀b∈fp,FpOk X pins H b)->tn i s.heap->J.go i H->
  wpAny (model P w) X.A (jy<|.ref it) (λr s1=>∃u,r=G u/\
   wpAny (model P w) X.A (iT tg (.ref it) u) (λ_ s2=>∃x H',02 H' s2/\RelV x u/\J.yld i H x H'/\tn (i+1) s2.heap/\∀b∈fp,H' b=B) E s1) E s
 done:∀(X:Cx),X.prog=P->X.w=w->X.K=K->X.calm=N->∀(i:Nat) (pins:Y2) (s:ik) (σ:St) (H:Hp) (E:Y0),02 H s->(∀b∈fp,FpOk X pins H b)->tn i s.heap->J.stop i H->
  wpAny (model P w) X.A (jy<|.ref it) (λr s1=>r=B/\02 H s1) E s
 self:∀(A:ir) (i:Nat) (s:ik) (Q:Y0) (E:Y0),tn i s.heap->Q (.ref it) s->wpAny (model P w) A (jX<|.ref it) Q E s
abbrev TI:=St->Hp->(It->Hp->Prop)->Prop
def PIE(X:Cx)(pins:Y2)(σ:St)(l:Expr)(Rq:It->Hp->Prop)(a:Va)(s2:ik):Prop :=
 ∃(it:Ad) (fp:List Ad) (tn:Nat->Heap->Prop) (J:It) (H':Hp),a=.ref it/\02 H' s2/\Turn X.prog X.w X.K l J fp it tn/\tn 0 s2.heap/\(∀b∈fp,FpOk X pins H' b)/\Rq J H'
def PI(X:Cx)(l iter:Expr)(w:TI):Prop :=
 ∀(pins:Y2) (s:ik) (σ:St) (H:Hp) (Rq:It->Hp->Prop),02 H s->w σ H Rq->
  wpAny 06 X.A (eval iter X.env) (λv s1=>wpAny 06 X.A (jX v) (PIE X pins σ l Rq) X.xe s1) X.xe s
theorem zrz(j:s.heap.get? it=G o)(C:o.cls=.type n)(hd:o.data=.fields vs)
  (I:["enumerate","zip","dict_itemiterator","dict_reverseitemiterator","odict_iterator","itertools.zip_longest","itertools.pairwise"].contains n=Fa) (w:Q () s):wpAny M A (iT l (.ref it) u) Q E s:=by
 unfold iT;cases l<;>first
  |show ii w
  |(cases u<;>first
    |show ii w
    |(apply ig (lw j ?_)
      rw[C,hd];change wpAny M A (if(["enumerate","zip","dict_itemiterator","dict_reverseitemiterator","odict_iterator","itertools.zip_longest","itertools.pairwise"].contains n&&vs[0]? ==G (iB _))=N then _ else _) Q E s;rw[Xp<|by intro h;rw[I,y1q]at h;cases h];show ii w))
noncomputable def Itl(K:Frag)(a:Ad):It :=
 ⟨λi H=>∃xs x,SqL K H a xs/\xs[i]?=G x,λi H x H'=>H'=H/\∀xs,SqL K H a xs->xs[i]?=G x,λi H=>∃xs,SqL K H a xs/\xs.length<=i⟩
noncomputable def Itt(K:Frag)(a:Ad):It :=
 ⟨λi H=>∃xs x,SqT K H a xs/\xs[i]?=G x,λi H x H'=>H'=H/\∀xs,SqT K H a xs->xs[i]?=G x,λi H=>∃xs,SqT K H a xs/\xs.length<=i⟩
noncomputable def Itr(lo:Int)(n:Nat):It:=⟨λi _=>i<n,λi H x H'=>H'=H/\x=.int (lo+i),λi _=>n<=i⟩
theorem zpm{P:im}{w:World}{K:Frag}{l:Expr}(a it:Ad):Turn P w K l (Itl K a) [it] it (λi h=>h.IsListIter it a i) where
 mem:=by simp
 obj:=λi h st b U=>by
  let e:b=it:=by simpa using U
  subst e;let(o,e,c,d):=st;show⟨o,e,λv z=>by rw[d]at z;cases z⟩
 keep:=λi h h' st k=>st.at λo e=>k it (by simp) o e
 item:=by
  intro X g j f C i pins s σ H E I T st y;subst g j f;let(xs,x,A,O):=y;let(its,rv,p,hz):=I.list A;let(u,Y,D):=rv.get O;let(J,f1,q,L,Q,r):=T it (by simp);apply wpAny_pyNext_list_item st p.isList (x:=u) (by simpa using Y) λh' st' sb=>?_;let I1:02 H {s with heap:=h'}:=I.turned (t':=s.toks) (λb o U e=>(sb.2 b U).trans e) J f1 L Q r;let(o,e,c,d):=id st';show⟨u,R,zrz (s:={s with heap:=h'}) e c d (by decide) ⟨x,H,I1,D,⟨R,λys hy=>by rw[I.list_inj hy A];show O⟩,st',λb U=>(T b U).1⟩⟩
 done:=by
  intro X g j f C i pins s σ H E I T st y;subst g j f;let(xs,A,O):=y;let(its,rv,p,hz):=I.list A;let(J,f1,q,L,Q,r):=T it (by simp);let hl:=rv.length;show wpAny_pyNext_list_end (I.ok.hd C) st p.isList (by simp;omega) λh' M=>⟨R,I.turned (t':=s.toks) (λb o U e=>M b o U e) J f1 L Q r⟩
 self:=λ_ _ _ _ _ st h=>wpAny_pyIter_listiter st h
theorem zny{P:im}{w:World}{K:Frag}{l:Expr}(a it:Ad):Turn P w K l (Itt K a) [it] it (λi h=>h.IsTupleIter it a i) where
 mem:=by simp
 obj:=λi h st b U=>by
  let e:b=it:=by simpa using U
  subst e;let(o,e,c,d):=st;show⟨o,e,λv z=>by rw[d]at z;cases z⟩
 keep:=λi h h' st k=>st.at λo e=>k it (by simp) o e
 item:=by
  intro X g j f C i pins s σ H E I T st y;subst g j f;let(xs,x,A,O):=y;let(its,rv,p,hz):=I.tuple A;let(u,Y,D):=rv.get O;let(J,f1,q,L,Q,r):=T it (by simp);apply wpAny_pyNext_tuple_item st (show s.heap.IsTuple a its.toArray from p) (x:=u) (by simpa using Y) λh' st' sb=>?_;let I1:02 H {s with heap:=h'}:=I.turned (t':=s.toks) (λb o U e=>(sb.2 b U).trans e) J f1 L Q r;let(o,e,c,d):=id st';show⟨u,R,zrz (s:={s with heap:=h'}) e c d (by decide) ⟨x,H,I1,D,⟨R,λys hy=>by rw[I.tuple_inj hy A];show O⟩,st',λb U=>(T b U).1⟩⟩
 done:=by
  intro X g j f C i pins s σ H E I T st y;subst g j f;let(xs,A,O):=y;let(its,rv,p,hz):=I.tuple A;let(J,f1,q,L,Q,r):=T it (by simp);let hl:=rv.length;show wpAny_pyNext_tuple_end (I.ok.hd C) st (show s.heap.IsTuple a its.toArray from p) (by simp;omega) λh' M=>⟨R,I.turned (t':=s.toks) (λb o U e=>M b o U e) J f1 L Q r⟩
 self:=λ_ _ _ _ _ st h=>wpAny_pyIter_tupleiter st h
theorem znz{P:im}{w:World}{K:Frag}{l:Expr}(it:Ad)(lo:Int)(n:Nat):Turn P w K l (Itr lo n) [it] it (λi h=>IsRangeIter h it (lo+(i:Nat)*1) ((n:Int)-(i:Nat)) 1) where
 mem:=by simp
 obj:=λi h st b U=>by
  let e:b=it:=by simpa using U
  subst e;show⟨_,st,λv z=>by
   let D:Data.fields _=Data.cell v:=z;cases D⟩
 keep:=λi h h' st k=>k it (by simp) _ st
 item:=by
  intro X g j f C i pins s σ H E I T st y;subst g j f;let(J,f1,q,L,Q,r):=T it (by simp);let W:=Walks.range (prog:=X.prog) (w:=X.w) (I.ok.hd C) it lo 1 n;apply W.item i s _ _ y st λv h' c hv st' kk=>?_;let(t,rfl):=hv;let I1:02 H {s with heap:=h',toks:=c}:=I.turned (λb o U e=>kk b o (by simpa using U) e) J f1 L Q r;apply⟨_,R,zrz (s:={s with heap:=h',toks:=c}) (n:="range_iterator") st' R R (by decide) ⟨.int<|lo+i,H,I1,⟨t,?_⟩,⟨R,R⟩,st',λb U=>(T b U).1⟩⟩;rw[Int.mul_one]
 done:=by
  intro X g j f C i pins s σ H E I T st y;subst g j f;let(J,f1,q,L,Q,r):=T it (by simp);show wpAny_pyNext_range_end (I.ok.hd C) st (by have:n<=i:=y;omega) λh' M=>⟨R,I.turned (t':=s.toks) (λb o U e=>M b o U e) J f1 L Q r⟩
 self:=λ_ _ _ _ _ st h=>wpAny_pyIter_rangeiter st h
section
variable {X:Cx}{tg:Expr}
def iList(K:Frag)(tl:TE):TI:=λσ H Rq=>tl σ H λx H1=>asR x λa=>(∃xs,SqL K H1 a xs)/\Rq (Itl K a) H1
def iTup(K:Frag)(tl:TE):TI:=λσ H Rq=>tl σ H λx H1=>asR x λa=>(∃xs,SqT K H1 a xs)/\Rq (Itt K a) H1
theorem zxe{l:Expr}{tl:TE}(hl:PE X l tl):PI X tg l (iList X.K tl):=by
 intro pins s σ H Rq I h;apply thn (hl pins s σ H _ I h) λv s1 zz=>ex5 zz λx H1 I1 r1 w=>?_;let(a,e,(xs,A),q):=zcf w;subst e;cases r1;let(its,T,p,hz):=I1.list A;apply iV p.isList ?_;apply⟨s1.heap.objs.size,[s1.heap.objs.size],_,_,H1,R,I1.kept (t':=s1.toks) λb o e=>y03 _ e,zpm a _,⟨_,y0f _ R,R,R⟩,λb U=>?_,q⟩;let e:b=s1.heap.objs.size:=by simpa using U
 subst e;show I1.fpOk (y04 _)<|I1.hok.fresh (y04 _)
theorem zy6{l:Expr}{tl:TE}(hl:PE X l tl):PI X tg l (iTup X.K tl):=by
 intro pins s σ H Rq I h;apply thn (hl pins s σ H _ I h) λv s1 zz=>ex5 zz λx H1 I1 r1 w=>?_;let(a,e,(xs,A),q):=zcf w;subst e;cases r1;let(its,T,p,hz):=I1.tuple A;apply wpAny_pyIter_tuple (show s1.heap.IsTuple a its.toArray from p) ?_;apply⟨s1.heap.objs.size,[s1.heap.objs.size],_,_,H1,R,I1.kept (t':=s1.toks) λb o e=>y03 _ e,zny a _,⟨_,y0f _ R,R,R⟩,λb U=>?_,q⟩;let e:b=s1.heap.objs.size:=by simpa using U
 subst e;show I1.fpOk (y04 _)<|I1.hok.fresh (y04 _)
theorem ztx{pins:Y2}{σ:St}{H:Hp}{s:ik}{Rq:It->Hp->Prop}{E:Y0}{lo hi:Int}{t u v:Tok}{c:Nat}(I:02 H s)(Y:-(2^62)<=lo)(M:lo<2^62)(C:-(2^62)<=hi)(h4:hi<2^62)
  (q:Rq (Itr lo (hi-lo).toNat) H):wpAny 06 X.A (jX<|.ref s.heap.objs.size) (PIE X pins σ tg Rq) E {s with heap:=s.heap.push {cls:=.type "range",data:=.fields #[.int lo t,.int hi u,.int 1 v]},toks:=c}:=by
 apply wpAny_pyIter_range (IsRange.new ..) (small_one Y M C h4) ?_;let I1:02 H {s with heap:=s.heap.push {cls:=.type "range",data:=.fields #[.int lo t,.int hi u,.int 1 v]},toks:=c}:=I.kept λb o e=>y03 _ e;apply⟨(s.heap.push {cls:=.type "range",data:=.fields #[.int lo t,.int hi u,.int 1 v]}).objs.size,[(s.heap.push {cls:=.type "range",data:=.fields #[.int lo t,.int hi u,.int 1 v]}).objs.size],_,_,H,R,
  I1.kept (t':=c) λb o e=>y03 _ e,znz _ lo (hi-lo).toNat,?_,λb U=>?_,q⟩
 .let J:lo+((0:Nat):Int)*1=lo:=by simp
  let g:(((hi-lo).toNat:Nat):Int)-((0:Nat):Int)=Builtin.Range.rangeSize lo hi 1:=by rw[rangeSize_one];split<;>omega
  change IsRangeIter _ _ (lo+((0:Nat):Int)*1) ((((hi-lo).toNat:Nat):Int)-((0:Nat):Int)) 1;rw[J,g];show y0f _ R
 .let e:b=(s.heap.push {cls:=.type "range",data:=.fields #[.int lo t,.int hi u,.int 1 v]}).objs.size:=by simpa using U
  subst e;show I1.fpOk (y04 _)<|I1.hok.fresh (y04 _)
def iRng1(A:TA):TI:=λσ H Rq=>A σ H λvs H1=>∃j:Int,vs=[.int j]/\-(2^62)<=j/\j<2^62/\Rq (Itr 0 j.toNat) H1
def iRng2(A:TA):TI:=λσ H Rq=>A σ H λvs H1=>∃i j:Int,vs=[.int i,.int j]/\(-(2^62)<=i/\i<2^62/\-(2^62)<=j/\j<2^62)/\Rq (Itr i (j-i).toNat) H1
theorem zf0{a:Expr}{A:TA}{p pos:Pos}(y:Gl X "range")(J:X.mg "range"=B)(d:PA X [a] A)(hs:iq [a] X.env=[(Fa,eval a X.env)]:=by rfl):PI X tg (.Call (.Name "range" p) [a] [] pos) (iRng1 A):=by
 intro pins s σ H Rq I h;apply Call_<|zd1 I y J boot_range (PyProof.Rows.callWith_type1 (thn (d pos pins s σ H _ I h) λus s1 zz=>ex5 zz λvs H1 I1 r1 w=>?_) hs R);let(j,e,w,E,q):=w;subst e;cases r1 with
 |cons r z =>
  cases z;let(t,rfl):=r;show call_range_1<|ztx I1 00 00 w E (by simpa using q)
def tFor(w:TI)(g:TG)(z:TS):TS:=λD σ H=>w σ H λJ H1=>∃W:Nat->Nat->St->Hp->Prop,(∃m,W 0 m σ H1)/\∀i m σ H,W i m σ H->
 (J.stop i H/\D.nx σ H)\/(J.go i H/\∃Nq:St->Hp->Prop,(∀l H',Nq l H'->∃O,O<m/\W (i+1) O l H')/\∀x H',J.yld i H x H'->g x σ H' λd H2=>z {D with nx:=Nq,ct:=Nq,bk:=D.nx} d H2)
noncomputable def pinsAt(fp:List Ad)(h:Heap):List (Ad×Obj):=fp.filterMap λb=>(h.get? b).map λo=>(b,o)
theorem zc3(U:b∈fp)(e:h.get? b=G o):(b,o)∈pinsAt fp h:=List.mem_filterMap.mpr ⟨b,U,by rw[e];rfl⟩
theorem zrb(L:p∈pinsAt fp h):p.1∈fp/\h.get? p.1=G p.2:=by
 let(b,U,e):=List.mem_filterMap.mp L;cases q:h.get? b with
 |none=>rw[q]at e;cases e
 |some o =>
  rw[q]at e;let Q:(b,o)=p:=Option.some.inj e;subst Q;show⟨U,q⟩
theorem Inv.pinned{pins:Y2}{σ:St}{H:Hp}{s:ik}{fp:List Ad}(I:02 H s)(T:∀b∈fp,FpOk X pins H b)(j:∀b∈fp,∃o,s.heap.get? b=G o/\∀v,o.data ≠ .cell v):Inv X (pins++pinsAt fp s.heap) σ H s :=
 I.pins_of λp L=>(y0v.mp L).elim (λz=>I.pin p<|y0x _ z) λz=>by
  let(U,e):=zrb z;let(J,f1,q,_):=T p.1 U;let(o,Q,d):=j p.1 U;rw[e]at Q;cases Q;show⟨e,J,f1,q,d⟩
theorem Inv.unpinned{pins pl:Y2}{σ:St}{H:Hp}{s:ik}(I:Inv X (pins++pl) σ H s):02 H s:=I.pins_of λp L=>I.pin p<|y0x _ (y2c _ L)
theorem zey(hp:PassesOwn 06 X.A X.env X.xe)(C:X.calm=N)(hi:PI X tg iter w)(y:PG X tg g)(U:PSs X body z)
  (hs:∀x,jr iter X.env x=pure x:=by intro _;rfl):PS X (.For tg iter body [] pos) (tFor w g z):=by
 intro pins s σ H D I h;apply wpAny_For (thn (hi pins s σ H _ I h) λv s1 Y=>thn Y λitv s2 M=>?_) hs;let(it,fp,tn,J,H2,e,I2,T,st2,q,W,(m0,Q),turn):=M;subst e;let kq:∀{H':Hp},(∀b∈fp,H' b=B)->∀b∈fp,FpOk X pins H' b:=λhn b U=>⟨hn b U,(q b U).2⟩;apply codeAny_forLoop_any (λn s'=>∃i l H',Inv X pins l H' s'/\tn i s'.heap/\(∀b∈fp,H' b=B)/\W i n l H') ?_ m0 ⟨0,σ,H2,I2,st2,λb U=>(q b U).1,Q⟩;rintro n s3 ⟨i,j,H3,I3,st3,fr3,w3⟩;rcases turn i n j H3 w3 with⟨stop,qn⟩|⟨go,Nq,hN,step⟩
 .refine iS hp<|thn (T.done X R R R C i pins s3 j H3 X.xe I3 (kq fr3) st3 stop) λr s4 ⟨L,p⟩=>?_;subst L;show iR ⟨j,H3,p,qn⟩
 .refine iS hp<|thn (T.item X R R R C i pins s3 j H3 X.xe I3 (kq fr3) st3 go) λr s4 ⟨u,L,h4⟩=>?_;subst L;apply iS hp<|thn h4 λ_ s5 zz=>ex5 zz λx H5 A r5 zq=>?_;let(y5,st5,fr5):=zq;let I5':=A.pinned (kq fr5)<|T.obj _ _ st5;apply iS hp<|thn (y _ s5 j H5 x u _ I5' r5<|step x H5 y5) λ_ s6 ⟨σ6,H6,I6,q6⟩=>?_;apply iS hp<|thn (U _ s6 σ6 H6 _ I6 q6) λf s7 q7=>?_;let again:∀{a:St} {H7:Hp},Inv X (pins++pinsAt fp s5.heap) a H7 s7->Nq a H7->∃m,m<n/\∃i l H',Inv X pins l H' s7/\tn i s7.heap/\(∀b∈fp,H' b=B)/\W i m l H':=λ{a H7} c E=>by
   let(O,hm,w7):=hN a H7 E;apply⟨O,hm,i+1,a,H7,c.unpinned,T.keep _ _ _ st5 λb U o e=>(c.pin (b,o)<|y0x _ (y0x _<|zc3 U e)).1,λb U=>?_,w7⟩;let(o,e,d):=T.obj _ _ st5 b U;show(c.pin (b,o)<|y0x _ (y0x _<|zc3 U e)).2.1
  cases f with
  |next=>let(a,H7,c,E):=q7;show again c E
  |cont=>let(a,H7,c,E):=q7;show again c E
  |brk=>let(a,H7,c,q7):=q7;show⟨a,H7,c.unpinned,q7⟩
  |ret v=>let(x7,a,H7,c,r7,q7):=q7;show⟨x7,a,H7,c.unpinned,r7,q7⟩
end
theorem zvb{K:Frag}{a:Ad}{xs:List V}{g:TG}{z:TS}{D:Ends}{σ:St}{H:Hp}(Pv:Nat->St->Hp->Prop)(E:Pv 0 σ H)(hl:∀i σ H,i<=xs.length->Pv i σ H->SqL K H a xs)
  (hs:∀i x σ H,xs[i]?=G x->Pv i σ H->g x σ H λd H2=>z {D with nx:=Pv<|i+1,ct:=Pv<|i+1,bk:=D.nx} d H2) (hd:∀σ H,Pv xs.length σ H->D.nx σ H) :
  ∃W:Nat->Nat->St->Hp->Prop,(∃m,W 0 m σ H)/\∀i m σ H,W i m σ H->
   ((Itl K a).stop i H/\D.nx σ H)\/((Itl K a).go i H/\∃Nq:St->Hp->Prop,(∀l H',Nq l H'->∃O,O<m/\W (i+1) O l H')/\∀x H',(Itl K a).yld i H x H'->g x σ H' λd H2=>z {D with nx:=Nq,ct:=Nq,bk:=D.nx} d H2):=by
 apply⟨λi m σ H=>m=xs.length-i/\i<=xs.length/\Pv i σ H,⟨xs.length,by simp,y18 _,E⟩,?_⟩;rintro i m σ H ⟨rfl,hi,p⟩;let q:=hl i σ H hi p;by_cases f:i<xs.length
 .refine .inr ⟨⟨xs,xs[i],q,by simp[f]⟩,Pv<|i+1,λl H' p'=>⟨xs.length-(i+1),by omega,R,f,p'⟩,λx H' y=>?_⟩;let(e,y):=y;subst e;show hs i x σ _ (y xs q) p
 .let e:i=xs.length:=by omega
  subst e;show .inl ⟨⟨xs,q,y04 _⟩,hd σ H p⟩
theorem zx8{K:Frag}{a:Ad}{xs:List V}{g:TG}{z:TS}{D:Ends}{σ:St}{H:Hp}(Pv:Nat->St->Hp->Prop)(E:Pv 0 σ H)(hl:∀i σ H,i<=xs.length->Pv i σ H->SqT K H a xs)
  (hs:∀i x σ H,xs[i]?=G x->Pv i σ H->g x σ H λd H2=>z {D with nx:=Pv<|i+1,ct:=Pv<|i+1,bk:=D.nx} d H2) (hd:∀σ H,Pv xs.length σ H->D.nx σ H) :
  ∃W:Nat->Nat->St->Hp->Prop,(∃m,W 0 m σ H)/\∀i m σ H,W i m σ H->
   ((Itt K a).stop i H/\D.nx σ H)\/((Itt K a).go i H/\∃Nq:St->Hp->Prop,(∀l H',Nq l H'->∃O,O<m/\W (i+1) O l H')/\∀x H',(Itt K a).yld i H x H'->g x σ H' λd H2=>z {D with nx:=Nq,ct:=Nq,bk:=D.nx} d H2):=by
 apply⟨λi m σ H=>m=xs.length-i/\i<=xs.length/\Pv i σ H,⟨xs.length,by simp,y18 _,E⟩,?_⟩;rintro i m σ H ⟨rfl,hi,p⟩;let q:=hl i σ H hi p;by_cases f:i<xs.length
 .refine .inr ⟨⟨xs,xs[i],q,by simp[f]⟩,Pv<|i+1,λl H' p'=>⟨xs.length-(i+1),by omega,R,f,p'⟩,λx H' y=>?_⟩;let(e,y):=y;subst e;show hs i x σ _ (y xs q) p
 .let e:i=xs.length:=by omega
  subst e;show .inl ⟨⟨xs,q,y04 _⟩,hd σ H p⟩
abbrev R2:=V->V->Hp->VK->Prop
def OpR(X:Cx)(f:Va->Va->Sem Va)(r:R2):Prop :=
 ∀(pins:Y2) (s:ik) (σ:St) (H:Hp) (x y:V) (v u:Va) (Q:VK),02 H s->RelV x v->RelV y u->r x y H Q->
  wpAny 06 X.A (f v u) (EP X pins σ Q) X.xe s
def CallR(X:Cx)(f:Va)(r:List V->Hp->VK->Prop):Prop :=
 ∀(pins:Y2) (s:ik) (σ:St) (H:Hp) (xs:List V) (us:List Va) (Q:VK),02 H s->Vals xs us->r xs H Q->
  wpAny 06 X.A (call f us) (EP X pins σ Q) X.xe s
def tOp(r:R2)(A z:TE):TE:=λσ H Q=>A σ H λx H1=>z σ H1 λy H2=>r x y H2 Q
def tUn(r:V->Hp->VK->Prop)(A:TE):TE:=λσ H Q=>A σ H λx H1=>r x H1 Q
def rI(C:Int->Int->Prop)(g:Int->Int->V):R2:=λx y H Q=>asI x λi=>asI y λj=>C i j/\Q (g i j) H
def rI0(g:Int->Int->V):R2:=λx y H Q=>asI x λi=>asI y λj=>Q (g i j) H
def rU(g:Int->V):V->Hp->VK->Prop:=λx H Q=>asI x λi=>Q (g i) H
section
variable {X:Cx}{a b c:Expr}{ta tb tc:TE}{pos:Pos}
theorem binT(d:PE X a ta)(U:PE X b tb){pins:Y2}{s:ik}{σ:St}{H:Hp}{Rq:V->V->Hp->Prop}(I:02 H s)
  (h:ta σ H λx H1=>tb σ H1 λy H2=>Rq x y H2) {Q:Y0} {f:Va->Va->Sem Va}
  (T:∀v u s2 x y H2,02 H2 s2->RelV x v->RelV y u->Rq x y H2->wpAny 06 X.A (f v u) Q X.xe s2) :
  wpAny 06 X.A (eval a X.env) (λv s₁=>wpAny 06 X.A (eval b X.env) (λu s₂=>wpAny 06 X.A (f v u) Q X.xe s₂) X.xe s₁) X.xe s:=by
 apply thn (d pins s σ H _ I h) λv s1 zz=>ex5 zz λx H1 I1 r1 w=>?_;apply thn (U pins s1 σ H1 _ I1 w) λu s2 zz=>ex5 zz λy H2 O l E=>?_;show T v u s2 x y H2 O r1 l E
theorem zay(j:OpR X (iM A) r)(d:PE X a ta)(U:PE X b tb):PE X (.BinOp a A b pos) (tOp r ta tb):=by
 intro pins s σ H Q I h;show wpAny_BinOp<|binT d U I h λv u s2 x y H2 O rx ry q=>j pins s2 σ H2 x y v u Q O rx ry q
theorem opI{f:Va->Va->Sem Va}{C:Int->Int->Prop}{g:Int->Int->Int}
  (rule:∀(i j:Int) (t u:Tok) (s:ik) (Q:Y0) (E:Y0),C i j->Q (.int (g i j) s.toks) {s with toks:=s.toks+1}->wpAny (model X.prog X.w) X.A (f (.int i t)<|.int j u) Q E s) :
  OpR X f (rI C λi j=>.int<|g i j):=by
 infer_instance;let(i,rfl,h'):=zd9 h;let(j,rfl,Y,q):=zd9 h';let(t,rfl):=rx;let(t',rfl):=ry;show rule i j t t' s _ _ Y ⟨.int<|g i j,H,I.tok _,⟨_,R⟩,q⟩
theorem opI0{f:Va->Va->Sem Va}{g:Int->Int->Int}
  (rule:∀(i j:Int) (t u:Tok) (s:ik) (Q:Y0) (E:Y0),Q (.int (g i j) s.toks) {s with toks:=s.toks+1}->wpAny (model X.prog X.w) X.A (f (.int i t)<|.int j u) Q E s) :
  OpR X f (rI0 λi j=>.int<|g i j):=by
 infer_instance;let(i,rfl,h'):=zd9 h;let(j,rfl,q):=zd9 h';let(t,rfl):=rx;let(t',rfl):=ry;show rule i j t t' s _ _ ⟨.int<|g i j,H,I.tok _,⟨_,R⟩,q⟩
theorem opB0{f:Va->Va->Sem Va}{g:Int->Int->Bool}
  (rule:∀(i j:Int) (t u:Tok) (s:ik) (Q:Y0) (E:Y0),Q (.bool<|g i j) s->wpAny 06 X.A (f (.int i t)<|.int j u) Q E s) :
  OpR X f (rI0 λi j=>.bl<|g i j):=by
 infer_instance;let(i,rfl,h'):=zd9 h;let(j,rfl,q):=zd9 h';let(t,rfl):=rx;let(t',rfl):=ry;show rule i j t t' s _ _ ⟨.bl<|g i j,H,I,R,q⟩
def CDiv(i j:Int):Prop:=0<j/\j<1073741824
def CPow(i j:Int):Prop:=0<=j/\j<=1000000/\i.natAbs<2^64
def CMul(i j:Int):Prop:=(-(2^64)<i/\i<2^64)\/(-(2^64)<j/\j<2^64)
theorem CMul.ok(h:CMul i j):IntMulOk i j:=by
 rcases h with⟨Y,M⟩|⟨Y,M⟩
 .exact .of_left<|intBits_le_64 Y M
 .exact .of_right<|intBits_le_64 Y M
theorem znx(k:Nat):(0:Int)<=2^k:=by
 rw[two_pow_cast];show Int.natCast_nonneg _
theorem zf5:OpR X (iM .Add) (rI0 λi j=>.int<|i+j):=opI0 λ_ _ _ _ _ _ _ q=>add_int q
theorem zdc:OpR X (iM .Sub) (rI0 λi j=>.int<|i-j):=opI0 λ_ _ _ _ _ _ _ q=>sub_int q
theorem zv3:OpR X (iM .Mult) (rI CMul λi j=>.int<|i*j):=opI λ_ _ _ _ _ _ _ C q=>mul_int q C.ok
theorem zf4:OpR X (iM .FloorDiv) (rI CDiv λi j=>.int<|i/j):=opI λi j _ _ _ _ _ C q=>by
 let Y:(0:Int)<j:=C.1;let M:j<1073741824:=C.2;show floordiv_int 00 (by rw[y4o i 00];show q)<|.inl (PyProof.noPylong_small 00)
theorem zdd:OpR X (iM .Mod) (rI (λ_ j=>0<j) λi j=>.int<|i%j):=opI λi j _ _ _ _ _ C q=>by
 let Y:(0:Int)<j:=C;show mod_int' 00 (by rw[Int.fmod_eq_emod_of_nonneg i 00];show q)
theorem zjq:OpR X (iM .LShift) (rI CPow λi j=>.int<|i*2^j.toNat):=opI λ_ _ _ _ _ _ _ C q=>lshift_int_small C.1 C.2.1 C.2.2 q
theorem zv2:OpR X (iM .RShift) (rI (λ_ j=>0<=j) λi j=>.int<|i/2^j.toNat):=opI λi j _ _ _ _ _ C q =>
 rshift_int C (by rw[y4o i<|znx _];show q)
theorem op_and:OpR X (iM .BitAnd) (rI0 λi j=>.int<|Builtin.bitAnd i j):=opI0 λ_ _ _ _ _ _ _ q=>and_int q
end
noncomputable def scal:V->V->Bool
 |.non,.non=>N|.non,.int _=>N|.int _,.non=>N|.non,.bl _=>N|.bl _,.non=>N|.non,.str _=>N|.str _,.non=>N
 |.int _,.int _=>N|.bl _,.bl _=>N|.str _,.str _=>N|.byt _,.byt _=>N
 |.int _,.str _=>N|.str _,.int _=>N|.bl _,.str _=>N|.str _,.bl _=>N
 |_,_=>Fa
def rEq:R2:=λx y H Q=>scal x y=N/\Q (.bl<|decide (x=y)) H
def rNe:R2:=λx y H Q=>scal x y=N/\Q (.bl<|!decide (x=y)) H
theorem zsj:decide (V.int i=V.int j)=(i==j):=by
 rw[y23];simp
theorem zwh:decide (V.bl i=V.bl j)=(i==j):=by
 rw[y23];simp
theorem zsi:decide (V.str i=V.str j)=(i==j):=by
 rw[y23];simp
theorem zsk:decide (V.byt i=V.byt j)=(i.toList==j.toList):=by
 rw[y23];cases i;cases j;simp
section
variable {X:Cx}{a b c:Expr}{ta tb tc:TE}{pos:Pos}
theorem zaz{pins:Y2}{σ:St}{H:Hp}{s:ik}{Q:VK}{k k':Bool}(I:02 H s)(q:Q (.bl k) H)(e:k=k'):EP X pins σ Q (.bool k') s:=by
 subst e;show⟨.bl k,H,I,R,q⟩
theorem op_eq:OpR X (iw .Eq) rEq:=by
 infer_instance;let(hs,q):=h;cases x with
 |non =>
  cases rx;cases y with
  |non=>cases ry;show PySem.EqNone.eq_none_none<|zaz I q (by simp)
  |bl j=>cases ry;show PySem.EqNone.eq_none_bool<|zaz I q (by simp)
  |int j=>let(t',rfl):=ry;show PySem.EqNone.eq_none_int<|zaz I q (by simp)
  |str j=>let(t',rfl):=ry;show PySem.EqNone.eq_none_str<|zaz I q (by simp)
  |_=>show Xa (show Fa=N from hs) y0g
 |bl i =>
  cases rx;cases y with
  |non=>cases ry;show PySem.EqNone.eq_bool_none<|zaz I q (by simp)
  |bl j=>cases ry;show eq_bool<|zaz I q zwh
  |str j=>let(t',rfl):=ry;show PySem.EqMixed.eq_bool_str<|zaz I q (by simp)
  |_=>show Xa (show Fa=N from hs) y0g
 |int i =>
  let(t,rfl):=rx;cases y with
  |non=>cases ry;show PySem.EqNone.eq_int_none<|zaz I q (by simp)
  |int j=>let(t',rfl):=ry;show eq_int<|zaz I q zsj
  |str j=>let(t',rfl):=ry;show PySem.EqMixed.eq_int_str<|zaz I q (by simp)
  |_=>show Xa (show Fa=N from hs) y0g
 |str i =>
  let(t,rfl):=rx;cases y with
  |non=>cases ry;show PySem.EqNone.eq_str_none<|zaz I q (by simp)
  |bl j=>cases ry;show PySem.EqMixed.eq_str_bool<|zaz I q (by simp)
  |int j=>let(t',rfl):=ry;show PySem.EqMixed.eq_str_int<|zaz I q (by simp)
  |str j=>let(t',rfl):=ry;show eq_str<|zaz I q zsi
  |_=>show Xa (show Fa=N from hs) y0g
 |byt i =>
  let(t,rfl):=rx;cases y with
  |byt j=>let(t',rfl):=ry;show PySem.W.eq_bytes<|zaz I q zsk
  |_=>show Xa (show Fa=N from hs) y0g
 |_=>cases y<;>show Xa (show Fa=N from hs) y0g
theorem op_ne:OpR X (iw .NotEq) rNe:=by
 infer_instance;let(hs,q):=h;cases x with
 |non =>
  cases rx;cases y with
  |non=>cases ry;show PySem.EqNone.ne_none_none<|zaz I q (by simp)
  |bl j=>cases ry;show PySem.EqNone.ne_none_bool<|zaz I q (by simp)
  |int j=>let(t',rfl):=ry;show PySem.EqNone.ne_none_int<|zaz I q (by simp)
  |str j=>let(t',rfl):=ry;show PySem.EqNone.ne_none_str<|zaz I q (by simp)
  |_=>show Xa (show Fa=N from hs) y0g
 |bl i =>
  cases rx;cases y with
  |non=>cases ry;show PySem.EqNone.ne_bool_none<|zaz I q (by simp)
  |bl j=>cases ry;show ne_bool<|zaz I q (congrArg not zwh)
  |str j=>let(t',rfl):=ry;show PySem.EqMixed.ne_bool_str<|zaz I q (by simp)
  |_=>show Xa (show Fa=N from hs) y0g
 |int i =>
  let(t,rfl):=rx;cases y with
  |non=>cases ry;show PySem.EqNone.ne_int_none<|zaz I q (by simp)
  |int j=>let(t',rfl):=ry;show ne_int<|zaz I q (congrArg not zsj)
  |str j=>let(t',rfl):=ry;show PySem.EqMixed.ne_int_str<|zaz I q (by simp)
  |_=>show Xa (show Fa=N from hs) y0g
 |str i =>
  let(t,rfl):=rx;cases y with
  |non=>cases ry;show PySem.EqNone.ne_str_none<|zaz I q (by simp)
  |bl j=>cases ry;show PySem.EqMixed.ne_str_bool<|zaz I q (by simp)
  |int j=>let(t',rfl):=ry;show PySem.EqMixed.ne_str_int<|zaz I q (by simp)
  |str j=>let(t',rfl):=ry;show ne_str<|zaz I q (congrArg not zsi)
  |_=>show Xa (show Fa=N from hs) y0g
 |byt i =>
  let(t,rfl):=rx;cases y with
  |byt j=>let(t',rfl):=ry;show PySem.W.ne_bytes<|zaz I q (congrArg not zsk)
  |_=>show Xa (show Fa=N from hs) y0g
 |_=>cases y<;>show Xa (show Fa=N from hs) y0g
theorem zqu:OpR X (iw .Lt) (rI0 λi j=>.bl<|decide (i<j)):=opB0 λ_ _ _ _ _ _ _ q=>lt_int q
theorem zzg:OpR X (iw .LtE) (rI0 λi j=>.bl<|decide (i<=j)):=opB0 λ_ _ _ _ _ _ _ q=>le_int q
theorem zia:OpR X (iw .Gt) (rI0 λi j=>.bl<|decide (j<i)):=opB0 λ_ _ _ _ _ _ _ q=>gt_int q
theorem zqt:OpR X (iw .Lt) (λx y H Q=>∃i j,x=.str i/\y=.str j/\Q (.bl<|decide (i.cps.toList<j.cps.toList)) H):=by
 infer_instance;let(i,j,rfl,rfl,q):=h;let(t,rfl):=rx;let(t',rfl):=ry;show lt_str<|zaz I q R
theorem zjt:OpR X (iw .In) (λx y H Q=>∃i j,x=.str i/\y=.str j/\Q (.bl<|!(Builtin.Str.occurrences j i 0 j.length 1).isEmpty) H):=by
 infer_instance;let(i,j,rfl,rfl,q):=h;let(t,rfl):=rx;let(t',rfl):=ry;show in_str<|zaz I q R
theorem zxm:OpR X (iw .IsNot) (λx y H Q=>y=.non/\Q (.bl<|!decide (x=.non)) H):=by
 infer_instance;let(rfl,q):=h;cases ry;apply isnot_none_gen<|zaz I q ?_;cases x<;>first
  |(cases rx;rfl)
  |(let(t,rfl):=rx;rfl)
theorem nomark(b:Expr)(h:A ≠ .In:=by decide)(M:A ≠ .NotIn:=by decide):jL A b=Fa:=by
 let J:(A==CmpOp.In)=Fa:=by cases A<;>first|rfl|show Xa R h
 let g:(A==CmpOp.NotIn)=Fa:=by cases A<;>first|rfl|show Xa R M
 cases b<;>simp[jL,J,g]
theorem zbh(j:OpR X (iw A) r)(d:PE X a ta)(U:PE X b tb)(J:jL A b=Fa):PE X (.Compare a [A] [b] pos) (tOp r ta tb):=by
 intro pins s σ H Q I h;show wpAny_Compare1 (binT d U I h λv u s2 x y H2 O rx ry q=>j pins s2 σ H2 x y v u Q O rx ry q) J
def tTest(t:TE):TT:=λσ H Q=>t σ H λx H'=>asB x λk=>Q k H'
theorem zaj(j:OpR X (iw A) r)(d:PE X a ta)(U:PE X b tb)(J:jL A b=Fa):PT X (.Compare a [A] [b] pos) (tTest<|tOp r ta tb):=by
 intro pins s σ H Q I h;apply wpAny_isTrue_Compare1 (thn (d pins s σ H _ I h) λv s1 zz=>ex5 zz λx H1 I1 r1 w=>thn (U pins s1 σ H1 _ I1 w) λu s2 zz=>ex5 zz λy H2 O l E =>
  thn (j pins s2 σ H2 x y v u _ O r1 l E) λc i zz=>ex5 zz λz H3 M f o=>?_) J
 let(k,e,o):=zkr o;subst e;cases f;show iD ⟨H3,M,o⟩
def tChain(r r':R2)(ta tb tc:TE):TE:=λσ H Q=>ta σ H λx H1=>tb σ H1 λy H2=>r x y H2 λz H3=>asB z λk =>
 (if k=N then tc σ H3 λw' H4=>r' y w' H4 Q else Q (.bl Fa) H3)
theorem zud(j:OpR X (iw A) r)(Y:OpR X (iw q) r')(ha:PE X a ta)(U:PE X b tb)(C:PE X c tc)
  (J:lastMarks [A,q] [b,c]=Fa:=by with_unfolding_all rfl):PE X (.Compare a [A,q] [b,c] pos) (tChain r r' ta tb tc):=by
 intro pins s σ H Q I h;apply Compare_chain (thn (ha pins s σ H _ I h) λv s1 zz=>ex5 zz λx H1 I1 r1 w=>chain_link (thn (U pins s1 σ H1 _ I1 w) λu s2 zz=>ex5 zz λy H2 O l E =>
  thn (j pins s2 σ H2 x y v u _ O r1 l E) λd i zz=>ex5 zz λz H3 M f o=>?_)) J
 let(k,e,o):=zkr o;subst e;cases f;apply iD ?_;cases k with
 |false=>show ite_ff ⟨.bl Fa,H3,M,R,o⟩
 |true=>show ite_tt<|chain_last (thn (C pins i σ H3 _ M o) λw' L zz=>ex5 zz λD H4 p T g=>Y pins L σ H4 y D u w' Q p l T g)
theorem zty(j:OpR X (iw A) r)(Y:OpR X (iw q) r')(ha:PE X a ta)(U:PE X b tb)(C:PE X c tc)
  (J:lastMarks [A,q] [b,c]=Fa:=by with_unfolding_all rfl):PT X (.Compare a [A,q] [b,c] pos) (tTest<|tChain r r' ta tb tc):=by
 intro pins s σ H Q I h;apply isTrue_chain (thn (ha pins s σ H _ I h) λv s1 zz=>ex5 zz λx H1 I1 r1 w=>test_link (thn (U pins s1 σ H1 _ I1 w) λu s2 zz=>ex5 zz λy H2 O l q2 =>
  thn (j pins s2 σ H2 x y v u _ O r1 l q2) λd i zz=>ex5 zz λz H3 M f o=>?_)) J
 let(k,e,o):=zkr o;subst e;cases f;apply iD ?_;cases k with
 |false =>
  show ite_ff ⟨H3,M,o⟩
 |true =>
  apply ite_tt<|test_last (thn (C pins i σ H3 _ M o) λw' L zz=>ex5 zz λD H4 p T q4=>thn (Y pins L σ H4 y D u w' _ p l T q4) λd' s5 zz=>ex5 zz λE H5 I5 r5 q5=>?_);let(k2,g,q5):=zkr q5;subst g;cases r5;show iD ⟨H5,I5,q5⟩
theorem line63:(io:Nat)<2^63:=by rw[jI];decide
theorem vals1(r:Vals [x] us):∃u,us=[u]/\RelV x u:=by
 cases r with
 |cons r1 l=>cases l;show⟨_,R,r1⟩
theorem vals2(r:Vals [x,y] us):∃u w',us=[u,w']/\RelV x u/\RelV y w':=by
 cases r with
 |cons r1 l =>
  cases l with
  |cons f T=>cases T;show⟨_,_,R,r1,f⟩
theorem zkh(C:X.calm=N):CallR X (.builtin "max") (λxs H Q=>∃i j,xs=[.int i,.int j]/\Q (.int<|if j>i then j else i) H):=by
 intro pins s σ H xs us Q I r h;let(i,j,rfl,q):=h;let(u,w',rfl,(t,rfl),(t',rfl)):=vals2 r;apply max_two_ints (I.ok.hd C) λh' Y k=>⟨_,H,I.kept k,?_,q⟩;by_cases o:j>i
 .rw[Xq o,Xq o];show⟨_,R⟩
 .rw[Xp o,Xp o];show⟨_,R⟩
theorem zsw(C:X.calm=N):CallR X (.builtin "min") (λxs H Q=>∃i j,xs=[.int i,.int j]/\Q (.int<|if j<i then j else i) H):=by
 intro pins s σ H xs us Q I r h;let(i,j,rfl,q):=h;let(u,w',rfl,(t,rfl),(t',rfl)):=vals2 r;apply min_two_ints (I.ok.hd C) λh' Y k=>⟨_,H,I.kept k,?_,q⟩;by_cases o:j<i
 .rw[Xq o,Xq o];show⟨_,R⟩
 .rw[Xp o,Xp o];show⟨_,R⟩
theorem zgg:CallR X (.type "int") (λxs H Q=>(∃i,xs=[.int i]/\Q (.int i) H)\/∃k,xs=[.bl k]/\Q (.int<|if k then 1 else 0) H):=by
 intro pins s σ H xs us Q I r h;rcases h with⟨i,rfl,q⟩|⟨k,rfl,q⟩
 .let(u,rfl,t,rfl):=vals1 r;show call_int_int ⟨.int i,H,I,⟨_,R⟩,q⟩
 .let(u,rfl,r1):=vals1 r;cases r1;show call_int_bool ⟨.int<|if k then 1 else 0,H,I.tok _,⟨_,R⟩,q⟩
end
structure ObjM(h:Heap)(x dx C:Ad)(mA:Y1):Prop where
 obj:h.get? x=G (PySem.W.instObj C dx)
 ns:h.Ns1 dx mA
 ne:dx≠x
theorem zrl{h:Heap}(n:h.Ns1 dx U):∃M,h.get? dx=G M/\∀name,PySem.W.lookIn name M=G (U name):=by
 let(o,l,ep,j,hd,D,_,J):=n;apply⟨o,j,λname=>?_⟩;let e:=J name;unfold nsFind lz at e;rw[←Array.find?_toList]at e;unfold PySem.W.lookIn;rw[hd];dsimp only;split
 .rename_i y q;rw[q]at e;show congrArg G e
 .rename_i q;rw[q]at e;let a:l.toList.any (·.refKey)=Fa:=by
   rw[List.any_eq_false];intro y C;let(z,t,u):=D y<|Array.mem_toList_iff.mp C;simp[DictEntry.refKey,u]
  let A:¬l.toList.any (·.refKey)=N:=by rw[a];show y0g
  rw[Xp A];show congrArg G e
theorem ObjM.look(I:ObjM h x dx C U):∃M,PySem.W.InstAt h x (PySem.W.instObj C dx) C (G M)/\∀name,PySem.W.lookIn name M=G (U name) :=
 let⟨M,j,hl⟩:=zrl I.ns
 ⟨M,⟨I.obj,R,R,j⟩,hl⟩
theorem RelO.some_of(r:RelO (G v) o):∃u,o=G u/\RelV v u:=by
 cases o with
 |none=>show(show False from r).elim
 |some u=>show⟨u,R,r⟩
section
variable {P:im}{w:World}{H H':Hp}{h h':Heap}{a C dx:Ad}{fs fs':List (Str×V)}
theorem zx6(hok:HOk P w H h)(e:H a=G (.ins C dx fs)):∃U,ObjM h a dx C U/\(∀f,RelO (fs.lookup f)<|U f)/\PySem.Within U (fs.map (·.1))/\fs.length<=1000/\H dx=G (.own a):=by
 let(d,z,ne,ob,U,n,r,q):=(show ObjOk P w H h a (.ins C dx fs)from hok a _ e);show⟨U,⟨ob,n,ne⟩,r,q,z,d⟩
end
structure Cls(K:Frag)(C:Ad):Prop where
 pg:PySem.W.plainGet K C Str.empty=N
 hd:PySem.W.hasDictIn K C=N
 po:PySem.W.plainOver K C=N
 sa:PySem.W.findIn K (.ref C) "__setattr__"=G (G<|.builtin "object.__setattr__")
theorem Cls.get{K:Frag}{C:Ad}(c:Cls K C)(f:Str):PySem.W.plainGet K C f=N:=c.pg
section
variable {X:Cx}{pins:Y2}{σ:St}{H:Hp}{s:ik}{A:ir}{E:Y0}{Q:Y0}{c:Va}{b:Bool}
inductive TyOf(K:Frag)(H:Hp):V->Va->Prop where
 |non:TyOf K H .non<|.type "NoneType"
 |bl (x:Bool):TyOf K H (.bl x)<|.type "bool"
 |int (i:Int):TyOf K H (.int i)<|.type "int"
 |str (x:Str):TyOf K H (.str x)<|.type "str"
 |flt (x:UInt64):TyOf K H (.flt x)<|.type "float"
 |lst {a:Ad} {xs:List V} (e:H a=G (.lst xs)):TyOf K H (.ref a)<|.type "list"
 |frz {a:Ad} {o:Obj} {xs:List V} (e:H a=G (.frz o<|.lst xs)):TyOf K H (.ref a)<|.type "list"
 |tup {a:Ad} {xs:List V} (e:H a=G (.tup xs)):TyOf K H (.ref a)<|.type "tuple"
 |dK {a:Ad} {kvs:List (Key×V)} (e:H a=G (.dK kvs)):TyOf K H (.ref a)<|.type "dict"
 |dT {a:Ad} {kvs:List (List Key×V)} (e:H a=G (.dT kvs)):TyOf K H (.ref a)<|.type "dict"
 |ins {a C dx:Ad} {fs:List (Str×V)} (e:H a=G (.ins C dx fs)) (cl:Cls K C) (ha:PySem.W.findIn K (.ref C) "__class__"=G (G<|.builtin "object.__class__"))
   (hn:PySem.W.specialIn K (.builtin "object.__class__") "__get__"=G (G<|.builtin "getset_descriptor.__get__")) (htk:PySem.W.takesIn K (.builtin "object.__class__")=G N)
   (hm:PySem.W.mroIn K C (.type "object")=G N):TyOf K H (.ref a)<|.ref C
theorem zru(I:02 H s)(rx:RelV x u)(ty:TyOf X.K H x t)(e:PySem.W.kitOne X.K t c=G b)(h:∀T,Q (.bool b) {s with toks:=T}):
  wpAny 06 A (call (.builtin "isinstance") [u,c]) Q E s:=by
 cases ty with
 |non=>cases(show u=Va.none from rx);show PySem.W.kia_one PySem.W.kitx_none I.kIn True.intro e (λz=>nomatch z) h
 |bl y=>cases(show u=Va.bool y from rx);show PySem.W.kia_one PySem.W.kitx_bool I.kIn True.intro e (λz=>nomatch z) h
 |int i=>let(t,q):=(show∃t,u=Va.int i t from rx);cases q;show PySem.W.kia_one PySem.W.kitx_int I.kIn True.intro e (λz=>nomatch z) h
 |str y=>let(t,q):=(show∃t,u=Va.str y t from rx);cases q;show PySem.W.kia_one PySem.W.kitx_str I.kIn True.intro e (λz=>nomatch z) h
 |flt y=>let(t,q):=(show∃t,u=Va.float y t from rx);cases q;show PySem.W.kia_one PySem.W.kitx_float I.kIn True.intro e (λz=>nomatch z) h
 |@lst a xs D =>
  cases(show u=Va.ref a from rx);let(_,_,n,_,Y):=(show ObjOk X.prog X.w H s.heap a (.lst xs)from I.hok a _ D);show PySem.W.kia_one PySem.W.kitx_list I.kIn ⟨_,Y,R⟩ e (λz=>nomatch z) h
 |@frz a ob xs D =>
  cases(show u=Va.ref a from rx);let(_,_,_,n,_,Y):=(show ObjOk X.prog X.w H s.heap a (.frz ob<|.lst xs)from I.hok a _ D);show PySem.W.kia_one PySem.W.kitx_list I.kIn ⟨_,Y,R⟩ e (λz=>nomatch z) h
 |@tup a xs D =>
  cases(show u=Va.ref a from rx);let(_,_,_,p):=(show ObjOk X.prog X.w H s.heap a (.tup xs)from I.hok a _ D);let(o,Y,M,_):=p;show PySem.W.kia_one PySem.W.kitx_tuple I.kIn ⟨o,Y,M⟩ e (λz=>nomatch z) h
 |@dK a kvs D =>
  cases(show u=Va.ref a from rx);let(_,_,vs,_,p):=(show ObjOk X.prog X.w H s.heap a (.dK kvs)from I.hok a _ D);let(o,l,ep,Y,M,_):=p;show PySem.W.kia_one PySem.W.kitx_dict I.kIn ⟨o,Y,M.1⟩ e (λz=>nomatch z) h
 |@dT a kvs D =>
  cases(show u=Va.ref a from rx);let(_,_,xs,_,o,l,ep,Y,M,_):=(show ObjOk X.prog X.w H s.heap a (.dT kvs)from I.hok a _ D);show PySem.W.kia_one PySem.W.kitx_dict I.kIn ⟨o,Y,M.1⟩ e (λz=>nomatch z) h
 |@ins a C dx fs D cl d g f L =>
  cases(show u=Va.ref a from rx);let(U,O,_):=zx6 I.hok D;let(j,J,_):=O.look;show PySem.W.kia_one (PySem.W.kitx_own (cl.get _) cl.hd d g f L) I.kIn J e (λz=>nomatch z) h
end
structure Room(k:Nat)(A:ir):Prop where
 hd:A.handled=B
 dp:A.depth+3*k+5<jY
 un:A.units+16*k+200<cLine
theorem Room.mono(r:Room k A)(h:j<=k):Room j A:=⟨r.hd,by have:=r.dp;omega,by have:=r.un;omega⟩
theorem Room.deeper(r:Room (k+1) A)(env:Env):Room k (A.deeper env) :=
 ⟨r.hd,by have:=r.dp;change A.depth+1+3*k+5<_;omega,by have:=r.un;change A.units+3+16*k+200<_;omega⟩
theorem Room.depth(r:Room k A):A.depth<jY:=by have:=r.dp;omega
theorem Room.units(r:Room k A):A.units+64<cLine:=by have:=r.un;omega
def tNil:TA:=λ_ H Q=>Q [] H
def tCons(A:TE)(l:TA):TA:=λσ H Q=>A σ H λx H1=>l σ H1 λxs H2=>Q (x::xs) H2
section
variable {X:Cx}{e:Expr}{es:List Expr}{te:TE}{t:TA}{pos:Pos}
theorem zaa:PA X [] tNil:=λ_ _ _ _ H Q I h=>Calls.spliced_nil ⟨[],H,I,.nil,h⟩
theorem zxk(d:PE X e te)(L:PA X es t)(hs:iq (e::es) X.env=(Fa,eval e X.env)::iq es X.env:=by rfl):PA X (e::es) (tCons te t):=by
 intro pos pins s σ H Q I h;rw[hs];change wpAny _ _ (spliced ((Fa,eval e X.env)::ji pos (iq es X.env))) _ _ s;apply Calls.spliced_cons<|thn (d pins s σ H _ I h) λu s1 zz=>ex5 zz λx H1 I1 r1 w=>?_;show thn (L pos pins s1 σ H1 _ I1 w) λus s2 zz=>ex5 zz λxs H2 O l E=>⟨x::xs,H2,O,.cons r1 l,E⟩
def tTup(t:TA):TE:=λσ H Q=>t σ H λxs H1=>xs.length<=io/\∀p,H1 p=B->Q (.ref p) (upd H1 p<|.tup xs)
def tLst(t:TA):TE:=λσ H Q=>t σ H λxs H1=>xs.length<=io/\∀p,H1 p=B->Q (.ref p) (upd H1 p<|.lst xs)
end
abbrev Sp:=List V->Hp->VK->XK->Prop
abbrev CXT:=List Env->Hp->ik->XK->Va->ik->Prop
structure Env0(P:im)(w:World)(K:Frag)(mg:Y1)(base:Heap)(A:ir)(outer:List Env)(s:ik)(H:Hp):Prop where
 frames:A.frames=G outer
 mod:Mod K mg base
 bs:∀b o,base.get? b=G o->s.heap.get? b=G o/\H b=B
 bsz:base.objs.size<=s.heap.objs.size
 funs:s.heap.FunFrames base outer
 frf:∀b∈frs outer,H b=B
 hok:HOk P w H s.heap
 bare:j7 s.gens
def CE(outer:List Env)(P:im)(w:World)(H:Hp)(s:ik)(Q:VK)(u:Va)(s':ik):Prop :=
 ∃v H',s'.os=s.os/\j7 s'.gens/\Un (frs outer) [] H H' s.heap s'.heap/\HOk P w H' s'.heap/\RelV v u/\Q v H'
def CR(CX:CXT)(outer:List Env)(P:im)(w:World)(H:Hp)(s:ik)(Q:VK)(E:XK)(r:Result)(s':ik):Prop :=
 match r with
 |.ok (.ret u)=>CE outer P w H s Q u s'
 |.ok _=>False
 |.error e=>CX outer H s E e s'
structure FnOk(P:im)(w:World)(K:Frag)(mg:Y1)(base:Heap)(CX:CXT)(k:Nat)(f:Ad)(fd:i5)(ps:List Str)(sp:Sp):Prop where
 len:∀vs H Q E,sp vs H Q E->vs.length=ps.length
 run:∀(A:ir) (outer:List Env) (s:ik) (H:Hp) (args:Args) (us:List Va) (vs:List V) (Q:VK) (E:XK),Room k A->Env0 P w K mg base A outer s H->lD s fd args (ps.zip us)->Vals vs us->sp vs H Q E->
  iY (model P w) A (.call (.ref f) args) (CR CX outer P w H s Q E) s
theorem FnOk.mono{P:im}{w:World}{K:Frag}{mg:Y1}{base:Heap}{CX:CXT}{j k:Nat}{f:Ad}{fd:i5}{ps:List Str}{sp:Sp}(F:FnOk P w K mg base CX j f fd ps sp)(h:j<=k):
  FnOk P w K mg base CX k f fd ps sp:=⟨F.len,λA outer s H args us vs Q E L=>F.run A outer s H args us vs Q E<|L.mono h⟩
section
variable {X:Cx}{pins:Y2}{σ:St}{H:Hp}{s s':ik}
theorem Inv.env0(I:02 H s):Env0 X.prog X.w X.K X.mg X.base X.A X.stack s H :=
 ⟨I.ok.frames,I.ok.mod,I.bs,y19 I.ok.bsz I.sz,I.stack,I.stkFree,I.hok,I.bare⟩
theorem Inv.after(I:02 H s)(h:CE X.stack X.prog X.w H s Q u s'):EP X pins σ Q u s':=by
 let(v,H',os,bare,un,hok,r,q):=h;let(M,g,d,t,O):=s';obtain rfl:O=s.os:=os;show⟨v,H',I.call (h':=M) (g':=g) (d':=d) (t':=t) (ch:=[]) un hok bare λb z=>Xa z (by simp),r,q⟩
end
def tCall(sp:Sp)(a:List V)(E:XK)(t:TA):TE:=λσ H Q=>t σ H λvs H1=>sp (vs++a) H1 Q E
def Binds(K:Frag)(fd:i5)(ps:List Str)(ds:List Va):Prop :=
 ∀(s:ik) (us:List Va),K.In s.heap->(us++ds).length=ps.length->lD s fd ⟨us,[]⟩ (ps.zip<|us++ds)
theorem Binds.all{K:Frag}{fd:i5}{ps:List Str}(h:∀us:List Va,us.length=ps.length->iZ fd ⟨us,[]⟩=pure (ps.zip us)):Binds K fd ps []:=λs us _ hl=>by
 rw[y1k]at hl ⊢;show .of_eq<|h us hl
def Passes(CX:CXT)(X:Cx)(E:XK):Prop:=∀(pins:Y2) (σ:St) (H:Hp) (s:ik) (e:Va) (s':ik),02 H s->CX X.stack H s E e s'->X.xe e s'
section
variable {X:Cx}{CX:CXT}{k:Nat}{f C:Ad}{fd:i5}{ps:List Str}{sp:Sp}{dvs:List V}{ds:List Va}{E:XK}{x m:Str}{p pos apos:Pos}{e o:Expr}{es:List Expr}{ta:TE}{t:TA}
theorem zp4{pins:Y2}{σ:St}{H:Hp}{s:ik}{Q:VK}{us:List Va}{vs:List V}(F:FnOk X.prog X.w X.K X.mg X.base CX k f fd ps sp)(L:Room k X.A)(U:Binds X.K fd ps ds)(hd:Vals dvs ds)(O:Passes CX X E)
  (I:02 H s) (r:Vals vs us) (h:sp (vs++dvs) H Q E):wpAny 06 X.A (call (.ref f) us) (EP X pins σ Q) X.xe s:=by
 let l:Vals (vs++dvs) (us++ds):=r.append hd;let hl:(us++ds).length=ps.length:=by rw[←l.length];show F.len _ _ _ _ h
 apply jm<|iG (F.run X.A X.stack s H ⟨us,[]⟩ (us++ds) (vs++dvs) Q E L I.env0 (U s us I.kIn hl) l h) λr s' A=>?_;cases r with
 |error e=>show O pins σ H s e s' I A
 |ok D =>
  cases D with
  |ret u=>show I.after A
  |next=>show False.elim A
  |brk=>show False.elim A
  |cont=>show False.elim A
theorem zxi(F:FnOk X.prog X.w X.K X.mg X.base CX k f fd ps sp)(L:Room k X.A)(y:Gl X x)(J:X.mg x=G (.ref f))(D:PySem.W.keepIn X.K (.ref f)=N)(U:Binds X.K fd ps ds)(hd:Vals dvs ds)(O:Passes CX X E)
  (d:PA X (e::es) t) (j:(x==("__debug__":Str))=Fa:=by decide) (w:iq (e::es) X.env=(Fa,eval e X.env)::iq es X.env:=by rfl) (c:(ji pos<|iq es X.env).any (·.1)=Fa:=by rfl) :
  PE X (.Call (.Name x p) (e::es) [] pos) (tCall sp dvs E t):=by
 intro pins s σ H Q I h;apply iI<|zeo I y J ?_ j;apply PySem.W.callWith_K (h₀:=X.base) I.ok.mod.kin D (thn (d pos pins s σ H _ I h) λus s1 zz=>ex5 zz λvs H1 I1 r q=>⟨I1.kIn,?_⟩) w c;show zp4 F L U hd O I1 r q
end
structure FnScope(Nq P:List Str)(sc:Scope):Prop where
 kind:sc.kind=.function:=by rfl
 co:sc.isCoroutine=Fa:=by rfl
 gen:sc.isGenerator=Fa:=by rfl
 nd:Nq.Nodup:=by decide+kernel
 pre:Nq.take P.length=P:=by rfl
 par:∀x∈P,sc.names.lookup x=G .local\/sc.names.lookup x=G .cell:=by decide+kernel
 nofree:∀y∈sc.names,y.2 ≠ .free:=by decide+kernel
theorem zkp{iH:Str->Option jj}{x:Str}:∀{binds:List (Str×Va)} {m:Y1},(∀v,(x,v)∉binds)->bindL iH binds m x=m x
 |[],_,_=>rfl
 |(n,v)::r,m,h=>by
  unfold bindL;rw[zkp λw j=>h w<|y0a _ j];split
  .let:x≠n:=by rintro rfl;show h v y0c
   simp[this]
  .rfl
theorem zkq{iH:Str->Option jj}{x:Str}:∀{binds:List (Str×Va)} {m:Y1},(∀v,(x,v)∉binds)->bindC iH binds m x=m x
 |[],_,_=>rfl
 |(n,v)::r,m,h=>by
  unfold bindC;rw[zkq λw j=>h w<|y0a _ j];split
  .rfl
  .let:x≠n:=by rintro rfl;show h v y0c
   simp[this]
theorem zgh{iH:Str->Option jj}{x:Str}{v:Va}:∀{P:List Str} {vs:List Va} {i:Nat} {m:Y1},P.Nodup->P[i]?=G x->vs[i]?=G v->iH x=G .local->
  bindL iH (P.zip vs) m x=G v
 |[],_,_,_,_,h,_,_=>by simp at h
 |_::_,[],_,_,_,_,h,_=>by simp at h
 |p::P,w::vs,0,m,nd,Y,M,D=>by
  simp at Y M;subst Y;subst M;change bindL iH ((p,w)::P.zip vs) m p=_;unfold bindL;rw[zkp λv hv=>(y1u.mp nd).1 (y2d hv).1,Xq D];simp
 |p::P,w::vs,i+1,m,nd,Y,M,D=>by
  change bindL iH ((p,w)::P.zip vs) m x=_;unfold bindL;show zgh (i:=i) (y1u.mp nd).2 (by simpa using Y) (by simpa using M) D
theorem zgi{iH:Str->Option jj}{x:Str}{v:Va}:∀{P:List Str} {vs:List Va} {i:Nat} {m:Y1},P.Nodup->P[i]?=G x->vs[i]?=G v->iH x≠G .local->
  bindC iH (P.zip vs) m x=G v
 |[],_,_,_,_,h,_,_=>by simp at h
 |_::_,[],_,_,_,_,h,_=>by simp at h
 |p::P,w::vs,0,m,nd,Y,M,D=>by
  simp at Y M;subst Y;subst M;change bindC iH ((p,w)::P.zip vs) m p=_;unfold bindC;rw[zkq λv hv=>(y1u.mp nd).1 (y2d hv).1,Xp D];simp
 |p::P,w::vs,i+1,m,nd,Y,M,D=>by
  change bindC iH ((p,w)::P.zip vs) m x=_;unfold bindC;show zgi (i:=i) (y1u.mp nd).2 (by simpa using Y) (by simpa using M) D
noncomputable def start(Nq:List Str)(vs:List V):St:=vs.map G++List.replicate (Nq.length-vs.length) B
noncomputable def cxOf(CX:CXT)(P:im)(w:World)(K:Frag)(mg:Y1)(base:Heap)(Nq:List Str)(qual:Str)(scope:Scope)(f:Ad)(cd:Va)(A:ir)(outer:List Env)(s:ik)(H:Hp)(E:XK):Cx where
 prog:=P
 w:=w
 K:=K
 mg:=mg
 base:=base
 A:=A.deeper<|jl qual scope s.heap.objs.size f cd
 Nq:=Nq
 s₀:=s
 H₀:=H
 env:=jl qual scope s.heap.objs.size f cd
 outer:=outer
 stack:=jl qual scope s.heap.objs.size f cd::outer
 ex:=[]
 calm:=N
 fn:=λ_=>N
 pn:=[]
 xe:=λe s'=>wpAny (model P w) (A.deeper<|jl qual scope s.heap.objs.size f cd) (lj (jl qual scope s.heap.objs.size f cd) e) (λ_ d=>CX outer H s E e d) (λQ d=>CX outer H s E Q d) s'
theorem zc9{a:Scope}(h:a.names.lookup x=G .cell):∃c,(i0 n a.names []).lookup x=G c:=by
 let q:=PySem.W.cellsFrom_some a.names n []<|.inl h;show y3p.mp q
theorem zj5{CX:CXT}{P:im}{w:World}{K:Frag}{mg:Y1}{base:Heap}{Nq ps:List Str}{qual:Str}{scope:Scope}{f:Ad}{cd:Va}{A:ir}{outer:List Env}{s s1:ik}{H:Hp}{E:XK}{us:List Va}{vs:List V}
  (S:FnScope Nq ps scope) (hd:A.handled=B) (l:Env0 P w K mg base A outer s H) (hl:vs.length=ps.length) (r:Vals vs us)
  (x:j8 s s.heap.objs.size (bindL (jl qual scope s.heap.objs.size f cd).kindOf (ps.zip us) λ_=>B) (i0 (s.heap.objs.size+1) scope.names []) (bindC (jl qual scope s.heap.objs.size f cd).kindOf (ps.zip us) λ_=>B) s1) :
  Inv (cxOf CX P w K mg base Nq qual scope f cd A outer s H E) [] (start Nq vs) H s1:=by
 let U:ps.length<=Nq.length:=by have:=congrArg List.length S.pre;rw[y0t]at this;omega
 let(Y,I,rfl,D):=x.done;let g:∀b:Ad,b∉(cxOf CX P w K mg base Nq qual scope f cd A outer s H E).ex:=λb z=>Xa (show b∈([]:List Ad)from z) (by simp);apply⟨⟨l.mod,S.kind,R,R,y04 _,λy z c Y M=>?_,λy C=>?_,λy c _ h=>?_,λ_=>hd,Around.frames_deeper l.frames,.inr ⟨R,R⟩,λb z=>Xa z<|g b,l.bs,l.bsz,λb _ _=>g b,λb z=>Xa z<|g b,l.funs,l.frf⟩,
  rfl,l.bare,Un.kept D,⟨_,x.toInCall.ns,λi y v Y M Q=>?_⟩,λy c h=>⟨_,x.cell y c h⟩,l.hok.fresh<|y04 _,λy c h=>?_,λp L=>Xa (show p∈([]:Y2)from L) (by simp),l.hok.kept D,?_⟩
 .exact name_of_addr x.apart (PySem.mem_of_lookup Y)<|PySem.mem_of_lookup M
 .let C:scope.names.lookup y=G .cell\/scope.names.lookup y=G .free:=C;rcases C with C|C
  .exact zc9 C
  .exact Xa R<|S.nofree _ (PySem.mem_of_lookup C)
 .exact y1x<|x.above y c (PySem.mem_of_lookup h)
 .let hi:i<vs.length:=by
   unfold start at M;by_cases hi:i<vs.length
   .exact hi
   .rw[y1b<|by simpa using hi]at M;rw[y3s]at M;split at M<;>cases M
  let d:vs[i]?=G v:=by
   unfold start at M;rw[y15 (by simpa using hi),y05]at M;cases e:vs[i]? with
   |none=>rw[e]at M;cases M
   |some a=>rw[e]at M;cases M;rfl
  let(u,o,T):=r.get d;let L:ps[i]?=G y:=by
   rw[←S.pre,y25 00];show Y
  let j:ps.Nodup:=by rw[←S.pre];show S.nd.sublist<|y3q _ _
  apply⟨u,T,?_⟩;rcases S.par y (y0l L)with k|k
  .exact .inl ⟨k,zgh j L o k⟩
  .let(c,e):=zc9 (n:=s.heap.objs.size+1) k;apply .inr ⟨.inl k,c,e,?_⟩;let q:=x.cell y c e;rw[zgi j L o<|by change scope.names.lookup y≠_;rw[k];decide]at q;show q
 .exact l.hok.fresh<|y1x (x.above y c<|PySem.mem_of_lookup h)
 .unfold start;change _=Nq.length;rw[y0d,y01,y3d];omega
theorem zvc{CX:CXT}{P:im}{w:World}{K:Frag}{mg:Y1}{base:Heap}{k:Nat}{f:Ad}{name qual:Str}{params:iK}{body:List Stmt}{scope:Scope}{d kV doc pm j ct oc:Va}{g od:Option Ad}
  {z:Y8} {Nq ps:List Str} {sp:Sp} (lk:K.lookup f=G ⟨oc,od,.func<|PySem.W.fnOf name qual params body scope d kV doc pm g j ct,z⟩) (hcd:PySem.W.codeIn K j qual=N) (S:FnScope Nq ps scope)
  (len:∀vs H Q E,sp vs H Q E->vs.length=ps.length)
  (i:∀(A:ir) (outer:List Env) (s:ik) (H:Hp) (vs:List V) (Q:VK) (E:XK),Room k (A.deeper<|jl qual scope s.heap.objs.size f j)->sp vs H Q E->
   ∃t,PSs (cxOf CX P w K mg base Nq qual scope f j A outer s H E) body t/\t {nx:=λ_ H'=>Q .non H',rt:=Q} (start Nq vs) H) :
  FnOk P w K mg base CX (k+1) f (PySem.W.fnOf name qual params body scope d kV doc pm g j ct) ps sp:=by
 apply⟨len,λA outer s H args us vs Q E L M U r Y=>?_⟩;let hl:=len _ _ _ _ Y;let KX:K.In s.heap:=M.mod.kin.keeps λb o e=>(M.bs b o e).1;let a:s.heap.NoLimit:=M.mod.nolimit.keeps λb o e=>(M.bs b o e).1;let c:∀y∈ps.zip us,scope.names.lookup y.1=G .local\/(scope.names.lookup y.1=G .cell/\((i0 (s.heap.objs.size+1) scope.names []).lookup y.1).isSome=N):=λ⟨n,v⟩ C=>by
  rcases S.par n (y2d C).1 with q|q
  .exact .inl q
  .exact .inr ⟨q,PySem.W.cellsFrom_some _ _ _<|.inl q⟩
 apply jg L.depth (KX _ _ lk) R S.co S.gen R (PySem.W.codeRec_of KX hcd)<|U _ _ _ _ ?_;apply jA S.kind c λenv he s1 x=>?_;subst he;apply⟨a.keeps x.toInCall.keep,jW ?_⟩;let(t,p,O):=i A outer s H vs Q E (L.deeper _) Y;let I:Inv (cxOf CX P w K mg base Nq qual scope f j A outer s H E) [] (start Nq vs) H s1:=zj5 S L.hd M hl r x;apply iy (p [] s1 (start Nq vs) H _ I O) (λD s' hs=>?_) λe s' hs=>hs;let fin:∀{l:St} {H':Hp} {v:V} {u:Va},Inv (cxOf CX P w K mg base Nq qual scope f j A outer s H E) [] l H' s'->RelV v u->Q v H'->CE outer P w H s Q u s' :=
  λ{l H' v u} J T q=>⟨v,H',J.os,J.bare,J.base,J.hok,T,q⟩
 cases D with
 |ret u =>
  let(v,l,H',J,T,q):=hs;show fin J T q
 |next =>
  let(l,H',J,q):=hs;show fin (v:=V.non) (u:=Va.none) J R q
 |brk =>
  let(_,_,_,q):=hs;show False.elim q
 |cont =>
  let(_,_,_,q):=hs;show False.elim q
section
variable {X:Cx}{x:Str}{p pos:Pos}{e:Expr}{es:List Expr}{t:TA}{id T:String}{r:List V->Hp->VK->Prop}
def tCB(r:List V->Hp->VK->Prop)(t:TA):TE:=λσ H Q=>t σ H λvs H1=>r vs H1 Q
theorem zuf(C:CallR X (.builtin id) r)(y:Gl X x)(J:X.mg x=B)(hv:jc x=G (.builtin id))(d:PA X (e::es) t)(g:x≠"__name__":=by decide)(j:(x==("__debug__":Str))=Fa:=by decide)
  (f:iq (e::es) X.env=(Fa,eval e X.env)::iq es X.env:=by rfl) (c:(ji pos<|iq es X.env).any (·.1)=Fa:=by rfl):PE X (.Call (.Name x p) (e::es) [] pos) (tCB r t):=by
 intro pins s σ H Q I h;apply iI<|zd1 I y J hv ?_ g j;show PyProof.Rows.callWith_builtin1 (thn (d pos pins s σ H _ I h) λus s1 zz=>ex5 zz λvs H1 I1 r1 w=>C pins s1 σ H1 vs us Q I1 r1 w) f c
theorem zqo(C:CallR X (.type T) r)(y:Gl X x)(J:X.mg x=B)(hv:jc x=G (.type T))(d:PA X (e::es) t)(g:x≠"__name__":=by decide)(j:(x==("__debug__":Str))=Fa:=by decide)
  (f:iq (e::es) X.env=(Fa,eval e X.env)::iq es X.env:=by rfl) (c:(ji pos<|iq es X.env).any (·.1)=Fa:=by rfl):PE X (.Call (.Name x p) (e::es) [] pos) (tCB r t):=by
 intro pins s σ H Q I h;apply iI<|zd1 I y J hv ?_ g j;show PyProof.Rows.callWith_type1 (thn (d pos pins s σ H _ I h) λus s1 zz=>ex5 zz λvs H1 I1 r1 w=>C pins s1 σ H1 vs us Q I1 r1 w) f c
end
end L2
namespace HT
open PySem PyProof.Rows
section
open PySem.SeqAt
open PySem.AutoSeq1 (wpAny_loadPart')
open PySem.MeetsSeq PySem.MeetsSeq2 PySem.MeetsSeq3
end
section
variable {prog:im}{w:World}{A:ir}{E:Y0}{s:ik}
theorem cat_tup(p:IsTup s.heap t vs.toArray)(U:IsTup s.heap b l.toArray)(hv:vs≠[])
  (Y:l=[]->Q (.ref t) s) (M:l≠[]->Q (.ref s.heap.objs.size) {s with heap:=s.heap.push {cls:=.type "tuple",data:=.seq (vs++l).toArray} })
  (hsz:vs.length+l.length<=io):wpAny (model prog w) A (iM .Add (.ref t)<|.ref b) Q E s:=by
 let((cls,dd,data,f),r,C,n,hd):=id p;let((q,g,data2,i),a,d,c,o):=id U;simp only at C hd d o;subst C hd d o;let e:vs.toArray++l.toArray=(vs++l).toArray:=by simp
 by_cases j:l=[]
 .exact concat_meets ⟨_,r,R⟩ ⟨_,a,R⟩ noFill_tuple_add seq_tuple_add PySem.F.slot_tuple_add PySem.F.entry_tuple_add (PySem.F.args_tuple_add_2 _ _)
   (tuple_addW1 t b vs.toArray l.toArray n c dd g f i (by simpa using hv)<|by simp[j]) ⟨r,a,Y j⟩
 .refine concat_meets ⟨_,r,R⟩ ⟨_,a,R⟩ noFill_tuple_add seq_tuple_add PySem.F.slot_tuple_add PySem.F.entry_tuple_add (PySem.F.args_tuple_add_2 _ _)
   (tuple_addW2 t b vs.toArray l.toArray n c dd g f i (by simpa using hv) (by simpa using j)<|by rw[y08,y08];show hsz) ⟨r,a,?_⟩
  rw[e];show M j
noncomputable def sIx(n d:Nat):Option Int->Nat
 |none=>d
 |some v=>if v<0 then(v+(n:Int)).toNat else min v.toNat n
theorem sIx_none(n d:Nat):sIx n d B=d:=rfl
theorem sIx_nat(n d k:Nat):sIx n d (G (k:Int))=min k n:=by
 change(if(k:Int)<0 then((k:Int)+(n:Int)).toNat else min (k:Int).toNat n)=min k n;rw[Xp 00,y1y]
theorem sIx_le(n d:Nat)(hd:d<=n)(o:Option Int):sIx n d o<=n:=by
 cases o with
 |none=>show hd
 |some v =>
  change(if v<0 then(v+(n:Int)).toNat else min v.toNat n)<=n;by_cases hv:v<0
  .rw[Xq hv];omega
  .rw[Xp hv];show Nat.min_le_right _ _
theorem clip_eq(v:Int)(n d:Nat):(if v<0 then max (v+(n:Int)) 0 else min v (n:Int))=((sIx n d (G v):Nat):Int):=by
 change(if v<0 then max (v+(n:Int)) 0 else min v (n:Int))=(((if v<0 then(v+(n:Int)).toNat else min v.toNat n):Nat):Int);by_cases hv:v<0
 .simp only[Xq hv];omega
 .simp only[Xp hv];omega
theorem zpc(lo hi:Option Int)(n:Nat):Builtin.Slice.sliceAdjust lo hi 1 (n:Int)=(((sIx n 0 lo:Nat):Int),((sIx n n hi:Nat):Int)):=by
 let Y:¬((1:Int)<0):=by omega
 unfold Builtin.Slice.sliceAdjust;simp only[Y,if_false];apply Prod.ext ?_ ?_
 .cases lo with
  |none=>rfl
  |some v=>show clip_eq v n 0
 .cases hi with
  |none=>rfl
  |some v=>show clip_eq v n n
theorem zob(i j:Nat):Builtin.Slice.slicePlaces (i:Int) (j:Int) 1=j-i:=by
 unfold Builtin.Slice.slicePlaces;let Y:(1:Int)>0:=by omega
 simp only[Y,if_true,Int.ediv_one];split<;>omega
theorem zg5(p:lA v o)(h:Q o s):wpAny (model prog w) A (Builtin.Slice.slicePartIndex v) Q E s:=by
 cases p with
 |none=>show slicePart_none h
 |int i t=>show slicePart_int h
theorem ze5{f:Ad}{J vu:Va}{lo hi:Option Int}{n:Nat}{Q:Int×Int×Nat->ik->Prop}(hs:s.heap.IsSliceOf f J vu .none)(pl:lA J lo)(g:lA vu hi)
  (h:Q (((sIx n 0 lo:Nat):Int),1,sIx n n hi-sIx n 0 lo) s):wpAny (model prog w) A (Builtin.Slice.sliceApplied (.ref f)<|pure (n:Int)) Q E s:=by
 let(os,e,d,i):=id hs;unfold Builtin.Slice.sliceApplied Builtin.Slice.sliceFields;apply ig<|ig (i7 e i (x:=J) R<|ig (i7 e i (x:=vu) R<|ig (i7 e i (x:=.none) R<|ii ?_)));apply ig<|slicePart_none ?_;change wpAny _ _ (if((1:Int)==0)=N then _ else _) _ _ s;rw[Xp 04];apply ig<|zg5 pl (ig<|zg5 g (ig<|ii ?_));change wpAny _ _ (match Builtin.Slice.sliceAdjust lo hi 1 (n:Int)with|(lo,hi)=>pure (lo,(1:Int),Builtin.Slice.slicePlaces lo hi 1)) _ _ s;rw[zpc lo hi n];change wpAny _ _ (pure (((sIx n 0 lo:Nat):Int),(1:Int),Builtin.Slice.slicePlaces ((sIx n 0 lo:Nat):Int) ((sIx n n hi:Nat):Int) 1)) _ _ s;rw[zob];show ii h
theorem zt8(xs:Array Va)(i k:Nat):((List.range k).filterMap λ(m:Nat)=>xs[((i:Int)+(m:Int)*1).toNat]?).toArray=((xs.toList.drop i).take k).toArray:=by
 let e:(λ(m:Nat)=>xs[((i:Int)+(m:Int)*1).toNat]?)=λm=>xs[i+m]?:=by
  funext m;let:((i:Int)+(m:Int)*1).toNat=i+m:=by omega
  rw[this]
 rw[e];let:=pick_run xs i k;rw[List.filterMap_map]at this;let g:((λx=>xs[x]?)∘λx=>i+x)=λm=>xs[i+m]?:=rfl;rw[g]at this;rw[this]
theorem getItem_tuple_cut{t f:Ad}{items:Array Va}{J vu:Va}{lo hi:Option Int}{Q:Y0}(p:IsTup s.heap t items)(hs:s.heap.IsSliceOf f J vu .none)(pl:lA J lo)(g:lA vu hi)
  (j:¬(sIx items.size 0 lo=0/\sIx items.size items.size hi=items.size))
  (h:Q (.ref s.heap.objs.size) {s with heap:=s.heap.push {cls:=.type "tuple",data:=.seq ((items.toList.drop<|sIx items.size 0 lo).take<|sIx items.size items.size hi-sIx items.size 0 lo).toArray} })
  (hsz:items.size<=io):wpAny (model prog w) A (jJ (.ref t)<|.ref f) Q E s:=by
 let c:sizeOk (.seq ((items.toList.drop<|sIx items.size 0 lo).take<|sIx items.size items.size hi-sIx items.size 0 lo).toArray):=by
  change((items.toList.drop<|sIx items.size 0 lo).take<|sIx items.size items.size hi-sIx items.size 0 lo).toArray.size<=io;rw[y08,y0t,y10,y0m];omega
 let o:sIx items.size items.size hi<=items.size:=sIx_le _ _ (y04 _) hi;let(os,e,d,i):=id hs;let l:s.TypeIs (.ref f) "slice":=⟨os,e,d⟩;unfold jJ
 try with_reducible apply iu ?_
 first|apply ig (ii ?_)|skip
 apply ig<|wpAny_sequenceKey p.typeIs 04 ?_;apply ig (i9 (name:=Str.ofString "__getitem__") p.typeIs PyProof.Rows.slot_tuple_getitem
  (i8 PyProof.Rows.slot_tuple_getitem p.typeIs entry_tuple_getitem ?_<|args_tuple_getitem _ _))
 change wpAny _ _ (Builtin.Tuple.tupleItemsOf (.ref t)>>=_) _ _ s;apply ig<|tupleItemsOf_ p ?_;apply ig<|js l ?_;rw[Xq 04];apply ig<|ze5 hs pl g ?_;let a:¬((((sIx items.size 0 lo:Nat):Int)==0&&(1:Int)==1&&(sIx items.size items.size hi-sIx items.size 0 lo)==items.size)=N):=by
  intro q;rw[y07,y07]at q;let r:((sIx items.size 0 lo:Nat):Int)=0:=eq_of_beq q.1.1;let x:sIx items.size items.size hi-sIx items.size 0 lo=items.size:=eq_of_beq q.2;show j ⟨by omega,by omega⟩
 change wpAny _ _ (if(((sIx items.size 0 lo:Nat):Int)==0&&(1:Int)==1&&(sIx items.size items.size hi-sIx items.size 0 lo)==items.size)=N then _ else _) _ _ s;rw[Xp a,zt8]
 first
  |show ig (m:=Builtin.Tuple.tupleExact _) (i6 (ii ⟨_,rfl,ii h⟩) c)
  |show ig (m:=Builtin.Tuple.tupleExact _) (i6 (ig<|ii (ii ⟨_,rfl,ii h⟩)) c)
  |show ig (ig (m:=Builtin.Tuple.tupleExact _)<|i6 (ii<|ii ⟨_,rfl,ii h⟩) c)
  |show ig (ig (m:=Builtin.Tuple.tupleExact _)<|i6 (ii ⟨_,rfl,ii h⟩) c)
end
end HT
namespace L2
abbrev TO:=St->Hp->(Option Int->Hp->Prop)->Prop
def PO(X:Cx)(e:Option Expr)(t:TO):Prop :=
 ∀(pins:Y2) (s:ik) (σ:St) (H:Hp) (Q:Option Int->Hp->Prop),02 H s->t σ H Q->
  wpAny 06 X.A (evalPart e X.env) (λu s'=>∃o H',02 H' s'/\lA u o/\Q o H') X.xe s
def tNoPart:TO:=λ_ H Q=>Q B H
def tPart(t:TE):TO:=λσ H Q=>t σ H λx H1=>∃i,x=.int i/\Q (G i) H1
theorem zeq:∀{us:List Va},Vals (ns.map V.int) us->jt us ns:=by
 induction ns with
 |nil=>intro us r;rw[y3c]at r;cases r;show .nil
 |cons n ns E =>
  intro us r;rw[y0r]at r;cases r with
  |cons r1 l =>
   let(t,e):=r1;subst e;show .cons n t<|E l
section
variable {X:Cx}{e:Expr}{te:TE}{lo hi:Option Expr}{tl th:TO}{pos p2:Pos}
theorem zel:PO X B tNoPart:=by
 intro pins s σ H Q I h;rw[evalPart_none];show ii ⟨B,H,I,.none,h⟩
theorem zck(h:PE X e te):PO X (G e) (tPart te):=by
 intro pins s σ H Q I j;rw[evalPart_some];apply thn (h pins s σ H _ I j) λu s1 zz=>ex5 zz λx H1 I1 r1 w=>?_;let(i,rfl,q):=w;let(t,rfl):=r1;show⟨G i,H1,I1,.int i t,q⟩
def SlR(X:Cx)(r:V->Option Int->Option Int->Hp->VK->Prop):Prop :=
 ∀(pins:Y2) (s:ik) (σ:St) (H:Hp) (x:V) (v J vu:Va) (lo hi:Option Int) (f:Ad) (Q:VK),02 H s->RelV x v->s.heap.IsSliceOf f J vu .none->lA J lo->lA vu hi->r x lo hi H Q->
  ∃T id,jw (.type T) "__getitem__"=pure (G<|.builtin id)/\s.TypeIs v T/\wpAny 06 X.A (jJ v<|.ref f) (EP X pins σ Q) X.xe s
def tSl(r:V->Option Int->Option Int->Hp->VK->Prop)(te:TE)(tl th:TO):TE:=λσ H Q=>te σ H λx H1=>tl σ H1 λl H2=>th σ H2 λu H3=>r x l u H3 Q
theorem zb9(L:SlR X r)(f:PE X e te)(hl:PO X lo tl)(Y:PO X hi th):PE X (.Subscript e (.Slice lo hi B p2) pos) (tSl r te tl th):=by
 intro pins s σ H Q I h;apply Subscript_<|thn (f pins s σ H _ I h) λv s1 zz=>ex5 zz λx H1 I1 r1 w=>?_;apply wpAny_Slice<|thn (hl pins s1 σ H1 _ I1 w) λJ s2 zz=>ex5 zz λl H2 O pl E=>thn (Y pins s2 σ H2 _ O E) λvu i zz=>ex5 zz λu H3 M g o=>?_;rw[evalPart_none];apply ii ?_;let c:02 H3 {i with heap:=i.heap.push {cls:=.type "slice",data:=.fields #[J,vu,.none]} }:=M.kept (t':=i.toks) λb ob q=>y03 _ q;let(T,id,a,p,y):=L pins {i with heap:=i.heap.push {cls:=.type "slice",data:=.fields #[J,vu,.none]} } σ H3 x v J vu l u i.heap.objs.size Q c r1 (Heap.IsSliceOf.new ..) pl g o;change wpAny 06 X.A (subscriptTail e (.Slice lo hi B p2) v<|.ref i.heap.objs.size) (EP X pins σ Q) X.xe {i with heap:=i.heap.push {cls:=.type "slice",data:=.fields #[J,vu,.none]} };show tail_any (ops:=[.ref i.heap.objs.size,v]) p a y (by with_unfolding_all rfl)
noncomputable def cutV(xs:List V)(lo hi:Option Int):List V:=(xs.drop<|HT.sIx xs.length 0 lo).take<|HT.sIx xs.length xs.length hi-HT.sIx xs.length 0 lo
theorem zgd(xs:List V)(lo hi:Option Int):(cutV xs lo hi).length<=xs.length:=by
 unfold cutV;rw[y0t,y10];omega
def rSlT(K:Frag):V->Option Int->Option Int->Hp->VK->Prop:=λx lo hi H Q=>∃a xs,x=.ref a/\SqT K H a xs/\
 ¬(HT.sIx xs.length 0 lo=0/\HT.sIx xs.length xs.length hi=xs.length)/\∀p,H p=B->Q (.ref p) (upd H p<|.tup (cutV xs lo hi))
theorem zyr:SlR X (rSlT X.K):=by
 intro pins s σ H x v J vu lo hi f Q I rx hs pl g h;let(a,xs,rfl,O,j,q):=h;cases rx;let(its,r,p,hz):=I.tuple O;let c:its.toArray.size=xs.length:=by rw[y08];show r.length.symm
 apply⟨"tuple",_,PyProof.Rows.slot_tuple_getitem.lookup,p.typeIs,?_⟩;apply HT.getItem_tuple_cut p hs pl g (by rw[c];show j) ?_ (by rw[c];show hz);rw[c];apply⟨.ref s.heap.objs.size,_,I.laid (t':=s.toks) (o:=.tup<|cutV xs lo hi) (λb ob q=>y03 _ q) (y04 _) ?_,R,q _<|I.hok.fresh (y04 _)⟩;show⟨y19 (zgd xs lo hi) hz,_,(r.drop<|HT.sIx xs.length 0 lo).take<|HT.sIx xs.length xs.length hi-HT.sIx xs.length 0 lo,IsTup.new _ _⟩
def rCatT(K:Frag):R2:=λx y H Q=>∃a b xs ys,x=.ref a/\y=.ref b/\SqT K H a xs/\SqT K H b ys/\xs≠[]/\xs.length+ys.length<=io/\
 (ys=[]->Q (.ref a) H)/\(ys≠[]->∀p,H p=B->Q (.ref p) (upd H p<|.tup (xs++ys)))
theorem Vals.nil_iff(r:Vals xs us):us=[]↔xs=[]:=by
 cases r with
 |nil=>simp
 |cons _ _=>simp
theorem zxo:OpR X (iM .Add) (rCatT X.K):=by
 infer_instance;let(a,b,xs,ys,rfl,rfl,d,U,O,hz,Q,E):=h;cases rx;cases ry;let(its,r1,L,_):=I.tuple d;let(f,l,p2,_):=I.tuple U;apply HT.cat_tup L p2 (λz=>O<|r1.nil_iff.mp z) (λz=>⟨.ref a,H,I,R,Q<|l.nil_iff.mp z⟩) (λz=>?_) (by rw[←r1.length,←l.length];show hz);apply⟨.ref s.heap.objs.size,_,I.laid (t':=s.toks) (o:=.tup<|xs++ys) (λb ob q=>y03 _ q) (y04 _) ?_,R,E (λw=>z<|l.nil_iff.mpr w) _<|I.hok.fresh (y04 _)⟩;show⟨by rw[y0d];show hz,_,r1.append l,IsTup.new _ _⟩
end
noncomputable def ixN(n:Nat)(i:Int):Option Nat:=if 0<=i then(if i<n then G i.toNat else B)else if -(n:Int)<=i then G (i+n).toNat else B
def atI{q:Type}(xs:List q)(i:Int):Option q:=(ixN xs.length i).bind λj=>xs[j]?
theorem zx5(h:ixN n i=G j):seqIndex? i n=G j/\j<n/\-(n:Int)<=i/\i<n:=by
 unfold ixN at h;by_cases E:0<=i
 .rw[Xq E]at h;by_cases Y:i<n
  .rw[Xq Y]at h;let e:i.toNat=j:=Option.some.inj h;show⟨by rw[seqIndex_of E Y,e],by omega,by omega,Y⟩
  .rw[Xp Y]at h;cases h
 .rw[Xp E]at h;by_cases Y:-(n:Int)<=i
  .rw[Xq Y]at h;let e:(i+n).toNat=j:=Option.some.inj h;show⟨by rw[seqIndex_neg 00 Y,e],by omega,Y,by omega⟩
  .rw[Xp Y]at h;cases h
theorem zmf{q:Type}{xs:List q}{i:Int}{v:q}(h:atI xs i=G v):∃j,seqIndex? i xs.length=G j/\xs[j]?=G v/\j<xs.length/\-(xs.length:Int)<=i/\i<xs.length:=by
 unfold atI at h;cases e:ixN xs.length i with
 |none=>rw[e]at h;cases h
 |some j =>
  rw[e]at h;let(Y,M,C,h4):=zx5 e;show⟨j,Y,h,M,C,h4⟩
theorem zai{q:Type}{xs:List q}{j:Nat}{v:q}(h:xs[j]?=G v):atI xs (j:Int)=G v:=by
 let o:j<xs.length:=(y09.mp h).1;let e:ixN xs.length (j:Int)=G j:=by
  unfold ixN;rw[Xq 00,Xq 00];simp
 unfold atI;rw[e];show h
def PlainIx(b:Expr):Prop:=∀o i,jZ b Fa o i=operate [o,i] (jJ o i)
def IxR(X:Cx)(r:R2):Prop :=
 ∀(O d:Expr) (pins:Y2) (s:ik) (σ:St) (H:Hp) (x y:V) (v u:Va) (Q:VK),02 H s->RelV x v->RelV y u->r x y H Q->
  jZ d Fa v u=operate [v,u] (jJ v u)->wpAny 06 X.A (subscriptTail O d v u) (EP X pins σ Q) X.xe s
def MtR(X:Cx)(id:String)(r:V->List V->Hp->VK->Prop):Prop :=
 ∀(pins:Y2) (s:ik) (σ:St) (H:Hp) (x:V) (xs:List V) (v:Va) (us:List Va) (Q:VK),02 H s->RelV x v->Vals xs us->r x xs H Q->
  wpAny 06 X.A (call (.builtin id) (v::us)) (EP X pins σ Q) X.xe s
section
variable {X:Cx}{a b:Expr}{ta tb:TE}{pos:Pos}
theorem zap(L:IxR X r)(d:PE X a ta)(U:PE X b tb)(hs:PlainIx b):PE X (.Subscript a b pos) (tOp r ta tb):=by
 intro pins s σ H Q I h;show Subscript_<|binT d U I h λv u s2 x y H2 O rx ry q=>L a b pins s2 σ H2 x y v u Q O rx ry q<|hs _ _
def rIxL(K:Frag):R2:=λx y H Q=>asR x λp=>∃xs,asI y λi=>SqL K H p xs/\∃v,atI xs i=G v/\Q v H
def rIxT(K:Frag):R2:=λx y H Q=>asR x λp=>∃xs,asI y λi=>SqT K H p xs/\∃v,atI xs i=G v/\Q v H
def rIxS:R2:=λx y H Q=>asS x λz=>asI y λi=>z.length<=io/\∃c,atI z.cps.toList i=G c/\Q (.str ⟨#[c]⟩) H
theorem zx4:IxR X (rIxL X.K):=by
 intro O d pins s σ H x y v u Q I rx ry h hs;let(p,rfl,xs,h'):=zcf h;let(i,rfl,A,z,f,q):=zd9 h';cases rx;let(t,rfl):=ry;let(its,r,pl,hz):=I.list A;let(j,Y,M,C,h4,T):=zmf f;let(w,e,c):=r.get M;let hl:=r.length;let g:=line63;let fin:EP X pins σ Q w s:=⟨z,H,I,c,q⟩;by_cases E:0<=i
 .let o:i.toNat=j:=by
   rw[seqIndex_of E T]at Y;show Option.some.inj Y
  show item_listR pl.isList E 00 (by rw[o];simpa using e) fin hs
 .let o:(i+(its.toArray.size:Int)).toNat=j:=by
   rw[seqIndex_neg 00 h4]at Y;rw[y08,←hl];show Option.some.inj Y
  show subscriptTail_builtinR (x:=w) pl.isList.typeIs slot_list_getitem.lookup
   (wpAny_getItem_list_neg (Q:=λr s'=>r=w/\EP X pins σ Q r s') pl.isList 00 (by rw[y08]<;>omega) 00 (by rw[o];simpa using e) ⟨R,fin⟩) hs
theorem ix_tup:IxR X (rIxT X.K):=by
 intro O d pins s σ H x y v u Q I rx ry h hs;let(p,rfl,xs,h'):=zcf h;let(i,rfl,A,z,f,q):=zd9 h';cases rx;let(t,rfl):=ry;let(its,r,pl,hz):=I.tuple A;let(j,Y,M,C,h4,T):=zmf f;let(w,e,c):=r.get M;let hl:=r.length;let g:=line63;let fin:EP X pins σ Q w s:=⟨z,H,I,c,q⟩;show subscriptTail_builtinR (x:=w) pl.typeIs slot_tuple_getitem.lookup
  (getItem_tuple (j:=j) (Q:=λr s'=>r=w/\EP X pins σ Q r s') pl 00 00 (by rw[y08,←hl];show Y) (by simpa using e) ⟨R,fin⟩) hs
theorem zwd:IxR X rIxS:=by
 intro O d pins s σ H x y v u Q I rx ry h hs;let(z,rfl,h'):=zs4 h;let(i,rfl,hz,c,f,q):=zd9 h';let(t,rfl):=rx;let(t',rfl):=ry;let(j,Y,M,C,h4,T):=zmf f;let hl:z.cps.toList.length=z.length:=by simp[Str.length]
 rw[hl]at Y h4 T;let D:=line63;show tail_any (typeIs_str s z t) slot_str_getitem.lookup (getItem_str (c:=c) (by
  let J:decide (i < -(2^63:Int))=Fa:=Xf 00;let g:decide (i>=2^63)=Fa:=Xf 00;rw[J,g,Bool.or_false]) (by rw[Y];simpa using M) ⟨.str ⟨#[c]⟩,H,I.tok _,⟨_,R⟩,q⟩) hs
def rSetL:V->V->V->Hp->(Hp->Prop)->Prop:=λo i v H Q=>∃p xs k j,o=.ref p/\i=.int k/\H p=G (.lst xs)/\ixN xs.length k=G j/\Q (upd H p<|.lst (xs.set j v))
theorem zjb(lo hi:Option Int)(n:Nat):(jo lo hi B n).1=((HT.sIx n 0 lo:Nat):Int)/\(jo lo hi B n).2.1=((HT.sIx n n hi:Nat):Int)/\(jo lo hi B n).2.2=1:=by
 apply⟨?_,?_,R⟩
 .cases lo with
  |none=>simp[jo,HT.sIx]
  |some i =>
   simp only[jo,HT.sIx,Option.getD_none,show(1:Int)>0 by decide,if_true];by_cases h:i<0
   .simp only[h,if_true]<;>omega
   .simp only[h,if_false]<;>omega
 .cases hi with
  |none=>simp[jo,HT.sIx]
  |some i =>
   simp only[jo,HT.sIx,Option.getD_none,show(1:Int)>0 by decide,if_true];by_cases h:i<0
   .simp only[h,if_true]<;>omega
   .simp only[h,if_false]<;>omega
theorem zh0(its:List Va)(lo hi:Option Int):slicePick its.toArray lo hi B=((its.drop<|HT.sIx its.length 0 lo).take<|HT.sIx its.length its.length hi-HT.sIx its.length 0 lo).toArray:=by
 let(Y,M,C):=zjb lo hi its.toArray.size;unfold slicePick;rw[Y,M,C];simp only[sliceRange_one,pick_run,y08]<;>rfl
def rSlL(K:Frag):V->Option Int->Option Int->Hp->VK->Prop:=λx lo hi H Q=>∃a xs,x=.ref a/\SqL K H a xs/\∀p,H p=B->Q (.ref p) (upd H p<|.lst (cutV xs lo hi))
theorem zwy:SlR X (rSlL X.K):=by
 intro pins s σ H x v J vu lo hi f Q I rx hs pl g h;let(a,xs,rfl,O,q):=h;cases rx;let(its,r,p,hz):=I.list O;let c:=r.length;apply⟨"list",_,slot_list_getitem.lookup,p.isList.typeIs,?_⟩;apply wpAny_getItem_list_slice p.isList hs pl g .none (by simp) ?_ (by rw[y08]<;>omega);rw[zh0,←c];apply⟨.ref s.heap.objs.size,_,I.laid (t':=s.toks) (o:=.lst<|cutV xs lo hi) (λb ob q=>y03 _ q) (y04 _) ?_,R,q _<|I.hok.fresh (y04 _)⟩;show⟨y19 (zgd xs lo hi) hz,_,0,(r.drop<|HT.sIx xs.length 0 lo).take<|HT.sIx xs.length xs.length hi-HT.sIx xs.length 0 lo,y0f _ R⟩
noncomputable def flatV:V->Bool
 |.non=>N
 |.bl _=>N
 |.int _=>N
 |.str _=>N
 |_=>Fa
noncomputable def eqV:V->V->Bool
 |.non,.non=>N
 |.bl a,.bl b=>a==b
 |.bl a,.int b=>(if a then 1 else 0)==b
 |.int a,.bl b=>a==(if b then 1 else 0)
 |.int a,.int b=>a==b
 |.str a,.str b=>a==b
 |_,_=>Fa
theorem znl(ry:RelV y u)(rx:RelV x v)(d:flatV y=N)(c:flatV x=N):SeqAt.EqAt A s u v (eqV y x):=by
 cases y with
 |non =>
  cases ry;cases x with
  |non=>cases rx;show SeqAt.EqAt.same _
  |bl b=>cases rx;show SeqAt.EqAt.none_bool b
  |int b=>let(t,rfl):=rx;show SeqAt.EqAt.none_int b t
  |str b=>let(t,rfl):=rx;show SeqAt.EqAt.none_str b t
  |_=>show Xa (show Fa=N from c) y0g
 |bl a =>
  cases ry;cases x with
  |non=>cases rx;show SeqAt.EqAt.bool_none a
  |bl b=>cases rx;show SeqAt.EqAt.bool_bool a b
  |int b=>let(t,rfl):=rx;show SeqAt.EqAt.bool_int a b t
  |str b=>let(t,rfl):=rx;show SeqAt.EqAt.bool_str a b t
  |_=>show Xa (show Fa=N from c) y0g
 |int a =>
  let(t',rfl):=ry;cases x with
  |non=>cases rx;show SeqAt.EqAt.int_none a t'
  |bl b=>cases rx;show SeqAt.EqAt.int_bool a t' b
  |int b=>let(t,rfl):=rx;show SeqAt.EqAt.int_int a t' b t
  |str b=>let(t,rfl):=rx;show SeqAt.EqAt.int_str a t' b t
  |_=>show Xa (show Fa=N from c) y0g
 |str a =>
  let(t',rfl):=ry;cases x with
  |non=>cases rx;show SeqAt.EqAt.str_none a t'
  |bl b=>cases rx;show SeqAt.EqAt.str_bool a t' b
  |int b=>let(t,rfl):=rx;show SeqAt.EqAt.str_int a t' b t
  |str b=>let(t,rfl):=rx;show SeqAt.EqAt.str_str a t' b t
  |_=>show Xa (show Fa=N from c) y0g
 |_=>show Xa (show Fa=N from d) y0g
def eqU(x:V)(u:Va):Bool:=match u with
 |.none=>eqV .non x
 |.bool b=>eqV (.bl b) x
 |.int i _=>eqV (.int i) x
 |.str z _=>eqV (.str z) x
 |_=>Fa
theorem zwg(r:RelV y u)(f:flatV y=N):eqU x u=eqV y x:=by
 cases y with
 |non=>cases r;rfl
 |bl b=>cases r;rfl
 |int i=>let(t,rfl):=r;rfl
 |str z=>let(t,rfl):=r;rfl
 |_=>show Xa (show Fa=N from f) y0g
theorem zgk:∀{xs:List V} {us:List Va},Vals xs us->xs.all flatV=N->us.any (eqU x)=xs.any λy=>eqV y x
 |_,_,.nil,_=>rfl
 |y::xs,u::us,.cons r t,f=>by
  rw[y2b,y07]at f;rw[y2h,y2h,zwg r f.1,zgk t f.2]
theorem zd0(rx:RelV x v)(c:flatV x=N):∀{xs:List V} {us:List Va},Vals xs us->xs.all flatV=N->∀u∈us,SeqAt.EqAt A s u v (eqU x u)
 |_,_,.nil,_=>λu Y=>by cases Y
 |y::xs,u::us,.cons r t,f=>λd Y=>by
  rw[y2b,y07]at f;rcases y06.mp Y with rfl|Y
  .rw[zwg r f.1];show znl r rx f.1 c
  .exact zd0 rx c t f.2 d Y
def inV(x:V)(xs:List V):Bool:=xs.any λy=>eqV y x
def rIn(K:Frag)(neg:Bool):R2:=λx y H Q=>∃p xs,y=.ref p/\(SqL K H p xs\/SqT K H p xs)/\flatV x=N/\xs.all flatV=N/\Q (.bl<|if neg then !inV x xs else inV x xs) H
theorem zqw:OpR X (iw .In) (rIn X.K Fa):=by
 infer_instance;let(p,xs,rfl,A,c,fs,q):=h;cases ry;rcases A with A|A
 .let(its,r,pl,hz):=I.list A;apply SeqAt.in_listAt (eqU x) pl.isList (λw j=>zd0 rx c r fs w<|by simpa using j) ⟨.bl _,H,I,R,?_⟩;rw[show its.toArray.any (eqU x)=its.any (eqU x) by simp,zgk r fs];show q
 .let(its,r,pl,hz):=I.tuple A;apply SeqAt.in_tupleAt (eqU x) pl (λw j=>zd0 rx c r fs w<|by simpa using j) ⟨.bl _,H,I,R,?_⟩;rw[show its.toArray.any (eqU x)=its.any (eqU x) by simp,zgk r fs];show q
theorem zjs:OpR X (iw .NotIn) (rIn X.K N):=by
 infer_instance;let(p,xs,rfl,A,c,fs,q):=h;cases ry;rcases A with A|A
 .let(its,r,pl,hz):=I.list A;apply SeqAt.notIn_listAt (eqU x) pl.isList (λw j=>zd0 rx c r fs w<|by simpa using j) ⟨.bl _,H,I,R,?_⟩;rw[show its.toArray.any (eqU x)=its.any (eqU x) by simp,zgk r fs];show q
 .let(its,r,pl,hz):=I.tuple A;apply SeqAt.notIn_tupleAt (eqU x) pl (λw j=>zd0 rx c r fs w<|by simpa using j) ⟨.bl _,H,I,R,?_⟩;rw[show its.toArray.any (eqU x)=its.any (eqU x) by simp,zgk r fs];show q
theorem zkk:CallR X (.builtin "len") (λxs H Q=>∃p ys,xs=[.ref p]/\(SqL X.K H p ys\/SqT X.K H p ys)/\Q (.int ys.length) H):=by
 intro pins s σ H xs us Q I r h;let(p,ys,rfl,A,q):=h;let(u,rfl,rx):=vals1 r;cases rx;let g:=line63;rcases A with A|A
 .let(its,r',pl,hz):=I.list A;let c:=r'.length;show Calls.call_len_list pl.isList (by simp only[y08]<;>omega) ⟨.int ys.length,H,I.tok _,⟨s.toks+1,by rw[y08,c]⟩,q⟩
 .let(its,r',pl,hz):=I.tuple A;let c:=r'.length;show len_tuple pl (by simp only[y08]<;>omega) ⟨.int ys.length,H,I.tok _,⟨s.toks+1,by rw[y08,c]⟩,q⟩
theorem zkj:CallR X (.builtin "len") (λxs H Q=>∃z,xs=[.str z]/\z.length<=io/\Q (.int z.length) H):=by
 intro pins s σ H xs us Q I r h;let(z,rfl,hz,q):=h;let(u,rfl,t,rfl):=vals1 r;let g:=line63;show len_str 00 ⟨.int z.length,H,I.tok _,⟨_,R⟩,q⟩
theorem zki:CallR X (.type "list") (λxs H Q=>∃p ys,xs=[.ref p]/\(SqL X.K H p ys\/SqT X.K H p ys)/\∀l,H l=B->Q (.ref l) (upd H l<|.lst ys)):=by
 intro pins s σ H xs us Q I r h;let(p,ys,rfl,A,q):=h;let(u,rfl,rx):=vals1 r;cases rx;let fin:∀(its:List Va),Vals ys its->ys.length<=io->∀(h':Heap) (c':Nat),(∀b D,s.heap.get? b=G D->h'.get? b=G D)->
   h'.get? s.heap.objs.size=G {cls:=.type "list",dict:=B,data:=.seq its.toArray c',slots:=#[]}->EP X pins σ Q (.ref s.heap.objs.size) {s with heap:=h'}:=λits r' hz h' c' kp e =>
  ⟨.ref s.heap.objs.size,_,I.laid (t':=s.toks) kp (y04 _)<|show ObjOk X.prog X.w _ h' _ (.lst ys)from⟨hz,its,c',r',e⟩,R,q _<|I.hok.fresh (y04 _)⟩
 rcases A with A|A
 .let(its,r',pl,hz):=I.list A;let c:=r'.length;let(o,j,C,n,hd):=pl.isList;show call_list_seq p (.inl R) j C hd (λh' c' kp e=>fin its r' hz h' c' kp e) (by simp only[y08]<;>omega)
 .let(its,r',pl,hz):=I.tuple A;let c:=r'.length;let(o,j,C,n,hd):=pl;show call_list_seq p (.inr R) j C hd (λh' c' kp e=>fin its r' hz h' c' kp e) (by simp only[y08]<;>omega)
theorem zir:CallR X (.type "tuple") (λxs H Q=>∃p ys,xs=[.ref p]/\((SqL X.K H p ys/\∀l,H l=B->Q (.ref l) (upd H l<|.tup ys))\/(SqT X.K H p ys/\Q (.ref p) H))):=by
 intro pins s σ H xs us Q I r h;let(p,ys,rfl,h):=h;let(u,rfl,rx):=vals1 r;cases rx;rcases h with⟨A,q⟩|⟨A,q⟩
 .let(its,r',pl,hz):=I.list A;let c:=r'.length;apply call_tuple_list pl.isList (λh' kp=>?_) (by simp only[y08]<;>omega);let I1:02 H {s with heap:=h'}:=I.kept (t':=s.toks) kp;let O:02 (upd H h'.objs.size<|.tup ys) {s with heap:=h'.push {cls:=.type "tuple",data:=.seq its.toArray} } :=
   I1.laid (t':=s.toks) (λb o e=>y03 _ e) (y04 _) (show ObjOk X.prog X.w _ _ _ (.tup ys)from⟨hz,its,r',IsTup.new _ _⟩)
  show⟨.ref h'.objs.size,_,O,R,q _<|I1.hok.fresh (y04 _)⟩
 .let(its,r',pl,hz):=I.tuple A;show call_tuple_same pl ⟨.ref p,H,I,R,q⟩
def tyV(K:Frag)(T:String)(x:V)(H:Hp):Prop:=match x with
 |.str _=>T="str"
 |.int _=>T="int"
 |.ref p=>(T="list"/\∃xs,SqL K H p xs)\/(T="tuple"/\∃o,K.lookup p=G o/\o.cls=.type "tuple"/\o.dict=B)\/
   (T="dict"/\((∃kvs,H p=G (.dK kvs))\/∃kvs,H p=G (.dT kvs)))\/(T="set"/\∃S n,H p=G (.set S n))
 |_=>False
theorem zvr{pins:Y2}{σ:St}{H:Hp}{s:ik}{T:String}{x:V}{v:Va}(I:02 H s)(r:RelV x v)(ty:tyV X.K T x H):
  s.TypeIs v T/\∀a,v=.ref a->∃ob,s.heap.get? a=G ob/\ob.dict=B:=by
 cases x with
 |str z =>
  let(t,rfl):=r;cases(show T="str" from ty);show⟨typeIs_str s z t,λ_ e=>nomatch e⟩
 |int i =>
  let(t,rfl):=r;cases(show T="int" from ty);show⟨typeIs_int s i t,λ_ e=>nomatch e⟩
 |ref p =>
  cases r;rcases ty with⟨rfl,xs,A⟩|⟨rfl,o,D,C,hd⟩|⟨rfl,D⟩|⟨rfl,S,n,D⟩
  .let(its,_,pl,_):=I.list A;apply⟨pl.isList.typeIs,λa e=>?_⟩;cases e;let(o,n,e,c,hd,_):=pl;show⟨o,e,hd⟩
  .refine⟨⟨o,I.kIn p o D,C⟩,λa e=>?_⟩;cases e;show⟨o,I.kIn _ o D,hd⟩
  .let z:∃o,s.heap.get? p=G o/\o.ExactDict:=by
    rcases D with⟨kvs,D⟩|⟨kvs,D⟩
    .let(_,_,_,_,o,_,_,e,ex,_):=I.hok p _ D;show⟨o,e,ex⟩
    .let(_,_,_,_,o,_,_,e,ex,_):=I.hok p _ D;show⟨o,e,ex⟩
   let(o,e,ex):=z;apply⟨⟨o,e,ex.1⟩,λa g=>?_⟩;cases g;show⟨o,e,ex.2.1⟩
  .let(o,_,_,_,e,ex,_):=I.hok p _ D;apply⟨⟨o,e,ex.1⟩,λa g=>?_⟩;cases g;show⟨o,e,ex.2.1⟩
 |_=>show False.elim ty
def tBM0(K:Frag)(T:String)(r:V->List V->Hp->VK->Prop)(c:TE):TE:=λσ H Q=>c σ H λx H1=>tyV K T x H1/\r x [] H1 Q
def tBM(K:Frag)(T:String)(r:V->List V->Hp->VK->Prop)(c:TE)(t:TA):TE:=λσ H Q=>c σ H λx H1=>tyV K T x H1/\t σ H1 λxs H2=>r x xs H2 Q
variable {o e:Expr}{es:List Expr}{to:TE}{t:TA}{name:Str}{apos cpos:Pos}{T id:String}{r:V->List V->Hp->VK->Prop}
theorem zza(pa:PlainAttrs T)(slot:Slot T name id)(p:typeOf (.builtin id)=pure (.type "method_descriptor"))(J:MtR X id r)(j:PE X o to)
  (c:attributeBase o name X.env (eval o X.env)=eval o X.env:=by rfl) (f:(apos.endLine==cpos.line)=N:=by rfl):PE X (.Call (.Attribute o name apos) [] [] cpos) (tBM0 X.K T r to):=by
 intro pins s σ H Q I h;apply wpAny_Call_method0_late c f<|thn (j pins s σ H _ I h) λv s1 zz=>ex5 zz λx H1 I1 r1 zq=>?_;let(ty,w):=zq;let(Y,M):=zvr I1 r1 ty;show⟨T,id,pa,slot,p,Y,M,Calls.callWith_builtin R<|PySem.evalArgs_none (J pins s1 σ H1 x [] v [] Q I1 r1 .nil w)⟩
theorem pe_bm(pa:PlainAttrs T)(slot:Slot T name id)(p:typeOf (.builtin id)=pure (.type "method_descriptor"))(J:MtR X id r)(j:PE X o to)(d:PA X (e::es) t)
  (c:attributeBase o name X.env (eval o X.env)=eval o X.env:=by rfl)
  (g:((ji cpos<|iq (e::es) X.env).all (λx=>!x.1)&&(backToKw cpos<|keywordEach [] X.env).all (λx=>x.1.isSome)
   && decide ((e::es).length+([]:List Keyword).length+(if([]:List Keyword).isEmpty then 0 else 1)<30))=N:=by rfl)
  (f:(apos.endLine==cpos.line)=N:=by rfl) (hs:iq (e::es) X.env=(Fa,eval e X.env)::iq es X.env:=by rfl) (q:(ji cpos<|iq es X.env).any (·.1)=Fa:=by rfl) :
  PE X (.Call (.Attribute o name apos) (e::es) [] cpos) (tBM X.K T r to t):=by
 intro pins s σ H Q I h;apply wpAny_Call_method_late c g f R<|thn (j pins s σ H _ I h) λv s1 zz=>ex5 zz λx H1 I1 r1 zq=>?_;let(ty,w):=zq;let(Y,M):=zvr I1 r1 ty;apply⟨T,id,pa,slot,p,Y,M,?_⟩;let i:=d cpos pins s1 σ H1 _ I1 w;rw[hs]at i ⊢;apply Calls.callWith_builtin (by change(Fa||(ji cpos<|iq es X.env).any (·.1))=Fa;rw[q]<;>rfl)<|Calls.evalArgs_plain ?_;show thn i λus s2 zz=>ex5 zz λvs H2 O l E=>J pins s2 σ H2 x vs v us Q O r1 l E
end
def MtM(X:Cx)(id:String)(r:V->List V->Hp->VK->Prop):Prop :=
 ∀(pins:Y2) (s:ik) (σ:St) (H:Hp) (x:V) (xs:List V) (v:Va) (us:List Va) (Q:VK),02 H s->RelV x v->Vals xs us->r x xs H Q->
  wpAny 06 X.A (call (.builtin id) (v::us)) (EP X pins σ Q) X.xe s
theorem Vals.one:∀{x:V} {us:List Va},Vals [x] us->∃u,us=[u]/\RelV x u:=λh=>vals1 h
theorem Vals.zero:∀{us:List Va},Vals [] us->us=[]
 |_,.nil=>rfl
theorem Vals.dropLast(h:Vals xs us):Vals xs.dropLast us.dropLast:=by
 induction h with
 |nil=>show .nil
 |cons r t E =>
  cases t with
  |nil=>show .nil
  |cons q t'=>show .cons r E
theorem Vals.rep(h:Vals xs us):∀k:Nat,Vals (List.replicate k xs).flatten (List.replicate k us).flatten
 |0=>.nil
 |k+1=>by
  rw[y2z,y2z,y3r,y3r];show Vals.append h<|Vals.rep h k
theorem zo4{q:Type}(l:List q):l.eraseIdx (l.length-1)=l.dropLast:=by
 induction l with
 |nil=>rfl
 |cons a r E =>
  cases r with
  |nil=>rfl
  |cons b r =>
   let e:(a::b::r).length-1=((b::r).length-1)+1:=by
    let Y:(a::b::r).length=r.length+2:=rfl;let M:(b::r).length=r.length+1:=rfl;omega
   rw[e,List.eraseIdx_cons_succ,E]
   all_goals rfl
theorem zj6(its:List Va):∀(k:Nat) (o:List Va),
  List.foldl (λL H=>L++H) o.toArray (List.replicate k its.toArray)=(o++(List.replicate k its).flatten).toArray
 |0,o=>by simp
 |k+1,o=>by
  let e:o.toArray++its.toArray=(o++its).toArray:=by simp
  let g:(o++its)++(List.replicate k its).flatten=o++(List.replicate (k+1) its).flatten:=by
   rw[y2z,y3r,y17]
  rw[←g,←zj6 its k (o++its),←e,y2z,List.foldl_cons]
section
variable {X:Cx}{pins:Y2}{σ:St}{H:Hp}{s:ik}{l b:Ad}{xs ys zs:List V}
theorem Inv.lset{its its':List Va}(I:02 H s)(o:H l=G (.lst xs))
  (e:s.heap.get? l=G {cls:=.type "list",data:=.seq its.toArray n}) (T:f its.toArray=its'.toArray) (hv:Vals ys its') (hz:ys.length<=io) :
  02 (upd H l<|.lst ys) {s with heap:=s.heap.update l<|Obj.mapSeq f,toks:=t'}:=by
 let q:=PySem.IsL.update e f;rw[T]at q;apply I.write (x:=l) (e:=l) (by rw[o];show trivial) (.inl R) (λi u U Y=>(y1f s.heap (Obj.mapSeq f)<|Ne.symm U).trans Y) ⟨_,q⟩ ?_;show⟨hz,its',_,hv,q⟩
theorem Inv.lnew(I:02 H s)(hv:Vals ys its)(hz:ys.length<=io):
  02 (upd H s.heap.objs.size<|.lst ys) {s with heap:=s.heap.push {cls:=.type "list",data:=.seq its.toArray},toks:=t'} :=
 I.laid (λ_ _ q=>y03 _ q) (y04 _) ⟨hz,its,0,hv,y0f _ R⟩
theorem Inv.fresh(I:02 H s):H s.heap.objs.size=B:=I.hok.fresh<|y04 _
theorem Inv.lstM(I:02 H s)(o:H l=G (.lst xs)):xs.length<=io/\∃(its:List Va) (n:Nat),Vals xs its/\xs.length=its.length/\s.heap.get? l=G {cls:=.type "list",data:=.seq its.toArray n}:=by
 let(z,its,n,r,e):=I.hok l _ o;show⟨z,its,n,r,r.length,e⟩
theorem notLongL(h:n<=io):Builtin.List.listTooLong n=Fa:=by
 unfold Builtin.List.listTooLong;show Xf 00
end
section
variable {X:Cx}
def rAppend:V->List V->Hp->VK->Prop:=λx vs H Q=>∃l xs y,x=.ref l/\vs=[y]/\H l=G (.lst xs)/\xs.length<io/\Q .non (upd H l<|.lst (xs++[y]))
theorem zjz:MtM X "list.append" rAppend:=by
 intro pins s σ H x vs v us Q I rx T h;let(l,xs,y,rfl,rfl,o,hz,q):=h;cases rx;let(u,rfl,D):=T.one;let(z,its,n,r,hl,e):=I.lstM o;apply jn F.slot_list_append ⟨_,e,R⟩ F.entry_list_append (F.args_list_append_2 _ _) (PySem.list_append l its.toArray n u<|by rw[y08];omega) ⟨e,?_⟩;apply⟨.non,_,I.lset (its':=its++[u]) o e (by simp) (r.append<|.cons D .nil) ?_,R,q⟩;rw[y0d,y0q];omega
def rExtend:V->List V->Hp->VK->Prop:=λx vs H Q=>∃l b xs zs,x=.ref l/\vs=[.ref b]/\H l=G (.lst xs)/\H b=G (.lst zs)/\xs.length+zs.length<=io/\Q .non (upd H l<|.lst (xs++zs))
theorem zrh:MtM X "list.extend" rExtend:=by
 intro pins s σ H x vs v us Q I rx T h;let(l,b,xs,zs,rfl,rfl,o,j,hz,q):=h;cases rx;let(u,rfl,D):=T.one;cases D;let(z,its,n,r,hl,e):=I.lstM o;let(E,f,c,Y,a,g):=I.lstM j;let hsz:its.toArray.size+f.toArray.size<=io:=by rw[y08,y08];omega
 let d:¬(!its.toArray.isEmpty&&Builtin.List.listTooLong (its.toArray.size+f.toArray.size))=N:=by
  rw[notLongL hsz,y3a];show y0g
 apply jn F.slot_list_extend ⟨_,e,R⟩ F.entry_list_extend (F.args_list_extend_2 _ _)
  (AutoSeq1.list_extend_list_list_0 l its.toArray n b f.toArray c d (by rw[y08];omega) 00) ⟨e,g,?_⟩
 apply⟨.non,_,I.lset (its':=its++f) o e (by simp) (r.append Y) ?_,R,q⟩;rw[y0d];omega
def rPop:V->List V->Hp->VK->Prop:=λx vs H Q=>∃l xs y,x=.ref l/\vs=[]/\H l=G (.lst xs)/\xs[xs.length-1]?=G y/\Q y (upd H l<|.lst xs.dropLast)
theorem mt_pop:MtM X "list.pop" rPop:=by
 intro pins s σ H x vs v us Q I rx T h;let(l,xs,y,rfl,rfl,o,C,q):=h;cases rx;let a:=T.zero;subst a;let(z,its,n,r,hl,e):=I.lstM o;let(u,Y,D):=r.get C;let c:its.toArray[its.toArray.size-1]?=G u:=by
  change its.toArray[its.length-1]?=G u;rw[←y0k,←hl];show Y
 apply jn F.slot_list_pop ⟨_,e,R⟩ F.entry_list_pop (F.args_list_pop_1 _) (MeetsSeq.list_pop_last l its.toArray n u c<|by rw[y08];omega) ⟨e,?_⟩;apply⟨y,_,I.lset (its':=its.dropLast) o e ?_ r.dropLast ?_,D,q⟩
 .change its.toArray.eraseIdxIfInBounds (its.toArray.size-1)=its.dropLast.toArray;rw[y08,List.eraseIdxIfInBounds_toArray,zo4]
 .rw[List.length_dropLast];omega
def rPopAt:V->List V->Hp->VK->Prop:=λx vs H Q=>∃l xs i k y,x=.ref l/\vs=[.int i]/\H l=G (.lst xs)/\-(2^63)<=i/\i<2^63/\seqIndex? i xs.length=G k/\xs[k]?=G y/\Q y (upd H l<|.lst (xs.eraseIdx k))
def rCat:R2:=λx y H Q=>∃l b xs zs,x=.ref l/\y=.ref b/\H l=G (.lst xs)/\H b=G (.lst zs)/\xs.length+zs.length<=io/\∀p,H p=B->Q (.ref p) (upd H p<|.lst (xs++zs))
theorem op_cat:OpR X (iM .Add) rCat:=by
 infer_instance;let(l,b,xs,zs,rfl,rfl,o,j,hz,q):=h;cases rx;cases ry;let(z,its,n,r,hl,e):=I.lstM o;let(E,f,c,Y,x,g):=I.lstM j;apply PySem.P.add_list e g ?_ (by rw[y08,y08];omega);let D:its.toArray++f.toArray=(its++f).toArray:=by simp
 rw[D];show⟨.ref _,_,I.lnew (t':=s.toks) (r.append Y) (by rw[y0d];omega),R,q _ I.fresh⟩
def rRep:R2:=λx y H Q=>∃l k xs,x=.ref l/\y=.int k/\H l=G (.lst xs)/\-(2^63)<=k/\k<2^63/\xs.length*k.toNat<=io/\
 ∀p,H p=B->Q (.ref p) (upd H p<|.lst (List.replicate k.toNat xs).flatten)
theorem zx0{q:Type}(xs:List q)(k:Nat):(List.replicate k xs).flatten.length=k*xs.length:=by
 induction k with
 |zero=>simp
 |succ k E=>rw[y2z,y3r,y0d,E,y50,Nat.add_comm]
theorem zzb:OpR X (iM .Mult) rRep:=by
 infer_instance;let(l,k,xs,rfl,rfl,o,Y,M,hz,q):=h;cases rx;let(t,rfl):=ry;let(z,its,n,r,hl,e):=I.lstM o;let c:its.toArray.size*k.toNat<=io:=by rw[y08,←hl];show hz
 let g:¬its.toArray.size*k.toNat>(2^63-1)/8:=by
  let:(io:Nat)<=(2^63-1)/8:=by decide
  omega
 let f:¬(!Builtin.List.listFitsIndex k)=N:=by
  rw[fitsIndex_both Y M];show y0g
 let d:¬Builtin.List.listTooLong (its.toArray.size*k.toNat)=N:=by
  rw[notLongL c];show y0g
 let x:List.foldl (λL H=>L++H) #[] (List.replicate (if its.toArray.isEmpty=N then 0 else k.toNat) its.toArray)=(List.replicate k.toNat its).flatten.toArray:=by
  let J:∀m:Nat,List.foldl (λL H=>L++H) #[] (List.replicate m its.toArray)=(List.replicate m its).flatten.toArray:=λm=>by
   let:=zj6 its m [];rw[y3j]at this;show this
  rw[J];cases its with
  |nil=>simp
  |cons a r'=>rw[Xp<|by simp]
 apply wpAny_binaryOp_repeat_ref (T:="list") (U:="int") 04 ⟨_,e,R⟩ (λs'=>typeIs_int s' k t) noFill_list_mul F.fills_int_mul F.slot_int_rmul repeat_list F.slot_int_index.lookup
  (jn F.slot_int_rmul (typeIs_int s k t) F.entry_int_rmul (F.args_int_rmul_2 _ _) (int___rmul___int_list k t l its.toArray n)
   ⟨e,R,⟨_,e,R⟩,jn F.slot_list_mul ⟨_,e,R⟩ F.entry_list_mul (F.args_list_mul_2 _ _) (AutoListH.list___mul___list_int_3 l its.toArray n k t f g d) ⟨e,?_⟩⟩)
 rw[x];show⟨.ref _,_,I.lnew (t':=s.toks) (r.rep k.toNat) (by rw[zx0,Nat.mul_comm];show hz),R,q _ I.fresh⟩
end
end L2
namespace Att
open PySem PySem.W PySem.Calls PyProof.Rows
theorem zga:∀(ns:List Int) (vs:List Va),WellAll P h vs (ns.map WData.int)->jt vs ns:=by
 intro ns
 induction ns with
 |nil =>
  intro vs w;rw[y3c]at w;cases w;show .nil
 |cons n ns E =>
  intro vs w;rw[y0r]at w;cases w with
  |cons a b =>
   cases a;show .cons _ _<|E _ b
theorem zp0{l:OpenLaw}(hn:l.most=G n){h:Heap}
  (hpre:l.row.toRowW.claim.pre args=N) (hwl:WellAll P h vals args) :
  ∃a vs ns,vals=[Va.ref a]/\args=[WData.list<|ns.map WData.int]/\h.get? a=G {cls:=.type "list",data:=.seq vs.toArray}/\jt vs ns/\ns.length<=n:=by
 let hsh:WShape.hasAll [] args [.list .int]=N:=(pre_splitW hpre).1;let hc:l.pre.holds [] {args:=args}=N:=(pre_splitW hpre).2;let(d,r,rfl,h1,h2):=hasAllW_cons hsh;obtain rfl:=hasAllW_nil h2;let(xs,rfl,h3):=hasW_list h1;let(ns,rfl):=items_int h3;let hlen:ns.length<=n:=by
  unfold OpenLaw.pre at hc;let h4:(WTm.not<|.lt (.lit<|.int (n:Int)) (.len<|.arg 0)).holds [] {args:=[.list<|ns.map .int]}=N:=by
   let h4:=(holds_andW hc).1;rw[hn]at h4;show h4
  let h5:=condW_of h4<|w_not (w_lt w_lit<|w_len_list (w_arg R));rw[y01]at h5;apply y2u λq=>?_;let q':(n:Int)<((ns.length:Nat):Int):=by omega
  first
   |(rw[Xg q']at h5;show Xa h5<|by decide)
   |(simp at h5;omega)
 cases hwl with
 |cons w1 w2 =>
  cases w2;cases w1 with
  |list ho hall=>show⟨_,_,ns,R,R,ho,zga ns _ hall,hlen⟩
theorem zqd(l:OpenLaw)(args:List WData):l.row.toRowW.claim.post args (.bool N) args=N :=
 postW_of (r:=l.row.toRowW) (X:=(N==N))
  (show WShape.has [] (.bool N) .bool=N by first|rfl|decide|simp[WShape.has,WShape.arms,WShape.armsAll])
  (show(WTm.eq .res<|.lit (.bool N)).value [] {args:=args,res:=G<|.bool N,after:=args}=G (.bool<|N==N)from w_eq_bool (w_res R) w_lit) R
theorem attach_call{l:OpenLaw}{d:DefRec}
  (I:l.most=G n) (D:d.params.defaults=[])
  (call:∀(w:World) (s₀ s₁:ik) (mg mb:Y1) (O:Ad) (o:Obj) (p cd doc:Va) (a:Ad) (vs:List Va) (ns:List Int),
   Ground q i [] T w s₀ mg mb s₁.heap->Q w s₁.heap->
   s₁.heap.get? O=G o->o.data=.func (docDef d.name d.params d.body d.scope p cd doc)->s₁.heap.CodeRec cd d.name->mg d.name=G (.ref O)->
   s₁.heap.get? a=G {cls:=.type "list",data:=.seq vs.toArray}->jt vs ns->ns.length<=n->s₁.gens=#[]->
   iY (model l.prog w) lm (.call (.ref O) ⟨[.ref a],[]⟩) (λr s'=>r=.ok (.ret<|.bool N)/\OldK s₁.heap s'.heap/\s'.os=s₁.os/\j7 s'.gens) s₁) :
  WalkO q i T Q l.row.toRowW d [] (λf vs=>PySem.call f vs):=by
 intro w s₀ s₁ mg mb Gq Y O o p cd doc dV kV j hd hcd u E y args x U s v H e L;obtain rfl:dV=.none:=Dflts.none u D;obtain rfl:kV=.none:=Dflts.noKw u;let(a,vs,ns,rfl,rfl,z,g,c):=zp0 I s e;apply enter_call<|iG (call w s₀ s₁ mg mb O o p cd doc a vs ns Gq Y j (fd_plain hd) hcd E z g c y) λr s' A=>?_;let(rfl,M,C,h4):=A;show⟨.inl ⟨.bool N,.bool N,[],R,λ_=>rfl,.bool N,zqd l _,λ_=>⟨List.Pairwise.nil,λ_ J=>(nomatch J)⟩⟩,M,C,h4⟩
end Att
namespace L2
theorem ziy:∀{vs:List Va} {ns:List Int},jt vs ns->Vals (ns.map V.int) vs
 |_,_,.nil=>.nil
 |_,_,.cons n t h=>.cons ⟨t,R⟩<|ziy h
noncomputable abbrev KOf{K:Frag}{h:Heap}(_:K.In h):Frag:=K
noncomputable def defArgs(s:Stmt):iK:=match s with
 |.FunctionDef _ a _ _ _ _ _ _ _ _=>a
 |_=>{posonlyargs:=[],args:=[],vararg:=B,kwonlyargs:=[],kw_defaults:=[],kwarg:=B,defaults:=[]}
noncomputable def defBody(s:Stmt):List Stmt:=match s with
 |.FunctionDef _ _ b _ _ _ _ _ _ _=>b
 |_=>[]
noncomputable def defScope(s:Stmt):Scope:=match s with
 |.FunctionDef _ _ _ _ _ _ a _ _ _=>a
 |_=>{kind:=.function,names:=[],isGenerator:=Fa,isCoroutine:=Fa}
abbrev CX0:CXT:=λ_ _ _ _ _ _=>False
abbrev E0:XK:=λ_ _ _=>False
theorem pass0:Passes CX0 X E0:=λ_ _ _ _ _ _ _ h=>h.elim
structure Fun(K:Frag)(x qual:Str)(st:Stmt)(f:Ad)(fd:i5):Prop where
 ex:∃(oc:Va) (od:Option Ad) (kV doc pm:Va) (an:Option Ad) (cdv ct:Va) (osl:Y8),
  fd=PySem.W.fnOf x qual (defArgs st) (defBody st) (defScope st) .none kV doc pm an cdv ct/\K.lookup f=G ⟨oc,od,.func fd,osl⟩/\PySem.W.codeIn K cdv qual=N
 kp:PySem.W.keepIn K (.ref f)=N
section
variable {P:im}{w:World}{K:Frag}{mg:Y1}{base:Heap}
theorem Fun.ok{x qual:Str}{st:Stmt}{f:Ad}{fd:i5}{Nq ps:List Str}{k:Nat}{sp:Sp}(F:Fun K x qual st f fd)(S:FnScope Nq ps<|defScope st)(len:∀vs H Q E,sp vs H Q E->vs.length=ps.length)
  (i:∀(j:Va) (A:ir) (outer:List Env) (s:ik) (H:Hp) (vs:List V) (Q:VK) (E:XK),Room k (A.deeper<|jl qual (defScope st) s.heap.objs.size f j)->sp vs H Q E->
   ∃t,PSs (cxOf CX0 P w K mg base Nq qual (defScope st) f j A outer s H E).nox (defBody st) t/\t {nx:=λ_ H'=>Q .non H',rt:=Q} (start Nq vs) H):FnOk P w K mg base CX0 (k+1) f fd ps sp:=by
 let(oc,M,kV,doc,p,g,j,ct,z,rfl,lk,hcd):=F.ex;apply zvc lk hcd S len λA outer s H vs Q E L Y=>?_;let(t,h,q):=i j A outer s H vs Q E L Y;show⟨t,h.nox,q⟩
theorem Fun.binds{x qual:Str}{st:Stmt}{f:Ad}{fd:i5}{ps:List Str}(F:Fun K x qual st f fd)
  (h:∀(kV doc p:Va) (g:Option Ad) (j ct:Va) (us:List Va),us.length=ps.length->iZ (PySem.W.fnOf x qual (defArgs st) (defBody st) (defScope st) .none kV doc p g j ct) ⟨us,[]⟩=pure (ps.zip us)):Binds K fd ps []:=by
 let(oc,M,kV,doc,p,g,j,ct,z,rfl,lk,hcd):=F.ex;show .all<|h kV doc p g j ct
theorem zng{x qual:Str}{st:Stmt}{f:Ad}{oc:Va}{M g:Option Ad}{z:Y8}{kV doc p j ct:Va}(l:K.lookup f=G ⟨oc,M,.func<|PySem.W.fnOf x qual (defArgs st) (defBody st) (defScope st) .none kV doc p g j ct,z⟩)
  (c:PySem.W.codeIn K j qual=N) (k:PySem.W.keepIn K (.ref f)=N):Fun K x qual st f (PySem.W.fnOf x qual (defArgs st) (defBody st) (defScope st) .none kV doc p g j ct):=⟨⟨oc,M,kV,doc,p,g,j,ct,z,R,l,c⟩,k⟩
end
theorem small1000(h:n<=1000):n<io:=y3l h 04
section
variable {X:Cx}
theorem pv(i:Nat){x:Str}{pos:Pos}(hN:X.Nq[i]?=G x:=by rfl)(hv:Vis X.env.scope x:=by first|show Or.inl rfl|show Or.inr (Or.inl R)|show Or.inr (Or.inr R))(hd:(x==("__debug__":Str))=Fa:=by decide)
  (hcd:(x==("__classdict__":Str))=Fa:=by decide):PE X (.Name x pos) (tVar i):=zf1 hN hv hd hcd
end
theorem iteF{A Bq:Prop}(h:Bq):if Fa=N then A else Bq:=by
 rw[Xp y0g];show h
theorem iteT{A Bq:Prop}(h:A):if N=N then A else Bq:=by
 rw[Xq rfl];show h
theorem itT{c A Bq:Prop}[Decidable c](e:c)(h:A):if decide c=N then A else Bq:=by
 rw[Xg e];show iteT h
theorem itF{c A Bq:Prop}[Decidable c](e:¬c)(h:Bq):if decide c=N then A else Bq:=by
 rw[Xf e];show iteF h
theorem ite2{c A Bq:Prop}[Decidable c](Y:c->A)(M:¬c->Bq):if c then A else Bq:=by
 by_cases h:c
 .rw[Xq h];show Y h
 .rw[Xp h];show M h
def Same(H H':Hp):Prop:=∀b o,H b=G o->H' b=G o
theorem Same.refl(H:Hp):Same H H:=λ_ _ h=>h
theorem Same.trans(a:Same H H1)(b:Same H1 H2):Same H H2:=λc o h=>b c o<|a c o h
theorem Same.free(e:Same H H')(h:H' l=Option.none):H l=Option.none:=by
 cases q:H l with
 |none=>rfl
 |some o =>
  rw[e l o q]at h;cases h
theorem Same.seq{K:Frag}{H H':Hp}{a:Ad}{xs:List V}(e:Same H H')(h:SqL K H a xs):SqL K H' a xs:=by
 rcases h with(h|⟨o,h⟩)|h
 .exact .inl<|.inl (e _ _ h)
 .exact .inl<|.inr ⟨o,e _ _ h⟩
 .exact .inr h
theorem ixm{a:Ad}{S:Ad->List V->Prop}{xs:List V}{i:Int}{v:V}{Rq:V->Prop}(e:S a xs)(h:atI xs i=G v)(r:Rq v):asR (.ref a) λp=>∃xs,S p xs/\∃v,atI xs i=G v/\Rq v:=⟨xs,e,v,h,r⟩
theorem mkT{n:Nat}{Rq:Prop}(k:Rq)(h:Nat.ble n io=N:=by rfl):n<=io/\Rq:=⟨Nat.le_of_ble_eq_true h,k⟩
theorem atom{A:Prop}(h:∀Gq:Prop,(A->Gq)->Gq):A:=h A id
theorem zes(env:Env):∀(names:List<|Str×jj) (U:Y4),
  (∀p∈names,p.2=.free->∃c,env.cells.lookup p.1=G c)->(∀x c,U.lookup x=G c->env.cells.lookup x=G c)->
  ∃cl:List<|Str×Ad,(forIn names U λ(p:Str×jj) (r:Y4)=>(if(p.2==NameKind.free)=N then(do let c ←cellOf env p.1;pure (ForInStep.yield ((p.1,c)::r)))else pure (ForInStep.yield r):Sem<|ForInStep (List<|Str×Ad)))=(pure cl:Sem<|List (Str×Ad))/\
   (∀x c,cl.lookup x=G c->env.cells.lookup x=G c)/\(∀x,(U.lookup x).isSome=N->(cl.lookup x).isSome=N)/\(∀p∈names,p.2=.free->(cl.lookup p.1).isSome=N)
 |[],U,_,M=>⟨U,R,M,λ_ h=>h,λ_ h=>nomatch h⟩
 |(n,k)::r,U,Y,M=>by
  let a:∀p∈r,p.2=.free->∃c,env.cells.lookup p.1=G c:=λp L=>Y p<|y0a _ L;by_cases D:(k==NameKind.free)=N
  .let i:k=.free:=by simpa using D
   let(c,C):=Y (n,k) y0c i;let H:∀x c',((n,c)::U).lookup x=G c'->env.cells.lookup x=G c':=λx c' e=>by
    rw[y12]at e;cases O:x==n with
    |true =>
     rw[O]at e;let J:x=n:=by simpa using O
     rw[J,C];show e
    |false=>rw[O]at e;show M x c' e
   let(cl,J,g,Q,s):=zes env r ((n,c)::U) a H;let I:(((n,c)::U).lookup n).isSome=N:=by rw[y12,beq_self_eq_true];rfl
   apply⟨cl,?_,g,λx O=>Q x ?_,λp L T=>?_⟩
   .rw[y2e];let q:cellOf env n=pure c:=by unfold cellOf;rw[C]
    simp only[D,if_true,q];show J
   .rw[y12];cases x==n with
    |true=>rfl
    |false=>show O
   .rcases y06.mp L with e|L
    .rw[e];show Q n I
    .exact s p L T
  .let(cl,J,g,Q,s):=zes env r U a M;apply⟨cl,?_,g,Q,λp L T=>?_⟩
   .rw[y2e];let d:(k==NameKind.free)=Fa:=by simpa using D
    simp only[d,y3n,if_false];show J
   .rcases y06.mp L with e|L
    .rw[e]at T;show Xa (by simpa using T) D
    .exact s p L T
theorem zhl(h:∀p∈scope.names,p.2=.free->∃c,env.cells.lookup p.1=G c):
  ∃cl,closureFor scope env=pure cl/\(∀x c,cl.lookup x=G c->env.cells.lookup x=G c)/\(∀p∈scope.names,p.2=.free->∃c,cl.lookup p.1=G c):=by
 let(cl,J,g,_,s):=zes env scope.names [] h (λx c e=>by simp at e);apply⟨cl,?_,g,λp L T=>y3p.mp<|s p L T⟩;let q:closureFor scope env=(forIn scope.names [] λ(p:Str×jj) (r:Y4)=>(if(p.2==NameKind.free)=N then(do let c ←cellOf env p.1;pure (ForInStep.yield ((p.1,c)::r)))else pure (ForInStep.yield r):Sem<|ForInStep (List<|Str×Ad)))>>=pure:=by
  unfold closureFor;rfl
 rw[q,J];rfl
theorem zex{env:Env}:∀{names:List (Str×jj)} {x:Str},(∀y∈names,y.2 ≠ .cell)->
  ((names.map λ(n,k)=>if(k==NameKind.free&&env.scope.kind ==.function&&env.kindOf n==G .cell)then(n,NameKind.cell)else(n,k)).lookup x=G .cell\/
   (names.map λ(n,k)=>if(k==NameKind.free&&env.scope.kind ==.function&&env.kindOf n==G .cell)then(n,NameKind.cell)else(n,k)).lookup x=G .free)->(x,NameKind.free)∈names
 |[],_,_,h=>by simp at h
 |(n,k)::r,x,C,h=>by
  let E:=@zex env r x λy l=>C y<|y0a _ l;simp only[y0r]at h;cases O:x==n with
  |true =>
   let e:x=n:=by simpa using O
   subst e;by_cases M:(k==NameKind.free&&env.scope.kind ==.function&&env.kindOf x==G .cell)=N
   .let:k=.free:=by
     simp only[y07]at M;simpa using M.1.1
    subst this;show y0c
   .rw[Xp M]at h;simp only[y12,O]at h;rcases h with h|h
    .let:k=.cell:=Option.some.inj h;show Xa this<|C (x,k) y0c
    .let:k=.free:=Option.some.inj h;subst this;show y0c
  |false =>
   apply y0a _<|E ?_;by_cases M:(k==NameKind.free&&env.scope.kind ==.function&&env.kindOf n==G .cell)=N
   .rw[Xq M]at h;simpa only[y12,O]using h
   .rw[Xp M]at h;simpa only[y12,O]using h
theorem zew{env:Env}:∀{names:List (Str×jj)} {x:Str},names.lookup x=G .free->
  ((names.map λ(n,k)=>if(k==NameKind.free&&env.scope.kind ==.function&&env.kindOf n==G .cell)then(n,NameKind.cell)else(n,k)).lookup x=G .cell\/
   (names.map λ(n,k)=>if(k==NameKind.free&&env.scope.kind ==.function&&env.kindOf n==G .cell)then(n,NameKind.cell)else(n,k)).lookup x=G .free)
 |[],_,h=>by simp at h
 |(n,k)::r,x,h=>by
  let E:=@zew env r x;simp only[y0r];cases O:x==n with
  |true =>
   simp only[y12,O]at h;let e:k=.free:=Option.some.inj h;subst e;by_cases M:(NameKind.free==NameKind.free&&env.scope.kind ==.function&&env.kindOf n==G .cell)=N
   .rw[Xq M];left;simp only[y12,O]
   .rw[Xp M];right;simp only[y12,O]
  |false =>
   simp only[y12,O]at h;by_cases M:(k==NameKind.free&&env.scope.kind ==.function&&env.kindOf n==G .cell)=N
   .rw[Xq M];simpa only[y12,O]using E h
   .rw[Xp M];simpa only[y12,O]using E h
def cxB(X:Cx)(scope:Scope)(tn:List Str)(cp:Y6)(cl:Y4)(C:Ad)(s:ik)(H:Hp)(fp:List Ad):Cx :=
 {X with Nq:=tn++cp.map (·.2),s₀:=s,H₀:=H,env:=compEnvC scope cl C X.env,outer:=X.stack,ex:=fp,fn:=λ_=>Fa,pn:=[],xe:=λ_ _=>False}
noncomputable def stB(tn:List Str)(cp:Y6)(σ:St):St:=List.replicate tn.length B++cp.map λp=>(σ[p.1]?).getD B
structure CompOk(X:Cx)(scope:Scope)(cp:Y6):Prop where
 kind:scope.kind=.function
 nocell:∀y∈scope.names,y.2 ≠ .cell
 names:∀y∈scope.names,y.2=.local->scope.names.lookup y.1=G .local
 free:∀y∈scope.names,y.2=.free->X.env.kindOf y.1=G .cell\/X.env.kindOf y.1=G .free
 cap:∀p∈cp,X.Nq[p.1]?=G p.2/\scope.names.lookup p.2=G .free
section
variable {X:Cx}{pins:Y2}{σ:St}{H:Hp}{s:ik}{scope:Scope}{tn:List Str}{cp:Y6}{cl:Y4}{fp:List Ad}
theorem mem_of_lookup'{q:Type}:∀{l:List (Str×q)} {x:Str} {v:q},l.lookup x=G v->(x,v)∈l
 |[],_,_,h=>by simp at h
 |(n,k)::r,x,v,h=>by
  rw[y12]at h;cases O:x==n with
  |true =>
   rw[O]at h;let e:x=n:=by simpa using O
   let g:k=v:=Option.some.inj h;subst e g;show y0c
  |false=>rw[O]at h;show y0a _<|mem_of_lookup' h
theorem zme(I:02 H s)(O:CompOk X scope cp)(w:∀x c,cl.lookup x=G c->X.env.cells.lookup x=G c)(M:∀p∈scope.names,p.2=.free->∃c,cl.lookup p.1=G c)
  (T:∀b∈fp,FpOk X pins H b/\b<s.heap.objs.size) (f:h₁.Ns s.heap.objs.size m0) (D:∀b o,s.heap.get? b=G o->h₁.get? b=G o) :
  Inv (cxB X scope tn cp cl s.heap.objs.size s H fp) [] (stB tn cp σ) H {s with heap:=h₁,toks:=t'}:=by
 let ok:(cxB X scope tn cp cl s.heap.objs.size s H fp).Ok:=by
  apply⟨I.ok.mod,O.kind,I.ok.glob,I.ok.blt,y04 _,λx y c J g=>I.ok.inj x y c (w x c J)<|w y c g,λx hx=>?_,λx c hx=>(by cases hx),I.ok.hd,I.ok.frames,.inl R,λb U=>⟨y0o (T b U).2,λx c e=>?_⟩,
   λb o e=>I.bs b o e,y19 I.ok.bsz I.sz,λb o e U=>?_,λb U hb'=>?_,I.stack,I.stkFree⟩
  .exact M (x,.free) (zex O.nocell hx) R
  .exact(T b U).1.2.2.2.2.1 x c<|w x c e
  .rcases(T b U).1.2.2.2.1 with z|z
   .exact I.ok.noex b o e z
   .exact Xa (y0p (y0e e)<|y19 I.ok.bsz z)<|y1g _
  .rcases y06.mp (I.stkSub b hb')with z|z
   .exact(T b U).1.2.1 z
   .exact(T b U).1.2.2.1 z
 apply⟨ok,R,I.bare,Un.kept D,⟨m0,f,λi x v J g Q=>?_⟩,λx c e=>?_,I.hok.fresh<|y04 _,λx c e=>I.freeC x c<|w x c e,λp L=>by simp[cxB]at L,I.hok.kept D,?_⟩
 ·-- a E name
  let bc:(tn++cp.map (·.2))[i]?=G x:=J;let am:(List.replicate tn.length B++cp.map λp=>(σ[p.1]?).getD B)[i]?=G (G v):=g;by_cases hi:i<tn.length
  .rw[y15<|by simpa using hi]at am;rw[y3s,Xq hi]at am;cases am
  .rw[y1b (by simpa using y2u hi),y3d,y05]at am;rw[y1b<|y2u hi,y05]at bc;cases L:cp[i-tn.length]? with
   |none=>rw[L]at bc;cases bc
   |some p =>
    rw[L]at bc am;let e1'':p.2=x:=Option.some.inj bc;let A:(σ[p.1]?).getD B=G v:=Option.some.inj am;let(Y,c2):=O.cap p<|y0l L;rw[e1'']at Y c2;let hs:σ[p.1]?=G (G v):=by
     cases q:σ[p.1]? with
     |none=>rw[q]at A;cases A
     |some z=>rw[q]at A;show congrArg G A
    let bo:=O.free (x,.free) (mem_of_lookup' c2) rfl;let hvis:Vis X.env.scope x:=by
     rcases bo with z|z
     .exact .inr<|.inl z
     .exact .inr<|.inr z
    let(m,hn,hl):=I.loc;let(u,r,l):=hl p.1 x v Y hs hvis;apply⟨u,r,.inr ?_⟩;rcases l with⟨z,_⟩|⟨_,c,C,o,j,hd⟩
    .rcases bo with y|y<;>(rw[z]at y;cases y)
    .let(c',d):=M (x,.free) (mem_of_lookup' c2) rfl;let:c'=c:=Option.some.inj<|(w x c' d).symm.trans C;subst this;show⟨zew c2,c',d,o,D c' o j,hd⟩
 .let(v,o,j,hd):=I.cell x c<|w x c e;show⟨v,o,D c o j,hd⟩
 .change(stB tn cp σ).length=(tn++cp.map (·.2)).length;unfold stB;simp
theorem zs0{l:St}{H':Hp}{s':ik}{h':Heap}{a:Y2}(I:02 H s)(T:∀b∈fp,FpOk X pins H b)
  (J:Inv (cxB X scope tn cp cl s.heap.objs.size s H fp) a l H' s') (hs:Heap.SameBut s.heap.objs.size s'.heap h'):02 H' {s' with heap:=h'}:=by
 let ne:∀b o,s.heap.get? b=G o->b≠s.heap.objs.size:=λb o e=>y0o<|y0e e;let U:Un (frs X.stack) fp H H' s.heap h':=by
  let u:Un (frs X.stack) fp H H' s.heap s'.heap:=J.base;apply⟨λb o e n Y M=>(hs.2 b<|ne b o e).trans<|u.keep b o e n Y M,λb o e n Y M=>?_,u.free,λb o e M=>?_,u.tups,u.frzs,u.tbls⟩
  .let(f,q):=u.slot b o e n Y M;show⟨f,(hs.2 b<|ne b o e).trans q⟩
  .let(D,q):=u.there b o e M;show⟨D,(hs.2 b<|ne b o e).trans q⟩
 let fr:H' s.heap.objs.size=B:=J.free;let hok:HOk X.prog X.w H' h':=λb ob e=>by
  apply(J.hok b ob e).stay (λc v C q=>(hs.2 c ?_).trans q) (λ_ q=>q) (λ_ _ _ _ _ q=>q) λ_ _ q=>q;rintro rfl;rcases C with z|z
  .rw[←z,fr]at e;cases e
  .rw[fr]at z;cases z
 apply I.call' (s':={s' with heap:=h'}) (ch:=fp) J.os U hok J.bare λb d=>?_;let(_,f1,_,L,Q,r):=T b d;show⟨L,f1,Q,r⟩
end
def PIfs(X:Cx)(j:List Expr)(t:TT):Prop :=
 ∀(pins:Y2) (s:ik) (σ:St) (H:Hp) (Q:Bool->Hp->Prop),02 H s->t σ H Q->
  wpAny 06 X.A (forIn j N λc r=>if r=N then do let ok ←isTrue c X.env (eval c X.env);pure (ForInStep.yield ok)else pure (ForInStep.yield r)) (TP X pins σ Q) X.xe s
def tYes:TT:=λ_ H Q=>Q N H
theorem za9:PIfs X [] tYes:=λ_ _ _ H _ I h=>wpAny_tests_nil ⟨H,I,h⟩
theorem zm2(h:PT X c t):PIfs X [c] t:=λpins s σ H Q I j=>wpAny_tests_one<|h pins s σ H Q I j
theorem zkc(I:Nat->ik->Prop)
  (turn:∀n s,I n s->wpAny (model prog w) A (jy it) (λr s₁=>match r with
   |none=>Rq (.ok .next) s₁
   |some v=>wpAny (model prog w) A (iT a it v) (λ_ s₂=>wpAny (model prog w) A (assign a env v) (λ_ s₃ =>
     wpAny (model prog w) A (forIn j N λc r=>if r=N then do let ok ←isTrue c env (eval c env);pure (ForInStep.yield ok)else pure (ForInStep.yield r)) (λok d =>
      if ok=N then wpAny (model prog w) A (eval u env) (λx p =>
       wpAny (model prog w) A (call (.builtin "list.append") [o,x]) (λ_ g=>∃m,m<n/\I m g) (λ_ _=>False) p) (λ_ _=>False) d
      else∃m,m<n/\I m d) (λ_ _=>False) s₃) (λ_ _=>False) s₂) (λ_ _=>False) s₁) (λ_ _=>False) s)
  (n:Nat) (h:I n s) :
  iY (model prog w) A (.compLoop (.ListComp u [⟨a,iter,j,0⟩] scope pos) 0 it o env) Rq s:=by
 apply codeAny_loop R I (λn s q=>?_) n h;change wpAny _ A ((compTurn (.ListComp u [⟨a,iter,j,0⟩] scope pos) 0 it o env).onRaise λx=>do lq x env;theTreesLotGoes x) _ _ s;apply wpAny_noted ?_;rw[compTurn_list];apply ig<|iW (ig<|iy (turn n s q) (λr s₁ h₁=>?_) λ_ _ f=>f.elim);cases r with
 |none=>show ii h₁
 |some v =>
  apply ig<|iy h₁ (λ_ s₂ l=>?_) λ_ _ f=>f.elim;apply ig<|iy l (λ_ s₃ e=>ig<|iy e (λok d i=>?_) λ_ _ f=>f.elim) λ_ _ f=>f.elim;cases ok with
  |false=>show ii ⟨R,i⟩
  |true =>
   show ig<|ig (iy i (λx p y=>ig<|iy y (λ_ g z=>ii<|ii ⟨R,z⟩) λ_ _ f=>f.elim) λ_ _ f=>f.elim)
def tComp(tn:List Str)(cp:Y6)(w:TI)(g:TG)(tif:TT)(te:TE):TE:=λσ H Q=>w σ H λJ H1=>∀D,H1 D=B->∃W:Nat->Nat->St->Hp->Prop,
 (∃m,W 0 m (stB tn cp σ)<|upd H1 D (.lst []))/\∀i m A Hb,W i m A Hb->
  (J.stop i Hb/\Q (.ref D) Hb)\/(J.go i Hb/\∀x H',J.yld i Hb x H'->g x A H' λd H2=>tif d H2 λc H3 =>
   if c=N then te d H3 λy H4=>∃ys,H4 D=G (.lst ys)/\ys.length<io/\∃O,O<m/\W (i+1) O d (upd H4 D<|.lst (ys++[y]))
   else∃O,O<m/\W (i+1) O d H3)
theorem zhi{X:Cx}{elt l iter:Expr}{ifs:List Expr}{scope:Scope}{pos cpos:Pos}{wi:TI}{g:TG}{tif:TT}{te:TE}(tn:List Str)(cp:Y6)(O:CompOk X scope cp)(hc:X.calm=N)(hi:PI X l iter wi)
  (hg:∀cl C s H fp,PG (cxB X scope tn cp cl C s H fp) l g) (hif:∀cl C s H fp,PIfs (cxB X scope tn cp cl C s H fp) ifs tif) (f:∀cl C s H fp,PE (cxB X scope tn cp cl C s H fp) elt te)
  (hs:∀x,jr iter X.env x=pure x) {pins:Y2} {s:ik} {σ:St} {H:Hp} {Q:VK} {Rq:Y0} {use:Option (Va->Sem Unit)} (I:02 H s) (h:tComp tn cp wi g tif te σ H Q)
  (fin:∀(D C:Ad) (H5:Hp) (s5:ik) (m:Y1),02 H5 s5->FpOk X pins H5 C->s5.heap.Ns C m->Q (.ref D) H5->compPost 06 X.A X.xe use Rq (.ref D) C (.ok .next) s5) :
  wpAny 06 X.A (comprehension (.ListComp elt [⟨l,iter,ifs,0⟩] scope pos) scope X.env cpos (newList []) Fa (eval iter X.env) use) Rq X.xe s:=by
 let(cl,a9,w,hcl2):=zhl (scope:=scope) (env:=X.env) λp hp hf=>I.ok.has p.1<|O.free p hp hf;apply wpAny_comprehension_free (use:=use) R hs a9 O.kind O.names<|thn (hi pins s σ H _ I h) λv s1 Y=>thn Y λitv s2 M=>?_;let(it,fp,tn',J,H2,rfl,I2,T,st2,q,rest):=M;apply i6 ?_;let I3:02 (upd H2 s2.heap.objs.size<|.lst []) {s2 with heap:=s2.heap.push {cls:=.type "list",data:=.seq ([]:List Va).toArray} }:=I2.lnew (its:=[]) (t':=s2.toks) .nil<|y18 _;let(W,(m0,w0),turn):=rest s2.heap.objs.size I2.fresh;let fpl:∀b∈fp,b<s2.heap.objs.size:=λb U=>by
  let(o,e,_):=T.obj _ _ st2 b U;show y0e e
 let f3:∀b∈fp,FpOk X pins (upd H2 s2.heap.objs.size<|.lst []) b:=λb U=>⟨by rw[zak<|y0o (fpl b U)];show(q b U).1,(q b U).2⟩;let sz3:(s2.heap.push {cls:=.type "list",data:=.seq ([]:List Va).toArray}).objs.size=s2.heap.objs.size+1:=y1a ..;apply wpAny_newFunctionEnv O.nocell (by intro y hy;simp at hy) (λh₁ hns hsb=>?_) O.kind;let hk1:∀b o,(s2.heap.push {cls:=.type "list",data:=.seq ([]:List Va).toArray}).get? b=G o->h₁.get? b=G o:=λb o e =>
  hsb.extBut b o (y0o<|y0e e) (y03 _ e)
 let J3:=zme (tn:=tn) (cp:=cp) (t':=s2.toks+([]:List<|Str×Va).length) I3 O w hcl2 (λb U=>⟨f3 b U,by rw[sz3];show y36<|fpl b U⟩) hns hk1;let st3:tn' 0 h₁:=T.keep _ _ _ st2 λb U o e=>hk1 b o<|y03 _ e;change iY _ _ (.compStart _ 0 (.ref it) (.ref s2.heap.objs.size)<|compEnvC scope cl (s2.heap.push {cls:=.type "list",data:=.seq ([]:List Va).toArray}).objs.size X.env) _ _;generalize E:cxB X scope tn cp cl (s2.heap.push {cls:=.type "list",data:=.seq ([]:List Va).toArray}).objs.size {s2 with heap:=s2.heap.push {cls:=.type "list",data:=.seq ([]:List Va).toArray} } (upd H2 s2.heap.objs.size<|.lst []) fp=XB at J3;let cu:XB.prog=X.prog:=by rw[←E];rfl
 let j:XB.w=X.w:=by rw[←E];rfl
 let hK:XB.K=X.K:=by rw[←E];rfl
 let hA:XB.A=X.A:=by rw[←E];rfl
 let fg:XB.env=compEnvC scope cl (s2.heap.push {cls:=.type "list",data:=.seq ([]:List Va).toArray}).objs.size X.env:=by rw[←E];rfl
 let kr:XB.calm=N:=by rw[←E];show hc
 let hxe:XB.xe=λ_ _=>False:=by rw[←E];rfl
 let hgB:PG XB l g:=by rw[←E];show hg _ _ _ _ _
 let hifB:PIfs XB ifs tif:=by rw[←E];show hif _ _ _ _ _
 let heB:PE XB elt te:=by rw[←E];show f _ _ _ _ _
 let fB:∀(pb:Y2) (Hb:Hp),(∀b∈fp,Hb b=B)->(∀b∈fp,∀p∈XB.pn++pb,p.1≠b)->∀b∈fp,FpOk XB pb Hb b:=λpb Hb hn hp b U=>by
  apply⟨hn b U,?_,?_,.inl (by rw[←E];show U),λx c e=>?_,hp b U⟩
  .rw[fg];change b≠(s2.heap.push {cls:=.type "list",data:=.seq ([]:List Va).toArray}).objs.size;rw[sz3];show y0o<|y36 (fpl b U)
  .rw[←E];change b∉frs X.stack;intro z;rcases y06.mp (I2.stkSub b z)with y|y
   .exact(q b U).2.1 y
   .exact(q b U).2.2.1 y
  .rw[fg]at e;show(q b U).2.2.2.2.1 x c<|w x c e
 let pn0:XB.pn=[]:=by rw[←E];rfl
 let kt:∀s₃:ik,s₃={s2 with heap:=h₁,toks:=s2.toks+([]:List<|Str×Va).length}->
   iY 06 X.A (.compLoop (.ListComp elt [⟨l,iter,ifs,0⟩] scope pos) 0 (.ref it) (.ref s2.heap.objs.size) XB.env)
    (compPost 06 X.A X.xe use Rq (.ref s2.heap.objs.size) (s2.heap.push {cls:=.type "list",data:=.seq ([]:List Va).toArray}).objs.size) s₃:=by
  rintro s₃ rfl;apply zkc (λn s'=>∃i A Hb,Inv XB [] A Hb s'/\tn' i s'.heap/\(∀b∈fp,Hb b=B)/\W i n A Hb) ?_ m0 ⟨0,stB tn cp σ,_,J3,st3,λb U=>(f3 b U).1,w0⟩;rintro n s4 ⟨i,σ4,H4,I4,st4,fr4,w4⟩;rcases turn i n σ4 H4 w4 with⟨stop,qn⟩|⟨go,step⟩
  .let d:=T.done XB cu j hK kr i [] s4 σ4 H4 (λ_ _=>False) I4 (fB [] H4 fr4 λb U p hp=>by rw[pn0]at hp;simp at hp) st4 stop;rw[hA]at d;apply thn d λr s5 ⟨L,I5⟩=>?_;subst L;let(mm,hn5,_):=id I5.loc;let fr5:H4 (s2.heap.push {cls:=.type "list",data:=.seq ([]:List Va).toArray}).objs.size=B:=by
    let z:=I5.free;rw[fg]at z;show z
   let J5:02 H4 s5:=by
    rw[←E]at I5;show zs0 (h':=s5.heap) I3 f3 I5 ⟨R,λ_ _=>rfl⟩
   show fin _ _ H4 s5 mm J5 (I3.fpOk (y04 _) fr5) (by rw[fg]at hn5;show hn5) qn
  .let d:=T.item XB cu j hK kr i [] s4 σ4 H4 (λ_ _=>False) I4 (fB [] H4 fr4 λb U p hp=>by rw[pn0]at hp;simp at hp) st4 go;rw[hA]at d;apply thn d λr s5 ⟨u,L,h5⟩=>?_;subst L;apply thn h5 λ_ s6 zz=>ex5 zz λx H6 I6 r6 zq=>?_;let(y6,st6,fr6):=zq;let I6':=I6.pinned (fB [] H6 fr6 λb U p hp=>by rw[pn0]at hp;simp at hp)<|T.obj _ _ st6;let q6:=step x H6 y6;let a1:=hgB _ s6 σ4 H6 x u _ I6' r6 q6;rw[hxe,cu,j,hA]at a1;apply thn a1 λ_ s7 ⟨a,H7,I7,q7⟩=>?_;let a2:=hifB _ s7 a H7 _ I7 q7;rw[hxe,cu,j,hA]at a2;apply thn a2 λok s8 ⟨H8,I8,q8⟩=>?_;let again:∀{ku:St} {H9:Hp} {s9:ik},Inv XB ([]++pinsAt fp s6.heap) ku H9 s9->(∃m',m'<n/\W (i+1) m' ku H9)->∃m,m<n/\∃i A Hb,Inv XB [] A Hb s9/\tn' i s9.heap/\(∀b∈fp,Hb b=B)/\W i m A Hb:=λ{ku H9 s9} I9 n9=>by
    let(m',hm,w9):=n9;apply⟨m',hm,i+1,ku,H9,I9.unpinned,T.keep _ _ _ st6 λb U o e=>(I9.pin (b,o)<|y0x _ (y0x _<|zc3 U e)).1,λb U=>?_,w9⟩;let(o,e,d):=T.obj _ _ st6 b U;show(I9.pin (b,o)<|y0x _ (y0x _<|zc3 U e)).2.1
   cases ok with
   |false=>show again I8 q8
   |true =>
    change wpAny _ _ _ _ _ _;let a3:=heB _ s8 a H8 _ I8 q8;rw[hxe,cu,j,hA]at a3;apply thn a3 λyv s9 zz=>ex5 zz λy H9 I9 r9 zq=>?_;let(ys,hD,hlen,n9):=zq;let a4:=zjz (X:=XB) _ s9 a H9 (.ref s2.heap.objs.size) [y] (.ref s2.heap.objs.size) [yv] (λ_ H'=>∃m',m'<n/\W (i+1) m' a H') I9 R (.cons r9 .nil) ⟨_,ys,y,R,R,hD,hlen,n9⟩;rw[hxe,cu,j,hA]at a4;show thn a4 λ_ s10 zz=>ex5 zz λ_ H10 I10 _ q10=>again I10 q10
 rw[fg]at kt;apply codeAny_compStart_list (kt _ R)<|T.self _ 0 _ _ _ st3 (kt _ R)
theorem zav(tn:List Str)(cp:Y6)(O:CompOk X scope cp)(Y:X.calm=N)(hi:PI X l iter w)
  (y:∀cl C s H fp,PG (cxB X scope tn cp cl C s H fp) l g) (c:∀cl C s H fp,PIfs (cxB X scope tn cp cl C s H fp) j tif) (f:∀cl C s H fp,PE (cxB X scope tn cp cl C s H fp) u te)
  (hs:∀x,jr iter X.env x=pure x:=by intro _;rfl) :
  PE X (.ListComp u [⟨l,iter,j,0⟩] scope pos) (tComp tn cp w g tif te):=by
 intro pins s σ H Q I h;rw[eval_ListComp];apply zhi tn cp O Y hi y c f hs I h λD C H5 s5 m A r p a=>⟨m,p,λh' M=>⟨.ref D,H5,?_,R,a⟩⟩;let(J,f1,q,L,i,r):=r;show A.turned (t':=s5.toks) (λb o U e=>(M.2 b U).trans e) J f1 L i r
theorem zek{X:Cx}{i:Nat}{x:Str}{u l iter:Expr}{j:List Expr}{scope:Scope}{pos p om:Pos}{w:TI}{g:TG}{tif:TT}{te:TE}(hN:X.Nq.Nodup)(hx:X.Nq[i]?=G x)(hl:Loc X.env.scope x)(tn:List Str)(cp:Y6)(O:CompOk X scope cp)(hc:X.calm=N)(hi:PI X l iter w)
  (y:∀cl C s H fp,PG (cxB X scope tn cp cl C s H fp) l g) (c:∀cl C s H fp,PIfs (cxB X scope tn cp cl C s H fp) j tif) (f:∀cl C s H fp,PE (cxB X scope tn cp cl C s H fp) u te)
  (hsw:j9 (.ListComp u [⟨l,iter,j,0⟩] scope pos) (G<|.Name x p) om.line X.env=pure N:=by rfl) (hs:∀x,jr iter X.env x=pure x:=by intro _;rfl)
  (T:X.fn x=N\/X.env.scope.names.lookup x=G .local:=by first|show .inl rfl|show .inr rfl|assumption) :
  PS X (.Assign [.Name x p] (.ListComp u [⟨l,iter,j,0⟩] scope pos) om) (tAsg (tComp tn cp w g tif te)<|gName i):=by
 intro pins s σ H D I h;rw[exec_Assign_Name_used _ _ _ _ hsw];apply ig<|iW (ig ?_);change wpAny _ X.A (do let _ ←comprehension (.ListComp u [⟨l,iter,j,0⟩] scope pos) scope X.env _ (newList []) Fa (eval iter X.env) (G<|assign (.Name x p) X.env)) _ _ s;apply ig<|iy (zhi tn cp O hc hi y c f hs (Rq:=λ_ s'=>SP X pins D .next s') I h λE C H5 s5 m A r n5 q5=>?_) (λ_ _ q=>ii<|ii q) λ_ _ e=>e;let(J,f1,f2,L,Q,r):=r;change wpAny _ X.A (assign (.Name x p) X.env<|.ref E) _ _ _;apply wpAny_assign_Name<|zi2 A hN hx hl (v:=.ref E) R (λs6 Y ⟨a,sb,d⟩=>?_) T;let ne:C≠a:=by
  rcases d with e|e
  .rw[e];show f1
  .exactλz=>Q x a e z.symm
 apply⟨m,n5.sameBut sb ne,λh' M=>⟨_,H5,Y.turned (t':=s6.toks) (λb o U e=>(M.2 b U).trans e) J f1 L Q r,q5⟩⟩
noncomputable def Its(z:Str):It:=⟨λi _=>i<z.cps.size,λi H x H'=>H'=H/\∃c,z.cps[i]?=G c/\x=.str ⟨#[c]⟩,λi _=>z.cps.size<=i⟩
theorem zmn{P:im}{w:World}{K:Frag}{l:Expr}(z:Str)(t:Tok)(it:Ad)(ty:String)(p:ty="str_ascii_iterator"\/ty="str_iterator"):
  Turn P w K l (Its z) [it] it (λi h=>h.IsStrIter it ty z t i) where
 mem:=by simp
 obj:=λi h st b U=>by
  let e:b=it:=by simpa using U
  subst e;let(o,e,c,d):=st;show⟨o,e,λv z=>by rw[d]at z;cases z⟩
 keep:=λi h h' st k=>by
  let(o,e,r):=st;show⟨o,k it (by simp) o e,r⟩
 item:=by
  intro X g j f C i pins s σ H E I T st y;subst g j f;let(J,f1,q,L,Y,a):=T it (by simp);let hi:i<z.cps.size:=y;let O:z.cps[i]?=G z.cps[i]:=by simp[hi]
  let D:(["enumerate","zip","dict_itemiterator","dict_reverseitemiterator","odict_iterator","itertools.zip_longest","itertools.pairwise"].contains ty)=Fa:=by
   rcases p with e|e<;>(rw[e];decide)
  let fin:∀h',h'.IsStrIter it ty z t (i+1)->Heap.SameBut it s.heap h'->∃u,G (Va.str ⟨#[z.cps[i]]⟩ s.toks)=G u/\
    wpAny 06 X.A (iT l (.ref it) u) (λ_ s2=>∃x H',02 H' s2/\RelV x u/\(Its z).yld i H x H'/\s2.heap.IsStrIter it ty z t (i+1)/\∀b∈[it],H' b=B) E {s with heap:=h',toks:=s.toks+1}:=λh' st' sb=>by
   let I1:02 H {s with heap:=h',toks:=s.toks+1}:=I.turned (t':=s.toks+1) (λb o U e=>(sb.2 b U).trans e) J f1 L Y a;let(o,e,c,d):=id st';show⟨_,R,zrz (s:={s with heap:=h',toks:=s.toks+1}) e c d D ⟨.str ⟨#[z.cps[i]]⟩,H,I1,⟨_,R⟩,⟨R,_,O,R⟩,st',λb U=>(T b U).1⟩⟩
  rcases p with e|e
  .subst e;show wpAny_pyNext_ascii_item st O fin
  .subst e;show wpAny_pyNext_wide_item st O fin
 done:=by
  intro X g j f C i pins s σ H E I T st y;subst g j f;let(J,f1,q,L,Y,a):=T it (by simp);let hi:z.cps.size<=i:=y;let O:z.cps[i]?=B:=by simp[hi]
  rcases p with e|e
  .subst e;show wpAny_pyNext_ascii_end (I.ok.hd C) st O λh' M=>⟨R,I.turned (t':=s.toks) (λb o U e=>M b o U e) J f1 L Y a⟩
  .subst e;show wpAny_pyNext_wide_end (I.ok.hd C) st O λh' M=>⟨R,I.turned (t':=s.toks) (λb o U e=>M b o U e) J f1 L Y a⟩
 self:=by
  intro A i s Q E st h;rcases p with e|e
  .subst e;show wpAny_pyIter_striter_ascii st h
  .subst e;show wpAny_pyIter_striter_wide st h
def iStr(tl:TE):TI:=λσ H Rq=>tl σ H λx H1=>∃z,x=.str z/\Rq (Its z) H1
theorem zy7{X:Cx}{y l:Expr}{tl:TE}(hl:PE X l tl):PI X y l (iStr tl):=by
 intro pins s σ H Rq I h;apply thn (hl pins s σ H _ I h) λv s1 zz=>ex5 zz λx H1 I1 r1 w=>?_;let(z,e,q):=w;subst e;let(t,rfl):=r1;let fo:∀b∈[s1.heap.objs.size],FpOk X pins H1 b:=λb U=>by
  let e:b=s1.heap.objs.size:=by simpa using U
  subst e;show I1.fpOk (y04 _)<|I1.hok.fresh (y04 _)
 cases d:z.cps.all (· < 128)
 .exact wpAny_pyIter_wide d ⟨s1.heap.objs.size,[s1.heap.objs.size],_,_,H1,R,I1.kept (t':=s1.toks) λb o e=>y03 _ e,zmn z t _ "str_iterator"<|.inr R,⟨_,y0f _ R,R,R⟩,fo,q⟩
 .exact wpAny_pyIter_ascii d ⟨s1.heap.objs.size,[s1.heap.objs.size],_,_,H1,R,I1.kept (t':=s1.toks) λb o e=>y03 _ e,zmn z t _ "str_ascii_iterator"<|.inl R,⟨_,y0f _ R,R,R⟩,fo,q⟩
def rSlS:V->Option Int->Option Int->Hp->VK->Prop:=λx lo hi H Q=>∃z,x=.str z/\z.length<=io/\Q (.str<|Txt.slice z lo hi) H
theorem zys:SlR X rSlS:=by
 intro pins s σ H x v J vu lo hi f Q I rx hs pl g h;let(z,rfl,hz,q):=h;let(t,rfl):=rx;apply⟨"str",_,F.slot_str_getitem.lookup,typeIs_str _ _ _,?_⟩;let go:∀(l u:Option<|Int×Tok),J=partValue l->vu=partValue u->lo=l.map (·.1)->hi=u.map (·.1)->wpAny 06 X.A (jJ (.str z t)<|.ref f) (EP X pins σ Q) X.xe s:=by
  rintro l u rfl rfl rfl rfl;apply wpAny_getItem_str_slice (l:=l) (u:=u) (st:=B) ?_ R ?_
  .let(o,e,c,d):=hs;show⟨o,e,c,d⟩
  .exact post_val_or_str ⟨y19 (Txt.slice_le z _ _) hz,λt' k=>⟨.str _,H,I.tok _,⟨_,R⟩,q⟩⟩
 cases pl with
 |none =>
  cases g with
  |none=>show go B B R R R R
  |int j u=>show go B (G (j,u)) R R R R
 |int i t' =>
  cases g with
  |none=>show go (G (i,t')) B R R R R
  |int j u=>show go (G (i,t')) (G (j,u)) R R R R
theorem zmb:CallR X (.builtin "isinstance") (λxs H Q=>∃x T t b,xs=[x,.ty T]/\TyOf X.K H x t/\PySem.W.kitOne X.K t (.type T)=G b/\Q (.bl b) H):=by
 intro pins s σ H xs us Q I r h;let(x,T,t,b,rfl,ty,e,q):=h;let(u,w',rfl,rx,ry):=vals2 r;cases(show w'=Va.type T from ry);show zru I rx ty e λc=>⟨.bl b,H,I.tok _,R,q⟩
section
open PyProof.Rows.LSm
theorem zns:∀{us:List Va},Vals (bs.map V.bl) us->BoolsAre us bs:=by
 induction bs with
 |nil=>intro us r;rw[y3c]at r;cases r;show .nil
 |cons b bs E =>
  intro us r;rw[y0r]at r;cases r with
  |cons r1 l =>
   cases(show _=Va.bool b from r1);show .cons b<|E l
theorem zmd(C:X.calm=N):CallR X (.builtin "all") (λxs H Q=>∃(p:Ad) (bs:List Bool),xs=[.ref p]/\SqL X.K H p (bs.map V.bl)/\Q (.bl<|bs.all id) H):=by
 intro pins s σ H xs us Q I r h;let(p,bs,rfl,O,q):=h;let(u,rfl,rx):=vals1 r;cases(show u=Va.ref p from rx);let(vs,T,pl,hz):=I.list O;let hl:=pl.isList;let U:=zns T;let f:p<s.heap.objs.size:=by let(_,e,_):=hl;show y0e e
 apply call_all_walk<|iV hl ?_;apply⟨s.heap.objs.size,[s.heap.objs.size,p],[s.heap.objs.size],vs.toArray.size,_,_,λi=>(bs[i]?).getD N,R,Walks.list (A:=X.A.in1) (I.ok.hd C) _ p (y0o f) vs.toArray,
  ⟨⟨_,y0f _ R,R,R⟩,hl.push _⟩,λi v s' d E' g w=>?_,λh' c D=>?_⟩
 .let(b,e,rfl):=U.get i v (by simpa using g);simp only[e,y0y]at w;show iD w
 .let e:((List.range vs.toArray.size).all λi=>(bs[i]?).getD N)=bs.all id:=by
   rw[y08,U.length];show range_all bs
  rw[e];show⟨.bl _,H,I.kept<|kept_iter D,R,q⟩
theorem zmc(C:X.calm=N):CallR X (.builtin "any") (λxs H Q=>∃(p:Ad) (bs:List Bool),xs=[.ref p]/\SqL X.K H p (bs.map V.bl)/\Q (.bl<|bs.any id) H):=by
 intro pins s σ H xs us Q I r h;let(p,bs,rfl,O,q):=h;let(u,rfl,rx):=vals1 r;cases(show u=Va.ref p from rx);let(vs,T,pl,hz):=I.list O;let hl:=pl.isList;let U:=zns T;let f:p<s.heap.objs.size:=by let(_,e,_):=hl;show y0e e
 apply call_any_walk<|iV hl ?_;apply⟨s.heap.objs.size,[s.heap.objs.size,p],[s.heap.objs.size],vs.toArray.size,_,_,λi=>(bs[i]?).getD Fa,R,Walks.list (A:=X.A.in1) (I.ok.hd C) _ p (y0o f) vs.toArray,
  ⟨⟨_,y0f _ R,R,R⟩,hl.push _⟩,λi v s' d E' g w=>?_,λh' c D=>?_⟩
 .let(b,e,rfl):=U.get i v (by simpa using g);simp only[e,y0y]at w;show iD w
 .let e:((List.range vs.toArray.size).any λi=>(bs[i]?).getD Fa)=bs.any id:=by
   rw[y08,U.length];show range_any bs
  rw[e];show⟨.bl _,H,I.kept<|kept_iter D,R,q⟩
theorem zke(C:X.calm=N):CallR X (.builtin "sum") (λxs H Q=>∃(p:Ad) (ns:List Int),xs=[.ref p]/\SqL X.K H p (ns.map V.int)/\Q (.int ns.sum) H):=by
 intro pins s σ H xs us Q I r h;let(p,ns,rfl,O,q):=h;let(u,rfl,rx):=vals1 r;cases(show u=Va.ref p from rx);let(vs,T,pl,hz):=I.list O;let hi:=zeq T;let(ys,l):=hi.allInts.items;let w:s.heap.IsList p (intItems ys):=l▸pl.isList;apply sum_intListG (I.ok.hd C) w λh' c t' D=>?_;let J:ns=ys.toList.map (·.1):=by
  rw[←nums_intItems,←l];show(show numsOf vs.toArray.toList=ns from hi.numsOf).symm
 let g:preSum (numAt ys) ys.size=ns.sum:=by
  rw[preSum_eq,y0i (by simp),J]
 rw[g];show⟨.int _,H,I.kept D,⟨_,R⟩,q⟩
end
def rZfill:V->List V->Hp->VK->Prop:=λx vs H Q=>∃z i,x=.str z/\vs=[.int i]/\PadOk i=N/\Q (.str<|Txt.zfill z i) H
def EqOk(X:Cx)(k:Nat)(H:Hp)(x y:V)(b:Bool):Prop:=∀(pins:Y2) (σ:St) (s:ik) (A:ir) (u v:Va),A.units+k<cLine->02 H s->RelV x u->RelV y v->SeqAt.EqAt A s u v b
def RcOk(X:Cx)(k:Nat)(H:Hp)(x y:V)(b:Bool):Prop:=∀(pins:Y2) (σ:St) (s:ik) (A:ir) (u v:Va),A.units+k<cLine->02 H s->RelV x u->RelV y v->SeqAt.RcAt A s u v b
section
variable {X:Cx}{k:Nat}{H:Hp}{x y:V}{a b:Ad}{xs ys:List V}
theorem zcn(c:flatV x=N)(d:flatV y=N):EqOk X k H x y (eqV x y):=λ_ _ _ _ _ _ _ _ rx ry=>znl rx ry c d
theorem zsa:EqOk X k H (.ref a) (.ref a) N:=λ_ _ _ _ u v _ _ rx ry=>by
 cases(show u=Va.ref a from rx);cases(show v=Va.ref a from ry);show SeqAt.EqAt.same _
theorem EqOk.of_rc(l:a≠b)(h:RcOk X k H (.ref a) (.ref b) c):EqOk X k H (.ref a) (.ref b) c:=λpins σ s A u v Y I rx ry=>by
 cases(show u=Va.ref a from rx);cases(show v=Va.ref b from ry);show SeqAt.EqAt.of_refs l<|h pins σ s A _ _ Y I R R
theorem Vals.at(r:Vals xs us)(h:j<us.length):∃(h':j<xs.length),RelV xs[j] us[j]:=by
 let hl:=r.length;let h':j<xs.length:=by omega
 let(u,e,q):=r.get (i:=j) (x:=xs[j]) (by simp[h']);rw[y00 h]at e;cases e;show⟨h',q⟩
theorem zej(O:SqL X.K H a xs)(C:SqL X.K H b ys)(hl:xs.length=ys.length)(e:Nat->Bool)(f:∀j (Y:j<xs.length) (M:j<ys.length),EqOk X k H xs[j] ys[j]<|e j):
  RcOk X (k+1) H (.ref a) (.ref b) ((List.range xs.length).all e):=λpins σ s A u v o I rx ry=>by
 cases(show u=Va.ref a from rx);cases(show v=Va.ref b from ry);let(us,r1,L,_):=I.list O;let(vs,l,r,_):=I.list C;let l1:=r1.length;let l2:=l.length;let q:=SeqAt.RcAt.lists (A:=A) (e:=e) L.isList r.isList (by rw[y08,y08];omega) 00 λj Y M=>by
  rw[y08]at Y M;let(g1,w):=r1.at Y;let(U,E):=l.at M;show f j g1 U pins σ s A.in1 _ _ (by change A.units+1+k<cLine;omega) I (by simpa using w) (by simpa using E)
 rw[y08,←l1]at q;show q
theorem zfy(O:SqL X.K H a xs)(C:SqL X.K H b ys)(hl:xs.length≠ys.length):RcOk X k H (.ref a) (.ref b) Fa:=λpins σ s A u v Y I rx ry=>by
 cases(show u=Va.ref a from rx);cases(show v=Va.ref b from ry);let(us,r1,L,_):=I.list O;let(vs,l,r,_):=I.list C;let l1:=r1.length;let l2:=l.length;show SeqAt.RcAt.lists_lengths L.isList r.isList (by rw[y08,y08];simp;omega) 00
theorem zdt(O:SqT X.K H a xs)(C:SqT X.K H b ys)(e:Nat->Bool)(f:∀j (Y:j<xs.length) (M:j<ys.length),EqOk X k H xs[j] ys[j]<|e j):
  RcOk X (k+1) H (.ref a) (.ref b) ((List.range<|min xs.length ys.length).all e&&xs.length==ys.length):=λpins σ s A u v o I rx ry=>by
 cases(show u=Va.ref a from rx);cases(show v=Va.ref b from ry);let(us,r1,L,_):=I.tuple O;let(vs,l,r,_):=I.tuple C;let l1:=r1.length;let l2:=l.length;let q:=SeqAt.RcAt.tuples (A:=A) (e:=e) L r 00 λj Y M=>by
  rw[y08]at Y M;let(g1,w):=r1.at Y;let(U,E):=l.at M;show f j g1 U pins σ s A.in1 _ _ (by change A.units+1+k<cLine;omega) I (by simpa using w) (by simpa using E)
 rw[y08,y08,←l1,←l2]at q;show q
theorem zn8(O:SqL X.K H a xs)(C:SqL X.K H b ys)(c:xs.all flatV=N)(d:ys.all flatV=N):
  RcOk X 1 H (.ref a) (.ref b) (xs.length==ys.length&&(List.range xs.length).all λj=>eqV (xs.getD j .non)<|ys.getD j .non):=by
 by_cases hl:xs.length=ys.length
 .let q:=zej (k:=0) O C hl (λj=>eqV (xs.getD j .non)<|ys.getD j .non) λj Y M=>by
   let J:xs.getD j .non=xs[j]:=by simp[List.getD,Y]
   let g:ys.getD j .non=ys[j]:=by simp[List.getD,M]
   rw[J,g];show zcn (y11.mp c _<|y0n Y)<|y11.mp d _ (y0n M)
  rw[show(xs.length==ys.length)=N by simp[hl],y1d];show q
 .rw[show(xs.length==ys.length)=Fa by simp[hl],y1q];show zfy O C hl
end
def rEqD(X:Cx)(k:Nat):R2:=λx y H Q=>∃c,RcOk X k H x y c/\Q (.bl c) H
theorem zm4(Y:X.A.units+k<cLine):OpR X (iw .Eq) (rEqD X k):=by
 infer_instance;let(c,r,q):=h;show r pins σ s X.A v u Y I rx ry _ _ _ _ ⟨.bl c,H,I,R,q⟩
def CW(D:Ad)(n:Nat)(Pv:Nat->List V->St->Hp->Prop)(i m:Nat)(σ:St)(H:Hp):Prop:=m=n-i/\i<=n/\∃ys,H D=G (.lst ys)/\ys.length<=i/\Pv i ys σ H
def CStep(D:Ad)(n i:Nat)(Pv:Nat->List V->St->Hp->Prop)(d:St)(y:V)(H4:Hp):Prop :=
 ∃ys,H4 D=G (.lst ys)/\ys.length<io/\∃O,O<n-i/\CW D n Pv (i+1) O d (upd H4 D<|.lst (ys++[y]))
def CSkip(D:Ad)(n i:Nat)(Pv:Nat->List V->St->Hp->Prop)(d:St)(H3:Hp):Prop:=∃O,O<n-i/\CW D n Pv (i+1) O d H3
section
variable {D:Ad}{Q:VK}{g:TG}{tif:TT}{te:TE}{σ0:St}{H1:Hp}{n i:Nat}{Pv:Nat->List V->St->Hp->Prop}
theorem cstep(I:n<=io)(hi:i<n)(u:H4 D=G (.lst ys))(hl:ys.length<=i)(h:Pv (i+1) (ys++[y]) d<|upd H4 D (.lst<|ys++[y])):CStep D n i Pv d y H4 :=
 ⟨ys,u,by omega,n-(i+1),by omega,R,hi,ys++[y],zar,by rw[y0d,y0q];omega,h⟩
theorem cskip(hi:i<n)(u:H3 D=G (.lst ys))(hl:ys.length<=i)(h:Pv (i+1) ys d H3):CSkip D n i Pv d H3 :=
 ⟨n-(i+1),by omega,R,hi,ys,u,by omega,h⟩
theorem zl5{J:It}(Pv:Nat->List V->St->Hp->Prop)(I:n<=io)(E:Pv 0 [] σ0<|upd H1 D (.lst []))
  (q:∀i ys σ H,i<n->H D=G (.lst ys)->Pv i ys σ H->J.go i H) (a:∀ys σ H,H D=G (.lst ys)->Pv n ys σ H->J.stop n H)
  (hs:∀i ys σ H,i<n->H D=G (.lst ys)->ys.length<=i->Pv i ys σ H->∀x H',J.yld i H x H'->g x σ H' λd H2=>tif d H2 λc H3 =>
   if c=N then te d H3 λy H4=>CStep D n i Pv d y H4 else CSkip D n i Pv d H3)
  (hd:∀ys σ H,H D=G (.lst ys)->ys.length<=n->Pv n ys σ H->Q (.ref D) H) :
  ∃W:Nat->Nat->St->Hp->Prop,(∃m,W 0 m σ0<|upd H1 D (.lst []))/\∀i m A Hb,W i m A Hb->
   (J.stop i Hb/\Q (.ref D) Hb)\/(J.go i Hb/\∀x H',J.yld i Hb x H'->g x A H' λd H2=>tif d H2 λc H3 =>
    if c=N then te d H3 λy H4=>∃ys,H4 D=G (.lst ys)/\ys.length<io/\∃O,O<m/\W (i+1) O d (upd H4 D<|.lst (ys++[y]))
    else∃O,O<m/\W (i+1) O d H3):=by
 apply⟨CW D n Pv,⟨n,by omega,y18 _,[],zar,y04 _,E⟩,?_⟩;rintro i m σ H ⟨rfl,hi,ys,u,hl,p⟩;by_cases f:i<n
 .exact .inr ⟨q i ys σ H f u p,hs i ys σ H f u hl p⟩
 .let e:i=n:=by omega
  subst e;show .inl ⟨a ys σ H u p,hd ys σ H u hl p⟩
theorem zvk(Pv:Nat->List V->St->Hp->Prop)(I:z.cps.size<=io)(E:Pv 0 [] σ0<|upd H1 D (.lst []))
  (hs:∀i ys σ H c,i<z.cps.size->z.cps[i]?=G c->H D=G (.lst ys)->ys.length<=i->Pv i ys σ H->g (.str ⟨#[c]⟩) σ H λd H2=>tif d H2 λc H3 =>
   if c=N then te d H3 λy H4=>CStep D z.cps.size i Pv d y H4 else CSkip D z.cps.size i Pv d H3)
  (hd:∀ys σ H,H D=G (.lst ys)->ys.length<=z.cps.size->Pv z.cps.size ys σ H->Q (.ref D) H) :
  ∃W:Nat->Nat->St->Hp->Prop,(∃m,W 0 m σ0<|upd H1 D (.lst []))/\∀i m A Hb,W i m A Hb->
   ((Its z).stop i Hb/\Q (.ref D) Hb)\/((Its z).go i Hb/\∀x H',(Its z).yld i Hb x H'->g x A H' λd H2=>tif d H2 λc H3 =>
    if c=N then te d H3 λy H4=>∃ys,H4 D=G (.lst ys)/\ys.length<io/\∃O,O<m/\W (i+1) O d (upd H4 D<|.lst (ys++[y]))
    else∃O,O<m/\W (i+1) O d H3) :=
 zl5 Pv I E (λi _ _ _ hi _ _=>hi) (λ_ _ _ _ _=>y04 _) (λi ys σ H hi u hl p x H' y=>by
  let(e,c,C,ex):=y;subst e ex;show hs i ys σ _ c hi C u hl p) hd
theorem zsq{K:Frag}{a:Ad}{xs:List V}(Pv:Nat->List V->St->Hp->Prop)(I:xs.length<=io)(E:Pv 0 [] σ0<|upd H1 D (.lst []))
  (hl:∀i ys σ H,i<=xs.length->H D=G (.lst ys)->Pv i ys σ H->SqL K H a xs)
  (hs:∀i ys σ H x,i<xs.length->xs[i]?=G x->H D=G (.lst ys)->ys.length<=i->Pv i ys σ H->g x σ H λd H2=>tif d H2 λc H3 =>
   if c=N then te d H3 λy H4=>CStep D xs.length i Pv d y H4 else CSkip D xs.length i Pv d H3)
  (hd:∀ys σ H,H D=G (.lst ys)->ys.length<=xs.length->Pv xs.length ys σ H->Q (.ref D) H) :
  ∃W:Nat->Nat->St->Hp->Prop,(∃m,W 0 m σ0<|upd H1 D (.lst []))/\∀i m A Hb,W i m A Hb->
   ((Itl K a).stop i Hb/\Q (.ref D) Hb)\/((Itl K a).go i Hb/\∀x H',(Itl K a).yld i Hb x H'->g x A H' λd H2=>tif d H2 λc H3 =>
    if c=N then te d H3 λy H4=>∃ys,H4 D=G (.lst ys)/\ys.length<io/\∃O,O<m/\W (i+1) O d (upd H4 D<|.lst (ys++[y]))
    else∃O,O<m/\W (i+1) O d H3) :=
 zl5 Pv I E (λi ys σ H hi u p=>⟨xs,xs[i],hl i ys σ H (y1x hi) u p,by simp[hi]⟩) (λys σ H u p=>⟨xs,hl _ ys σ H (y04 _) u p,y04 _⟩) (λi ys σ H hi u w p x H' y=>by
  let(e,y):=y;subst e;show hs i ys σ _ x hi (y xs<|hl i ys σ _ (y1x hi) u p) u w p) hd
end
section
variable {κ:Type}[DecidableEq κ]
noncomputable def valV(kvs:List<|κ×V)(k:κ):Option V:=(kvs.find? λd=>decide (d.1=k)).map (·.2)
noncomputable def putK(kvs:List<|κ×V)(k:κ)(v:V):List (κ×V) :=
 if(kvs.any λd=>decide (d.1=k))=N then kvs.map (λd=>if d.1=k then(d.1,v)else d)else kvs++[(k,v)]
theorem zml:valV ([]:List<|κ×V) k=B:=rfl
theorem zbc{p:κ×V}(e:p.1=k):valV (p::r) k=G p.2:=by simp[valV,y2p,e]
theorem zbd{p:κ×V}(e:¬p.1=k):valV (p::r) k=valV r k:=by simp[valV,y2p,e]
theorem zdr(k:κ):∀kvs:List<|κ×V,(kvs.any λd=>decide (d.1=k))=(valV kvs k).isSome
 |[]=>rfl
 |p::r=>by
  rw[y2h];by_cases e:p.1=k
  .simp only[zbc e,Xg e,Bool.true_or,Option.isSome_some]
  .rw[zbd e,Xf e,y4v];show zdr k r
theorem zmm(k j:κ)(y:V):∀kvs:List<|κ×V,valV (kvs.map λd=>if d.1=k then(d.1,y)else d) j=(valV kvs j).map λx=>if j=k then y else x
 |[]=>rfl
 |p::r=>by
  let E:=zmm k j y r;rw[y0r];by_cases h:p.1=k
  .rw[Xq h];by_cases e:p.1=j
   .rw[zbc (p:=(p.1,y)) e,zbc e,y1z,Xq<|e.symm.trans h]
   .rw[zbd (p:=(p.1,y)) e,zbd e,E]
  .rw[Xp h];by_cases e:p.1=j
   .rw[zbc (p:=p) e,zbc e,y1z,Xp λz=>h<|e.trans z]
   .rw[zbd (p:=p) e,zbd e,E]
theorem ziz(k j:κ)(y:V):∀kvs:List<|κ×V,valV kvs k=B->valV (kvs++[(k,y)]) j=if j=k then G y else valV kvs j
 |[],_=>by
  by_cases e:k=j
  .rw[Xq e.symm];show zbc (p:=(k,y)) e
  .rw[Xp λz=>e z.symm];show zbd (p:=(k,y)) e
 |p::r,I=>by
  rw[y3f];let D:¬p.1=k:=λz=>by rw[zbc z]at I;cases I
  rw[zbd D]at I;let E:=ziz k j y r I;by_cases e:p.1=j
  .rw[zbc e,zbc e,Xp λz=>D<|e.trans z]
  .rw[zbd e,zbd e,E]
theorem zmk(kvs:List<|κ×V)(k j:κ)(y:V):valV (putK kvs k y) j=if j=k then G y else valV kvs j:=by
 unfold putK;by_cases a:(kvs.any λd=>decide (d.1=k))=N
 .rw[Xq a,zmm];rw[zdr]at a;by_cases e:j=k
  .let(x,O):=y3p.mp a;rw[Xq e,e,O,y1z,Xq rfl]
  .rw[Xp e];cases valV kvs j with
   |none=>rfl
   |some x=>rw[y1z,Xp e]
 .rw[Xp a];apply ziz k j y kvs ?_;rw[zdr]at a;cases q:valV kvs k with
  |none=>rfl
  |some x=>rw[q]at a;show(a R).elim
theorem zdp(kvs:List<|κ×V)(k:κ)(v:V):(putK kvs k v).length<=kvs.length+1:=by
 unfold putK;split
 .rw[y01];omega
 .rw[y0d,y0s,y1o];omega
theorem zm0{kvs:List (κ×V)}{k:κ}(v:V)(h:valV kvs k=B):putK kvs k v=kvs++[(k,v)]:=by
 unfold putK;rw[zdr,h];show Xp 04
theorem RelO.isSome_eq(r:RelO o u):o.isSome=u.isSome:=by
 cases o with
 |none=>cases u with
  |none=>rfl
  |some _=>show(show False from r).elim
 |some _=>cases u with
  |none=>show(show False from r).elim
  |some _=>rfl
theorem KV.val(r:KV kvs vs)(k:κ):RelO (valV kvs k) (lu vs k):=by
 unfold KV at r
 induction r with
 |nil=>show True.intro
 |@cons p q ps qs h t E =>
  let(Y,M):=h;by_cases e:p.1=k
  .let Q:q.1=k:=Y.symm.trans e;let b:lu (q::qs) k=G q.2:=by simp[lu,y2p,Q]
   rw[zbc e,b];show M
  .let Q:¬q.1=k:=λz=>e<|Y.trans z;let b:lu (q::qs) k=lu qs k:=by simp[lu,y2p,Q]
   rw[zbd e,b];show E
theorem KV.any(r:KV kvs vs)(k:κ):(kvs.any λd=>decide (d.1=k))=vs.any λd=>decide (d.1=k):=by
 unfold KV at r
 induction r with
 |nil=>rfl
 |cons h t E=>rw[y2h,y2h,E,h.1]
theorem KV.repl(r:KV kvs vs)(k:κ)(ry:RelV y u):
  KV (kvs.map λd=>if d.1=k then(d.1,y)else d) (vs.map λd=>if d.1=k then(d.1,u)else d):=by
 unfold KV at r ⊢
 induction r with
 |nil=>show .nil
 |@cons p q ps qs h t E =>
  rw[y0r,y0r];apply .cons ?_ E;let(Y,M):=h;by_cases e:p.1=k
  .rw[Xq e,Xq<|Y.symm.trans e];show⟨Y,ry⟩
  .rw[Xp e,Xp λz=>e<|Y.trans z];show⟨Y,M⟩
theorem KV.put(r:KV kvs vs)(k:κ)(ry:RelV y u):KV (putK kvs k y) (stored vs k u):=by
 unfold putK stored;rw[r.any k];by_cases e:(vs.any λd=>decide (d.1=k))=N
 .rw[Xq e,Xq e];show r.repl k ry
 .rw[Xp e,Xp e];show Paired.snoc r ⟨R,ry⟩
theorem KV.length{kvs:List (κ×V)}{vs:List (κ×Va)}(r:KV kvs vs):kvs.length=vs.length:=Paired.length r
end
theorem zrr(r:RelV (kV k) u):(mixKind P w).is k u=N:=by
 cases k with
 |inl i=>let(t,e):=(show∃t,u=Va.int i t from r);subst e;show zlu P w i t
 |inr x=>let(t,e):=(show∃t,u=Va.str x t from r);subst e;show zls P w x t
theorem kV_inj(e:kV a=kV b):a=b:=by
 cases a with
 |inl i=>cases b with
  |inl j=>have Q:V.int i=V.int j:=e;injection Q with Q;rw[Q]
  |inr y=>show nomatch(show V.int i=V.str y from e)
 |inr x=>cases b with
  |inl j=>show nomatch(show V.str x=V.int j from e)
  |inr y=>have Q:V.str x=V.str y:=e;injection Q with Q;rw[Q]
theorem zj4:∀{ks:List Key} {us:List Va},Vals (ks.map kV) us->ItemsAre (mixKind P w) ks us
 |[],_,r=>by rw[y3c]at r;cases r;show .nil
 |k::ks,_,r=>by
  rw[y0r]at r;cases r with
  |cons h t=>show .cons (zrr h)<|zj4 t
abbrev KT(H:Hp):List (List Key×V)->List (List Key×Ad×Va)->Prop:=i4 λp q=>p.1=q.1/\H q.2.1=G (.tup<|p.1.map kV)/\RelV p.2 q.2.2
theorem KT.val(r:KT H kvs xs)(k:List Key):RelO (valV kvs k) ((atKey xs k).map (·.2)):=by
 induction r with
 |nil=>show True.intro
 |@cons p q ps qs h t E =>
  let(Y,_,M):=h;by_cases e:p.1=k
  .let Q:q.1=k:=Y.symm.trans e;let b:atKey (q::qs) k=G q.2:=by simp[atKey,y2p,Q]
   rw[zbc e,b];show M
  .let Q:¬q.1=k:=λz=>e<|Y.trans z;let b:atKey (q::qs) k=atKey qs k:=by simp[atKey,y2p,Q]
   rw[zbd e,b];show E
theorem KT.repl(r:KT H kvs xs)(k:List Key)(ry:RelV y u):
  KT H (kvs.map λd=>if d.1=k then(d.1,y)else d) (xs.map<|putAt k u):=by
 induction r with
 |nil=>show .nil
 |@cons p q ps qs h t E =>
  rw[y0r,y0r];apply .cons ?_ E;let(Y,M,C):=h;unfold putAt;by_cases e:p.1=k
  .rw[Xq e,Xq<|Y.symm.trans e];show⟨Y,M,ry⟩
  .rw[Xp e,Xp λz=>e<|Y.trans z];show⟨Y,M,C⟩
theorem KT.put(r:KT H kvs xs)(k:List Key)(U:H b=G (.tup<|k.map kV))(ry:RelV y u):
  KT H (putK kvs k y) (storedH xs k b u):=by
 let e:(kvs.any λd=>decide (d.1=k))=(atKey xs k).isSome:=by
  rw[zdr,(r.val k).isSome_eq,Option.isSome_map]
 unfold putK storedH;rw[e];by_cases q:(atKey xs k).isSome=N
 .rw[Xq q,Xq q];show r.repl k ry
 .rw[Xp q,Xp q];show Paired.snoc r ⟨R,U,ry⟩
theorem KT.keeps(r:KT H kvs xs)(p:∀b ys,H b=G (.tup ys)->H' b=G (.tup ys)):KT H' kvs xs :=
 Paired.mapP r λ_ _ z=>⟨z.1,p _ _ z.2.1,z.2.2⟩
section
variable {P:im}{w:World}{H:Hp}{h:Heap}{a:Ad}
theorem zyz(ok:HOk P w H h)(e:Rd H a u):ObjOk P w H h a u:=e.ok ok
theorem zsg(ok:HOk P w H h)(e:Rd H a<|.dK kvs):kvs.length<=io/\(a==iJ)=Fa/\∃vs,KV kvs vs/\h.DictOf (mixKind P w) a vs :=
 show ObjOk P w H h a (.dK kvs)from zyz ok e
theorem dk_of(ok:HOk P w H h)(e:H a=G (.dK kvs)):kvs.length<=io/\(a==iJ)=Fa/\∃vs,KV kvs vs/\h.DictOf (mixKind P w) a vs:=zsg ok<|.inl e
theorem zj2(ok:HOk P w H h)(e:H a=G (.tup<|ks.map kV)):(jQ<|mixKind P w).is h ks a:=by
 let(_,its,r,o,Y,M,n,C):=(show ObjOk P w H h a (.tup<|ks.map kV)from ok a _ e);show⟨o,its.toArray,n,Y,M,C,by simpa using zj4 r⟩
theorem zvg(ok:HOk P w H h)(e:Rd H a<|.dT kvs):kvs.length<=io/\(a==iJ)=Fa/\
  ∃xs,KT H kvs xs/\h.DictOfH (jQ<|mixKind P w) a xs:=by
 let(z,y,xs,r,o,D,ep,Y,M,C,h4,T):=(show ObjOk P w H h a (.dT kvs)from zyz ok e);apply⟨z,y,xs,r,o,D,ep,Y,M,C,h4,λx O=>?_,T⟩;let all:∀{l:List (List Key×V)} {m:List (List Key×Ad×Va)},KT H l m->∀x∈m,(jQ<|mixKind P w).is h x.1 x.2.1:=by
  intro l m q
  induction q with
  |nil=>intro x O;show nomatch O
  |@cons p q ps qs A t E =>
   intro x O;rcases y06.mp O with e|O
   .subst e;show zj2 ok (by rw[←A.1];show A.2.1)
   .exact E x O
 show all r x O
theorem zyf(ok:HOk P w H h)(e:H a=G (.dT kvs)):kvs.length<=io/\(a==iJ)=Fa/\
  ∃xs,KT H kvs xs/\h.DictOfH (jQ<|mixKind P w) a xs:=zvg ok<|.inl e
end
def KeyV(k:Key)(y:V):Prop:=y=kV k\/∃b,y=.bl b/\k=.inl (blI b)
theorem KeyV.is(h:KeyV k y)(r:RelV y u):(mixKind P w).is k u=N:=by
 rcases h with rfl|⟨b,rfl,rfl⟩
 .exact zrr r
 .cases(show u=Va.bool b from r);show zu5 b
def DGet(H:Hp)(a:Ad)(y:V)(r:Option V):Prop :=
 (∃kvs k,Rd H a (.dK kvs)/\KeyV k y/\r=valV kvs k)\/∃kvs k b,Rd H a (.dT kvs)/\y=.ref b/\H b=G (.tup<|k.map kV)/\r=valV kvs k
def DPut(H:Hp)(a:Ad)(y v:V)(H':Hp):Prop :=
 (∃kvs k,H a=G (.dK kvs)/\KeyV k y/\kvs.length<io/\H'=upd H a (.dK<|putK kvs k v))\/
 ∃kvs k b,H a=G (.dT kvs)/\y=.ref b/\H b=G (.tup<|k.map kV)/\kvs.length<io/\H'=upd H a (.dT<|putK kvs k v)
theorem DGet.k{H:Hp}{a:Ad}{kvs:List (Key×V)}{k:Key}(e:H a=G (.dK kvs)):DGet H a (kV k) (valV kvs k):=.inl ⟨kvs,k,.inl e,.inl R,R⟩
theorem DGet.t{k:List Key}(e:H a=G (.dT kvs))(M:H b=G (.tup<|k.map kV)):DGet H a (.ref b) (valV kvs k):=.inr ⟨kvs,k,b,.inl e,R,M,R⟩
theorem DPut.k{H:Hp}{a:Ad}{kvs:List (Key×V)}{k:Key}{v:V}(e:H a=G (.dK kvs))(hl:kvs.length<io):DPut H a (kV k) v (upd H a<|.dK (putK kvs k v)):=.inl ⟨kvs,k,e,.inl R,hl,R⟩
theorem DPut.t{kvs:List (List Key×V)}{k:List Key}(e:H a=G (.dT kvs))(M:H b=G (.tup<|k.map kV))(hl:kvs.length<io):
  DPut H a (.ref b) v (upd H a<|.dT (putK kvs k v)):=.inr ⟨kvs,k,b,e,R,M,hl,R⟩
section
variable {X:Cx}{pins:Y2}{σ:St}{H:Hp}{s:ik}{a:Ad}{y v:V}{u r:Va}{o:Option V}{A:ir}{E:Y0}
theorem Inv.big(I:02 H s):iJ<s.heap.objs.size:=by
 let h:iz<s.heap.objs.size:=(I.mod.glob.keeps I.bk).lt;show y21 04 h
theorem zsm(Y:A.units+1<cLine)(I:02 H s)(g:DGet H a y<|G v)(ry:RelV y u)(h:∀w' s',02 H s'->RelV v w'->Q w' s'):
  wpAny 06 A (jJ (.ref a) u) Q E s:=by
 rcases g with⟨kvs,k,e,J,l⟩|⟨kvs,k,b,e,J,M,l⟩
 .let(z,hd,vs,rel,dd):=zsg I.hok e;let(w',j,c):=RelO.some_of (v:=v) (o:=lu vs k) (by rw[l];show rel.val k);show wpAny_getItem_of (J.is ry) dd.mapOf j<|h w' _ (I.tok _) c
 .subst J;cases(show u=Va.ref b from ry);let(z,hd,xs,rel,dd):=zvg I.hok e;let(w',j,c):=RelO.some_of (v:=v) (o:=(atKey xs k).map (·.2)) (by rw[l];show rel.val k);let(p,L,d):=y1m.mp j;apply wpAny_getItem_heap (jB Y) (zj2 I.hok M) dd L ?_;rw[d];show h w' _ (I.tok _) c
theorem zyg(Y:A.units+1<cLine)(I:02 H s)(g:DGet H a y o)(ry:RelV y u)(h:∀s',02 H s'->Q (.bool<|!o.isSome) s'):
  wpAny 06 A (iw .NotIn u<|.ref a) Q E s:=by
 rcases g with⟨kvs,k,e,J,l⟩|⟨kvs,k,b,e,J,M,l⟩
 .let(z,hd,vs,rel,dd):=zsg I.hok e;apply wpAny_notIn_of (J.is ry) hd dd.mapOf ?_;rw[←(rel.val k).isSome_eq,←l];show h _<|I.tok _
 .subst J;cases(show u=Va.ref b from ry);let(z,hd,xs,rel,dd):=zvg I.hok e;apply wpAny_notIn_heap (jB Y) (zj2 I.hok M) hd dd ?_;let q:=(rel.val k).isSome_eq;rw[Option.isSome_map]at q;rw[←q,←l];show h _<|I.tok _
theorem zik(I:02 H s)(j:Mut<|H a)(hs:Heap.SameBut a s.heap h')(f:∃q,h'.get? a=G q)(new:ObjOk X.prog X.w (upd H a ob) h' a ob):
  02 (upd H a ob) {s with heap:=h',toks:=t'} :=
 I.write (x:=a) (e:=a) j (.inl R) (λb q U z=>(hs.2 b U).trans z) f new
theorem zsh(z:kvs.length<=io)(hd:(a==iJ)=Fa)(rel:KV kvs vs)(dd:h'.DictOf (mixKind P w) a vs):
  ObjOk P w H' h' a (.dK kvs):=⟨z,hd,vs,rel,dd⟩
theorem zsl(Y:A.units+1<cLine)(I:02 H s)(g:DPut H a y v H')(ry:RelV y u)(T:RelV v r)(h:∀s',02 H' s'->Q () s'):
  wpAny 06 A (setItem (.ref a) u r) Q E s:=by
 rcases g with⟨kvs,k,e,J,l,d⟩|⟨kvs,k,b,e,J,L,l,d⟩
 .subst d;let(z,hd,vs,rel,dd):=dk_of I.hok e;let hz:vs.length<=io:=by rw[←rel.length];show z
  let hl:(putK kvs k v).length<=io:=by have:=zdp kvs k v;omega
  apply wpAny_setItem_pairs (hsz:=hz) (J.is ry) dd λh' j hs=>h _ ?_;let f:∃q,h'.get? a=G q:=let⟨q,_,_,O,_⟩:=j;⟨q,O⟩;show zik I (by rw[e];show True.intro) hs f<|zsh hl hd (rel.put k T) j
 .subst J d;cases(show u=Va.ref b from ry);let(z,hd,xs,rel,dd):=zyf I.hok e;let hz:xs.length<=io:=by rw[←Paired.length rel];show z
  let hl:(putK kvs k v).length<=io:=by have:=zdp kvs k v;omega
  apply wpAny_setItem_heap (hsz:=hz) (jB Y) (zj2 I.hok L) dd λh' j hs=>h _ ?_;let(q,D,ep,O,M,C,h4,_,i):=j;apply zik I (by rw[e];show True.intro) hs ⟨q,O⟩ ⟨hl,hd,_,(rel.put k L T).keeps λc ys x=>?_,q,D,ep,O,M,C,h4,i⟩;rw[zak<|zrd x e (λz=>nomatch z)];show x
end
section
variable {X:Cx}{pins:Y2}{σ:St}{H:Hp}{s:ik}{a:Ad}{kvs:List (Key×V)}{k:Key}{u:Va}{A:ir}{E:Y0}
theorem Qap(I:02 H s)(e:Rd H a<|.dK kvs)(h:∀t s',02 H s'->Q (.int kvs.length t) s'):wpAny 06 A (call (.builtin "len") [.ref a]) Q E s:=by
 let(z,hd,vs,rel,dd):=zsg I.hok e;apply call_len_dict hd dd (by rw[←rel.length];rw[jI]at z;omega) ?_;rw[←rel.length];show h _ _<|I.tok _
end
def NoSl(i:Expr):Prop:=∀a iv,jZ i Fa a iv=operate [a,iv] (jJ a iv)
theorem zwr{prog:im}{w:World}{A:ir}{E:Y0}{s:ik}{env:Env}{O d:Expr}{pos:Pos}{T id:String}{Q:Y0}
  (hl:jw (.type T) "__getitem__"=pure (G<|.builtin id)) (hs:NoSl d)
  (h:wpAny (model prog w) A (eval O env) (λo s₁=>wpAny (model prog w) A (eval d env) (λi s₂=>s₂.TypeIs o T/\wpAny (model prog w) A (jJ o i) Q E s₂) E s₁) E s) :
  wpAny (model prog w) A (eval (.Subscript O d pos) env) Q E s:=by
 apply Subscript_<|iy h (λo s₁ h₁=>iy h₁ (λi s₂ l=>?_) λ_ _ x=>x) λ_ _ x=>x;let(p,l):=l;unfold subscriptTail;apply ig ?_;rw[getitemInPython_of_ne p.not_modules];apply ig<|je p hl ?_;let fin:wpAny (model prog w) A (jZ d Fa o i) (λr s₃=>wpAny (model prog w) A (letTemporaryGo O o r>>=λ_=>pure r) Q E s₃) E s₂:=by
  rw[hs o i];show wpAny_operating<|iy l (λr s₃ e=>ig<|wpAny_letTemporaryGo (ii e)) λ_ _ x=>x
 first
  |show ii (ig fin)
  |show ig (ii<|ig fin)
  |show ig fin
theorem zl3{X:Cx}{pins:Y2}{σ:St}{H:Hp}{s:ik}{a:Ad}{y:V}{o:Option V}(I:02 H s)(g:DGet H a y o):s.TypeIs (.ref a) "dict":=by
 rcases g with⟨kvs,k,e,_,_⟩|⟨kvs,k,b,e,_,_,_⟩
 .let(_,_,vs,_,dd):=zsg I.hok e;show dd.typeIs
 .let(_,_,xs,_,dd):=zvg I.hok e;show dd.typeIs
def tDGet(c ty:TE):TE:=λσ H Q=>c σ H λx H1=>ty σ H1 λy H2=>∃a v,x=.ref a/\DGet H2 a y (G v)/\Q v H2
def sDPut(c ty g:TE):TS:=λD σ H=>g σ H λv H1=>c σ H1 λx H2=>ty σ H2 λy H3=>∃a H4,x=.ref a/\DPut H3 a y v H4/\D.nx σ H4
section
variable {X:Cx}{o i e value:Expr}{pos pos' tpos:Pos}{td ty tv:TE}
theorem zxh(Y:X.A.units+1<cLine)(j:PE X o td)(hi:PE X i ty)(hs:NoSl i):PE X (.Subscript o i pos) (tDGet td ty):=by
 intro pins s σ H Q I h;apply zwr PySem.F.slot_dict_getitem.lookup hs<|thn (j pins s σ H _ I h) λu s1 zz=>ex5 zz λx H1 I1 rx w=>thn (hi pins s1 σ H1 _ I1 w) λiv s2 zz=>ex5 zz λy H2 O ry zq=>?_;let(a,v,ex,g,E):=zq;subst ex;obtain rfl:u=Va.ref a:=rx;show⟨zl3 O g,zsm Y O g ry λw' d M c=>⟨v,H2,M,c,E⟩⟩
theorem zw8(Y:X.A.units+1<cLine)(j:PE X o td)(hi:PE X i ty)(hv:PE X value tv)(hs:j9 value (G<|.Subscript o i pos') pos.line X.env=pure Fa):
  PS X (.Assign [.Subscript o i pos'] value pos) (sDPut td ty tv):=by
 intro pins s σ H D I h;apply wpAny_Assign_Subscript (thn (hv pins s σ H _ I h) λr s1 zz=>ex5 zz λv H1 I1 T w=>thn (j pins s1 σ H1 _ I1 w) λu s2 zz=>ex5 zz λx H2 O rx E=>thn (hi pins s2 σ H2 _ O E) λiv d ⟨y,H3,M,ry,a,H4,ex,g,c⟩=>?_) hs;subst ex;obtain rfl:u=Va.ref a:=rx;show zsl Y M g ry T λL p=>⟨σ,H4,p,c⟩
end
theorem znp(h:Heap)(U:iJ<h.objs.size):ObjOk P w H (h.push {cls:=.type "dict",data:=.dict #[]}) h.objs.size (.dK []) :=
 ⟨y18 _,beq_eq_false_iff_ne.mpr<|Ne.symm (y0o U),[],.nil,Heap.DictOf.new h⟩
theorem znn(h:Heap)(U:iJ<h.objs.size):ObjOk P w H (h.push {cls:=.type "dict",data:=.dict #[]}) h.objs.size (.dT []) :=
 ⟨y18 _,beq_eq_false_iff_ne.mpr<|Ne.symm (y0o U),[],.nil,_,#[],0,y0f _ R,⟨R,R,R⟩,R,R,y41⟩
def tDNewK:TE:=λ_ H Q=>∀p,H p=B->Q (.ref p) (upd H p<|.dK [])
def tDNewT:TE:=λ_ H Q=>∀p,H p=B->Q (.ref p) (upd H p<|.dT [])
section
variable {X:Cx}{pos:Pos}
theorem zuc:PE X (.Dict [] [] pos) tDNewK:=λpins s σ H Q I h =>
 wpAny_Dict_empty ⟨.ref s.heap.objs.size,_,I.laid (a:=s.heap.objs.size) (o:=.dK []) (t':=s.toks) (λ_ _ q=>y03 _ q) (y04 _)<|znp s.heap I.big,R,h _<|I.hok.fresh (y04 _)⟩
theorem zua:PE X (.Dict [] [] pos) tDNewT:=λpins s σ H Q I h =>
 wpAny_Dict_empty ⟨.ref s.heap.objs.size,_,I.laid (a:=s.heap.objs.size) (o:=.dT []) (t':=s.toks) (λ_ _ q=>y03 _ q) (y04 _)<|znn s.heap I.big,R,h _<|I.hok.fresh (y04 _)⟩
end
def tPairs:List (TE×TE)->St->Hp->(List (V×V)->Hp->Prop)->Prop
 |[],_,H,Q=>Q [] H
 |(c,g)::r,σ,H,Q=>c σ H λx H1=>g σ H1 λy H2=>tPairs r σ H2 λps H3=>Q ((x,y)::ps) H3
abbrev VV:List (V×V)->List (Va×Va)->Prop:=i4 λp q=>RelV p.1 q.1/\RelV p.2 q.2
def PPs(X:Cx)(pos:Pos)(g:List<|Option Expr)(d:List Expr)(r:List<|TE×TE):Prop :=
 ∀(pins:Y2) (s:ik) (σ:St) (H:Hp) (Q:List (V×V)->Hp->Prop),02 H s->tPairs r σ H Q->
  wpAny 06 X.A (evalPairs<|pairTrees g d X.env pos) (λvs s'=>∃ps H',02 H' s'/\VV ps vs/\Q ps H') X.xe s
theorem zxb:PPs X pos [] [] []:=λpins s σ H Q I h=>pairTrees_nil_walk ⟨[],H,I,.nil,h⟩
theorem zt6{c g:TE}(D:PE X k c)(hv:PE X v g)(L:PPs X pos ks vs r):
  PPs X pos (G k::ks) (v::vs) ((c,g)::r):=λpins s σ H Q I h =>
 pairTrees_cons_walk (thn (D pins s σ H _ I h) λu s1 zz=>ex5 zz λx H1 I1 rx w=>thn (hv pins s1 σ H1 _ I1 w) λf s2 zz=>ex5 zz λy H2 O ry E =>
  thn (L pins s2 σ H2 _ O E) λl i zz=>ex5 zz λps H3 M rel o=>⟨(x,y)::ps,H3,M,.cons ⟨rx,ry⟩ rel,o⟩)
def mergeK(kvs i:List<|Key×V):List (Key×V):=i.foldl (λo d=>putK o d.1 d.2) kvs
theorem KV.merge:∀{i:List (Key×V)} {U:List (Key×Va)} {kvs:List (Key×V)} {vs:List (Key×Va)},KV i U->KV kvs vs->KV (mergeK kvs i) (merged vs U):=by
 intro i U kvs vs r;unfold KV at r
 induction r generalizing kvs vs with
 |nil=>intro q;show q
 |@cons p q ps qs h t E =>
  intro r0;let e:KV (putK kvs p.1 p.2) (stored vs q.1 q.2):=by
   let:=r0.put p.1 h.2;rw[←h.1];show this
  show E e
theorem zcb:∀(i kvs:List<|Key×V),(mergeK kvs i).length<=kvs.length+i.length
 |[],kvs=>by change kvs.length<=kvs.length+0;omega
 |p::r,kvs=>by
  let Y:=zcb r<|putK kvs p.1 p.2;let M:=zdp kvs p.1 p.2;change(mergeK (putK kvs p.1 p.2) r).length<=_;rw[y0s];omega
theorem zhn:∀{kvs:List (Key×V)} {l:List (Va×Va)},VV (kvs.map λd=>(kV d.1,d.2)) l->∃U,Carries (mixKind P w) l U/\KV kvs U
 |[],_,r=>by rw[y3c]at r;cases r;show⟨[],True.intro,.nil⟩
 |p::kvs,_,r=>by
  rw[y0r]at r;cases r with
  |@cons a b y bs h t =>
   let(U,c,q):=zhn (P:=P) (w:=w) t;let(u,A):=b;show⟨(p.1,A)::U,⟨zrr h.1,R,c⟩,.cons ⟨R,h.2⟩ q⟩
def tDisp(r:List<|TE×TE):TE:=λσ H Q=>∀p,H p=B->tPairs r σ (upd H p<|.dK []) λps H2=>H2 p=G (.dK [])/\∃kvs:List<|Key×V,ps=kvs.map (λd=>(kV d.1,d.2))/\kvs.length<=15/\Q (.ref p) (upd H2 p<|.dK (mergeK [] kvs))
theorem zxg(h:PPs X pos g d r)(p:g.all (·.isSome)=N)(hl:g.length=d.length)(E:g≠[])
  (i:g.length<=15):PE X (.Dict g d pos) (tDisp r):=by
 intro pins s σ H Q I q;let D:=I.hok.fresh<|y04 s.heap.objs.size;let I1:=I.laid (a:=s.heap.objs.size) (o:=.dK []) (h':=s.heap.push {cls:=.type "dict",data:=.dict #[]}) (t':=s.toks) (λ_ _ q=>y03 _ q) (y04 _)<|znp s.heap I.big;apply wpAny_Dict_walk (knd:=mixKind X.prog X.w) p hl E i<|thn (h pins _ σ _ _ I1<|q _ D) λl s2 zz=>ex5 zz λps H2 O rel zq=>?_;let(e,kvs,ep,lk,x):=zq;subst ep;let(U,c,v):=zhn (P:=X.prog) (w:=X.w) rel;let(z,hd,u,r0,dd):=dk_of O.hok e;cases r0;apply⟨U,c,dd,λh' j hs=>⟨.ref s.heap.objs.size,_,?_,R,x⟩⟩;let hz:(mergeK [] kvs).length<=io:=by
  let Y:=zcb kvs [];rw[y1o]at Y;rw[jI];omega
 let f:∃q,h'.get? s.heap.objs.size=G q:=let⟨q,_,_,A,_⟩:=j;⟨q,A⟩;show zik O (by rw[e];show True.intro) hs f<|zsh hz hd (v.merge .nil) j
def IsD(H:Hp)(a:Ad):Prop:=(∃kvs,Rd H a<|.dK kvs)\/∃kvs,Rd H a<|.dT kvs
def tDGet2(c ty d:TE):TE:=λσ H Q=>c σ H λx H1=>∃a,x=.ref a/\IsD H1 a/\ty σ H1 λy H2=>d σ H2 λz H3=>∃o,DGet H3 a y o/\Q (o.getD z) H3
section
variable {X:Cx}
theorem zsy:CallR X (.builtin "len") (λxs H Q=>∃a kvs,xs=[V.ref a]/\H a=G (.dK kvs)/\Q (.int kvs.length) H):=by
 intro pins s σ H xs us Q I r h;let(a,kvs,rfl,d,q):=h;let(u,rfl,D):=vals1 r;cases D;show Qap I (.inl d) λt s' c=>⟨.int kvs.length,H,c,⟨t,R⟩,q⟩
end
section
variable {κ:Type}[DecidableEq κ]
theorem zre:∀{l:List κ} {k:κ},l.Nodup->¬k∈l->(l++[k]).Nodup
 |[],k,_,_=>by simp
 |a::r,k,h,D=>by
  let(Y,M):=y1u.mp h;change(a::(r++[k])).Nodup;apply y1u.mpr ⟨λm=>?_,zre M λm=>D<|y06.mpr (Or.inr m)⟩;rcases y0v.mp m with q|q
  .exact Y q
  .exact D<|y06.mpr (Or.inl (y0b.mp q).symm)
end
noncomputable def notStar:Expr->Bool
 |.Starred _ _=>Fa
 |_=>N
theorem zat(h:notStar e=N):iq (e::l) env=(Fa,eval e env)::iq l env:=by
 cases e with
 |Starred v q=>show Xa (show Fa=N from h) y0g
 |_=>rw[starEach.eq_def]
theorem zbe:∀{l:List Expr} {env:Env} {pos:Pos},l.all notStar=N->(ji pos<|iq l env).any (·.1)=Fa
 |[],env,pos,_=>by rw[starEach.eq_def];rfl
 |e::r,env,pos,h=>by
  rw[y2b,y07]at h;rw[zat h.1];show zbe h.2
section
variable {X:Cx}{x:Str}{p pos:Pos}{e:Expr}{es:List Expr}{te:TE}{t:TA}{T id:String}{r:List V->Hp->VK->Prop}
theorem pa_c(d:PE X e te)(L:PA X es t)(h:notStar e=N:=by rfl):PA X (e::es) (tCons te t):=zxk d L<|zat h
theorem za3(C:CallR X (.builtin id) r)(y:Gl X x)(J:X.mg x=B)(hv:jc x=G (.builtin id))(d:PA X (e::es) t)(I:x≠"__name__":=by decide)(j:(x==("__debug__":Str))=Fa:=by decide)
  (Y:notStar e=N:=by rfl) (M:es.all notStar=N:=by rfl):PE X (.Call (.Name x p) (e::es) [] pos) (tCB r t):=zuf C y J hv d I j (zat Y)<|zbe M
theorem zbi(C:CallR X (.type T) r)(y:Gl X x)(J:X.mg x=B)(hv:jc x=G (.type T))(d:PA X (e::es) t)(I:x≠"__name__":=by decide)(j:(x==("__debug__":Str))=Fa:=by decide)
  (Y:notStar e=N:=by rfl) (M:es.all notStar=N:=by rfl):PE X (.Call (.Name x p) (e::es) [] pos) (tCB r t):=zqo C y J hv d I j (zat Y)<|zbe M
end
structure Dfn(K:Frag)(mg:Y1)(x:Str)(st:Stmt)(ps:List Str):Prop where
 ex:∃f fd,Fun K x x st f fd/\Binds K fd ps []/\mg x=G (.ref f)
structure Cal(P:im)(w:World)(K:Frag)(mg:Y1)(base:Heap)(n:Nat)(x:Str)(ps:List Str)(sp:Sp):Prop where
 ex:∃f fd,FnOk P w K mg base CX0 n f fd ps sp/\Binds K fd ps []/\PySem.W.keepIn K (.ref f)=N/\mg x=G (.ref f)
section
variable {P:im}{w:World}{K:Frag}{mg:Y1}{base:Heap}
theorem Dfn.cal{x:Str}{st:Stmt}{Nq ps:List Str}{k:Nat}{sp:Sp}(d:Dfn K mg x st ps)(S:FnScope Nq ps<|defScope st)(len:∀vs H Q E,sp vs H Q E->vs.length=ps.length)
  (i:∀(f:Ad) (j:Va) (A:ir) (outer:List Env) (s:ik) (H:Hp) (vs:List V) (Q:VK) (E:XK),Room k (A.deeper<|jl x (defScope st) s.heap.objs.size f j)->sp vs H Q E->
   ∃t,PSs (cxOf CX0 P w K mg base Nq x (defScope st) f j A outer s H E).nox (defBody st) t/\t {nx:=λ_ H'=>Q .non H',rt:=Q} (start Nq vs) H):03 (k+1) x ps sp:=by
 let(f,fd,F,b,m):=d.ex;show⟨f,fd,F.ok S len<|i f,b,F.kp,m⟩
theorem Cal.mono(c:03 j x ps sp)(h:j<=k):03 k x ps sp:=by
 let(f,fd,F,r):=c.ex;show⟨f,fd,F.mono h,r⟩
theorem Dfn.never{x:Str}{st:Stmt}{ps:List Str}{sp:Sp}(d:Dfn K mg x st ps)(Y:∀vs H Q E,¬sp vs H Q E):03 0 x ps sp:=by
 let(f,fd,F,b,m):=d.ex;show⟨f,fd,⟨λvs H Q E h=>Xa h<|Y vs H Q E,λA outer s H args us vs Q E _ _ _ _ h=>Xa h<|Y vs H Q E⟩,b,F.kp,m⟩
end
section
variable {X:Cx}{n k:Nat}{x:Str}{ps:List Str}{sp:Sp}{p pos:Pos}{e:Expr}{es:List Expr}{t:TA}
theorem zae(C:Cal X.prog X.w X.K X.mg X.base n x ps sp)(L:Room k X.A)(v:n<=k)(y:Gl X x)(d:PA X (e::es) t)(j:(x==("__debug__":Str))=Fa:=by decide)
  (Y:notStar e=N:=by rfl) (M:es.all notStar=N:=by rfl):PE X (.Call (.Name x p) (e::es) [] pos) (tCall sp [] E0 t):=by
 let(f,fd,F,b,kp,m):=C.ex;show zxi F (L.mono v) y m kp b .nil pass0 d j (zat Y)<|zbe M
def GlV(mg:Y1)(x:Str)(v:V):Prop:=∃u,mg x=G u/\RelV v u
theorem zbt(y:Gl X x)(h:GlV X.mg x v)(hd:(x==("__debug__":Str))=Fa:=by decide):PE X (.Name x pos) (tC v):=by
 let(u,m,r):=h;show zqj y m r hd
end
theorem CompOk.of(kind:scope.kind=.function)
  (Y:(scope.names.all λy=>y.2 !=.cell&&(y.2 !=.local||scope.names.lookup y.1==G .local)&&(y.2 !=.free||(X.env.scope.names.lookup y.1==G .cell||X.env.scope.names.lookup y.1==G .free)))=N)
  (M:(cp.all λp=>X.Nq[p.1]? ==G p.2&&scope.names.lookup p.2==G .free)=N):CompOk X scope cp:=by
 let g:=y11.mp Y;apply⟨kind,λy C e=>?_,λy C e=>?_,λy C e=>?_,λp L=>?_⟩
 .let q:=g y C;rw[y07,y07]at q;rw[e]at q;show Xa q.1.1 04
 .let q:=g y C;rw[y07,y07]at q;let q:=q.1.2;rw[e]at q;simpa using q
 .let q:=g y C;rw[y07,y07]at q;let q:=q.2;rw[e]at q;let q:X.env.scope.names.lookup y.1=G .cell\/X.env.scope.names.lookup y.1=G .free:=by simpa using q
  show q
 .let q:=y11.mp M p L;rw[y07]at q;show⟨by simpa using q.1,by simpa using q.2⟩
inductive Kd(H:Hp):V->String->Prop where
 |non:Kd H .non "NoneType"
 |bl (b:Bool):Kd H (.bl b) "bool"
 |int (i:Int):Kd H (.int i) "int"
 |str (z:Str):Kd H (.str z) "str"
 |lst {a:Ad} {xs:List V} (e:H a=G (.lst xs)):Kd H (.ref a) "list"
 |tup {a:Ad} {xs:List V} (e:H a=G (.tup xs)):Kd H (.ref a) "tuple"
 |dK {a:Ad} {kvs:List (Key×V)} (e:H a=G (.dK kvs)):Kd H (.ref a) "dict"
def kinds:List String:=["NoneType","bool","int","str","list","tuple","dict"]
noncomputable def subT(k T:String):Bool:=k==T||(k=="bool"&&T=="int")
theorem kit_ok(K:Frag):∀k∈kinds,∀T∈["str","list","tuple","bool","int","dict"],PySem.W.kitOne K (.type k) (.type T)=G (subT k T):=by
 intro k hk T hT;simp only[kinds,y06,y0h,or_false]at hk hT;rcases hk with rfl|rfl|rfl|rfl|rfl|rfl|rfl<;>rcases hT with rfl|rfl|rfl|rfl|rfl|rfl<;>first|rfl|kernel_rfl
theorem Kd.ty{K:Frag}{H:Hp}{x:V}{k:String}(h:Kd H x k):TyOf K H x (.type k)/\k∈kinds:=by
 cases h with
 |non=>show⟨.non,by decide⟩
 |bl b=>show⟨.bl b,by decide⟩
 |int i=>show⟨.int i,by decide⟩
 |str z=>show⟨.str z,by decide⟩
 |lst e=>show⟨.lst e,by decide⟩
 |tup e=>show⟨.tup e,by decide⟩
 |dK e=>show⟨.dK e,by decide⟩
theorem Kd.same(h:Kd H x k)(g:Same H H'):Kd H' x k:=by
 cases h with
 |non=>show .non
 |bl b=>show .bl b
 |int i=>show .int i
 |str z=>show .str z
 |lst e=>show .lst<|g _ _ e
 |tup e=>show .tup<|g _ _ e
 |dK e=>show .dK<|g _ _ e
theorem Kd.inj(h:Kd H x k)(h':Kd H x k'):k=k':=by
 cases h with
 |lst e=>cases h' with|lst _=>rfl|tup Q=>rw[e]at Q;cases Q|dK Q=>rw[e]at Q;cases Q
 |tup e=>cases h' with|lst Q=>rw[e]at Q;cases Q|tup _=>rfl|dK Q=>rw[e]at Q;cases Q
 |dK e=>cases h' with|lst Q=>rw[e]at Q;cases Q|tup Q=>rw[e]at Q;cases Q|dK _=>rfl
 |non=>cases h';rfl
 |bl _=>cases h';rfl
 |int _=>cases h';rfl
 |str _=>cases h';rfl
theorem call_isk{X:Cx}:CallR X (.builtin "isinstance") (λxs H Q=>∃x T k,xs=[x,.ty T]/\Kd H x k/\T∈["str","list","tuple","bool","int","dict"]/\Q (.bl<|subT k T) H):=by
 intro pins s σ H xs us Q I r h;let(x,T,k,e,hk,hT,q):=h;let(h1,h2):=hk.ty (K:=X.K);show zmb pins s σ H xs us Q I r ⟨x,T,.type k,_,e,h1,kit_ok X.K k h2 T hT,q⟩
theorem za4(h:H p=B)(o:HO):Same H (upd H p o):=λb u q=>by rw[zak<|zas q h];show q
theorem Same.seqT{K:Frag}{H H':Hp}{a:Ad}{xs:List V}(e:Same H H')(h:SqT K H a xs):SqT K H' a xs:=by
 rcases h with(h|⟨o,h⟩)|h
 .exact .inl<|.inl (e _ _ h)
 .exact .inl<|.inr ⟨o,e _ _ h⟩
 .exact .inr h
section
variable {H:Hp}{Q:VK}{v:V}{a:Option V}{r:St}{i:Nat}
theorem zax{t:TS}{D:Ends}{σ:St}(l:St)(e:σ=l)(h:t D l H):t D σ H:=by rw[e];show h
theorem zyw:tVar 0 (G v::r) H Q=Q v H:=rfl
theorem zyv:tVar (i+1) (a::r) H Q=tVar i r H Q:=rfl
theorem zmy{A Bq:Prop}:(if N=N then A else Bq)=A:=rfl
theorem zmz{A Bq:Prop}:(if Fa=N then A else Bq)=Bq:=rfl
theorem zyx{a b:Str}:(scal (.str a) (.str b)=N)=True:=eq_true R
theorem zyy{a:Str}{b:Int}:(scal (.str a) (.int b)=N)=True:=eq_true R
theorem zy0{b:Str}{a:Int}:(scal (.int a) (.str b)=N)=True:=eq_true R
theorem zy1{a b:Int}:(scal (.int a) (.int b)=N)=True:=eq_true R
theorem zy2{a b:Bool}:(scal (.bl a) (.bl b)=N)=True:=eq_true R
def cBody(tn:List Str)(cp:Y6)(g:TG)(tif:TT)(te:TE)(σ:St)(Q:VK)(J:It)(H1:Hp):Prop:=∀D,H1 D=B->∃W:Nat->Nat->St->Hp->Prop,
 (∃m,W 0 m (stB tn cp σ)<|upd H1 D (.lst []))/\∀i m A Hb,W i m A Hb->
  (J.stop i Hb/\Q (.ref D) Hb)\/(J.go i Hb/\∀x H',J.yld i Hb x H'->g x A H' λd H2=>tif d H2 λc H3 =>
   if c=N then te d H3 λy H4=>∃ys,H4 D=G (.lst ys)/\ys.length<io/\∃O,O<m/\W (i+1) O d (upd H4 D<|.lst (ys++[y]))
   else∃O,O<m/\W (i+1) O d H3)
theorem zp7:tComp tn cp w g tif te σ H Q=w σ H λJ H1=>cBody tn cp g tif te σ Q J H1:=rfl
def fBody(g:TG)(z:TS)(D:Ends)(σ:St)(J:It)(H1:Hp):Prop:=∃W:Nat->Nat->St->Hp->Prop,(∃m,W 0 m σ H1)/\∀i m σ H,W i m σ H->
 (J.stop i H/\D.nx σ H)\/(J.go i H/\∃Nq:St->Hp->Prop,(∀l H',Nq l H'->∃O,O<m/\W (i+1) O l H')/\∀x H',J.yld i H x H'->g x σ H' λd H2=>z {D with nx:=Nq,ct:=Nq,bk:=D.nx} d H2)
theorem zvw:tFor w g z D σ H=w σ H λJ H1=>fBody g z D σ J H1:=rfl
end
section
variable {tn:List Str}{cp:Y6}{g:TG}{tif:TT}{te:TE}{σ0:St}{Q:VK}{H1:Hp}
theorem zvp(n:Nat)(Pv:Ad->Nat->List V->St->Hp->Prop)(I:n<=io)(E:∀D,H1 D=B->Pv D 0 [] (stB tn cp σ0) (upd H1 D<|.lst []))
  (q:∀D i ys σ H,H1 D=B->i<n->H D=G (.lst ys)->Pv D i ys σ H->J.go i H) (a:∀D ys σ H,H1 D=B->H D=G (.lst ys)->Pv D n ys σ H->J.stop n H)
  (hs:∀D i ys σ H x H',H1 D=B->i<n->H D=G (.lst ys)->ys.length<=i->Pv D i ys σ H->J.yld i H x H'->g x σ H' λd H2=>tif d H2 λc H3 =>
   if c=N then te d H3 λy H4=>CStep D n i (Pv D) d y H4 else CSkip D n i (Pv D) d H3)
  (hd:∀D ys σ H,H1 D=B->H D=G (.lst ys)->ys.length<=n->Pv D n ys σ H->Q (.ref D) H):cBody tn cp g tif te σ0 Q J H1:=λD u =>
 zl5 (Pv D) I (E D u) (λi ys σ H=>q D i ys σ H u) (λys σ H=>a D ys σ H u) (λi ys σ H hi o hl p x H' y=>hs D i ys σ H x H' u hi o hl p y) (λys σ H=>hd D ys σ H u)
theorem cb_str(Pv:Ad->Nat->List V->St->Hp->Prop)(I:z.cps.size<=io)(E:∀D,H1 D=B->Pv D 0 [] (stB tn cp σ0) (upd H1 D<|.lst []))
  (hs:∀D i ys σ H c,H1 D=B->i<z.cps.size->z.cps[i]?=G c->H D=G (.lst ys)->ys.length<=i->Pv D i ys σ H->g (.str ⟨#[c]⟩) σ H λd H2=>tif d H2 λc H3 =>
   if c=N then te d H3 λy H4=>CStep D z.cps.size i (Pv D) d y H4 else CSkip D z.cps.size i (Pv D) d H3)
  (hd:∀D ys σ H,H1 D=B->H D=G (.lst ys)->ys.length<=z.cps.size->Pv D z.cps.size ys σ H->Q (.ref D) H):cBody tn cp g tif te σ0 Q (Its z) H1:=λD u =>
 zvk (Pv D) I (E D u) (λi ys σ H c=>hs D i ys σ H c u) (λys σ H=>hd D ys σ H u)
theorem ziq{K:Frag}{a:Ad}{xs:List V}(Pv:Ad->Nat->List V->St->Hp->Prop)(I:xs.length<=io)(E:∀D,H1 D=B->Pv D 0 [] (stB tn cp σ0) (upd H1 D<|.lst []))
  (hl:∀D i ys σ H,H1 D=B->i<=xs.length->H D=G (.lst ys)->Pv D i ys σ H->SqL K H a xs)
  (hs:∀D i ys σ H x,H1 D=B->i<xs.length->xs[i]?=G x->H D=G (.lst ys)->ys.length<=i->Pv D i ys σ H->g x σ H λd H2=>tif d H2 λc H3 =>
   if c=N then te d H3 λy H4=>CStep D xs.length i (Pv D) d y H4 else CSkip D xs.length i (Pv D) d H3)
  (hd:∀D ys σ H,H1 D=B->H D=G (.lst ys)->ys.length<=xs.length->Pv D xs.length ys σ H->Q (.ref D) H):cBody tn cp g tif te σ0 Q (Itl K a) H1:=λD u =>
 zsq (Pv D) I (E D u) (λi ys σ H=>hl D i ys σ H u) (λi ys σ H x=>hs D i ys σ H x u) (λys σ H=>hd D ys σ H u)
theorem zwj{K:Frag}{a:Ad}{xs:List V}(Pv:Ad->Nat->List V->St->Hp->Prop)(I:xs.length<=io)(E:∀D,H1 D=B->Pv D 0 [] (stB tn cp σ0) (upd H1 D<|.lst []))
  (hl:∀D i ys σ H,H1 D=B->i<=xs.length->H D=G (.lst ys)->Pv D i ys σ H->SqT K H a xs)
  (hs:∀D i ys σ H x,H1 D=B->i<xs.length->xs[i]?=G x->H D=G (.lst ys)->ys.length<=i->Pv D i ys σ H->g x σ H λd H2=>tif d H2 λc H3 =>
   if c=N then te d H3 λy H4=>CStep D xs.length i (Pv D) d y H4 else CSkip D xs.length i (Pv D) d H3)
  (hd:∀D ys σ H,H1 D=B->H D=G (.lst ys)->ys.length<=xs.length->Pv D xs.length ys σ H->Q (.ref D) H):cBody tn cp g tif te σ0 Q (Itt K a) H1 :=
 zvp xs.length Pv I E (λD i ys σ H u hi o p=>⟨xs,xs[i],hl D i ys σ H u (y1x hi) o p,by simp[hi]⟩) (λD ys σ H u o p=>⟨xs,hl D _ ys σ H u (y04 _) o p,y04 _⟩) (λD i ys σ H x H' u hi o w p y=>by
  let(e,y):=y;subst e;show hs D i ys σ _ x u hi (y xs<|hl D i ys σ _ u (y1x hi) o p) o w p) hd
variable {tb:TS}{D:Ends}
theorem zl1{K:Frag}{a:Ad}{xs:List V}(Pv:Nat->St->Hp->Prop)(E:Pv 0 σ0 H1)(hl:∀i σ H,i<=xs.length->Pv i σ H->SqL K H a xs)
  (hs:∀i x σ H,xs[i]?=G x->Pv i σ H->g x σ H λd H2=>tb {D with nx:=Pv<|i+1,ct:=Pv<|i+1,bk:=D.nx} d H2) (hd:∀σ H,Pv xs.length σ H->D.nx σ H):fBody g tb D σ0 (Itl K a) H1:=zvb Pv E hl hs hd
theorem zr8{K:Frag}{a:Ad}{xs:List V}(Pv:Nat->St->Hp->Prop)(E:Pv 0 σ0 H1)(hl:∀i σ H,i<=xs.length->Pv i σ H->SqT K H a xs)
  (hs:∀i x σ H,xs[i]?=G x->Pv i σ H->g x σ H λd H2=>tb {D with nx:=Pv<|i+1,ct:=Pv<|i+1,bk:=D.nx} d H2) (hd:∀σ H,Pv xs.length σ H->D.nx σ H):fBody g tb D σ0 (Itt K a) H1:=zx8 Pv E hl hs hd
end
theorem zm1{q:Type}(xs:List q):∀(i k:Nat),((List.range k).map λm=>i+m).filterMap (λj=>xs[j]?)=(xs.drop i).take k
 |i,0=>by simp
 |i,k+1=>by
  let E:=zm1 xs (i+1) k;rw[y2k,y0r,y0u,y28];let e:((λm=>i+m)∘Nat.succ)=λm=>i+1+m:=by funext m;simp[Function.comp];omega
  rw[e];by_cases h:i<xs.length
  .rw[show i+0=i from rfl,y00 h,E,y3o h,List.take_succ_cons]
  .rw[show i+0=i from rfl,y1c 00,E,y2l 00,y2l 00];simp
noncomputable def cutL{q:Type}(xs:List q)(lo hi:Option Int):List q:=(xs.drop<|HT.sIx xs.length 0 lo).take<|HT.sIx xs.length xs.length hi-HT.sIx xs.length 0 lo
theorem idx_go{a b:Nat}{A Bq:Int}(i:A=a)(j:Bq=b):PySem.sliceRange A Bq 1=(List.range<|b-a).map λm=>a+m:=by
 subst i j;unfold PySem.sliceRange;simp only[show(1:Int)>0 by decide,if_true];let Q:(if(a:Int)<(b:Int)then((b:Int)-(a:Int)+1-1)/1 else 0).toNat=b-a:=by
  split<;>omega
 rw[Q];apply y30 λm _=>?_;omega
theorem zpv(lo hi:Option Int)(n:Nat):Builtin.Str.strSliceIndices lo hi 1 n=(List.range<|HT.sIx n n hi-HT.sIx n 0 lo).map λm=>HT.sIx n 0 lo+m:=by
 unfold Builtin.Str.strSliceIndices;apply idx_go ?_ ?_
 .cases lo with
  |none=>rfl
  |some v =>
   rw[←HT.clip_eq v n 0];simp only[show(1:Int)>0 by decide,if_true];split<;>omega
 .cases hi with
  |none=>rfl
  |some v =>
   rw[←HT.clip_eq v n n];simp only[show(1:Int)>0 by decide,if_true];split<;>omega
theorem zpw(z:Str)(lo hi:Option Int):(Txt.slice z lo hi).cps.toList=cutL z.cps.toList lo hi:=by
 let hl:z.cps.toList.length=z.length:=by simp[Str.length]
 unfold Txt.slice cutL;rw[hl,zpv];let p:=zm1 z.cps.toList (HT.sIx z.length 0 lo)<|HT.sIx z.length z.length hi-HT.sIx z.length 0 lo;let e:(λ(j:Nat)=>z.cps.toList[j]?)=λ(j:Nat)=>z.cps[j]?:=by funext j;simp
 rw[e]at p;split
 .rename_i h;simp only[y01,y16,beq_self_eq_true,y1d,beq_iff_eq]at h;let Y:=HT.sIx_le z.length z.length (y04 _) hi;let C:=HT.sIx_le z.length 0 (y18 _) lo;let E:HT.sIx z.length 0 lo=0:=by omega
  let M:HT.sIx z.length z.length hi-HT.sIx z.length 0 lo=z.length:=h;rw[M,E,y2j,y0i<|by rw[hl];show y04 _]
 .rw[←p]
theorem zcp(xs:List q)(k:Nat):cutL xs (G (k:Int)) B=xs.drop k:=by
 unfold cutL;rw[HT.sIx_nat,HT.sIx_none,y0i<|by rw[y10];show y04 _];by_cases h:k<=xs.length
 .rw[y3h h]
 .rw[Nat.min_eq_right 00,y2l<|y04 _,y2l 00]
theorem zyh(xs:List q)(k:Nat):cutL xs B (G (k:Int))=xs.take k:=by
 unfold cutL;rw[HT.sIx_nat,HT.sIx_none,y2j,Nat.sub_zero];by_cases h:k<=xs.length
 .rw[y3h h]
 .rw[Nat.min_eq_right 00,y0i<|y04 _,y0i 00]
theorem zky(z:Str):z.length=z.cps.toList.length:=by simp[Str.length]
theorem za7{q:Type}{c:q}{r:List q}:atI (c::r) 0=G c:=zai (j:=0) R
theorem RcOk.up(h:RcOk X j H x y b)(a:j<=k):RcOk X k H x y b:=λpins σ s A u v Y=>h pins σ s A u v 00
theorem zah(h:n<=1000):n<=io:=y1x<|small1000 h
theorem ze9(L:Room k A)(j:Nat)(h:j<=64):A.units+j<cLine:=by have:=L.units;omega
section
variable {K:Frag}{h:Heap}{mg:Y1}
theorem dfn_mk{x:Str}{st:Stmt}{ps:List Str}{f:Ad}{oc:Va}{M g:Option Ad}{z:Y8}{kV doc p j ct:Va}(X:K.In h)(Gq:h.Ns iz mg)
  (a:PySem.W.nsIn K iz x=G (G<|.ref f)) (l:K.lookup f=G ⟨oc,M,.func<|PySem.W.fnOf x x (defArgs st) (defBody st) (defScope st) .none kV doc p g j ct,z⟩)
  (c:PySem.W.codeIn K j x=N) (k:PySem.W.keepIn K (.ref f)=N)
  (U:∀(kV doc p:Va) (g:Option Ad) (j ct:Va) (us:List Va),us.length=ps.length->iZ (PySem.W.fnOf x x (defArgs st) (defBody st) (defScope st) .none kV doc p g j ct) ⟨us,[]⟩=pure (ps.zip us)):Dfn K mg x st ps :=
 ⟨f,_,zng l c k,(zng l c k).binds U,PySem.W.mg_of X Gq a⟩
theorem law_mk{x y:Str}{st:Stmt}{f O:Ad}{oc:Va}{M g:Option Ad}{z:Y8}{kV doc p j ct:Va}(X:K.In h)(Gq:h.Ns iz mg)(d:mg x=G (.ref O))
  (a:PySem.W.nsIn K iz x=G (G<|.ref f)) (l:K.lookup f=G ⟨oc,M,.func<|PySem.W.fnOf x x (defArgs st) (defBody st) (defScope st) .none kV doc p g j ct,z⟩)
  (c:PySem.W.codeIn K j x=N) (k:PySem.W.keepIn K (.ref f)=N) (U:∀(s:ik) (v:Va),lD s (PySem.W.fnOf x x (defArgs st) (defBody st) (defScope st) .none kV doc p g j ct) ⟨[v],[]⟩ [(y,v)]) :
  ∃fd:i5,(∀(s:ik) (v:Va),lD s fd ⟨[v],[]⟩ [(y,v)])/\Fun K x x st O fd:=by
 let e:=d.symm.trans<|PySem.W.mg_of X Gq a;cases e;show⟨_,U,zng l c k⟩
theorem glv_mk(X:K.In h)(Gq:h.Ns iz mg)(a:PySem.W.nsIn K iz x=G (G u))(r:RelV v u):GlV mg x v:=⟨u,PySem.W.mg_of X Gq a,r⟩
end
section
variable {CX:CXT}{P:im}{w:World}{K:Frag}{mg:Y1}{base:Heap}{Nq:List Str}{x:Str}{sc:Scope}{f:Ad}{cdv:Va}{A:ir}{outer:List Env}{s:ik}{H:Hp}{E:XK}
theorem cxK:(cxOf CX P w K mg base Nq x sc f cdv A outer s H E).K=K:=rfl
theorem cxP:(cxOf CX P w K mg base Nq x sc f cdv A outer s H E).prog=P:=rfl
theorem cxW:(cxOf CX P w K mg base Nq x sc f cdv A outer s H E).w=w:=rfl
end
section
variable {X:Cx}{st:Stmt}{rest:List Stmt}{t u:TS}{e:Expr}{te:TE}
def tCut(t u:TS):TS:=λD σ H=>∃Pv:St->Hp->Prop,t {D with nx:=Pv} σ H/\∀l H',Pv l H'->u D l H'
theorem zdk(Y:PS X st t)(M:PSs X rest u):PSs X (st::rest) (tCut t u):=by
 intro pins s σ H D I h;let(Pv,w,E):=h;apply iP<|thn (Y pins s σ H {D with nx:=Pv} I w) λf s1 q=>?_;cases f with
 |next =>
  let(l,H',r,q):=q;show M pins s1 l H' D r<|E l H' q
 |ret v=>show q
 |brk=>show q
 |cont=>show q
end
local instance (priority:=10000):BEq Key:=instBEqOfDecidableEq
local instance (priority:=10000):LawfulBEq Key:=inferInstanceAs (LawfulBEq (Sum Int Str))
noncomputable def onceK:List Key->List Key->List Key
 |o,[]=>o
 |o,k::r=>onceK (if k∈o then o else o++[k]) r
theorem zhb:∀(ks o:List Key) (k:Key),onceK o (ks++[k])=if k∈onceK o ks then onceK o ks else onceK o ks++[k]
 |[],o,k=>rfl
 |j::r,o,k=>zhb r _ k
theorem zdx:∀(ks o:List Key),(onceK o ks).length<=o.length+ks.length
 |[],o=>y04 _
 |k::r,o=>by
  let h:=zdx r<|if k∈o then o else o++[k];change(onceK (if k∈o then o else o++[k]) r).length<=o.length+(r.length+1);split at h<;>rename_i c
  .rw[Xq c];omega
  .rw[Xp c];rw[y0d,y0q]at h;omega
theorem zf6:∀(ks o:List Key),o.Nodup->((onceK o ks).length=o.length+ks.length↔(o++ks).Nodup)
 |[],o,h=>by simp[onceK,h]
 |k::r,o,h=>by
  change(onceK (if k∈o then o else o++[k]) r).length=o.length+(r.length+1)↔_;by_cases c:k∈o
  .rw[Xq c];let l:=zdx r o;constructor
   .intro e;omega
   .intro e;let:=(y37.mp e).2.2 k c k<|y0c;show Xa R this
  .rw[Xp c];let h':(o++[k]).Nodup:=zre h c;let E:=zf6 r (o++[k]) h';rw[y0d,y0q,y17]at E;rw[show o.length+(r.length+1)=o.length+1+r.length by omega];show E
theorem zq0(ks:List Key):(onceK [] ks).length=ks.length↔ks.Nodup:=by
 let h:=zf6 ks [] y41;simpa using h
structure SetR{P:im}{w:World}{T:Type}[DecidableEq T](knd:PySem.KeyKind P w T)(a:Ad)(m:Nat)(Rp:Heap->List T->Prop):Prop where
 kept:∀{h h':Heap} {ks:List T},Rp h ks->(∀o,h.get? a=G o->h'.get? a=G o)->Rp h' ks
 add:∀{A:ir} {E:Y0} {s:ik} {ks:List T} {k:T} {v:Va} {Q:Bool->ik->Prop},knd.is k v=N->ks.length+1<m->Rp s.heap ks->(∀h' b,Heap.SameBut a s.heap h'->Rp h' (ks++[k])->Q b {s with heap:=h'})->wpAny (model P w) A (setAddHashed a v<|knd.hash k) Q E s
section
variable {P:im}{w:World}{A:ir}{Rq:Result->ik->Prop}{it:Ad}{fp wr:List Ad}{Gq:Array jq->Array jq->Prop}{n:Nat}{Pv:Nat->Va->Prop}{St:Nat->ik->Prop}
def SetIs(P:im)(w:World)(h:Heap)(a:Ad)(ks:List Key):Prop:=h.SetOf (mixKind P w) a (λk=>decide (k∈onceK [] ks)) (onceK [] ks).length
theorem SetIs.kept(x:SetIs P w h a ks)(k:∀o,h.get? a=G o->h'.get? a=G o):SetIs P w h' a ks:=by
 let(o,l,ep,t,j,rest):=x;show⟨o,l,ep,t,k o j,rest⟩
theorem zw3(h:(mixKind P w).is k v=N):v.scannable=N:=by
 rcases za0 h with⟨i,t,rfl,rfl⟩|⟨x,t,rfl,rfl⟩|⟨c,rfl,rfl⟩<;>rfl
theorem zn1{T:Type}[DecidableEq T]{knd:PySem.KeyKind P w T}{f:Heap->List T->Prop}(W:WalksS P w A.in1 it fp wr Gq n Pv St)(a:Ad)(SR:SetR knd a (n+1) f)(d:a∉fp)(ks:List T)(I:ks.length=n)(hv:∀i v,Pv i v->∀k,ks[i]?=G k->knd.is k v=N):
  ∀(m i:Nat) (s:ik),n-i=m->i<=n->St i s->f s.heap (ks.take i)->(∀s',Moved (a::wr) Gq s s'->f s'.heap ks->Rq (.ok<|.ret .none) s')->
   iY (model P w) A (.builtin "set.update.loop" ⟨[.ref a,.ref it],[]⟩) Rq s:=by
 let g:a∉wr:=λh=>d<|W.sub _ h;let up:∀b∈wr,b∈a::wr:=λb h=>y0a _ h;intro m
 induction m with
 |zero =>
  intro i s J hi st x q;obtain rfl:i=n:=by omega
  rw[y0i<|y3b I]at x;apply iF F.entry_set_update_loop ?_;rw[Around.under_plainId F.plain_set_update_loop _];apply ig<|W.done s _ _ st λs' y=>ii<|q s' (y.mono up) (SR.kept x λo e=>y.heap a _ g e)
 |succ m E =>
  intro i s J hi st x q;let lt:i<n:=by omega
  let D:ks[i]?=G ks[i]:=by simp[I,lt]
  apply iF F.entry_set_update_loop ?_;rw[Around.under_plainId F.plain_set_update_loop _];apply ig<|W.item i s _ _ lt st λv s' pv st' y=>?_;let is:=hv i v pv _ D;let L:=SR.kept (h':=s'.heap) x λo e=>y.heap a _ g e;apply ig (m:=holding [v]<|setAdd a v)<|iu ?_;unfold setAdd;apply iu<|ig (knd.pyHash (k:=ks[i]) is ?_);apply SR.add (s:={s' with toks:=s'.toks+1}) is (by rw[y0t];omega) L λh' j sb H=>?_;let c:f h' (ks.take<|i+1):=by rw[y1h,D,y24];show H
  apply ii ⟨iX F.plain_set_update_loop _,E (i+1) _ 00 lt (W.frame _ s' _ _ st' (y3i _) λb U o e=>?_) c λs2 O M=>?_⟩
  .rw[sb.2 b λh=>d<|h▸U];show e
  .refine q s2 (Moved.trans W.gtrans ((y.mono up).then_heap (y3i _) λb o U e=>?_) O) M;rw[sb.2 b λh=>U<|h▸y0c];show e
theorem zw0(a:Ad)(J:m<iQ):SetR (mixKind P w) a m (λh ks=>SetIs P w h a ks):=⟨λx k=>x.kept k,λ{A E s ks k v Q} is hl x q=>by
 let room:=zdx ks [];rw[y1o]at room;apply wpAny_setAddHashed_of (knd:=mixKind P w) is (zw3 is) x 00 λh' sb H=>q h' _ sb ?_;unfold SetIs;rw[zhb];apply SetOf_congr H (λk'=>?_) ?_
 .by_cases c:k∈onceK [] ks
  .rw[Xq c];by_cases e:k'=k
   .subst e;simp[c]
   .simp[e]
  .rw[Xp c];simp[y0v]
 .by_cases c:k∈onceK [] ks
  .rw[Xq c];simp[c]
  .rw[Xp c];simp[c]⟩
end
section
variable {P:im}{w:World}{A:ir}{E:Y0}{s:ik}
set_option maxHeartbeats 3200000 in
theorem zpz{T:Type}[DecidableEq T]{knd:PySem.KeyKind P w T}{Rp:Heap->List T->Prop}{Lp:Bool->Prop}{l:Ad}{its:Array Va}{ks:List T}{Q:Y0}(hh:A.handled=B)(hl:s.heap.IsList l its)(hk:ks.length=its.size)(hi:∀(i:Nat) v k,its[i]?=G v->ks[i]?=G k->knd.is k v=N)
  (SR:SetR knd s.heap.objs.size (its.size+1) Rp) (fresh:∀(h:Heap) led,Lp led->h.get? s.heap.objs.size=G {cls:=.type "set",dict:=B,data:=.set #[] 0 (.fresh 0 0 led)}->Rp h [])
  (nw:∀{A:ir},iY (model P w) A (.call (.builtin "set.__new__") ⟨[.type "set",.ref l],[]⟩) (wants (λobj s1=>∃led:Bool,Lp led/\obj=.ref s.heap.objs.size/\s1={s with heap:=s.heap.push {cls:=.type "set",dict:=B,data:=.set #[] 0 (.fresh 0 0 led)} }) E) s)
  (h:∀(h':Heap) (tk:Nat),Rp h' ks->(∀b o,b<s.heap.objs.size->s.heap.get? b=G o->h'.get? b=G o)->Q (.ref s.heap.objs.size) {s with heap:=h',toks:=tk}) :
  wpAny (model P w) A (call (.type "set") [.ref l]) Q E s:=by
 let(c,tl,hmro):=F.called_set.mro;let made:=F.called_set.made;let sub:=F.called_set.sub;apply jm<|jz (ii ⟨Code.quiet_builtin _ (by decide+kernel),iF F.entry_type_call ?_⟩);rw[Around.under_plain (weight_type_call_type "set" [.ref l] []) rfl];let a1:=F.called_set.notType;let a2:=F.called_set.canCreate;let a3:=F.typeCall_set_1<|.ref l
 repeat (any_goals (first|assumption|wp_step))
 apply iG nw λr s1 hr=>?_;cases r with
 |error e=>show hr
 |ok fl =>
  cases fl with
  |ret obj =>
   let(led,lp,rfl,rfl):=hr;let at0:(s.heap.push {cls:=.type "set",dict:=B,data:=.set #[] 0 (.fresh 0 0 led)}).get? s.heap.objs.size=G {cls:=.type "set",dict:=B,data:=.set #[] 0 (.fresh 0 0 led)}:=y0f _ rfl;let ty:Shared.TypeIs {s with heap:=s.heap.push {cls:=.type "set",dict:=B,data:=.set #[] 0 (.fresh 0 0 led)} } (.ref s.heap.objs.size) "set":=⟨_,at0,R⟩;let i1:=F.called_set.init.lookup;let i2:=F.called_set.init.bind<|.ref s.heap.objs.size
   repeat (any_goals (first|assumption|wp_step))
   apply iG (codeAny_call_builtin («R»:=wants (λr s2=>r=.none/\∃h' tk,s2={s with heap:=h',toks:=tk}/\Rp h' ks/\
     (∀b o,b<s.heap.objs.size->s.heap.get? b=G o->h'.get? b=G o)) E) F.called_set.init.plain F.entry_set_init (check_set_init_1 ty ?_)) λr2 s2 hr2=>?_
   .let(ol,ho,hc,nl,hd):=hl;let(oc,od,oda,osl):=ol;simp only at hc hd;subst hc;subst hd;let ho':(s.heap.push {cls:=.type "set",dict:=B,data:=.set #[] 0 (.fresh 0 0 led)}).get? l=G {cls:=.type "list",dict:=od,data:=.seq its nl,slots:=osl}:=y03 _ ho;let b1:=F.sub_list_set;let b2:=F.sub_list_frozenset;let b3:(Va.type "list"==Va.type "dict")=Fa:=by decide
    let hl1:(s.heap.push {cls:=.type "set",dict:=B,data:=.set #[] 0 (.fresh 0 0 led)}).IsList l its:=⟨_,ho',R,nl,R⟩;unfold Builtin.«set.__init__» noKeywords Builtin.Frozenset.updateFrom;generalize hPI:jX=PI
    wp_walk
    subst hPI;apply iV hl1 ?_;apply ig<|wpAny_runValue ?_;let ll:l<s.heap.objs.size:=y0e ho;let h3:A.in1.in1.in1.handled=B:=by simp[hh]
    let ne:l≠(s.heap.push {cls:=.type "set",dict:=B,data:=.set #[] 0 (.fresh 0 0 led)}).objs.size:=by rw[y1a];show y0o<|y36 ll
    let nf:s.heap.objs.size∉[(s.heap.push {cls:=.type "set",dict:=B,data:=.set #[] 0 (.fresh 0 0 led)}).objs.size,l]:=by
     rw[y1a];intro z;rcases y06.mp z with z|z
     .exact Xa z<|y0o (y29 _)
     .exact Xa (y0b.mp z)<|y2a ll
    apply zn1 ((Walks.list h3 _ l ne its).toS) s.heap.objs.size SR nf ks hk (λi v pv k e=>hi i v k pv e) (its.size-0) 0 _ 00 (y18 _) ⟨⟨_,y0f _ R,R,R⟩,(hl1.push _)⟩ ?x0 ?q0
    case x0 =>
     apply SR.kept (h:=s.heap.push {cls:=.type "set",dict:=B,data:=.set #[] 0 (.fresh 0 0 led)}) ?_ λo e=>y03 _ e;rw[y4q];show fresh _ led lp at0
    case q0 =>
     intro s' mv x';let(h',g',d',tk',os'):=s';let eg:g'=s.gens:=mv.gens;let ed:d'=s.drawn:=mv.drawn;let eo:os'=s.os:=mv.os;subst eg;subst ed;subst eo;apply ii<|ii ⟨R,h',tk',R,x',λb o hb e=>mv.heap b o ?_<|y03 _ (y03 _ e)⟩;rw[y1a];intro z;rcases y06.mp z with z|z
     .exact Xa z<|y0o hb
     .exact Xa (y0b.mp z)<|y0o (y36 hb)
   .cases r2 with
    |error e=>show hr2
    |ok f2 =>
     cases f2 with
     |ret r =>
      let(rfl,h',tk,rfl,x',k'):=hr2
      repeat (any_goals (first|assumption|wp_step))
      show h _ _ x' k'
     |_=>show hr2.elim
  |_=>show hr.elim
theorem zk6{its:Array Va}{ks:List Key}(M:A.handled=B)(hl:s.heap.IsList l its)(D:ks.length=its.size)(hi:∀(i:Nat) v k,its[i]?=G v->ks[i]?=G k->(mixKind P w).is k v=N)
  (U:its.size+1<iQ)
  (h:∀(h':Heap) (c:Nat),SetIs P w h' s.heap.objs.size ks->(∀b o,b<s.heap.objs.size->s.heap.get? b=G o->h'.get? b=G o)->Q (.ref s.heap.objs.size) {s with heap:=h',toks:=c}) :
  wpAny (model P w) A (call (.type "set") [.ref l]) Q E s :=
 zpz (Lp:=λ_=>True) M hl D hi (zw0 _ U) (λh led _ a=>SetOf_congr ((setObjOf_fresh (knd:=mixKind P w) led).setOf a<|by unfold iQ;omega) (λ_=>rfl) R) (code_set_new_1 (.ref l) λled=>⟨led,trivial,R,R⟩) h
end
noncomputable def setK(P:im)(w:World)(a:Ad)(ks:List Key):HO:=.ext λh=>SetIs P w h a ks
theorem zl9(C:X.calm=N):CallR X (.type "set") (λxs H Q=>∃(p:Ad) (ks:List Key),xs=[.ref p]/\SqL X.K H p (ks.map kV)/\ks.length<=1000/\∀a,H a=B->Q (.ref a) (upd H a<|setK X.prog X.w a ks)):=by
 intro pins s σ H xs us Q I r h;let(p,ks,rfl,O,hz,q):=h;let(u,rfl,rx):=vals1 r;cases(show u=Va.ref p from rx);let(vs,T,pl,_):=I.list O;let f:=T.length;rw[y01]at f;apply zk6 (ks:=ks) (I.ok.hd C) pl.isList (by rw[y08];show f) (λi v k J g=>?_) (by rw[y08];unfold iQ;omega) λh' c x k=>?_
 .let d:vs[i]?=G v:=by simpa using J
  let(u,e,q):=T.get (i:=i) (x:=kV k) (by rw[y05,g];rfl);rw[d]at e;cases e;show zrr q
 .refine⟨.ref s.heap.objs.size,_,I.laid (t':=c) (λb u e=>k b u (y0e e) e) (y04 _) ?_,R,q _ I.fresh⟩;let(o,l,ep,t,j,rest):=id x;show⟨x,⟨o,j⟩,λY M L k1=>L.kept k1⟩
theorem ziu:CallR X (.builtin "len") (λxs H Q=>∃(p:Ad) (ks:List Key),xs=[.ref p]/\H p=G (setK X.prog X.w p ks)/\ks.length<=1000/\Q (.int ((onceK [] ks).length:Int)) H):=by
 intro pins s σ H xs us Q I r h;let(p,ks,rfl,O,hz,q):=h;let(u,rfl,rx):=vals1 r;cases(show u=Va.ref p from rx);let(x,_):=I.hok p _ O;let(o,l,ep,t,j,a,hd,_,_,_,T,g):=x;let room:=zdx ks [];rw[y1o]at room;apply call_len_set j a hd T (by rw[g];omega) ?_;rw[g];show⟨.int _,H,I.tok _,⟨_,R⟩,q⟩
structure New(H:Hp)(p:Ad)(o:HO)(H':Hp):Prop where
 nil:H p=B
 g:Same H H'
 at':H' p=G o
 eq:H'=upd H p o
theorem New.mk'(h:H p=B)(o:HO):New H p o (upd H p o):=⟨h,za4 h o,zar,R⟩
theorem New.lst{K:Frag}{H H':Hp}{p:Ad}{xs:List V}(n:New H p (.lst xs) H'):SqL K H' p xs:=.of n.at'
theorem Same.wr(g:Same H H')(h:H p=B)(o:HO):Same H (upd H' p o):=λb u e=>by rw[zak<|zas e h];show g b u e
section
variable {X:Cx}{e:Expr}{es:List Expr}{t:TA}{pos:Pos}
def tTupN(t:TA):TE:=λσ H Q=>t σ H λxs H1=>xs.length<=io/\∀p H',New H1 p (.tup xs) H'->Q (.ref p) H'
def tLstN(t:TA):TE:=λσ H Q=>t σ H λxs H1=>xs.length<=io/\∀p H',New H1 p (.lst xs) H'->Q (.ref p) H'
theorem za2(h:PA X es t):PE X (.Tuple es L pos) (tTupN t):=by
 intro pins s σ H Q I A;apply wpAny_Tuple_spliced<|thn (h pos pins s σ H _ I A) λus s1 ⟨xs,H1,I1,r,z,q⟩=>⟨by rw[←r.length];show z,?_⟩;apply⟨.ref s1.heap.objs.size,upd H1 s1.heap.objs.size<|.tup xs,I1.laid (t':=s1.toks) (λb u e=>y03 _ e) (y04 _) ?_,R,q _ _<|.mk' I1.fresh _⟩;show⟨z,us,r,⟨_,y0f _ R,R,_,R⟩⟩
theorem zaq(h:PA X es t):PE X (.List es pos) (tLstN t):=by
 intro pins s σ H Q I A;apply wpAny_List_spliced<|thn (h pos pins s σ H _ I A) λus s1 ⟨xs,H1,I1,r,z,q⟩=>⟨by rw[←r.length];show z,?_⟩;apply⟨.ref s1.heap.objs.size,upd H1 s1.heap.objs.size<|.lst xs,I1.laid (t':=s1.toks) (λb u e=>y03 _ e) (y04 _) ?_,R,q _ _<|.mk' I1.fresh _⟩;show⟨z,us,0,r,y0f _ R⟩
def rSlLN(K:Frag):V->Option Int->Option Int->Hp->VK->Prop:=λx lo hi H Q=>∃a xs,x=.ref a/\SqL K H a xs/\∀p H',New H p (.lst<|cutL xs lo hi) H'->Q (.ref p) H'
theorem ztl:SlR X (rSlLN X.K):=λpins s σ H x v J vu lo hi f Q I rx hs pl g h=>by
 let(a,xs,e,O,q):=h;show zwy pins s σ H x v J vu lo hi f Q I rx hs pl g ⟨a,xs,e,O,λp w=>q p _<|.mk' w _⟩
def rCatN:R2:=λx y H Q=>∃l b xs zs,x=.ref l/\y=.ref b/\H l=G (.lst xs)/\H b=G (.lst zs)/\xs.length+zs.length<=io/\∀p H',New H p (.lst<|xs++zs) H'->Q (.ref p) H'
theorem op_catN:OpR X (iM .Add) rCatN:=λpins s σ H x y v u Q I rx ry h=>by
 let(l,b,xs,zs,J,g,Y,M,hz,q):=h;show op_cat pins s σ H x y v u Q I rx ry ⟨l,b,xs,zs,J,g,Y,M,hz,λp w=>q p _<|.mk' w _⟩
theorem zit:CallR X (.type "list") (λxs H Q=>∃p ys,xs=[.ref p]/\(SqL X.K H p ys\/SqT X.K H p ys)/\∀l H',New H l (.lst ys) H'->Q (.ref l) H'):=λpins s σ H xs us Q I r h=>by
 let(p,ys,e,A,q):=h;show zki pins s σ H xs us Q I r ⟨p,ys,e,A,λl a=>q l _<|.mk' a _⟩
theorem zaw:CallR X (.type "tuple") (λxs H Q=>∃p ys,xs=[.ref p]/\((SqL X.K H p ys/\∀l H',New H l (.tup ys) H'->Q (.ref l) H')\/(SqT X.K H p ys/\Q (.ref p) H))):=λpins s σ H xs us Q I r h=>by
 let(p,ys,e,A):=h;apply zir pins s σ H xs us Q I r ⟨p,ys,e,?_⟩;rcases A with⟨Y,q⟩|Y
 .exact .inl ⟨Y,λl a=>q l _<|.mk' a _⟩
 .exact .inr Y
theorem zkf(C:X.calm=N):CallR X (.type "set") (λxs H Q=>∃(p:Ad) (ks:List Key),xs=[.ref p]/\SqL X.K H p (ks.map kV)/\ks.length<=1000/\∀a H',New H a (setK X.prog X.w a ks) H'->Q (.ref a) H'):=λpins s σ H xs us Q I r h=>by
 let(p,ks,e,O,hz,q):=h;show zl9 C pins s σ H xs us Q I r ⟨p,ks,e,O,hz,λa na=>q a _<|.mk' na _⟩
end
section
variable {tn:List Str}{cp:Y6}{g:TG}{tif:TT}{te:TE}{σ0:St}{Q:VK}{H1:Hp}{K:Frag}{a:Ad}{xs:List V}
def PMap(S:St->Prop)(f:V->V)(xs:List V)(H1:Hp)(i:Nat)(ys:List V)(σ:St)(H:Hp):Prop:=Same H1 H/\S σ/\ys=(xs.take i).map f
theorem zss(S:St->Prop)(f:V->V)(I:xs.length<=1000)(j:SqL K H1 a xs)(E:S<|stB tn cp σ0)
  (hs:∀D i σ H x,i<xs.length->x∈xs->xs[i]?=G x->Same H1 H->H1 D=B->H D=G (.lst<|(xs.take i).map f)->S σ->g x σ H λd H2=>tif d H2 λc H3 =>
   if c=N then te d H3 λy H4=>CStep D xs.length i (PMap S f xs H1) d y H4 else CSkip D xs.length i (PMap S f xs H1) d H3)
  (hd:∀D H,H1 D=B->Same H1 H->H D=G (.lst<|xs.map f)->Q (.ref D) H):cBody tn cp g tif te σ0 Q (Itl K a) H1:=by
 apply ziq (K:=K) (a:=a) (xs:=xs) (λD i ys σ H=>PMap S f xs H1 i ys σ H) (zah I) (λD u=>⟨za4 u _,E,R⟩) (λD i ys σ H _ _ _ p=>p.1.seq j) ?_ ?_
 .rintro D i ys σ H x u hi O o hl ⟨L,r,rfl⟩;show hs D i σ H x hi (y0l O) O L u o r
 .rintro D ys σ H u o hl ⟨L,r,rfl⟩;rw[y0i<|y04 _]at o;show hd D H u L o
theorem ze3(S:St->Prop)(f:V->V)(I:xs.length<=1000)(j:SqT K H1 a xs)(E:S<|stB tn cp σ0)
  (hs:∀D i σ H x,i<xs.length->x∈xs->xs[i]?=G x->Same H1 H->H1 D=B->H D=G (.lst<|(xs.take i).map f)->S σ->g x σ H λd H2=>tif d H2 λc H3 =>
   if c=N then te d H3 λy H4=>CStep D xs.length i (PMap S f xs H1) d y H4 else CSkip D xs.length i (PMap S f xs H1) d H3)
  (hd:∀D H,H1 D=B->Same H1 H->H D=G (.lst<|xs.map f)->Q (.ref D) H):cBody tn cp g tif te σ0 Q (Itt K a) H1:=by
 apply zwj (K:=K) (a:=a) (xs:=xs) (λD i ys σ H=>PMap S f xs H1 i ys σ H) (zah I) (λD u=>⟨za4 u _,E,R⟩) (λD i ys σ H _ _ _ p=>p.1.seqT j) ?_ ?_
 .rintro D i ys σ H x u hi O o hl ⟨L,r,rfl⟩;show hs D i σ H x hi (y0l O) O L u o r
 .rintro D ys σ H u o hl ⟨L,r,rfl⟩;rw[y0i<|y04 _]at o;show hd D H u L o
theorem zb0(I:xs.length<=1000)(O:xs[i]?=G x)(u:H1 D=B)(h4:H4 D=G (.lst<|(xs.take i).map f))(U:Same H1 H4)(s2:S d)(e:y=f x):
  CStep D xs.length i (PMap S f xs H1) d y H4:=by
 let hi:i<xs.length:=(y09.mp O).1;apply cstep (zah I) hi h4 (by rw[y01,y0t];omega) ⟨U.wr u _,s2,?_⟩;rw[y1h,O,y13,e];rfl
def PFil(S:St->Prop)(p:V->Bool)(f:V->V)(xs:List V)(H1:Hp)(i:Nat)(ys:List V)(σ:St)(H:Hp):Prop:=Same H1 H/\S σ/\ys=((xs.take i).filter p).map f
theorem zl8(S:St->Prop)(p:V->Bool)(f:V->V)(I:xs.length<=1000)(j:SqL K H1 a xs)(E:S<|stB tn cp σ0)
  (hs:∀D i σ H x,i<xs.length->x∈xs->xs[i]?=G x->Same H1 H->H1 D=B->H D=G (.lst<|((xs.take i).filter p).map f)->S σ->g x σ H λd H2=>tif d H2 λc H3 =>
   if c=N then te d H3 λy H4=>CStep D xs.length i (PFil S p f xs H1) d y H4 else CSkip D xs.length i (PFil S p f xs H1) d H3)
  (hd:∀D H,H1 D=B->Same H1 H->H D=G (.lst<|(xs.filter p).map f)->Q (.ref D) H):cBody tn cp g tif te σ0 Q (Itl K a) H1:=by
 apply ziq (K:=K) (a:=a) (xs:=xs) (λD i ys σ H=>PFil S p f xs H1 i ys σ H) (zah I) (λD u=>⟨za4 u _,E,R⟩) (λD i ys σ H _ _ _ p=>p.1.seq j) ?_ ?_
 .rintro D i ys σ H x u hi O o hl ⟨L,r,rfl⟩;show hs D i σ H x hi (y0l O) O L u o r
 .rintro D ys σ H u o hl ⟨L,r,rfl⟩;rw[y0i<|y04 _]at o;show hd D H u L o
theorem cf_tup(S:St->Prop)(p:V->Bool)(f:V->V)(I:xs.length<=1000)(j:SqT K H1 a xs)(E:S<|stB tn cp σ0)
  (hs:∀D i σ H x,i<xs.length->x∈xs->xs[i]?=G x->Same H1 H->H1 D=B->H D=G (.lst<|((xs.take i).filter p).map f)->S σ->g x σ H λd H2=>tif d H2 λc H3 =>
   if c=N then te d H3 λy H4=>CStep D xs.length i (PFil S p f xs H1) d y H4 else CSkip D xs.length i (PFil S p f xs H1) d H3)
  (hd:∀D H,H1 D=B->Same H1 H->H D=G (.lst<|(xs.filter p).map f)->Q (.ref D) H):cBody tn cp g tif te σ0 Q (Itt K a) H1:=by
 apply zwj (K:=K) (a:=a) (xs:=xs) (λD i ys σ H=>PFil S p f xs H1 i ys σ H) (zah I) (λD u=>⟨za4 u _,E,R⟩) (λD i ys σ H _ _ _ p=>p.1.seqT j) ?_ ?_
 .rintro D i ys σ H x u hi O o hl ⟨L,r,rfl⟩;show hs D i σ H x hi (y0l O) O L u o r
 .rintro D ys σ H u o hl ⟨L,r,rfl⟩;rw[y0i<|y04 _]at o;show hd D H u L o
theorem zin(I:xs.length<=1000)(O:xs[i]?=G x)(L:p x=N)(u:H1 D=B)(h4:H4 D=G (.lst<|((xs.take i).filter p).map f))(U:Same H1 H4)(s2:S d)(e:y=f x):
  CStep D xs.length i (PFil S p f xs H1) d y H4:=by
 let hi:i<xs.length:=(y09.mp O).1;apply cstep (zah I) hi h4 ?_ ⟨U.wr u _,s2,?_⟩
 .rw[y01];let:=y2o p<|xs.take i;rw[y0t]at this;omega
 .rw[y1h,O,y45,y13,e];simp[L]
theorem zio(O:xs[i]?=G x)(L:p x=Fa)(C:H3 D=G (.lst<|((xs.take i).filter p).map f))(c:Same H1 H3)(s2:S d):
  CSkip D xs.length i (PFil S p f xs H1) d H3:=by
 let hi:i<xs.length:=(y09.mp O).1;apply cskip hi C ?_ ⟨c,s2,?_⟩
 .rw[y01];let:=y2o p<|xs.take i;rw[y0t]at this;omega
 .rw[y1h,O,y45];simp[L]
end
section
variable {X:Cx}{k:Nat}{H:Hp}{a b:Ad}{xs ys:List V}
theorem zsb(a b:Str):eqV (.str a) (.str b)=decide (a=b):=by
 by_cases h:a=b
 .subst h;simp[eqV]
 .simp[eqV,h]
theorem zmh:∀(xs ys:List Str),(xs.length==ys.length&&(List.range xs.length).all λj=>eqV ((xs.map V.str).getD j .non)<|(ys.map V.str).getD j .non)=decide (xs=ys)
 |[],[]=>rfl
 |[],y::ys=>by simp
 |x::xs,[]=>by simp
 |x::xs,y::ys=>by
  let E:=zmh xs ys;let e:(List.range (x::xs).length).all (λj=>eqV (((x::xs).map V.str).getD j .non)<|((y::ys).map V.str).getD j .non) =
    (decide (x=y)&&(List.range xs.length).all λj=>eqV ((xs.map V.str).getD j .non)<|(ys.map V.str).getD j .non):=by
   rw[y0s,y2k,y2b,y3m];show congrArg (· && _)<|zsb x y
  rw[e];let g:((x::xs).length==(y::ys).length)=(xs.length==ys.length):=by simp
  rw[g];by_cases O:x=y
  .subst O;rw[Xg R,y1d,E];simp
  .rw[Xf O,y1q,y3a];simp[O]
theorem zbx(xs:List Str):(xs.map V.str).all flatV=N:=by
 rw[y11];intro x O;let(z,_,rfl):=y0j.mp O;rfl
def rEqS(K:Frag):R2:=λx y H Q=>∃(a b:Ad) (xs ys:List Str),x=.ref a/\y=.ref b/\SqL K H a (xs.map V.str)/\SqL K H b (ys.map V.str)/\Q (.bl<|decide (xs=ys)) H
theorem zzh(o:X.A.units+8<cLine):OpR X (iw .Eq) (rEqS X.K):=by
 infer_instance;let(a,b,xs,ys,rfl,rfl,Y,M,q):=h;let r:=zn8 (X:=X) Y M (zbx xs)<|zbx ys;rw[y01,y01,zmh]at r;show zm4 (k:=1) (y3l (Nat.add_le_add_left 04 _) o) pins s σ H _ _ v u Q I rx ry ⟨_,r,q⟩
def rNeS(K:Frag):R2:=λx y H Q=>∃(a b:Ad) (xs ys:List Str),x=.ref a/\y=.ref b/\SqL K H a (xs.map V.str)/\SqL K H b (ys.map V.str)/\Q (.bl<|!decide (xs=ys)) H
theorem zze(o:X.A.units+8<cLine):OpR X (iw .NotEq) (rNeS X.K):=by
 infer_instance;let(a,b,xs,ys,rfl,rfl,Y,M,q):=h;cases(show v=Va.ref a from rx);cases(show u=Va.ref b from ry);let(us,r1,L,_):=I.list Y;let(vs,l,r,_):=I.list M;let l1:=r1.length;let l2:=l.length;let c:X.A.units<cLine:=by omega
 by_cases hl:us.length=vs.length
 .let z:=SeqAt.RcNeAt.lists (A:=X.A) (s:=s) (e:=λj=>eqV ((xs.map V.str).getD j .non)<|(ys.map V.str).getD j .non) L.isList r.isList (by rw[y08,y08];show hl) c λj Y M=>by
   rw[y08]at Y M;let(g1,w):=r1.at Y;let(U,E):=l.at M;let J:(xs.map V.str).getD j .non=(xs.map V.str)[j]:=by rw[y02,y00 g1];rfl
   let g:(ys.map V.str).getD j .non=(ys.map V.str)[j]:=by rw[y02,y00 U];rfl
   rw[J,g];apply znl (by simpa using w) (by simpa using E) ?_ ?_
   .exact y11.mp (zbx xs) _<|y0n g1
   .exact y11.mp (zbx ys) _<|y0n U
  let e:=zmh xs ys;rw[y01]at l1 l2;rw[show(xs.length==ys.length)=N by simp;omega,y1d]at e;rw[y08,←l1,e]at z;show z _ _ _ _ ⟨.bl<|!decide (xs=ys),H,I,R,q⟩
 .let z:=SeqAt.RcNeAt.lists_lengths (A:=X.A) (s:=s) L.isList r.isList (by rw[y08,y08];simpa using hl) c;let e:decide (xs=ys)=Fa:=Xf λh=>by rw[h,y01]at l1;rw[y01]at l2;omega
  rw[e]at q;show z _ _ _ _ ⟨.bl N,H,I,R,q⟩
theorem ztu(d:SqL X.K H a xs)(U:SqL X.K H b []):RcOk X (k+1) H (.ref a) (.ref b) (decide (xs=[])):=by
 cases xs with
 |nil =>
  let r:=zej (k:=k) d U R (λ_=>N) λj Y _=>by simp at Y
  show r
 |cons x r=>show zfy d U (by simp)
def rSlTN(K:Frag):V->Option Int->Option Int->Hp->VK->Prop:=λx lo hi H Q=>∃a xs,x=.ref a/\SqT K H a xs/\
 ¬(HT.sIx xs.length 0 lo=0/\HT.sIx xs.length xs.length hi=xs.length)/\∀p H',New H p (.tup<|cutL xs lo hi) H'->Q (.ref p) H'
theorem zwx:SlR X (rSlTN X.K):=λpins s σ H x v J vu lo hi f Q I rx hs pl g h=>by
 let(a,xs,e,O,j,q):=h;show zyr pins s σ H x v J vu lo hi f Q I rx hs pl g ⟨a,xs,e,O,j,λp w=>q p _<|.mk' w _⟩
def rStrB(f:Str->Bool):V->List V->Hp->VK->Prop:=λx vs H Q=>∃z,x=.str z/\vs=[]/\Q (.bl<|f z) H
end
section
variable {K:Frag}{h:Heap}{mg:Y1}
theorem glt_mk(X:K.In h)(Gq:h.Ns iz mg)(a:PySem.W.nsIn K iz x=G (G<|.ref p))
  (l:K.lookup p=G ⟨.type "tuple",M,.seq its n,f⟩) (z:its.size<=io) (r:Vals xs its.toList):∃q,GlV mg x (.ref q)/\∀H,SqT K H q xs :=
 ⟨p,⟨_,PySem.W.mg_of X Gq a,R⟩,λH=>.inr ⟨_,its,n,l,R,R,z,r⟩⟩
end
section
variable {X:Cx}(K:Frag)
theorem zoe(h:X.K=K:=by rfl):OpR X (iw .In) (rIn K Fa):=h▸zqw
theorem zh9(h:X.K=K:=by rfl):OpR X (iw .NotIn) (rIn K N):=h▸zjs
theorem za1(h:X.K=K:=by rfl):IxR X (rIxL K):=h▸zx4
theorem zaf(h:X.K=K:=by rfl):IxR X (rIxT K):=h▸ix_tup
theorem zpx(h:X.K=K:=by rfl):SlR X (rSlLN K):=h▸ztl
theorem ztk(h:X.K=K:=by rfl):SlR X (rSlTN K):=h▸zwx
def rLen:List V->Hp->VK->Prop:=λxs H Q=>∃p ys,xs=[.ref p]/\(SqL K H p ys\/SqT K H p ys)/\Q (.int<|List.length ys) H
theorem zd8(h:X.K=K:=by rfl):CallR X (.builtin "len") (rLen K):=h▸zkk
def rAll:List V->Hp->VK->Prop:=λxs H Q=>∃(p:Ad) (bs:List Bool),xs=[.ref p]/\SqL K H p (bs.map V.bl)/\Q (.bl<|bs.all id) H
theorem zkn(C:X.calm=N)(h:X.K=K:=by rfl):CallR X (.builtin "all") (rAll K):=h▸zmd C
def rAny:List V->Hp->VK->Prop:=λxs H Q=>∃(p:Ad) (bs:List Bool),xs=[.ref p]/\SqL K H p (bs.map V.bl)/\Q (.bl<|bs.any id) H
theorem zkm(C:X.calm=N)(h:X.K=K:=by rfl):CallR X (.builtin "any") (rAny K):=h▸zmc C
def rSum:List V->Hp->VK->Prop:=λxs H Q=>∃(p:Ad) (ns:List Int),xs=[.ref p]/\SqL K H p (ns.map V.int)/\Q (.int ns.sum) H
theorem zd7(C:X.calm=N)(h:X.K=K:=by rfl):CallR X (.builtin "sum") (rSum K):=h▸zke C
def rListOf:List V->Hp->VK->Prop:=λxs H Q=>∃p ys,xs=[.ref p]/\(SqL K H p ys\/SqT K H p ys)/\∀l H',New H l (.lst ys) H'->Q (.ref l) H'
theorem zgt(h:X.K=K:=by rfl):CallR X (.type "list") (rListOf K):=h▸zit
theorem zxn(Y:X.A.units+8<cLine)(h:X.K=K:=by rfl):OpR X (iw .Eq) (rEqS K):=h▸zzh Y
theorem zlk(Y:X.A.units+8<cLine)(h:X.K=K:=by rfl):OpR X (iw .NotEq) (rNeS K):=h▸zze Y
theorem za8(hl:PE X l tl)(h:X.K=K:=by rfl):PI X y l (iList K tl):=h▸zxe hl
theorem zbo(hl:PE X l tl)(h:X.K=K:=by rfl):PI X y l (iTup K tl):=h▸zy6 hl
variable {o e:Expr}{es:List Expr}{to:TE}{t:TA}{name:Str}{apos cpos:Pos}{T id:String}{r:V->List V->Hp->VK->Prop}
theorem zxj(pa:PlainAttrs T)(slot:Slot T name id)(p:typeOf (.builtin id)=pure (.type "method_descriptor"))(J:MtR X id r)(j:PE X o to)(h:X.K=K:=by rfl)
  (c:attributeBase o name X.env (eval o X.env)=eval o X.env:=by rfl) (f:(apos.endLine==cpos.line)=N:=by rfl):PE X (.Call (.Attribute o name apos) [] [] cpos) (tBM0 K T r to):=h▸zza pa slot p J j c f
theorem zg8(pa:PlainAttrs T)(slot:Slot T name id)(p:typeOf (.builtin id)=pure (.type "method_descriptor"))(J:MtR X id r)(j:PE X o to)(d:PA X (e::es) t)(h:X.K=K:=by rfl)
  (c:attributeBase o name X.env (eval o X.env)=eval o X.env:=by rfl)
  (g:((ji cpos<|iq (e::es) X.env).all (λx=>!x.1)&&(backToKw cpos<|keywordEach [] X.env).all (λx=>x.1.isSome)
   && decide ((e::es).length+([]:List Keyword).length+(if([]:List Keyword).isEmpty then 0 else 1)<30))=N:=by rfl)
  (f:(apos.endLine==cpos.line)=N:=by rfl) (Y:notStar e=N:=by rfl) (M:es.all notStar=N:=by rfl) :
  PE X (.Call (.Attribute o name apos) (e::es) [] cpos) (tBM K T r to t):=h▸pe_bm pa slot p J j d c g f (zat Y) (zbe M)
end
section
variable {P:im}{w:World}{A:ir}{E:Y0}{s:ik}
theorem zlq(st:s.heap.IsTupleIter j t k)(L:s.heap.IsTuple t its)(C:its[k]?=G y)
  (q:∀h',h'.IsTupleIter j t (k+1)->Heap.SameBut j s.heap h'->Q y {s with heap:=h'}):wpAny (model P w) A (Builtin.SmallTypes.nextOf<|.ref j) Q E s:=by
 let(l,d,g,c):=id st;let(i,f,_,r,p):=L;unfold Builtin.SmallTypes.nextOf;apply ig<|i9 (name:=Str.ofString "__next__") st.typeIs F.slot_tuple_iterator_next (i8 F.slot_tuple_iterator_next st.typeIs F.entry_tuple_iterator_next ?_<|F.args_tuple_iterator_next_1 _);change wpAny _ _ (field (.ref j) 0>>=_) _ _ s;apply ig<|i7 d c (x:=.ref t) R ?_;change wpAny _ _ (if(Va.ref t==Va.none)=N then _ else _) _ _ s;rw[Xp<|show¬(Va.ref t==Va.none)=N from y0g];change wpAny _ _ (field (.ref j) 1>>=_) _ _ s;apply ig<|i7 d c (x:=.int k 0) R ?_;change wpAny _ _ (seqItems? (.ref t)>>=_) _ _ s;apply ig<|iE f p ?_;simp only[y1y,C];apply ig<|iC d c (by simp) (ii ⟨y,R,ii<|q _ ?_ (Heap.SameBut.update ..)⟩);show⟨_,y1j _ d<|Obj.isFreed_of_fields (Obj.data_mapFields c _),(Obj.cls_mapFields ..).trans g,by rw[Obj.data_mapFields c];simp[iB]⟩
theorem zoq(M:A.handled=B)(st:s.heap.IsTupleIter j t k)(L:s.heap.IsTuple t its)(C:its[k]?=B)
  (q:∀h' e,Heap.ExtBut j s.heap h'->(∃o,h'.get? e=G o/\o.cls=.type "StopIteration")->E (.ref e) {s with heap:=h'}):wpAny (model P w) A (Builtin.SmallTypes.nextOf<|.ref j) Q E s:=by
 let(l,d,g,c):=id st;let(i,f,_,r,p):=L;unfold Builtin.SmallTypes.nextOf;apply ig<|i9 (name:=Str.ofString "__next__") st.typeIs F.slot_tuple_iterator_next (i8 F.slot_tuple_iterator_next st.typeIs F.entry_tuple_iterator_next ?_<|F.args_tuple_iterator_next_1 _);change wpAny _ _ (field (.ref j) 0>>=_) _ _ s;apply ig<|i7 d c (x:=.ref t) R ?_;change wpAny _ _ (if(Va.ref t==Va.none)=N then _ else _) _ _ s;rw[Xp<|show¬(Va.ref t==Va.none)=N from y0g];change wpAny _ _ (field (.ref j) 1>>=_) _ _ s;apply ig<|i7 d c (x:=.int k 0) R ?_;change wpAny _ _ (seqItems? (.ref t)>>=_) _ _ s;apply ig<|iE f p ?_;simp only[y1y,C];apply ig<|jd (ig<|iC d c (by simp) ?_);change wpAny _ _ (newExc (.type "StopIteration") []>>=_) _ _ _;apply ig ?_;simp only[newExc,newTuple];apply ig<|i6 ?_ (by size_fits);apply ig (m:=jC _ _)<|wpAny_of_eq (a:=Va.none) (by simp only[jC];rfl) ?_;apply i6 ?_ (by size_fits);simp only[raiseNew];apply ig<|wpAny_handled ?_;rw[show A.in1.handled=B from M];apply ig<|ii (wpAny_throw<|q _ _ (((Heap.SameBut.update ..).extBut.push _).push _) ⟨_,y0f _ R,R⟩)
end
def IsSq(h:Heap)(l:Bool)(t:Ad)(its:Array Va):Prop:=cond l (h.IsList t its)<|h.IsTuple t its
noncomputable abbrev itn(l:Bool):String:=cond l "list_iterator" "tuple_iterator"
def IsSi(h:Heap)(l:Bool)(j t:Ad)(k:Nat):Prop:=∃o,h.get? j=G o/\o.cls=.type (itn l)/\o.data=.fields #[.ref t,.int k 0]
def SqB(K:Frag)(l:Bool)(H:Hp)(a:Ad)(xs:List V):Prop:=cond l (SqL K H a xs)<|SqT K H a xs
abbrev IsZipF(h:Heap)(z ti ro:Ad)(J f1:Va):Prop:=h.get? z=G {cls:=.type "zip",dict:=B,data:=.fields #[J,f1,.bool Fa,.ref ti,.ref ro],slots:=#[]}
theorem zot(h:Q (s.heap.get? a) s):wpAny M A (loadIfAlive a) Q E s:=λ_ _ _=>h
structure ZipG(l1 l2:Bool)(h:Heap)(z ti ro j1 j2 t1 t2:Ad)(i:Nat):Prop where
 z:∃f0 f1,IsZipF h z ti ro f0 f1/\(f0=Va.none\/∃a:Ad,f0=iB a)
 ti:jN h ti (.ref j1)<|.ref j2
 ro:∃a b,jN h ro a b
 j1:IsSi h l1 j1 t1 i
 j2:IsSi h l2 j2 t2 i
section
variable {P:im}{w:World}{A:ir}{E:Y0}{s:ik}{h h':Heap}{l l1 l2:Bool}{z ti ro j1 j2 t1 t2:Ad}{i:Nat}{its its1 its2:Array Va}{a b j t:Ad}
theorem IsSq.at(x:IsSq h l t its)(k:∀o,h.get? t=G o->h'.get? t=G o):IsSq h' l t its:=by cases l<;>show let⟨o,e,r⟩:=x;⟨o,k o e,r⟩
theorem IsSq.ext(x:IsSq h l t its)(k:Heap.ExtBut b h h')(n:t≠b):IsSq h' l t its:=x.at λo e=>k t o n e
theorem IsSq.lt(x:IsSq h l t its):t<h.objs.size:=by cases l<;>show let⟨_,e,_⟩:=x;y0e e
theorem IsSi.at(x:IsSi h l j t i)(k:∀o,h.get? j=G o->h'.get? j=G o):IsSi h' l j t i:=let⟨o,e,r⟩:=x;⟨o,k o e,r⟩
theorem IsSi.ext(x:IsSi h l j t i)(k:Heap.ExtBut b h h')(n:j≠b):IsSi h' l j t i:=x.at λo e=>k j o n e
theorem zic(st:IsSi s.heap l j t i)(L:IsSq s.heap l t its)(C:its[i]?=G y)
  (q:∀h',IsSi h' l j t (i+1)->Heap.SameBut j s.heap h'->Q y {s with heap:=h'}):wpAny (model P w) A (Builtin.SmallTypes.nextOf<|.ref j) Q E s:=by
 cases l
 .exact zlq st L C q
 .exact wpAny_nextOf_list_item st L C q
theorem zv4(M:A.handled=B)(st:IsSi s.heap l j t i)(L:IsSq s.heap l t its)(C:its[i]?=B)
  (q:∀h' e,Heap.ExtBut j s.heap h'->(∃o,h'.get? e=G o/\o.cls=.type "StopIteration")->E (.ref e) {s with heap:=h'}):wpAny (model P w) A (Builtin.SmallTypes.nextOf<|.ref j) Q E s:=by
 cases l
 .exact zoq M st L C q
 .exact wpAny_nextOf_list_end M st L C q
theorem it_sq(x:IsSq s.heap l t its)(q:Q (.ref s.heap.objs.size) {s with heap:=s.heap.push {cls:=.type<|itn l,data:=.fields #[.ref t,.int 0 0]} }):wpAny (model P w) A (jX<|.ref t) Q E s:=by
 cases l
 .exact wpAny_pyIter_tuple x q
 .exact iV x q
theorem ZipG.move(Z:ZipG l1 l2 h z ti ro j1 j2 t1 t2 i)(k:∀c∈[z,ti,ro,j1,j2],∀o,h.get? c=G o->h'.get? c=G o):ZipG l1 l2 h' z ti ro j1 j2 t1 t2 i :=
 let⟨J,f1,H,T⟩:=Z.z;let⟨u,v,d⟩:=Z.ro
 ⟨⟨J,f1,k z (by simp) _ H,T⟩,k ti (by simp) _ Z.ti,⟨u,v,k ro (by simp) _ d⟩,Z.j1.at λo e=>k j1 (by simp) o e,Z.j2.at λo e=>k j2 (by simp) o e⟩
theorem ZipG.there(Z:ZipG l1 l2 h z ti ro j1 j2 t1 t2 i):∀c∈[z,ti,ro,j1,j2],∃o,h.get? c=G o/\∀v,o.data ≠ .cell v:=λc C=>by
 let(f,f1,H,T):=Z.z;let(u,v,d):=Z.ro;let(D,J,_,p):=Z.j1;let(e,g,_,I):=Z.j2;simp only[y06,y0h,or_false]at C;rcases C with rfl|rfl|rfl|rfl|rfl
 .exact⟨_,H,λv q=>nomatch q⟩
 .exact⟨_,Z.ti,λv q=>nomatch q⟩
 .exact⟨_,d,λv q=>nomatch q⟩
 .exact⟨_,J,λv q=>by rw[p]at q;cases q⟩
 .exact⟨_,g,λv q=>by rw[I]at q;cases q⟩
theorem ZipG.lt(Z:ZipG l1 l2 h z ti ro j1 j2 t1 t2 i)(C:c∈[z,ti,ro,j1,j2]):c<h.objs.size:=let⟨_,e,_⟩:=Z.there c C;y0e e
theorem zha(hz:IsZipF s.heap z ti ro J f1)(T:J=Va.none\/∃a:Ad,J=iB a)(q:∀b h' g1,IsZipF h' z ti ro J g1->Heap.SameBut z s.heap h'->Q b {s with heap:=h'}):
  wpAny (model P w) A (Builtin.SmallTypes.ownedTupleIsFree<|.ref z) Q E s:=by
 unfold Builtin.SmallTypes.ownedTupleIsFree;apply ig<|i7 hz R (x:=J) R ?_;rcases T with rfl|⟨a,rfl⟩
 .exact ii<|q N s.heap f1 hz (Heap.SameBut.refl _ _)
 .change wpAny _ _ (loadIfAlive _>>=_) _ _ _;apply ig<|zot ?_;cases s.heap.get? (Int.toNat (a:Int))with
  |none =>
   rw[Xq<|show(B:Option Obj).isNone=N from rfl];show ii<|q N s.heap f1 hz (Heap.SameBut.refl _ _)
  |some o =>
   rw[Xp<|show¬(G o:Option Obj).isNone=N from y0g];apply ig<|i7 hz R (x:=f1) R ?_;by_cases c:(f1 !=Va.bool N)=N
   .rw[Xq c];show ig<|iL hz (by simp) λh' p M=>ii<|q Fa h' (.bool N) p M
   .rw[Xp c];show ii<|q Fa s.heap f1 hz (Heap.SameBut.refl _ _)
theorem zwl{x y:Va}{Q:Y0}(D:jD z ti ro j1 j2 t1 t2)(Z:ZipG l1 l2 s.heap z ti ro j1 j2 t1 t2 i)(L:IsSq s.heap l1 t1 its1)(r:IsSq s.heap l2 t2 its2)(O:its1[i]?=G x)(hy:its2[i]?=G y)
  (q:∀h',ZipG l1 l2 h' z ti ro j1 j2 t1 t2 (i+1)->jN h' s.heap.objs.size x y->h'.objs.size=s.heap.objs.size+1->(∀c o,c∉[z,ti,ro,j1,j2]->s.heap.get? c=G o->h'.get? c=G o)->
   Q (.ref s.heap.objs.size) {s with heap:=h'}):wpAny (model P w) A (Builtin.«zip.__next__» ⟨[.ref z],[]⟩) (λfin s'=>∃v,fin=.done (.ret v)/\Q v s') E s:=by
 let(J,f1,H,T):=Z.z;let(a,b,hro):=Z.ro;let off:∀{c},c∉[z,ti,ro,j1,j2]->c≠z/\c≠ro/\c≠j1/\c≠j2:=λh=>⟨λe=>h (by simp[e]),λe=>h (by simp[e]),λe=>h (by simp[e]),λe=>h<|by simp[e]⟩;change wpAny _ _ (field (.ref z) 2>>=_) _ _ _;apply ig<|i7 H R (x:=.bool Fa) R ?_;change wpAny _ _ (field (.ref z) 3>>=_) _ _ _;apply ig<|i7 H R (x:=.ref ti) R ?_;apply ig<|iE Z.ti R ?_;change wpAny _ _ (Builtin.SmallTypes.ownedTupleIsFree (.ref z)>>=_) _ _ _;apply ig<|zha H T λfree h0 g1 z0 s0=>?_;cases free with
 |true =>
  rw[Xq rfl];apply ig<|jd ?_;apply ig<|i7 z0 R (x:=.ref ro) R ?_;apply ig<|iL z0 (by simp) λd hza p=>?_;replace hza:IsZipF d z ti ro .ellipsis g1:=hza;let p:=s0.trans p;apply ig ?_;simp only[y4h,List.zipIdx_nil,y2e,y39];apply ig<|ig (jO ?_);change wpAny _ _ (Builtin.SmallTypes.nextOf (.ref j1)>>=_) _ _ _;apply ig<|zic (Z.j1.ext p.extBut D.i1z) (L.ext p.extBut D.l1z) O λU u g=>ii ?_;let rob:jN U ro a b:=g.extBut _ _ D.TOi1<|p.extBut _ _ D.TOz hro;apply ig<|iE rob R ?_;apply ig<|wpAny_updateSeq_pair rob λC roc du=>?_;replace roc:jN C ro x b:=roc;apply ig<|lg (ii ?_);apply ig<|ig (jO ?_);change wpAny _ _ (Builtin.SmallTypes.nextOf (.ref j2)>>=_) _ _ _;apply ig<|zic (((Z.j2.ext p.extBut D.i2z).ext g.extBut D.i12.symm).ext du.extBut D.TOi2.symm) (((r.ext p.extBut D.l2z).ext g.extBut D.l2i1).ext du.extBut D.l2TO) hy λhd I M=>ii ?_;let rod:jN hd ro x b:=M.extBut _ _ D.TOi2 roc;apply ig<|iE rod R ?_;apply ig<|wpAny_updateSeq_pair rod λf roe kx=>?_;replace roe:jN f ro x y:=roe;apply ig<|lg (ii<|ii ?_);apply ig<|iE roe R ?_;apply ig<|jE ?_;let sz:f.objs.size=s.heap.objs.size:=by rw[kx.1,M.1,du.1,g.1,p.1]
  let ze:IsZipF f z ti ro .ellipsis g1:=kx.extBut _ _ D.TOz.symm<|M.extBut _ _ D.i2z.symm (du.extBut _ _ D.TOz.symm<|g.extBut _ _ D.i1z.symm hza);let ke:∀c o,c≠z/\c≠ro/\c≠j1/\c≠j2->s.heap.get? c=G o->f.get? c=G o:=λc o ⟨Y,c2,c3,c4⟩ e =>
   kx.extBut _ _ c2 (M.extBut _ _ c4<|du.extBut _ _ c2 (g.extBut _ _ c3<|p.extBut _ _ Y e))
  let zlt:z<f.objs.size:=y0e ze;change wpAny _ _ (Builtin.SmallTypes.ownedTupleHandOut (.ref z) (.ref f.objs.size)>>=_) _ _ _;apply ig ?_;unfold Builtin.SmallTypes.ownedTupleHandOut;apply ig<|iL (y03 _ ze) (by simp) λhg zg hsg=>?_;replace zg:IsZipF hg z ti ro (iB f.objs.size) g1:=zg;apply iL zg (by simp) λhk zk hsk=>?_;let up:∀c o,c≠z->f.get? c=G o->hk.get? c=G o:=λc o Y e=>hsk.extBut _ _ Y<|hsg.extBut _ _ Y (y03 _ e);let tk:jN hk f.objs.size x y:=hsk.extBut _ _ (y2a zlt)<|hsg.extBut _ _ (y2a zlt) (y0f _ R);let ky:hk.objs.size=f.objs.size+1:=by rw[hsk.1,hsg.1,y1a]
  rw[sz]at tk ky;apply ii ⟨_,R,?_⟩;change Q (.ref f.objs.size) _;rw[sz];show q hk ⟨⟨_,_,zk,.inr ⟨_,R⟩⟩,up _ _ D.TIz<|ke _ _ ⟨D.TIz,D.TITO,D.TIi1,D.TIi2⟩ Z.ti,⟨_,_,up _ _ D.TOz roe⟩,(((u.ext du.extBut D.TOi1.symm).ext M.extBut D.i12).ext kx.extBut D.TOi1.symm).at λo e=>up _ o D.i1z e,(I.ext kx.extBut D.TOi2.symm).at λo e=>up _ o D.i2z e⟩ tk ky
   λc o n e=>up c o (off n).1<|ke c o (off n) e
 |false =>
  rw[Xp y0g];apply ig ?_;rw[←Array.forIn_toList];simp only[y2e,y39];apply ig<|ig (iu ?_);change wpAny _ _ (Builtin.SmallTypes.nextOf (.ref j1)>>=_) _ _ _;apply ig<|zic (Z.j1.ext s0.extBut D.i1z) (L.ext s0.extBut D.l1z) O λU u g=>ii ?_;apply ii ?_;apply ig<|ig (iu ?_);change wpAny _ _ (Builtin.SmallTypes.nextOf (.ref j2)>>=_) _ _ _;apply ig<|zic ((Z.j2.ext s0.extBut D.i2z).ext g.extBut D.i12.symm) ((r.ext s0.extBut D.l2z).ext g.extBut D.l2i1) hy λhd I M=>ii ?_;apply ii<|ii ?_;apply ig<|jE ?_ (show(2:Nat)<=io by decide);let sz:hd.objs.size=s.heap.objs.size:=by rw[M.1,g.1,s0.1]
  let tk:jN (hd.push {cls:=.type "tuple",data:=.seq #[x,y]}) hd.objs.size x y:=y0f _ rfl;let ky:(hd.push {cls:=.type "tuple",data:=.seq #[x,y]}).objs.size=hd.objs.size+1:=y1a ..;rw[sz]at tk ky;apply ii ⟨_,R,?_⟩;change Q (.ref hd.objs.size) _;rw[sz];let ke:∀c o,c≠z/\c≠j1/\c≠j2->s.heap.get? c=G o->(hd.push {cls:=.type "tuple",data:=.seq #[x,y]}).get? c=G o:=λc o n e =>
   y03 _ (M.extBut _ _ n.2.2<|g.extBut _ _ n.2.1 (s0.extBut _ _ n.1 e))
  show q _ ⟨⟨_,_,y03 _<|M.extBut _ _ D.i2z.symm (g.extBut _ _ D.i1z.symm z0),T⟩,ke _ _ ⟨D.TIz,D.TIi1,D.TIi2⟩ Z.ti,⟨_,_,ke _ _ ⟨D.TOz,D.TOi1,D.TOi2⟩ hro⟩,(u.ext M.extBut D.i12).at λo e=>y03 _ e,I.at λo e=>y03 _ e⟩ tk ky
   λc o n e=>ke c o ⟨(off n).1,(off n).2.2⟩ e
theorem zyl(M:A.handled=B)(D:jD z ti ro j1 j2 t1 t2)(Z:ZipG l1 l2 s.heap z ti ro j1 j2 t1 t2 i)(L:IsSq s.heap l1 t1 its1)(O:its1[i]?=B)
  (q:∀h' e,(∀c o,c∉[z,ti,ro,j1,j2]->s.heap.get? c=G o->h'.get? c=G o)->(∃o,h'.get? e=G o/\o.cls=.type "StopIteration")->E (.ref e) {s with heap:=h'}):wpAny (model P w) A (Builtin.«zip.__next__» ⟨[.ref z],[]⟩) Q E s:=by
 let(J,f1,H,T):=Z.z;change wpAny _ _ (field (.ref z) 2>>=_) _ _ _;apply ig<|i7 H R (x:=.bool Fa) R ?_;change wpAny _ _ (field (.ref z) 3>>=_) _ _ _;apply ig<|i7 H R (x:=.ref ti) R ?_;apply ig<|iE Z.ti R ?_;change wpAny _ _ (Builtin.SmallTypes.ownedTupleIsFree (.ref z)>>=_) _ _ _;apply ig<|zha H T λfree h0 g1 I y=>?_;cases free with
 |true =>
  rw[Xq rfl];apply ig<|jd ?_;apply ig<|i7 I R (x:=.ref ro) R ?_;apply ig<|iL I (by simp) λd r p=>?_;replace r:IsZipF d z ti ro .ellipsis g1:=r;let p:=y.trans p;apply ig ?_;simp only[y4h,List.zipIdx_nil,y2e,y39];apply ig<|ig (jO ?_);change wpAny _ _ (Builtin.SmallTypes.nextOf (.ref j1)>>=_) _ _ _;apply ig<|zv4 M (Z.j1.ext p.extBut D.i1z) (L.ext p.extBut D.l1z) O λU e g ⟨v,Y,u⟩=>?_;let zb:IsZipF U z ti ro .ellipsis g1:=g _ _ D.i1z.symm r;let nez:e≠z:=λz'=>by
   subst z';rw[zb]at Y;cases Y;simp at u
  apply iL zb (by simp) λC _ f=>?_;show q _ _ (λc o n x=>f.extBut _ _ (λe=>n<|by simp[e])<|g _ _ (λe=>n<|by simp[e]) (p.extBut _ _ (λe=>n<|by simp[e]) x)) ⟨v,f.extBut _ _ nez Y,u⟩
 |false =>
  rw[Xp y0g];apply ig ?_;rw[←Array.forIn_toList];simp only[y2e,y39];apply ig<|ig (iu ?_);change wpAny _ _ (Builtin.SmallTypes.nextOf (.ref j1)>>=_) _ _ _;apply ig<|zv4 M (Z.j1.ext y.extBut D.i1z) (L.ext y.extBut D.l1z) O λU e g ex=>?_;show q _ _ (λc o n x=>g _ _ (λe=>n<|by simp[e])<|y.extBut _ _ (λe=>n<|by simp[e]) x) ex
theorem zpe(D:jD z ti ro j1 j2 t1 t2)(Z:ZipG l1 l2 s.heap z ti ro j1 j2 t1 t2 i)(L:IsSq s.heap l1 t1 its1)(r:IsSq s.heap l2 t2 its2)(O:its1[i]?=G x)(C:its2[i]?=G y)
  (q:∀h',ZipG l1 l2 h' z ti ro j1 j2 t1 t2 (i+1)->jN h' s.heap.objs.size x y->h'.objs.size=s.heap.objs.size+1->(∀c o,c∉[z,ti,ro,j1,j2]->s.heap.get? c=G o->h'.get? c=G o)->
   Q (G<|.ref s.heap.objs.size) {s with heap:=h'}):wpAny (model P w) A (jy<|.ref z) Q E s:=by
 let p:s.TypeIs (.ref z) "zip":=let⟨_,_,H,_⟩:=Z.z;⟨_,H,R⟩;unfold jy;show ig<|jx (i9 (name:=Str.ofString "__next__") p F.slot_zip_next<|i8 F.slot_zip_next p F.entry_zip_next (zwl D Z L r O C λh' a b c d=>ii<|q h' a b c d) (F.args_zip_next_1 _))
theorem zvq(M:A.handled=B)(D:jD z ti ro j1 j2 t1 t2)(Z:ZipG l1 l2 s.heap z ti ro j1 j2 t1 t2 i)(L:IsSq s.heap l1 t1 its1)(O:its1[i]?=B)
  (q:∀h',(∀c o,c∉[z,ti,ro,j1,j2]->s.heap.get? c=G o->h'.get? c=G o)->Q B {s with heap:=h'}):wpAny (model P w) A (jy<|.ref z) Q E s:=by
 let p:s.TypeIs (.ref z) "zip":=let⟨_,_,H,_⟩:=Z.z;⟨_,H,R⟩;unfold jy;apply ig<|jx (i9 (name:=Str.ofString "__next__") p F.slot_zip_next<|i8 F.slot_zip_next p F.entry_zip_next (zyl M D Z L O λh' e k ⟨v,Y,u⟩=>?_) (F.args_zip_next_1 _));show ig<|jS (T:="StopIteration") (b:=N) ⟨v,Y,u⟩ isSubtype_stop (ii<|q _ k)
theorem go_zip(Z:ZipG l1 l2 s.heap z ti ro j1 j2 t1 t2 i)(D:jD z ti ro j1 j2 t1 t2)
  (q:∀h',ZipG l1 l2 h' z ti ro j1 j2 t1 t2 i->Heap.SameBut z s.heap h'->Q () {s with heap:=h'}):wpAny (model P w) A (iT (.Tuple U L pos) (.ref z)<|.ref T) Q E s:=by
 let(J,f1,H,c):=Z.z;unfold iT;apply ig<|lw H ?_;change wpAny _ _ (if _=N then _ else _) Q E s;split
 .refine ig<|jd ?_;change wpAny _ _ (setField (.ref z) 0 .none) Q E s;show iL H (by simp) λh' p M=>q h' ⟨⟨_,_,p,.inl R⟩,M.extBut _ _ D.TIz Z.ti,let⟨u,v,e⟩:=Z.ro;⟨u,v,M.extBut _ _ D.TOz e⟩,Z.j1.ext M.extBut D.i1z,Z.j2.ext M.extBut D.i2z⟩ M
 .exact ii<|q _ Z (Heap.SameBut.refl _ _)
theorem znd(Z:ZipG l1 l2 s.heap z ti ro j1 j2 t1 t2 i)(h:Q (.ref z) s):wpAny (model P w) A (jX<|.ref z) Q E s:=by
 let p:s.TypeIs (.ref z) "zip":=let⟨_,_,H,_⟩:=Z.z;⟨_,H,R⟩;apply jK p F.slot_zip_iter<|i8 F.slot_zip_iter p F.entry_zip_iter ?_ (F.args_zip_iter_1 _);change wpAny _ _ (ret<|.ref z) _ _ s;show ii ⟨_,R,"zip",_,p,F.slot_zip_next.lookup,h⟩
end
abbrev zt1(l:Bool)(h:Heap)(a:Ad):Heap:=h.push {cls:=.type<|itn l,data:=.fields #[.ref a,.int 0 0]}
abbrev zt3(l1 l2:Bool)(h:Heap)(a b:Ad):Heap:=(zt1 l2 (zt1 l1 h a) b).push {cls:=.type "tuple",data:=.seq #[.ref h.objs.size,.ref (zt1 l1 h a).objs.size]}
abbrev zt4(l1 l2:Bool)(h:Heap)(a b:Ad):Heap:=(zt3 l1 l2 h a b).push {cls:=.type "tuple",data:=.seq #[.none,.none]}
abbrev zt5(l1 l2:Bool)(h:Heap)(a b:Ad):Heap:=(zt4 l1 l2 h a b).push {cls:=.type "zip",data:=.fields #[.none,.bool Fa,.bool Fa,.ref (zt1 l2 (zt1 l1 h a) b).objs.size,.ref (zt3 l1 l2 h a b).objs.size]}
theorem zyk(l1 l2:Bool)(a b:Ad)(xs ys:Array Va):Meets (Builtin.«zip.__new__» ⟨[.type "zip",.ref a,.ref b],[]⟩) (λ_ Rq s=>IsSq s.heap l1 a xs/\IsSq s.heap l2 b ys/\Rq (.ok<|.ret (.ref (zt4 l1 l2 s.heap a b).objs.size)) {s with heap:=zt5 l1 l2 s.heap a b}) :=
 .of_wp λprog w A Rq s h=>by
  let(hp,g,d,tk,os):=s;let(ha,hb,h):=h;let hsub:=sub_zip;let hA:IsSq (Shared.heap ⟨hp,g,d,tk,os⟩) l1 a xs:=ha;let hB:IsSq (Shared.heap ⟨hp.push {cls:=.type<|itn l1,data:=.fields #[.ref a,.int 0 0]},g,d,tk,os⟩) l2 b ys:=hb.at λo e=>y03 _ e
  wp_walk using it_sq hA,it_sq hB
  show⟨_,R,h⟩
theorem zpd(d:IsSq s.heap l1 a xs)(U:IsSq s.heap l2 b ys)
  (q:∀h',IsZip h' (s.heap.objs.size+4) (s.heap.objs.size+2) (s.heap.objs.size+3) .none->ZipG l1 l2 h' (s.heap.objs.size+4) (s.heap.objs.size+2) (s.heap.objs.size+3) s.heap.objs.size (s.heap.objs.size+1) a b 0->h'.objs.size=s.heap.objs.size+5->(∀c o,s.heap.get? c=G o->h'.get? c=G o)->Q (.ref<|s.heap.objs.size+4) {s with heap:=h'}) :
  wpAny (model P w) A (call (.type "zip") [.ref a,.ref b]) Q E s:=by
 apply callType_new F.called_zip 04 (F.typeCall_zip_2 _ _) (F.newCall_zip_2 _ _) (λobj=>F.args_object_init_3 obj _ _) F.entry_zip_new (zyk l1 l2 a b xs ys) ⟨d,U,?_⟩;let s1:(zt1 l1 s.heap a).objs.size=s.heap.objs.size+1:=y1a ..;let s2:(zt1 l2 (zt1 l1 s.heap a) b).objs.size=s.heap.objs.size+2:=by rw[y1a,s1]
 let i:(zt3 l1 l2 s.heap a b).objs.size=s.heap.objs.size+3:=by rw[y1a,s2]
 let L:(zt4 l1 l2 s.heap a b).objs.size=s.heap.objs.size+4:=by rw[y1a,i]
 let s5:(zt5 l1 l2 s.heap a b).objs.size=s.heap.objs.size+5:=by rw[y1a,L]
 let k5:(zt5 l1 l2 s.heap a b).get? (zt4 l1 l2 s.heap a b).objs.size=G _:=y0f _ rfl;let up:∀c o,(zt3 l1 l2 s.heap a b).get? c=G o->(zt5 l1 l2 s.heap a b).get? c=G o:=λc o e=>y03 _<|y03 _ e;let f:(zt5 l1 l2 s.heap a b).get? (zt3 l1 l2 s.heap a b).objs.size=G _:=y03 _<|y0f _ R;let k3:=up _ _<|y0f _ R;let k2:=up (zt1 l1 s.heap a).objs.size _<|y03 _ (y0f _ R);let k1:=up s.heap.objs.size _<|y03 _ (y03 _<|y0f _ R);rw[s2,i,L]at k5;rw[s1,s2]at k3;rw[i]at f;rw[s1]at k2;change _/\_;rw[L];show⟨⟨_,k5,R⟩,q _ k5 ⟨⟨_,_,k5,.inl R⟩,k3,⟨_,_,f⟩,⟨_,k1,R,R⟩,⟨_,k2,R,R⟩⟩ s5 λc o x=>up _ _<|y03 _ (y03 _<|y03 _ x)⟩
section
variable {X:Cx}{pins:Y2}{σ:St}{H:Hp}{s:ik}{h':Heap}
theorem Inv.turnedL{t':Nat}{L:List Ad}(I:02 H s)(k:∀b o,b∉L->s.heap.get? b=G o->h'.get? b=G o)(A:∀b∈L,FpOk X pins H b):02 H {s with heap:=h',toks:=t'}:=by
 let Y:∀b u,H b=G u->b∉L:=λb u e z=>by rw[(A b z).1]at e;cases e
 apply I.step (g':=s.gens) (d':=s.drawn) (ch:=L) (λb U=>?_) (λb o _ _ C e _=>k b o C e) (λb o _ _ C e _=>⟨o.slots,k b o C e⟩) (λ_ _ _ _ n=>n)
  (λb o C e=>⟨o,k b o C e⟩) (λ_ _ e=>e) (λ_ _ _ e=>e) (λ_ _ _ e=>e) (λm J=>?_) (λb u e=>?_) I.bare
 .let(_,f1,_,a,Q,d):=A b U;show⟨a,f1,Q,d⟩
 .let(o,l,ep,j,r):=J;show⟨o,l,ep,k _ o (λz=>(A _ z).2.1 R) j,r⟩
 .refine(I.hok b u e).stay (λc v C q=>k c v ?_ q) (λ_ q=>q) (λ_ _ _ _ _ q=>q) λ_ _ q=>q;rcases C with z|z
  .rw[z];show Y b u e
  .exact Y c _ z
theorem Inv.turnedNew{t':Nat}{L:List Ad}{p:Ad}{o:HO}(I:02 H s)(k:∀b u,b∉L->s.heap.get? b=G u->h'.get? b=G u)(A:∀b∈L,FpOk X pins H b)(y:s.heap.objs.size<=p)(new:ObjOk X.prog X.w (upd H p o) h' p o)
  (hl:∀b∈L,∃u,h'.get? b=G u):02 (upd H p o) {s with heap:=h',toks:=t'}:=by
 let g:H p=B:=I.hok.fresh y;let Y:∀b u,H b=G u->b∉L:=λb u e z=>by rw[(A b z).1]at e;cases e
 let ne:∀b u,H b=G u->upd H p o b=G u:=λb u e=>by rw[zak<|zas e g];show e
 apply I.step (g':=s.gens) (d':=s.drawn) (ch:=L) (λb U=>?_) (λb u _ _ C e _=>k b u C e) (λb u _ _ C e _=>⟨u.slots,k b u C e⟩) (λb u _ e z=>?_)
  (λb u C e=>⟨u,k b u C e⟩) (λb xs e=>ne b _ e) (λb ob u e=>ne b _ e) (λb _ _ e=>ne b _ e) (λm J=>?_) (λb u e=>?_) I.bare
 .let(_,f1,_,a,Q,d):=A b U;show⟨a,f1,Q,d⟩
 .rw[zak<|y0o (y0p (y0e e) y)];show z
 .let(ob,l,ep,j,r):=J;show⟨ob,l,ep,k _ ob (λz=>(A _ z).2.1 R) j,r⟩
 .by_cases U:b=p
  .subst U;rw[zar]at e;cases e;show new
  .rw[zak U]at e;apply(I.hok b u e).stay (λc v C q=>k c v ?_ q) (λc q=>ne c _ q) (λc _ _ _ _ q=>ne c _ q) λc xs q=>ne c _ q;rcases C with z|z
   .rw[z];show Y b u e
   .exact Y c _ z
end
section
variable {X:Cx}{pins:Y2}{σ:St}{H H':Hp}{s:ik}{l:Bool}{a:Ad}{xs ys:List V}
theorem Inv.sq(I:02 H s)(h:SqB X.K l H a xs):∃its:List Va,Vals xs its/\IsSq s.heap l a its.toArray:=by
 cases l
 .exact let⟨its,r,p,_⟩:=I.tuple h;⟨its,r,p⟩
 .exact let⟨its,r,p,_⟩:=I.list h;⟨its,r,p.isList⟩
theorem Inv.sq_inj(I:02 H s)(h:SqB X.K l H a xs)(h':SqB X.K l H a ys):xs=ys:=by
 cases l
 .exact I.tuple_inj h h'
 .exact I.list_inj h h'
theorem zle(C:c∈[n+4,n+2,n+3,n,n+1]):n<=c:=by
 simp only[y06,y0h,or_false]at C;omega
theorem star2{a b:Expr}{env:Env}(Y:notStar a=N)(M:notStar b=N):iq [a,b] env=[(Fa,eval a env),(Fa,eval b env)]:=by rw[zat Y,zat M,starEach.eq_def]
end
noncomputable def ItB(K:Frag)(l1 l2:Bool)(a b:Ad):It :=
 ⟨λi H=>∃xs ys x y,SqB K l1 H a xs/\SqB K l2 H b ys/\xs[i]?=G x/\ys[i]?=G y,
  λi H v H'=>∃p x y,v=.ref p/\New H p (.tup [x,y]) H'/\(∀xs,SqB K l1 H a xs->xs[i]?=G x)/\∀ys,SqB K l2 H b ys->ys[i]?=G y,
  λi H=>∃xs ys,SqB K l1 H a xs/\SqB K l2 H b ys/\xs.length<=i⟩
theorem zte{P:im}{w:World}{K:Frag}{l1 l2:Bool}{U:List Expr}{x1}{Q:Pos}(z ti ro j1 j2 a b:Ad)(D:jD z ti ro j1 j2 a b):
  Turn P w K (.Tuple U x1 Q) (ItB K l1 l2 a b) [z,ti,ro,j1,j2] z (λi h=>ZipG l1 l2 h z ti ro j1 j2 a b i) where
 mem:=by simp
 obj:=λi h st=>st.there
 keep:=λi h h' st k=>st.move k
 item:=by
  intro X g j hK C i pins s σ H E I T st hg;subst g j hK;let(xs,ys,x,y,O,hy,ex,J):=hg;let(d,r1,L):=I.sq O;let(bf,l,r):=I.sq hy;let(u,hu,ru):=r1.get ex;let(v,hv,rv):=l.get J;apply zpe D st L r (x:=u) (y:=v) (by simpa using hu) (by simpa using hv) λY Z1 q1 p k1=>⟨_,R,?_⟩;apply go_zip Z1 D λM st2 A=>?_;let f:∀c∈[z,ti,ro,j1,j2],c≠s.heap.objs.size:=λc C=>y0o<|st.lt C;let I2:02 (upd H s.heap.objs.size<|.tup [x,y]) {s with heap:=M,toks:=s.toks}:=I.turnedNew (λc o C e=>A.extBut _ _ (λq=>C<|by simp[q])<|k1 c o C e) T (y04 _)
   ⟨zah (by simp),[u,v],.cons ru<|.cons rv .nil,⟨_,A.extBut _ _ (Ne.symm<|f z (by simp)) q1,R,_,R⟩⟩ λc C=>let⟨o,e,_⟩:=st2.there c C;⟨o,e⟩
  apply⟨.ref s.heap.objs.size,_,I2,R,⟨_,x,y,R,.mk' I.fresh _,λws j=>by rw[I.sq_inj j O];show ex,λws j=>by rw[I.sq_inj j hy];show J⟩,st2,λc C=>?_⟩;rw[zak<|f c C];show(T c C).1
 done:=by
  intro X g j hK C i pins s σ H E I T st hg;subst g j hK;let(xs,ys,O,hy,hl):=hg;let(d,r1,L):=I.sq O;show zvq (I.ok.hd C) D st L (by simpa[←r1.length]using hl) λh' k=>⟨R,I.turnedL (t':=s.toks) k T⟩
 self:=λ_ _ _ _ _ st h=>znd st h
def iZB(K:Frag)(l1 l2:Bool)(A:TA):TI:=λσ H Rq=>A σ H λvs H1=>∃a b,vs=[.ref a,.ref b]/\(∃xs,SqB K l1 H1 a xs)/\(∃ys,SqB K l2 H1 b ys)/\Rq (ItB K l1 l2 a b) H1
theorem zqg{X:Cx}{l1 l2:Bool}{U:List Expr}{g}{Q:Pos}{a b:Expr}{A:TA}{p pos:Pos}(y:Gl X "zip")(J:X.mg "zip"=B)(d:PA X [a,b] A)(Y:notStar a=N)(M:notStar b=N):PI X (.Tuple U g Q) (.Call (.Name "zip" p) [a,b] [] pos) (iZB X.K l1 l2 A):=by
 intro pins s σ H Rq I h;let x:iq [b] X.env=[(Fa,eval b X.env)]:=by rw[zat M,starEach.eq_def]
 apply Call_<|zd1 I y J boot_zip (PyProof.Rows.callWith_type1 (thn (d pos pins s σ H _ I h) λus s1 zz=>ex5 zz λvs H1 I1 r1 w=>?_) (by rw[star2 Y M,x])<|by rw[x];rfl);let(L,r,e,(xs,O),(ys,l),q):=w;subst e;let(u,v,rfl,D,T):=vals2 r1;cases(show u=Va.ref L from D);cases(show v=Va.ref r from T);let(o,_,j):=I1.sq O;let(f,_,i):=I1.sq l;apply zpd j i λh' _ Z sz k=>znd Z ?_;show⟨_,[s1.heap.objs.size+4,s1.heap.objs.size+2,s1.heap.objs.size+3,s1.heap.objs.size,s1.heap.objs.size+1],_,_,H1,R,I1.kept (t':=s1.toks) k,zte _ _ _ _ _ L r<|zipApart_new j.lt i.lt,Z,λc C=>I1.fpOk (zle C)<|I1.hok.fresh (zle C),q⟩
noncomputable def Itz(K:Frag)(a b:Ad):It :=
 ⟨λi H=>∃xs ys x y,SqT K H a xs/\SqT K H b ys/\xs[i]?=G x/\ys[i]?=G y,
  λi H v H'=>∃p x y,v=.ref p/\New H p (.tup [x,y]) H'/\(∀xs,SqT K H a xs->xs[i]?=G x)/\∀ys,SqT K H b ys->ys[i]?=G y,
  λi H=>∃xs ys,SqT K H a xs/\SqT K H b ys/\xs.length<=i⟩
def iZip(K:Frag)(A:TA):TI:=λσ H Rq=>A σ H λvs H1=>∃a b,vs=[.ref a,.ref b]/\(∃xs,SqT K H1 a xs)/\(∃ys,SqT K H1 b ys)/\Rq (Itz K a b) H1
theorem zy5{X:Cx}{U:List Expr}{L}{Q:Pos}{a b:Expr}{A:TA}{p pos:Pos}(y:Gl X "zip")(J:X.mg "zip"=B)(d:PA X [a,b] A)(Y:notStar a=N:=by rfl)(M:notStar b=N:=by rfl):PI X (.Tuple U L Q) (.Call (.Name "zip" p) [a,b] [] pos) (iZip X.K A):=zqg (l1:=Fa) (l2:=Fa) y J d Y M
theorem zxd{X:Cx}(K:Frag){U:List Expr}{L}{Q:Pos}{a b:Expr}{A:TA}{p pos:Pos}(y:Gl X "zip")(J:X.mg "zip"=B)(d:PA X [a,b] A)(h:X.K=K:=by rfl)(Y:notStar a=N:=by rfl)(M:notStar b=N:=by rfl):
  PI X (.Tuple U L Q) (.Call (.Name "zip" p) [a,b] [] pos) (iZip K A):=h▸zy5 y J d Y M
theorem zdn{X:Cx}(K:Frag){l:List Expr}{k:Nat}{t:TGs}{n:Nat}{pos:Pos}(C:X.calm=N)(h:PGs X l t)(f:X.K=K:=by rfl)
  (I:(jv l X.env).length=n:=by rfl) (E:(jv l X.env).findIdx? (·.1)=B:=by rfl):PG X (.Tuple l k pos) (gTup K n t):=f▸zy8 C h I E
section
variable {tn:List Str}{cp:Y6}{g:TG}{tif:TT}{te:TE}{σ0:St}{Q:VK}{H1:Hp}{K:Frag}{a b:Ad}{xs ys:List V}
theorem cz_map(S:St->Prop)(f:Nat->V)(I:xs.length<=1000)(hl:xs.length=ys.length)(A:SqT K H1 a xs)(U:SqT K H1 b ys)(E:S<|stB tn cp σ0)
  (hs:∀D i σ H H' p x y,xs[i]?=G x->ys[i]?=G y->Same H1 H->H1 D=B->H D=G (.lst<|(List.range i).map f)->S σ->New H p (.tup [x,y]) H'->g (.ref p) σ H' λd H2=>tif d H2 λc H3 =>
   if c=N then te d H3 λv H4=>CStep D xs.length i (λi l σ H=>Same H1 H/\S σ/\l=(List.range i).map f) d v H4 else CSkip D xs.length i (λi l σ H=>Same H1 H/\S σ/\l=(List.range i).map f) d H3)
  (hd:∀D H,H1 D=B->Same H1 H->H D=G (.lst<|(List.range xs.length).map f)->Q (.ref D) H):cBody tn cp g tif te σ0 Q (Itz K a b) H1:=by
 apply zvp xs.length (λD i l σ H=>Same H1 H/\S σ/\l=(List.range i).map f) (zah I) (λD u=>⟨za4 u _,E,R⟩) (λD i l σ H u hi o p=>⟨xs,ys,xs[i],ys[i],p.1.seqT A,p.1.seqT U,by simp[hi],by simp[hl▸hi]⟩)
  (λD l σ H u o p=>⟨xs,ys,p.1.seqT A,p.1.seqT U,y04 _⟩) ?_ ?_
 .rintro D i l σ H v H' u hi o e ⟨L,r,rfl⟩ ⟨p,x,y,rfl,j,ex,J⟩;show hs D i σ H H' p x y (ex _<|L.seqT A) (J _<|L.seqT U) L u o r j
 .rintro D l σ H u o e ⟨L,r,rfl⟩;show hd D H u L o
theorem zl4{S:St->Prop}{f:Nat->V}{D:Ad}{i:Nat}{v:V}{d:St}{H4:Hp}(I:xs.length<=1000)(hi:i<xs.length)(u:H1 D=B)(h4:H4 D=G (.lst<|(List.range i).map f))(U:Same H1 H4)(s2:S d)(e:v=f i):
  CStep D xs.length i (λi l σ H=>Same H1 H/\S σ/\l=(List.range i).map f) d v H4:=by
 apply cstep (zah I) hi h4 (by rw[y01,y16];show y04 _) ⟨U.wr u _,s2,?_⟩;rw[y3x,y13,e];rfl
end
def DctK(K:Frag)(w:World)(a:Ad)(f:Str->Option V):Prop:=(a==iJ)=Fa/\∃(l:Array DictEntry) (n:Nat),K.lookup a=G ⟨.type "dict",B,.dict l n,#[]⟩/\PySem.W.KeysLit w.params l.toList/\∀x,RelO (f x)<|lz Va.isStrOf l x
section
variable {X:Cx}(K:Frag)(w:World)
def rInD(neg:Bool):R2:=λx y H Q=>∃z a f,x=.str z/\y=.ref a/\DctK K w a f/\Q (.bl<|if neg then !(f z).isSome else(f z).isSome) H
theorem zjr(g:X.K=K:=by rfl)(j:X.w=w:=by rfl):OpR X (iw .NotIn) (rInD K w N):=by
 subst g j;infer_instance;let(z,a,f,rfl,rfl,(lo,l,n,hl,D,L),q):=h;let(t,rfl):=rx;cases(show u=Va.ref a from ry);apply wpAny_notIn_of (strKind_is X.prog X.w z t) lo (PySem.W.mapOf_K (prog:=X.prog) I.kIn hl D) ?_;rw[←(L z).isSome_eq];show⟨.bl _,H,I.tok _,R,q⟩
def rIxD:R2:=λx y H Q=>∃a z f v,x=.ref a/\y=.str z/\DctK K w a f/\f z=G v/\Q v H
theorem ix_dct(g:X.K=K:=by rfl)(j:X.w=w:=by rfl):IxR X (rIxD K w):=by
 subst g j;intro O d pins s σ H x y v u Q I rx ry h hs;let(a,z,f,r,rfl,rfl,(lo,l,n,hl,D,L),e,q):=h;cases(show v=Va.ref a from rx);let(t,rfl):=ry;let J:=PySem.W.mapOf_K (prog:=X.prog) I.kIn hl D;let(w',i,c):=RelO.some_of (v:=r) (o:=lz Va.isStrOf l z) (by rw[←e];show L z);show tail_any J.typeIs slot_dict_getitem.lookup (wpAny_getItem_of (strKind_is X.prog X.w z t) J i ⟨r,H,I.tok _,c,q⟩) hs
end
section
variable {tn:List Str}{cp:Y6}{g:TG}{tif:TT}{te:TE}{σ0:St}{Q:VK}{H1:Hp}{K:Frag}{a:Ad}{xs:List V}
theorem zl7(S:St->Prop)(f:Nat->V)(I:xs.length<=1000)(j:SqL K H1 a xs)(E:S<|stB tn cp σ0)
  (hs:∀D i σ H x,i<xs.length->xs[i]?=G x->Same H1 H->H1 D=B->H D=G (.lst<|(List.range i).map f)->S σ->g x σ H λd H2=>tif d H2 λc H3 =>
   if c=N then te d H3 λv H4=>CStep D xs.length i (λi l σ H=>Same H1 H/\S σ/\l=(List.range i).map f) d v H4 else CSkip D xs.length i (λi l σ H=>Same H1 H/\S σ/\l=(List.range i).map f) d H3)
  (hd:∀D H,H1 D=B->Same H1 H->H D=G (.lst<|(List.range xs.length).map f)->Q (.ref D) H):cBody tn cp g tif te σ0 Q (Itl K a) H1:=by
 apply ziq (K:=K) (a:=a) (xs:=xs) (λD i l σ H=>Same H1 H/\S σ/\l=(List.range i).map f) (zah I) (λD u=>⟨za4 u _,E,R⟩) (λD i ys σ H _ _ _ p=>p.1.seq j) ?_ ?_
 .rintro D i ys σ H x u hi O o hl ⟨L,r,rfl⟩;show hs D i σ H x hi O L u o r
 .rintro D ys σ H u o hl ⟨L,r,rfl⟩;show hd D H u L o
end
variable {X:Cx}
section
variable {X:Cx}{k:Nat}{H:Hp}{a b:Ad}{xs ys:List V}
theorem zye(a b:Int):eqV (.int a) (.int b)=decide (a=b):=by
 by_cases h:a=b
 .subst h;simp[eqV]
 .simp[eqV,h]
theorem zs9:∀(xs ys:List Int),(xs.length==ys.length&&(List.range xs.length).all λj=>eqV ((xs.map V.int).getD j .non)<|(ys.map V.int).getD j .non)=decide (xs=ys)
 |[],[]=>rfl
 |[],y::ys=>by simp
 |x::xs,[]=>by simp
 |x::xs,y::ys=>by
  let E:=zs9 xs ys;let e:(List.range (x::xs).length).all (λj=>eqV (((x::xs).map V.int).getD j .non)<|((y::ys).map V.int).getD j .non) =
    (decide (x=y)&&(List.range xs.length).all λj=>eqV ((xs.map V.int).getD j .non)<|(ys.map V.int).getD j .non):=by
   rw[y0s,y2k,y2b,y3m];show congrArg (· && _)<|zye x y
  rw[e];let g:((x::xs).length==(y::ys).length)=(xs.length==ys.length):=by simp
  rw[g];by_cases O:x=y
  .subst O;rw[Xg R,y1d,E];simp
  .rw[Xf O,y1q,y3a];simp[O]
theorem zj7(xs:List Int):(xs.map V.int).all flatV=N:=by
 rw[y11];intro x O;let(z,_,rfl):=y0j.mp O;rfl
def rEqI(K:Frag):R2:=λx y H Q=>∃(a b:Ad) (xs ys:List Int),x=.ref a/\y=.ref b/\SqL K H a (xs.map V.int)/\SqL K H b (ys.map V.int)/\Q (.bl<|decide (xs=ys)) H
def rNeI(K:Frag):R2:=λx y H Q=>∃(a b:Ad) (xs ys:List Int),x=.ref a/\y=.ref b/\SqL K H a (xs.map V.int)/\SqL K H b (ys.map V.int)/\Q (.bl<|!decide (xs=ys)) H
theorem zzf(o:X.A.units+8<cLine):OpR X (iw .NotEq) (rNeI X.K):=by
 infer_instance;let(a,b,xs,ys,rfl,rfl,Y,M,q):=h;cases(show v=Va.ref a from rx);cases(show u=Va.ref b from ry);let(us,r1,L,_):=I.list Y;let(vs,l,r,_):=I.list M;let l1:=r1.length;let l2:=l.length;let c:X.A.units<cLine:=by omega
 by_cases hl:us.length=vs.length
 .let z:=SeqAt.RcNeAt.lists (A:=X.A) (s:=s) (e:=λj=>eqV ((xs.map V.int).getD j .non)<|(ys.map V.int).getD j .non) L.isList r.isList (by rw[y08,y08];show hl) c λj Y M=>by
   rw[y08]at Y M;let(g1,w):=r1.at Y;let(U,E):=l.at M;let J:(xs.map V.int).getD j .non=(xs.map V.int)[j]:=by rw[y02,y00 g1];rfl
   let g:(ys.map V.int).getD j .non=(ys.map V.int)[j]:=by rw[y02,y00 U];rfl
   rw[J,g];apply znl (by simpa using w) (by simpa using E) ?_ ?_
   .exact y11.mp (zj7 xs) _<|y0n g1
   .exact y11.mp (zj7 ys) _<|y0n U
  let e:=zs9 xs ys;rw[y01]at l1 l2;rw[show(xs.length==ys.length)=N by simp;omega,y1d]at e;rw[y08,←l1,e]at z;show z _ _ _ _ ⟨.bl<|!decide (xs=ys),H,I,R,q⟩
 .let z:=SeqAt.RcNeAt.lists_lengths (A:=X.A) (s:=s) L.isList r.isList (by rw[y08,y08];simpa using hl) c;let e:decide (xs=ys)=Fa:=Xf λh=>by rw[h,y01]at l1;rw[y01]at l2;omega
  rw[e]at q;show z _ _ _ _ ⟨.bl N,H,I,R,q⟩
variable (K:Frag)
theorem zqs(Y:X.A.units+8<cLine)(h:X.K=K:=by rfl):OpR X (iw .NotEq) (rNeI K):=h▸zzf Y
end
section
variable {tn:List Str}{cp:Y6}{g:TG}{tif:TT}{te:TE}{σ0:St}{Q:VK}{H1:Hp}{lo:Int}{n:Nat}
def PRng(S:St->Prop)(f:Nat->V)(H1:Hp)(i:Nat)(ys:List V)(σ:St)(H:Hp):Prop:=Same H1 H/\S σ/\ys=(List.range i).map f
theorem zwi(S:St->Prop)(f:Nat->V)(I:n<=1000)(E:S<|stB tn cp σ0)
  (hs:∀D i σ H,i<n->Same H1 H->H1 D=B->H D=G (.lst<|(List.range i).map f)->S σ->g (.int<|lo+i) σ H λd H2=>tif d H2 λc H3 =>
   if c=N then te d H3 λv H4=>CStep D n i (PRng S f H1) d v H4 else CSkip D n i (PRng S f H1) d H3)
  (hd:∀D H,H1 D=B->Same H1 H->H D=G (.lst<|(List.range n).map f)->Q (.ref D) H):cBody tn cp g tif te σ0 Q (Itr lo n) H1:=by
 apply zvp n (λD=>PRng S f H1) (zah I) (λD u=>⟨za4 u _,E,R⟩) (λD i ys σ H _ hi _ _=>hi) (λD ys σ H _ _ _=>y04 _) ?_ ?_
 .rintro D i ys σ H x H' u hi o hl ⟨L,r,rfl⟩ ⟨rfl,rfl⟩;show hs D i σ _ hi L u o r
 .rintro D ys σ H u o hl ⟨L,r,rfl⟩;show hd D H u L o
theorem zsp(I:n<=1000)(hi:i<n)(u:H1 D=B)(h4:H4 D=G (.lst<|(List.range i).map f))(U:Same H1 H4)(s2:S d)(e:v=f i):CStep D n i (PRng S f H1) d v H4:=by
 subst e;apply cstep (zah I) hi h4 (by simp) ⟨U.wr u _,s2,?_⟩;rw[y3x,y13];rfl
end
def TupS(H H':Hp):Prop:=∀b xs,H b=G (.tup xs)->H' b=G (.tup xs)
theorem Same.tups(g:Same H H'):TupS H H':=λb xs e=>g b _ e
theorem TupS.refl(H:Hp):TupS H H:=λ_ _ e=>e
theorem TupS.trans(a:TupS H H1)(b:TupS H1 H2):TupS H H2:=λc xs e=>b c xs<|a c xs e
theorem TupS.wr(h:H p=G (.lst xs))(o:HO):TupS H (upd H p o):=λb ys e=>by rw[zak<|zrd e h (by intro z;cases z)];show e
theorem li_at{h h':Heap}(x:h.IsListIter j a i)(k:∀o,h.get? j=G o->h'.get? j=G o):h'.IsListIter j a i:=by
 let(o,e,r):=x;show⟨o,k o e,r⟩
theorem li_ext{h h':Heap}(x:h.IsListIter j a i)(k:Heap.ExtBut b h h')(n:j≠b):h'.IsListIter j a i:=li_at x λo e=>k j o n e
noncomputable def ItzL(K:Frag)(a b:Ad):It :=
 ⟨λi H=>∃xs ys x y,SqL K H a xs/\SqT K H b ys/\xs[i]?=G x/\ys[i]?=G y,
  λi H v H'=>∃p x y,v=.ref p/\New H p (.tup [x,y]) H'/\(∀xs,SqL K H a xs->xs[i]?=G x)/\∀ys,SqT K H b ys->ys[i]?=G y,
  λi H=>∃xs ys,SqL K H a xs/\SqT K H b ys/\xs.length<=i⟩
def iZipL(K:Frag)(A:TA):TI:=λσ H Rq=>A σ H λvs H1=>∃a b,vs=[.ref a,.ref b]/\(∃xs,SqL K H1 a xs)/\(∃ys,SqT K H1 b ys)/\Rq (ItzL K a b) H1
theorem zxc{X:Cx}{U:List Expr}{L}{Q:Pos}{a b:Expr}{A:TA}{p pos:Pos}(y:Gl X "zip")(J:X.mg "zip"=B)(d:PA X [a,b] A)(Y:notStar a=N:=by rfl)(M:notStar b=N:=by rfl):PI X (.Tuple U L Q) (.Call (.Name "zip" p) [a,b] [] pos) (iZipL X.K A):=zqg (l1:=N) (l2:=Fa) y J d Y M
theorem zt9{X:Cx}(K:Frag){U:List Expr}{L}{Q:Pos}{a b:Expr}{A:TA}{p pos:Pos}(y:Gl X "zip")(J:X.mg "zip"=B)(d:PA X [a,b] A)(h:X.K=K:=by rfl)(Y:notStar a=N:=by rfl)(M:notStar b=N:=by rfl):
  PI X (.Tuple U L Q) (.Call (.Name "zip" p) [a,b] [] pos) (iZipL K A):=h▸zxc y J d Y M
noncomputable def Ite(K:Frag)(a:Ad):It :=
 ⟨λi H=>∃xs x,SqL K H a xs/\xs[i]?=G x,λi H v H'=>∃p x,v=.ref p/\New H p (.tup [.int (i:Int),x]) H'/\∀xs,SqL K H a xs->xs[i]?=G x,λi H=>∃xs,SqL K H a xs/\xs.length<=i⟩
theorem zpn{P:im}{w:World}{K:Frag}{U:List Expr}{L}{Q:Pos}(e it a:Ad)(l:e≠it):
  Turn P w K (.Tuple U L Q) (Ite K a) [e,it] e (λi h=>(∃old,IsEnum h e it (i:Int) old)/\h.IsListIter it a i) where
 mem:=by simp
 obj:=λi h st c C=>by
  let((old,d),D,J,c1,p):=st;simp only[y06,y0h,or_false]at C;rcases C with rfl|rfl
  .exact⟨_,d,λv q=>nomatch q⟩
  .exact⟨_,J,λv q=>by rw[p]at q;cases q⟩
 keep:=λi h h' st k=>⟨let⟨old,d⟩:=st.1;⟨old,k e (by simp) _ d⟩,li_at st.2 λo z=>k it (by simp) o z⟩
 item:=by
  intro X hP j hK C i pins s σ H E I T st y;subst hP j hK;let(xs,x,O,ex):=y;let(its,r,pl,_):=I.list O;let(u,hu,ru):=r.get ex;let((old,d),si):=st;apply wpAny_pyNext_enum_item d si pl.isList (x:=u) (by simpa using hu) l λY eo1 si1 q1 sz1 k1=>⟨_,R,?_⟩;apply wpAny_letOwnedTupleGo_enum eo1 λM g A=>?_;let f:∀c∈[e,it],c≠s.heap.objs.size:=λc C=>by
   simp only[y06,y0h,or_false]at C;rcases C with rfl|rfl
   .exact y0o<|y0e d
   .let(o,z,_):=si;show y0o<|y0e z
  let k2:∀c o,c∉[e,it]->s.heap.get? c=G o->M.get? c=G o:=λc o C z =>
   A.extBut _ _ (λq=>C<|by simp[q]) (k1 c o (λq=>C<|by simp[q]) (λq=>C<|by simp[q]) z)
  let kz:=A.extBut _ _ (Ne.symm<|f e (by simp)) q1;let si2:M.IsListIter it a (i+1):=li_ext si1 A.extBut<|Ne.symm l;let am:IsEnum M e it ((i+1:Nat):Int) u:=by rw[show((i+1:Nat):Int)=(i:Int)+1 by omega];show g
  let there:∀c∈[e,it],∃o,M.get? c=G o:=λc C=>by
   simp only[y06,y0h,or_false]at C;rcases C with rfl|rfl
   .exact⟨_,g⟩
   .let(o,z,_):=si2;show⟨o,z⟩
  let I2:02 (upd H s.heap.objs.size<|.tup [.int (i:Int),x]) {s with heap:=M,toks:=s.toks+1}:=I.turnedNew k2 T (y04 _) ⟨zah (by simp),[.int i s.toks,u],.cons ⟨_,R⟩<|.cons ru .nil,⟨_,kz,R,_,R⟩⟩ there;apply⟨.ref s.heap.objs.size,_,I2,R,⟨_,x,R,.mk' I.fresh _,λws j=>by rw[I.list_inj j O];show ex⟩,⟨⟨_,am⟩,si2⟩,λc C=>?_⟩;rw[zak<|f c C];show(T c C).1
 done:=by
  intro X hP j hK C i pins s σ H E I T st y;subst hP j hK;let(xs,O,hl):=y;let(its,r,pl,_):=I.list O;let l1:=r.length;let((old,d),si):=st;show wpAny_pyNext_enum_end (I.ok.hd C) d si pl.isList (by simp;omega) λh' k=>⟨R,I.turnedL (t':=s.toks) (λc o C z=>k c o (λq=>C<|by simp[q]) z) T⟩
 self:=λ_ _ _ _ _ st h=>let⟨_,d⟩:=st.1;wpAny_pyIter_enum d h
def iEnum(K:Frag)(A:TA):TI:=λσ H Rq=>A σ H λvs H1=>∃a,vs=[.ref a]/\(∃xs,SqL K H1 a xs)/\Rq (Ite K a) H1
theorem zxf{X:Cx}{U:List Expr}{g}{Q:Pos}{a:Expr}{A:TA}{p pos:Pos}(y:Gl X "enumerate")(J:X.mg "enumerate"=B)(d:PA X [a] A)(Y:notStar a=N:=by rfl):PI X (.Tuple U g Q) (.Call (.Name "enumerate" p) [a] [] pos) (iEnum X.K A):=by
 intro pins s σ H Rq I h;let hs:iq [a] X.env=[(Fa,eval a X.env)]:=by rw[zat Y,starEach.eq_def]
 apply Call_<|zd1 I y J boot_enumerate (PyProof.Rows.callWith_type1 (thn (d pos pins s σ H _ I h) λus s1 zz=>ex5 zz λvs H1 I1 r1 w=>?_) hs R);let(L,e,(xs,O),q):=w;subst e;let(u,rfl,D):=vals1 r1;cases(show u=Va.ref L from D);let(its,_,j,_):=I1.list O;apply call_enumerate_list j.isList λh' i f sz k=>wpAny_pyIter_enum i ?_;apply⟨_,[s1.heap.objs.size+1,s1.heap.objs.size],_,_,H1,R,I1.kept (t':=s1.toks) k,zpn _ _ L<|Nat.succ_ne_self _,⟨⟨_,i⟩,f⟩,λc C=>?_,q⟩;let v:s1.heap.objs.size<=c:=by
  simp only[y06,y0h,or_false]at C;rcases C with rfl|rfl
  .exact y4g _ _
  .exact y04 _
 show I1.fpOk v<|I1.hok.fresh v
theorem zh6{X:Cx}(K:Frag){U:List Expr}{L}{Q:Pos}{a:Expr}{A:TA}{p pos:Pos}(y:Gl X "enumerate")(J:X.mg "enumerate"=B)(d:PA X [a] A)(h:X.K=K:=by rfl)(Y:notStar a=N:=by rfl):
  PI X (.Tuple U L Q) (.Call (.Name "enumerate" p) [a] [] pos) (iEnum K A):=h▸zxf y J d Y
theorem zj1:jw (.type "list") "keys"=pure B:=am_miss_of_fast (by decide+kernel)
theorem zxv
  (hx:s.heap.get? a=G {cls:=.type "list",dict:=B,data:=.seq xs k,slots:=sl}) (hA:A.handled=B)
  (h:∀h' tk,(∀b o,s.heap.get? b=G o->h'.get? b=G o)->Q B {s with heap:=h',toks:=tk}):wpAny (model prog w) A (getAttr? (.ref a) "keys") Q E s:=by
 let(hp,g,d,tk,os):=s;let hT:∀tk',(⟨hp,g,d,tk',os⟩:ik).TypeIs (.ref a) "list":=λ_=>⟨_,hx,R⟩;let f1:=sub_AttributeError;let f3:=F.slot_list_getattribute.lookup;let f4:=F.slot_list_getattribute.bind<|.ref a;let f5:=am_list_getattr_none;unfold getAttr? getAttrBy? getAttrBy
 repeat (any_goals (first|assumption|show hT _|((with_reducible show wpAny _ _ (call (Va.builtin "list.__getattribute__") _ _) _ _ _);apply jn F.slot_list_getattribute (hT _) am_entry_list_getattribute (F.args_list_getattribute_2 _ _) (meets_getattribute_miss_list a xs k sl "keys" _ zj1 (by decide+kernel) 04) ⟨hx,hA,λh' tk' e hx'=>?_⟩)|wp_step))
 let(t',u',he):=hx'.there;change wpAny _ _ (getattributeRaised _ _ _ _ _ _ _) _ _ _;unfold getattributeRaised
 repeat (any_goals (first|assumption|wp_step))
 show h _ _ hx'.keeps
theorem zbm:entryFor table "dict.update.loop"=G Builtin.«dict.update.loop»:=entryFor_of_tree (by kernel_rfl)
theorem za5:plainId "dict.update.loop"=N:=by decide+kernel
section
variable {P:im}{w:World}{κ:Type}[DecidableEq κ]{knd:KeyKind P w κ}{A:ir}{Rq:Result->ik->Prop}{it:Ad}{fp wr:List Ad}{Gq:Array jq->Array jq->Prop}{n:Nat}{Pv:Nat->Va->Prop}{St:Nat->ik->Prop}
def PairsAt(knd:KeyKind P w κ)(h:Heap)(a:List Ad)(Pv:Nat->Va->Prop)(kvs:List<|κ×Va):Prop:=∀i v k u,Pv i v->kvs[i]?=G (k,u)->∃p f,v=.ref p/\p∉a/\knd.is k f=N/\h.IsTuple p #[f,u]
theorem PairsAt.kept(x:PairsAt knd h a Pv kvs)(k:∀b o,b∉a->h.get? b=G o->h'.get? b=G o):PairsAt knd h' a Pv kvs:=λi v k' u pv e=>by
 let(p,f,J,g,Q,o,j,r):=x i v k' u pv e;show⟨p,f,J,g,Q,o,k p o g j,r⟩
theorem zo5(W:WalksS P w A.in1 it fp wr Gq n Pv St)(a:Ad)(d:a∉fp)(kvs:List<|κ×Va)(I:kvs.length=n)(hz:n<=io):
  ∀(m i:Nat) (j:Int) (c:Tok) (s:ik),n-i=m->i<=n->St i s->PairsAt knd s.heap (a::wr) Pv kvs->s.heap.DictOf knd a (merged []<|kvs.take i)->(∀s',Moved (a::wr) Gq s s'->s'.heap.DictOf knd a (merged [] kvs)->Rq (.ok<|.ret .none) s')->
   iY (model P w) A (.builtin "dict.update.loop" ⟨[.ref a,.ref it,.int j c,.none],[]⟩) Rq s:=by
 let g:a∉wr:=λh=>d<|W.sub _ h;let up:∀b∈wr,b∈a::wr:=λb h=>y0a _ h;let u:∀{h h':Heap} {l:List (κ×Va)},h.DictOf knd a l->(∀o,h.get? a=G o->h'.get? a=G o)->h'.DictOf knd a l:=λx k=>let⟨o,es,ep,Y,r⟩:=x;⟨o,es,ep,k o Y,r⟩;intro m
 induction m with
 |zero =>
  intro i j c s J hi st pa x q;obtain rfl:i=n:=by omega
  rw[y0i<|y3b I]at x;apply iF zbm ?_;rw[Around.under_plainId za5 _];apply ig<|W.done s _ _ st λs' y=>?_;change wpAny _ _ (Builtin.Dict.addKeywords a []>>=_) _ _ _;show ig<|ii (ii<|q s' (y.mono up) (u x λo e=>y.heap a _ g e))
 |succ m E =>
  intro i j c s J hi st pa x q;let lt:i<n:=by omega
  let D:kvs[i]?=G (kvs[i].1,kvs[i].2):=by simp[I,lt]
  apply iF zbm ?_;rw[Around.under_plainId za5 _];apply ig<|W.item i s _ _ lt st λv s' pv st' y=>?_;let L:=u (h':=s'.heap) x λo e=>y.heap a _ g e;let Q:PairsAt knd s'.heap (a::wr) Pv kvs:=pa.kept λb o U e=>y.heap b o (λz=>U<|up b z) e;let(p,f,rfl,np,is,o,Y,C,z,hd):=Q i v _ _ pv D;apply ig<|iu (ig ?_);apply wpAny_tryCatch (m:=Builtin.Dict.pairItems<|Va.ref p) ?_;unfold Builtin.Dict.pairItems;apply ig<|js (T:="tuple") ⟨o,Y,C⟩ ?_;rw[Xq<|show(Va.type "tuple"==Va.type "list"||Va.type "tuple"==Va.type "tuple")=N from rfl];apply ig<|iE Y hd (ii ?_);change wpAny _ _ (holding [f,kvs[i].2]<|dictSet a f kvs[i].2) _ _ _;let len:=merged_length_le ([]:List<|κ×Va)<|kvs.take i;rw[y0t,y1o]at len;apply iu<|wpAny_dictSet_pairs (hsz:=by omega) is L λh' H sb=>?_;rw[←merged_take_succ [] kvs i _ D]at H;let k2:∀b o,b∉a::wr->s'.heap.get? b=G o->h'.get? b=G o:=λb o U e=>by rw[sb.2 b λh=>U<|h▸y0c];show e
  apply ii ⟨iX za5 _,E (i+1) (j+1) _ _ 00 lt (W.frame _ s' _ _ st' (y3i _) λb U o e=>?_) (Q.kept k2) H λs2 O M=>?_⟩
  .rw[sb.2 b λh=>d<|h▸U];show e
  .exact q s2 (Moved.trans W.gtrans ((y.mono up).then_heap (y3i _) λb o U e=>k2 b o U e) O) M
end
section
variable {P:im}{w:World}{κ:Type}[DecidableEq κ]{knd:KeyKind P w κ}{A:ir}{E:Y0}{s:ik}
theorem zkb(M:A.handled=B)(hl:s.heap.get? l=G {cls:=.type "list",dict:=B,data:=.seq its n,slots:=sl})(D:kvs.length=its.size)(hz:its.size<=io)
  (hi:∀(i:Nat) v k u,its[i]?=G v->kvs[i]?=G (k,u)->∃p f,v=.ref p/\knd.is k f=N/\s.heap.IsTuple p #[f,u])
  (h:∀(h':Heap) (c:Nat),h'.DictOf knd s.heap.objs.size (merged [] kvs)->(∀b o,s.heap.get? b=G o->h'.get? b=G o)->Q (.ref s.heap.objs.size) {s with heap:=h',toks:=c}) :
  wpAny (model P w) A (call (.type "dict") [.ref l]) Q E s:=by
 apply callType_codes (Q₁:=λobj s₁=>obj=.ref s.heap.objs.size/\s₁={s with heap:=s.heap.push {cls:=.type "dict",data:=.dict #[]} }) F.kt_called_dict (F.kt_typeCall_dict_1 _) F.entry_dict_init (kt_code_dict_new _ ⟨R,R⟩) ?_;rintro obj s₁ ⟨rfl,rfl⟩;let x:(s.heap.push {cls:=.type "dict",data:=.dict #[]}).DictOf knd s.heap.objs.size []:=Heap.DictOf.new s.heap;let hl':(s.heap.push {cls:=.type "dict",data:=.dict #[]}).get? l=G {cls:=.type "list",dict:=B,data:=.seq its n,slots:=sl}:=y03 _ hl;apply⟨x.typeIs,F.args_dict_init_2 _ _,?_⟩;unfold Builtin.«dict.__init__»;apply ig ?_;unfold Builtin.Dict.selfAndRest;apply ig<|wpAny_notOrdered_dict x.typeIs ?_;change wpAny _ _ (pure (s.heap.objs.size,[Va.ref l])) _ _ _;apply ii ?_;change wpAny _ _ (Builtin.Dict.updateFrom "dict.__init__" s.heap.objs.size (.ref l) [] .none) _ _ _;unfold Builtin.Dict.updateFrom;apply ig<|js (T:="list") ⟨_,hl',R⟩ ?_;rw[Xq 04];apply ig<|zxv hl' (by simp[M]) λY tk1 k1=>?_;rw[Xq<|show(B:Option Va).isNone=N from rfl];apply ig<|jd (ig ?_);let d:Y.IsList l its:=⟨_,k1 _ _ hl',R,n,R⟩;apply iV d ?_;let ll:l<s.heap.objs.size:=y0e hl;let a:s.heap.objs.size<Y.objs.size:=by
  let(o,_,_,j,_):=x;show y0e<|k1 _ _ j
 let C:A.in1.in1.handled=B:=by simp[M]
 let lt1:l<Y.objs.size:=y21 ll a;let nf:s.heap.objs.size∉[Y.objs.size,l]:=λz=>by
  rcases y06.mp z with z|z
  .exact Xa z<|y0o a
  .exact Xa (y0b.mp z)<|y2a ll
 let up:∀b o,s.heap.get? b=G o->(Y.push {cls:=.type "list_iterator",data:=.fields #[.ref l,.int 0 0]}).get? b=G o:=λb o e=>y03 _<|k1 _ _ (y03 _ e);apply ii ⟨iX za5 _,zo5 (knd:=knd) (A:=A.in1) ((Walks.list C _ l (y0o lt1) its).toS) s.heap.objs.size nf kvs D hz (its.size-0) 0 0 _ _ R (y18 _) ⟨⟨_,y0f _ R,R,R⟩,d.push _⟩ ?pa ?x0 ?q0⟩
 case pa =>
  intro i v k u pv e;let(p,f,J,g,o,j,r):=hi i v k u pv e;let H:=y0e j;apply⟨p,f,J,λz=>?_,g,o,up p o j,r⟩;rcases y06.mp z with z|z
  .exact Xa z<|y0o H
  .exact Xa (y0b.mp z)<|y0o (y21 H a)
 case x0 =>
  let(o,es,ep,j,r):=x;show⟨o,es,ep,y03 _<|k1 _ _ j,r⟩
 case q0 =>
  intro s' y L;let(h',g',d',U,O):=s';let q:g'=s.gens:=y.gens;let I:d'=s.drawn:=y.drawn;let eo:O=s.os:=y.os;subst q;subst I;subst eo;apply⟨R,h h' U L λb o e=>y.heap b o (λz=>?_)<|up b o e⟩;let lb:=y0e e;rcases y06.mp z with z|z
  .exact Xa z<|y0o lb
  .exact Xa (y0b.mp z)<|y0o (y21 lb a)
end
theorem DGet.b{H:Hp}{a:Ad}{kvs:List (Key×V)}{b:Bool}(e:H a=G (.dK kvs)):DGet H a (.bl b) (valV kvs<|.inl (blI b)):=.inl ⟨kvs,_,.inl e,.inr ⟨b,R,R⟩,R⟩
theorem DPut.b{H:Hp}{a:Ad}{kvs:List (Key×V)}{b:Bool}{v:V}(e:H a=G (.dK kvs))(hl:kvs.length<io):DPut H a (.bl b) v (upd H a<|.dK (putK kvs (.inl<|blI b) v)):=.inl ⟨kvs,_,e,.inr ⟨b,R,R⟩,hl,R⟩
theorem DGet.n{H:Hp}{a:Ad}{kvs:List (Key×V)}{n:Int}(e:H a=G (.dK kvs)):DGet H a (.int n) (valV kvs<|.inl n):=DGet.k (k:=.inl n) e
theorem DPut.n{H:Hp}{a:Ad}{kvs:List (Key×V)}{n:Int}{v:V}(e:H a=G (.dK kvs))(hl:kvs.length<io):DPut H a (.int n) v (upd H a<|.dK (putK kvs (.inl n) v)):=DPut.k (k:=.inl n) e hl
def rInDc(neg:Bool):R2:=λy x H Q=>∃a o,x=.ref a/\DGet H a y o/\Q (.bl<|if neg then !o.isSome else o.isSome) H
section
variable {X:Cx}{o i value:Expr}{pos pos':Pos}{td ty tv:TE}
theorem zc0(Y:X.A.units+8<cLine):OpR X (iw .NotIn) (rInDc N):=by
 intro pins s σ H y x v u Q I ry rx h;let(a,o,rfl,g,q):=h;obtain rfl:u=Va.ref a:=rx;show zyg 00 I g ry λd M=>⟨.bl<|!o.isSome,H,M,R,q⟩
theorem zfk(Y:X.A.units+8<cLine)(j:PE X o td)(hi:PE X i ty)(hs:NoSl i):PE X (.Subscript o i pos) (tDGet td ty):=zxh 00 j hi hs
theorem zfj(Y:X.A.units+8<cLine)(j:PE X o td)(hi:PE X i ty)(hv:PE X value tv)(hs:j9 value (G<|.Subscript o i pos') pos.line X.env=pure Fa):
  PS X (.Assign [.Subscript o i pos'] value pos) (sDPut td ty tv):=zw8 00 j hi hv hs
def tDNewN:TE:=λ_ H Q=>∀p H',New H p (.dK []) H'->Q (.ref p) H'
def tDNewTN:TE:=λ_ H Q=>∀p H',New H p (.dT []) H'->Q (.ref p) H'
theorem zub:PE X (.Dict [] [] pos) tDNewN:=λpins s σ H Q I h=>zuc pins s σ H Q I λp w=>h p _<|.mk' w _
theorem zqk:PE X (.Dict [] [] pos) tDNewTN:=λpins s σ H Q I h=>zua pins s σ H Q I λp w=>h p _<|.mk' w _
def rLenD:List V->Hp->VK->Prop:=λxs H Q=>∃a kvs,xs=[V.ref a]/\H a=G (.dK kvs)/\Q (.int kvs.length) H
theorem zo9:CallR X (.builtin "len") rLenD:=zsy
end
section
variable {prog:im}{w:World}{κ:Type}[DecidableEq κ]{knd:HeapKind prog w κ}{A:ir}{E:Y0}{s:ik}
theorem zlv(d:Ad)(hd:(d==iJ)=Fa):
  MeetsIn prog w (Builtin.«dict.__len__» ⟨[.ref d],[]⟩) (λ_ Rq s=>∃xs,s.heap.DictOfH knd d xs/\Rq (.ok<|.ret (.int xs.length s.toks)) {s with toks:=s.toks+1}) :=
 .of_wp λA Rq s ⟨xs,J,h⟩=>by
  let(o,l,ep,j,C,a,f,_):=J;change wpAny _ _ (dictSize d>>=_) _ _ s;unfold dictSize;apply ig<|ig (wpAny_dictEntries j a<|ii ?_);change wpAny _ _ (Builtin.Dict.pendingCount d>>=_) _ _ s;apply ig<|wpAny_pendingCount_other hd (wpAny_ret_mkInt ?_);let e:l.size=xs.length:=by rw[←y0m,f,y01]
  rw[Nat.add_zero,e];show h
theorem zov(hd:(d==iJ)=Fa)(J:s.heap.DictOfH knd d xs)(f:(xs.length:Int)<2^63)(p:s.TypeIs (.ref d) "dict")
  (h:Q (.int xs.length<|s.toks+1) {s with toks:=s.toks+1+1}):wpAny (model prog w) A (call (.builtin "len") [.ref d]) Q E s:=by
 apply Calls.call_function_entry kind_len plain_len entry_len (args_len1 _) ?_;unfold Builtin.«len»;apply ig (m:=oneArg "len" _)<|ii ?_;apply ig (m:=callSpecial? (.ref d) (Str.ofString "__len__"))<|i9 (name:=Str.ofString "__len__") p PySem.F.slot_dict_len (call_meetsIn PySem.F.slot_dict_len p PySem.F.entry_dict_len (PySem.F.args_dict_len_1 _) (zlv d hd) ⟨xs,J,?_⟩);change wpAny _ _ _ _ _ {s with toks:=s.toks+1};apply ig<|iu (ii<|ig (lg ?_));change wpAny _ _ (if((xs.length:Nat):Int)<0 then _ else _) _ _ _;rw[Xp 00];change wpAny _ _ (if((xs.length:Nat):Int)>=2^63 then _ else _) _ _ _;rw[Xp 00];show ig<|wpAny_mkInt (ii ⟨_,R,h⟩)
end
def rLenT:List V->Hp->VK->Prop:=λxs H Q=>∃a kvs,xs=[V.ref a]/\H a=G (.dT kvs)/\Q (.int kvs.length) H
theorem zsx:CallR X (.builtin "len") rLenT:=by
 intro pins s σ H xs us Q I r h;let(a,kvs,rfl,d,q):=h;let(u,rfl,D):=vals1 r;cases D;let(z,hd,ys,rel,dd):=zyf I.hok d;let Y:=Paired.length rel;let p:s.TypeIs (.ref a) "dict":=by let(o,_,_,j,C,_):=id dd;show⟨o,j,C.1⟩
 apply zov hd dd (by rw[jI]at z;omega) p ?_;rw[←Y];show⟨.int kvs.length,H,I.tok _,⟨_,R⟩,q⟩
def PairV(H:Hp)(r:V)(d:Key×V):Prop:=∃t,r=.ref t/\H t=G (.tup [kV d.1,d.2])
theorem zjo(ok:HOk P w H h):∀{U:List V} {kvs:List (Key×V)} {us:List Va},i4 (PairV H) U kvs->Vals U us->
  ∃j:List<|Key×Va,KV kvs j/\∀(i:Nat) v k u,us[i]?=G v->j[i]?=G (k,u)->∃p f,v=.ref p/\(mixKind P w).is k f=N/\h.IsTuple p #[f,u]
 |_,_,_,.nil,.nil=>⟨[],.nil,λi v k u e _=>by simp at e⟩
 |_,_,_,.cons (b:=d) ⟨t,I,D⟩ O,.cons T vs=>by
  let(j,Y,M):=zjo ok O vs;subst I;cases(show _=Va.ref t from T);let(_,its,c,L):=ok t _ D;cases c with
  |cons r1 z =>
   cases z with
   |cons l z =>
    cases z;rename_i f a;apply⟨(d.1,a)::j,.cons ⟨R,l⟩ Y,λi v k u J g=>?_⟩;cases i with
    |zero =>
     simp only[y4u,Option.some.injEq,Prod.mk.injEq]at J g;let(rfl,rfl):=g;show⟨t,f,J.symm,zrr r1,L⟩
    |succ i =>
     simp only[y20]at J g;show M i v k u J g
def rDictOf(K:Frag):List V->Hp->VK->Prop:=λxs H Q=>∃(p:Ad) (U:List V) (kvs:List<|Key×V),xs=[.ref p]/\SqL K H p U/\i4 (PairV H) U kvs/\kvs.length<=1000/\∀d H',New H d (.dK<|mergeK [] kvs) H'->Q (.ref d) H'
theorem zkl(C:X.calm=N):CallR X (.type "dict") (rDictOf X.K):=by
 intro pins s σ H xs us Q I r h;let(p,U,kvs,rfl,O,w,hz,q):=h;let(u,rfl,rx):=vals1 r;cases(show u=Va.ref p from rx);let(vs,T,(o,n,Y,D,d,a),_):=I.list O;let(l,e,j):=zjo I.hok w T;let l1:=T.length;let l2:=Paired.length w;let y:=e.length;let(oc,M,f,z):=o;simp only at D d a;subst D;subst d;subst a;apply zkb (knd:=mixKind X.prog X.w) (kvs:=l) (I.ok.hd C) Y (by rw[y08];omega) (by rw[y08];show zah 00) (λi v k u J g=>j i v k u (by simpa using J) g) λh' c x k=>?_;let L:KV (mergeK [] kvs) (merged [] l):=KV.merge e .nil;let hl:=zcb kvs [];rw[y1o]at hl;show⟨.ref s.heap.objs.size,_,I.laid (t':=c) k (y04 _)<|zsh (zah 00) (beq_eq_false_iff_ne.mpr<|Ne.symm (y0o I.big)) L x,R,q _ _<|.mk' I.fresh _⟩
theorem ziv(K:Frag)(C:X.calm=N)(h:X.K=K:=by rfl):CallR X (.type "dict") (rDictOf K):=h▸zkl C
theorem zf8:∀(i o:List<|Key×V) (k:Key),k∉i.map (·.1)->valV (mergeK o i) k=valV o k
 |[],_,_,_=>rfl
 |d::i,o,k,h=>by
  rw[y0r,y06,not_or]at h;change valV (mergeK (putK o d.1 d.2) i) k=_;rw[zf8 i _ k h.2,zmk,Xp h.1]
theorem zm7:∀(i o:List<|Key×V) (k:Key) (v:V),(i.map (·.1)).Nodup->(k,v)∈i->valV (mergeK o i) k=G v
 |[],_,_,_,_,h=>nomatch h
 |d::i,o,k,v,I,h=>by
  rw[y0r,y1u]at I;change valV (mergeK (putK o d.1 d.2) i) k=_;rcases y06.mp h with rfl|h
  .rw[zf8 i _ _ I.1,zmk,Xq rfl]
  .exact zm7 i _ k v I.2 h
def rMaxL(K:Frag):List V->Hp->VK->Prop:=λxs H Q=>∃(p:Ad) (ns:List Int),xs=[.ref p]/\SqL K H p (ns.map V.int)/\0<ns.length/\∀M,M∈ns->(∀a∈ns,a<=M)->Q (.int M) H
theorem zo8(C:X.calm=N):CallR X (.builtin "max") (rMaxL X.K):=by
 intro pins s σ H xs us Q I r h;let(p,ns,rfl,O,l,q):=h;let(u,rfl,rx):=vals1 r;cases(show u=Va.ref p from rx);let(vs,T,pl,_):=I.list O;let hi:=zeq T;let(xs,e):=hi.allInts.items;let w:s.heap.IsList p (intItems xs):=e▸pl.isList;let f:ns=xs.toList.map (·.1):=by
  rw[←nums_intItems,←e];show(show numsOf vs.toArray.toList=ns from hi.numsOf).symm
 let hsz:0<xs.size:=by rw[f,y01,y0m]at l;show l
 apply max_intList (I.ok.hd C) w hsz λv h' c hv D=>?_;let(t,rfl):=intItems_at hv;let(Y,M):=argBest_gt (numAt xs)<|xs.size-1;apply⟨.int _,H,I.kept D,⟨_,R⟩,q _ ?_ λa d=>?_⟩
 .rw[f,numAt_eq];show getD_mem (by rw[y01,y0m];omega)
 .rw[f]at d;let(j,o,rfl):=mem_getD d;rw[y01,y0m]at o;rw[←numAt_eq];show M j 00
theorem zma(K:Frag)(C:X.calm=N)(h:X.K=K:=by rfl):CallR X (.builtin "max") (rMaxL K):=h▸zo8 C
def rIndex(K:Frag):V->List V->Hp->VK->Prop:=λx vs H Q=>∃(p:Ad) (ns:List Int) (k:Int),x=.ref p/\vs=[.int k]/\SqL K H p (ns.map V.int)/\k∈ns/\ns.length<=1000/\Q (.int (ns.idxOf k:Nat)) H
theorem zu4:MtR X "list.index" (rIndex X.K):=by
 intro pins s σ H x xs v us Q I rx U h;let(p,ns,k,rfl,rfl,O,D,hz,q):=h;cases rx;let(u,rfl,t,rfl):=vals1 U;let(vs,T,pl,_):=I.list O;let hi:=zeq T;let((cls,dd,data,L),Y,C,n,hd):=pl.isList;simp only at C hd;subst C hd;let c:=hi.length;let o:ns.idxOf k<ns.length:=y1n.mpr D;apply jn PySem.F.slot_list_index ⟨_,Y,R⟩ PySem.F.entry_list_index (PySem.F.args_list_index_2 _ _)
  (SeqAt.list_indexAt p vs.toArray n dd L (.int k t) (isInt k) (ns.idxOf k) (by simpa[c]using o) 00 ?_ ?_) ⟨Y,λy l=>(eq_isInt k t hi y<|by simpa using l).at _ _,?_⟩
 .change isInt k vs[ns.idxOf k]=N;rw[isInt_at k hi _ 00 o];simpa using y34 o
 .intro j a f;change isInt k vs[j]=Fa;rw[isInt_at k hi j (by simpa using a) 00];show ne_of_lt_idxOf f _
 .exact⟨.int _,H,I.tok _,⟨_,R⟩,q⟩
theorem zrg(K:Frag)(h:X.K=K:=by rfl):MtR X "list.index" (rIndex K):=h▸zu4
def rCatTN(K:Frag):R2:=λx y H Q=>∃a b xs ys,x=.ref a/\y=.ref b/\SqT K H a xs/\SqT K H b ys/\xs≠[]/\ys≠[]/\xs.length+ys.length<=io/\∀p H',New H p (.tup<|xs++ys) H'->Q (.ref p) H'
theorem zuj:OpR X (iM .Add) (rCatTN X.K):=λpins s σ H x y v u Q I rx ry h=>by
 let(a,b,xs,ys,J,g,d,U,O,C,hz,q):=h;show zxo pins s σ H x y v u Q I rx ry ⟨a,b,xs,ys,J,g,d,U,O,hz,λz=>Xa z C,λ_ p w=>q p _<|.mk' w _⟩
theorem zqy(K:Frag)(h:X.K=K:=by rfl):OpR X (iM .Add) (rCatTN K):=h▸zuj
section
variable {tn:List Str}{cp:Y6}{g:TG}{tif:TT}{te:TE}{σ0:St}{Q:VK}{H1:Hp}{n:Nat}
def PGen(S:St->Prop)(Gq:Nat->V->Hp->Prop)(H1:Hp)(i:Nat)(ys:List V)(σ:St)(H:Hp):Prop:=Same H1 H/\S σ/\ys.length=i/\∀j y,ys[j]?=G y->Gq j y H
theorem zgr(S:St->Prop)(Gq:Nat->V->Hp->Prop)(I:n<=1000)(E:S<|stB tn cp σ0)(q:∀i H,i<n->Same H1 H->J.go i H)(a:∀H,Same H1 H->J.stop n H)
  (hs:∀D i ys σ H x H',i<n->Same H1 H->H1 D=B->H D=G (.lst ys)->ys.length=i->(∀j y,ys[j]?=G y->Gq j y H)->S σ->J.yld i H x H'->g x σ H' λd H2=>tif d H2 λc H3 =>
   if c=N then te d H3 λv H4=>CStep D n i (PGen S Gq H1) d v H4 else CSkip D n i (PGen S Gq H1) d H3)
  (hd:∀D ys H,H1 D=B->Same H1 H->H D=G (.lst ys)->ys.length=n->(∀j y,ys[j]?=G y->Gq j y H)->Q (.ref D) H):cBody tn cp g tif te σ0 Q J H1:=by
 apply zvp n (λD=>PGen S Gq H1) (zah I) (λD u=>⟨za4 u _,E,R,λj y e=>by simp at e⟩) (λD i ys σ H _ hi _ p=>q i H hi p.1) (λD ys σ H _ _ p=>a H p.1) ?_ ?_
 .rintro D i ys σ H x H' u hi o hl ⟨L,r,U,l⟩ C;show hs D i ys σ H x H' hi L u o U l r C
 .rintro D ys σ H u o hl ⟨L,r,U,l⟩;show hd D ys H u L o U l
theorem zb1(a:∀j y H H',TupS H H'->Gq j y H->Gq j y H')(I:n<=1000)(hi:i<n)(u:H1 D=B)(h4:H4 D=G (.lst ys))(hl:ys.length=i)
  (C:∀j y,ys[j]?=G y->Gq j y H) (ts:TupS H H4) (U:Same H1 H4) (s2:S d) (e:Gq i v H4):CStep D n i (PGen S Gq H1) d v H4:=by
 apply cstep (zah I) hi h4 00 ⟨U.wr u _,s2,by simp[hl],λj y r=>?_⟩;by_cases h:j<ys.length
 .rw[y15 h]at r;show a j y _ _ (ts.trans<|TupS.wr h4 _)<|C j y r
 .rw[y1b 00]at r;let M:j-ys.length=0:=by
   cases o:j-ys.length with
   |zero=>rfl
   |succ k=>rw[o]at r;simp at r
  rw[M]at r;simp at r;subst r;rw[show j=i by omega];show a i _ _ _ (TupS.wr h4 _) e
end
theorem zmj{K:Frag}{a:Ad}{xs:List V}{i:Nat}{H H':Hp}{v:V}(O:SqL K H a xs)(y:(Ite K a).yld i H v H'):∃p x,v=.ref p/\New H p (.tup [.int (i:Int),x]) H'/\xs[i]?=G x:=by
 let(p,x,e,n,h):=y;show⟨p,x,e,n,h xs O⟩
theorem ztb{K:Frag}{a b:Ad}{xs ys:List V}{i:Nat}{H H':Hp}{v:V}(O:SqL K H a xs)(C:SqT K H b ys)(z:(ItzL K a b).yld i H v H'):∃p x y,v=.ref p/\New H p (.tup [x,y]) H'/\xs[i]?=G x/\ys[i]?=G y:=by
 let(p,x,y,e,n,Y,M):=z;show⟨p,x,y,e,n,Y xs O,M ys C⟩
def tDisp1T(c g:TE):TE:=λσ H Q=>∀p H1,New H p (.dT []) H1->c σ H1 λy H2=>g σ H2 λz H3=>H3 p=G (.dT [])/\∃b ks,y=.ref b/\H3 b=G (.tup<|ks.map kV)/\Q (.ref p) (upd H3 p<|.dT [(ks,z)])
theorem zql{c g:TE}(Y:X.A.units+8<cLine)(D:PE X k c)(hv:PE X v g):PE X (.Dict [G k] [v] pos) (tDisp1T c g):=by
 intro pins s σ H Q I q;let I1:=I.laid (a:=s.heap.objs.size) (o:=.dT []) (h':=s.heap.push {cls:=.type "dict",data:=.dict #[]}) (t':=s.toks) (λ_ _ q=>y03 _ q) (y04 _)<|znn s.heap I.big;let e:(evalEachOpt [G k] X.env).zip ((evalEach [v] X.env).map λv=>do let x ←v;standAt pos;pure x)=[(eval k X.env,do let x ←eval v X.env;standAt pos;pure x)].map λp=>(G p.1,p.2):=rfl;rw[arm_eval_Dict,e,dictDisplay_pairs _ (by simp)<|by simp];apply ig<|iW (ig ?_);unfold subDict;apply ig<|wpAny_alloc (ig<|iu ?_);rw[Xq<|by simp];apply ig<|evalPairs_cons ?_;apply thn (D pins _ σ _ _ I1<|q _ _ (.mk' I.fresh _)) λd s2 zz=>ex5 zz λy H2 O ry E=>?_;apply ig<|thn (hv pins s2 σ H2 _ O E) λU i zz=>ex5 zz λz H3 u r zq=>?_;let(ep,b,ks,J,L,q3):=zq;subst J;obtain rfl:d=Va.ref b:=ry;apply ig<|iW (ii<|evalPairs_nil (iu ?_));rw[y2e];let(zz,hd,xs,rel,dd):=zyf u.hok ep;cases rel;apply ig<|ig ?_;change wpAny _ _ (dictSet s.heap.objs.size (Va.ref b) U>>=_) _ _ _;apply ig<|wpAny_dictSet_heap (knd:=jQ<|mixKind X.prog X.w) (hsz:=by rw[y1o];show y18 _) (show X.A.units<cLine by omega) (zj2 u.hok L) dd λh' j hs=>ii ?_;dsimp only;rw[y39];apply ii<|ii (ii<|ii ?_);let(o,l,w,A,M,C,h4,f,T):=j;apply⟨.ref s.heap.objs.size,_,zik u (by rw[ep];show True.intro) hs ⟨o,A⟩ ?_,R,q3⟩;apply⟨zah (by simp),hd,storedH [] ks b U,?_,o,l,w,A,M,C,h4,T⟩;change i4 _ [(ks,z)] [(ks,b,U)];apply .cons ⟨R,?_,r⟩ .nil;rw[zak<|zrd L ep (λz=>nomatch z)];show L
def NeOk(X:Cx)(k:Nat)(H:Hp)(x y:V)(b:Bool):Prop:=∀(pins:Y2) (σ:St) (s:ik) (A:ir) (u v:Va),A.units+k<cLine->02 H s->RelV x u->RelV y v->SeqAt.RcNeAt A s u v b
def rNeM(X:Cx):R2:=λx y H Q=>∃c,NeOk X 8 H x y c/\Q (.bl c) H
def rRange2:List V->Hp->VK->Prop:=λxs H Q=>∃i j:Int,xs=[.int i,.int j]/\∀p H',New H p (.rng i j) H'->Q (.ref p) H'
def rListRng:List V->Hp->VK->Prop:=λxs H Q=>∃(p:Ad) (i j:Int),xs=[.ref p]/\H p=G (.rng i j)/\(0<=i/\i<=j/\j<=1000)/\∀l H',New H l (.lst<|(List.range (j-i).toNat).map λ(k:Nat)=>V.int<|i+k) H'->Q (.ref l) H'
def rRepN:R2:=λx y H Q=>∃l k xs,x=.ref l/\y=.int k/\H l=G (.lst xs)/\-(2^63)<=k/\k<2^63/\xs.length*k.toNat<=io/\∀p H',New H p (.lst (List.replicate k.toNat xs).flatten) H'->Q (.ref p) H'
theorem zqr:OpR X (iM .Mult) rRepN:=λpins s σ H x y v u Q I rx ry h=>by
 let(l,k,xs,J,g,Y,M,C,h4,q):=h;show zzb pins s σ H x y v u Q I rx ry ⟨l,k,xs,J,g,Y,M,C,h4,λp w=>q p _<|.mk' w _⟩
noncomputable def Itez(K:Frag)(a b:Ad):It :=
 ⟨λi H=>∃xs ys x y,SqT K H a xs/\SqT K H b ys/\xs[i]?=G x/\ys[i]?=G y,
  λi H v H'=>∃p r H1 x y,v=.ref r/\New H p (.tup [x,y]) H1/\New H1 r (.tup [.int (i:Int),.ref p]) H'/\(∀xs,SqT K H a xs->xs[i]?=G x)/\∀ys,SqT K H b ys->ys[i]?=G y,
  λi H=>∃xs ys,SqT K H a xs/\SqT K H b ys/\xs.length<=i⟩
def iEZ(K:Frag)(A:TA):TI:=λσ H Rq=>A σ H λvs H1=>∃a b,vs=[.ref a,.ref b]/\(∃xs,SqT K H1 a xs)/\(∃ys,SqT K H1 b ys)/\Rq (Itez K a b) H1
def rCatTE:R2:=λx y H Q=>∃a b xs ys,x=.ref a/\y=.ref b/\H a=G (.tup xs)/\H b=G (.tup ys)/\xs.length+ys.length<=io/\∀p H',Same H H'->H' p=G (.tup<|xs++ys)->Q (.ref p) H'
noncomputable def without(h:Heap):List Ad->Heap
 |[]=>h
 |b::L=>without (h.update b λ_=>{cls:=.none,data:=.freed}) L
theorem zoy(h:Heap)(a:Ad):(h.update a λ_=>{cls:=.none,data:=.freed}).get? a=B:=by
 let(objs,l):=h;change(match(objs.modify a λ_=>({cls:=.none,data:=.freed}:Obj))[a]? with
  |some ⟨_,_,.freed,_⟩=>B
  |o=>o)=B
 by_cases h:a<objs.size
 .rw[y1w (by simpa using h),Array.getElem_modify];simp
 .rw[y3w<|by simpa using h]
theorem zde(b:Ad):∀(L:List Ad) (h:Heap),(without h L).get? b=if b∈L then B else h.get? b
 |[],h=>by simp[without]
 |c::L,h=>by
  rw[without,zde b L];by_cases U:b∈L
  .rw[Xq U,Xq<|y0a _ U]
  .rw[Xp U];by_cases C:b=c
   .subst C;rw[Xq y0c,zoy]
   .rw[Xp (by simp[C,U]),y1f _ _<|Ne.symm C]
theorem zbg(U:b∈L):(without h L).get? b=B:=by rw[zde,Xq U]
theorem zbn(U:b∉L):(without h L).get? b=h.get? b:=by rw[zde,Xp U]
theorem zb5(h:Heap)(L:List Ad):(without h L).StaysIn h:=λb o e=>by
 by_cases U:b∈L
 .rw[zbg U]at e;cases e
 .rw[zbn U]at e;show e
theorem zcd{h base a:Heap}:∀{l:List Env},h.FunFrames base l->(∀b∈frs l,a.get? b=B)->h.FunFrames a l
 |[],_,_=>trivial
 |env::rest,⟨D,⟨L,o,T,I,j,hd⟩,q⟩,k=>by
  let e:frs (env::rest)=L::frs rest:=by change List.filterMap _ (env::rest)=_;rw[y28,T];rfl
  rw[e]at k;show⟨D,⟨L,o,T,k L y0c,j,hd⟩,zcd q λb U=>k b<|y0a _ U⟩
def Flown(E:Heap)(H:Hp)(h:Heap)(a:Ad)(cls:Va):Prop :=
 ∃(v:Obj) (vs:Array Va) (T:Ad) (g:Obj) (ts:Array Va),h.get? a=G v/\v.cls=cls/\v.data=.fields vs/\vs[1]?=G (.ref T)/\T≠a/\h.get? T=G g/\g.data=.fields ts/\ts[3]?=G .none/\
  E.get? a=B/\E.get? T=B/\H a=B/\H T=B
def CXE(P:im)(w:World):CXT:=λouter H s E e s'=>∃(a:Ad) (cls:Va) (H':Hp),e=.ref a/\s'.os=s.os/\j7 s'.gens/\Un (frs outer) [] H H' s.heap s'.heap/\HOk P w H' s'.heap/\Flown s.heap H' s'.heap a cls/\E cls (G a) H'
theorem zca(x:ObjOk P w H h a o):∃ob,h.get? a=G ob:=by
 induction o with
 |lst xs=>let(_,_,_,_,e):=x;show⟨_,e⟩
 |tup xs=>let(_,_,_,ob,e,_):=x;show⟨_,e⟩
 |dK kvs=>let(_,_,_,_,ob,_,_,e,_):=x;show⟨_,e⟩
 |dT kvs=>let(_,_,_,_,ob,_,_,e,_):=x;show⟨_,e⟩
 |set S n=>let(ob,_,_,_,e,_):=x;show⟨_,e⟩
 |ins C dx fs=>let(_,_,_,e,_):=x;show⟨_,e⟩
 |own _=>show x
 |xd fs=>let(_,(ob,l,ep,e,_),_):=x;show⟨_,e⟩
 |rng lo hi=>let(_,_,_,e):=x;show⟨_,e⟩
 |frz ob u=>show⟨_,x.1⟩
 |tbl qs ps=>let(_,e,_):=x;show⟨_,e⟩
 |met f y=>show⟨_,x⟩
 |ext J=>show x.2.1
section
variable {X:Cx}{pins:Y2}{σ:St}{H:Hp}{s:ik}{Ex:Y0}
theorem zna(I:02 H s)(O:X.ex=[])(A:∀b∈L,X.s₀.heap.get? b=B/\H b=B)
  (l1:(without s.heap<|frs X.stack++L).StaysIn p) (l2:p.FunFrames (without s.heap<|frs X.stack++L) X.stack) (l3:p.Traced (without s.heap<|frs X.stack++L) a cls)
  (l4:∀b o,s.heap.get? b=G o->(∀vs,o.data ≠ .fields vs)->∃f,p.get? b=G {o with slots:=f}) (d:a∈L) (q:E cls (G a) H) :
  CXE X.prog X.w X.outer X.H₀ X.s₀ E (.ref a) {s with heap:=p}:=by
 let(oe,y,T,oT,ts,j,i,t3,t4,t5,t6,r,t8,t9):=l3;let hTf:T∉frs X.stack:=λz=>by
  let(_,o,J,g):=l2.mem z;rw[r]at J;cases J;show g _ t8
 let nx:∀b,b∉X.ex:=λb z=>by rw[O]at z;cases z
 let st:∀b o,b∉frs X.stack->b∉L->s.heap.get? b=G o->p.get? b=G o:=λb o Y M e=>l1 b o (by rw[zbn λz=>(y0v.mp z).elim Y M];show e);let out:∀b o,X.s₀.heap.get? b=G o->b∉frs X.outer->b∉frs X.stack:=λb o e h z=>by
  rcases y06.mp (I.stkSub b z)with w|w
  .exact y0o (y0p (y0e e) I.ok.above) w
  .exact h w
 let nL:∀b o,X.s₀.heap.get? b=G o->b∉L:=λb o e z=>by rw[(A b z).1]at e;cases e
 let T0:X.s₀.heap.get? T=B:=by
  cases e:X.s₀.heap.get? T with
  |none=>rfl
  |some o =>
   let(D,Q):=I.base.there T o e<|nx T;rw[zbn λz=>(y0v.mp z).elim hTf<|nL T o e]at t5;rw[t5]at Q;cases Q
 let HT:H T=B:=by
  cases e:H T with
  |none=>rfl
  |some o =>
   let(D,Q):=zca<|I.hok T o e;by_cases hTL:T∈L
   .rw[(A T hTL).2]at e;cases e
   .rw[zbn λz=>(y0v.mp z).elim hTf hTL]at t5;rw[t5]at Q;cases Q
 apply⟨a,cls,H,R,I.os,I.bare,⟨λb o e n U _=>?_,λb o e n U _=>?_,λb o e n _=>I.base.free b o e n<|nx b,λb o e _=>?_,I.base.tups,I.base.frzs,I.base.tbls⟩,λb o e=>?_,⟨oe,y,T,oT,ts,j,i,t3,t4,t6,r,t8,t9,(A a d).1,T0,(A a d).2,HT⟩,q⟩
 .exact st b o (out b o e U) (nL b o e)<|I.base.keep b o e n U (nx b)
 .let(f,J):=I.base.slot b o e n U<|nx b;let(_,D,g,l):=I.ok.funs.mem U;rw[e]at g;cases g;let(sl',e3):=l4 b _ J l;show⟨sl',e3⟩
 .let(D,J):=I.base.there b o e<|nx b;by_cases U:b∈frs X.stack
  .let(_,v,g,_):=l2.mem U;show⟨v,g⟩
  .exact⟨D,st b D U (nL b o e) J⟩
 .refine(I.hok b o e).stay (λc u C x=>st c u (λz=>?_) (λz=>?_) x) (λ_ z=>z) (λ_ _ _ _ _ z=>z) λ_ _ z=>z
  .let:=I.stkFree c z;rcases C with rfl|C
   .rw[this]at e;cases e
   .rw[this]at C;cases C
  .let:=(A c z).2;rcases C with rfl|C
   .rw[this]at e;cases e
   .rw[this]at C;cases C
theorem zly(I:02 H s)(O:X.ex=[])(hs:X.stack=X.env::X.outer)(T:X.env.frame=G X.env.locals)(M:Heap.MadeExcOf s.heap h' a cls vs)(q:E cls (G a) H):
  wpAny 06 X.A (lj X.env<|.ref a) (λ_ d=>CXE X.prog X.w X.outer X.H₀ X.s₀ E (.ref a) d) Ex {s with heap:=h'}:=by
 let(t,f,_,_):=M.there;let r:02 H {s with heap:=h',toks:=s.toks}:=I.kept M.keeps;let c:H a=B:=by
  cases e:H a with
  |none=>rfl
  |some o =>
   let(D,Q):=zca<|I.hok a o e;rw[M.new]at Q;cases Q
 let y:X.s₀.heap.get? a=B:=by
  cases e:X.s₀.heap.get? a with
  |none=>rfl
  |some o =>
   let(D,Q):=I.base.there a o e (λz=>by rw[O]at z;cases z);rw[M.new]at Q;cases Q
 apply wpAny_leaving_first (base:=without h'<|frs X.stack++[a]) (outer:=X.outer) (L:=X.env.locals) (by rw[←hs];show I.ok.frames) (by rw[←hs];show zcd r.stack λb U=>zbg<|y2c _ U) T f (zb5 _ _)
  (zbg<|y0x _ (y0b.mpr R)) R R λp ⟨l1,l2,C,w⟩=>?_
 rw[←hs]at l2;show zna (L:=[a]) r O (λb U=>by rw[y0b.mp U];show⟨y,c⟩) l1 l2 C w (y0b.mpr R) q
theorem zc5(I:02 H s)(O:X.ex=[])(hs:X.stack=X.env::X.outer)(hf:X.env.frame=G X.env.locals)(c:CXE X.prog X.w X.stack H s E' e s')(q:∀a cls H',E' cls (G a) H'->E cls (G a) H'):
  wpAny 06 X.A (lj X.env e) (λ_ d=>CXE X.prog X.w X.outer X.H₀ X.s₀ E e d) Ex s':=by
 let(a,cls,H',rfl,os,bare,un,hok,(v,vs,T,g,ts,j,i,t3,J,u,t7,l,f,n1,A,Y,M),x):=c;let r:02 H' s':=I.call' os un hok bare λb z=>nomatch z;let y:∀b,s.heap.get? b=B->X.s₀.heap.get? b=B:=λb z=>by
  cases e:X.s₀.heap.get? b with
  |none=>rfl
  |some o =>
   let(D,Q):=I.base.there b o e (λz=>by rw[O]at z;cases z);rw[z]at Q;cases Q
 apply wpAny_leaving_next (base:=without s'.heap<|frs X.stack++[a,T]) (outer:=X.outer) (L:=X.env.locals) (cls:=cls) (by rw[←hs];show I.ok.frames) (by rw[←hs];show zcd r.stack λb U=>zbg<|y2c _ U) hf
  ⟨v,vs,T,g,ts,j,i,t3,J,zbg<|y0x _ (by simp),u,t7,l,f⟩ (zb5 _ _) (zbg<|y0x _ (by simp)) λp ⟨l1,l2,C,w⟩=>?_
 rw[←hs]at l2;show zna (L:=[a,T]) r O (λb U=>by
  simp only[y06,y0h,or_false]at U;rcases U with rfl|rfl
  .exact⟨y _ n1,Y⟩
  .exact⟨y _ A,M⟩) l1 l2 C w (by simp) (q _ _ _ x)
theorem zrk(I:02 H s)(M:Heap.MadeExcOf s.heap h' a cls vs):H a=B:=by
 cases e:H a with
 |none=>rfl
 |some o =>
  let(D,Q):=zca<|I.hok a o e;rw[M.new]at Q;cases Q
end
structure Rs(X:Cx)(E:XK):Prop where
 ex:X.ex=[]
 st:X.stack=X.env::X.outer
 fr:X.env.frame=G X.env.locals
 xe:∀e s',wpAny 06 X.A (lj X.env e) (λ_ s''=>CXE X.prog X.w X.outer X.H₀ X.s₀ E e s'') (λe' s''=>CXE X.prog X.w X.outer X.H₀ X.s₀ E e' s'') s'->X.xe e s'
theorem Rs.passes(Rq:Rs X E)(q:∀a cls H',E' cls (G a) H'->E cls (G a) H'):Passes (CXE X.prog X.w) X E':=λpins σ H s e s' I c=>Rq.xe e s'<|zc5 I Rq.ex Rq.st Rq.fr c q
def tRaise(E:XK)(cls:Va)(t:TA):TS:=λD σ H=>t σ H λvs H1=>vs.length<=io/\∀a,H1 a=B->E cls (G a) H1
theorem ztz{X:Cx}{E:XK}{x:Str}{C:Ad}{Bq c i:String}{bm:List Va}{w r pos:Pos}{e:Expr}{rest:List Expr}{t:TA}(Rq:Rs X E)(Y:X.calm=N)(y:Gl X x)(O:OwnCls x C bm c X.mg X.base)(FB:ExcBaseFacts Bq c i bm)(d:PA X (e::rest) t)
  (f:iq (e::rest) X.env=(Fa,eval e X.env)::iq rest X.env:=by rfl) (L:(ji r<|iq rest X.env).any (·.1)=Fa:=by rfl) (hd:(x==("__debug__":Str))=Fa:=by decide) :
  PS X (.Raise (G<|.Call (.Name x w) (e::rest) [] r) B pos) (tRaise E (.ref C) t):=by
 intro pins s σ H D I h;let(tl,Nq,nm,q,bs,hdct,sn,sub,ab,col,dd,k0,k1,k2,k3,k5,mN,o,hN,j,T):=O.obj;apply wpAny_Raise_call_subT (C:=C) (nm:=nm) (q:=q) («N»:=Nq) (bs:=bs) (bm:=tl) (hdct:=hdct) (sn:=sn) (sub:=sub) (ab:=ab) (col:=col) (dd:=dd) (k0:=k0) (k1:=k1) (k2:=k2) (k3:=k3) (k5:=k5)
  FB (mN:=mN) (T.hasType FB.hasBase) (I.ok.hd Y) (by rw[f];change(Fa||(ji r<|iq rest X.env).any (·.1))=Fa;rw[L];rfl) j ?_
 apply thn (zqj (v:=.ref C) (pos:=w) y O.bound R hd pins s σ H (λv H'=>v=.ref C/\H'=H) I ⟨R,R⟩) λu s1 zz=>ex5 zz λv H1 I1 r1 zq=>?_;let(J,g):=zq;subst J g;apply⟨r1,?_⟩;let p:=d r pins s1 σ H1 _ I1 h;rw[f]at p ⊢;apply Calls.evalArgs_plain<|thn p λus s2 ⟨vs,H2,Q,l,z,q⟩=>⟨R,by rw[←l.length];show z,Q.bk _ _ o,hN.keeps Q.bk,T.keeps Q.bk,λh' a M=>Rq.xe _ _<|zly Q Rq.ex Rq.st Rq.fr M (q a<|zrk Q M)⟩
theorem Fun.okE{P:im}{w:World}{K:Frag}{mg:Y1}{base:Heap}{x qual:Str}{st:Stmt}{f:Ad}{fd:i5}{Nq ps:List Str}{k:Nat}{sp:Sp}(F:Fun K x qual st f fd)(S:FnScope Nq ps<|defScope st)(len:∀vs H Q E,sp vs H Q E->vs.length=ps.length)
  (i:∀(j:Va) (A:ir) (outer:List Env) (s:ik) (H:Hp) (vs:List V) (Q:VK) (E:XK),Room k (A.deeper<|jl qual (defScope st) s.heap.objs.size f j)->sp vs H Q E->Rs (cxOf (CXE P w) P w K mg base Nq qual (defScope st) f j A outer s H E) E->
   ∃t,PSs (cxOf (CXE P w) P w K mg base Nq qual (defScope st) f j A outer s H E) (defBody st) t/\t {nx:=λ_ H'=>Q .non H',rt:=Q} (start Nq vs) H):FnOk P w K mg base (CXE P w) (k+1) f fd ps sp:=by
 let(oc,M,kV,doc,p,g,j,ct,z,rfl,lk,hcd):=F.ex;show zvc lk hcd S len λA outer s H vs Q E L Y=>i j A outer s H vs Q E L Y ⟨R,R,R,λ_ _ h=>h⟩
open PySem PySem.Spec PyProof.Rows PySem.Calls
section
variable {X:Cx}{pins:Y2}{σ:St}{H:Hp}{s:ik}
noncomputable def Cx.held(X:Cx)(a:Ad):Cx:={X with A:=X.A.mark<|G (.ref a),calm:=Fa,xe:=λ_ _=>False}
theorem Cx.Ok.held(ok:X.Ok):(X.held a).Ok:=⟨ok.mod,ok.kind,ok.glob,ok.blt,ok.above,ok.inj,ok.has,ok.cab,(λh=>nomatch h),ok.frames,ok.stk,ok.exf,ok.bs,ok.bsz,ok.noex,ok.exfs,ok.funs,ok.frf⟩
theorem Inv.held(I:02 H s):Inv (X.held a) pins σ H s:=⟨I.ok.held,I.os,I.bare,I.base,I.loc,I.cell,I.free,I.freeC,I.pin,I.hok,I.len⟩
theorem Inv.unheld(ok:X.Ok)(I:Inv (X.held a) pins σ H s):02 H s:=⟨ok,I.os,I.bare,I.base,I.loc,I.cell,I.free,I.freeC,I.pin,I.hok,I.len⟩
theorem Inv.adopt(I:02 H s)(d:H a=B)(E:X.s₀.heap.get? a=B)(f:s.heap.get? a=G w)(hd:w.data=.fields vs)(L:∀p∈X.pn++pins,p.1≠a)(new:ObjOk X.prog X.w (upd H a o) s.heap a o):
  02 (upd H a o) s:=by
 let i:X.env.locals≠a:=λz=>by
  let(m,(ob,l,ep,e,dd,_),_):=I.loc;rw[z,f]at e;cases e;rw[hd]at dd;cases dd
 let j:∀x c,X.env.cells.lookup x=G c->c≠a:=λx c e z=>by
  let(v,ob,J,dd):=I.cell x c e;rw[z,f]at J;cases J;rw[hd]at dd;cases dd
 let up:∀b u,H b=G u->upd H a o b=G u:=λb u e=>by rw[zak λz=>by rw[z,d]at e;cases e];show e
 apply⟨I.ok,I.os,I.bare,⟨I.base.keep,I.base.slot,λb ob e k O=>?_,I.base.there,λb xs e=>up _ _<|I.base.tups b xs e,λb ob u e=>up _ _<|I.base.frzs b ob u e,λb qs ps e=>up _ _<|I.base.tbls b qs ps e⟩,I.loc,I.cell,by rw[zak i];show I.free,λx c e=>by rw[zak<|j x c e];show I.freeC x c e,λp g=>?_,λb u e=>?_,I.len⟩
 .rw[zak λz=>by rw[z,E]at e;cases e];show I.base.free b ob e k O
 .let(e,k,r):=I.pin p g;show⟨e,by rw[zak<|L p g];show k,r⟩
 .by_cases U:b=a
  .subst U;rw[zar]at e;cases e;show new
  .rw[zak U]at e;show(I.hok b u e).stay (λ_ _ _ q=>q) (λc q=>up c _ q) (λc _ _ _ _ q=>up c _ q) λc xs q=>up c _ q
theorem Inv.touch{h':Heap}{L:List Ad}{t':Nat}(I:02 H s)(k:∀b o,b∉frs X.stack->b∉L->s.heap.get? b=G o->h'.get? b=G o)(f:∀b o,b∈frs X.stack->s.heap.get? b=G o->∃f,h'.get? b=G {o with slots:=f})
  (A:∀b∈L,∃J,H b=G (.ext J)/\J h'/\∃o,h'.get? b=G o):02 H {s with heap:=h',toks:=t'}:=by
 let fr:∀b∈frs X.stack,H b=B:=I.stkFree;apply I.call' (ch:=[]) R ⟨λb o e n U _=>k b o U (λz=>?_) e,λb o e n U _=>f b o U e,λ_ _ _ n _=>n,λb o e _=>?_,λ_ _ e=>e,λ_ _ _ e=>e,λ_ _ _ e=>e⟩ (λb u e=>?_) I.bare λb z=>nomatch z
 .let(J,Q,_):=A b z;rw[n]at Q;cases Q
 .by_cases U:b∈frs X.stack
  .let(q,Q):=f b o U e;show⟨_,Q⟩
  .by_cases hl:b∈L
   .let(_,_,_,D,Q):=A b hl;show⟨D,Q⟩
   .exact⟨o,k b o U hl e⟩
 .by_cases hl:b∈L
  .let(J,Q,p,D,a):=A b hl;rw[e]at Q;cases Q;show⟨p,⟨D,a⟩,(I.hok b _ e).2.2⟩
  .refine(I.hok b u e).stay (λc w C x=>k c w (λz=>?_) (λz=>?_) x) (λ_ z=>z) (λ_ _ _ _ _ z=>z) λ_ _ z=>z
   .let:=fr c z;rcases C with rfl|C
    .rw[this]at e;cases e
    .rw[this]at C;cases C
   .rcases C with rfl|C
    .exact hl z
    .let(J,Q,_):=A c z;rw[C]at Q;cases Q
def ExcIs(a:Ad)(cls:Va)(h:Heap):Prop:=∃(o:Obj) (vs:Array Va),h.get? a=G o/\o.cls=cls/\o.data=.fields vs
def TbIs(T:Ad)(h:Heap):Prop:=∃(o:Obj) (vs:Array Va),h.get? T=G o/\o.data=.fields vs
noncomputable def excO(a:Ad)(cls:Va):HO:=.ext<|ExcIs a cls
noncomputable def tbO(T:Ad):HO:=.ext<|TbIs T
theorem exc_ok(x:ExcIs a cls h):ObjOk P w H h a (excO a cls) :=
 ⟨x,let⟨o,_,e,_⟩:=x;⟨o,e⟩,λY M ⟨o,vs,e,r⟩ k=>⟨o,vs,k o e,r⟩⟩
theorem zyq(x:TbIs T h):ObjOk P w H h T (tbO T) :=
 ⟨x,let⟨o,_,e,_⟩:=x;⟨o,e⟩,λY M ⟨o,vs,e,r⟩ k=>⟨o,vs,k o e,r⟩⟩
end
section
variable {prog:im}{w:World}{A:ir}{E:Y0}{s:ik}{env:Env}
theorem zux(ag:A.frames=G (env::outer))(hl:s.heap.FunFrames base (env::outer))(hf:env.frame=G L)(f:s.heap.get? e=G v)(hd:v.data=.fields vs)(Y:vs[1]?=G (.ref T))
  (hTe:T≠e) (p:s.heap.get? T=G oT) (ft:oT.data=.fields ts) (C:ts[3]?=G .none)
  (h:∀h',(∀b o,b∉frs (env::outer)->b≠e->b≠T->s.heap.get? b=G o->h'.get? b=G o)->(∀b o,b∈frs (env::outer)->s.heap.get? b=G o->∃sl,h'.get? b=G {o with slots:=sl})->TbIs T h'->
   (∃(fk:Obj) (y:Array Va) (a:Ad) (jp:Obj) (k6:Array Va),h'.get? e=G fk/\fk.cls=v.cls/\fk.data=.fields y/\y[1]?=G (.ref a)/\a≠e/\h'.get? a=G jp/\jp.data=.fields k6/\k6[3]?=G .none/\s.heap.get? a=B)->Q () {s with heap:=h'}) :
  wpAny (model prog w) A (lq (.ref e) env) (λ_ s'=>wpAny (model prog w) A (jT (.ref e) B) Q E s') E s:=by
 unfold lq;simp only[hf];apply ig<|i7 f hd Y ?_;rw[Xq<|show(Va.ref T !=Va.none)=N from by simp];apply ig<|i7 p ft C ?_;rw[Xp<|show¬((Va.none==iB L)=N)from by simp[iB]];apply ig<|iC p ft (y2r.mp C).1 ?_;let d:∀b,b≠T->(s.heap.update T (Obj.mapFields (·.setIfInBounds 3 Va.none))).get? b=s.heap.get? b:=λb U=>y1f _ _<|Ne.symm U;let fq:=Obj.data_mapFields ft (·.setIfInBounds 3 Va.none);let hT':=y1j (Obj.mapFields (·.setIfInBounds 3 Va.none)) p<|Obj.isFreed_of_fields fq;generalize s.heap.update T (Obj.mapFields (·.setIfInBounds 3 Va.none))=M at d hT';let nr:∀b o,s.heap.get? b=G o->(∀vs,o.data ≠ .fields vs)->b≠T:=λb o U hnf q=>by
  rw[q,p]at U;injection U with U;subst U;show hnf ts ft
 let x:M.FunFrames base (env::outer):=hl.of_keeps λb o U hnf=>⟨o,(d b<|nr b o U hnf).trans U,R⟩;let fT:T∉frs (env::outer):=λz=>by
  let(_,o,J,g):=hl.mem z;rw[p]at J;cases J;show g _ ft
 let fe:e∉frs (env::outer):=λz=>by
  let(_,o,J,g):=hl.mem z;rw[f]at J;cases J;show g _ hd
 apply wpAny_newEntry (base:=without M<|frs (env::outer)++[e]) ag (zcd x λb U=>zbg<|y2c _ U) hf ((d e<|Ne.symm hTe).trans f) (zb5 _ _) (zbg<|y0x _ (y0b.mpr R)) hd (y2r.mp Y).1
  λh' ⟨x1,H,x3,x4⟩=>?_
 let st:∀b o,b∉frs (env::outer)->b≠e->M.get? b=G o->h'.get? b=G o:=λb o I c q=>x1 b o (by rw[zbn λz=>(y0v.mp z).elim I λz=>c<|y0b.mp z];show q);let(fk,y,a,jp,k6,j,i,O,t4,t5,t6,r,l,t9):=x3;let f2:a∉frs (env::outer):=λz=>by
  let(_,o,J,g):=H.mem z;rw[r]at J;cases J;show g _ l
 let c:M.get? a=B:=by rw[zbn λz=>(y0v.mp z).elim f2 λz=>t6<|y0b.mp z]at t5;show t5
 let n2T:a≠T:=λz=>by rw[z,hT']at c;cases c
 apply h h' (λb o u b2 b3 q=>st b o u b2<|(d b b3).trans q) (λb o U q=>?_) ⟨_,_,st T _ fT hTe hT',fq⟩ ⟨fk,y,a,jp,k6,j,i,O,t4,t6,r,l,t9,by rw[←d a n2T];show c⟩;let(_,D,J,g):=hl.mem U;rw[q]at J;cases J;show x4 b o ((d b<|nr b o q g).trans q) g
end
section
variable {X:Cx}{pins:Y2}{σ:St}{H:Hp}{s:ik}{k:Nat}{fa:Ad}{fd:i5}{ps:List Str}{sp:Sp}
theorem zyd{g:XK}{Q:VK}{Xe:Y0}{x:Str}{e:Expr}{l:List Expr}{t:TA}{p pos:Pos}(F:FnOk X.prog X.w X.K X.mg X.base (CXE X.prog X.w) k fa fd ps sp)(L:Room k X.A)(y:Gl X x)(J:X.mg x=G (.ref fa))(D:PySem.W.keepIn X.K (.ref fa)=N)(U:Binds X.K fd ps [])
  (d:PA X.nox (e::l) t) (I:02 H s) (h:t σ H λvs H1=>sp vs H1 Q g) (O:∀H1 s1 e s',02 H1 s1->CXE X.prog X.w X.stack H1 s1 g e s'->Xe e s')
  (j:(x==("__debug__":Str))=Fa:=by decide) (f:iq (e::l) X.env=(Fa,eval e X.env)::iq l X.env:=by rfl) (c:(ji pos<|iq l X.env).any (·.1)=Fa:=by rfl) :
  wpAny 06 X.A (eval (.Call (.Name x p) (e::l) [] pos) X.env) (EP X pins σ Q) Xe s:=by
 apply iI<|zeo I y J ?_ j;apply PySem.W.callWith_K (h₀:=X.base) I.ok.mod.kin D (iy (d pos pins s σ H _ (I.wish _) h) (λus s1 zz=>ex5 zz λvs H1 I1 r q=>⟨I1.unwish.kIn,?_⟩) λ_ _ z=>False.elim z) f c;let a:=I1.unwish;let hl:us.length=ps.length:=by rw[←r.length];show F.len _ _ _ _ q
 apply jm<|iG (F.run X.A X.stack s1 H1 ⟨us,[]⟩ us vs Q g L a.env0 (by have:=U s1 us a.kIn (by rw[y1k];show hl);rw[y1k]at this;show this) r q) λr s' A=>?_;cases r with
 |error e=>show O H1 s1 e s' a A
 |ok i =>
  cases i with
  |ret u=>show a.after A
  |next=>show False.elim A
  |brk=>show False.elim A
  |cont=>show False.elim A
theorem zr2{M:Model}{A:ir}{E:Y0}{a T:Ad}{v g:Obj}{vs ts:Array Va}{Q:Unit->ik->Prop}(I:02 H s)(w:s.heap.get? a=G v)(hd:v.data=.fields vs)(Y:vs[1]?=G (.ref T))(p:s.heap.get? T=G g)(e:g.data=.fields ts)(C:3<ts.size)
  (l:H T=G (tbO T)) (h:∀h',02 H {s with heap:=h'}->Q () {s with heap:=h'}):wpAny M A (jT (.ref a) B) Q E s:=by
 unfold jT;apply ig<|i7 w hd Y ?_;rw[Xq<|show(Va.ref T !=Va.none)=N from by simp];apply iC p e C ?_;let d:∀b,b≠T->(s.heap.update T (Obj.mapFields (·.setIfInBounds 3 ((B:Option Ad).elim Va.none λf=>iB f)))).get? b=s.heap.get? b:=λb U=>y1f _ _<|Ne.symm U;let c:=Obj.data_mapFields e (·.setIfInBounds 3 ((B:Option Ad).elim Va.none λf=>iB f));let i:=y1j (Obj.mapFields (·.setIfInBounds 3 ((B:Option Ad).elim Va.none λf=>iB f))) p<|Obj.isFreed_of_fields c;apply h _<|I.touch (L:=[T]) (t':=s.toks) (λb o _ n q=>(d b λz=>n<|y0b.mpr z).trans q) (λb o U q=>⟨o.slots,(d b λz=>?_).trans q⟩) λb U=>?_
 .let:=I.stkFree b U;rw[z,l]at this;cases this
 .rw[y0b.mp U];show⟨_,l,⟨_,_,i,c⟩,_,i⟩
end
open PySem PySem.Spec PyProof.Rows PySem.W
structure KExc(K:Frag)(C:Ad):Prop where
 ga:findIn K (.ref C) "__getattribute__"=G (G<|.builtin "BaseException.__getattribute__")
 gn:findIn K (.ref C) "__getattr__"=G B
 cl:findIn K (.ref C) "__class__"=G (G<|.builtin "object.__class__")
 mb:mroIn K C (.type "BaseException")=G N
 mo:mroIn K C (.type "object")=G N
 ic:hasDictIn K C=N
section
variable {prog:im}{w:World}{A:ir}{E:Y0}{K:Frag}{h:Heap}{g:Array jq}{d:Drawn}{t:Nat}{os:OsState}{a C:Ad}{o:Obj}
theorem zvu(X:K.In h)(e:mroIn K C base=G r)(O:Q r ⟨h,g,d,t,os⟩):wpAny M A (isSubtype (.ref C) base) Q E ⟨h,g,d,t,os⟩:=looks_mroIn X e A Q E _ (λ_ _ e=>e) O
end
def rIsX(K:Frag):List V->Hp->VK->Prop:=λxs H Q=>∃a C S b,xs=[.ref a,.ref S]/\H a=G (excO a<|.ref C)/\KExc K C/\kitOne K (.ref C) (.ref S)=G b/\Q (.bl b) H
def rIsXT(K:Frag):List V->Hp->VK->Prop:=λxs H Q=>∃a C T b,xs=[.ref a,.ty T]/\H a=G (excO a<|.ref C)/\KExc K C/\kitOne K (.ref C) (.type T)=G b/\Q (.bl b) H
open PySem PySem.Spec PyProof.Rows PySem.W PySem.Calls
section
variable {M:Model}{A:ir}{E:Y0}{K:Frag}{h:Heap}{g:Array jq}{d:Drawn}{t:Nat}{os:OsState}
theorem zwp(X:K.In h)(e:typeIn K v=G c)(O:Q c ⟨h,g,d,t,os⟩):wpAny M A (typeOf v) Q E ⟨h,g,d,t,os⟩:=looks_typeIn X e A Q E _ (λ_ _ e=>e) O
structure KSup(K:Frag)(S:Ad):Prop where
 ty:typeIn K (.ref S)=G (.type "type")
 mb:mroIn K S (.type "BaseException")=G N
 ic:hasDictIn K S=N
theorem zj9(X:K.In h)(k:KSup K S)(he:h.get? e=G oe)(hcls:oe.cls=.ref C)(ms:mroIn K C (.ref S)=G N)(hq:Q N ⟨h,g,d,t,os⟩):wpAny M A (excMatches (.ref e)<|.ref S) Q E ⟨h,g,d,t,os⟩:=by
 let ty:=k.ty;let mb:=k.mb;let f:=tc_notTuple;let(cd,hcd,_):=any_some k.ic;unfold clsIn at hcd;split at hcd
 .rename_i c' d' cd' sl' ho;let hS:=X _ _ ho;unfold excMatches
  repeat (first|(with_reducible apply wpAny_loadPart_at he ?_;rw[hcls])|(with_reducible apply zwp X ty ?_)|with_reducible apply wpAny_loadPart_at hS ?_|(with_reducible apply zvu X mb ?_)|(with_reducible apply zvu X ms ?_)|wp_step)
  show hq
 .cases hcd
end
section
variable {X:Cx}{pins:Y2}{σ:St}{H:Hp}{s:ik}{k:Nat}{fa:Ad}{fd:i5}{ps:List Str}{sp:Sp}
def tTry(K:Frag)(S:Ad)(sp:Sp)(i j:Nat)(t:TA)(ts:TS):TS:=λD σ H=>t σ H λvs H1=>sp vs H1 (λv H2=>D.nx (σ.set i<|G v) H2) λcls oa H2=>∀a,oa=G a->∃C,cls=.ref C/\mroIn K C (.ref S)=G N/\
 ∀H3,Same H2 H3->H3 a=G (excO a cls)->ts {nx:=λl H'=>(∃v,l[j]?=G (G v))/\D.nx (l.set j B) H',rt:=λ_ _=>False} (σ.set j<|G (.ref a)) H3
end
theorem own_K{K:Frag}(X:K.In h)(L:mg x=G (.ref C))(q:excIn K C p c=N):OwnCls x C p c mg h:=by
 apply⟨L,?_⟩;unfold excIn at q;split at q
 .rename_i dd cd f j;split at q
  .rename_i u bm k0 k1 k2 k3 n k5 J g;simp only[y07,beq_iff_eq,y4d]at q;let(((((I,E),d),e),i),r):=q;let o:=X _ _ j;let(nm,bs,mro,ns,a,hd,sn,sub,ab,col,s):=cd;simp only at J d i r;subst J I E d;obtain⟨l⟩:=f;simp only at g;subst g;show⟨bm,ns,nm,a,bs,hd,sn,sub,ab,col,dd,k0,k1,k2,k3,k5,_,o,.of_isNs<|isNs_of_in X i,nsMap_none_of_in X i r,tail_of_in X e⟩
  .cases q
 .cases q
theorem zqb{X:Cx}{E:XK}{x:Str}{C:Ad}{Bq c i:String}{bm:List Va}{w r pos:Pos}{e:Expr}{rest:List Expr}{t:TA}(Rq:Rs X E)(Y:X.calm=N)(y:Gl X x)(J:X.mg x=G (.ref C))(A:excIn X.K C bm c=N)(FB:ExcBaseFacts Bq c i bm)(d:PA X (e::rest) t)
  (f:iq (e::rest) X.env=(Fa,eval e X.env)::iq rest X.env:=by rfl) (L:(ji r<|iq rest X.env).any (·.1)=Fa:=by rfl) (hd:(x==("__debug__":Str))=Fa:=by decide) :
  PS X (.Raise (G<|.Call (.Name x w) (e::rest) [] r) B pos) (tRaise E (.ref C) t):=λpins s σ H D I h =>
 ztz Rq Y y (own_K I.ok.mod.kin J A) FB d f L hd pins s σ H D I h
structure CalE(P:im)(w:World)(K:Frag)(mg:Y1)(base:Heap)(n:Nat)(x:Str)(ps:List Str)(sp:Sp):Prop where
 ex:∃f fd,FnOk P w K mg base (CXE P w) n f fd ps sp/\Binds K fd ps []/\PySem.W.keepIn K (.ref f)=N/\mg x=G (.ref f)
theorem Dfn.calE{P:im}{w:World}{K:Frag}{mg:Y1}{base:Heap}{x:Str}{st:Stmt}{Nq ps:List Str}{k:Nat}{sp:Sp}(d:Dfn K mg x st ps)(S:FnScope Nq ps<|defScope st)(len:∀vs H Q E,sp vs H Q E->vs.length=ps.length)
  (i:∀(f:Ad) (j:Va) (A:ir) (outer:List Env) (s:ik) (H:Hp) (vs:List V) (Q:VK) (E:XK),Room k (A.deeper<|jl x (defScope st) s.heap.objs.size f j)->sp vs H Q E->Rs (cxOf (CXE P w) P w K mg base Nq x (defScope st) f j A outer s H E) E->
   ∃t,PSs (cxOf (CXE P w) P w K mg base Nq x (defScope st) f j A outer s H E) (defBody st) t/\t {nx:=λ_ H'=>Q .non H',rt:=Q} (start Nq vs) H):CalE P w K mg base (k+1) x ps sp:=by
 let(f,fd,F,b,m):=d.ex;show⟨f,fd,F.okE S len<|i f,b,F.kp,m⟩
section
variable {prog:im}{w:World}{A:ir}{E:Y0}{s:ik}{env:Env}
theorem zry{K:Frag}{a C S:Ad}{t:Expr}{p:Stmt}{o:List Stmt}{pos:Pos}{rest:List jP}{Q:Flow->ik->Prop}(k:KSup K S)(ms:mroIn K C (.ref S)=G N)
  (h:wpAny (model prog w) (A.mark<|G (.ref a)) (eval t env) (λc s₁=>c=.ref S/\K.In s₁.heap/\(∃v,s₁.heap.get? a=G v/\v.cls=.ref C)/\
   wpAny (model prog w) (A.mark<|G (.ref a)) (jT (.ref a) B) (λ_ s₂=>wpAny (model prog w) (A.mark<|G (.ref a)) (execs (p::o) env) Q (λ_ _=>False) s₂) (λ_ _=>False) s₁) (λ_ _=>False) s) :
  wpAny (model prog w) A (handleBy (.ref a) env (.ExceptHandler (G t) B (p::o) pos::rest)) Q E s:=by
 apply wpAny_handleBy_cons (codeAny_handlers_test<|iy h (λc s₁ h₁=>?_) λ_ _ y=>False.elim y) (by intro q;cases q);let(rfl,KI,(v,f,e),D):=h₁;let(M,g,d,Y,os):=s₁;apply zj9 KI k f e ms<|codeAny_handlers_suite ?_;show iy D (λ_ s₂ l=>iy l (λ_ _ y=>y) λ_ _ y=>False.elim y) λ_ _ y=>False.elim y
end
section
variable {X:Cx}{pins:Y2}{σ:St}{H:Hp}{s:ik}{k:Nat}{fa:Ad}{fd:i5}{ps:List Str}{sp:Sp}
def tTryN(K:Frag)(S:Ad)(sp:Sp)(t:TA)(ts:TS):TS:=λD σ H=>t σ H λvs H1=>sp vs H1 (λv H2=>D.nx σ H2) λcls oa H2=>∀a,oa=G a->∃C,cls=.ref C/\mroIn K C (.ref S)=G N/\
 ∀H3,Same H2 H3->ts {nx:=D.nx,rt:=λ_ _=>False} σ H3
end
section
variable {X:Cx}{pins:Y2}{σ:St}{H:Hp}{s:ik}{k:Nat}{fa:Ad}{fd:i5}{ps:List Str}{sp:Sp}
def tTryX(K:Frag)(S:Ad)(sp:Sp)(i:Nat)(t:TA)(ts:TS):TS:=λD σ H=>t σ H λvs H1=>sp vs H1 (λv H2=>D.nx (σ.set i<|G v) H2) λcls oa H2=>∀a,oa=G a->∃C,cls=.ref C/\mroIn K C (.ref S)=G N/\
 ∀H3,Same H2 H3->ts {nx:=D.nx,rt:=λ_ _=>False} σ H3
end
end L2
namespace SS
open PySem PySem.Spec PyProof.Rows L2
noncomputable def SMALL:Str:="abcdefghijklmnopqrstuvwxyz"
noncomputable def GREAT:Str:="ABCDEFGHIJKLMNOPQRSTUVWXYZ"
noncomputable def FIGS:Str:="0123456789"
noncomputable def signIn(c:Nat)(z:Str):Bool:=!(Builtin.Str.occurrences z ⟨#[c]⟩ 0 z.length 1).isEmpty
def nameB(z a:Str):Bool:=match z.cps.toList with
 |[]=>Fa
 |c::r=>decide (r.length<=3)&&signIn c a&&r.all λd=>signIn d FIGS
def isNm(x:V)(a:Str):Bool:=match x with
 |.str z=>nameB z a
 |_=>Fa
def zwu:Sp:=λvs H Q _=>∃x a k,vs=[x,.str a]/\Kd H x k/\(∀z,x=.str z->z.length<=1000)/\∀H',Same H H'->Q (.bl<|isNm x a) H'
def zhv(a:Str):Sp:=λvs H Q _=>∃x k,vs=[x]/\Kd H x k/\(∀z,x=.str z->z.length<=1000)/\∀H',Same H H'->Q (.bl<|isNm x a) H'
structure Nam(z letters:Str):Prop where
 ex:∃d ds,z.cps.toList=d::ds/\d∈letters.cps.toList/\ds.length<=3/\∀x∈ds,x∈FIGS.cps.toList
theorem zpy(c:Nat)(z:Str):signIn c z=decide (c∈z.cps.toList):=PySem.StrLaws.found_one z c
def Thing(H:Hp)(y:V):Prop:=(∃k,Kd H y k)/\∀z,y=.str z->z.length<=1000
theorem Thing.same(h:Thing H y)(g:Same H H'):Thing H' y:=⟨let⟨k,q⟩:=h.1;⟨k,q.same g⟩,h.2⟩
theorem Thing.str(h:z.length<=1000):Thing H (.str z):=⟨⟨_,.str z⟩,λD e=>by cases e;show h⟩
theorem Thing.tup(e:H a=G (.tup xs)):Thing H (.ref a):=⟨⟨_,.tup e⟩,λD e=>by cases e⟩
def isName(x:V):Bool:=isNm x SMALL||isNm x GREAT
def ztj:Sp:=λvs H Q _=>∃x,vs=[x]/\Thing H x/\∀H',Same H H'->Q (.bl<|isName x) H'
theorem zep(h:isName x=N):∃z,x=.str z:=by
 cases x with
 |str z=>show⟨z,R⟩
 |_=>show Xa h (by simp[isName,isNm])
def frameB(xs:List V):Bool:=decide (xs.length<=4)&&xs.all isName&&decide xs.Nodup
def frB(H:Hp)(x:V):Bool:=match x with
 |.ref a=>match H a with
  |some (.lst xs)=>frameB xs
  |_=>Fa
 |_=>Fa
def Things(H:Hp)(xs:List V):Prop:=xs.length<=1000/\∀y∈xs,Thing H y
def zww:Sp:=λvs H Q _=>∃x,vs=[x]/\Thing H x/\(∀a xs,x=.ref a->H a=G (.lst xs)->Things H xs)/\∀H',Same H H'->Q (.bl<|frB H x) H'
theorem zhg:∀{xs:List V},xs.all isName=N->∃ks:List Key,xs=ks.map kV/\(xs.Nodup↔ks.Nodup)
 |[],_=>⟨[],R,by simp⟩
 |x::r,h=>by
  rw[y2b,y07]at h;let(z,rfl):=zep h.1;let(ks,e,n):=zhg h.2;apply⟨Sum.inr z::ks,by rw[y0r,←e];rfl,?_⟩;rw[y1u,y1u,n];apply and_congr_left λ_=>not_congr ?_;rw[e,y0j];constructor
  .rintro⟨k,D,e⟩;let:k=Sum.inr z:=kV_inj<|e.trans R;show this▸D
  .exactλD=>⟨_,D,R⟩
inductive zk2(K:Frag)(vs:List V)(H:Hp)(Q:VK)(_E:XK):Prop
 |mk (a:Ad) (ns:List Int) (k:Int):(vs=[.ref a,.int k])->(SqL K H a<|ns.map V.int)->(0<=k)->(∀c,Q (.int c) H)->zk2 K vs H Q _E
theorem zhj(Y:xs.length<=4)(M:xs.all isName=N)(C:xs.Nodup):frameB xs=N:=by
 unfold frameB;rw[Xg Y,M,Xg C];rfl
theorem zvj(f:q->s)(xs:List q)(lo hi:Option Int):cutL (xs.map f) lo hi=(cutL xs lo hi).map f:=by
 unfold cutL;rw[y01,List.map_take,List.map_drop]
inductive Sy where
 |bare (w n m:Str)
 |neg (s:Sy)
 |two (w:Str) (s t:Sy)
 |qu (w n:Str) (s:Sy)
noncomputable def rowWords:List Str:=["ahead","next"]
def treeWords:List Str:=["left","right","above"]
def bareWords:List Str:=["in","same","within","ahead","next","left","right","above"]
noncomputable def Sy.depth:Sy->Nat
 |.bare _ _ _=>1
 |.neg s=>s.depth+1
 |.two _ s t=>max s.depth t.depth+1
 |.qu _ _ s=>s.depth+1
noncomputable def Sy.parts:Sy->Nat
 |.bare _ _ _=>1
 |.neg s=>s.parts+1
 |.two _ s t=>s.parts+t.parts+1
 |.qu _ _ s=>s.parts+1
theorem Sy.parts_pos:∀s:Sy,1<=s.parts
 |.bare _ _ _=>y04 _
 |.neg s=>by unfold Sy.parts;omega
 |.two _ s t=>by unfold Sy.parts;omega
 |.qu _ _ s=>by unfold Sy.parts;omega
inductive Rep(H:Hp):V->Sy->Prop where
 |bare {a:Ad} {w n m:Str} (hw:w∈bareWords) (e:H a=G (.tup [.str w,.str n,.str m])):Rep H (.ref a)<|.bare w n m
 |neg {a:Ad} {x:V} {s:Sy} (e:H a=G (.tup [.str "not",x])) (h:Rep H x s):Rep H (.ref a)<|.neg s
 |two {a:Ad} {w:Str} {x y:V} {s t:Sy} (hw:w∈(["and","or"]:List Str)) (e:H a=G (.tup [.str w,x,y])) (h1:Rep H x s) (h2:Rep H y t):Rep H (.ref a)<|.two w s t
 |qu {a:Ad} {w n:Str} {x:V} {s:Sy} (hw:w∈(["some","all"]:List Str)) (e:H a=G (.tup [.str w,.str n,x])) (h:Rep H x s):Rep H (.ref a)<|.qu w n s
theorem Rep.same(r:Rep H v s)(g:Same H H'):Rep H' v s:=by
 induction r with
 |bare j e=>show .bare j<|g _ _ e
 |neg e _ E=>show .neg (g _ _ e) E
 |two j e _ _ f l=>show .two j (g _ _ e) f l
 |qu j e _ E=>show .qu j (g _ _ e) E
theorem Rep.tup(r:Rep H v s):∃a xs,v=.ref a/\H a=G (.tup xs):=by
 cases r with
 |bare j e=>show⟨_,_,R,e⟩
 |neg e _=>show⟨_,_,R,e⟩
 |two j e _ _=>show⟨_,_,R,e⟩
 |qu j e _=>show⟨_,_,R,e⟩
theorem zs2:∀w∈bareWords,inV (.str w) [.str "some",.str "all"]=Fa:=by decide+kernel
theorem zu7:∀w∈(["and","or"]:List Str),¬w=("not":Str):=by decide+kernel
theorem zrs:∀w∈(["and","or"]:List Str),inV (.str w) [.str "some",.str "all"]=Fa:=by decide+kernel
theorem zpo:∀w∈(["some","all"]:List Str),inV (.str w) [.str "some",.str "all"]=N:=by decide+kernel
theorem zuy:inV (.str "not") [.str "some",.str "all"]=Fa:=by decide+kernel
theorem zfm(z:Str)(l:List Str):inV (.str z) (l.map V.str)=decide (z∈l):=by
 induction l with
 |nil=>rfl
 |cons y r E =>
  let e:inV (.str z) ((y::r).map V.str)=(eqV (.str y) (.str z)||inV (.str z) (r.map V.str)):=rfl;rw[e,E,zsb];by_cases h:z=y
  .subst h;simp
  .let h':¬y=z:=λq=>h q.symm;simp[h,h']
noncomputable def isT(H:Hp)(x:V):Bool:=match x with
 |.ref a=>match H a with
  |some (.tup _)=>N
  |_=>Fa
 |_=>Fa
theorem Kd.isT(h:Kd H x k):subT k "tuple"=isT H x:=by
 cases h with
 |lst e=>simp only[SS.isT,e];decide
 |tup e=>simp only[SS.isT,e];decide
 |dK e=>simp only[SS.isT,e];decide
 |_=>rfl
def zb6:Sp:=λvs H Q _=>∃a xs,vs=[.ref a]/\H a=G (.tup xs)/\xs.length<=1000/\(∀y∈xs,∃k,Kd H y k)/\∀D H',H D=B->Same H H'->H' D=G (.lst<|xs.filter (isT H))->Q (.ref D) H'
noncomputable def Sy.inner:Sy->List Sy
 |.bare _ _ _=>[]
 |.neg s=>[s]
 |.two _ s t=>[s,t]
 |.qu _ _ s=>[s]
theorem Rep.kd(r:Rep H v s):Kd H v "tuple":=by
 let(a,xs,rfl,e):=r.tup;show .tup e
theorem Rep.isT(r:Rep H v s):isT H v=N:=by
 let(a,xs,rfl,e):=r.tup;simp only[SS.isT,e]
theorem Rep.items(r:Rep H v s):∃a xs,v=.ref a/\H a=G (.tup xs)/\xs.length<=3/\(∀y∈xs,∃k,Kd H y k)/\i4 (Rep H) (xs.filter<|SS.isT H) s.inner:=by
 cases r with
 |bare j e =>
  apply⟨_,_,R,e,y04 _,λy C=>?_,.nil⟩;simp only[y06,y0h,or_false]at C;rcases C with rfl|rfl|rfl<;>show⟨_,.str _⟩
 |neg e h =>
  apply⟨_,_,R,e,by simp,λy C=>?_,?_⟩
  .simp only[y06,y0h,or_false]at C;rcases C with rfl|rfl
   .exact⟨_,.str _⟩
   .exact⟨_,h.kd⟩
  .rw[y2g (by simp[SS.isT]),y2f h.isT];show .cons h .nil
 |two j e Y M =>
  apply⟨_,_,R,e,by simp,λy C=>?_,?_⟩
  .simp only[y06,y0h,or_false]at C;rcases C with rfl|rfl|rfl
   .exact⟨_,.str _⟩
   .exact⟨_,Y.kd⟩
   .exact⟨_,M.kd⟩
  .rw[y2g (by simp[SS.isT]),y2f Y.isT,y2f M.isT];show .cons Y<|.cons M .nil
 |qu j e h =>
  apply⟨_,_,R,e,by simp,λy C=>?_,?_⟩
  .simp only[y06,y0h,or_false]at C;rcases C with rfl|rfl|rfl
   .exact⟨_,.str _⟩
   .exact⟨_,.str _⟩
   .exact⟨_,h.kd⟩
  .rw[y2g (by simp[SS.isT]),y2g (by simp[SS.isT]),y2f h.isT];show .cons h .nil
noncomputable def Sy.isBare:Sy->Bool
 |.bare _ _ _=>N
 |_=>Fa
def zfs:Sp:=λvs H Q _=>∃v s,vs=[v]/\Rep H v s/\∀H',Same H H'->Q (.bl s.isBare) H'
theorem Paired.at:∀{xs:List q} {ys:List s} {i:Nat} {x:q},i4 Rq xs ys->xs[i]?=G x->∃y,ys[i]?=G y/\Rq x y
 |_,_,_,_,.nil,h=>by simp at h
 |_,_,0,_,.cons h _,e=>by simp at e;subst e;show⟨_,R,h⟩
 |_,_,i+1,_,.cons _ h,e=>by simp only[y20]at e ⊢;show Paired.at h e
theorem Paired.len:∀{xs:List q} {ys:List s},i4 Rq xs ys->xs.length=ys.length
 |_,_,.nil=>rfl
 |_,_,.cons _ h=>by rw[y0s,y0s,Paired.len h]
theorem zgb{s t:Sy}(h:t∈s.inner):t.depth<s.depth/\t.parts<s.parts:=by
 cases s with
 |bare w n m=>show nomatch h
 |neg s=>rw[y0b.mp h];show⟨y29 _,y29 _⟩
 |two w s1 s2 =>
  let h:t=s1\/t=s2:=by simpa[Sy.inner]using h
  let J:(Sy.two w s1 s2).depth=max s1.depth s2.depth+1:=rfl;let g:(Sy.two w s1 s2).parts=s1.parts+s2.parts+1:=rfl;rcases h with rfl|rfl<;>(rw[J,g];omega)
 |qu w n s=>rw[y0b.mp h];show⟨y29 _,y29 _⟩
theorem zfx{q:Type}{xs:List q}(h:1<=xs.length):¬(HT.sIx xs.length 0 (G 1)=0/\HT.sIx xs.length xs.length B=xs.length):=λz=>by
 let e:HT.sIx xs.length 0 (G ((1:Nat):Int))=min 1 xs.length:=HT.sIx_nat ..;let Q:HT.sIx xs.length 0 (G 1)=min 1 xs.length:=e;rw[Q]at z;omega
def isPl(z:Str):Bool:=isNm (.str z) SMALL
def isSt(z:Str):Bool:=isNm (.str z) GREAT
theorem nm_ex(h:isNm (.str z) l=N):∃c r,z.cps.toList=c::r/\r.length<=3/\c∈l.cps.toList/\∀d∈r,d∈FIGS.cps.toList:=by
 simp only[isNm,nameB]at h;split at h
 .cases h
 .rename_i c r e;rw[y07,y07,zpy,decide_eq_true_eq,decide_eq_true_eq,y11]at h;show⟨c,r,e,h.1.1,h.1.2,λd hd=>by have:=h.2 d hd;rw[zpy,decide_eq_true_eq]at this;show this⟩
theorem zor(h:isName (.str z)=N):isPl z=N\/isSt z=N:=by
 unfold isName at h;rw[y35]at h;show h
theorem zvi(w n:Str)(s:Sy):(Sy.qu w n s).depth=s.depth+1/\(Sy.qu w n s).parts=s.parts+1:=⟨R,R⟩
def forms:List (Str×List Str):=[("in",["place","set"]),("same",["place","place"]),("within",["set","set"]),("ahead",["place","place"]),("next",["place","place"]),("left",["place","place"]),("right",["place","place"]),("above",["place","place"]),
 ("not",["saying"]),("and",["saying","saying"]),("or",["saying","saying"]),("some",["name","saying"]),("all",["name","saying"])]
def sortB(a:V->Bool)(x:V)(s:Str):Bool:=if s="place" then isNm x SMALL else if s="set" then isNm x GREAT else if s="name" then isName x else a x
def zipB(a:V->Bool):List V->List Str->Bool
 |[],[]=>N
 |x::xs,s::M=>sortB a x s&&zipB a xs M
 |_,_=>Fa
def formH(H:Hp):Nat->V->Bool
 |0,_=>Fa
 |n+1,.ref a=>match H a with
  |some (.tup (.str w::r))=>match forms.lookup w with
   |some M=>zipB (formH H n) r M
   |none=>Fa
  |_=>Fa
 |_+1,_=>Fa
def Exp(H:Hp):Nat->V->Prop
 |0,v=>Thing H v
 |n+1,v=>Thing H v/\∀a xs,v=.ref a->H a=G (.tup xs)->xs.length<=1000/\∀x∈xs,Exp H n x
theorem Exp.thing:∀{n:Nat} {v:V},Exp H n v->Thing H v
 |0,_,h=>h
 |_+1,_,h=>h.1
theorem Thing.same_tup(h:Thing H<|.ref a)(g:Same H H')(e:H' a=G (.tup xs)):H a=G (.tup xs):=by
 let((k,D),_):=h;cases D with
 |lst z=>rw[g _ _ z]at e;cases e
 |tup z=>rw[g _ _ z]at e;cases e;show z
 |dK z=>rw[g _ _ z]at e;cases e
theorem Exp.same(g:Same H H'):∀{n:Nat} {v:V},Exp H n v->Exp H' n v
 |0,_,h=>Thing.same h g
 |n+1,v,h=>⟨h.1.same g,λa xs D e=>by
  subst D;let(Y,M):=h.2 a xs R<|h.1.same_tup g e;show⟨Y,λx O=>(M x O).same g⟩⟩
theorem zgv:∀{xs:List V} {M:List Str},(∀x∈xs,f x=g x)->zipB f xs M=zipB g xs M
 |[],[],_=>rfl
 |[],_::_,_=>rfl
 |_::_,[],_=>rfl
 |x::xs,s::M,h=>by
  change(sortB f x s&&zipB f xs M)=(sortB g x s&&zipB g xs M);rw[zgv λy C=>h y<|y0a _ C];unfold sortB;rw[h x y0c]
theorem zer(g:Same H H'):∀{n:Nat} {v:V},Exp H n v->formH H' n v=formH H n v
 |0,_,_=>rfl
 |n+1,v,h=>by
  cases v with
  |ref a =>
   let((k,D),_):=h.1;cases D with
   |lst z=>simp only[formH,z,g _ _ z]
   |dK z=>simp only[formH,z,g _ _ z]
   |tup z =>
    rename_i xs;let O:=(h.2 a xs R z).2;simp only[formH,z,g _ _ z];cases xs with
    |nil=>rfl
    |cons x r =>
     cases x with
     |str wd =>
      simp only[];cases forms.lookup wd with
      |none=>rfl
      |some M=>show zgv λy C=>zer g<|O y (y0a _ C)
     |_=>rfl
  |_=>rfl
theorem zmi:∀{xs:List V} {M:List Str},xs.length≠M.length->zipB f xs M=Fa
 |[],[],h=>Xa R h
 |[],_::_,_=>rfl
 |_::_,[],_=>rfl
 |x::xs,s::M,h=>by
  change(sortB f x s&&zipB f xs M)=Fa;rw[zmi λz=>h (congrArg (· + 1) z),y3a]
theorem zgu:∀{xs:List V} {M:List Str},xs.length=M.length->zipB f xs M=(List.range xs.length).all λi=>sortB f (xs.getD i .non) (M.getD i "")
 |[],[],_=>rfl
 |[],_::_,h=>nomatch h
 |_::_,[],h=>nomatch h
 |x::xs,s::M,h=>by
  change(sortB f x s&&zipB f xs M)=_;rw[zgu<|Nat.succ.inj h,y0s,y2k,y2b,y3m];rfl
def zhz(n:Nat):Sp:=λvs H Q _=>∃v,vs=[v,.int n]/\Exp H n v/\∀H',Same H H'->Q (.bl<|formH H n v) H'
def zk0(n:Nat):Sp:=λvs H Q _=>∃v s,vs=[v,.str s,.int n]/\Exp H n v/\∀H',Same H H'->Q (.bl<|sortB (formH H n) v s) H'
def sp_sort':Nat->Sp
 |0=>λ_ _ _ _=>False
 |n+1=>zk0 n
def wfB:Sy->Bool
 |.bare w n m=>if w="in" then isPl n&&isSt m else if w="within" then isSt n&&isSt m else isPl n&&isPl m
 |.neg s=>wfB s
 |.two _ s t=>wfB s&&wfB t
 |.qu _ n s=>isName (.str n)&&wfB s
noncomputable def letB(c:List Str)(d:Nat):List Str->Sy->Bool
 |a,.bare w n m=>decide (a.length<=d)&&decide (w∉c)&&(decide (n∈a)&&decide (m∈a))
 |a,.neg s=>decide (a.length<=d)&&decide (("not":Str)∉c)&&letB c d a s
 |a,.two w s t=>decide (a.length<=d)&&decide (w∉c)&&(letB c d a s&&letB c d a t)
 |a,.qu w n s=>decide (a.length<=d)&&decide (w∉c)&&(decide (n∉a)&&letB c d (a++[n]) s)
theorem Rep.det(r:Rep H v s)(q:Rep H v t):s=t:=by
 induction r generalizing t with
 |bare j e =>
  cases q with
  |bare i Q=>rw[e]at Q;cases Q;rfl
  |neg Q _=>rw[e]at Q;cases Q
  |two i Q Y _=>rw[e]at Q;cases Q;cases Y
  |qu i Q Y=>rw[e]at Q;cases Q;cases Y
 |neg e _ E =>
  cases q with
  |bare i Q=>rw[e]at Q;cases Q
  |neg Q h'=>rw[e]at Q;cases Q;rw[E h']
  |two i Q _ _=>rw[e]at Q;cases Q
  |qu i Q _=>rw[e]at Q;cases Q
 |two j e Y M f l =>
  cases q with
  |bare i Q=>rw[e]at Q;cases Q;cases Y
  |neg Q _=>rw[e]at Q;cases Q
  |two i Q a b=>rw[e]at Q;cases Q;rw[f a,l b]
  |qu i Q b=>rw[e]at Q;cases Q;cases Y
 |qu j e h E =>
  cases q with
  |bare i Q=>rw[e]at Q;cases Q;cases h
  |neg Q _=>rw[e]at Q;cases Q
  |two i Q a b=>rw[e]at Q;cases Q;cases a
  |qu i Q b=>rw[e]at Q;cases Q;rw[E b]
end SS
set_option maxHeartbeats 1000000
namespace SS
open PySem PySem.Spec PyProof.Rows L2
section
variable {f:V->Bool}{x y:V}{r:List V}{s1 s2:Str}
theorem zfw:sortB f x "place"=isNm x SMALL:=Xq R
theorem zfv:sortB f x "set"=isNm x GREAT:=by unfold sortB;rw[Xp (by decide+kernel),Xq rfl]
theorem zpt:sortB f x "name"=isName x:=by unfold sortB;rw[Xp (by decide+kernel),Xp (by decide+kernel),Xq rfl]
theorem zdj:sortB f x "saying"=f x:=by unfold sortB;rw[Xp (by decide+kernel),Xp (by decide+kernel),Xp<|by decide+kernel]
theorem zip_one:zipB f r [s1]=N↔∃x,r=[x]/\sortB f x s1=N:=by
 cases r with
 |nil=>simp[zipB]
 |cons x r =>
  cases r with
  |nil=>simp[zipB]
  |cons y r=>simp[zipB]
theorem zip_two:zipB f r [s1,s2]=N↔∃x y,r=[x,y]/\sortB f x s1=N/\sortB f y s2=N:=by
 cases r with
 |nil=>simp[zipB]
 |cons x r =>
  cases r with
  |nil=>simp[zipB]
  |cons y r =>
   cases r with
   |nil =>
    rw[show zipB f [x,y] [s1,s2]=(sortB f x s1&&(sortB f y s2&&N))from rfl,Bool.and_true,y07];show⟨λh=>⟨x,y,R,h⟩,λ⟨L,a,e,h⟩=>by cases e;show h⟩
   |cons z r=>simp[zipB]
theorem zhd(h:isNm x l=N):∃z,x=.str z:=by
 cases x with
 |str z=>show⟨z,R⟩
 |_=>cases h
end
theorem zva(h:forms.lookup wd=G M):(wd="in"/\M=(["place","set"]:List Str))\/(wd="within"/\M=(["set","set"]:List Str))\/(wd∈bareWords/\¬wd=("in":Str)/\¬wd=("within":Str)/\M=(["place","place"]:List Str))\/
  (wd="not"/\M=(["saying"]:List Str))\/(wd∈(["and","or"]:List Str)/\M=(["saying","saying"]:List Str))\/(wd∈(["some","all"]:List Str)/\M=(["name","saying"]:List Str)):=by
 let m:=mem_of_lookup' h;simp only[forms,y06,y0h,or_false,Prod.mk.injEq]at m;rcases m with⟨rfl,rfl⟩|⟨rfl,rfl⟩|⟨rfl,rfl⟩|⟨rfl,rfl⟩|⟨rfl,rfl⟩|⟨rfl,rfl⟩|⟨rfl,rfl⟩|⟨rfl,rfl⟩|⟨rfl,rfl⟩|⟨rfl,rfl⟩|⟨rfl,rfl⟩|⟨rfl,rfl⟩|⟨rfl,rfl⟩
 .exact .inl ⟨R,R⟩
 .exact .inr<|.inr (.inl ⟨by decide+kernel,by decide+kernel,by decide+kernel,R⟩)
 .exact .inr<|.inl ⟨R,R⟩
 .exact .inr<|.inr (.inl ⟨by decide+kernel,by decide+kernel,by decide+kernel,R⟩)
 .exact .inr<|.inr (.inl ⟨by decide+kernel,by decide+kernel,by decide+kernel,R⟩)
 .exact .inr<|.inr (.inl ⟨by decide+kernel,by decide+kernel,by decide+kernel,R⟩)
 .exact .inr<|.inr (.inl ⟨by decide+kernel,by decide+kernel,by decide+kernel,R⟩)
 .exact .inr<|.inr (.inl ⟨by decide+kernel,by decide+kernel,by decide+kernel,R⟩)
 .exact .inr<|.inr (.inr<|.inl ⟨R,R⟩)
 .exact .inr<|.inr (.inr<|.inr (.inl ⟨by decide+kernel,R⟩))
 .exact .inr<|.inr (.inr<|.inr (.inl ⟨by decide+kernel,R⟩))
 .exact .inr<|.inr (.inr<|.inr (.inr ⟨by decide+kernel,R⟩))
 .exact .inr<|.inr (.inr<|.inr (.inr ⟨by decide+kernel,R⟩))
theorem zo2:∀wd∈bareWords,forms.lookup wd=G (if wd=("in":Str)then(["place","set"]:List Str)else if wd=("within":Str)then(["set","set"]:List Str)else(["place","place"]:List Str)):=by decide+kernel
theorem zo1:∀wd∈(["and","or"]:List Str),forms.lookup wd=G (["saying","saying"]:List Str):=by decide+kernel
theorem zo0:∀wd∈(["some","all"]:List Str),forms.lookup wd=G (["name","saying"]:List Str):=by decide+kernel
theorem zr0:forms.lookup ("not":Str)=G (["saying"]:List Str):=by decide+kernel
theorem zc7:∀{n:Nat} {v:V},formH H n v=N->∃s,Rep H v s/\wfB s=N/\s.depth<=n
 |0,_,h=>by cases h
 |n+1,v,h=>by
  cases v with
  |ref a =>
   simp only[formH]at h;split at h
   .rename_i wd r e;split at h
    .rename_i g hs;rcases zva hs with⟨rfl,rfl⟩|⟨rfl,rfl⟩|⟨j,I,c,rfl⟩|⟨rfl,rfl⟩|⟨j,rfl⟩|⟨j,rfl⟩
     .let(x,y,rfl,Y,M):=zip_two.mp h;rw[zfw]at Y;rw[zfv]at M;let(U,rfl):=zhd Y;let(E,rfl):=zhd M;apply⟨.bare "in" U E,.bare (by decide+kernel) e,?_,y2t<|y18 _⟩;change(if _ then _ else _)=N;rw[Xq R,y07];show⟨Y,M⟩
     .let(x,y,rfl,Y,M):=zip_two.mp h;rw[zfv]at Y M;let(U,rfl):=zhd Y;let(E,rfl):=zhd M;apply⟨.bare "within" U E,.bare (by decide+kernel) e,?_,y2t<|y18 _⟩;change(if _ then _ else if _ then _ else _)=N;rw[Xp (by decide+kernel),Xq R,y07];show⟨Y,M⟩
     .let(x,y,rfl,Y,M):=zip_two.mp h;rw[zfw]at Y M;let(U,rfl):=zhd Y;let(E,rfl):=zhd M;apply⟨.bare wd U E,.bare j e,?_,y2t<|y18 _⟩;change(if _ then _ else if _ then _ else _)=N;rw[Xp I,Xp c,y07];show⟨Y,M⟩
     .let(x,rfl,Y):=zip_one.mp h;rw[zdj]at Y;let(s,r,d,p):=zc7 Y;show⟨.neg s,.neg e r,d,y2t p⟩
     .let(x,y,rfl,Y,M):=zip_two.mp h;rw[zdj]at Y M;let(s,r,d,p):=zc7 Y;let(t,q,f,i):=zc7 M;apply⟨.two wd s t,.two j e r q,?_,y2t<|Nat.max_le.mpr ⟨p,i⟩⟩;change(wfB s&&wfB t)=N;rw[d,f];rfl
     .let(x,y,rfl,Y,M):=zip_two.mp h;rw[zpt]at Y;rw[zdj]at M;let(U,rfl):=zep Y;let(t,q,f,i):=zc7 M;apply⟨.qu wd U t,.qu j e q,?_,y2t i⟩;change(isName _&&wfB t)=N;rw[Y,f];rfl
    .cases h
   .cases h
  |_=>cases h
theorem zmx(r:Rep H v s):∀{n:Nat},wfB s=N->s.depth<=n->formH H n v=N:=by
 induction r with
 |bare j e =>
  rename_i a wd I i;intro n h d;cases n with
  |zero=>show Xa d (by change¬1<=0;decide)
  |succ n =>
   simp only[formH,e,zo2 wd j];by_cases Y:wd=("in":Str)
   .rw[Xq Y];let h':(isPl I&&isSt i)=N:=by have z:(if _ then _ else _)=N:=h;rw[Xq Y]at z;show z
    rw[y07]at h';show zip_two.mpr ⟨_,_,R,by rw[zfw];show h'.1,by rw[zfv];show h'.2⟩
   .rw[Xp Y];by_cases U:wd=("within":Str)
    .rw[Xq U];let h':(isSt I&&isSt i)=N:=by have z:(if _ then _ else if _ then _ else _)=N:=h;rw[Xp Y,Xq U]at z;show z
     rw[y07]at h';show zip_two.mpr ⟨_,_,R,by rw[zfv];show h'.1,by rw[zfv];show h'.2⟩
    .rw[Xp U];let h':(isPl I&&isPl i)=N:=by have z:(if _ then _ else if _ then _ else _)=N:=h;rw[Xp Y,Xp U]at z;show z
     rw[y07]at h';show zip_two.mpr ⟨_,_,R,by rw[zfw];show h'.1,by rw[zfw];show h'.2⟩
 |neg e _ E =>
  intro n h d;cases n with
  |zero=>show Xa d<|y3z _
  |succ n =>
   simp only[formH,e,zr0];show zip_one.mpr ⟨_,R,by rw[zdj];show E h<|y3u d⟩
 |two j e _ _ f l =>
  rename_i s t _ _;intro n h d;cases n with
  |zero=>show Xa d<|y3z _
  |succ n =>
   let d':=Nat.max_le.mp<|y3u d;let h':(wfB s&&wfB t)=N:=h;rw[y07]at h';simp only[formH,e,zo1 _ j];show zip_two.mpr ⟨_,_,R,by rw[zdj];show f h'.1 d'.1,by rw[zdj];show l h'.2 d'.2⟩
 |qu j e _ E =>
  rename_i nm _ s _;intro n h d;cases n with
  |zero=>show Xa d<|y3z _
  |succ n =>
   let h':(isName (.str nm)&&wfB s)=N:=h;rw[y07]at h';simp only[formH,e,zo0 _ j];show zip_two.mpr ⟨_,_,R,by rw[zpt];show h'.1,by rw[zdj];show E h'.2<|y3u d⟩
def zfg(n:Nat):Sp:=λvs H Q _=>∃v s,vs=[v]/\Rep H v s/\s.depth<n/\∀H',Same H H'->Q (.int s.parts) H'
def AnySay(H:Hp)(v:V)(s:Sy):Prop:=Rep H v s/\wfB s=N/\s.depth<=12/\s.parts<=60
def zja:Sp:=λvs H Q _=>∃v,vs=[v]/\Exp H 12 v/\∀b H',Same H H'->(b=N↔∃s,AnySay H v s)->Q (.bl b) H'
def zi8(K:Frag)(bw:List Str)(n:Nat):Sp:=λvs H Q _=>∃v a c s tl mo,vs=[v,.ref a,.ref c,.int (mo:Nat)]/\Rep H v s/\s.depth<n/\H a=G (.lst<|List.map V.str tl)/\tl.length+s.depth<=300/\(∀H,SqT K H c<|bw.map V.str)/\∀H',Same H H'->Q (.bl<|letB bw mo tl s) H'
def SayOk(H:Hp)(bw:List Str)(mo:Nat)(v u:V):Prop:=∃a tl s,u=.ref a/\H a=G (.lst<|List.map V.str tl)/\frameB (List.map V.str tl)=N/\AnySay H v s/\letB bw mo tl s=N
def zmr(bw:List Str)(mo:Nat):Sp:=λvs H Q _=>∃v u,vs=[v,u]/\Exp H 12 v/\Thing H u/\(∀a xs,u=.ref a->H a=G (.lst xs)->Things H xs)/\∀b H',Same H H'->(b=N↔SayOk H bw mo v u)->Q (.bl b) H'
structure Forms(K:Frag)(w:World)(fa:Ad):Prop where
 ex:∃f,DctK K w fa f/\∀x,(∃ss b,forms.lookup x=G ss/\f x=G (.ref b)/\∀H,SqT K H b<|List.map V.str ss)\/(forms.lookup x=B/\f x=B)
noncomputable def wordOf:Sy->Str
 |.bare w _ _=>w
 |.neg _=>"not"
 |.two w _ _=>w
 |.qu w _ _=>w
def letR(c:List Str)(d:Nat)(a:List Str):Sy->Bool
 |.bare _ n m=>decide (n∈a)&&decide (m∈a)
 |.neg s=>letB c d a s
 |.two _ s t=>letB c d a s&&letB c d a t
 |.qu _ n s=>decide (n∉a)&&letB c d (a++[n]) s
theorem zxz(bw:List Str)(mo:Nat)(tl:List Str)(s:Sy):letB bw mo tl s=(decide (tl.length<=mo)&&decide (wordOf s∉bw)&&letR bw mo tl s):=by cases s<;>rfl
theorem zou(a:∀w n t,s ≠ .qu w n t)(U:s.isBare=Fa):letR bw mo tl s=s.inner.all (letB bw mo tl):=by
 cases s with
 |bare w n m=>cases U
 |neg s=>simp[Sy.inner,letR]
 |two w s t=>simp[Sy.inner,letR]
 |qu w n t=>show Xa R<|a w n t
theorem zcs:∀(l:List Sy),((List.range l.length).map λi=>((l[i]?).map f).getD N).all id=l.all f
 |[]=>rfl
 |x::r=>by
  rw[y0s,y2k,y0r,y0u,y2b,y2b,←zcs r];rfl
theorem zhf:∀{xs:List V},xs.all isName=N->∃tl:List Str,xs=tl.map V.str
 |[],_=>⟨[],R⟩
 |x::r,h=>by
  rw[y2b,y07]at h;let(z,rfl):=zep h.1;let(tl,e):=zhf h.2;show⟨z::tl,by rw[y0r,←e]⟩
theorem frB_ex(h:frB H x=N):∃a tl,x=.ref a/\H a=G (.lst<|List.map V.str tl)/\frameB (List.map V.str tl)=N/\tl.length<=4:=by
 cases x with
 |ref a =>
  simp only[frB]at h;split at h
  .rename_i xs e;let h':=h;unfold frameB at h';rw[y07,y07,decide_eq_true_eq]at h';let(tl,rfl):=zhf h'.1.2;show⟨a,tl,R,e,h,by have:=h'.1.1;rw[y01]at this;show this⟩
  .cases h
 |_=>cases h
open L2
theorem zmo:∀{a b:List PySem.Str},a.map V.str=b.map V.str->a=b
 |[],[],_=>rfl
 |[],_::_,h=>by cases h
 |_::_,[],h=>by cases h
 |x::a,y::b,h=>by
  rw[y0r,y0r,List.cons.injEq]at h;rw[V.str.inj h.1,zmo h.2]
inductive Lit where
 |str (z:Str)
 |oth
 |tnil
 |tcons (x r:Lit)
 deriving DecidableEq
def Oth(H:Hp)(v:V):Prop:=∃k,Kd H v k/\k≠"str"/\k≠"tuple"
def LitAt(H:Hp):Lit->V->Prop
 |.str z,v=>v=.str z/\z.length<=1000
 |.oth,v=>Oth H v
 |.tnil,v=>∃a,v=.ref a/\H a=G (.tup [])
 |.tcons x r,v=>∃a y ys,v=.ref a/\H a=G (.tup (y::ys))/\ys.length<=100/\LitAt H x y/\Items H r ys
where Items (H:Hp):Lit->List V->Prop
 |.tcons x r,ys=>∃z zs,ys=z::zs/\LitAt H x z/\Items H r zs
 |.tnil,ys=>ys=[]
 |_,_=>False
abbrev Items:=LitAt.Items
theorem Oth.same(g:Same H H')(h:Oth H v):Oth H' v:=let⟨k,z,r⟩:=h;⟨k,z.same g,r⟩
mutual
theorem LitAt.same(g:Same H H'):∀{l:Lit} {v:V},LitAt H l v->LitAt H' l v
 |.str z,_,h=>h
 |.oth,_,h=>Oth.same g h
 |.tnil,_,⟨a,e,h⟩=>⟨a,e,g _ _ h⟩
 |.tcons x r,_,⟨a,y,ys,e,h,hl,Y,M⟩=>⟨a,y,ys,e,g _ _ h,hl,LitAt.same g Y,Items.same g M⟩
theorem Items.same(g:Same H H'):∀{l:Lit} {ys:List V},Items H l ys->Items H' l ys
 |.tcons x r,_,⟨z,zs,e,Y,M⟩=>⟨z,zs,e,LitAt.same g Y,Items.same g M⟩
 |.tnil,_,h=>h
 |.str _,_,h=>h
 |.oth,_,h=>h
end
theorem LitAt.thing:∀{l:Lit} {v:V},LitAt H l v->Thing H v
 |.str z,_,⟨e,h⟩=>by subst e;show .str h
 |.oth,v,⟨k,h,Y,_⟩=>⟨⟨k,h⟩,λz e=>by subst e;cases h;show Xa R Y⟩
 |.tnil,_,⟨a,e,h⟩=>by subst e;show .tup h
 |.tcons x r,_,⟨a,y,ys,e,h,_,_,_⟩=>by subst e;show .tup h
mutual
theorem LitAt.exp:∀(n:Nat) {l:Lit} {v:V},LitAt H l v->Exp H n v
 |0,_,_,h=>h.thing
 |n+1,.str z,_,h=>⟨h.thing,λa xs e _=>by rw[h.1]at e;cases e⟩
 |n+1,.oth,v,h=>⟨h.thing,λa xs e Q=>by
  subst e;let(k,D,_,M):=h;show Xa (D.inj<|.tup Q) M⟩
 |n+1,.tnil,_,h=>⟨h.thing,λa xs e Q=>by
  let(A,J,g):=h;rw[e]at J;cases J;rw[g]at Q;cases Q;show⟨y18 _,λx O=>nomatch O⟩⟩
 |n+1,.tcons x r,_,h=>⟨h.thing,λa xs e Q=>by
  let(A,y,ys,J,g,hl,Y,M):=h;rw[e]at J;cases J;rw[g]at Q;cases Q;apply⟨by rw[y0s];omega,λL O=>?_⟩;rcases y06.mp O with rfl|O
  .exact LitAt.exp n Y
  .exact Items.exp n M L O⟩
theorem Items.exp:∀(n:Nat) {l:Lit} {ys:List V},Items H l ys->∀y∈ys,Exp H n y
 |n,.tcons x r,_,⟨z,zs,e,Y,M⟩,y,C=>by
  subst e;rcases y06.mp C with rfl|C
  .exact LitAt.exp n Y
  .exact Items.exp n M y C
 |n,.tnil,_,h,y,C=>by rw[show _=[]from h]at C;show nomatch C
 |n,.str _,_,h,y,C=>False.elim h
 |n,.oth,_,h,y,C=>False.elim h
end
theorem zez(h:isNm (.str z) l=N):z.length<=4:=by
 let(c,r,e,hl,_):=nm_ex h;rw[zky,e,y0s];omega
theorem zu2(h:isName (.str z)=N):z.length<=4:=(zor h).elim zez zez
theorem zku:∀w∈bareWords,w.length<=1000:=by decide+kernel
theorem ztc(h:wfB (.bare w n m)=N):n.length<=4/\m.length<=4:=by
 let h':(if w=("in":Str)then isPl n&&isSt m else if w=("within":Str)then isSt n&&isSt m else isPl n&&isPl m)=N:=h;split at h'
 .rw[y07]at h';show⟨zez h'.1,zez h'.2⟩
 .split at h'
  .rw[y07]at h';show⟨zez h'.1,zez h'.2⟩
  .rw[y07]at h';show⟨zez h'.1,zez h'.2⟩
theorem Exp.str(h:z.length<=1000):∀n,Exp H n (.str z)
 |0=>Thing.str h
 |n+1=>⟨Thing.str h,λa xs e=>by cases e⟩
theorem Exp.tup(e:H a=G (.tup xs))(hl:xs.length<=1000)(h:∀x∈xs,Exp H n x):Exp H (n+1) (.ref a) :=
 ⟨Thing.tup e,λA c D Q=>by cases D;rw[e]at Q;cases Q;show⟨hl,h⟩⟩
theorem Rep.exp(r:Rep H v s):wfB s=N->∀n,Exp H n v:=by
 induction r with
 |bare j e =>
  intro h n;let(l1,l2):=ztc h;cases n with
  |zero=>show Thing.tup e
  |succ n =>
   apply Exp.tup e (by simp) λx O=>?_;simp only[y06,y0h,or_false]at O;rcases O with rfl|rfl|rfl
   .exact Exp.str (zku _ j) n
   .exact Exp.str 00 n
   .exact Exp.str 00 n
 |neg e _ E =>
  intro h n;cases n with
  |zero=>show Thing.tup e
  |succ n =>
   apply Exp.tup e (by simp) λx O=>?_;simp only[y06,y0h,or_false]at O;rcases O with rfl|rfl
   .exact Exp.str (by decide+kernel) n
   .exact E h n
 |two j e _ _ f l =>
  rename_i w _ _ s t _ _;intro h n;let h':(wfB s&&wfB t)=N:=h;rw[y07]at h';cases n with
  |zero=>show Thing.tup e
  |succ n =>
   apply Exp.tup e (by simp) λx O=>?_;simp only[y06,y0h,or_false]at O;rcases O with rfl|rfl|rfl
   .refine Exp.str ?_ n;let:∀w∈(["and","or"]:List Str),w.length<=1000:=by decide+kernel
    show this w j
   .exact f h'.1 n
   .exact l h'.2 n
 |qu j e _ E =>
  rename_i w nm _ s _;intro h n;let h':(isName (.str nm)&&wfB s)=N:=h;rw[y07]at h';cases n with
  |zero=>show Thing.tup e
  |succ n =>
   apply Exp.tup e (by simp) λx O=>?_;simp only[y06,y0h,or_false]at O;rcases O with rfl|rfl|rfl
   .refine Exp.str ?_ n;let:∀w∈(["some","all"]:List Str),w.length<=1000:=by decide+kernel
    show this w j
   .exact Exp.str (by have:=zu2 h'.1;omega) n
   .exact E h'.2 n
theorem zfp{tl:List Str}(hl:tl.length<=1000)(h:∀z∈tl,z.length<=1000):Things H (tl.map V.str):=by
 apply⟨by rw[y01];show hl,λy C=>?_⟩;let(z,a,rfl):=y0j.mp C;show .str<|h z a
section
variable {K:Frag}{w:World}{h:Heap}{mg:Y1}
theorem sqt_mk(l:K.lookup p=G ⟨.type "tuple",M,.seq its n,f⟩)(z:its.size<=io)(r:Vals xs its.toList):∀H,SqT K H p xs :=
 λH=>.inr ⟨_,its,n,l,R,R,z,r⟩
def Entry(K:Frag)(e:DictEntry)(p:Str×List Str):Prop:=(∃t,e.key=.str p.1 t)/\∃b,e.val=.ref b/\∀H,SqT K H b<|List.map V.str p.2
theorem zco:∀{l:List DictEntry} {ps:List (Str×List Str)},i4 (Entry K) l ps->∀x,(∃M b,ps.lookup x=G M/\lz Va.isStrOf l.toArray x=G (.ref b)/\∀H,SqT K H b<|List.map V.str M)\/(ps.lookup x=B/\lz Va.isStrOf l.toArray x=B)
 |_,_,.nil,x=>.inr ⟨R,by simp[lz]⟩
 |e::l,p::ps,.cons ⟨⟨t,I⟩,b,D,U⟩ r,x=>by
  let E:=zco r x;unfold lz at E ⊢;rw[List.find?_toArray]at E ⊢;rw[y12,y2p];by_cases h:x=p.1
  .subst h;let J:Va.isStrOf p.1 e.key=N:=by rw[I];simp[Va.isStrOf]
   rw[J,beq_self_eq_true];show .inl ⟨_,b,R,congrArg G D,U⟩
  .let h':¬p.1=x:=λq=>h q.symm;let J:Va.isStrOf x e.key=Fa:=by rw[I];simp[Va.isStrOf,h']
   let g:(x==p.1)=Fa:=by simp[h]
   rw[J,g];show E
theorem forms_mk(X:K.In h)(Gq:h.Ns iz mg)(a:PySem.W.nsIn K iz "FORMS"=G (G<|.ref p))(lo:(p==iJ)=Fa)(l:K.lookup p=G ⟨.type "dict",B,.dict r n,#[]⟩)
  (D:PySem.W.KeysLit w.params r.toList) (f:i4 (Entry K) r.toList forms):∃q,GlV mg "FORMS" (.ref q)/\Forms K w q:=by
 apply⟨p,⟨_,PySem.W.mg_of X Gq a,R⟩,⟨λx=>match lz Va.isStrOf r x with|some (.ref b)=>G (.ref b)|_=>B,⟨lo,r,n,l,D,λx=>?_⟩,λx=>?_⟩⟩
 .rcases zco f x with⟨M,b,J,g,_⟩|⟨J,g⟩
  .simp only[g];show R
  .simp only[g];show trivial
 .rcases zco f x with⟨M,b,J,g,U⟩|⟨J,g⟩
  .exact .inl ⟨M,b,J,by simp only[g],U⟩
  .exact .inr ⟨J,by simp only[g]⟩
end
end SS
namespace SM
structure Mc where
 w:Nat
 ways:List (List Nat)
 ends:List Bool
noncomputable abbrev mM:=Mc.mk
structure Mc.Ok(m:Mc):Prop where
 wid:m.w<=4
 pos:0<m.ends.length
 few:m.ends.length<=100
 len:m.ways.length=m.ends.length
 line:∀l∈m.ways,l.length=2^m.w
 room:∀l∈m.ways,∀r∈l,r<m.ends.length
abbrev Mc.n(m:Mc):Nat:=m.ends.length
def Mc.go(m:Mc)(r l:Nat):Nat:=(m.ways.getD r []).getD l 0
noncomputable def Mc.fin(m:Mc)(r:Nat):Bool:=m.ends.getD r Fa
theorem Mc.Ok.at{m:Mc}(ok:m.Ok)(L:r<m.ends.length)(hl:l<2^m.w):∃line,m.ways[r]?=G line/\line[l]?=G (m.go r l)/\m.go r l<m.ends.length:=by
 let Y:r<m.ways.length:=by rw[ok.len];show L
 let J:m.ways[r]?=G m.ways[r]:=y00 Y;let M:l<m.ways[r].length:=by rw[ok.line _<|y0n Y];show hl
 let g:m.ways[r][l]?=G m.ways[r][l]:=y00 M;let q:m.go r l=m.ways[r][l]:=by
  simp only[Mc.go,y02,J,y0y,g]
 show⟨_,J,by rw[q];show g,by rw[q];show ok.room _ (y0n Y) _<|y0n M⟩
theorem Mc.Ok.go_lt{m:Mc}(ok:m.Ok)(L:r<m.n)(hl:l<2^m.w):m.go r l<m.n:=let⟨_,_,_,h⟩:=ok.at L hl;h
theorem Mc.fin_at{m:Mc}(L:r<m.ends.length):m.ends[r]?=G (m.fin r):=by
 unfold Mc.fin;rw[y02,y00 L,y0y]
def Mc.run(m:Mc)(r:Nat)(row:List Nat):Nat:=row.foldl m.go r
theorem Mc.run_snoc(m:Mc)(r:Nat)(row:List Nat)(l:Nat):m.run r (row++[l])=m.go (m.run r row) l:=by unfold Mc.run;rw[List.foldl_append];rfl
theorem Mc.run_cons(m:Mc)(r l:Nat)(row:List Nat):m.run r (l::row)=m.run (m.go r l) row:=rfl
theorem zqc(n:Nat):(2:Int)^n=((2^n:Nat):Int):=by
 induction n with
 |zero=>rfl
 |succ n E=>rw[Int.pow_succ,y4e,E];omega
theorem zbr(h:w<=4):1<=2^w/\2^w<=16:=by
 let:w=0\/w=1\/w=2\/w=3\/w=4:=by omega
 rcases this with rfl|rfl|rfl|rfl|rfl<;>decide
def Mc.Row(m:Mc)(row:List Nat):Prop:=∀l∈row,l<2^m.w
def Par(m:Mc)(r:Nat)(O:Mc)(r':Nat):Prop:=∀row,m.Row row->m.fin (m.run r row)=O.fin (O.run r' row)
theorem Mc.Row.cons{m:Mc}(hl:l<2^m.w)(h:m.Row row):m.Row (l::row):=λx O=>by
 rcases y06.mp O with rfl|O
 .exact hl
 .exact h x O
theorem Mc.Row.nil(m:Mc):m.Row []:=λ_ h=>nomatch h
theorem Par.go{m O:Mc}(h:Par m r O r')(hl:l<2^m.w):Par m (m.go r l) O (O.go r' l):=λrow L=>h (l::row)<|L.cons hl
theorem Par.symm(h:Par m r O r')(j:m.w=O.w):Par O r' m r:=λrow L=>(h row λl hl=>by rw[j];show L l hl).symm
theorem Par.trans(h:Par m r O r')(h':Par O r' a r'')(j:m.w=O.w):Par m r a r'':=λrow L=>(h row L).trans (h' row λl hl=>by rw[←j];show L l hl)
theorem Par.fin(h:Par m r O r'):m.fin r=O.fin r':=h []<|Mc.Row.nil m
theorem Par.of(Rq:Nat->Nat->Prop)(T:∀r r',Rq r r'->m.fin r=a.fin r')(y:∀r r' l,Rq r r'->l<2^m.w->Rq (m.go r l) (a.go r' l))(h:Rq r r'):Par m r a r':=λrow=>by
 induction row generalizing r r' with
 |nil=>showλ_=>T r r' h
 |cons l row E=>showλL=>E (y r r' l h<|L l y0c) λx O=>L x<|y0a _ O
def Lex(r' l' r l:Nat):Prop:=r'<r\/(r'=r/\l'<l)
structure Mc.Ord(m:Mc):Prop where
 grow:∀r l b,r<m.n->l<2^m.w->0<b->b<m.go r l->∃r' l',l'<2^m.w/\Lex r' l' r l/\m.go r' l'=b
 par:∀b,0<b->b<m.n->∃r' l',r'<b/\l'<2^m.w/\m.go r' l'=b
structure Canon(m:Mc):Prop where
 ord:m.Ord
 dist:∀i j,i<m.n->j<m.n->Par m i m j->i=j
theorem zho{i m2:Mc}(j:i.w=m2.w)(v:Canon m2)(a:Par i 0 m2 0)(c:r<m2.n)(M:m2.Ok)(hl:l<2^i.w)(O:Par i r m2 r)
  (d:∀r',r'<r->Par i r' m2 r'/\∀l,l<2^i.w->i.go r' l=m2.go r' l) (o:∀l',l'<l->i.go r l'=m2.go r l') (h:i.go r l<m2.go r l):False:=by
 let x:l<2^m2.w:=by rw[←j];show hl
 let U:=M.go_lt c x;let g:=O.go hl;let fin:Par i (i.go r l) m2 (i.go r l)->False:=λp=>by
  let q:=(p.symm j).trans g j.symm;let:=v.dist _ _ 00 U q;omega
 by_cases E:i.go r l=0
 .rw[E]at fin;show fin a
 .let(r',l',w,u,e):=v.ord.grow r l (i.go r l) c x 00 h;rw[←j]at w;rcases u with f|⟨rfl,f⟩
  .let(p,q):=d r' f;let z:=p.go w;rw[q l' w,e]at z;show fin z
  .let z:=O.go w;rw[o l' f,e]at z;show fin z
theorem zdq(j:i.w=m2.w)(D:i.Ok)(v:m2.Ok)(I:Canon i)(U:Canon m2)(a:Par i 0 m2 0)(r:Nat)(Y:r<i.n)(M:r<m2.n):Par i r m2 r/\∀l,l<2^i.w->i.go r l=m2.go r l:=by
 induction r using Nat.strongRecOn with
 |_ r E =>
  let d:∀r',r'<r->Par i r' m2 r'/\∀l,l<2^i.w->i.go r' l=m2.go r' l:=λr' h=>E r' h 00 00;let O:Par i r m2 r:=by
   by_cases g:r=0
   .subst g;show a
   .let(r',l',c,w,e):=I.ord.par r 00 Y;let(p,q):=d r' c;let z:=p.go w;rw[←q l' w,e]at z;show z
  apply⟨O,λl=>?_⟩
  induction l using Nat.strongRecOn with
  |_ l o =>
   intro hl;let f:∀l',l'<l->i.go r l'=m2.go r l':=λl' h=>o l' h 00;rcases y47 (i.go r l) (m2.go r l)with h|h|h
   .exact(zho j U a M v hl O d f h).elim
   .exact h
   .refine(zho j.symm I (a.symm j) Y D (by rw[←j];show hl) (O.symm j) (λr' c=>?_) (λl' w=>(f l' w).symm) h).elim;let(p,q):=d r' c;show⟨p.symm j,λl hl=>(q l<|by rw[j];show hl).symm⟩
theorem Mc.ext_go{i m2:Mc}(D:i.Ok)(v:m2.Ok)(j:i.w=m2.w)(I:i.n=m2.n)(y:∀r l,r<i.n->l<2^i.w->i.go r l=m2.go r l)(T:∀r,r<i.n->i.fin r=m2.fin r):i=m2:=by
 let J:i.ways=m2.ways:=by
  apply y2x (by rw[D.len,v.len];show I) λr Y M=>?_;apply y2x (by rw[D.line _<|y0n Y,v.line _<|y0n M,j]) λl C h4=>?_;let L:r<i.n:=by rw[D.len]at Y;show Y
  let hl:l<2^i.w:=by rw[D.line _<|y0n Y]at C;show C
  let:=y r l L hl;unfold Mc.go at this;simpa[y02,y00 Y,y00 M,y00 C,y00 h4]using this
 let g:i.ends=m2.ends:=by
  apply y2x I λr Y M=>?_;let:=T r Y;unfold Mc.fin at this;simpa[y02,y00 Y,y00 M]using this
 cases i;cases m2
 simp_all
theorem znq{i m2:Mc}(j:i.w=m2.w)(D:i.Ok)(v:m2.Ok)(Y:Canon i)(U:Canon m2)(a:Par i 0 m2 0):m2.n<=i.n:=by
 apply y2u λh=>?_;let L:0<i.n:=D.pos;let(r',l',c,w,e):=U.ord.par i.n L h;let d:l'<2^i.w:=by rw[j];show w
 let z:=(zdq j D v Y U a r' c 00).2 l' d;let:=D.go_lt c d;omega
theorem zd6(j:i.w=m2.w)(D:i.Ok)(v:m2.Ok)(Y:Canon i)(U:Canon m2)(a:Par i 0 m2 0):i=m2:=by
 let I:i.n=m2.n:=Nat.le_antisymm (znq j.symm v D U Y<|a.symm j)<|znq j D v Y U a;apply Mc.ext_go D v j I (λr l L hl=>(zdq j D v Y U a r L 00).2 l hl) λr L=>(zdq j D v Y U a r L 00).1.fin
def ix(xs:List Nat)(i:Nat):Nat:=xs.getD i 0
theorem zcc(h:i<xs.length):xs[i]?=G (ix xs i):=by
 unfold ix;rw[y02,y00 h,y0y]
theorem zu8(h:xs[i]?=G v):ix xs i=v:=by unfold ix;rw[y02,h];rfl
theorem zd2(h:i<xs.length):ix xs i∈xs:=y0l<|zcc h
theorem zie(h:v∈xs):∃i,i<xs.length/\ix xs i=v:=by
 let(i,hi,e):=y22 h;show⟨i,hi,zu8<|by rw[y00 hi,e]⟩
theorem zwf(h:i<xs.length):ix (xs++ys) i=ix xs i:=by
 unfold ix;rw[y02,y02,y15 h]
theorem zrt(xs:List Nat)(v:Nat):ix (xs++[v]) xs.length=v:=by simp[ix]
theorem zwe(I:xs.Nodup)(hi:i<xs.length)(o:j<xs.length)(e:ix xs i=ix xs j):i=j:=by
 let Y:=zcc hi;rw[e,←zcc o]at Y;show(List.getElem?_inj hi I).mp Y
structure Come(m:Mc)(rooms:List Nat)(at' l:Nat):Prop where
 nd:rooms.Nodup
 zero:ix rooms 0=0
 pos:0<rooms.length
 lt:∀r∈rooms,r<m.n
 disc:∀b,0<b->b<rooms.length->∃r' l',r'<b/\l'<2^m.w/\Lex r' l' at' l/\m.go (ix rooms r') l'=ix rooms b
 clos:∀r l',r<rooms.length->l'<2^m.w->Lex r l' at' l->∃t,t<rooms.length/\ix rooms t=m.go (ix rooms r) l'/\
  ∀b,0<b->b<t->∃r'' l'',l''<2^m.w/\Lex r'' l'' r l'/\r''<rooms.length/\m.go (ix rooms r'') l''=ix rooms b
theorem Come.start(h:0<m.n):Come m [0] 0 0 :=
 ⟨by simp,R,by simp,λr L=>by rw[y0b.mp L];show h,λb E Y=>by simp at Y;omega,λr l' _ _ u=>by rcases u with z|⟨_,z⟩<;>omega⟩
theorem zm9(h:Lex r l' a<|l+1):Lex r l' a l\/(r=a/\l'=l):=by
 rcases h with h|⟨h,h'⟩
 .exact .inl<|.inl h
 .by_cases e:l'=l
  .exact .inr ⟨h,e⟩
  .exact .inl<|.inr ⟨h,by omega⟩
theorem zwa(h:Lex r l' a l):Lex r l' a (l+1):=h.imp id λ⟨h,h'⟩=>⟨h,by omega⟩
theorem Come.old(c:Come m rooms a l)(d:a<rooms.length)(D:m.go (ix rooms a) l∈rooms):Come m rooms a (l+1):=by
 apply⟨c.nd,c.zero,c.pos,c.lt,λb E Y=>?_,λr l' L w u=>?_⟩
 .let(r',l',M,C,h4,T):=c.disc b E Y;show⟨r',l',M,C,zwa h4,T⟩
 .rcases zm9 u with u|⟨rfl,rfl⟩
  .exact c.clos r l' L w u
  .let(t,p,I):=zie D;apply⟨t,p,I,λb E Y=>?_⟩;let(r',j,M,C,h4,T):=c.disc b E 00;show⟨r',j,C,h4,by omega,T⟩
theorem Come.new(c:Come m rooms a l)(d:a<rooms.length)(hl:l<2^m.w)(I:m.go (ix rooms a) l<m.n)(D:¬m.go (ix rooms a) l∈rooms):Come m (rooms++[m.go (ix rooms a) l]) a (l+1):=by
 let len:(rooms++[m.go (ix rooms a) l]).length=rooms.length+1:=by simp
 let up:∀{r:Nat},r<rooms.length->ix (rooms++[m.go (ix rooms a) l]) r=ix rooms r:=λh=>zwf h;apply⟨?_,by rw[up c.pos];show c.zero,by omega,λr L=>?_,λb E Y=>?_,λr l' L w u=>?_⟩
 .refine y37.mpr ⟨c.nd,by simp,λx O y C=>?_⟩;rw[y0b.mp C];intro e;rw[e]at O;show D O
 .rcases y0v.mp L with h|h
  .exact c.lt r h
  .rw[y0b.mp h];show I
 .by_cases U:b<rooms.length
  .let(r',l',M,Q,h4,T):=c.disc b E U;show⟨r',l',M,Q,zwa h4,by rw[up 00,up U];show T⟩
  .let e:b=rooms.length:=by omega
   subst e;show⟨a,l,d,hl,.inr ⟨R,by omega⟩,by rw[up d,zrt]⟩
 .rcases zm9 u with u|⟨rfl,rfl⟩
  .let f:r<rooms.length:=by rcases u with z|⟨z,_⟩<;>omega
   let(t,p,i,g):=c.clos r l' f w u;apply⟨t,by omega,by rw[up p,up f];show i,λb E Y=>?_⟩;let(r'',j,M,Q,h4,T):=g b E Y;show⟨r'',j,M,Q,by omega,by rw[up h4,up 00];show T⟩
  .refine⟨rooms.length,by omega,by rw[zrt,up d],λb E Y=>?_⟩;let(r',j,M,Q,h4,T):=c.disc b E Y;show⟨r',j,Q,h4,by omega,by rw[up 00,up Y];show T⟩
theorem Come.turn(c:Come m rooms a<|2^m.w):Come m rooms (a+1) 0:=by
 let up:∀{r l:Nat},l<2^m.w->Lex r l (a+1) 0->Lex r l a (2^m.w):=λ{r l} hl u=>by
  rcases u with z|⟨_,z⟩
  .by_cases e:r=a
   .exact .inr ⟨e,hl⟩
   .exact .inl 00
  .omega
 apply⟨c.nd,c.zero,c.pos,c.lt,λb E Y=>?_,λr l' L w u=>c.clos r l' L w<|up w u⟩;let(r',l',M,C,h4,T):=c.disc b E Y;apply⟨r',l',M,C,?_,T⟩;rcases h4 with z|⟨z,_⟩
 .exact .inl 00
 .exact .inl 00
theorem zc1:∀{xs:List Nat} {n:Nat},xs.Nodup->(∀x∈xs,x<n)->xs.length<=n
 |xs,0,_,h=>by cases xs with|nil=>show y04 _|cons x r=>show Xa (h x y0c)<|y2n _
 |xs,n+1,I,h=>by
  let Y:(xs.erase n).length<=n:=zc1 (I.erase n) λx O=>by
   let M:=h x<|List.mem_of_mem_erase O;let C:x≠n:=λe=>by rw[e]at O;show(List.Nodup.not_mem_erase I) O
   omega
  by_cases J:n∈xs
  .let M:=y4t J;let C:=y4x J;omega
  .rw[List.erase_of_not_mem J]at Y;omega
def picked(m:Mc)(rooms:List Nat)(g:Nat->Nat):Mc:=⟨m.w,rooms.map λr=>(m.ways.getD r []).map g,rooms.map m.fin⟩
theorem zb8(m:Mc)(rooms:List Nat)(g:Nat->Nat):(picked m rooms g).n=rooms.length:=by simp[picked,Mc.n]
theorem zg7(m:Mc)(g:Nat->Nat)(h:i<rooms.length):(picked m rooms g).fin i=m.fin (ix rooms i):=by
 unfold picked Mc.fin;simp only[y02,y05];rw[zcc h];rfl
theorem zjl{m:Mc}(ok:m.Ok){rooms:List Nat}(g:Nat->Nat)(h:i<rooms.length)(L:ix rooms i<m.n)(hl:l<2^m.w):(picked m rooms g).go i l=g (m.go (ix rooms i) l):=by
 let(line,J,q,Q):=ok.at L hl;let T:m.ways.getD (ix rooms i) []=line:=by rw[y02,J];rfl
 unfold picked;rw[Mc.go];simp only[y02,y05];rw[zcc h];simp only[y1z,y0y];rw[J];simp only[y0y,y05];rw[q];rfl
theorem zjk{m:Mc}(ok:m.Ok){rooms:List Nat}(E:0<rooms.length)(T:rooms.length<=100)(L:∀r∈rooms,r<m.n)(I:∀r l,r∈rooms->l<2^m.w->g (m.go r l)<rooms.length):(picked m rooms g).Ok:=by
 apply⟨ok.wid,by simpa[picked]using E,by simpa[picked]using T,by simp[picked],λline hl=>?_,λline hl x O=>?_⟩
 .let(r,o,rfl):=y0j.mp hl;let Y:r<m.ways.length:=by rw[ok.len];show L r o
  rw[y01,y02,y00 Y,y0y];show ok.line _<|y0n Y
 .let(r,o,rfl):=y0j.mp hl;let(y,c,rfl):=y0j.mp O;let Y:r<m.ways.length:=by rw[ok.len];show L r o
  rw[y02,y00 Y,y0y]at c;let(l,M,q):=y22 c;rw[ok.line _<|y0n Y]at M;let C:=I r l o M;let(line,Q,s,_):=ok.at (L r o) M;rw[y00 Y]at Q;cases Q;rw[y00 (by rw[ok.line _<|y0n Y];show M),q]at s;cases s;simpa[picked]using C
theorem zge(ok:m.Ok)(c:Come m rooms rooms.length 0)(y:∀i,i<rooms.length->g (ix rooms i)=i):
  (picked m rooms g).Ok/\(picked m rooms g).Ord/\Par m 0 (picked m rooms g) 0/\rooms.length<=m.n:=by
 let v:rooms.length<=m.n:=zc1 c.nd c.lt;let f:∀{i:Nat},i<rooms.length->ix rooms i<m.n:=λh=>c.lt _<|zd2 h;let clo:∀r l,r<rooms.length->l<2^m.w->∃t,t<rooms.length/\ix rooms t=m.go (ix rooms r) l/\∀b,0<b->b<t->∃r'' j,j<2^m.w/\Lex r'' j r l/\r''<rooms.length/\m.go (ix rooms r'') j=ix rooms b :=
  λr l L hl=>c.clos r l L hl<|.inl L
 let x:∀{i l:Nat},i<rooms.length->l<2^m.w->∀t,t<rooms.length->m.go (ix rooms i) l=ix rooms t->(picked m rooms g).go i l=t:=λhi hl t p e=>by
  rw[zjl ok g hi (f hi) hl,e];show y t p
 apply⟨zjk ok c.pos (by have:m.n<=100:=ok.few;omega) c.lt λr l o hl=>?_,⟨λr l b L hl E U=>?_,λb E U=>?_⟩,?_,v⟩
 .let(i,hi,rfl):=zie o;let(t,p,I,_):=clo i l hi hl;rw[←I,y t p];show p
 .rw[zb8]at L;let(t,p,I,a):=clo r l L hl;rw[x L hl t p I.symm]at U;let(r'',j,Y,M,C,h4):=a b E U;show⟨r'',j,Y,M,x C Y b 00 h4⟩
 .rw[zb8]at U;let(r',l',Y,M,C,h4):=c.disc b E U;show⟨r',l',Y,M,x 00 M b U h4⟩
 .refine Par.of (λr i=>i<rooms.length/\ix rooms i=r) (λr i ⟨hi,e⟩=>?_) (λr i l ⟨hi,e⟩ hl=>?_) ⟨c.pos,c.zero⟩
  .rw[zg7 m g hi,e]
  .let(t,p,I,_):=clo i l hi hl;rw[x hi hl t p I.symm,←e];show⟨p,I⟩
structure Srt(ns:List Nat):Prop where
 grow:∀i,i<ns.length->∀b,b<ix ns i->∃j,j<i/\ix ns j=b
theorem Srt.le(h:Srt ns)(i:Nat)(hi:i<ns.length):ix ns i<=i:=by
 induction i using Nat.strongRecOn with
 |_ i E =>
  by_cases g:ix ns i=0
  .omega
  .let(j,o,e):=h.grow i hi (ix ns i-1) 00;let:=E j o 00;omega
theorem zvv(hs:Srt s)(T:Srt f)(hl:s.length=f.length)(ref:∀i j,i<s.length->j<s.length->ix f i=ix f j->ix s i=ix s j):∀v i,i<s.length->ix s i=v->v<=ix f i
 |0,_,_,_=>y18 _
 |v+1,i,hi,e=>by
  let E:=zvv hs T hl ref v;apply y2u λg=>?_;let l:∀j,j<i->ix s j=v->False:=λj=>by
   induction j using Nat.strongRecOn with
   |_ j c =>
    intro o r;let Y:=E j 00 r;let M:ix f j≠ix f i:=λz=>by have:=ref j i 00 hi z;omega
    let(k,D,I):=T.grow j 00 (ix f i) 00;let C:=ref k i 00 hi I;let(d,p,a):=hs.grow k 00 v 00;show c d 00 00 a
  let(j,o,r):=hs.grow i hi v 00;show l j o r
theorem zvt:∀{s f:List Nat},s.length=f.length->(∀i,i<s.length->ix s i<=ix f i)->s.sum<=f.sum/\(s.sum=f.sum->s=f)
 |[],[],_,_=>⟨y04 _,λ_=>rfl⟩
 |[],_::_,h,_=>by simp at h
 |_::_,[],h,_=>by simp at h
 |x::s,y::f,h,g=>by
  let Y:=g 0 (by simp);let M:x<=y:=Y;let(C,h4):=zvt (s:=s) (f:=f) (by simpa using h) λi hi=>by
   let:=g (i+1) (by simpa using hi);simpa[ix]using this
  apply⟨by simp only[y43];omega,λe=>?_⟩;simp only[y43]at e;rw[show x=y by omega,h4 00]
theorem zi1:∀{s:List Nat} {n:Nat},(∀x∈s,x<=n)->s.sum<=s.length*n
 |[],n,_=>by simp
 |x::s,n,h=>by
  let Y:=h x y0c;let M:=zi1 (s:=s) (n:=n) λy C=>h y<|y0a _ C;simp only[y43,y0s,y50];omega
structure Sorts(m:Mc)(ns:List Nat):Prop where
 srt:Srt ns
 len:ns.length=m.n
 fin:∀i j,i<m.n->j<m.n->ix ns i=ix ns j->m.fin i=m.fin j
 sep:∀i j,i<m.n->j<m.n->Par m i m j->ix ns i=ix ns j
def Stable(m:Mc)(ns:List Nat):Prop:=∀i j l,i<m.n->j<m.n->l<2^m.w->ix ns i=ix ns j->ix ns (m.go i l)=ix ns (m.go j l)
structure Firsts(ns fs:List Nat):Prop where
 lt:∀s,s<fs.length->ix fs s<ns.length
 is:∀s,s<fs.length->ix ns (ix fs s)=s
 le:∀s j,s<fs.length->j<ns.length->ix ns j=s->ix fs s<=j
 all:∀i,i<ns.length->ix ns i<fs.length
theorem quotient{m:Mc}(ok:m.Ok)(ord:m.Ord){ns fs:List Nat}(S:Sorts m ns)(st:Stable m ns)(F:Firsts ns fs):
  (picked m fs<|ix ns).Ok/\Canon (picked m fs<|ix ns)/\Par m 0 (picked m fs<|ix ns) 0/\fs.length<=m.n:=by
 let f:∀{s:Nat},s<fs.length->ix fs s<m.n:=λh=>by rw[←S.len];show F.lt _ h
 let E:0<fs.length:=by have:=F.all 0 (by rw[S.len];show ok.pos);omega
 let all:∀{i:Nat},i<m.n->ix ns i<fs.length:=λh=>F.all _ (by rw[S.len];show h);let mono:∀{a b:Nat},a<fs.length->b<fs.length->a<b->ix fs a<ix fs b:=λ{a b} d U Q=>by
  let e:=F.is b U;let(j,o,ej):=S.srt.grow (ix fs b) (F.lt b U) a 00;let:=F.le a j d (by have:=F.lt b U;omega) ej;omega
 let I:∀{a b:Nat},a<fs.length->b<fs.length->ix fs a<ix fs b->a<b:=λ{a b} d U h=>by
  rcases y47 a b with z|z|z
  .exact z
  .subst z;omega
  .let:=mono U d z;omega
 let v:fs.length<=m.n:=by
  let Y:=F.is (fs.length-1) 00;let M:=f (s:=fs.length-1) 00;let C:=S.srt.le _ (by rw[S.len];show M);omega
 let x:∀{s l:Nat},s<fs.length->l<2^m.w->(picked m fs<|ix ns).go s l=ix ns (m.go (ix fs s) l):=λhs hl=>zjl ok _ hs (f hs) hl;let O:∀{i l:Nat},i<m.n->l<2^m.w->(picked m fs<|ix ns).go (ix ns i) l=ix ns (m.go i l):=λ{i l} hi hl=>by
  rw[x (all hi) hl];show st _ _ l (f<|all hi) hi hl<|F.is _ (all hi)
 let hok:(picked m fs<|ix ns).Ok:=zjk ok E (by have:m.n<=100:=ok.few;omega) (λr mr=>by let(s,hs,rfl):=zie mr;show f hs) λr l mr hl=>by
  let(s,hs,rfl):=zie mr;show all<|ok.go_lt (f hs) hl
 let par:∀{i:Nat},i<m.n->Par m i (picked m fs<|ix ns) (ix ns i):=λ{i} hi=>by
  apply Par.of (λr s=>r<m.n/\s=ix ns r) (λr s ⟨L,e⟩=>?_) (λr s l ⟨L,e⟩ hl=>?_) ⟨hi,R⟩
  .rw[e,zg7 m _<|all L];show S.fin _ _ L (f<|all L) (F.is _<|all L).symm
  .exact⟨ok.go_lt L hl,by rw[e,O L hl]⟩
 apply⟨hok,⟨⟨λs l b hs hl U y=>?_,λb U H=>?_⟩,λi j hi o p=>?_⟩,?_,v⟩
 .rw[zb8]at hs;rw[x hs hl]at y;let ht:=ok.go_lt (f hs) hl;let d:=all ht;let A:b<fs.length:=by omega
  let Y:ix fs b<m.go (ix fs s) l:=by
   let M:=mono A d y;let C:=F.le _ _ d (by rw[S.len];show ht) rfl;omega
  let J:0<ix fs b:=by
   let:=F.is b A;by_cases z:ix fs b=0
   .let T:=S.srt.le 0 (by rw[S.len];show ok.pos);rw[z]at this;omega
   .omega
  let(r',l',w,u,e):=ord.grow (ix fs s) l (ix fs b) (f hs) hl J Y;let c:r'<m.n:=by have:=f hs;rcases u with z|⟨z,_⟩<;>omega
  apply⟨ix ns r',l',w,?_,by rw[O c w,e];show F.is b A⟩;rcases u with z|⟨z,D⟩
  .refine .inl<|I (all c) hs ?_;let:=F.le _ r' (all c) (by rw[S.len];show c) rfl;omega
  .exact .inr ⟨by rw[z];show F.is s hs,D⟩
 .rw[zb8]at H;let J:0<ix fs b:=by
   let:=F.is b H;by_cases z:ix fs b=0
   .let T:=S.srt.le 0 (by rw[S.len];show ok.pos);rw[z]at this;omega
   .omega
  let(r',l',c,w,e):=ord.par (ix fs b) J<|f H;let g:r'<m.n:=by have:=f H;omega
  apply⟨ix ns r',l',I (all g) H ?_,w,by rw[O g w,e];show F.is b H⟩;let:=F.le _ r' (all g) (by rw[S.len];show g) rfl;omega
 .rw[zb8]at hi o;let p1:=par<|f hi;let p2:=par<|f o;rw[F.is i hi]at p1;rw[F.is j o]at p2;let q:Par m (ix fs i) m (ix fs j):=(p1.trans p R).trans (p2.symm R) rfl;let z:=S.sep _ _ (f hi) (f o) q;rw[F.is i hi,F.is j o]at z;show z
 .let p:=par ok.pos;let e:ix ns 0=0:=by have:=S.srt.le 0 (by rw[S.len];show ok.pos);omega
  rw[e]at p;show p
structure Num{α:Type}(marks:List α)(ns:List Nat):Prop where
 len:ns.length=marks.length
 eq:∀i j a b,marks[i]?=G a->marks[j]?=G b->(ix ns i=ix ns j↔a=b)
 srt:Srt ns
theorem zk3{m:Mc}(Nq:Num m.ends ns):Sorts m ns:=by
 apply⟨Nq.srt,Nq.len,λi j hi o e=>?_,λi j hi o p=>?_⟩
 .exact(Nq.eq i j _ _ (Mc.fin_at hi)<|Mc.fin_at o).mp e
 .exact(Nq.eq i j _ _ (Mc.fin_at hi)<|Mc.fin_at o).mpr p.fin
def markOf(m:Mc)(ns:List Nat)(i:Nat):List Nat:=ix ns i::(m.ways.getD i []).map (ix ns)
theorem zxy(ok:m.Ok)(hi:i<m.n)(o:j<m.n):markOf m ns i=markOf m ns j↔ix ns i=ix ns j/\∀l,l<2^m.w->ix ns (m.go i l)=ix ns (m.go j l):=by
 let Y:i<m.ways.length:=by rw[ok.len];show hi
 let M:j<m.ways.length:=by rw[ok.len];show o
 let a:=ok.line _<|y0n Y;let L2:=ok.line _<|y0n M;unfold markOf;rw[List.cons.injEq];apply and_congr_right λ_=>?_;unfold Mc.go;simp only[y02,y00 Y,y00 M,y0y];apply⟨λe l hl=>?_,λh=>?_⟩
 .let z:=congrArg (λq=>q[l]?) e;simp only[y05]at z;rw[y00 00,y00 00]at z ⊢;simpa using z
 .refine y2x (by rw[y01,y01,a,L2]) λl C h4=>?_;rw[y01]at C h4;let z:=h l 00;rw[y00 C,y00 h4]at z;rw[y4i,y4i];simpa using z
theorem zg4{m:Mc}(ok:m.Ok){ns fs:List Nat}(S:Sorts m ns)(Nq:Num ((List.range m.n).map<|markOf m ns) fs):Sorts m fs/\(∀i j,i<ns.length->j<ns.length->ix fs i=ix fs j->ix ns i=ix ns j)/\(fs=ns->Stable m ns):=by
 let at':∀{i:Nat},i<m.n->((List.range m.n).map<|markOf m ns)[i]?=G (markOf m ns i):=λh=>by rw[y05,y1p h];rfl
 let eq:∀{i j:Nat},i<m.n->j<m.n->(ix fs i=ix fs j↔ix ns i=ix ns j/\∀l,l<2^m.w->ix ns (m.go i l)=ix ns (m.go j l)):=λhi o=>(Nq.eq _ _ _ _ (at' hi)<|at' o).trans<|zxy ok hi o;apply⟨⟨Nq.srt,by rw[Nq.len];simp,λi j hi o e=>S.fin i j hi o ((eq hi o).mp e).1,λi j hi o p=>(eq hi o).mpr ⟨S.sep i j hi o p,λl hl=>S.sep _ _ (ok.go_lt hi hl) (ok.go_lt o hl)<|p.go hl⟩⟩,λi j hi o e=>?_,λe i j l hi o hl h=>?_⟩
 .rw[S.len]at hi o;show((eq hi o).mp e).1
 .subst e;show((eq hi o).mp h).2 l hl
theorem zn0(S:Sorts m ns)(S':Sorts m fs)(ref:∀i j,i<ns.length->j<ns.length->ix fs i=ix fs j->ix ns i=ix ns j)(ne:fs≠ns):ns.sum<fs.sum/\fs.sum<=m.n*m.n:=by
 let hl:ns.length=fs.length:=by rw[S.len,S'.len]
 let(Y,M):=zvt hl λi hi=>zvv S.srt S'.srt hl ref _ i hi rfl;apply⟨Nat.lt_of_le_of_ne Y λe=>ne (M e).symm,?_⟩;let C:=zi1 (s:=fs) (n:=m.n) λx O=>by
  let(i,hi,rfl):=zie O;let:=S'.srt.le i hi;let:=S'.len;omega
 rw[S'.len]at C;show C
section
variable {α:Type}[DecidableEq α]
def news:List α->List α->List α
 |o,[]=>o
 |o,x::r=>news (if x∈o then o else o++[x]) r
theorem zf7:∀(xs o:List α) (x:α),news o (xs++[x])=if x∈news o xs then news o xs else news o xs++[x]
 |[],o,x=>rfl
 |y::r,o,x=>zf7 r _ x
theorem zbu:∀(xs o:List α) (x:α),x∈news o xs↔x∈o\/x∈xs
 |[],o,x=>by simp[news]
 |y::r,o,x=>by
  unfold news;rw[zbu r _ x];by_cases h:y∈o
  .rw[Xq h];simp only[y06];apply⟨λz=>z.imp id .inr,λz=>z.elim .inl λz=>z.elim (λe=>.inl<|e▸h) .inr⟩
  .rw[Xp h];simp only[y0v,y06,y0h,or_false];show or_assoc
theorem zlr:∀(xs o:List α),o.Nodup->(news o xs).Nodup
 |[],o,h=>h
 |y::r,o,h=>by
  unfold news;apply zlr r _ ?_;by_cases C:y∈o
  .rw[Xq C];show h
  .rw[Xp C];apply y37.mpr ⟨h,by simp,λa d b U=>?_⟩;rw[y0b.mp U];intro e;show C<|e▸d
theorem zdz:∀(xs o:List α),(news o xs).length<=o.length+xs.length
 |[],o=>by simp[news]
 |y::r,o=>by
  unfold news;let:=zdz r<|if y∈o then o else o++[y];by_cases C:y∈o
  .rw[Xq C]at this ⊢;simp only[y0s];omega
  .rw[Xp C]at this ⊢;simp only[y0d,y0s,y1o]at this ⊢;omega
theorem zc2:∀(xs o:List α),∃t,news o xs=o++t
 |[],o=>⟨[],by simp[news]⟩
 |y::r,o=>by
  unfold news;let(t,e):=zc2 r<|if y∈o then o else o++[y];by_cases C:y∈o
  .rw[Xq C]at e ⊢;show⟨t,e⟩
  .rw[Xp C]at e ⊢;show⟨[y]++t,by rw[e,y17]⟩
theorem zm6:∀(xs ys o:List α),news o (xs++ys)=news (news o xs) ys
 |[],ys,o=>rfl
 |x::r,ys,o=>zm6 r ys _
noncomputable def nOf(ds:List α)(x:α):Nat:=ds.idxOf x
noncomputable def nxt(ds:List α)(x:α):List α:=if x∈ds then ds else ds++[x]
theorem zrc{ds:List α}{x:α}(h:x∈ds):nxt ds x=ds:=Xq h
theorem zlp{ds:List α}{x:α}(h:¬x∈ds):nxt ds x=ds++[x]:=Xp h
theorem zu1(xs:List α)(x:α):news [] (xs++[x])=nxt (news [] xs) x:=zf7 xs [] x
theorem zjx{xs:List α}(h:xs[i]?=G x):news [] (xs.take<|i+1)=nxt (news []<|xs.take i) x:=by rw[y1h,h,y24,zu1]
theorem zih{xs ys:List α}(h:x∈xs):(xs++ys).idxOf x=xs.idxOf x:=by rw[List.idxOf_append,Xq h]
theorem zv5(marks:List α):Num marks (marks.map<|nOf (news [] marks)):=by
 change Num marks (marks.map λx=>(news [] marks).idxOf x);let at':∀{i:Nat} {a:α},marks[i]?=G a->ix (marks.map λx=>(news [] marks).idxOf x) i=(news [] marks).idxOf a:=λh=>zu8 (by rw[y05,h];rfl);let mem:∀{a:α},a∈marks->a∈news [] marks:=λh=>(zbu marks [] _).mpr<|.inr h;apply⟨y01 _,λi j a b d U=>?_,⟨λi hi b U=>?_⟩⟩
 .rw[at' d,at' U];apply⟨λe=>?_,λe=>by rw[e]⟩;let Y:=y1n.mpr<|mem (y0l d);let M:=y1n.mpr<|mem (y0l U);let J:=y34 Y;let g:=y34 M;rw[←J,←g];congr 1
 .rw[y01]at hi;let O:marks[i]?=G marks[i]:=y00 hi;rw[at' O]at U;let em:marks=marks.take i++marks[i]::marks.drop (i+1):=by rw[←y3o hi,y14]
  let y:news [] marks=news (if marks[i]∈news [] (marks.take i)then news [] (marks.take i)else news [] (marks.take i)++[marks[i]]) (marks.drop<|i+1):=by
   conv=>lhs;rw[em]
   rw[zm6];rfl
  let(t,I):=zc2 (marks.drop<|i+1)<|if marks[i]∈news [] (marks.take i)then news [] (marks.take i)else news [] (marks.take i)++[marks[i]];rw[←y]at I;let A:b<(news []<|marks.take i).length:=by
   by_cases c:marks[i]∈news [] (marks.take i)
   .rw[Xq c]at I;rw[I,zih c]at U;let:=y1n.mpr c;omega
   .rw[Xp c]at I;rw[I,zih (by simp),List.idxOf_append,Xp c]at U;simp at U;omega
  let s:∃t',news [] marks=news [] (marks.take i)++t':=by
   by_cases c:marks[i]∈news [] (marks.take i)
   .rw[Xq c]at I;show⟨t,I⟩
   .rw[Xp c]at I;show⟨[marks[i]]++t,by rw[I,y17]⟩
  let(t',l):=s;let L:(news []<|marks.take i)[b]∈marks.take i:=by
   rcases(zbu (marks.take i) [] _).mp (y0n A)with h|h
   .exact nomatch h
   .exact h
  let(j,o,r):=y22 L;rw[y0t]at o;rw[List.getElem_take]at r;apply⟨j,by omega,?_⟩;let p:marks[j]?=G (news []<|marks.take i)[b]:=by rw[y00 00,r]
  rw[at' p,l,zih<|y0n A];show List.Nodup.idxOf_getElem (zlr _ _ y41) b A
end
theorem idx_le:∀(ns:List Nat) (s j:Nat),ns[j]?=G s->ns.idxOf s<=j
 |[],_,_,h=>by simp at h
 |x::ns,s,0,h=>by
  simp only[y4u,Option.some.injEq]at h;subst h;simp
 |x::ns,s,j+1,h=>by
  simp only[y20]at h;let E:=idx_le ns s j h;rw[y33];cases O:x==s with
  |true=>simp
  |false=>simp;omega
theorem zne(h:s∈ns):ns.idxOf s<ns.length/\ix ns (ns.idxOf s)=s:=by
 let Y:=y1n.mpr h;show⟨Y,zu8<|by rw[y00 Y,y34 Y]⟩
theorem zr7(S:Srt ns)(d:M∈ns)(v:∀a∈ns,a<=M):Firsts ns ((List.range<|M+1).map λs=>ns.idxOf s)/\∀s,s<=M->s∈ns:=by
 let mem:∀s,s<=M->s∈ns:=λs hs=>by
  by_cases e:s=M
  .rw[e];show d
  .let(i,hi,c):=zie d;let(j,o,r):=S.grow i hi s 00;rw[←r];show zd2 00
 let at':∀{s:Nat},s<M+1->ix ((List.range<|M+1).map λs=>ns.idxOf s) s=ns.idxOf s:=λ{s} h=>zu8 (by rw[y05,y1p h];rfl);let len:((List.range<|M+1).map λs=>ns.idxOf s).length=M+1:=by simp
 apply⟨⟨λs hs=>?_,λs hs=>?_,λs j hs o e=>?_,λi hi=>?_⟩,mem⟩
 .rw[len]at hs;rw[at' hs];show(zne<|mem s 00).1
 .rw[len]at hs;rw[at' hs];show(zne<|mem s 00).2
 .rw[len]at hs;rw[at' hs];show idx_le ns s j (by rw[zcc o,e])
 .rw[len];let:=v _<|zd2 hi;omega
structure Red(m m':Mc):Prop where
 ok:m'.Ok
 w:m'.w=m.w
 canon:Canon m'
 par:Par m 0 m' 0
 le:m'.n<=m.n
theorem zyu(ok:m.Ok)(c:Come m rooms rooms.length 0)(y:∀i,i<rooms.length->g (ix rooms i)=i)(S:Sorts (picked m rooms g) ns)(st:Stable (picked m rooms g) ns)(F:Firsts ns fs):
  Red m (picked (picked m rooms g) fs<|ix ns):=by
 let(D,a,L,l1):=zge ok c y;let(v,U,r,l2):=quotient D a S st F;apply⟨v,R,U,L.trans r R,?_⟩;rw[zb8]at l2 ⊢;omega
theorem ztt(r1:Red i a)(l:Red m2 m2')(j:i.w=m2.w)(p:Par i 0 m2 0):a=m2':=by
 apply zd6 (by rw[r1.w,l.w,j]) r1.ok l.ok r1.canon l.canon ?_;show(r1.par.symm r1.w.symm).trans (p.trans l.par j) r1.w
def turned(m:Mc):Mc:=⟨m.w,m.ways,m.ends.map λb=>!b⟩
theorem zpl(ok:m.Ok):(turned m).Ok:=by
 let e:(turned m).ends.length=m.ends.length:=y01 _;apply⟨ok.wid,?_,?_,?_,ok.line,λl hl r L=>?_⟩
 .rw[e];show ok.pos
 .rw[e];show ok.few
 .rw[e];show ok.len
 .rw[e];show ok.room l hl r L
open PySem PySem.Spec PyProof.Rows L2 SS
noncomputable abbrev nV(n:Nat):V:=.int (n:Int)
def Line(H:Hp)(v:V)(l:List Nat):Prop:=∃a,v=.ref a/\H a=G (.tup<|l.map nV)
def RepM(H:Hp)(a:Ad)(m:Mc):Prop:=∃(b c:Ad) (U:List V),H a=G (.tup [nV m.w,.ref b,.ref c])/\H b=G (.tup U)/\i4 (Line H) U m.ways/\H c=G (.tup<|m.ends.map V.bl)
theorem Line.ts(h:Line H v l)(g:TupS H H'):Line H' v l:=let⟨a,e,z⟩:=h;⟨a,e,g _ _ z⟩
theorem RepM.ts(h:RepM H a m)(g:TupS H H'):RepM H' a m:=by
 let(b,c,U,Y,M,C,h4):=h;show⟨b,c,U,g _ _ Y,g _ _ M,L2.Paired.mapP C λ_ _ z=>z.ts g,g _ _ h4⟩
theorem RepM.same(h:RepM H a m)(g:Same H H'):RepM H' a m:=h.ts g.tups
theorem Paired.at2:∀{xs:List q} {ys:List s} {i:Nat} {y:s},i4 Rq xs ys->ys[i]?=G y->∃x,xs[i]?=G x/\Rq x y
 |_,_,_,_,.nil,h=>by simp at h
 |_,_,0,_,.cons h _,e=>by simp at e;subst e;show⟨_,R,h⟩
 |_,_,i+1,_,.cons _ h,e=>by simp only[y20]at e ⊢;show Paired.at2 h e
theorem Paired.snoc:∀{xs:List q} {ys:List s} {x:q} {y:s},i4 Rq xs ys->Rq x y->i4 Rq (xs++[x]) (ys++[y])
 |_,_,_,_,.nil,h=>.cons h .nil
 |_,_,_,_,.cons h t,z=>.cons h<|Paired.snoc t z
theorem zm8(l:List Nat):l.map nV=(l.map λ(n:Nat)=>(n:Int)).map V.int:=by rw[y0u];rfl
theorem zbs:∀{xs:List q} {ys:List s},xs.length=ys.length->(∀(j:Nat) x y,xs[j]?=G x->ys[j]?=G y->Rq x y)->i4 Rq xs ys
 |[],[],_,_=>.nil
 |[],_::_,h,_=>by simp at h
 |_::_,[],h,_=>by simp at h
 |x::xs,y::ys,h,f=>.cons (f 0 x y R R)<|zbs (by simpa using h) λj a b J g=>f (j+1) a b (by simpa using J) (by simpa using g)
theorem nodup_map_on{q s:Type}{f:q->s}:∀{l:List q},(∀a∈l,∀b∈l,f a=f b->a=b)->l.Nodup->(l.map f).Nodup
 |[],_,_=>y41
 |x::l,h,I=>by
  rw[y1u]at I;rw[y0r,y1u];apply⟨λz=>?_,nodup_map_on (λa d b U=>h a (y0a _ d) b<|y0a _ U) I.2⟩;let(y,c,e):=y0j.mp z;let:=h y (y0a _ c) x y0c e;rw[this]at c;show I.1 c
theorem ze1:∀{a b:List Nat},(a.map λ(n:Nat)=>(n:Int))=(b.map λ(n:Nat)=>(n:Int))->a=b
 |[],[],_=>rfl
 |[],_::_,h=>nomatch h
 |_::_,[],h=>nomatch h
 |x::a,y::b,h=>by
  rw[y0r,y0r,List.cons.injEq]at h;rw[ze1 h.2,show x=y by have:=h.1;omega]
theorem znf(k:Nat):∀ns:List Nat,(ns.map λ(n:Nat)=>(n:Int)).idxOf (k:Int)=ns.idxOf k
 |[]=>rfl
 |x::ns=>by
  rw[y0r,y33,y33,znf k ns];by_cases h:x=k
  .subst h;simp
  .let Y:(x==k)=Fa:=by simp[h]
   let M:((x:Int)==(k:Int))=Fa:=by simp;omega
   rw[Y,M]
def Lk(H:Hp)(b:Ad)(l:List Nat)(g:Nat->Nat):Prop :=
 (∃kvs:List<|Key×V,H b=G (.dK kvs)/\∀r∈l,valV kvs (.inl (r:Int))=G (nV<|g r))\/∃ns:List Nat,H b=G (.lst<|ns.map nV)/\∀r∈l,ns[r]?=G (g r)
theorem Lk.same(h:Lk H b l g)(s:Same H H'):Lk H' b l g:=by
 rcases h with⟨kvs,e,z⟩|⟨ns,e,z⟩
 .exact .inl ⟨kvs,s _ _ e,z⟩
 .exact .inr ⟨ns,s _ _ e,z⟩
def zgz:Sp:=λvs H Q _=>∃(a:Ad) (m:Mc),vs=[.ref a]/\RepM H a m/\m.Ok/\∀D rooms H',H D=B->Same H H'->H' D=G (.lst<|rooms.map nV)->Come m rooms rooms.length 0->Q (.ref D) H'
def zee:Sp:=λvs H Q _=>∃(a b:Ad) (l:List Nat) (g:Nat->Nat),vs=[.ref a,.ref b]/\H a=G (.tup<|l.map nV)/\l.length<=16/\Lk H b l g/\∀p H',Same H H'->H' p=G (.tup<|(l.map g).map nV)->Q (.ref p) H'
def zi4:Sp:=λvs H Q _=>∃(a b c:Ad) (m:Mc) (rooms:List Nat) (g:Nat->Nat),vs=[.ref a,.ref b,.ref c]/\RepM H a m/\m.Ok/\H b=G (.lst<|rooms.map nV)/\rooms.length<=100/\(∀r∈rooms,r<m.n)/\
 (∀r∈rooms,Lk H c (m.ways.getD r []) g)/\∀p H',Same H H'->RepM H' p (picked m rooms g)->Q (.ref p) H'
def zi6:Sp:=λvs H Q _=>∃(a:Ad) (bs:List Bool),vs=[.ref a]/\H a=G (.tup<|bs.map V.bl)/\bs.length<=100/\∀D ns H',H D=B->Same H H'->H' D=G (.lst<|ns.map nV)->Num bs ns->Q (.ref D) H'
def zi5:Sp:=λvs H Q _=>∃(a:Ad) (U:List V) (ms:List<|List Nat),vs=[.ref a]/\H a=G (.lst U)/\i4 (Line H) U ms/\ms.length<=100/\∀D ns H',H D=B->Same H H'->H' D=G (.lst<|ns.map nV)->Num ms ns->Q (.ref D) H'
def zdg:Sp:=λvs H Q E=>zi6 vs H Q E\/zi5 vs H Q E
def zmt:Sp:=λvs H Q _=>∃(a b:Ad) (m:Mc) (ns:List Nat),vs=[.ref a,.ref b]/\RepM H a m/\m.Ok/\H b=G (.lst<|ns.map nV)/\Sorts m ns/\
 ∀D fs H',H D=B->Same H H'->H' D=G (.lst<|fs.map nV)->Num ((List.range m.n).map<|markOf m ns) fs->Q (.ref D) H'
section
variable {α κ:Type}[DecidableEq α][DecidableEq κ]
def tabF(f:α->κ):Nat->List α->List (κ×V)
 |_,[]=>[]
 |n,x::r=>(f x,nV n)::tabF f (n+1) r
theorem zi0(f:α->κ):∀(ds:List α) (n:Nat) (d:α),tabF f n (ds++[d])=tabF f n ds++[(f d,nV<|n+ds.length)]
 |[],n,d=>rfl
 |x::r,n,d=>by
  change(f x,nV n)::tabF f (n+1) (r++[d])=_;rw[zi0 f r];change _=(f x,nV n)::(tabF f (n+1) r++[(f d,nV<|n+(r.length+1))]);rw[show n+1+r.length=n+(r.length+1) by omega]
theorem zcv(f:α->κ):∀(ds:List α) (n:Nat),(tabF f n ds).length=ds.length
 |[],_=>rfl
 |x::r,n=>by change(tabF f (n+1) r).length+1=r.length+1;rw[zcv f r]
theorem zht{f:α->κ}(inj:∀a b,f a=f b->a=b)(x:α):∀(ds:List α) (n:Nat),valV (tabF f n ds) (f x)=if x∈ds then G (nV<|n+ds.idxOf x)else B
 |[],n=>by simp[tabF,zml]
 |y::r,n=>by
  change valV ((f y,nV n)::tabF f (n+1) r) (f x)=_;by_cases h:y=x
  .subst h;rw[zbc R,Xq y0c];simp
  .rw[zbd λe=>h<|inj _ _ e,zht inj x r<|n+1];let e:(x∈y::r)↔x∈r:=by simp[y06,Ne.symm h]
   by_cases L:x∈r
   .rw[Xq L,Xq<|e.mpr L,y33,show(y==x)=Fa by simp[h],cond_false,show n+1+r.idxOf x=n+(r.idxOf x+1) by omega]
   .rw[Xp L,Xp λz=>L<|e.mp z]
theorem zec{f:α->κ}(inj:∀a b,f a=f b->a=b){x:α}{ds:List α}(h:x∈ds):valV (tabF f 0 ds) (f x)=G (nV<|nOf ds x):=by
 rw[zht inj x ds 0,Xq h,y3k];rfl
theorem zfc{f:α->κ}(inj:∀a b,f a=f b->a=b){x:α}{ds:List α}(h:¬x∈ds):valV (tabF f 0 ds) (f x)=B:=by
 rw[zht inj x ds 0,Xp h]
theorem zhu{f:α->κ}(inj:∀a b,f a=f b->a=b){x:α}{ds:List α}(h:¬x∈ds):putK (tabF f 0 ds) (f x) (V.int ((tabF f 0 ds).length:Int))=tabF f 0 (ds++[x]):=by
 rw[zm0 _<|zfc inj h,zi0,zcv,y3k]
end
def keyB(b:Bool):Key:=.inl<|blI b
def keyL(l:List Nat):List Key:=l.map λ(n:Nat)=>(Sum.inl (n:Int):Key)
theorem zfl(a b:Bool)(e:keyB a=keyB b):a=b:=zyj<|Sum.inl.inj e
theorem zbv:∀(a b:List Nat),keyL a=keyL b->a=b
 |[],[],_=>rfl
 |[],_::_,h=>nomatch h
 |_::_,[],h=>nomatch h
 |x::a,y::b,h=>by
  rw[keyL,keyL,y0r,y0r,List.cons.injEq]at h;rw[zbv a b h.2];let e:(x:Int)=(y:Int):=Sum.inl.inj h.1;rw[show x=y by omega]
theorem zj3(l:List Nat):(keyL l).map kV=l.map nV:=by unfold keyL;rw[y0u];rfl
def knT(rooms:List Nat):List (Key×V):=rooms.map λ(r:Nat)=>((Sum.inl (r:Int):Key),V.bl N)
theorem zx2(rooms:List Nat):(knT rooms).length=rooms.length:=y01 _
theorem zlz(r:Nat):∀rooms:List Nat,valV (knT rooms) (.inl (r:Int))=if r∈rooms then G (V.bl N)else B
 |[]=>by simp[knT,zml]
 |x::rooms=>by
  change valV (((Sum.inl (x:Int):Key),V.bl N)::knT rooms) (.inl (r:Int))=_;by_cases h:x=r
  .subst h;rw[zbc R,Xq y0c]
  .rw[zbd λe=>h (by have:=Sum.inl.inj e;omega),zlz r rooms];let e:(r∈x::rooms)↔r∈rooms:=by simp[y06,Ne.symm h]
   by_cases L:r∈rooms
   .rw[Xq L,Xq<|e.mpr L]
   .rw[Xp L,Xp λz=>L<|e.mp z]
theorem zx1{r:Nat}{rooms:List Nat}(h:¬r∈rooms):putK (knT rooms) (.inl (r:Int)) (V.bl N)=knT (rooms++[r]):=by
 rw[zm0 _<|by rw[zlz,Xp h]];simp[knT]
theorem TupS.wrT(h:H p=G (.dT kvs))(o:HO):TupS H (upd H p o):=λb ys e=>by rw[zak<|zrd e h (by intro z;cases z)];show e
section
variable {X:Cx}{H:Hp}
theorem zb3(n:Nat):((List.range n).all λ_=>N)=N:=by simp
theorem zw6{l:List Nat}(d:H a=G (.tup<|l.map nV))(U:H b=G (.tup<|l.map nV)):RcOk X (k+1) H (.ref a) (.ref b) N:=by
 let r:=zdt (X:=X) (k:=k) (.of d) (.of U) (λ_=>N) λj Y M=>by
  let e:(l.map nV)[j]=V.int (l[j]'(by simpa using Y):Nat):=by simp
  rw[e];let z:=zcn (X:=X) (k:=k) (H:=H) (x:=V.int ((l[j]'(by simpa using Y):Nat):Int)) (y:=V.int ((l[j]'(by simpa using Y):Nat):Int)) R rfl;rw[show eqV (V.int ((l[j]'(by simpa using Y):Nat):Int)) (V.int ((l[j]'(by simpa using Y):Nat):Int))=N by simp[eqV]]at z;show z
 rw[zb3,show((l.map nV).length==(l.map nV).length)=N by simp,y1d]at r;show r
theorem ztw{l:List Bool}(d:H a=G (.tup<|l.map V.bl))(U:H b=G (.tup<|l.map V.bl)):RcOk X (k+1) H (.ref a) (.ref b) N:=by
 let r:=zdt (X:=X) (k:=k) (.of d) (.of U) (λ_=>N) λj Y M=>by
  let e:(l.map V.bl)[j]=V.bl (l[j]'(by simpa using Y)):=by simp
  rw[e];let z:=zcn (X:=X) (k:=k) (H:=H) (x:=V.bl<|l[j]'(by simpa using Y)) (y:=V.bl<|l[j]'(by simpa using Y)) R rfl;rw[show eqV (V.bl<|l[j]'(by simpa using Y)) (V.bl<|l[j]'(by simpa using Y))=N by simp[eqV]]at z;show z
 rw[zb3,show((l.map V.bl).length==(l.map V.bl).length)=N by simp,y1d]at r;show r
theorem zl2(r:RcOk X k H (.ref a) (.ref b) N):EqOk X k H (.ref a) (.ref b) N:=by
 by_cases h:a=b
 .subst h;show zsa
 .exact .of_rc h r
theorem ztv(d:H a=G (.tup e))(U:H b=G (.tup ts))(pa:i4 (Line H) e ls)(c:i4 (Line H) ts ls):RcOk X (k+2) H (.ref a) (.ref b) N:=by
 let l1:=SS.Paired.len pa;let l2:=SS.Paired.len c;let r:=zdt (X:=X) (k:=k+1) (.of d) (.of U) (λ_=>N) λj Y M=>by
  let(x,ex,p,ep,L):=SS.Paired.at pa<|y00 Y;let(y,J,q,eq,A):=SS.Paired.at c<|y00 M;rw[ex]at J;cases J;rw[ep,eq];show zl2<|zw6 L A
 rw[zb3,show(e.length==ts.length)=N by simp;omega,y1d]at r;show r
theorem zw5(d:RepM H a m)(U:RepM H b m):RcOk X 8 H (.ref a) (.ref b) N:=by
 let(u,I,e,J,g,Q,s):=d;let(A,v,ts,f1,q,L,i):=U;let r:=zdt (X:=X) (k:=7) (.of J) (.of f1) (λ_=>N) λj Y M=>by
  let o:j=0\/j=1\/j=2:=by simp only[y0s,y1o]at Y;omega
  rcases o with rfl|rfl|rfl
  .let z:=zcn (X:=X) (k:=7) (H:=H) (x:=V.int (m.w:Int)) (y:=V.int (m.w:Int)) R rfl;rw[show eqV (V.int (m.w:Int)) (V.int (m.w:Int))=N by simp[eqV]]at z;show z
  .exact zl2<|(ztv (k:=5) g q Q L)
  .exact zl2<|(ztw (k:=6) s i)
 show r
end
end SM
namespace L2
theorem zim{pos p:Pos}(l:List Va)(h:TriplesOk l):ju p (l++[iB pos.line,iB pos.col,v])=match ju p l with
  |some x=>G x
  |none=>if((pos.line:Int)==(p.line:Int)&&(pos.col:Int)==(p.col:Int))=N then G v else B:=by
 fun_induction TriplesOk l with
 |case1=>simp[ju,iB]
 |case2 a t b u x rest E =>
  simp only[y3f,ju];split
  .rfl
  .exact E h
 |case3 l Y M=>show h.elim
def TabOk(H:Hp)(P:Ad)(qs:Y3):Prop:=∃ps:Array Va,H P=G (.tbl qs ps)
theorem TabOk.same(T:TabOk H P qs)(g:Same H H'):TabOk H' P qs:=let⟨ps,h⟩:=T;⟨ps,g _ _ h⟩
def KCode(K:Frag)(c P:Ad):Prop:=∃o vs d x a l j text p,K.lookup c=G o/\o.cls=.type "code"/\o.data=.fields vs/\vs[11]?=G (.ref P)/\vs.getD 11 .none=.ref P/\vs.getD 18 .none=.str d x/\
 vs.getD 7 .none=.int a l/\vs.getD 9 .none=.bool j/\vs.getD 10 .none=.int text p/\c≠P
section
variable {X:Cx}{pins:Y2}{σ:St}{H:Hp}{s:ik}
theorem zx9(I:02 H s)(C:X.env.code=.ref c)(kc:KCode X.K c P)
  (T:TabOk H P qs) (A:(pos,qual)∈qs) (hone:∀p∈qs,p.1.line=pos.line->p.1.col=pos.col->p.2=qual)
  (h:∀c' o H' s',02 H' s'->H' c'=G (.frz o<|.own c')->CodeObj o qual->Same H H'->Q (.ref c') s') :
  wpAny 06 X.A (functionCode X.env pos line name qual params scope body) Q E s:=by
 let(ps0,hP):=T;let(i,hop,htr,hcs):=I.hok P _ hP;let(oc,vs,file,tf,d5,tg,inF,text,tt,lk,D,hd,h11',h11,h18,h7,h9,h10,l):=kc;let j:s.heap.get? c=G oc:=I.kIn c oc lk;generalize fu:ps0++i=ps at hop htr hcs;cases hf:ju pos ps.toList with
 |some v =>
  let(c',o,rfl,d,co):=hcs _ A v hf;unfold functionCode codeAt;rw[C,Xp<|show¬((Va.ref c==Va.none)=N)from y0g];apply ig<|jG j hd ?_;rw[h11];apply ig<|jG hop R ?_;rw[hf];show ii<|h c' o H s I d co λ_ _ e=>e
 |none =>
  let ic:s.heap.IsCode c P ps:=⟨oc,vs,file,tf,d5,tg,inF,text,tt,_,j,hd,h11,h18,h7,h9,h10,hop,R,htr,l⟩;apply wpAny_functionCodeX C ic ⟨⟨oc,vs,j,D,hd,h11'⟩,hop⟩ hf λc' h' tk O hge f hic hrec on _=>?_;let(c₂,o',y,t',e,d,av,hv'):=hrec;cases e;let nPn:∀b,H b=B->b≠P:=λb e z=>by rw[z,hP]at e;cases e
  let hcn:H c'=B:=I.hok.fresh hge;let nc:∀b u,H b=G u->b≠c':=λb u e z=>by rw[z,hcn]at e;cases e
  let nP:∀b u,H b=G u->(∀a b,u ≠ .tbl a b)->b≠P:=λb u e n z=>by rw[z,hP]at e;cases e;show n _ _ R
  let up:∀b u,H b=G u->upd H c' (.frz o'<|.own c') b=G u:=λb u e=>by rw[zak<|nc b u e];show e
  let co:CodeObj o' qual:=⟨y,t',av,hv'⟩;let r:02 (upd H c'<|.frz o' (.own c')) {s with heap:=h',toks:=tk}:=by
   apply I.un ⟨λb o e n _ _=>O b o (nPn b n) e,λb o e n _ _=>⟨o.slots,O b o (nPn b n) e⟩,λb o e n _=>?_,λb o e _=>?_,λb xs e=>up b _ e,λb o u e=>up b _ e,λb qs ps e=>up b _ e⟩ λb u e=>?_
   .rw[zak<|y0o (y0p (y0e e) hge)];show n
   .by_cases U:b=P
    .subst U;show⟨_,on.2⟩
    .exact⟨o,O b o U e⟩
   .by_cases U:b=c'
    .subst U;rw[zar]at e;cases e;show⟨d,_,d⟩
    .rw[zak U]at e;by_cases hbP:b=P
     .subst hbP;rw[hP]at e;cases e;let hl:(ps++#[iB pos.line,iB pos.col,Va.ref c']).toList=ps.toList++[iB pos.line,iB pos.col,.ref c']:=by simp
      let g:ps0++(i++#[iB pos.line,iB pos.col,Va.ref c'])=ps++#[iB pos.line,iB pos.col,Va.ref c']:=by rw[←Array.append_assoc,fu]
      apply⟨i++#[iB pos.line,iB pos.col,.ref c'],by rw[g];show on.2,by rw[g,hl];show TriplesOk_snoc _ _ _ _ htr,λp L v e=>?_⟩;rw[g,hl,zim _ htr]at e;cases hv:ju p.1 ps.toList with
      |some x =>
       rw[hv]at e;cases e;let(Y,o1,J,g,e3):=hcs p L _ hv;show⟨Y,o1,J,up Y _ g,e3⟩
      |none =>
       rw[hv]at e;simp only at e;split at e
       .rename_i M;cases e;rw[y07]at M;let J:pos.line=p.1.line:=by have:=M.1;simp at this;omega
        let g:pos.col=p.1.col:=by have:=M.2;simp at this;omega
        show⟨c',o',R,zar,by rw[hone p L J.symm g.symm];show co⟩
       .cases e
     .refine(I.hok b u e).stay (λc w C q=>O c w ?_ q) (λc q=>up c _ q) (λc _ _ _ _ q=>up c _ q) λc xs q=>up c _ q;rcases C with rfl|C
      .exact hbP
      .exact nP c _ C λ_ _ z=>nomatch z
  show h c' o' _ _ r zar co up
def cloFd(name qual:Str)(params:iK)(body:lE)(scope:Scope)(cl:Y4)(ct cd p:Va):i5 :=
 {name,qualname:=qual,params,body,scope,globals:=iz,closure:=cl,closureTuple:=ct,code:=cd,builtins:=jb,defaults:=.none,kwdefaults:=.none,annotations:=B,pyModule:=p,doc:=.none}
def BltK(base:Heap)(mg:Y1):Prop:=∃bm o,mg "__builtins__"=G (.ref bm)/\bm≠jb/\base.get? bm=G o/\o.cls=.type "module"/\o.dict=G jb/\o.data=.plain
def NoDoc:lE->Prop
 |.stmts b=>docOf b=B
 |.expr _=>True
structure Made(X:Cx)(H H':Hp)(name qual:Str)(params:iK)(body:lE)(scope:Scope)(f:Ad):Prop where
 old:Same H H'
 new:H f=B
 ex:∃cl ct c' oc pm,(∀x c,cl.lookup x=G c->X.env.cells.lookup x=G c)/\(∀p∈scope.names,p.2=.free->∃c,cl.lookup p.1=G c)/\H' c'=G (.frz oc<|.own c')/\CodeObj oc qual/\
  H' f=G (.frz {cls:=.type "function",data:=.func (cloFd name qual params body scope cl ct (.ref c') pm)} (.own f))
theorem zlw(I:02 H s)(C:X.env.code=.ref c)(Y:KCode X.K c P)(x:BltK X.base X.mg)
  (g:∀p∈scope.names,p.2=.free->X.env.kindOf p.1=G .cell\/X.env.kindOf p.1=G .free) (nd:NoDoc body)
  (T:TabOk H P qs) (A:(pos,qual)∈qs) (i:∀p∈qs,p.1.line=pos.line->p.1.col=pos.col->p.2=qual)
  (h:∀f H' s',02 H' s'->Made X H H' name qual params body scope f->Q (.ref f) s') :
  wpAny 06 X.A (makeFunction name qual params body scope X.env [] [] [] pos line) Q E s:=by
 let(cl,D,w,M):=zhl (scope:=scope) (env:=X.env) λp L hf=>I.ok.has p.1<|g p L hf;let(bm,ob,b1,b2,j,b4,d,b6):=x;let tail:∀(ct:Va) (s1:ik),02 H s1->wpAny 06 X.A (do
   let fd:i5:={name,qualname:=qual,params,body,scope,globals:=X.env.globals,closure:=cl,closureTuple:=ct,code:=←functionCode X.env pos line name qual params scope body,builtins:=←builtinsFor X.env.globals X.env.builtins,defaults:=.none,kwdefaults:=.none,annotations:=B,pyModule:=(←nsGet X.env.globals "__name__").getD .none,doc:=←match body with|.stmts b=>(match docOf b with|some s=>mkText s|none=>pure .none)|.expr _=>pure .none}
   newObj (.type "function") (.func fd)) Q E s1:=by
  intro ct s1 I1;apply ig<|zx9 I1 C Y T A i λc' oc H' s' r J co up=>?_;let y:s'.heap.Ns X.env.globals X.mg:=by rw[r.ok.glob];show r.mod.glob.keeps r.bk
  apply ig<|wpAny_builtinsFor y b1 b2 (r.bk bm ob j) b4 d b6 ?_;apply ig<|wpAny_nsGet y ?_;let fin:wpAny 06 X.A (newObj (.type "function")<|.func {name,qualname:=qual,params,body,scope,globals:=X.env.globals,closure:=cl,closureTuple:=ct,code:=.ref c',builtins:=jb,defaults:=.none,kwdefaults:=.none,annotations:=B,pyModule:=(X.mg "__name__").getD .none,doc:=.none}) Q E s':=by
   apply i6 ?_ (by size_fits);rw[r.ok.glob];let q:H' s'.heap.objs.size=B:=r.fresh;let v:H s'.heap.objs.size=B:=by
    cases e:H s'.heap.objs.size with
    |none=>rfl
    |some u=>rw[up _ u e]at q;cases q
   let l:∀b u,H' b=G u->b≠s'.heap.objs.size:=λb u e z=>by rw[z,q]at e;cases e
   let O:=r.laid (a:=s'.heap.objs.size) (o:=.frz {cls:=.type "function",data:=.func (cloFd name qual params body scope cl ct (.ref c')<|(X.mg "__name__").getD .none)} (.own s'.heap.objs.size)) (t':=s'.toks)
    (h':=s'.heap.push {cls:=.type "function",data:=.func (cloFd name qual params body scope cl ct (.ref c')<|(X.mg "__name__").getD .none)}) (λb u e=>y03 _ e) (y04 _) ⟨y0f _ R,_,y0f _ R⟩
   apply h _ _ _ O ⟨λb u e=>by rw[zak<|l b u (up b u e)];show up b u e,v,cl,ct,c',oc,_,w,M,by rw[zak<|l c' _ J];show J,co,zar⟩
  cases body with
  |expr e=>show ig<|ii fin
  |stmts b =>
   let U:docOf b=B:=nd;apply ig ?_;change wpAny _ _ (match docOf b with|some s=>mkText s|none=>pure .none) _ _ _;rw[U];show ii fin
 rw[makeFunction_eq];simp only[List.isEmpty_nil,if_true,List.zip_nil_right,List.filterMap_nil];apply ig<|ii (ig<|ii (ig<|ii ?_));unfold makeTail;rw[D];apply ig<|ii ?_;change wpAny _ _ (if cl.isEmpty=N then _ else _) _ _ _;by_cases he:cl.isEmpty=N
 .rw[Xq he];show ig<|ii (tail .none s I)
 .rw[Xp he];apply ig<|wpAny_newTextTuple ?_;show(tail _ _<|I.kept (t':=s.toks) λb o e=>y03 _ e)
end
noncomputable def fnO(fd:i5)(f:Ad):HO:=.frz {cls:=.type "function",data:=.func fd} (.own f)
def Frz(H H':Hp):Prop:=∀b o u,H b=G (.frz o u)->H' b=G (.frz o u)
theorem Frz.refl(H:Hp):Frz H H:=λ_ _ _ e=>e
theorem Frz.trans(a:Frz H H1)(b:Frz H1 H2):Frz H H2:=λc o u e=>b c o u<|a c o u e
theorem Same.frz(g:Same H H'):Frz H H':=λb o u e=>g _ _ e
def CloH(P:im)(w:World)(K:Frag)(mg:Y1)(base:Heap)(k:Nat)(H:Hp)(f:Ad)(n:Nat)(sp:Sp):Prop :=
 ∀(A:ir) (outer:List Env) (s:ik) (H':Hp) (us:List Va) (vs:List V) (Q:VK),Room k A->Env0 P w K mg base A outer s H'->Frz H H'->Vals vs us->vs.length=n->sp vs H' Q E0->
  iY (model P w) A (.call (.ref f) ⟨us,[]⟩) (CR CX0 outer P w H' s Q E0) s
theorem CloH.mono{P:im}{w:World}{K:Frag}{mg:Y1}{base:Heap}{k:Nat}{H H1:Hp}{f:Ad}{n:Nat}{sp:Sp}(c:CloH P w K mg base k H f n sp)(g:Frz H H1):CloH P w K mg base k H1 f n sp :=
 λA outer s H' us vs Q L M O=>c A outer s H' us vs Q L M<|g.trans O
def tCallV(P:im)(w:World)(K:Frag)(mg:Y1)(base:Heap)(k n:Nat)(sp:Sp)(i:Nat)(t:TA):TE:=λσ H Q=>∃f fd,σ[i]?=G (G<|.ref f)/\H f=G (fnO fd f)/\
 t σ H λvs H1=>H1 f=G (fnO fd f)/\CloH P w K mg base k H1 f n sp/\vs.length=n/\sp vs H1 Q E0
theorem zid(f:Ad)(fd:i5):PySem.W.keepIn [(f,{cls:=.type "function",data:=.func fd})] (.ref f)=N:=by
 unfold PySem.W.keepIn;simp[List.lookup]
theorem zue{X:Cx}{x:Str}{i k n:Nat}{sp:Sp}{p pos:Pos}{e:Expr}{l:List Expr}{t:TA}(hN:X.Nq[i]?=G x)(hv:Vis X.env.scope x)(L:Room k X.A)(d:PA X (e::l) t)
  (hd:(x==("__debug__":Str))=Fa:=by decide) (hcd:(x==("__classdict__":Str))=Fa:=by decide) (w:iq (e::l) X.env=(Fa,eval e X.env)::iq l X.env:=by rfl) (U:(ji pos<|iq l X.env).any (·.1)=Fa:=by rfl) :
  PE X (.Call (.Name x p) (e::l) [] pos) (tCallV X.prog X.w X.K X.mg X.base k n sp i t):=by
 intro pins s σ H Q I h;let(f,fd,hs,T,h):=h;ac_rfl;let(J,g):=zq;subst J g;cases(show u=Va.ref f from r1);let v:∀{H2:Hp} {s2:ik},02 H2 s2->H2 f=G (fnO fd f)->PySem.W.Frag.In [(f,{cls:=.type "function",data:=.func fd})] s2.heap:=λ{H2 s2} O j a o e=>by
  simp only[List.lookup]at e;split at e
  .rename_i q;cases e;rw[beq_iff_eq.mp q];show(O.hok f _ j).1
  .cases e
 apply PySem.W.callWith_K (K:=[(f,{cls:=.type "function",data:=.func fd})]) (h₀:=s1.heap) (v I1 T) (zid f fd) (thn (d pos pins s1 σ H1 _ I1 h) λus s2 ⟨vs,H2,O,r,j,c,hl,q⟩=>⟨v O j,?_⟩) w U;apply jm<|iG (c X.A X.stack s2 H2 us vs Q L O.env0 (Frz.refl _) r hl q) λr s' A=>?_;cases r with
 |error e=>show False.elim A
 |ok D =>
  cases D with
  |ret u=>show O.after A
  |next=>show False.elim A
  |brk=>show False.elim A
  |cont=>show False.elim A
def tDef(X:Cx)(P:Ad)(qs:Y3)(name qual:Str)(params:iK)(body:lE)(scope:Scope)(j:Nat):TS:=λD σ H=>TabOk H P qs/\∀f H',Made X H H' name qual params body scope f->D.nx (σ.set j<|G (.ref f)) H'
def tLam(X:Cx)(P:Ad)(qs:Y3)(name qual:Str)(params:iK)(body:lE)(scope:Scope):TE:=λσ H Q=>TabOk H P qs/\∀f H',Made X H H' name qual params body scope f->Q (.ref f) H'
section
variable {X:Cx}{c P:Ad}{qs:Y3}{pos:Pos}{name qual:Str}{params:iK}{scope:Scope}
theorem zqi(C:X.env.code=.ref c)(Y:KCode X.K c P)(x:BltK X.base X.mg)(g:∀p∈scope.names,p.2=.free->X.env.kindOf p.1=G .cell\/X.env.kindOf p.1=G .free)
  (A:(pos,qual)∈qs) (i:∀p∈qs,p.1.line=pos.line->p.1.col=pos.col->p.2=qual) (hd:params.defaults=[]) (D:params.kw_defaults=[]) (a:X.env.qual++"<lambda>"=qual) :
  PE X (.Lambda params body scope pos) (tLam X P qs "<lambda>" qual params (.expr body) scope):=by
 intro pins s σ H Q I h;let(T,h):=h;rw[arm_eval_Lambda];let l:defaultsOf params X.env=([],[]):=by rw[defaultsOf_eq,hd,D];rfl
 simp only[l];apply ig<|ii (ig<|iu (ii ?_));rw[a];show zlw I C Y x g trivial T A i λf H' s' r M=>⟨.ref f,H',r,R,h f H' M⟩
theorem zxa(C:X.env.code=.ref c)(Y:KCode X.K c P)(x:BltK X.base X.mg)(g:∀p∈scope.names,p.2=.free->X.env.kindOf p.1=G .cell\/X.env.kindOf p.1=G .free)(nd:docOf body=B)
  (A:(pos,qual)∈qs) (i:∀p∈qs,p.1.line=pos.line->p.1.col=pos.col->p.2=qual) (hd:params.defaults=[]) (U:params.kw_defaults=[]) (d:∀e,annTrees params B e=[]) (a:lB X.env name name=qual)
  (hN:X.Nq.Nodup) (o:X.Nq[j]?=G name) (O:X.env.scope.names.lookup name=G .local):PS X (.FunctionDef name params body [] B [] scope B name pos) (tDef X P qs name qual params (.stmts body) scope j):=by
 intro pins s σ H D I h;let(T,h):=h;rw[exec_def];let l:defaultsOf params X.env=([],[]):=by rw[defaultsOf_eq,hd,U];rfl
 simp only[l,d,a];apply ig<|iW (ig<|iu (ig<|ii (ig<|iu (ii<|iu (ig<|ii ?_)))));apply zlw I C Y x g nd T A i λf H' s' r M=>ig<|iW (ig<|wpAny_bindName ?_);show zcw r hN o (.inl O) (v:=.ref f) R (λs2 Q=>ii ⟨_,H',Q,h f H' M⟩)<|.inr O
end
def CellOf(X:Cx)(b:Ad):Prop:=∃x,X.env.cells.lookup x=G b
def Adopted(X:Cx)(σ:St)(H Hq:Hp):Prop:=(∀b,¬CellOf X b->Hq b=H b)/\(∀b,CellOf X b->H b=B)/\(∀x y c,X.env.cells.lookup x=G c->X.env.cells.lookup y=G c->x=y)/\∀x c,X.env.cells.lookup x=G c->∃o v,Hq c=G (.frz o<|.own c)/\o.data=.cell v/\
 ∀(i:Nat) y,X.Nq[i]?=G x->σ[i]?=G (G y)->(X.env.kindOf x=G .cell\/X.env.kindOf x=G .free)->∃u,RelV y u/\v=G u
open Classical in
noncomputable def dropX(X:Cx)(H:Hp):Hp:=λb=>if CellOf X b then B else H b
def tCallA(X:Cx)(sp:Sp)(t:TA):TE:=λσ H Q=>t σ H λvs H1=>∀Hq,Adopted X σ H1 Hq->sp vs Hq (λv H2=>Q v<|dropX X H2) E0
theorem zug{X:Cx}{k:Nat}{f:Ad}{fd:i5}{ps:List Str}{sp:Sp}{x:Str}{p pos:Pos}{e:Expr}{es:List Expr}{t:TA}(F:FnOk X.prog X.w X.K X.mg X.base CX0 k f fd ps sp)(L:Room k X.A)(hg:Gl X x)(hm:X.mg x=G (.ref f))(D:PySem.W.keepIn X.K (.ref f)=N)(U:Binds X.K fd ps [])
  (bq:∀x,X.fn x=N) (d:PA X (e::es) t) (aq:(x==("__debug__":Str))=Fa:=by decide) (he:iq (e::es) X.env=(Fa,eval e X.env)::iq es X.env:=by rfl) (aw:(ji pos<|iq es X.env).any (·.1)=Fa:=by rfl) :
  PE X (.Call (.Name x p) (e::es) [] pos) (tCallA X sp t):=by
 classical
 intro pins s σ H Q I h;apply iI<|zeo I hg hm ?_ aq;apply PySem.W.callWith_K (h₀:=X.base) I.ok.mod.kin D (thn (d pos pins s σ H _ I h) λus s1 zz=>ex5 zz λvs H1 I1 r q=>⟨I1.kIn,?_⟩) he aw;letI Hq:Hp:=λb=>if CellOf X b then(s1.heap.get? b).map λo=>.frz o (.own b)else H1 b
 let w:∀b,¬CellOf X b->Hq b=H1 b:=λb n=>Xp n;let q2:∀x c,X.env.cells.lookup x=G c->∃o v,s1.heap.get? c=G o/\o.data=.cell v/\Hq c=G (.frz o<|.own c):=λx c e=>by
  let(v,o,j,hd):=I1.cell x c e;show⟨o,v,j,hd,by change(if CellOf X c then _ else _)=_;rw[Xq ⟨x,e⟩,j];rfl⟩
 let tr:∀b u,H1 b=G u->¬CellOf X b:=λb u e ⟨x,z⟩=>by rw[I1.freeC x b z]at e;cases e
 let ad:Adopted X σ H1 Hq:=⟨w,λb ⟨x,z⟩=>I1.freeC x b z,I1.ok.inj,λx c e=>by
  let(o,v,j,hd,A):=q2 x c e;apply⟨o,v,A,hd,λi y J g e3=>?_⟩;let(m,hn,hl):=I1.loc;let(u,ru,l):=hl i x y J g (by rcases e3 with z|z;show .inr<|.inl z;show .inr<|.inr z);rcases l with⟨z,_⟩|⟨_,c',au,o',Y,av⟩
  .rcases e3 with y'|y'<;>(rw[z]at y';cases y')
  .rw[e]at au;cases au;rw[j]at Y;cases Y;rw[hd]at av;cases av;show⟨u,ru,R⟩⟩
 let dv:∀b,CellOf X b->X.s₀.heap.objs.size<=b:=λb ⟨x,e⟩=>I1.ok.cab x b (bq x) e;let d6:∀b∈frs X.stack,¬CellOf X b:=λb U ⟨x,e⟩=>by
  rcases y06.mp (I1.stkSub b U)with z|z
  .exact I1.cne x b e z
  .let(_,o,j,_):=I1.ok.funs.mem z;show Xa (y0p (y0e j)<|dv b ⟨x,e⟩)<|y1g _
 let up:∀b u,H1 b=G u->Hq b=G u:=λb u e=>by rw[w b<|tr b u e];show e
 let l0:HOk X.prog X.w Hq s1.heap:=λb u e=>by
  by_cases C:CellOf X b
  .let(x,ex):=C;let(o,v,j,hd,A):=q2 x b ex;rw[A]at e;cases e;show⟨j,o,j⟩
  .rw[w b C]at e;show(I1.hok b u e).stay (λ_ _ _ z=>z) (λc z=>up c _ z) (λc _ _ _ _ z=>up c _ z) λc xs z=>up c _ z
 let M:=I1.env0;let l7:Env0 X.prog X.w X.K X.mg X.base X.A X.stack s1 Hq:=⟨M.frames,M.mod,λb o e=>⟨(M.bs b o e).1,by
  rw[w b λC=>Xa (y0p (y0e e)<|y19 I1.ok.bsz (dv b C))<|y1g _];show(M.bs b o e).2⟩,M.bsz,M.funs,λb U=>by rw[w b<|d6 b U];show M.frf b U,l0,M.bare⟩
 let hl:us.length=ps.length:=by rw[←r.length];show F.len _ _ _ _<|q Hq ad
 apply jm<|iG (F.run X.A X.stack s1 Hq ⟨us,[]⟩ us vs _ E0 L l7 (by have:=U s1 us I1.kIn (by rw[y1k];show hl);rw[y1k]at this;show this) r<|q Hq ad) λr s' A=>?_;cases r with
 |error e=>show False.elim A
 |ok fl =>
  cases fl with
  |next=>show False.elim A
  |brk=>show False.elim A
  |cont=>show False.elim A
  |ret u =>
   let(v,H2,os,bare,un,bn,rv,qq):=A;let c2:∀x c,X.env.cells.lookup x=G c->∃o,s1.heap.get? c=G o/\H2 c=G (.frz o<|.own c)/\s'.heap.get? c=G o:=λx c e=>by
    let(o,v,j,hd,A):=q2 x c e;let z:=un.frzs c o _ A;show⟨o,j,z,(bn c _ z).1⟩
   let d1:∀b,¬CellOf X b->dropX X H2 b=H2 b:=λb n=>Xp n;let nmC:∀b o u q,CodeObj o q->H2 b=G (.frz o u)->¬CellOf X b:=λb o u q ⟨vs,t,hv,_⟩ e ⟨x,z⟩=>by
    let(o',Y,E,_):=c2 x b z;rw[E]at e;cases e;let(v,o3,j,hd):=I1.cell x b z;rw[Y]at j;cases j;rw[hv]at hd;cases hd
   let nm:∀b u,H2 b=G u->(∀o a,u ≠ .frz o a)->¬CellOf X b:=λb u e n ⟨x,z⟩=>by
    let(o,_,E,_):=c2 x b z;rw[E]at e;cases e;show n _ _ R
   apply I1.after ⟨v,dropX X H2,os,bare,⟨λb o e n T O=>?_,λb o e n T O=>?_,λb o e n O=>?_,λb o e O=>?_,λb xs e=>?_,λb o a e=>?_,λb qs ps e=>?_⟩,λb u e=>?_,rv,qq⟩
   .by_cases C:CellOf X b
    .let(x,ex):=C;let(o',Y,_,z):=c2 x b ex;rw[e]at Y;cases Y;show z
    .exact un.keep b o e (by rw[w b C];show n) T O
   .exact un.slot b o e (by rw[w b<|d6 b T];show n) T O
   .by_cases C:CellOf X b
    .exact Xq C
    .rw[d1 b C];show un.free b o e (by rw[w b C];show n) O
   .exact un.there b o e O
   .rw[d1 b<|tr b _ e];show un.tups b xs<|up b _ e
   .rw[d1 b<|tr b _ e];show un.frzs b o a<|up b _ e
   .rw[d1 b<|tr b _ e];show un.tbls b qs ps<|up b _ e
   .let C:¬CellOf X b:=λC=>by
     let:dropX X H2 b=B:=Xq C;rw[this]at e;cases e
    rw[d1 b C]at e;show(bn b u e).stay (λ_ _ _ z=>z) (λc z=>by rw[d1 c<|nm c _ z λ_ _ y=>nomatch y];show z) (λc o a q co z=>by rw[d1 c<|nmC c o a q co z];show z) λc xs z=>by rw[d1 c<|nm c _ z λ_ _ y=>nomatch y];show z
theorem zg9:∀{xs:List q} {ys:List s},i4 Rq xs ys->xs.length=ys.length
 |_,_,.nil=>rfl
 |_,_,.cons _ t=>by rw[y0s,y0s,zg9 t]
theorem zsv:∀{xs:List q} {ys:List s} {i:Nat} {x:q} {y:s},i4 Rq xs ys->xs[i]?=G x->ys[i]?=G y->Rq x y
 |_,_,_,_,_,.nil,e,_=>by simp at e
 |_,_,0,_,_,.cons r _,J,g=>by simp at J g;subst J g;show r
 |_,_,i+1,_,_,.cons _ t,J,g=>zsv (i:=i) t (by simpa using J) (by simpa using g)
def envL(qual:Str)(scope:Scope)(cl:Y4)(L f:Ad)(cd:Va):Env :=
 {scope:=scope,locals:=L,globals:=iz,cells:=cl,qual:=qual++".<locals>.",func:=G f,code:=cd,frame:=G L,builtins:=jb}
def InCl(cl:Y4)(b:Ad):Prop:=∃x,cl.lookup x=G b
open Classical in
noncomputable def dropL(cl:Y4)(H:Hp):Hp:=λb=>if InCl cl b then B else H b
open Classical in
noncomputable def mixL(cl:Y4)(H H2:Hp):Hp:=λb=>if InCl cl b then H b else H2 b
noncomputable def cxL(P:im)(w:World)(K:Frag)(mg:Y1)(base:Heap)(Nq:List Str)(qual:Str)(scope:Scope)(cl:Y4)(f:Ad)(cd:Va)(A:ir)(outer:List Env)(s:ik)(H:Hp):Cx where
 prog:=P
 w:=w
 K:=K
 mg:=mg
 base:=base
 A:=A.deeper<|envL qual scope cl s.heap.objs.size f cd
 Nq:=Nq
 s₀:=s
 H₀:=dropL cl H
 env:=envL qual scope cl s.heap.objs.size f cd
 outer:=outer
 stack:=envL qual scope cl s.heap.objs.size f cd::outer
 ex:=[]
 calm:=N
 fn:=λ_=>Fa
 pn:=[]
 xe:=λ_ _=>False
structure CloScope(own ps cap:List Str)(sc:Scope):Prop where
 kind:sc.kind=.function
 co:sc.isCoroutine=Fa
 gen:sc.isGenerator=Fa
 nocell:∀y∈sc.names,y.2 ≠ .cell
 pre:own.take ps.length=ps
 nd:ps.Nodup
 par:∀x∈ps,sc.names.lookup x=G .local
 cap:∀x∈cap,sc.names.lookup x=G .free
def Caps(H:Hp)(cl:Y4)(cap:List Str)(cv:List V):Prop:=i4 (λx v=>∃c o u,cl.lookup x=G c/\H c=G (.frz o<|.own c)/\o.data=.cell (G u)/\RelV v u) cap cv
noncomputable def stL(own:List Str)(vs cv:List V):St:=vs.map G++List.replicate (own.length-vs.length) B++cv.map G
section
variable {P:im}{w:World}{K:Frag}{mg:Y1}{base:Heap}{A:ir}{outer:List Env}{s:ik}{H:Hp}{own ps cap:List Str}{qual:Str}{scope:Scope}{cl:Y4}{f:Ad}{cd:Va}{vs cv:List V}{us:List Va}
theorem zbq(D:∀x c,cl.lookup x=G c->∃o v,H c=G (.frz o<|.own c)/\o.data=.cell v)(e:H b=G u)(n:∀o a,u ≠ .frz o a):¬InCl cl b:=λ⟨x,z⟩=>by
 let(o,v,E,_):=D x b z;rw[E]at e;cases e;show n _ _ R
theorem zse(D:∀x c,cl.lookup x=G c->∃o v,H c=G (.frz o<|.own c)/\o.data=.cell v)(co:CodeObj o q)(e:H b=G (.frz o a)):¬InCl cl b:=λ⟨x,z⟩=>by
 let(o,v,E,d):=D x b z;rw[E]at e;cases e;let(vs,t,hv,_):=co;rw[hv]at d;cases d
end
section
variable {prog:im}{w:World}{A:ir}{Rq:Result->ik->Prop}{s:ik}
theorem zil(h:wpAny (model prog w) (A.deeper env) (eval e env) (λv s'=>Rq (.ok<|.ret v) s') (λe s'=>wpAny (model prog w) (A.deeper env) (lj env e) (λ_ d=>Rq (.error e) d) (λQ d=>Rq (.error Q) d) s') s):
  iY (model prog w) A (.expr e env) Rq s:=by
 apply jz ?_;change wpAny _ (A.deeper env) (do point;ret (←(eval e env).onRaise (lj env))) _ _ s;show ig<|wpAny_point (ig<|jO (iy h (λv s' h'=>ii h') λ_ _ h'=>h'))
theorem zd4(d:A.depth<jY)(j:s.heap.get? a=G o)(p:o.data=.func fd)(g:fd.scope.isCoroutine=Fa)(f:fd.scope.isGenerator=Fa)(i:fd.body=.expr body)(hcd:s.heap.CodeRec fd.code fd.qualname)
  (h:wpAny (model prog w) A.in1 (iZ fd args) (λbinds s₁ =>
   wpAny (model prog w) A.in1 (jH fd.scope fd.globals fd.closure binds (fd.qualname++".<locals>.") (G a) fd.code B fd.builtins)
    (λenv s₂=>s₂.heap.NoLimit/\iY (model prog w) A (.expr body env) Rq s₂) (λe s'=>Rq (.error e) s') s₁) (λe s'=>Rq (.error e) s') s) :
  iY (model prog w) A (.call (.ref a) args) Rq s:=by
 apply jz ?_;change wpAny _ A.in1 (callAny (.ref a) args) _ _ s;simp only[callAny];apply ig<|lw j ?_;let(c,oc,vs,q,C,r,u,O):=hcd;simp only[p,callFunction,g,f,i,C];rw[C]at h;apply ig (m:=field (.ref c) 1)<|i7 r u O (ig<|ii ?_);show ig (iy h (λbinds s₁ h₁=>ig (iy h₁ (λenv s₂ l=>ig (wpAny_enterFrame l.1 d
  (ii<|And.intro R l.2))) λ_ _ h'=>h')) λ_ _ h'=>h')
end
section
variable {P:im}{w:World}{K:Frag}{mg:Y1}{base:Heap}{H:Hp}{own ps cap:List Str}{name qual:Str}{params:iK}{scope:Scope}{cl:Y4}{f c':Ad}{oc:Obj}{ct pm:Va}{cv:List V}{k:Nat}{sp:Sp}
theorem Caps.frz(g:Frz H H'):∀{cap:List Str} {cv:List V},Caps H cl cap cv->Caps H' cl cap cv
 |_,_,.nil=>.nil
 |_,_,.cons ⟨c,o,u,J,q,Q⟩ t=>.cons ⟨c,o,u,J,g _ _ _ q,Q⟩<|Caps.frz g t
end
theorem zbl:∀(ns:List<|Str×jj) (n:Nat) (cl:Y4),i0 n ns cl=i0 n ns []++cl
 |[],_,_=>rfl
 |(x,k)::r,n,cl=>by
  unfold i0;split
  .rw[zbl r (n+1) ((x,n)::cl),zbl r (n+1) [(x,n)]];simp
  .exact zbl r n cl
theorem zb2:∀(ns:List<|Str×jj) (n:Nat) {x:Str} {c:Ad},(x,c)∈i0 n ns []->(x,NameKind.cell)∈ns
 |[],_,_,_,h=>nomatch h
 |(y,k)::r,n,x,c,h=>by
  unfold i0 at h;split at h
  .rename_i D;rw[zbl]at h;rcases y0v.mp h with z|z
   .exact y0a _<|zb2 r (n+1) z
   .cases y0b.mp z;rw[beq_iff_eq.mp D];show y0c
  .exact y0a _<|zb2 r n h
theorem zc4{q:Type}{x:Str}:∀{a b:List (Str×q)},(a++b).lookup x=(a.lookup x).or (b.lookup x)
 |[],_=>rfl
 |(y,v)::r,b=>by
  rw[y3f,y12,y12];cases x==y with
  |true=>rfl
  |false=>show zc4
section
variable {M:Model}{A:ir}{E:Y0}{s₀ s:ik}{m cm:Y1}{env:Env}{ow:Y4}
theorem putL(x:j8 s₀ env.locals m ow cm s)(D:env.scope.kind=.function)(hl:env.kindOf n=G .local)
  (q:∀t,j8 s₀ env.locals (λy=>if y=n then G v else m y) ow cm t->Q () t):wpAny M A (jR env n v) Q E s:=by
 let(g,t0,f):=x.toInCall.same;apply wpAny_storeName_local hl x.toInCall.ns (λg1 gn i=>q _ {toInCall:=⟨⟨g1,t0+1,by rw[f]⟩,gn,λb o e=>?_,x.toInCall.fresh⟩,cell:=λk c C=>?_,apart:=x.apart,above:=x.above}) (by rw[D];rfl)
 .let lt:=y0e e;let fr:=x.toInCall.fresh;show i.extBut b o (y0o<|y0p lt fr)<|x.toInCall.keep b o e
 .let ab:=x.above k c<|mem_of_lookup' C;show(x.cell k c C).sameBut i<|y2a ab
theorem putC(x:j8 s₀ env.locals m ow cm s)(D:env.scope.kind=.function)(hl:env.kindOf n=G .cell)(j:ow.lookup n=G c)(C:env.cells.lookup n=G c)
  (q:∀t,j8 s₀ env.locals m ow (λy=>if y=n then G v else cm y) t->Q () t):wpAny M A (jR env n v) Q E s:=by
 let ab:=x.above n c<|mem_of_lookup' j;let(g,t0,f):=x.toInCall.same;apply wpAny_storeName_cell D hl C (x.cell n c j) λg1 l i=>q _ {toInCall:=⟨⟨g1,t0,by rw[f]⟩,x.toInCall.ns.sameBut i<|y0o ab,λb o e=>?_,x.toInCall.fresh⟩,cell:=λk d hd=>?_,apart:=x.apart,above:=x.above}
 .let lt:=y0e e;let fr:=x.toInCall.fresh;show i.extBut b o (y0o<|y21 (y0p lt fr) ab)<|x.toInCall.keep b o e
 .by_cases a:k=n
  .rw[a,j]at hd;cases hd;rw[Xq a];show l
  .rw[Xp a];apply(x.cell k d hd).sameBut i λe=>a ?_;rw[e]at hd;show name_of_addr x.apart (mem_of_lookup' hd)<|mem_of_lookup' j
theorem bindM(f:Str×Va->PUnit->Sem (ForInStep PUnit))(T:∀n v u,f (n,v) u=(do jR env n v;pure (.yield ⟨⟩)))(D:env.scope.kind=.function)(a:∀n c,ow.lookup n=G c->env.cells.lookup n=G c):
  ∀(bs:List<|Str×Va) (m cm:Y1) (s:ik) (Q:PUnit->ik->Prop),j8 s₀ env.locals m ow cm s->(∀y∈bs,env.kindOf y.1=G .local\/(env.kindOf y.1=G .cell/\∃c,ow.lookup y.1=G c))->
   (∀t,j8 s₀ env.locals (bindL env.kindOf bs m) ow (bindC env.kindOf bs cm) t->Q ⟨⟩ t)->wpAny M A (forIn bs ⟨⟩ f) Q E s
 |[],m,cm,s,Q,x,_,q=>by rw[y39];show ii<|q s x
 |(n,v)::r,m,cm,s,Q,x,U,q=>by
  rw[y2e,T];let e:=λy l=>U y<|y0a _ l;rcases U (n,v) y0c with z|⟨z,c,C⟩
  .refine ig<|ig (putL x D z λt L=>ii<|bindM f T D a r _ _ t Q L e λi H=>q i ?_);rw[bindL,bindC,Xq z,Xq z];show H
  .let d:¬env.kindOf n=G .local:=by rw[z];decide
   apply ig<|ig (putC x D z C (a n c C) λt L=>ii<|bindM f T D a r _ _ t Q L e λi H=>q i ?_);rw[bindL,bindC,Xp d,Xp d];show H
theorem newEnvM{cl:Y4}{code:Va}(D:scope.kind=.function)
  (U:∀y∈bs,scope.names.lookup y.1=G .local\/scope.names.lookup y.1=G .cell)
  (q:∀t,j8 s s.heap.objs.size (bindL (λx=>scope.names.lookup x) bs λ_=>B) (i0 (s.heap.objs.size+1) scope.names []) (bindC (λx=>scope.names.lookup x) bs λ_=>B) t->
   Q (newEnv scope s.heap.objs.size globals (i0 (s.heap.objs.size+1) scope.names []++cl) qual func code B builtins) t):wpAny M A (jH scope globals cl bs qual func code B builtins) Q E s:=by
 simp only[jH,Option.isSome_none,y3n,if_false];apply ig<|wpAny_alloc (ig<|wpAny_layCells _ (λname kind cells=>by cases a:kind==NameKind.cell<;>simp[a]) _ _ _ _ ?_);let Y:=cellsFrom_ok scope.names (s.heap.push {cls:=.type "frame",data:=.dict #[]}) (s.heap.objs.size+1) [] ⟨λ_ _ z=>(nomatch z),.nil⟩ (by rw[y1a];show y04 _);rw[y1a]at Y;rw[show({s with heap:=s.heap.push {cls:=.type "frame",data:=.dict #[]} }:ik).heap.objs.size=s.heap.objs.size+1 from y1a ..,zbl];apply ig<|bindM (s₀:=s) (ow:=i0 (s.heap.objs.size+1) scope.names []) (env:=newEnv scope s.heap.objs.size globals (i0 (s.heap.objs.size+1) scope.names []++cl) qual func code B builtins) _ (λ_ _ _=>rfl) D (λn c e=>?_) bs (λ_=>B) (λ_=>B) _ _ ?_ (λy C=>?_) λt x=>ii<|q t x
 .change(i0 (s.heap.objs.size+1) scope.names []++cl).lookup n=G c;rw[zc4,e];rfl
 .refine {toInCall:=⟨⟨_,_,R⟩,(Heap.Ns.new s.heap<|.type "frame").keeps<|pushCells_keeps _ _,λb o e=>pushCells_keeps _ _ b o<|y03 _ e,y04 _⟩,cell:=λn c e=>(Y.empty n c<|mem_of_lookup' e).1,apart:=Y.apart,above:=λn c e=>?_};let:=(Y.empty n c e).2;show this
 .rcases U y C with z|z
  .exact .inl z
  .exact .inr ⟨z,zc9 z⟩
end
def envM(qual:Str)(scope:Scope)(cl:Y4)(L f:Ad)(cd:Va):Env :=
 {scope:=scope,locals:=L,globals:=iz,cells:=i0 (L+1) scope.names []++cl,qual:=qual++".<locals>.",func:=G f,code:=cd,frame:=G L,builtins:=jb}
noncomputable def cxM(P:im)(w:World)(K:Frag)(mg:Y1)(base:Heap)(Nq:List Str)(qual:Str)(scope:Scope)(cl:Y4)(f:Ad)(cd:Va)(A:ir)(outer:List Env)(s:ik)(H:Hp):Cx where
 prog:=P
 w:=w
 K:=K
 mg:=mg
 base:=base
 A:=A.deeper<|envM qual scope cl s.heap.objs.size f cd
 Nq:=Nq
 s₀:=s
 H₀:=dropL cl H
 env:=envM qual scope cl s.heap.objs.size f cd
 outer:=outer
 stack:=envM qual scope cl s.heap.objs.size f cd::outer
 ex:=[]
 calm:=N
 fn:=λx=>scope.names.lookup x==G .cell
 pn:=[]
 xe:=λ_ _=>False
structure CloScopeM(own ps cap:List Str)(sc:Scope):Prop where
 kind:sc.kind=.function
 co:sc.isCoroutine=Fa
 gen:sc.isGenerator=Fa
 pre:own.take ps.length=ps
 nd:ps.Nodup
 par:∀x∈ps,sc.names.lookup x=G .local\/sc.names.lookup x=G .cell
 cap:∀x∈cap,sc.names.lookup x=G .free
 one:∀y∈sc.names,y.2=.cell->sc.names.lookup y.1=G .cell
section
variable {P:im}{w:World}{K:Frag}{mg:Y1}{base:Heap}{A:ir}{outer:List Env}{s s1:ik}{H:Hp}{own ps cap:List Str}{qual:Str}{scope:Scope}{cl:Y4}{f:Ad}{cd:Va}{vs cv:List V}{us:List Va}
theorem zif(S:CloScopeM own ps cap scope)(hd:A.handled=B)(M:Env0 P w K mg base A outer s H)(hl:vs.length=ps.length)(bg:ps.length<=own.length)(r:Vals vs us)
  (a9:∀x c,cl.lookup x=G c->∃o v,H c=G (.frz o<|.own c)/\o.data=.cell v) (ag:∀p∈scope.names,p.2=.free->∃c,cl.lookup p.1=G c) (inj:∀x y c,cl.lookup x=G c->cl.lookup y=G c->x=y) (ak:Caps H cl cap cv)
  (xc:j8 s s.heap.objs.size (bindL (λx=>scope.names.lookup x) (ps.zip us) λ_=>B) (i0 (s.heap.objs.size+1) scope.names []) (bindC (λx=>scope.names.lookup x) (ps.zip us) λ_=>B) s1) :
  Inv (cxM P w K mg base (own++cap) qual scope cl f cd A outer s H) [] (stL own vs cv) (dropL cl H) s1:=by
 classical
 let(Y,tk,rfl,D):=xc.done;let d1:∀b,¬InCl cl b->dropL cl H b=H b:=λb n=>Xp n;let dn:∀b,H b=B->dropL cl H b=B:=λb e=>by
  by_cases C:InCl cl b
  .exact Xq C
  .rw[d1 b C];show e
 let dm:∀b:Ad,b∉(cxM P w K mg base (own++cap) qual scope cl f cd A outer s H).ex:=λb z=>Xa (show b∈([]:List Ad)from z) (by simp);let at':∀x c,cl.lookup x=G c->∃o v,s.heap.get? c=G o/\o.data=.cell v:=λx c e=>by
  let(o,v,z,zd):=a9 x c e;show⟨o,v,(M.hok c _ z).1,zd⟩
 let l8:HOk P w (dropL cl H) s.heap:=λb u e=>by
  let C:¬InCl cl b:=λC=>by
   let:dropL cl H b=B:=Xq C;rw[this]at e;cases e
  rw[d1 b C]at e;show(M.hok b u e).stay (λ_ _ _ z=>z) (λc z=>by rw[d1 c<|zbq a9 z λ_ _ y=>nomatch y];show z) (λc o a q co z=>by rw[d1 c<|zse a9 co z];show z) λc xs z=>by rw[d1 c<|zbq a9 z λ_ _ y=>nomatch y];show z
 let two:∀x c,(i0 (s.heap.objs.size+1) scope.names []++cl).lookup x=G c->((i0 (s.heap.objs.size+1) scope.names []).lookup x=G c/\s.heap.objs.size<c)\/((i0 (s.heap.objs.size+1) scope.names []).lookup x=B/\cl.lookup x=G c/\c<s.heap.objs.size):=λx c e=>by
  rw[zc4]at e;cases z:(i0 (s.heap.objs.size+1) scope.names []).lookup x with
  |some y =>
   rw[z]at e;cases e;show .inl ⟨R,xc.above x c<|mem_of_lookup' z⟩
  |none =>
   rw[z]at e;let Q:cl.lookup x=G c:=e;let(o,v,j,_):=at' x c Q;show .inr ⟨R,Q,y0e j⟩
 let l9:∀x,scope.names.lookup x=G .free->(i0 (s.heap.objs.size+1) scope.names []).lookup x=B:=λx O=>by
  cases z:(i0 (s.heap.objs.size+1) scope.names []).lookup x with
  |none=>rfl
  |some y =>
   let:=S.one (x,.cell) (zb2 _ _<|mem_of_lookup' z) rfl;rw[O]at this;cases this
 apply⟨⟨M.mod,S.kind,R,R,y04 _,λx y c O hy=>?_,λx O=>?_,λx c O C=>?_,λ_=>hd,Around.frames_deeper M.frames,.inr ⟨R,R⟩,λb z=>Xa z<|dm b,λb o e=>⟨(M.bs b o e).1,dn b (M.bs b o e).2⟩,M.bsz,λb _ _=>dm b,λb z=>Xa z<|dm b,M.funs,λb U=>dn b<|M.frf b U⟩,
  rfl,M.bare,Un.kept D,⟨_,xc.toInCall.ns,λi x v J g e3=>?_⟩,λx c e=>?_,l8.fresh<|y04 _,λx c e=>?_,λp L=>Xa (show p∈([]:Y2)from L) (by simp),l8.kept D,?_⟩
 .rcases two x c O with⟨I,E⟩|⟨_,I,E⟩<;>rcases two y c hy with⟨z3,z4⟩|⟨_,z3,z4⟩
  .exact name_of_addr xc.apart (mem_of_lookup' I)<|mem_of_lookup' z3
  .exact Xa (y21 E z4)<|y1g _
  .exact Xa (y21 z4 E)<|y1g _
  .exact inj x y c I z3
 .let O:scope.names.lookup x=G .cell\/scope.names.lookup x=G .free:=O;change∃c,(i0 (s.heap.objs.size+1) scope.names []++cl).lookup x=G c;rw[zc4];rcases O with z|z
  .let(c,e):=zc9 (n:=s.heap.objs.size+1) z;show⟨c,by rw[e];rfl⟩
  .let(c,e):=ag (x,.free) (mem_of_lookup' z) rfl;show⟨c,by rw[l9 x z];show e⟩
 .let hx':scope.names.lookup x=G .cell:=beq_iff_eq.mp O;let(c',e):=zc9 (n:=s.heap.objs.size+1) hx';rcases two x c C with⟨I,E⟩|⟨I,_⟩
  .exact y1x E
  .rw[e]at I;cases I
 .let T:(own++cap)[i]?=G x:=J;let l:(vs.map G++List.replicate (own.length-vs.length) B++cv.map G)[i]?=G (G v):=g;let lo:(vs.map G++List.replicate (own.length-vs.length) (B:Option V)).length=own.length:=by rw[y0d,y01,y3d];omega
  by_cases hi:i<own.length
  .rw[y15 00]at l;by_cases hv:i<vs.length
   .rw[y15 (by simpa using hv),y05]at l;rw[y15 hi]at T;let d:vs[i]?=G v:=by
     cases q:vs[i]? with
     |none=>rw[q]at l;cases l
     |some z=>rw[q]at l;show congrArg G<|Option.some.inj (Option.some.inj l)
    let(u,hu,ru):=r.get d;let L:ps[i]?=G x:=by rw[←S.pre,y25 00];show T
    apply⟨u,ru,?_⟩;rcases S.par x (y0l L)with k|k
    .exact .inl ⟨k,zgh S.nd L hu k⟩
    .let(c,e):=zc9 (n:=s.heap.objs.size+1) k;let qc:=xc.cell x c e;rw[zgi S.nd L hu<|by change scope.names.lookup x≠_;rw[k];decide]at qc;apply .inr ⟨.inl k,c,?_,qc⟩;change(i0 (s.heap.objs.size+1) scope.names []++cl).lookup x=G c;rw[zc4,e];rfl
   .rw[y1b (by simpa using y2u hv),y3s]at l;split at l<;>cases l
  .rw[y1b 00,lo,y05]at l;rw[y1b 00]at T;let d:cv[i-own.length]?=G v:=by
    cases q:cv[i-own.length]? with
    |none=>rw[q]at l;cases l
    |some z=>rw[q]at l;show congrArg G<|Option.some.inj (Option.some.inj l)
   let(c,o,u,C,hz,av,ru):=zsv ak T d;let hf':=S.cap x<|y0l T;apply⟨u,ru,.inr ⟨.inr hf',c,?_,o,D c o (M.hok c _ hz).1,av⟩⟩;change(i0 (s.heap.objs.size+1) scope.names []++cl).lookup x=G c;rw[zc4,l9 x hf'];show C
 .rcases two x c e with⟨I,E⟩|⟨_,I,E⟩
  .exact⟨_,xc.cell x c I⟩
  .let(o,v,j,av):=at' x c I;show⟨v,o,D c o j,av⟩
 .rcases two x c e with⟨I,E⟩|⟨_,I,E⟩
  .exact l8.fresh<|y1x E
  .exact Xq ⟨x,I⟩
 .let:=zg9 ak;change(vs.map G++List.replicate (own.length-vs.length) B++cv.map G).length=(own++cap).length;rw[y0d,y0d,y01,y3d,y01,y0d];omega
theorem zd5{Nq:List Str}{pins:Y2}{l:St}{H2:Hp}{s':ik}{v:V}{u:Va}{Q:VK}(M:Env0 P w K mg base A outer s H)(D:∀x c,cl.lookup x=G c->∃o v,H c=G (.frz o<|.own c)/\o.data=.cell v)
  (J:Inv (cxM P w K mg base Nq qual scope cl f cd A outer s H) pins l H2 s') (L:RelV v u) (q:(∀b,InCl cl b->H2 b=B)->Q v (mixL cl H H2)):CE outer P w H s Q u s':=by
 classical
 let p:∀b,¬InCl cl b->dropL cl H b=H b:=λb n=>Xp n;let i:∀b,¬InCl cl b->mixL cl H H2 b=H2 b:=λb n=>Xp n;let d:∀b,H b=B->¬InCl cl b:=λb e ⟨x,z⟩=>by
  let(o,v,E,_):=D x b z;rw[E]at e;cases e
 let un:Un (frs outer) [] (dropL cl H) H2 s.heap s'.heap:=J.base;let Y:∀x c,cl.lookup x=G c->∃o,H c=G (.frz o<|.own c)/\s'.heap.get? c=G o/\H2 c=B:=λx c e=>by
  let(o,v,z,_):=D x c e;let j:=(M.hok c _ z).1;let r:dropL cl H c=B:=Xq ⟨x,e⟩;let nf:c∉frs outer:=λU=>by rw[M.frf c U]at z;cases z
  show⟨o,z,un.keep c o j r nf (by simp),un.free c o j r<|by simp⟩
 let nm:∀b u,H2 b=G u->¬InCl cl b:=λb u e ⟨x,z⟩=>by
  let(_,_,_,E):=Y x b z;rw[E]at e;cases e
 apply⟨v,mixL cl H H2,J.os,J.bare,⟨λb o e n T O=>un.keep b o e (by rw[p b<|d b n];show n) T O,λb o e n T O=>un.slot b o e (by rw[p b<|d b n];show n) T O,λb o e n O=>by rw[i b<|d b n];show un.free b o e (by rw[p b<|d b n];show n) O,un.there,λb xs e=>?_,λb o a e=>?_,λb qs ps e=>?_⟩,λb u e=>?_,L,q λb ⟨x,z⟩=>let⟨_,_,_,E⟩:=Y x b z;E⟩
 .let C:=zbq D e λ_ _ y=>nomatch y;rw[i b C];show un.tups b xs (by rw[p b C];show e)
 .by_cases C:InCl cl b
  .change(if InCl cl b then H b else H2 b)=_;rw[Xq C];show e
  .rw[i b C];show un.frzs b o a (by rw[p b C];show e)
 .let C:=zbq D e λ_ _ y=>nomatch y;rw[i b C];show un.tbls b qs ps (by rw[p b C];show e)
 .by_cases C:InCl cl b
  .let g:H b=G u:=by rw[←e];show(Xq C).symm
   let(x,z):=C;let(o,I,E,_):=Y x b z;rw[I]at g;cases g;show⟨E,o,E⟩
  .rw[i b C]at e;show(J.hok b u e).stay (λ_ _ _ z=>z) (λc z=>by rw[i c<|nm c _ z];show z) (λc _ _ _ _ z=>by rw[i c<|nm c _ z];show z) λc xs z=>by rw[i c<|nm c _ z];show z
end
section
variable {P:im}{w:World}{K:Frag}{mg:Y1}{base:Heap}{H:Hp}{own ps cap:List Str}{name qual:Str}{params:iK}{scope:Scope}{cl:Y4}{f c':Ad}{oc:Obj}{ct pm:Va}{cv:List V}{k:Nat}{sp:Sp}
theorem zsu(S:CloScopeM own ps cap scope)(bg:ps.length<=own.length)(T:H f=G (fnO (cloFd name qual params (.expr body) scope cl ct (.ref c') pm) f))(bh:H c'=G (.frz oc<|.own c'))(co:CodeObj oc qual)
  (D:∀x c,cl.lookup x=G c->∃o v,H c=G (.frz o<|.own c)/\o.data=.cell v) (g:∀p∈scope.names,p.2=.free->∃c,cl.lookup p.1=G c) (inj:∀x y c,cl.lookup x=G c->cl.lookup y=G c->x=y) (U:Caps H cl cap cv)
  (a:∀us:List Va,us.length=ps.length->iZ (cloFd name qual params (.expr body) scope cl ct (.ref c') pm) ⟨us,[]⟩=pure (ps.zip us))
  (i:∀(A:ir) (outer:List Env) (s:ik) (H':Hp) (vs:List V) (Q:VK),Room k (A.deeper<|envM qual scope cl s.heap.objs.size f (.ref c'))->Frz H H'->vs.length=ps.length->sp vs H' Q E0->
   ∃t,PE (cxM P w K mg base (own++cap) qual scope cl f (.ref c') A outer s H') body t/\t (stL own vs cv) (dropL cl H') (λv H2=>(∀b,InCl cl b->H2 b=B)->Q v (mixL cl H' H2))):CloH P w K mg base (k+1) H f ps.length sp:=by
 intro A outer s H' us vs Q L M O r hl Y;let dr:s.heap.NoLimit:=M.mod.nolimit.keeps λb o e=>(M.bs b o e).1;let j:=(M.hok f _<|O _ _ _ T).1;let de:=(M.hok c' _<|O _ _ _ bh).1;let(l,t',m9,ly):=co;let ma:us.length=ps.length:=by rw[←r.length];show hl
 let E:∀x c,cl.lookup x=G c->∃o v,H' c=G (.frz o<|.own c)/\o.data=.cell v:=λx c e=>let⟨o,v,z,d⟩:=D x c e;⟨o,v,O _ _ _ z,d⟩;apply zd4 L.depth j R S.co S.gen R ⟨c',oc,l,t',R,de,m9,ly⟩ ?_;rw[a us ma];apply ii<|newEnvM S.kind (λy C=>S.par y.1 (y2d<|show(y.1,y.2)∈ps.zip us from C).1) λs1 x=>?_;apply⟨dr.keeps x.toInCall.keep,zil ?_⟩;let(t,ht,hq):=i A outer s H' vs Q (L.deeper _) O hl Y;let I:=zif (qual:=qual) (f:=f) (cd:=.ref c') S L.hd M hl bg r E g inj (U.frz O) x;show iy (ht [] _ _ _ _ I hq) (λu s' ⟨v,H2,J,rv,q⟩=>zd5 M E J rv q) λ_ _ z=>z.elim
theorem zhm(S:CloScopeM own ps cap scope)(bg:ps.length<=own.length)(T:H f=G (fnO (cloFd name qual params (.stmts body) scope cl ct (.ref c') pm) f))(bh:H c'=G (.frz oc<|.own c'))(co:CodeObj oc qual)
  (D:∀x c,cl.lookup x=G c->∃o v,H c=G (.frz o<|.own c)/\o.data=.cell v) (g:∀p∈scope.names,p.2=.free->∃c,cl.lookup p.1=G c) (inj:∀x y c,cl.lookup x=G c->cl.lookup y=G c->x=y) (U:Caps H cl cap cv)
  (a:∀us:List Va,us.length=ps.length->iZ (cloFd name qual params (.stmts body) scope cl ct (.ref c') pm) ⟨us,[]⟩=pure (ps.zip us))
  (i:∀(A:ir) (outer:List Env) (s:ik) (H':Hp) (vs:List V) (Q:VK),Room k (A.deeper<|envM qual scope cl s.heap.objs.size f (.ref c'))->Frz H H'->vs.length=ps.length->sp vs H' Q E0->
   ∃t,PSs (cxM P w K mg base (own++cap) qual scope cl f (.ref c') A outer s H') body t/\t {nx:=λ_ H2=>(∀b,InCl cl b->H2 b=B)->Q .non (mixL cl H' H2),rt:=λv H2=>(∀b,InCl cl b->H2 b=B)->Q v (mixL cl H' H2)} (stL own vs cv) (dropL cl H')):CloH P w K mg base (k+1) H f ps.length sp:=by
 intro A outer s H' us vs Q L M O r hl Y;let dr:s.heap.NoLimit:=M.mod.nolimit.keeps λb o e=>(M.bs b o e).1;let j:=(M.hok f _<|O _ _ _ T).1;let de:=(M.hok c' _<|O _ _ _ bh).1;let(ws,t',m9,ly):=co;let ma:us.length=ps.length:=by rw[←r.length];show hl
 let E:∀x c,cl.lookup x=G c->∃o v,H' c=G (.frz o<|.own c)/\o.data=.cell v:=λx c e=>let⟨o,v,z,d⟩:=D x c e;⟨o,v,O _ _ _ z,d⟩;apply jg L.depth j R S.co S.gen R ⟨c',oc,ws,t',R,de,m9,ly⟩ ?_;rw[a us ma];apply ii<|newEnvM S.kind (λy C=>S.par y.1 (y2d<|show(y.1,y.2)∈ps.zip us from C).1) λs1 x=>?_;apply⟨dr.keeps x.toInCall.keep,jW ?_⟩;let(t,ht,hq):=i A outer s H' vs Q (L.deeper _) O hl Y;let I:=zif (qual:=qual) (f:=f) (cd:=.ref c') S L.hd M hl bg r E g inj (U.frz O) x;apply iy (ht [] _ _ _ _ I hq) (λfl s' hs=>?_) λ_ _ z=>z.elim;cases fl with
 |ret u =>
  let(v,l,H2,J,rv,q):=hs;show zd5 M E J rv q
 |next =>
  let(l,H2,J,q):=hs;show zd5 (v:=V.non) (u:=Va.none) M E J R q
 |brk =>
  let(_,_,_,q):=hs;show False.elim q
 |cont =>
  let(_,_,_,q):=hs;show False.elim q
end
theorem ze4:∀{ns:List (Str×jj)} (n:Nat),(∀y∈ns,y.2 ≠ .cell)->i0 n ns []=[]
 |[],_,_=>rfl
 |(x,k)::r,n,h=>by
  unfold i0;rw[Xp λz=>h (x,k) y0c<|beq_iff_eq.mp z];show ze4 n λy C=>h y<|y0a _ C
section
variable {P:im}{w:World}{K:Frag}{mg:Y1}{base:Heap}{A:ir}{outer:List Env}{s:ik}{H:Hp}{Nq own ps cap:List Str}{name qual:Str}{params:iK}{scope:Scope}{cl:Y4}{f c' L:Ad}{cd ct pm:Va}{cv:List V}{k:Nat}{sp:Sp}{oc:Obj}
theorem CloScope.m(S:CloScope own ps cap scope):CloScopeM own ps cap scope:=⟨S.kind,S.co,S.gen,S.pre,S.nd,λx h=>.inl<|S.par x h,S.cap,λy C e=>Xa e<|S.nocell y C⟩
theorem znm(n:∀y∈scope.names,y.2 ≠ .cell):envM qual scope cl L f cd=envL qual scope cl L f cd:=by unfold envM envL;rw[ze4 _ n];rfl
theorem zso(n:∀y∈scope.names,y.2 ≠ .cell):cxM P w K mg base Nq qual scope cl f cd A outer s H=cxL P w K mg base Nq qual scope cl f cd A outer s H:=by
 let e:(λx=>scope.names.lookup x==G .cell)=λ_=>Fa:=funext λx=>by
  cases z:scope.names.lookup x==G NameKind.cell with
  |false=>rfl
  |true=>show Xa R<|n _ (mem_of_lookup'<|beq_iff_eq.mp z)
 unfold cxM cxL;rw[znm n,e]
theorem newEnvL(S:CloScope own ps cap scope)(U:∀y∈bs,scope.names.lookup y.1=G .local)
  (q:∀t,j8 s s.heap.objs.size (bindL (λx=>scope.names.lookup x) bs λ_=>B) (i0 (s.heap.objs.size+1) scope.names []) (bindC (λx=>scope.names.lookup x) bs λ_=>B) t->Q (envL qual scope cl s.heap.objs.size f cd) t):wpAny M A (jH scope iz cl bs (qual++".<locals>.") (G f) cd B jb) Q E s :=
 newEnvM S.kind (λy C=>.inl<|U y C) λt x=>by have z:=q t x;rw[←znm S.nocell]at z;show z
theorem zvo(S:CloScope own ps cap scope)(j:ps.length<=own.length)(T:H f=G (fnO (cloFd name qual params (.expr body) scope cl ct (.ref c') pm) f))(d:H c'=G (.frz oc<|.own c'))(co:CodeObj oc qual)
  (D:∀x c,cl.lookup x=G c->∃o v,H c=G (.frz o<|.own c)/\o.data=.cell v) (g:∀p∈scope.names,p.2=.free->∃c,cl.lookup p.1=G c) (inj:∀x y c,cl.lookup x=G c->cl.lookup y=G c->x=y) (U:Caps H cl cap cv)
  (a:∀us:List Va,us.length=ps.length->iZ (cloFd name qual params (.expr body) scope cl ct (.ref c') pm) ⟨us,[]⟩=pure (ps.zip us))
  (i:∀(A:ir) (outer:List Env) (s:ik) (H':Hp) (vs:List V) (Q:VK),Room k (A.deeper<|envL qual scope cl s.heap.objs.size f (.ref c'))->Frz H H'->vs.length=ps.length->sp vs H' Q E0->
   ∃t,PE (cxL P w K mg base (own++cap) qual scope cl f (.ref c') A outer s H') body t/\t (stL own vs cv) (dropL cl H') (λv H2=>(∀b,InCl cl b->H2 b=B)->Q v (mixL cl H' H2))):CloH P w K mg base (k+1) H f ps.length sp :=
 zsu S.m j T d co D g inj U a λA outer s H' vs Q q=>by rw[zso S.nocell];rw[znm S.nocell]at q;show i A outer s H' vs Q q
theorem zst(S:CloScope own ps cap scope)(j:ps.length<=own.length)(T:H f=G (fnO (cloFd name qual params (.stmts body) scope cl ct (.ref c') pm) f))(d:H c'=G (.frz oc<|.own c'))(co:CodeObj oc qual)
  (D:∀x c,cl.lookup x=G c->∃o v,H c=G (.frz o<|.own c)/\o.data=.cell v) (g:∀p∈scope.names,p.2=.free->∃c,cl.lookup p.1=G c) (inj:∀x y c,cl.lookup x=G c->cl.lookup y=G c->x=y) (U:Caps H cl cap cv)
  (a:∀us:List Va,us.length=ps.length->iZ (cloFd name qual params (.stmts body) scope cl ct (.ref c') pm) ⟨us,[]⟩=pure (ps.zip us))
  (i:∀(A:ir) (outer:List Env) (s:ik) (H':Hp) (vs:List V) (Q:VK),Room k (A.deeper<|envL qual scope cl s.heap.objs.size f (.ref c'))->Frz H H'->vs.length=ps.length->sp vs H' Q E0->
   ∃t,PSs (cxL P w K mg base (own++cap) qual scope cl f (.ref c') A outer s H') body t/\t {nx:=λ_ H2=>(∀b,InCl cl b->H2 b=B)->Q .non (mixL cl H' H2),rt:=λv H2=>(∀b,InCl cl b->H2 b=B)->Q v (mixL cl H' H2)} (stL own vs cv) (dropL cl H')):CloH P w K mg base (k+1) H f ps.length sp :=
 zhm S.m j T d co D g inj U a λA outer s H' vs Q q=>by rw[zso S.nocell];rw[znm S.nocell]at q;show i A outer s H' vs Q q
end
structure FunC(K:Frag)(x:Str)(st:Stmt)(f:Ad)(fd:i5)(c:Ad):Prop where
 ex:∃(oc:Va) (od:Option Ad) (kV doc pm:Va) (an:Option Ad) (ct:Va) (osl:Y8),
  fd=PySem.W.fnOf x x (defArgs st) (defBody st) (defScope st) .none kV doc pm an (.ref c) ct/\K.lookup f=G ⟨oc,od,.func fd,osl⟩/\PySem.W.codeIn K (.ref c) x=N
 kp:PySem.W.keepIn K (.ref f)=N
structure DfnC(K:Frag)(mg:Y1)(x:Str)(st:Stmt)(ps:List Str)(c P:Ad):Prop where
 ex:∃f fd,FunC K x st f fd c/\Binds K fd ps []/\mg x=G (.ref f)
 code:KCode K c P
theorem kcode_mk{K:Frag}(l:K.lookup c=G ⟨.type "code",M,.fields vs,f⟩)
  (o:vs[11]?=G (.ref P)) (q:vs[18]?=G (.str d x)) (u:vs[7]?=G (.int a y)) (s:vs[9]?=G (.bool j)) (r:vs[10]?=G (.int text p)) (ne:c≠P):KCode K c P:=by
 let g:∀{i:Nat} {v:Va},vs[i]?=G v->vs.getD i .none=v:=λ{i v} e=>by rw[Array.getD_eq_getD_getElem?,e];rfl
 show⟨_,vs,d,x,a,y,j,text,p,l,R,R,o,g o,g q,g u,g s,g r,ne⟩
theorem dfnc_mk{K:Frag}{h:Heap}{mg:Y1}{x:Str}{st:Stmt}{ps:List Str}{f c P:Ad}{oc:Va}{M g:Option Ad}{z:Y8}{kV doc p ct:Va}(X:K.In h)(Gq:h.Ns iz mg)
  (a:PySem.W.nsIn K iz x=G (G<|.ref f)) (l:K.lookup f=G ⟨oc,M,.func<|PySem.W.fnOf x x (defArgs st) (defBody st) (defScope st) .none kV doc p g (.ref c) ct,z⟩)
  (cd:PySem.W.codeIn K (.ref c) x=N) (k:PySem.W.keepIn K (.ref f)=N) (Y:KCode K c P)
  (U:∀(kV doc p:Va) (g:Option Ad) (j ct:Va) (us:List Va),us.length=ps.length->iZ (PySem.W.fnOf x x (defArgs st) (defBody st) (defScope st) .none kV doc p g j ct) ⟨us,[]⟩=pure (ps.zip us)):DfnC K mg x st ps c P :=
 ⟨⟨f,_,⟨⟨oc,M,kV,doc,p,g,ct,z,R,l,cd⟩,k⟩,(zng l cd k).binds U,PySem.W.mg_of X Gq a⟩,Y⟩
section
variable {P:im}{w:World}{K:Frag}{mg:Y1}{base:Heap}
theorem DfnC.cal{x:Str}{st:Stmt}{Nq ps:List Str}{k:Nat}{sp:Sp}{c I:Ad}(d:DfnC K mg x st ps c I)(S:FnScope Nq ps<|defScope st)(len:∀vs H Q E,sp vs H Q E->vs.length=ps.length)
  (i:∀(f:Ad) (A:ir) (outer:List Env) (s:ik) (H:Hp) (vs:List V) (Q:VK) (E:XK),Room k (A.deeper<|jl x (defScope st) s.heap.objs.size f (.ref c))->sp vs H Q E->
   ∃t,PSs (cxOf CX0 P w K mg base Nq x (defScope st) f (.ref c) A outer s H E).nox (defBody st) t/\t {nx:=λ_ H'=>Q .non H',rt:=Q} (start Nq vs) H):03 (k+1) x ps sp:=by
 let(f,fd,F,b,m):=d.ex;let(oc,M,kV,doc,p,g,ct,z,rfl,lk,hcd):=F.ex;apply⟨f,_,zvc lk hcd S len λA outer s H vs Q E L Y=>?_,b,F.kp,m⟩;let(t,h,q):=i f A outer s H vs Q E L Y;show⟨t,h.nox,q⟩
end
def TabFor(q:im)(K:Frag)(mg:Y1)(b:Ad):Prop:=∃d∈recsOf q,∃f oc M fd z c,mg d.name=G (.ref f)/\K.lookup f=G ⟨oc,M,.func fd,z⟩/\fd.code=.ref c/\KCode K c b
theorem DfnC.tab{q:im}{K:Frag}{mg:Y1}{x:Str}{st:Stmt}{ps:List Str}{c b:Ad}(d:DfnC K mg x st ps c b)(O:((recsOf q).any λr=>r.name==x)=N):TabFor q K mg b:=by
 let(r,L,e):=y2i.mp O;let(f,fd,F,_,m):=d.ex;let(oc,M,kV,doc,p,g,ct,z,rfl,lk,hcd):=F.ex;show⟨r,L,f,oc,M,_,z,c,by rw[beq_iff_eq.mp e];show m,lk,R,d.code⟩
def TabsOf(q:im)(mg:Y1)(h:Heap):Prop:=∀d∈recsOf q,∃a o fd c P,mg d.name=G (.ref a)/\h.get? a=G o/\o.data=.func fd/\fd.code=.ref c/\h.IsCode c P #[]/\h.TableAt c P #[]
theorem TabFor.at{K:Frag}{h:Heap}(t:TabFor q K mg b)(X:K.In h)(T:TabsOf q mg h):∃c,h.TableAt c b #[]:=by
 let(d,hd,f,oc,M,fd,z,c,m,lk,x,Y):=t;let(a,o,i,c',u,O,j,L,C,_,A):=T d hd;rw[m]at O;cases O;rw[X f _ lk]at j;cases j;cases L;rw[x]at C;cases C;let(o,vs,_,_,_,_,_,_,_,l,_,p,e,_):=Y;let((v,r,J,g,Q,s),y):=id A;rw[X c o l]at J;cases J;rw[p]at Q;cases Q;rw[e]at s;cases s;show⟨c,A⟩
def OnlyT(ts:List<|Ad×List (Pos×Str))(H:Hp):Prop:=(∀b,H b=B\/(∃o xs,H b=G (.frz o<|.lst xs))\/∃qs,ts.lookup b=G qs/\H b=G (.tbl qs #[]))/\∀b qs,ts.lookup b=G qs->H b=G (.tbl qs #[])
theorem OnlyT.tab(h:OnlyT ts H)(e:ts.lookup b=G qs):TabOk H b qs:=⟨#[],h.2 b qs e⟩
theorem zrn{K:Frag}{s₁:ik}{vs:List Va}{ns:List Int}{ts:List (Ad×List (Pos×Str))}
  (KX:K.In s₁.heap) (hns:s₁.heap.Ns iz mg) (U:s₁.heap.Ns jb mb) (hbb:∀x:Str,x≠"__name__"->mb x=jc x) (hlim:s₁.heap.NoLimit) (y:s₁.gens=#[])
  (ha:s₁.heap.get? a=G {cls:=.type "list",data:=.seq vs.toArray}) (hi:jt vs ns) (hl:ns.length<=io) (L:Room k lm)
  (hbm:BltK s₁.heap mg) (hts:∀b qs,ts.lookup b=G qs->∃c,s₁.heap.TableAt c b #[]) (hKt:∀b qs,ts.lookup b=G qs->K.lookup b=B)
  (F:∀base:Heap,K.In base->base.Ns iz mg->BltK base mg->FnOk P w K mg base CX k O fd [x] sp) (af:∀(s:ik) (u:Va),lD s fd ⟨[u],[]⟩ [(x,u)])
  (hsp:∀H:Hp,OnlyT ts H->SqL K H a (ns.map V.int)->sp [.ref a] H (λv _=>v=.bl N) λ_ _ _=>False)
  (hCX:∀H e s',CX [] H s₁ (λ_ _ _=>False) e s'->False) :
  iY (model P w) lm (.call (.ref O) ⟨[.ref a],[]⟩) (λr s'=>r=.ok (.ret<|.bool N)/\OldK s₁.heap s'.heap/\s'.os=s₁.os/\j7 s'.gens) s₁:=by
 let T:=ziy hi;let lenV:=hi.length;let oo:∀H:Hp,OnlyT ts H->SqL K H a (ns.map V.int)->HOk P w H s₁.heap->(∀b,H b≠B->b=a\/∃qs,ts.lookup b=G qs)->(H a≠B->K.lookup a=B)->
   iY (model P w) lm (.call (.ref O) ⟨[.ref a],[]⟩) (λr s'=>r=.ok (.ret<|.bool N)/\OldK s₁.heap s'.heap/\s'.os=s₁.os/\j7 s'.gens) s₁:=by
  intro H hO j hok hA f;let C:∀{b:Ad} {o:Obj},s₁.heap.get? b=G o->H b=B->(hidT s₁.heap H).get? b=G o:=λe n=>zu9 e n;let noT:∀{b:Ad} {o:Obj},s₁.heap.get? b=G o->(∀q n,o.data ≠ .seq q n)->(∀ps,o.data ≠ .fields ps\/o.cls ≠ .none)->H b=B:=λ{b o} e I n2=>by
   cases q:H b with
   |none=>rfl
   |some u =>
    rcases hA b (by rw[q];simp)with Q|⟨qs,Q⟩
    .subst Q;rw[ha]at e;cases e;show Xa R<|I _ _
    .let(c,_,e5):=hts b qs Q;rw[e5]at e;cases e;rcases n2 #[]with z|z
     .exact Xa R z
     .exact Xa R z
  let dm:∀{b:Ad} {o:Obj} {es:Array DictEntry} {ep:Nat},s₁.heap.get? b=G o->o.data=.dict es ep->H b=B:=λ{b o es ep} e d=>noT e (λq n z=>by rw[d]at z;cases z) λps=>.inl λz=>by rw[d]at z;cases z
  let nsK:∀{b:Ad} {m:Y1},s₁.heap.Ns b m->(hidT s₁.heap H).Ns b m:=λ{b m} ⟨o,es,ep,e,d,r⟩=>⟨o,es,ep,C e<|dm e d,d,r⟩;let hKb:K.In (hidT s₁.heap H):=λb o e=>C (KX b o e) (by
   cases q:H b with
   |none=>rfl
   |some u =>
    rcases hA b (by rw[q];simp)with Q|⟨qs,Q⟩
    .subst Q;rw[f<|by rw[q];simp]at e;cases e
    .rw[hKt b qs Q]at e;cases e)
  let hBb:BltK (hidT s₁.heap H) mg:=by
   let(bm,o,b1,b2,b3,b4,b5,b6):=hbm;show⟨bm,o,b1,b2,C b3 (noT b3 (λq n z=>by rw[b6]at z;cases z) λps=>.inl λz=>by rw[b6]at z;cases z),b4,b5,b6⟩
  let hM:Mod K mg (hidT s₁.heap H):=⟨hKb,nsK hns,⟨mb,nsK U,hbb⟩,let⟨mc,Y,M⟩:=hlim;⟨mc,nsK Y,M⟩⟩;let e0:Env0 P w K mg (hidT s₁.heap H) lm [] s₁ H:=⟨R,hM,λb o e=>zxu e,y3b<|zrx _ _,trivial,λb U=>Xa (show b∈([]:List Ad)from U) (by simp),hok,.of_eq y⟩;apply iG ((F _ hKb (nsK hns) hBb).run lm [] s₁ H ⟨[.ref a],[]⟩ [.ref a] [.ref a] _ _ L e0 (af s₁<|.ref a) (.cons R .nil)<|hsp H hO j) λr s' h=>?_;cases r with
  |error e=>show(hCX H e s' h).elim
  |ok fl =>
   cases fl with
   |next=>show False.elim h
   |brk=>show False.elim h
   |cont=>show False.elim h
   |ret u =>
    let(v,H',os,bare,un,dl,r',q):=h;let q':v=.bl N:=q;subst q';obtain rfl:u=Va.bool N:=r';let was:∀b o,s₁.heap.get? b=G o->asItWas s₁.heap s'.heap b o:=λb o e=>by
     rcases hO.1 b with z|⟨ob,xs,z⟩|⟨qs,l,z⟩
     .exact .inl<|un.keep b o e z (by intro z;show Xa (show b∈([]:List Ad)from z)<|by simp) (by simp)
     .let E:=un.frzs b ob _ z;let(J,_):=hok b _ z;let(g,_):=dl b _ E;rw[e]at J;cases J;show .inl g
     .let E:=un.tbls b qs _ z;let(i,g,_):=dl b _ E;let(c,A):=hts b qs l;let e5:=A.2;rw[e5]at e;cases e;show .inr<|.inl ⟨A.isCodeTable,R,#[],i,R,g⟩
    show⟨R,⟨was,λb o e=>un.there b o e<|by simp⟩,os,bare⟩
 let neA:∀qs,ts.lookup a=G qs->False:=λqs e=>by
  let(c,_,e5):=hts a qs e;rw[e5]at ha;cases ha
 let md:∀(H:Hp) b qs,ts.lookup b=G qs->ObjOk P w H s₁.heap b (.tbl qs #[]):=λH b qs e=>by
  let(c,_,e5):=hts b qs e;show⟨#[],by simpa using e5,trivial,λp hp v z=>by simp[ju]at z⟩
 letI HT:Hp:=λb=>(ts.lookup b).map λqs=>.tbl qs #[];let k7:∀b qs,ts.lookup b=G qs->HT b=G (.tbl qs #[]):=λb qs e=>by change(ts.lookup b).map _=_;rw[e];rfl
 let gp:∀b,ts.lookup b=B->HT b=B:=λb e=>by change(ts.lookup b).map _=_;rw[e];rfl
 cases D:K.lookup a with
 |some o =>
  let e:=KX a o D;rw[ha]at e;cases e;apply oo HT ⟨λb=>?_,k7⟩ (.inr ⟨_,vs.toArray,_,D,R,R,R,by rw[y08,lenV];show hl,by simpa using T⟩) (λb u z=>?_) (λb z=>?_) λz=>?_
  .cases e:ts.lookup b with
   |none=>show .inl<|gp b e
   |some qs=>show .inr<|.inr ⟨qs,R,k7 b qs e⟩
  .cases e:ts.lookup b with
   |none=>rw[gp b e]at z;cases z
   |some qs=>rw[k7 b qs e]at z;cases z;show md _ b qs e
  .cases e:ts.lookup b with
   |none=>show Xa (gp b e) z
   |some qs=>show .inr ⟨qs,R⟩
  .cases e:ts.lookup a with
   |none=>show Xa (gp a e) z
   |some qs=>show(neA qs e).elim
 |none =>
  letI H1:Hp:=λb=>if b=a then G (.frz {cls:=.type "list",data:=.seq vs.toArray} (.lst<|ns.map V.int))else HT b
  let h1a:H1 a=G (.frz {cls:=.type "list",data:=.seq vs.toArray} (.lst<|ns.map V.int)):=Xq rfl;let h1b:∀b,b≠a->H1 b=HT b:=λb e=>Xp e;apply oo H1 ⟨λb=>?_,λb qs e=>?_⟩ (.inl<|.inr ⟨{cls:=.type "list",data:=.seq vs.toArray},h1a⟩) (λb u z=>?_) (λb z=>?_) λ_=>D
  .by_cases U:b=a
   .subst U;show .inr<|.inl ⟨_,_,h1a⟩
   .rw[h1b b U];cases e:ts.lookup b with
    |none=>show .inl<|gp b e
    |some qs=>show .inr<|.inr ⟨qs,R,k7 b qs e⟩
  .rw[h1b b λz=>neA qs<|z▸e];show k7 b qs e
  .by_cases U:b=a
   .subst U;rw[h1a]at z;cases z;show⟨ha,by rw[y01];show hl,vs,_,T,ha⟩
   .rw[h1b b U]at z;cases e:ts.lookup b with
    |none=>rw[gp b e]at z;cases z
    |some qs=>rw[k7 b qs e]at z;cases z;show md _ b qs e
  .by_cases U:b=a
   .exact .inl U
   .rw[h1b b U]at z;cases e:ts.lookup b with
    |none=>show Xa (gp b e) z
    |some qs=>show .inr ⟨qs,R⟩
theorem walk_ofT{l:PySem.W.OpenLaw}{n k:Nat}{q:im}{i:List Str}{T:(Str->Option Va)->Heap->Prop}{Q:World->Heap->Prop}{d:DefRec}{K:Params->Frag}{CX:CXT}{sp:Frag->List (Ad×List (Pos×Str))->Sp}{x:Str}
  (I:l.most=G n) (J:n<=io) (D:d.params.defaults=[]) (L:Room k lm)
  (M:∀(w:World) (h:Heap),Q w h->(K w.params).In h)
  (F:∀(w:World) (mg:Y1) (O:Ad) (h:Heap),(K w.params).In h->h.Ns iz mg->mg d.name=G (.ref O)->
   ∃(fd:i5) (ts:List<|Ad×List (Pos×Str)),(∀(s:ik) (u:Va),lD s fd ⟨[u],[]⟩ [(x,u)])/\(∀b qs,ts.lookup b=G qs->TabFor q (K w.params) mg b/\(K w.params).lookup b=B)/\
    ∀base:Heap,(K w.params).In base->base.Ns iz mg->BltK base mg->FnOk l.prog w (K w.params) mg base CX k O fd [x] (sp (K w.params) ts))
  (hsp:∀(K:Frag) (ts:List<|Ad×List (Pos×Str)) (H:Hp) (a:Ad) (ns:List Int),ns.length<=n->OnlyT ts H->SqL K H a (ns.map V.int)->sp K ts [.ref a] H (λv _=>v=.bl N) λ_ _ _=>False)
  (C:∀(H:Hp) (s:ik) (e:Va) (s':ik),CX [] H s (λ_ _ _=>False) e s'->False) :
  PySem.W.WalkO q i T Q l.row.toRowW d [] (λf vs=>PySem.call f vs):=by
 apply Att.attach_call I D λw s₀ s₁ mg mb O o pm cd doc a vs ns Gq Y j hd hcd E z g c y=>?_;let KX:=M w _ Y;let(fd,ts,U,p,A):=F w mg O _ KX Gq.T.g E;show zrn KX Gq.T.g Gq.T.b Gq.T.builtins Gq.T.nolimit y z g (y19 c J) L Gq.T.bmain (λb qs e=>(p b qs e).1.at KX Gq.T.tab) (λb qs e=>(p b qs e).2) A U (λH r hS=>hsp (K w.params) ts H a ns c r hS) λH e s'=>C H s₁ e s'
theorem zv9:∀{ts:List (Ad×List (Pos×Str))} {b:Ad} {qs:Y3},ts.lookup b=G qs->(b,qs)∈ts
 |[],_,_,e=>by simp at e
 |(a,q)::ts,b,qs,e=>by
  rw[y12]at e;split at e
  .rename_i z;cases e;rw[show b=a from beq_iff_eq.mp z];show y0c
  .exact y0a _<|zv9 e
theorem ts_all{ts:List (Ad×List (Pos×Str))}{Rq:Ad->Prop}(h:∀p∈ts,Rq p.1):∀b qs,ts.lookup b=G qs->Rq b:=λb qs e=>h (b,qs)<|zv9 e
theorem zqq{X:Cx}{n k:Nat}{x:Str}{ps:List Str}{sp:Sp}{p pos:Pos}{e:Expr}{l:List Expr}{t:TA}(C:Cal X.prog X.w X.K X.mg X.base n x ps sp)(L:Room k X.A)(v:n<=k)(y:Gl X x)(q:∀x,X.fn x=N)(d:PA X (e::l) t)(j:(x==("__debug__":Str))=Fa:=by decide)
  (Y:notStar e=N:=by rfl) (M:l.all notStar=N:=by rfl):PE X (.Call (.Name x p) (e::l) [] pos) (tCallA X sp t):=by
 let(f,fd,F,b,kp,m):=C.ex;show zug F (L.mono v) y m kp b q d j (zat Y)<|zbe M
theorem zqn{X:Cx}{x:Str}(i k n:Nat)(sp:Sp){m:Nat}{p pos:Pos}{e:Expr}{l:List Expr}{t:TA}(L:Room m X.A)(v:k<=m)(d:PA X (e::l) t)(hN:X.Nq[i]?=G x:=by rfl)(hv:Vis X.env.scope x:=by first|show Or.inl rfl|show Or.inr (Or.inl R)|show Or.inr (Or.inr R))
  (hd:(x==("__debug__":Str))=Fa:=by decide) (hcd:(x==("__classdict__":Str))=Fa:=by decide) (Y:notStar e=N:=by rfl) (M:l.all notStar=N:=by rfl) :
  PE X (.Call (.Name x p) (e::l) [] pos) (tCallV X.prog X.w X.K X.mg X.base k n sp i t):=zue hN hv (L.mono v) d hd hcd (zat Y)<|zbe M
noncomputable def freeOk(env:Env)(a:Scope):Bool:=a.names.all λp=>p.2 !=.free||(env.kindOf p.1==G .cell||env.kindOf p.1==G .free)
theorem freeOk.of(h:freeOk env a=N):∀p∈a.names,p.2=.free->env.kindOf p.1=G .cell\/env.kindOf p.1=G .free:=λp L e=>by
 let q:=y11.mp h p L;rw[e]at q;simpa using q
noncomputable def oneOk(qs:Y3)(pos:Pos)(qual:Str):Bool:=qs.any (λp=>p.1.line==pos.line&&p.1.col==pos.col&&p.1.endLine==pos.endLine&&p.1.endCol==pos.endCol&&p.2==qual)&&qs.all λp=>p.1.line !=pos.line||p.1.col !=pos.col||p.2==qual
theorem oneOk.one(h:oneOk qs pos qual=N):∀p∈qs,p.1.line=pos.line->p.1.col=pos.col->p.2=qual:=λp L J g=>by
 let q:=y11.mp (y07 _ _▸h:_/\_).2 p L;rw[J,g]at q;simpa using q
theorem oneOk.mem(h:oneOk qs pos qual=N):(pos,qual)∈qs:=by
 let(p,L,e):=y2i.mp (y07 _ _▸h:_/\_).1;simp only[y07,beq_iff_eq]at e;let((((J,g),Q),s),y):=e;let:p=(pos,qual):=by
  let((a,b,c,d),z):=p;let(A,i,c',d'):=pos;simp only at J g Q s y;subst J g Q s y;rfl
 rw[←this];show L
section
variable {X:Cx}{c P:Ad}{qs:Y3}{pos:Pos}{params:iK}{scope:Scope}
theorem zjn(qual:Str){body:Expr}(C:X.env.code=.ref c)(Y:KCode X.K c P)(x:BltK X.base X.mg)(g:freeOk X.env scope=N)(A:oneOk qs pos qual=N)(hd:params.defaults=[]:=by rfl)(D:params.kw_defaults=[]:=by rfl)(a:X.env.qual++"<lambda>"=qual:=by rfl):
  PE X (.Lambda params body scope pos) (tLam X P qs "<lambda>" qual params (.expr body) scope):=zqi C Y x (freeOk.of g) (oneOk.mem A) (oneOk.one A) hd D a
theorem zvy(qual:Str)(C:X.env.code=.ref c)(Y:KCode X.K c P)(x:BltK X.base X.mg)(g:freeOk X.env scope=N)(A:oneOk qs pos qual=N)(hN:X.Nq.Nodup)(o:X.Nq[j]?=G name)(O:X.env.scope.names.lookup name=G .local)(nd:docOf body=B:=by rfl)
  (hd:params.defaults=[]:=by rfl) (D:params.kw_defaults=[]:=by rfl) (d:∀e,annTrees params B e=[]:=by intro e;rfl) (a:lB X.env name name=qual:=by rfl) :
  PS X (.FunctionDef name params body [] B [] scope B name pos) (tDef X P qs name qual params (.stmts body) scope j):=zxa C Y x (freeOk.of g) nd (oneOk.mem A) (oneOk.one A) hd D d a hN o O
end
open Classical
theorem Adopted.same(ad:Adopted X σ H1 Hq)(g:Same Hq H2):Same H1 (dropX X H2):=λb u e=>by
 let C:¬CellOf X b:=λC=>by rw[ad.2.1 b C]at e;cases e
 change(if CellOf X b then B else H2 b)=G u;rw[Xp C];show g b u (by rw[ad.1 b C];show e)
theorem Adopted.up(ad:Adopted X σ H1 Hq):Same H1 Hq:=λb u e=>by
 let C:¬CellOf X b:=λC=>by rw[ad.2.1 b C]at e;cases e
 rw[ad.1 b C];show e
theorem Adopted.keep(ad:Adopted X σ H1 Hq)(g:Same Hq H2)(e:H2 b=G u)(n:∀o a,u ≠ .frz o a):dropX X H2 b=G u:=by
 let C:¬CellOf X b:=λ⟨x,z⟩=>by
  let(o,v,Y,_):=ad.2.2.2 x b z;rw[g _ _ Y]at e;cases e;show n _ _ R
 change(if CellOf X b then B else H2 b)=G u;rw[Xp C];show e
def SameN(H H':Hp):Prop:=∀b u,H b=G u->(∀o a,u ≠ .frz o a)->H' b=G u
section
variable {cl:Y4}{H:Hp}
def ClOk(cl:Y4)(H:Hp):Prop:=∀x c,cl.lookup x=G c->∃o v,H c=G (.frz o<|.own c)/\o.data=.cell v
theorem ClOk.n(D:ClOk cl H):SameN H (dropL cl H):=λb u e n=>by
 change(if InCl cl b then B else H b)=G u;rw[Xp<|zbq D e n];show e
theorem ClOk.tab(D:ClOk cl H)(T:TabOk H P qs):TabOk (dropL cl H) P qs:=let⟨ps,e⟩:=T;⟨ps,D.n _ _ e λ_ _ z=>nomatch z⟩
theorem zbk(g:Same (dropL cl H) H2):Same H (mixL cl H H2):=λb u e=>by
 change(if InCl cl b then H b else H2 b)=G u;by_cases C:InCl cl b
 .rw[Xq C];show e
 .rw[Xp C];show g b u (by change(if InCl cl b then B else H b)=G u;rw[Xp C];show e)
theorem ze0(g:∀b,InCl cl b->H2 b=B):Same H2 (mixL cl H H2):=λb u e=>by
 change(if InCl cl b then H b else H2 b)=G u;rw[Xp λC=>by rw[g b C]at e;cases e];show e
end
def CapAt(X:Cx)(σ:St)(cap:List Str)(cv:List V):Prop:=i4 (λx v=>∃i:Nat,X.Nq[i]?=G x/\σ[i]?=G (G v)/\(X.env.kindOf x=G .cell\/X.env.kindOf x=G .free)) cap cv
theorem zgf(ad:Adopted X σ H1 Hq){cl:Y4}(Y:∀x c,cl.lookup x=G c->X.env.cells.lookup x=G c):∀{cap:List Str} {cv:List V},(∀x∈cap,∃c,cl.lookup x=G c)->CapAt X σ cap cv->Caps Hq cl cap cv
 |_,_,_,.nil=>.nil
 |x::_,_::_,C,.cons ⟨i,J,g,Q⟩ t=>by
  let(c,a):=C x y0c;let(o,v,I,E,d):=ad.2.2.2 x c<|Y x c a;let(u,D,rfl):=d i _ J g Q;show .cons ⟨c,o,u,a,I,E,D⟩<|zgf ad Y (λy l=>C y<|y0a _ l) t
section
variable {X:Cx}{H H1 H1' Hq:Hp}{σ:St}{name qual:Str}{params:iK}{scope:Scope}{f:Ad}{own ps cap:List Str}{cv:List V}{k:Nat}{sp:Sp}
theorem Made.fn(M:Made X H H1 name qual params body scope f):∃fd,H1 f=G (fnO fd f):=by
 let(cl,ct,c',oc,p,_,_,_,_,h):=M.ex;show⟨_,h⟩
theorem zfn{cl:Y4}(ad:Adopted X σ H1' Hq)(l1:∀x c,cl.lookup x=G c->X.env.cells.lookup x=G c)(O:Frz Hq H'):Frz H1' (dropL cl H'):=λb o u e=>by
 let d:¬InCl cl b:=λ⟨x,z⟩=>by rw[ad.2.1 b ⟨x,l1 x b z⟩]at e;cases e
 change(if InCl cl b then B else H' b)=_;rw[Xp d];show O _ _ _<|ad.up _ _ e
theorem Made.clo_e(M:Made X H H1 name qual params (.expr body) scope f)(g:Same H1 H1')(ad:Adopted X σ H1' Hq)(S:CloScope own ps cap scope)(j:ps.length<=own.length)(U:CapAt X σ cap cv)
  (a:∀(cl:Y4) (ct cd p:Va) (us:List Va),us.length=ps.length->iZ (cloFd name qual params (.expr body) scope cl ct cd p) ⟨us,[]⟩=pure (ps.zip us))
  (i:∀(cl:Y4) (c':Ad) (A:ir) (outer:List Env) (s:ik) (H':Hp) (vs:List V) (Q:VK),Room k (A.deeper<|envL qual scope cl s.heap.objs.size f (.ref c'))->ClOk cl H'->Frz Hq H'->Frz H1' (dropL cl H')->vs.length=ps.length->sp vs H' Q E0->
   ∃t,PE (cxL X.prog X.w X.K X.mg X.base (own++cap) qual scope cl f (.ref c') A outer s H') body t/\t (stL own vs cv) (dropL cl H') (λv H2=>(∀b,InCl cl b->H2 b=B)->Q v (mixL cl H' H2))):CloH X.prog X.w X.K X.mg X.base (k+1) Hq f ps.length sp:=by
 let(cl,ct,c',oc,p,l1,l2,C,w,l):=M.ex;let D:ClOk cl Hq:=λx c e=>let⟨o,v,I,E,_⟩:=ad.2.2.2 x c<|l1 x c e;⟨o,v,I,E⟩;let up:=ad.up;apply zvo S j (up _ _<|g _ _ l) (up _ _<|g _ _ C) w D l2 (λx y c J q=>ad.2.2.1 x y c (l1 x c J)<|l1 y c q) (zgf ad l1 (λx O=>l2 (x,.free) (mem_of_lookup'<|S.cap x O) R) U) (a cl ct _ p) λA outer s H' vs Q L r hl Y=>?_;show i cl c' A outer s H' vs Q L (λx c e=>let⟨o,v,z,d⟩:=D x c e;⟨o,v,r _ _ _ z,d⟩) r (zfn ad l1 r) hl Y
theorem Made.clo_s(M:Made X H H1 name qual params (.stmts body) scope f)(g:Same H1 H1')(ad:Adopted X σ H1' Hq)(S:CloScope own ps cap scope)(j:ps.length<=own.length)(U:CapAt X σ cap cv)
  (a:∀(cl:Y4) (ct cd p:Va) (us:List Va),us.length=ps.length->iZ (cloFd name qual params (.stmts body) scope cl ct cd p) ⟨us,[]⟩=pure (ps.zip us))
  (i:∀(cl:Y4) (c':Ad) (A:ir) (outer:List Env) (s:ik) (H':Hp) (vs:List V) (Q:VK),Room k (A.deeper<|envL qual scope cl s.heap.objs.size f (.ref c'))->ClOk cl H'->Frz Hq H'->Frz H1' (dropL cl H')->vs.length=ps.length->sp vs H' Q E0->
   ∃t,PSs (cxL X.prog X.w X.K X.mg X.base (own++cap) qual scope cl f (.ref c') A outer s H') body t/\t {nx:=λ_ H2=>(∀b,InCl cl b->H2 b=B)->Q .non (mixL cl H' H2),rt:=λv H2=>(∀b,InCl cl b->H2 b=B)->Q v (mixL cl H' H2)} (stL own vs cv) (dropL cl H')):CloH X.prog X.w X.K X.mg X.base (k+1) Hq f ps.length sp:=by
 let(cl,ct,c',oc,p,l1,l2,C,w,l):=M.ex;let D:ClOk cl Hq:=λx c e=>let⟨o,v,I,E,_⟩:=ad.2.2.2 x c<|l1 x c e;⟨o,v,I,E⟩;let up:=ad.up;apply zst S j (up _ _<|g _ _ l) (up _ _<|g _ _ C) w D l2 (λx y c J q=>ad.2.2.1 x y c (l1 x c J)<|l1 y c q) (zgf ad l1 (λx O=>l2 (x,.free) (mem_of_lookup'<|S.cap x O) R) U) (a cl ct _ p) λA outer s H' vs Q L r hl Y=>?_;show i cl c' A outer s H' vs Q L (λx c e=>let⟨o,v,z,d⟩:=D x c e;⟨o,v,r _ _ _ z,d⟩) r (zfn ad l1 r) hl Y
end
end L2
namespace SM
open PySem PySem.Spec PyProof.Rows L2 SS
theorem SameN.tups(g:SameN H H'):TupS H H':=λb xs e=>g b _ e λ_ _ z=>nomatch z
theorem zp6{t:TE}{Q:VK}{H:Hp}{σ:L2.St}(l:L2.St)(e:σ=l)(h:t l H Q):t σ H Q:=by rw[e];show h
theorem zgc{cl:Y4}{H H2:Hp}{D:Ad}{u:HO}(h:dropL cl H D=B)(e:H2 D=G u)(n:∀b,InCl cl b->H2 b=B):H D=B:=by
 classical
 let d:¬InCl cl D:=λz=>by rw[n D z]at e;cases e
 unfold dropL at h;rw[Xp d]at h;show h
def zhw(Rq:Hp->Prop)(J:List Nat->Prop)(L:List Nat->List Nat->Prop):Sp:=λvs H Q _=>∃(b:Ad) (ns:List Nat),vs=[.ref b]/\Rq H/\H b=G (.lst<|ns.map nV)/\J ns/\
 ∀D fs H',H D=B->Same H H'->H' D=G (.lst<|fs.map nV)->L ns fs->Q (.ref D) H'
def zgx(P:im)(w:World)(K:Frag)(mg:Y1)(base:Heap):Sp:=λvs H Q _=>∃(e f:Ad) (fd:i5) (bs:List Bool) (Rq:Hp->Prop) (J:List Nat->Prop) (L:List Nat->List Nat->Prop) (j:List Nat->Nat),
 vs=[.ref e,.ref f]/\H e=G (.tup<|bs.map V.bl)/\bs.length<=100/\H f=G (fnO fd f)/\CloH P w K mg base 3 H f 1 (zhw Rq J L)/\Rq H/\(∀H1 H2,Same H1 H2->Rq H1->Rq H2)/\(∀ns,Num bs ns->J ns)/\
 (∀ns,J ns->ns.length<=100)/\(∀ns fs,J ns->L ns fs->J fs/\(fs≠ns->j fs<j ns))/\∀D ns H',Same H H'->H' D=G (.lst<|ns.map nV)->J ns->L ns ns->Q (.ref D) H'
def zdf(I:Ad)(qs:Y3):Sp:=λvs H Q _=>∃(a:Ad) (m:Mc),vs=[.ref a]/\TabOk H I qs/\RepM H a m/\m.Ok/\∀p O H',Same H H'->RepM H' p O->Red m O->Q (.ref p) H'
def zwv(K:Frag)(ts:List<|Ad×List (Pos×Str)):Sp:=λvs H Q _=>∃(a:Ad) (ns:List Int),vs=[.ref a]/\SqL K H a (ns.map V.int)/\ns.length<=63/\OnlyT ts H/\∀H',Q (.bl N) H'
def zeg(I:Ad)(qs:Y3):Sp:=λvs H Q _=>∃(a:Ad) (m:Mc),vs=[.ref a]/\TabOk H I qs/\RepM H a m/\m.Ok/\∀p O H',Same H H'->RepM H' p O->Red (turned m) O->Q (.ref p) H'
def sprd(m:Mc)(f:Nat->Nat)(W:Nat):Mc:=⟨W,m.ways.map λline=>(List.range<|2^W).map λl=>line.getD (f l) 0,m.ends⟩
theorem zws(ok:m.Ok)(L:r<m.n)(hl:l<2^W):(sprd m f W).go r l=m.go r (f l):=by
 let Y:r<m.ways.length:=by rw[ok.len];show L
 simp only[Mc.go,sprd,y02,y05,y00 Y,y1z,y0y,y1p hl]
theorem zkz(ok:m.Ok)(c:W<=4)(T:∀l,l<2^W->f l<2^m.w):(sprd m f W).Ok:=by
 apply⟨c,ok.pos,ok.few,?_,λv hl=>?_,λv hl r L=>?_⟩
 .change(m.ways.map _).length=m.ends.length;rw[y01];show ok.len
 .let(line,_,rfl):=y0j.mp hl;rw[y01,y16];rfl
 .let(line,a,rfl):=y0j.mp hl;let(l,h,rfl):=y0j.mp L;let Y:=T l<|y0z.mp h;let M:f l<line.length:=by rw[ok.line line a];show Y
  change line.getD (f l) 0<m.ends.length;rw[y02,y00 M,y0y];show ok.room line a _<|y0n M
theorem zfd(ok:m.Ok)(T:∀l,l<2^W->f l<2^m.w):∀(row:List Nat) (r:Nat),r<m.n->(∀l∈row,l<2^W)->(sprd m f W).run r row=m.run r (row.map f)
 |[],_,_,_=>rfl
 |l::row,r,L,h=>by
  let hl:=h l y0c;rw[Mc.run_cons,y0r,Mc.run_cons,zws ok L hl];show zfd ok T row _ (ok.go_lt L<|T l hl) λx O=>h x<|y0a _ O
theorem zti(m:Mc)(f:Nat->Nat)(W r:Nat):(sprd m f W).fin r=m.fin r:=rfl
def loI(l:Int):List Nat->Nat->Int
 |[],_=>0
 |t::ts,i=>Builtin.bitAnd (l/2^t) 1*2^i+loI l ts (i+1)
def loL(l:Int):List Nat->Nat->List Int
 |[],_=>[]
 |t::ts,i=>Builtin.bitAnd (l/2^t) 1*2^i::loL l ts (i+1)
theorem zrm(l:Int):∀(ts:List Nat) (i:Nat),(loL l ts i).sum=loI l ts i
 |[],_=>rfl
 |t::ts,i=>by rw[loL,loI,y43,zrm l ts]
theorem zv8(l:Int):∀(ts:List Nat) (i j:Nat),(loL l ts i)[j]?=ts[j]?.map λt=>Builtin.bitAnd (l/2^t) 1*2^(i+j)
 |[],_,_=>by simp[loL]
 |t::ts,i,0=>by simp[loL]
 |t::ts,i,j+1=>by
  rw[loL,y20,zv8 l ts,y20];congr 1;funext t;rw[show i+1+j=i+(j+1) by omega]
noncomputable def back(bs:List Nat):Nat:=bs.reverse.foldl (λf b=>2*f+b) 0
theorem zs1:∀l,l<32->∀t,t<5->(Builtin.bitAnd ((l:Nat):Int) 1).natAbs<2/\(Builtin.bitAnd (((l:Nat):Int)/2^t) 1).natAbs<2:=by decide+kernel
def zfr:Sp:=λvs H Q _=>∃(l:Nat) (a:Ad) (ts:List Nat),vs=[nV l,.ref a]/\l<32/\H a=G (.lst<|ts.map nV)/\ts.length<=5/\(∀t∈ts,t<=4)/\∀H',Same H H'->Q (.int<|loI l ts 0) H'
def zhy:Sp:=λvs H Q _=>∃(c:Int),vs=[.int c]/\∀r:Int,0<=r->r<999999999989->Q (.int r) H
noncomputable def cnt(m:Mc):Nat->Nat->Nat
 |0,r=>if m.fin r=N then 1 else 0
 |k+1,r=>((m.ways.getD r []).map<|cnt m k).sum
def cl(m:Mc)(k:Nat):List Nat:=(List.range m.ends.length).map<|cnt m k
abbrev veM:List Va:=[.type "ValueError",.type "Exception",.type "BaseException",.type "object"]
def NoLen(H:Hp)(v:V)(n:Int):Prop:=(∃r:Int,v=.int r/\¬(0<=r/\r<n))\/∃k,Kd H v k/\k≠"int"
def zi3:Sp:=λvs H Q _=>∃v,vs=[v]/\((∃r:Int,v=.int r/\Q (.bl N) H)\/∃k,Kd H v k/\k≠"int"/\Q (.bl Fa) H)
inductive zft(vs:List V)(H:Hp)(Q:VK)(_E:XK):Prop
 |mk (v:V) (n:Int):(vs=[v,.int n])->(((∃r:Int,v=.int r/\0<=r/\r<n/\Q (.bl N) H)\/(NoLen H v n/\Q (.bl Fa) H)))->zft vs H Q _E
end SM
namespace L2
open PySem PySem.Spec PyProof.Rows PySem.W PySem.Calls
section
variable {X:Cx}{pins:Y2}{σ:St}{H:Hp}{s:ik}{k:Nat}{fa:Ad}{fd:i5}{ps:List Str}{sp:Sp}
def tTryA(K:Frag)(S:Ad)(sp:Sp)(j:Nat)(t:TA)(ts:TS):TS:=λD σ H=>t σ H λvs H1=>sp vs H1 (λv H2=>D.nx σ H2) λcls oa H2=>∀a,oa=G a->∃C,cls=.ref C/\mroIn K C (.ref S)=G N/\
 ∀H3,Same H2 H3->H3 a=G (excO a cls)->ts {nx:=λl H'=>(∃v,l[j]?=G (G v))/\D.nx (l.set j B) H',rt:=λ_ _=>False} (σ.set j<|G (.ref a)) H3
end
theorem op_le_str:OpR X (iw .LtE) (λx y H Q=>∃i j,x=.str i/\y=.str j/\Q (.bl<|!(decide (j.cps.toList<i.cps.toList))) H):=by
 infer_instance;let(i,j,rfl,rfl,q):=h;let(t,rfl):=rx;let(t',rfl):=ry;show PySem.P.le_str<|zaz I q R
end L2
namespace SM
open PySem PySem.Spec PyProof.Rows L2 SS
def isP(z:Str):Bool:=isNm (.str z) SMALL
def NmOk(z:Str):Prop:=Nam z SMALL\/Nam z GREAT
def FrOk(names:List Str):Prop:=names.length<=4/\∀z∈names,NmOk z
theorem zuz(h:NmOk z):z.length<=1000:=by
 let f:∀l,Nam z l->z.length<=1000:=λl hl=>by
  let(d,ds,e,_,C,_):=hl.ex;let:z.length=z.cps.toList.length:=by simp[Str.length]
  rw[this,e,y0s];omega
 rcases h with h|h
 .exact f _ h
 .exact f _ h
theorem zv7(e:z.cps.toList=d::ds)(Y:d∈l.cps.toList)(M:ds.length<=3)(C:∀x∈ds,x∈FIGS.cps.toList):Nam z l:=⟨d,ds,e,Y,M,C⟩
open PySem
noncomputable def rowWords:List Str:=["in","same","within","ahead","next"]
noncomputable def bst(wd:Str)(l:Nat)(one d:Bool):Nat :=
 if l<=1 then l else if l=2 then
  (if wd="within" then(if one && !d then 0 else 2)
  else if !one&&(!d||decide (wd="in"))then 2
  else if decide (wd="in")||decide (wd="same")then(if one&&d then 1 else 0)
  else if d then 0 else if wd="ahead" then 1 else 3)
 else if one then 1 else 0
noncomputable def bit(c k:Nat):Bool:=c/2^k%2==1
def bstep(wd:Str)(i j:Nat)(l c:Nat):Nat:=if l<=1 then l else if l=2 then bst wd 2 (bit c i) (bit c j)else bst wd 3 (bit c j) (bit c j)
def brun(wd:Str)(i j:Nat)(l:Nat)(row:List Nat):Nat:=row.foldl (bstep wd i j) l
noncomputable def aend(wd:Str)(l:Nat):Bool:=decide (l=1)||(decide (l=2)&&decide (wd="within"))
theorem zsz:brun wd i j l (c::r)=brun wd i j (bstep wd i j l c) r:=rfl
end SM
namespace L2
theorem zcm{X:Cx}{x:Str}(P:im)(w:World)(K:Frag)(mg:Y1)(base:Heap)(i k n:Nat)(sp:Sp){m:Nat}{p pos:Pos}{e:Expr}{l:List Expr}{t:TA}(L:Room m X.A)(v:k<=m)(d:PA X (e::l) t)(J:X.prog=P:=by rfl)(g:X.w=w:=by rfl)(Q:X.K=K:=by rfl)(s:X.mg=mg:=by rfl)(y:X.base=base:=by rfl)
  (hN:X.Nq[i]?=G x:=by rfl) (hv:Vis X.env.scope x:=by first|show Or.inl rfl|show Or.inr (Or.inl R)|show Or.inr (Or.inr R))
  (hd:(x==("__debug__":Str))=Fa:=by decide) (hcd:(x==("__classdict__":Str))=Fa:=by decide) (Y:notStar e=N:=by rfl) (M:l.all notStar=N:=by rfl) :
  PE X (.Call (.Name x p) (e::l) [] pos) (tCallV P w K mg base k n sp i t):=by
 subst J g Q s y;show zqn i k n sp L v d hN hv hd hcd Y M
theorem DfnC.calE{P:im}{w:World}{K:Frag}{mg:Y1}{base:Heap}{x:Str}{st:Stmt}{Nq ps:List Str}{k:Nat}{sp:Sp}{c I:Ad}(d:DfnC K mg x st ps c I)(S:FnScope Nq ps<|defScope st)(len:∀vs H Q E,sp vs H Q E->vs.length=ps.length)
  (i:∀(f:Ad) (A:ir) (outer:List Env) (s:ik) (H:Hp) (vs:List V) (Q:VK) (E:XK),Room k (A.deeper<|jl x (defScope st) s.heap.objs.size f (.ref c))->sp vs H Q E->Rs (cxOf (CXE P w) P w K mg base Nq x (defScope st) f (.ref c) A outer s H E) E->
   ∃t,PSs (cxOf (CXE P w) P w K mg base Nq x (defScope st) f (.ref c) A outer s H E) (defBody st) t/\t {nx:=λ_ H'=>Q .non H',rt:=Q} (start Nq vs) H):CalE P w K mg base (k+1) x ps sp:=by
 let(f,fd,F,b,m):=d.ex;let(oc,M,kV,doc,p,g,ct,z,rfl,lk,hcd):=F.ex;show⟨f,_,zvc lk hcd S len λA outer s H vs Q E L Y=>i f A outer s H vs Q E L Y ⟨R,R,R,λ_ _ h=>h⟩,b,F.kp,m⟩
def tCallAE(X:Cx)(E:XK)(sp:Sp)(t:TA):TE:=λσ H Q=>t σ H λvs H1=>∀Hq,Adopted X σ H1 Hq->sp vs Hq (λv H2=>Q v<|dropX X H2) (λc a H2=>E c a<|dropX X H2)
theorem zqp{X:Cx}{E:XK}{k:Nat}{f:Ad}{fd:i5}{ps:List Str}{sp:Sp}{x:Str}{p pos:Pos}{e:Expr}{es:List Expr}{t:TA}(Rq:Rs X E)(F:FnOk X.prog X.w X.K X.mg X.base (CXE X.prog X.w) k f fd ps sp)(L:Room k X.A)(hg:Gl X x)(hm:X.mg x=G (.ref f))(D:PySem.W.keepIn X.K (.ref f)=N)(U:Binds X.K fd ps [])
  (bq:∀x,X.fn x=N) (d:PA X (e::es) t) (aq:(x==("__debug__":Str))=Fa:=by decide) (he:iq (e::es) X.env=(Fa,eval e X.env)::iq es X.env:=by rfl) (aw:(ji pos<|iq es X.env).any (·.1)=Fa:=by rfl) :
  PE X (.Call (.Name x p) (e::es) [] pos) (tCallAE X E sp t):=by
 classical
 intro pins s σ H Q I h;apply iI<|zeo I hg hm ?_ aq;apply PySem.W.callWith_K (h₀:=X.base) I.ok.mod.kin D (thn (d pos pins s σ H _ I h) λus s1 zz=>ex5 zz λvs H1 I1 r q=>⟨I1.kIn,?_⟩) he aw;letI Hq:Hp:=λb=>if CellOf X b then(s1.heap.get? b).map λo=>.frz o (.own b)else H1 b
 let w:∀b,¬CellOf X b->Hq b=H1 b:=λb n=>Xp n;let q2:∀x c,X.env.cells.lookup x=G c->∃o v,s1.heap.get? c=G o/\o.data=.cell v/\Hq c=G (.frz o<|.own c):=λx c e=>by
  let(v,o,j,hd):=I1.cell x c e;show⟨o,v,j,hd,by change(if CellOf X c then _ else _)=_;rw[Xq ⟨x,e⟩,j];rfl⟩
 let tr:∀b u,H1 b=G u->¬CellOf X b:=λb u e ⟨x,z⟩=>by rw[I1.freeC x b z]at e;cases e
 let ad:Adopted X σ H1 Hq:=⟨w,λb ⟨x,z⟩=>I1.freeC x b z,I1.ok.inj,λx c e=>by
  let(o,v,j,hd,A):=q2 x c e;apply⟨o,v,A,hd,λi y J g e3=>?_⟩;let(m,hn,hl):=I1.loc;let(u,ru,l):=hl i x y J g (by rcases e3 with z|z;show .inr<|.inl z;show .inr<|.inr z);rcases l with⟨z,_⟩|⟨_,c',au,o',aj,av⟩
  .rcases e3 with y'|y'<;>(rw[z]at y';cases y')
  .rw[e]at au;cases au;rw[j]at aj;cases aj;rw[hd]at av;cases av;show⟨u,ru,R⟩⟩
 let dv:∀b,CellOf X b->X.s₀.heap.objs.size<=b:=λb ⟨x,e⟩=>I1.ok.cab x b (bq x) e;let d6:∀b∈frs X.stack,¬CellOf X b:=λb U ⟨x,e⟩=>by
  rcases y06.mp (I1.stkSub b U)with z|z
  .exact I1.cne x b e z
  .let(_,o,j,_):=I1.ok.funs.mem z;show Xa (y0p (y0e j)<|dv b ⟨x,e⟩)<|y1g _
 let up:∀b u,H1 b=G u->Hq b=G u:=λb u e=>by rw[w b<|tr b u e];show e
 let l0:HOk X.prog X.w Hq s1.heap:=λb u e=>by
  by_cases C:CellOf X b
  .let(x,ex):=C;let(o,v,j,hd,A):=q2 x b ex;rw[A]at e;cases e;show⟨j,o,j⟩
  .rw[w b C]at e;show(I1.hok b u e).stay (λ_ _ _ z=>z) (λc z=>up c _ z) (λc _ _ _ _ z=>up c _ z) λc xs z=>up c _ z
 let e0:=I1.env0;let l7:Env0 X.prog X.w X.K X.mg X.base X.A X.stack s1 Hq:=⟨e0.frames,e0.mod,λb o e=>⟨(e0.bs b o e).1,by
  rw[w b λC=>Xa (y0p (y0e e)<|y19 I1.ok.bsz (dv b C))<|y1g _];show(e0.bs b o e).2⟩,e0.bsz,e0.funs,λb U=>by rw[w b<|d6 b U];show e0.frf b U,l0,e0.bare⟩
 let aa:∀(H2:Hp) (h':Heap),Un (frs X.stack) [] Hq H2 s1.heap h'->HOk X.prog X.w H2 h'->Un (frs X.stack) [] H1 (dropX X H2) s1.heap h'/\HOk X.prog X.w (dropX X H2) h':=by
  intro H2 h' un bn;let c2:∀x c,X.env.cells.lookup x=G c->∃o,s1.heap.get? c=G o/\H2 c=G (.frz o<|.own c)/\h'.get? c=G o:=λx c e=>by
   let(o,v,j,hd,A):=q2 x c e;let z:=un.frzs c o _ A;show⟨o,j,z,(bn c _ z).1⟩
  let d1:∀b,¬CellOf X b->dropX X H2 b=H2 b:=λb n=>Xp n;let nmC:∀b o u q,CodeObj o q->H2 b=G (.frz o u)->¬CellOf X b:=λb o u q ⟨vs,t,hv,_⟩ e ⟨x,z⟩=>by
   let(o',aj,z2,_):=c2 x b z;rw[z2]at e;cases e;let(v,o3,j,hd):=I1.cell x b z;rw[aj]at j;cases j;rw[hv]at hd;cases hd
  let nm:∀b u,H2 b=G u->(∀o a,u ≠ .frz o a)->¬CellOf X b:=λb u e n ⟨x,z⟩=>by
   let(o,_,z2,_):=c2 x b z;rw[z2]at e;cases e;show n _ _ R
  apply⟨⟨λb o e n hf O=>?_,λb o e n hf O=>?_,λb o e n O=>?_,λb o e O=>?_,λb xs e=>?_,λb o a e=>?_,λb qs ps e=>?_⟩,λb u e=>?_⟩
  .by_cases C:CellOf X b
   .let(x,ex):=C;let(o',aj,_,z):=c2 x b ex;rw[e]at aj;cases aj;show z
   .exact un.keep b o e (by rw[w b C];show n) hf O
  .exact un.slot b o e (by rw[w b<|d6 b hf];show n) hf O
  .by_cases C:CellOf X b
   .exact Xq C
   .rw[d1 b C];show un.free b o e (by rw[w b C];show n) O
  .exact un.there b o e O
  .rw[d1 b<|tr b _ e];show un.tups b xs<|up b _ e
  .rw[d1 b<|tr b _ e];show un.frzs b o a<|up b _ e
  .rw[d1 b<|tr b _ e];show un.tbls b qs ps<|up b _ e
  .let C:¬CellOf X b:=λC=>by
    let:dropX X H2 b=B:=Xq C;rw[this]at e;cases e
   rw[d1 b C]at e;show(bn b u e).stay (λ_ _ _ z=>z) (λc z=>by rw[d1 c<|nm c _ z λ_ _ y=>nomatch y];show z) (λc o a q co z=>by rw[d1 c<|nmC c o a q co z];show z) λc xs z=>by rw[d1 c<|nm c _ z λ_ _ y=>nomatch y];show z
 let hl:us.length=ps.length:=by rw[←r.length];show F.len _ _ _ _<|q Hq ad
 apply jm<|iG (F.run X.A X.stack s1 Hq ⟨us,[]⟩ us vs _ _ L l7 (by have:=U s1 us I1.kIn (by rw[y1k];show hl);rw[y1k]at this;show this) r<|q Hq ad) λr s' A=>?_;cases r with
 |error e =>
  let(a,cls,H2,rfl,os,bare,un,bn,(oe,cf,T,oT,ts,t1,t2,t3,t4,t6,t7,t8,t9,n1,n2,Y,M),ee):=A;let(un',dl):=aa H2 s'.heap un bn;let dn:∀b,H2 b=B->dropX X H2 b=B:=λb z=>by unfold dropX;split;rfl;show z
  show Rq.xe _ _<|zc5 (E':=E) I1 Rq.ex Rq.st Rq.fr ⟨a,cls,dropX X H2,R,os,bare,un',dl,⟨oe,cf,T,oT,ts,t1,t2,t3,t4,t6,t7,t8,t9,n1,n2,dn _ Y,dn _ M⟩,ee⟩ λ_ _ _ z=>z
 |ok fl =>
  cases fl with
  |next=>show False.elim A
  |brk=>show False.elim A
  |cont=>show False.elim A
  |ret u =>
   let(v,H2,os,bare,un,bn,rv,qq):=A;let(un',dl):=aa H2 s'.heap un bn;show I1.after ⟨v,dropX X H2,os,bare,un',dl,rv,qq⟩
theorem zcz{X:Cx}{E:XK}{n k:Nat}{x:Str}{ps:List Str}{sp:Sp}{p pos:Pos}{e:Expr}{l:List Expr}{t:TA}(Rq:Rs X E)(C:CalE X.prog X.w X.K X.mg X.base n x ps sp)(L:Room k X.A)(v:n<=k)(y:Gl X x)(q:∀x,X.fn x=N)(d:PA X (e::l) t)(j:(x==("__debug__":Str))=Fa:=by decide)
  (Y:notStar e=N:=by rfl) (M:l.all notStar=N:=by rfl):PE X (.Call (.Name x p) (e::l) [] pos) (tCallAE X E sp t):=by
 let(f,fd,F,b,kp,m):=C.ex;show zqp Rq F (L.mono v) y m kp b q d j (zat Y)<|zbe M
section
variable {X:Cx}
def rRepT:R2:=λx y H Q=>∃l k v,x=.ref l/\y=.int k/\H l=G (.tup [v])/\1<=k/\k<=64/\(k=1->Q (.ref l) H)/\(2<=k->∀p H',New H p (.tup<|List.replicate k.toNat v) H'->Q (.ref p) H')
end
noncomputable def Itr3(lo c:Int)(n:Nat):It:=⟨λi _=>i<n,λi H x H'=>H'=H/\x=.int (lo+i*c),λi _=>n<=i⟩
theorem zkx{P:im}{w:World}{K:Frag}{l:Expr}(it:Ad)(lo c:Int)(n:Nat):Turn P w K l (Itr3 lo c n) [it] it (λi h=>IsRangeIter h it (lo+(i:Nat)*c) ((n:Int)-(i:Nat)) c) where
 mem:=by simp
 obj:=λi h st b U=>by
  let e:b=it:=by simpa using U
  subst e;show⟨_,st,λv z=>by
   let D:Data.fields _=Data.cell v:=z;cases D⟩
 keep:=λi h h' st k=>k it (by simp) _ st
 item:=by
  intro X g j f C i pins s σ H E I T st y;subst g j f;let(J,f1,q,L,Q,r):=T it (by simp);let W:=Walks.range (prog:=X.prog) (w:=X.w) (I.ok.hd C) it lo c n;apply W.item i s _ _ y st λv h' Y hv st' kk=>?_;let(t,rfl):=hv;let I1:02 H {s with heap:=h',toks:=Y}:=I.turned (λb o U e=>kk b o (by simpa using U) e) J f1 L Q r;show⟨_,R,zrz (s:={s with heap:=h',toks:=Y}) (n:="range_iterator") st' R R (by decide) ⟨.int<|lo+i*c,H,I1,⟨t,R⟩,⟨R,R⟩,st',λb U=>(T b U).1⟩⟩
 done:=by
  intro X g j f C i pins s σ H E I T st y;subst g j f;let(J,f1,q,L,Q,r):=T it (by simp);show wpAny_pyNext_range_end (I.ok.hd C) st (by have:n<=i:=y;omega) λh' M=>⟨R,I.turned (t':=s.toks) (λb o U e=>M b o U e) J f1 L Q r⟩
 self:=λ_ _ _ _ _ st h=>wpAny_pyIter_rangeiter st h
def iRng3(A:TA):TI:=λσ H Rq=>A σ H λvs H1=>∃i j c:Int,vs=[.int i,.int j,.int c]/\c≠0/\Builtin.Range.small i j c=N/\(j-i).natAbs<1000/\c.natAbs<1000/\0<=Builtin.Range.rangeSize i j c/\Rq (Itr3 i c (Builtin.Range.rangeSize i j c).toNat) H1
theorem zqh{X:Cx}{l a b c:Expr}{A:TA}{p pos:Pos}(y:Gl X "range")(Q:X.mg "range"=B)(d:PA X [a,b,c] A)(Y:notStar a=N:=by rfl)(M:notStar b=N:=by rfl)(C:notStar c=N:=by rfl):
  PI X l (.Call (.Name "range" p) [a,b,c] [] pos) (iRng3 A):=by
 intro pins s σ H Rq I h;let E:iq [c] X.env=[(Fa,eval c X.env)]:=by rw[zat C,starEach.eq_def]
 let x:iq [b,c] X.env=[(Fa,eval b X.env),(Fa,eval c X.env)]:=by rw[zat M,E]
 let hs:iq [a,b,c] X.env=[(Fa,eval a X.env),(Fa,eval b X.env),(Fa,eval c X.env)]:=by rw[zat Y,x]
 apply Call_<|zd1 I y Q boot_range (PyProof.Rows.callWith_type1 (thn (d pos pins s σ H _ I h) λus s1 zz=>ex5 zz λvs H1 I1 r1 w=>?_) (by rw[hs,x])<|by rw[x];rfl);let(i,j,k,e,v,D,hz,f,L,q):=w;subst e;cases r1 with
 |cons r z =>
  cases z with
  |cons r' z =>
   cases z with
   |cons r'' z =>
    cases z;let(t,rfl):=r;let(t',rfl):=r';let(u,rfl):=r'';apply PySem.call_range_3 v ?_<|.inl (PyProof.noPylong_small 00);apply wpAny_pyIter_range (IsRange.new ..) D ?_;let O:02 H1 {s1 with heap:=s1.heap.push {cls:=.type "range",data:=.fields #[.int i t,.int j t',.int k u]},toks:=s1.toks}:=I1.kept λb o e=>y03 _ e;apply⟨(s1.heap.push {cls:=.type "range",data:=.fields #[.int i t,.int j t',.int k u]}).objs.size,[(s1.heap.push {cls:=.type "range",data:=.fields #[.int i t,.int j t',.int k u]}).objs.size],_,_,H1,R,
     O.kept (t':=s1.toks) λb o e=>y03 _ e,zkx _ i k (Builtin.Range.rangeSize i j k).toNat,?_,λb U=>?_,q⟩
    .let J:i+((0:Nat):Int)*k=i:=by simp
     let g:(((Builtin.Range.rangeSize i j k).toNat:Nat):Int)-((0:Nat):Int)=Builtin.Range.rangeSize i j k:=by omega
     change IsRangeIter _ _ (i+((0:Nat):Int)*k) ((((Builtin.Range.rangeSize i j k).toNat:Nat):Int)-((0:Nat):Int)) k;rw[J,g];show y0f _ R
    .let e:b=(s1.heap.push {cls:=.type "range",data:=.fields #[.int i t,.int j t',.int k u]}).objs.size:=by simpa using U
     subst e;show O.fpOk (y04 _)<|O.hok.fresh (y04 _)
theorem zr9{lo c:Int}{n:Nat}{g:TG}{z:TS}{D:Ends}{j:St}{H1:Hp}(Pv:Nat->St->Hp->Prop)(E:Pv 0 j H1)
  (hs:∀i σ H,i<n->Pv i σ H->g (.int<|lo+i*c) σ H λd H2=>z {D with nx:=Pv<|i+1,ct:=Pv<|i+1,bk:=D.nx} d H2) (hd:∀σ H,Pv n σ H->D.nx σ H):fBody g z D j (Itr3 lo c n) H1:=by
 apply⟨λi m σ H=>m=n-i/\i<=n/\Pv i σ H,⟨n,by simp,y18 _,E⟩,?_⟩;rintro i m σ H ⟨rfl,hi,p⟩;by_cases f:i<n
 .refine .inr ⟨f,Pv<|i+1,λl H' p'=>⟨n-(i+1),by omega,R,f,p'⟩,λx H' y=>?_⟩;let(rfl,rfl):=y;show hs i σ H' f p
 .let e:i=n:=by omega
  subst e;show .inl ⟨y04 _,hd σ H p⟩
section
variable {X:Cx}{k:Nat}{H:Hp}{x y:V}{a b:Ad}{xs ys:List V}
def rLeL(X:Cx):R2:=λx y H Q=>∃(a b:Ad) (xs ys:List Int) (j:Nat) (p q:Int),x=.ref a/\y=.ref b/\SqL X.K H a (xs.map V.int)/\SqL X.K H b (ys.map V.int)/\xs.take j=ys.take j/\xs[j]?=G p/\ys[j]?=G q/\p≠q/\Q (.bl<|decide (p<=q)) H
def rNotInD(X:Cx):R2:=λx y H Q=>∃(p:Ad) (xs:List V) (e:Nat->Bool),y=.ref p/\SqL X.K H p xs/\(∀j (h:j<xs.length),EqOk X 7 H xs[j] x<|e j)/\Q (.bl<|!(List.range xs.length).any e) H
end
theorem zya{K:Frag}{a:Ad}{xs:List V}{g:TG}{z:TS}{D:Ends}{j:St}{H1:Hp}(Pv:Nat->St->Hp->Prop)(E:Pv 0 j H1)(hl:∀i σ H,i<=xs.length->Pv i σ H->SqL K H a xs)
  (hs:∀i x σ H p H2,xs[i]?=G x->Pv i σ H->New H p (.tup [.int (i:Int),x]) H2->g (.ref p) σ H2 λd H2=>z {D with nx:=Pv<|i+1,ct:=Pv<|i+1,bk:=D.nx} d H2)
  (hd:∀σ H,Pv xs.length σ H->D.nx σ H):fBody g z D j (Ite K a) H1:=by
 apply⟨λi m σ H=>m=xs.length-i/\i<=xs.length/\Pv i σ H,⟨xs.length,by simp,y18 _,E⟩,?_⟩;rintro i m σ H ⟨rfl,hi,p⟩;let w:=hl i σ H hi p;by_cases f:i<xs.length
 .refine .inr ⟨⟨xs,xs[i],w,y00 f⟩,Pv<|i+1,λl H' p'=>⟨xs.length-(i+1),by omega,R,f,p'⟩,λx H' y=>?_⟩;let(L,u,e,I,ex):=y;subst e;show hs i u σ H L H' (ex xs w) p I
 .let e:i=xs.length:=by omega
  subst e;show .inl ⟨⟨xs,w,y04 _⟩,hd σ H p⟩
section
variable {X:Cx}{H H1 H1' Hq:Hp}{σ:St}{name qual:Str}{params:iK}{scope:Scope}{f:Ad}{own ps cap:List Str}{cv:List V}{k:Nat}{sp:Sp}
theorem Made.clo_sM(M:Made X H H1 name qual params (.stmts body) scope f)(g:Same H1 H1')(ad:Adopted X σ H1' Hq)(S:CloScopeM own ps cap scope)(j:ps.length<=own.length)(U:CapAt X σ cap cv)
  (a:∀(cl:Y4) (ct cd p:Va) (us:List Va),us.length=ps.length->iZ (cloFd name qual params (.stmts body) scope cl ct cd p) ⟨us,[]⟩=pure (ps.zip us))
  (i:∀(cl:Y4) (c':Ad) (A:ir) (outer:List Env) (s:ik) (H':Hp) (vs:List V) (Q:VK),Room k (A.deeper<|envM qual scope cl s.heap.objs.size f (.ref c'))->ClOk cl H'->Frz Hq H'->Frz H1' (dropL cl H')->vs.length=ps.length->sp vs H' Q E0->
   ∃t,PSs (cxM X.prog X.w X.K X.mg X.base (own++cap) qual scope cl f (.ref c') A outer s H') body t/\t {nx:=λ_ H2=>(∀b,InCl cl b->H2 b=B)->Q .non (mixL cl H' H2),rt:=λv H2=>(∀b,InCl cl b->H2 b=B)->Q v (mixL cl H' H2)} (stL own vs cv) (dropL cl H')):CloH X.prog X.w X.K X.mg X.base (k+1) Hq f ps.length sp:=by
 let(cl,ct,c',oc,p,l1,l2,C,w,l):=M.ex;let D:ClOk cl Hq:=λx c e=>let⟨o,v,I,E,_⟩:=ad.2.2.2 x c<|l1 x c e;⟨o,v,I,E⟩;let up:=ad.up;apply zhm S j (up _ _<|g _ _ l) (up _ _<|g _ _ C) w D l2 (λx y c J q=>ad.2.2.1 x y c (l1 x c J)<|l1 y c q) (zgf ad l1 (λx O=>l2 (x,.free) (mem_of_lookup'<|S.cap x O) R) U) (a cl ct _ p) λA outer s H' vs Q L r hl Y=>?_;show i cl c' A outer s H' vs Q L (λx c e=>let⟨o,v,z,d⟩:=D x c e;⟨o,v,r _ _ _ z,d⟩) r (zfn ad l1 r) hl Y
end
theorem idx_le:∀(zs:List Str) (m:Nat) (h:m<zs.length),zs.idxOf zs[m]<=m
 |y::r,0,h=>by simp
 |y::r,m+1,h=>by
  rw[y33];let:=idx_le r m (by simpa using h);cases(y==(y::r)[m+1])
  .simp only[cond_false,List.getElem_cons_succ];omega
  .simp
def rIndexT(K:Frag):V->List V->Hp->VK->Prop:=λx vs H Q=>∃(p:Ad) (zs:List Str) (z:Str),x=.ref p/\vs=[.str z]/\SqL K H p (zs.map V.str)/\z∈zs/\zs.length<=1000/\Q (.int ((zs.idxOf z:Nat):Int)) H
theorem zrf(Y:X.A.units+8<cLine):MtR X "list.index" (rIndexT X.K):=by
 intro pins s σ H x xs v us Q I rx U h;let(p,zs,z,rfl,rfl,O,D,hz,q):=h;cases rx;let(u,rfl,t,rfl):=vals1 U;let(vs,T,pl,_):=I.list O;let d:=T.length;rw[y01]at d;let hv:∀(i:Nat) (hi:i<zs.length),∃(h:i<vs.length) (t:Tok),vs[i]=.str zs[i] t:=λi hi=>by
  let(h',y):=T.at (j:=i) 00;rw[y4i]at y;let(t,e):=(show∃t,vs[i]=Va.str zs[i] t from y);show⟨by omega,t,e⟩
 let((cls,dd,data,L),r,C,n,hd):=pl.isList;simp only at C hd;subst C hd;let o:zs.idxOf z<zs.length:=y1n.mpr D;letI g:Va->Bool:=λ|.str b _=>decide (b=z)|_=>Fa
 apply jn PySem.F.slot_list_index ⟨_,r,R⟩ PySem.F.entry_list_index (PySem.F.args_list_index_2 _ _)
  (SeqAt.list_indexAt p vs.toArray n dd L (.str z t) g (zs.idxOf z) (by simp;omega) 00 ?_ ?_) ⟨r,λy l=>?_,?_⟩
 .let(h,t',e):=hv _ o;change g vs[zs.idxOf z]=N;rw[e];show Xg<|y34 o
 .intro m J f;let a:m<zs.length:=by simp at J;omega
  let(h,t',e):=hv m a;change g vs[m]=Fa;rw[e];apply Xf λc=>?_;let M:zs.idxOf z<=m:=by
   rw[←c];show idx_le zs m a
  omega
 .let(i,hi,rfl):=y22 (show y∈vs by simpa using l);let(h,t',e):=hv i 00;rw[e];show zcn (X:=X) (k:=0) (H:=H) (x:=.str zs[i]) (y:=.str z) R R pins σ s X.A.in1 _ _ (by change X.A.units+1+0<cLine;omega) I ⟨t',R⟩ ⟨t,R⟩
 .exact⟨.int _,H,I.tok _,⟨_,R⟩,q⟩
theorem zos(K:Frag)(Y:X.A.units+8<cLine)(h:X.K=K:=by rfl):MtR X "list.index" (rIndexT K):=h▸zrf Y
def gLst(K:Frag)(n:Nat)(t:TGs):TG:=λv σ H Q=>∃a xs,v=.ref a/\SqL K H a xs/\xs.length=n/\t xs σ H Q
end L2
namespace SM
structure Thg where
 w:Nat
 step:List Nat->List (List Nat)
 fin:List Nat->Bool
def Thg.run(T:Thg)(t:List Nat)(row:List Nat):List Nat:=row.foldl (λt l=>(T.step t).getD l []) t
theorem Thg.run_cons(T:Thg)(t:List Nat)(l:Nat)(row:List Nat):T.run t (l::row)=T.run ((T.step t).getD l []) row:=rfl
structure Fnd(T:Thg)(Gq:List Nat->Prop)(first:List Nat)(fs:List<|List Nat)(at':Nat):Prop where
 nd:fs.Nodup
 hd:fs[0]?=G first
 good:∀t∈fs,Gq t
 le:at'<=fs.length
 clo:∀t∈fs.take at',∀u∈T.step t,u∈fs
def expl(T:Thg)(fs:List<|List Nat):Mc:=⟨T.w,fs.map λt=>(T.step t).map<|nOf fs,fs.map T.fin⟩
theorem Fnd.start(h:Gq first):Fnd T Gq first [first] 0 :=
 ⟨by simp,R,λt p=>by rw[y0b.mp p];show h,y18 _,λt p=>by simp at p⟩
theorem zxw{q:Type}[DecidableEq q]{o xs:List q}{i:Nat}{x:q}(h:o[i]?=G x):(news o xs)[i]?=G x:=by
 let(t,e):=zc2 xs o;rw[e,y15 (y09.mp h).1];show h
theorem Fnd.next(h:Fnd T Gq first fs at')(e:fs[at']?=G t)(y:∀u∈T.step t,Gq u):Fnd T Gq first (news fs<|T.step t) (at'+1):=by
 let f:=(y09.mp e).1;let(tl,ep):=zc2 (T.step t) fs;apply⟨zlr _ _ h.nd,zxw h.hd,λu Y=>?_,by rw[ep,y0d];omega,λu Y v hv=>?_⟩
 .rcases(zbu _ _ _).mp Y with z|z
  .exact h.good u z
  .exact y u z
 .rw[ep,y3e 00,y1h,e,y24]at Y;rcases y0v.mp Y with z|z
  .exact(zbu _ _ _).mpr<|.inl (h.clo u z v hv)
  .rw[y0b.mp z]at hv;show(zbu _ _ _).mpr<|.inr hv
theorem zu3{q:Type}[DecidableEq q]{fs xs:List q}{u:q}(h:u∈fs):nOf (news fs xs) u=nOf fs u:=by
 let(t,e):=zc2 xs fs;change List.idxOf u (news fs xs)=List.idxOf u fs;rw[e];show zih h
theorem zpf(h:Fnd T Gq first fs at')(e:fs[at']?=G t):
  (((news fs<|T.step t).take<|at'+1).map λu=>(T.step u).map<|nOf (news fs<|T.step t))=((fs.take at').map λu=>(T.step u).map<|nOf fs)++[(T.step t).map<|nOf (news fs<|T.step t)]:=by
 let f:=(y09.mp e).1;let(tl,ep):=zc2 (T.step t) fs;let J:(news fs<|T.step t).take (at'+1)=fs.take at'++[t]:=by rw[ep,y3e 00,y1h,e,y24]
 rw[J,y13,y0r,y3c];congr 1;apply y30 λu Y=>y30 λv hv=>zu3<|h.clo u Y v hv
section
variable {T:Thg}{Gq:List Nat->Prop}{first:List Nat}{fs:List (List Nat)}
theorem zc6{q:Type}[DecidableEq q]:∀{xs:List q} {x:q},x∈xs->xs[nOf xs x]?=G x
 |y::ys,x,h=>by
  by_cases e:y=x
  .subst e;simp[nOf]
  .let h':x∈ys:=by
    rcases y06.mp h with z|z
    .exact Xa z.symm e
    .exact z
   change(y::ys)[List.idxOf x (y::ys)]?=G x;rw[y33,show(y==x)=Fa by simp[e],cond_false,y20];show zc6 h'
theorem zyb(j:T.w<=4)(h:Fnd T Gq first fs fs.length)(hl:fs.length<=100)(hs:∀t,Gq t->(T.step t).length=2^T.w):(expl T fs).Ok:=by
 let E:0<fs.length:=(y09.mp h.hd).1;let C:∀t∈fs,∀u∈T.step t,u∈fs:=λt p u Y=>h.clo t (by rw[y0i<|y04 _];show p) u Y;apply {pos:=?_,wid:=j,few:=?_,len:=?_,line:=?_,room:=?_}
 .simpa[expl]using E
 .simpa[expl]using hl
 .simp[expl]
 .intro line J;let(t,p,rfl):=y0j.mp J;rw[y01];show hs t<|h.good t p
 .intro line J r L;let(t,p,rfl):=y0j.mp J;let(u,Y,rfl):=y0j.mp L;change nOf fs u<(fs.map T.fin).length;rw[y01];show(y09.mp<|zc6 (C t p u Y)).1
theorem zve(p:t∈fs):(expl T fs).fin (nOf fs t)=T.fin t:=by
 change(fs.map T.fin).getD (nOf fs t) Fa=_;rw[y02,y05,zc6 p];rfl
theorem zyc(h:Fnd T Gq first fs fs.length)(hs:∀t,Gq t->(T.step t).length=2^T.w)(p:t∈fs)(hl:l<2^T.w):(T.step t).getD l []∈fs/\(expl T fs).go (nOf fs t) l=nOf fs ((T.step t).getD l []):=by
 let a:l<(T.step t).length:=by rw[hs t<|h.good t p];show hl
 let q:(T.step t).getD l []=(T.step t)[l]:=by rw[y02,y00 a];rfl
 apply⟨?_,?_⟩
 .rw[q];show h.clo t (by rw[y0i<|y04 _];show p) _<|y0n a
 .change((fs.map λt=>(T.step t).map<|nOf fs).getD (nOf fs t) []).getD l 0=_;rw[y02,y02,y05,zc6 p,y1z,y0y,y05,y00 a,q];rfl
theorem znk(h:Fnd T Gq first fs fs.length)(hs:∀t,Gq t->(T.step t).length=2^T.w):∀(row:List Nat) {t:List Nat},t∈fs->(∀l∈row,l<2^T.w)->T.run t row∈fs/\(expl T fs).run (nOf fs t) row=nOf fs (T.run t row)
 |[],t,p,_=>⟨p,R⟩
 |l::row,t,p,L=>by
  let(Y,M):=zyc h hs p<|L l y0c;rw[Mc.run_cons,Thg.run_cons,M];show znk h hs row Y λx O=>L x<|y0a _ O
theorem zo3(h:Fnd T Gq first fs fs.length)(hs:∀t,Gq t->(T.step t).length=2^T.w)(row:List Nat)(L:∀l∈row,l<2^T.w):(expl T fs).fin ((expl T fs).run 0 row)=T.fin (T.run first row):=by
 let J:first∈fs:=y0l h.hd
 let E:nOf fs first=0:=by
  let e:=h.hd;cases fs with
  |nil=>simp at e
  |cons x r=>simp at e;subst e;simp[nOf]
 let(Y,M):=znk h hs row J L;rw[E]at M;rw[M,zve Y]
end
theorem news_snoc'{q:Type}[DecidableEq q](o xs:List q)(x:q):news o (xs++[x])=nxt (news o xs) x:=zf7 xs o x
theorem zhe{q:Type}[DecidableEq q]{o xs:List q}{i:Nat}{x:q}(h:xs[i]?=G x):news o (xs.take<|i+1)=nxt (news o<|xs.take i) x:=by rw[y1h,h,y24,news_snoc']
theorem zdy{q:Type}[DecidableEq q]:∀{xs ys:List q},xs.Nodup->(∀x∈xs,x∈ys)->xs.length<=ys.length
 |[],_,_,_=>y18 _
 |x::xs,ys,I,h=>by
  rw[y1u]at I;let O:=h x y0c;let:=zdy (ys:=ys.erase x) I.2 λy C=>(List.mem_erase_of_ne λe=>I.1<|by rw[←e];show C).mpr<|h y (y0a _ C);rw[y4t O]at this;let:=y4x O;rw[y0s];omega
def pairT(i m2:Mc)(A:Bool->Bool->Bool):Thg:=⟨i.w,λt=>((i.ways.getD (ix t 0) []).zip<|m2.ways.getD (ix t 1) []).map λp=>[p.1,p.2],λt=>A (i.fin<|ix t 0)<|m2.fin (ix t 1)⟩
def PairG(i m2:Mc)(t:List Nat):Prop:=∃a b,t=[a,b]/\a<i.n/\b<m2.n
def pairsL(i m2:Mc):List (List Nat):=(List.range i.n).flatMap λa=>(List.range m2.n).map λb=>[a,b]
theorem zoc(h:PairG i m2 t):t∈pairsL i m2:=by
 let(a,b,rfl,d,U):=h;show y3t.mpr ⟨a,y0z.mpr d,y0j.mpr ⟨b,y0z.mpr U,R⟩⟩
theorem zod(i m2:Mc):(pairsL i m2).length=i.n*m2.n:=by
 unfold pairsL
 induction i.n with
 |zero=>simp
 |succ n E=>rw[y3x,List.flatMap_append,y0d,E];simp[y50]
theorem zui(h:Fnd (pairT i m2 A) (PairG i m2) first fs k):fs.length<=i.n*m2.n:=by
 rw[←zod];show zdy h.nd λt p=>zoc<|h.good t p
section
variable {m1 m2:Mc}{op:Bool->Bool->Bool}
theorem zct{m:Mc}(ok:m.Ok)(L:r<m.n):∃line,m.ways[r]?=G line/\m.ways.getD r []=line/\line.length=2^m.w/\∀x∈line,x<m.n:=by
 let h:r<m.ways.length:=by rw[ok.len];show L
 show⟨m.ways[r],y00 h,by rw[y02,y00 h];rfl,ok.line _<|y0n h,ok.room _<|y0n h⟩
theorem zjp(D:m1.Ok)(v:m2.Ok)(j:m1.w=m2.w)(h:PairG m1 m2 t):((pairT m1 m2 op).step t).length=2^m1.w/\∀u∈(pairT m1 m2 op).step t,PairG m1 m2 u:=by
 let(a,b,rfl,d,U):=h;let(l1,_,J,I,r1):=zct D d;let(l2,_,g,c,l):=zct v U;change(((m1.ways.getD a []).zip<|m2.ways.getD b []).map λp=>[p.1,p.2]).length=_/\∀u∈((m1.ways.getD a []).zip<|m2.ways.getD b []).map λp=>[p.1,p.2],_;rw[J,g];apply⟨by rw[y01,List.length_zip,I,c,j,Nat.min_self],λu Y=>?_⟩;let((x,y),L,rfl):=y0j.mp Y;let:=y2d L;show⟨x,y,R,r1 x this.1,l y this.2⟩
theorem zm3(D:m1.Ok)(v:m2.Ok)(j:m1.w=m2.w):∀(row:List Nat) {a b:Nat},a<m1.n->b<m2.n->(∀l∈row,l<2^m1.w)->(pairT m1 m2 op).run [a,b] row=[m1.run a row,m2.run b row]
 |[],a,b,_,_,_=>rfl
 |l::row,a,b,d,U,L=>by
  let hl:=L l y0c;let(l1,f1,J,I,r1):=zct D d;let(l2,q,g,c,e):=zct v U;let Y:l<l1.length:=by rw[I];show hl
  let M:l<l2.length:=by rw[c,←j];show hl
  let r:((pairT m1 m2 op).step [a,b]).getD l []=[m1.go a l,m2.go b l]:=by
   change(((m1.ways.getD a []).zip<|m2.ways.getD b []).map λp=>[p.1,p.2]).getD l []=[(m1.ways.getD a []).getD l 0,(m2.ways.getD b []).getD l 0];rw[J,g,y02,y05,show(l1.zip l2)[l]?=G (l1[l],l2[l])from y4s.mpr ⟨y00 Y,y00 M⟩];rw[y02,y02,y00 Y,y00 M];rfl
  rw[Thg.run_cons,r,Mc.run_cons,Mc.run_cons];show zm3 D v j row (D.go_lt d hl) (v.go_lt U<|by rw[←j];show hl) λx O=>L x<|y0a _ O
end
open PySem PySem.Spec PyProof.Rows L2 SS
inductive zcx(vs:List V)(H:Hp)(Q:VK)(_E:XK):Prop
 |mk (b:Ad) (tl:List Str):(vs=[.ref b])->(H b=G (.lst<|tl.map V.str))->(tl.length<=4)->((∀z∈tl,z.length<=4))->(frameB (tl.map V.str)=N)->(∀H',Same H H'->Q .non H')->zcx vs H Q _E
def fcnt(row:List Nat)(k:Nat):Nat:=(row.filter λl=>l/2^k%2==1).length
def fitP(ps:List Nat)(row:List Nat):Bool:=ps.all λk=>fcnt row k==1
def psOf(bs:List Bool):List Nat:=(List.range bs.length).filter λk=>bs.getD k Fa
def bools:Nat->List (List Bool)
 |0=>[[]]
 |n+1=>(bools n).flatMap λl=>[Fa::l,N::l]
theorem zko:∀(bs:List Bool),bs∈bools bs.length
 |[]=>by simp[bools]
 |b::bs=>by
  let E:=zko bs;change b::bs∈(bools bs.length).flatMap λl=>[Fa::l,N::l];apply y3t.mpr ⟨bs,E,?_⟩;cases b<;>simp
theorem ps_lt(bs:List Bool):∀k∈psOf bs,k<bs.length:=λk D=>y0z.mp (y1i.mp D).1
def justM:Mc:=mM 1 [[0,1],[1,2],[2,2]] [Fa,N,Fa]
def anyM:Mc:=mM 0 [[0]] [N]
theorem zl0:justM.Ok:=by
 apply⟨by decide,by decide,by decide,by decide,?_,?_⟩
 .intro l hl;simp only[justM,y06,y0h,or_false]at hl;rcases hl with rfl|rfl|rfl<;>rfl
 .intro l hl r L;simp only[justM,y06,y0h,or_false]at hl;rcases hl with rfl|rfl|rfl<;>(simp only[y06,y0h,or_false]at L;change r<3;omega)
theorem zs6:anyM.Ok:=by
 apply⟨by decide,by decide,by decide,by decide,?_,?_⟩
 .intro l hl;simp only[anyM,y06,y0h,or_false]at hl;rw[hl];rfl
 .intro l hl r L;simp only[anyM,y06,y0h,or_false]at hl;rw[hl]at L;rw[y0b.mp L];decide
def bitN(t l:Nat):Nat:=l/2^t%2
theorem zx3:∀r,r<3->∀b,b<2->justM.go r b=min 2 (r+b):=by decide
theorem znc(t:Nat):∀(row:List Nat) (r:Nat),r<=2->justM.run r (row.map<|bitN t)=min 2 (r+fcnt row t)
 |[],r,L=>by change r=min 2 (r+0);omega
 |l::row,r,L=>by
  let U:bitN t l<2:=y46 _ 04;rw[y0r,Mc.run_cons,zx3 r 00 _ U,znc t row _ 00];let e:fcnt (l::row) t=bitN t l+fcnt row t:=by
   unfold fcnt bitN;by_cases h:(l/2^t%2==1)=N
   .rw[y2f (p:=λl=>l/2^t%2==1) h,y0s];let:=beq_iff_eq.mp h;omega
   .rw[y2g (p:=λl=>l/2^t%2==1) h];let Y:¬l/2^t%2=1:=λz=>h<|beq_iff_eq.mpr z;let:l/2^t%2<2:=y46 _ 04;omega
  rw[e];omega
theorem zu6:∀r,r<=2->justM.fin r=(r==1):=by decide
theorem zow(t:Nat)(row:List Nat):justM.fin (justM.run 0<|row.map (bitN t))=(fcnt row t==1):=by
 rw[znc t row 0 04,zu6 _ 00];by_cases h:fcnt row t=1
 .rw[h];rfl
 .rw[show(fcnt row t==1)=Fa by simp[h],show(min 2 (0+fcnt row t)==1)=Fa by rw[beq_eq_false_iff_ne];omega]
theorem zs5:∀row:List Nat,(∀l∈row,l=0)->anyM.run 0 row=0
 |[],_=>rfl
 |l::row,h=>by
  rw[Mc.run_cons,h l y0c];show zs5 row λx O=>h x<|y0a _ O
def sofar(bs:List Bool)(i:Nat):List Bool:=(List.range bs.length).map λk=>decide (k<i)&&bs.getD k Fa
theorem zci(bs:List Bool)(i:Nat):(sofar bs i).length=bs.length:=by simp[sofar]
theorem zb7(bs:List Bool)(i k:Nat)(D:k<bs.length):(sofar bs i).getD k Fa=(decide (k<i)&&bs.getD k Fa):=by
 unfold sofar;rw[y02,y05,y1p D];rfl
theorem zpu(bs:List Bool):sofar bs bs.length=bs:=by
 apply y2x (zci bs _) λk Y M=>?_;let:=zb7 bs bs.length k M;rw[Xg M,y1d,y02,y00 Y,y02,y00 M]at this;show this
theorem zii(bs:List Bool)(row:List Nat):fitP (psOf bs) row=N↔∀k,k<bs.length->bs.getD k Fa=N->fcnt row k=1:=by
 unfold fitP psOf;rw[y11];constructor
 .intro h k D U;show beq_iff_eq.mp<|h k (y1i.mpr ⟨y0z.mpr D,U⟩)
 .intro h k D;let(Y,M):=y1i.mp D;show beq_iff_eq.mpr<|h k (y0z.mp Y) M
theorem zr5(bs:List Bool)(row:List Nat):fitP (psOf<|sofar bs 0) row=N:=(zii _ _).mpr λk D U=>by
 rw[zci]at D;rw[zb7 bs 0 k D]at U;simp at U
theorem zr6(hi:i<bs.length)(U:bs.getD i Fa=N)(row:List Nat):fitP (psOf<|sofar bs (i+1)) row=(fitP (psOf<|sofar bs i) row&&(fcnt row i==1)):=by
 rw[y23,y07,zii,zii,zci,zci,beq_iff_eq];constructor
 .intro h;apply⟨λk D z=>h k D ?_,h i hi ?_⟩
  .rw[zb7 bs i k D,y07,decide_eq_true_eq]at z;rw[zb7 bs _ k D,y07,decide_eq_true_eq];show⟨by omega,z.2⟩
  .rw[zb7 bs _ i hi,y07,decide_eq_true_eq];show⟨by omega,U⟩
 .rintro⟨Y,M⟩ k D z;rw[zb7 bs _ k D,y07,decide_eq_true_eq]at z;by_cases c:k=i
  .rw[c];show M
  .exact Y k D (by rw[zb7 bs _ k D,y07,decide_eq_true_eq];show⟨by omega,z.2⟩)
theorem zr4(hi:i<bs.length)(U:bs.getD i Fa=Fa):sofar bs (i+1)=sofar bs i:=by
 apply y30 λk D=>?_;by_cases c:k=i
 .rw[c,U,y3a,y3a]
 .congr 1;show decide_eq_decide.mpr ⟨λz=>by omega,λz=>by omega⟩
theorem zgs(ok:m.Ok)(h:m.n=1):Canon m:=by
 apply⟨⟨λr l b L hl U f=>?_,λb U I=>?_⟩,λi j hi o _=>?_⟩
 .let:=ok.go_lt L hl;omega
 .omega
 .omega
theorem zd3(u x:List Nat)(k:Nat):fcnt (u++x) k=fcnt u k+fcnt x k:=by unfold fcnt;rw[y45,y0d]
def codeF(ps u:List Nat):Option (List Bool):=if ps.any (λk=>decide (2<=fcnt u k))=N then B else G ((List.range 4).map λk=>decide (k∈ps)&&(fcnt u k==1))
theorem zvm(ps u:List Nat):codeF ps u∈B::(bools 4).map G:=by
 unfold codeF;split
 .exact y0c
 .exact y0a _<|List.mem_map_of_mem (by simpa using zko ((List.range 4).map λk=>decide (k∈ps)&&(fcnt u k==1)))
theorem zkd(h:ps.any (λk=>decide (2<=fcnt u k))=N)(x:List Nat):fitP ps (u++x)=Fa:=by
 let(k,D,e):=y2i.mp h;let e:=of_decide_eq_true e;apply List.all_eq_false.mpr ⟨k,D,λz=>?_⟩;let z:=eq_of_beq z;rw[zd3]at z;omega
theorem zvn(L:∀k∈ps,k<4)(e:codeF ps u=codeF ps v)(x:List Nat):fitP ps (u++x)=fitP ps (v++x):=by
 unfold codeF at e;split at e
 .rename_i h;split at e
  .rename_i h';rw[zkd h,zkd h']
  .cases e
 .rename_i h;split at e
  .cases e
  .rename_i h';let e:=List.map_inj_left.mp<|Option.some.inj e;let f:∀{u:List Nat},¬ps.any (λk=>decide (2<=fcnt u k))=N->∀k∈ps,fcnt u k<2:=λh k D=>Nat.lt_of_not_le λz=>h<|y2i.mpr ⟨k,D,Xg z⟩;unfold fitP;rw[y23,y11,y11];let c:∀k∈ps,fcnt u k=fcnt v k:=λk D=>by
    let z:=e k<|y0z.mpr (L k D);rw[Xg D,y1d,y1d,y23,beq_iff_eq,beq_iff_eq]at z;let a:=f h k D;let b:=f h' k D;omega
   show⟨λg k D=>by rw[zd3,←c k D,←zd3];show g k D,λg k D=>by rw[zd3,c k D,←zd3];show g k D⟩
theorem zts{m:Mc}(o:m.Ord):∀r,r<m.n->∃u,m.Row u/\m.run 0 u=r:=λr=>by
 induction r using Nat.strongRecOn with
 |_ r E =>
  intro L;by_cases h:r=0
  .exact⟨[],.nil m,h.symm⟩
  .let(r',l,c,hl,e):=o.par r (Nat.pos_of_ne_zero h) L;let(u,D,a):=E r' c<|y21 c L;apply⟨u++[l],λx O=>?_,by rw[m.run_snoc,a,e]⟩;rcases y0v.mp O with O|O
   .exact D x O
   .rw[y0b.mp O];show hl
theorem zr3{bs:List Bool}(h:bs.length<=4){m:Mc}(c:Canon m)(t:∀row,m.Row row->m.fin (m.run 0 row)=fitP (psOf bs) row):m.n<=17:=by
 let Rq:=zts c.ord;let y:∀k∈psOf bs,k<4:=λk D=>y0p (ps_lt bs k D) h;letI f:=λr=>if h:r<m.n then Classical.choose (Rq r h)else[]
 let nd:((List.range m.n).map λr=>codeF (psOf bs)<|f r).Nodup:=nodup_map_on (λa d b U e=>by
  let d:=y0z.mp d;let U:=y0z.mp U;let k:∀r (L:r<m.n),m.Row (f r)/\m.run 0 (f r)=r:=λr L=>by
   change m.Row (dite _ _ _)/\m.run 0 (dite _ _ _)=r;rw[dif_pos L];show Classical.choose_spec<|Rq r L
  let w:∀r (L:r<m.n) x,m.Row x->m.fin (m.run r x)=fitP (psOf bs) (f r++x):=λr L x O=>by
   rw[←t _ λl hl=>(y0v.mp hl).elim ((k r L).1 l)<|O l];unfold Mc.run;rw[List.foldl_append];show congrArg (λz=>m.fin<|List.foldl m.go z x) (k r L).2.symm
  show c.dist a b d U λx O=>by rw[w a d x O,w b U x O,zvn y e]) List.nodup_range
 let:=zdy nd (ys:=B::(bools 4).map G) λx O=>by
  let(r,_,rfl):=y0j.mp O;show zvm _ _
 simpa[bools]using this
end SM
namespace L2
section
variable {X:Cx}{pins:Y2}{σ:St}
theorem Same.sqB{K:Frag}{H H':Hp}{l:Bool}{a:Ad}{xs:List V}(g:Same H H')(h:SqB K l H a xs):SqB K l H' a xs:=by
 cases l
 .exact g.seqT h
 .exact g.seq h
def PairsL(H:Hp)(xs ys:List V)(ps:List Ad):Prop:=∀(j:Nat) p,ps[j]?=G p->∃x y,xs[j]?=G x/\ys[j]?=G y/\H p=G (.tup [x,y])
abbrev LstAt(h:Heap)(S:Ad)(ps:List Ad)(c:Nat):Prop:=h.get? S=G {cls:=.type "list",dict:=B,data:=.seq (ps.map Va.ref).toArray c,slots:=#[]}
theorem zwm(al:xs.length=ys.length)(hn:xs.length<=1000)(D:jD z ti ro j1 j2 a b)(A:ir)(hh:A.in1.handled=B)(hS:S∉[z,ti,ro,j1,j2])(res:Va)(H0:Hp):
  ∀(k i:Nat) (s:ik) (H:Hp) (c:Nat) (ps:List Ad),xs.length-i=k->i<=xs.length->02 H s->Same H0 H->(∀c∈[S,z,ti,ro,j1,j2],FpOk X pins H c)->SqB X.K l1 H a xs->SqB X.K l2 H b ys->ZipG l1 l2 s.heap z ti ro j1 j2 a b i->LstAt s.heap S ps c->ps.length=i->PairsL H xs ys ps->
  (∀s' H' ps' c',02 H' s'->Same H0 H'->FpOk X pins H' S->LstAt s'.heap S ps' c'->ps'.length=xs.length->PairsL H' xs ys ps'->Rq (.ok<|.ret res) s')->
  iY 06 A (.builtin "list.extend.loop" ⟨[.ref S,.ref z,res],[]⟩) Rq s:=by
 intro k
 induction k with
 |zero =>
  intro i s H c ps hk hi I g T d U Z hL hl L hR;let d7:i=xs.length:=by omega
  let(fh,r1,p1):=I.sq d;let(bf,l,r):=I.sq U;let l1:=r1.length;apply iF F.entry_extend_loop ?_;rw[Around.under_plainId F.plain_extend_loop _];change wpAny _ A.in1 (jy (.ref z)>>=_) _ _ s;apply ig<|zvq hh D Z p1 (by simp;omega) λh' kk=>?_;show ii<|hR _ H ps c (I.turnedL (t':=s.toks) kk λb U=>T b<|y0a _ U) g (T S<|y0c ..) (kk _ _ hS hL) 00 L
 |succ k E =>
  intro i s H c ps hk hi I g T d U Z hL hl L hR;let f:i<xs.length:=by omega
  let fw:i<ys.length:=by omega
  let(fh,r1,p1):=I.sq d;let(bf,l,r):=I.sq U;let(u,hu,ru):=r1.get<|y00 f;let(v,hv,rv):=l.get<|y00 fw;apply iF F.entry_extend_loop ?_;rw[Around.under_plainId F.plain_extend_loop _];change wpAny _ A.in1 (jy (.ref z)>>=_) _ _ s;apply ig<|zpe D Z p1 r (x:=u) (y:=v) (by simpa using hu) (by simpa using hv) λY Z1 w sz1 kk=>?_;let hS':=kk _ _ hS hL;let Slt:S<s.heap.objs.size:=y0e hL;change wpAny _ A.in1 (jU S (·.push (.ref s.heap.objs.size))>>=_) _ _ _;apply ig ?_;apply jf hS' R (ii ⟨iX F.plain_extend_loop _,?_⟩) (by have:=small1000 (n:=ps.length) 00;simp;show y1x this) (by have:=small1000 (n:=ps.length) 00;simp;show y1x this);let oth:∀c o,c≠S->Y.get? c=G o->(Y.update S (Obj.mapSeq (·.push (.ref s.heap.objs.size)))).get? c=G o:=λc o C e=>(y1f _ _<|Ne.symm C).trans e;let hSn:=y1j (Obj.mapSeq (·.push (.ref s.heap.objs.size))) hS' rfl;generalize Y.update S (Obj.mapSeq (·.push (.ref s.heap.objs.size)))=M at oth hSn;let zS:∀c∈[z,ti,ro,j1,j2],c≠S:=λc C e=>hS<|e▸C;let kz:jN M s.heap.objs.size u v:=oth _ _ (y2a Slt) w;let Z2:ZipG l1 l2 M z ti ro j1 j2 a b (i+1):=Z1.move λc C o e=>oth c o (zS c C) e;let k2:∀c o,c∉[S,z,ti,ro,j1,j2]->s.heap.get? c=G o->M.get? c=G o:=λc o C e=>oth c o (λq=>C<|by simp[q])<|kk c o (λq=>C<|y0a _ q) e;let there:∀c∈[S,z,ti,ro,j1,j2],∃o,M.get? c=G o:=λc C=>by
   rcases y06.mp C with rfl|C
   .exact⟨_,hSn⟩
   .exact let⟨o,e,_⟩:=Z2.there c C;⟨o,e⟩
  let O:02 (upd H s.heap.objs.size<|.tup [xs[i],ys[i]]) {s with heap:=M,toks:=s.toks}:=I.turnedNew k2 T (y04 _) ⟨zah (by simp),[u,v],.cons ru<|.cons rv .nil,⟨_,kz,R,_,R⟩⟩ there;let ag:H s.heap.objs.size=B:=I.hok.fresh<|y04 _;let g2:Same H (upd H s.heap.objs.size<|.tup [xs[i],ys[i]]):=za4 ag _;let hlt':∀c∈[S,z,ti,ro,j1,j2],c≠s.heap.objs.size:=λc C=>by
   rcases y06.mp C with rfl|C
   .exact y0o Slt
   .exact y0o<|Z.lt C
  apply E (i+1) _ _ (c+1) (ps++[s.heap.objs.size]) 00 00 O (g.trans g2) (λc C=>?_) (g2.sqB d) (g2.sqB U) Z2 (by change M.get? S=_;rw[hSn];simp[Obj.mapSeq]) (by simp[hl]) (λj p ej=>?_) hR
  .let(f0,f1,f2,f3,f4,f5):=T c C;show⟨by rw[zak<|hlt' c C];show f0,f1,f2,f3,f4,f5⟩
  .by_cases hj:j<ps.length
   .rw[y15 hj]at ej;let(x,y,J,e2,Q):=L j p ej;show⟨x,y,J,e2,g2 _ _ Q⟩
   .let hj2:j<(ps++[s.heap.objs.size]).length:=(y09.mp ej).1;rw[y0d,y0q]at hj2;let e:j=ps.length:=by omega
    subst e;rw[y1b<|y04 _,y51]at ej;injection ej with ej
    subst ej;rw[hl];show⟨_,_,y00 f,y00 fw,zar⟩
theorem Inv.take(I:02 H s)(f:FpOk X pins H a)(E:X.s₀.heap.get? a=B)(new:ObjOk X.prog X.w (upd H a o) s.heap a o):02 (upd H a o) s:=by
 let(d,i,_,_,j,L):=f;let up:∀b u,H b=G u->upd H a o b=G u:=λb u e=>by rw[zak λz=>by rw[z,d]at e;cases e];show e
 apply⟨I.ok,I.os,I.bare,⟨I.base.keep,I.base.slot,λb ob e k O=>?_,I.base.there,λb xs e=>up _ _<|I.base.tups b xs e,λb ob u e=>up _ _<|I.base.frzs b ob u e,λb qs ps e=>up _ _<|I.base.tbls b qs ps e⟩,I.loc,I.cell,by rw[zak<|Ne.symm i];show I.free,λx c e=>by rw[zak<|j x c e];show I.freeC x c e,λp g=>?_,λb u e=>?_,I.len⟩
 .rw[zak λz=>by rw[z,E]at e;cases e];show I.base.free b ob e k O
 .let(e,k,r):=I.pin p g;show⟨e,by rw[zak<|L p g];show k,r⟩
 .by_cases U:b=a
  .subst U;rw[zar]at e;cases e;show new
  .rw[zak U]at e;show(I.hok b u e).stay (λ_ _ _ q=>q) (λc q=>up c _ q) (λc _ _ _ _ q=>up c _ q) λc xs q=>up c _ q
theorem znu:jw (.type "zip") "__len__"=pure B:=by rw[j0,jh];kernel_rfl
theorem zkt:jw (.type "zip") "__length_hint__"=pure B:=by rw[j0,jh];kernel_rfl
theorem zji:∀(ps:List Ad),Vals (ps.map V.ref) (ps.map Va.ref)
 |[]=>.nil
 |_::ps=>.cons R<|zji ps
theorem zis(C:X.calm=N)(l:xs.length=ys.length)(hn:xs.length<=1000)(D:jD z ti ro j1 j2 a b)(I:02 H s)(T:∀c∈[z,ti,ro,j1,j2],FpOk X pins H c)(d:SqB X.K l1 H a xs)(U:SqB X.K l2 H b ys)
  (zf:IsZip s.heap z ti ro .none) (Z:ZipG l1 l2 s.heap z ti ro j1 j2 a b 0) (q:∀L ps H',H L=B->Same H H'->H' L=G (.lst<|ps.map V.ref)->ps.length=xs.length->PairsL H' xs ys ps->Q (.ref L) H') :
  wpAny 06 X.A (call (.type "list") [.ref z]) (EP X pins σ Q) X.xe s:=by
 let hSf:s.heap.objs.size∉[z,ti,ro,j1,j2]:=λhm=>y1g _<|Z.lt hm;apply callType_codes (Q₁:=λobj s₁=>obj=.ref s.heap.objs.size/\s₁={s with heap:=s.heap.push {cls:=.type "list",data:=.seq #[]} }) F.called_list (F.typeCall_list_1 _) F.entry_list_init
  (code_list_new _ ⟨R,R⟩) λobj s₁ h₁=>?_
 let(rfl,rfl):=h₁;let hS:(s.heap.push {cls:=.type "list",data:=.seq #[]}).get? s.heap.objs.size=G {cls:=.type "list",data:=.seq #[]}:=y0f _ rfl;let kp:∀c o,s.heap.get? c=G o->(s.heap.push {cls:=.type "list",data:=.seq #[]}).get? c=G o:=λc o e=>y03 _ e;let E:X.s₀.heap.get? s.heap.objs.size=B:=by
  cases e:X.s₀.heap.get? s.heap.objs.size with
  |none=>rfl
  |some o=>show Xa (y0e e)<|Nat.not_lt.mpr I.sz
 let fS:FpOk X pins H s.heap.objs.size:=I.fpOk (y04 _)<|I.hok.fresh (y04 _);generalize s.heap.objs.size=S at *;generalize s.heap.push {cls:=.type "list",data:=.seq #[]}=hp at hS kp;let I1:02 H {s with heap:=hp,toks:=s.toks}:=I.kept kp;apply⟨⟨_,hS,R⟩,F.args_list_init_2 _ _,?_⟩;change wpAny _ X.A.in1.in1 (do let old ←Builtin.List.listItems (.ref S);Builtin.List.listUpdate (.ref S) (λ_=>#[]);letGo old.toList.reverse;Builtin.List.listExtendWith (.ref S) (.ref z) .none) _ _ _;let zS:z≠S:=λe=>hSf (by simp[e]);apply ig ?_;unfold Builtin.List.listItems;apply ig<|iE hS R (ii ?_);change wpAny _ X.A.in1.in1 (jU S (λ_=>#[])>>=λ_=>letGo (#[]:Array Va).toList.reverse>>=λ_=>Builtin.List.listExtendWith (.ref S) (.ref z) .none) _ _ _;apply ig<|jf hS R ?_;let i:=y1j (Obj.mapSeq λ_=>(#[]:Array Va)) hS rfl;let oth:∀b o,b≠S->hp.get? b=G o->(hp.update S<|Obj.mapSeq (λ_=>(#[]:Array Va))).get? b=G o:=λb o U e=>(y1f _ _<|Ne.symm U).trans e;apply ig<|lg ?_;generalize hp.update S (Obj.mapSeq λ_=>(#[]:Array Va))=M at i oth;let z2:IsZip M z ti ro .none:=oth _ _ zS<|kp _ _ zf;let hT:Shared.TypeIs {s with heap:=M} (.ref z) "zip":=⟨_,z2,R⟩;unfold Builtin.List.listExtendWith;apply ig<|js hT ?_;let J:Builtin.List.listSameRef (.ref S) (.ref z)=Fa:=by simp[Builtin.List.listSameRef,Ne.symm zS]
 let g:(Va.type "zip"==Va.type "list")=Fa:=by decide
 let e3:(Va.type "zip"==Va.type "tuple")=Fa:=by decide
 simp only[J,g,e3,Bool.or_false,y3n,if_false];apply ig<|wpAny_pyIter_zip z2 ?_;apply ig<|iu ?_;unfold Builtin.List.listLengthHint;apply ig<|je hT znu ?_;change wpAny _ X.A.in1.in1 (specialOf (Va.ref z) (Str.ofString "__length_hint__")>>=_) _ _ _;apply ig<|je hT zkt ?_;apply ii ?_;change wpAny _ X.A.in1.in1 (rule "list.extend.makes-room">>=λ_=>Builtin.List.listTouch (.ref S)>>=λ_ =>
  again (.builtin "list.extend.loop" ⟨[.ref S,.ref z,.none],[]⟩)) _ _ _
 apply ig<|jd ?_;apply ig ?_;change wpAny _ X.A.in1.in1 (jU S (·.push .none)>>=λ_=>jU S (·.pop)) _ _ _;apply ig<|jf i R ?_;let w:=y1j (Obj.mapSeq (·.push Va.none)) i rfl;apply jf (hz:=by seq_fits) w R ?_;let u:=y1j (Obj.mapSeq (·.pop)) w rfl;let Y:∀b o,b≠S->M.get? b=G o->((M.update S (Obj.mapSeq (·.push Va.none))).update S (Obj.mapSeq (·.pop))).get? b=G o :=
  λb o U e=>(y1f _ _<|Ne.symm U).trans<|(y1f _ _<|Ne.symm U).trans e
 generalize(M.update S (Obj.mapSeq (·.push Va.none))).update S (Obj.mapSeq (·.pop))=h3 at u Y;let keep:∀b o,b≠S->s.heap.get? b=G o->h3.get? b=G o:=λb o U e=>Y b o U<|oth b o U (kp b o e);let I3:02 H {s with heap:=h3,toks:=s.toks}:=I.turnedL (L:=[S]) (λb o U e=>keep b o (λz=>U<|by simp[z]) e) λb U=>by rw[y0b.mp U];show fS
 let Z3:ZipG l1 l2 h3 z ti ro j1 j2 a b 0:=Z.move λc C o e=>keep c o (λq=>hSf<|q▸C) e;apply ii ⟨iX F.plain_extend_loop _,zwm l hn D X.A.in1 (I.ok.hd C) hSf .none H xs.length 0 _ H _ [] R (y18 _) I3 (Same.refl _) (λc C=>?_) d U Z3 u R (λj p e=>by simp at e) λs' H' f c' r g' f' A hl hp'=>?_⟩
 .rcases y06.mp C with rfl|C
  .exact fS
  .exact T c C
 .refine⟨R,.ref S,upd H' S<|.lst (f.map V.ref),r.take f' E ⟨by rw[y01];show zah 00,_,c',zji f,A⟩,R,?_⟩;let g2:Same H' (upd H' S<|.lst (f.map V.ref)):=za4 f'.1 _;show q S f _ fS.1 (g'.trans g2) zar hl λj p e=>by
   let(x,y,a1,v,O):=hp' j p e;show⟨x,y,a1,v,g2 _ _ O⟩
end
def tListZipB(K:Frag)(l1 l2:Bool)(A:TA):TE:=λσ H Q=>A σ H λvs H1=>∃a b xs ys,vs=[.ref a,.ref b]/\SqB K l1 H1 a xs/\SqB K l2 H1 b ys/\xs.length=ys.length/\xs.length<=1000/\
 ∀L ps H',H1 L=B->Same H1 H'->H' L=G (.lst<|ps.map V.ref)->ps.length=xs.length->PairsL H' xs ys ps->Q (.ref L) H'
theorem zjm(C:X.calm=N)(E:Gl X "list")(o:X.mg "list"=B)(z:Gl X "zip")(y:X.mg "zip"=B)(d:PA X [a,b] J)(Y:notStar a=N)(M:notStar b=N):
  PE X (.Call (.Name "list" p) [.Call (.Name "zip" r) [a,b] [] g] [] pos) (tListZipB X.K l1 l2 J):=by
 intro pins s σ H Q I h;let x:iq [b] X.env=[(Fa,eval b X.env)]:=by rw[zat M,starEach.eq_def]
 let hz:iq [.Call (.Name "zip" r) [a,b] [] g] X.env=[(Fa,eval (.Call (.Name "zip" r) [a,b] [] g) X.env)]:=by rw[zat R,starEach.eq_def]
 apply Call_<|zd1 I E o boot_list (PyProof.Rows.callWith_type1 ?_ hz R);rw[hz];apply Calls.spliced_cons<|iy (Call_<|zd1 I z y boot_zip (PyProof.Rows.callWith_type1 (thn (d g pins s σ H _ I h) λus s1 zz=>ex5 zz λvs H1 I1 r1 w=>?_) (by rw[star2 Y M,x])<|by rw[x];rfl)) (λv s2 A=>Calls.spliced_nil A) λ_ _ e=>e;let(L,U,xs,ys,e,O,hy,l,hn,q):=w;subst e;let(u,v,rfl,D,T):=vals2 r1;cases(show u=Va.ref L from D);cases(show v=Va.ref U from T);let(fh,_,j):=I1.sq O;let(f,_,i):=I1.sq hy;show zpd j i λh' zf Z sz k=>zis C l hn (zipApart_new j.lt i.lt) (I1.kept (t':=s1.toks) k) (λc C=>I1.fpOk (zle C)<|I1.hok.fresh (zle C)) O hy zf Z q
def tListZip(K:Frag)(A:TA):TE:=λσ H Q=>A σ H λvs H1=>∃a b xs ys,vs=[.ref a,.ref b]/\SqT K H1 a xs/\SqT K H1 b ys/\xs.length=ys.length/\xs.length<=1000/\
 ∀L ps H',H1 L=B->Same H1 H'->H' L=G (.lst<|ps.map V.ref)->ps.length=xs.length->PairsL H' xs ys ps->Q (.ref L) H'
theorem zlj{X:Cx}{a b:Expr}{A:TA}{p r pos g:Pos}(C:X.calm=N)(E:Gl X "list")(o:X.mg "list"=B)(z:Gl X "zip")(y:X.mg "zip"=B)(d:PA X [a,b] A)(Y:notStar a=N:=by rfl)(M:notStar b=N:=by rfl):
  PE X (.Call (.Name "list" p) [.Call (.Name "zip" r) [a,b] [] g] [] pos) (tListZip X.K A):=zjm (l1:=Fa) (l2:=Fa) C E o z y d Y M
end L2
namespace SM
open PySem PySem.Spec PyProof.Rows L2 SS
def zfq:Sp:=λvs H Q _=>∃(a b:Ad) (U:List V) (ls fs:List<|List Nat),vs=[.ref a,.ref b]/\H a=G (.lst U)/\i4 (Line H) U ls/\ls.length<=16/\H b=G (.dT<|tabF keyL 0 fs)/\(∀l∈ls,l∈fs)/\∀p H',Same H H'->H' p=G (.tup<|(ls.map<|nOf fs).map nV)->Q (.ref p) H'
def zcy(Rq:Hp->Prop)(T:Thg)(Gq:List Nat->Prop):Sp:=λvs H Q _=>∃(a:Ad) (t:List Nat),vs=[.ref a]/\Rq H/\H a=G (.tup<|t.map nV)/\Gq t/\∀D U H',H D=B->Same H H'->H' D=G (.lst U)->i4 (Line H') U (T.step t)->Q (.ref D) H'
def zfe(Rq:Hp->Prop)(T:Thg)(Gq:List Nat->Prop):Sp:=λvs H Q _=>∃(a:Ad) (t:List Nat),vs=[.ref a]/\Rq H/\H a=G (.tup<|t.map nV)/\Gq t/\∀H',Same H H'->Q (.bl<|T.fin t) H'
def zfh(A:Bool->Bool->Bool):Sp:=λvs H Q _=>∃a b:Bool,vs=[.bl a,.bl b]/\Q (.bl<|A a b) H
def EndsK(K:Frag)(H:Hp)(c:Ad)(bs:List Bool):Prop:=H c=G (.tup<|bs.map V.bl)\/∀H',SqT K H' c<|bs.map V.bl
theorem EndsK.sq{K:Frag}{H:Hp}{c:Ad}{bs:List Bool}(h:EndsK K H c bs):SqT K H c (bs.map V.bl):=h.elim .of λz=>z H
theorem EndsK.ts{K:Frag}{H H':Hp}{c:Ad}{bs:List Bool}(h:EndsK K H c bs)(g:TupS H H'):EndsK K H' c bs:=h.imp (g _ _) id
def RepMK(K:Frag)(H:Hp)(a:Ad)(m:Mc):Prop:=∃(b c:Ad) (U:List V),H a=G (.tup [nV m.w,.ref b,.ref c])/\H b=G (.tup U)/\i4 (Line H) U m.ways/\EndsK K H c m.ends
theorem RepM.k{K:Frag}{H:Hp}{a:Ad}{m:Mc}(h:RepM H a m):RepMK K H a m:=let⟨b,c,U,Y,M,C,h4⟩:=h;⟨b,c,U,Y,M,C,.inl h4⟩
theorem RepMK.ts{K:Frag}{H H':Hp}{a:Ad}{m:Mc}(h:RepMK K H a m)(g:TupS H H'):RepMK K H' a m:=by
 let(b,c,U,Y,M,C,h4):=h;show⟨b,c,U,g _ _ Y,g _ _ M,L2.Paired.mapP C λ_ _ z=>z.ts g,h4.ts g⟩
theorem RepMK.same{K:Frag}{H H':Hp}{a:Ad}{m:Mc}(h:RepMK K H a m)(g:Same H H'):RepMK K H' a m:=h.ts g.tups
def CMach(K:Frag)(a:Ad)(m:Mc):Prop:=∃(b c:Ad) (ls:List Ad),(∀H,SqT K H a [nV m.w,.ref b,.ref c])/\(∀H,SqT K H b<|ls.map V.ref)/\i4 (λl line=>∀H,SqT K H l<|line.map nV) ls m.ways/\∀H,SqT K H c<|m.ends.map V.bl
theorem cm_mk{K:Frag}{h:Heap}{m:Mc}{ls:List Ad}(X:K.In h)(Gq:h.Ns iz mg)(a:PySem.W.nsIn K iz x=G (G<|.ref p))(L:∀H,SqT K H p [nV m.w,.ref b,.ref c])(U:∀H,SqT K H b<|ls.map V.ref)(hl:i4 (λl line=>∀H,SqT K H l<|line.map nV) ls m.ways)(C:∀H,SqT K H c<|m.ends.map V.bl):∃q,GlV mg x (.ref q)/\CMach K q m :=
 ⟨p,⟨.ref p,PySem.W.mg_of X Gq a,R⟩,b,c,ls,L,U,hl,C⟩
def zeu(K:Frag):Sp:=λvs H Q _=>∃(a b:Ad) (l line:List Nat),vs=[.ref a,.ref b]/\H a=G (.lst<|l.map nV)/\l.length<=32/\(∀H',SqT K H' b<|line.map nV)/\(∀x∈l,x<line.length)/\
 ∀p H',Same H H'->H' p=G (.tup<|(l.map λx=>line.getD x 0).map nV)->Q (.ref p) H'
def zed(K:Frag):Sp:=λvs H Q _=>∃(a b:Ad) (m:Mc) (ts:List Nat) (W:Nat) (f:Nat->Nat),vs=[.ref a,.ref b,nV W]/\CMach K a m/\m.Ok/\H b=G (.lst<|ts.map nV)/\ts.length<=5/\(∀t∈ts,t<=4)/\W<=4/\
 (∀l:Nat,l<2^W->loI (l:Int) ts 0=(f l:Int)/\f l<2^m.w)/\∀p H',Same H H'->RepMK K H' p (sprd m f W)->Q (.ref p) H'
def zk1(K:Frag)(u:Ad)(d:Y3)(o:Ad)(e:Y3)(J:Ad)(f:Y3)(A:Bool->Bool->Bool):Sp:=λvs H Q _=>∃(a b:Ad) (i m2:Mc),
 vs=[.ref a,.ref b]/\TabOk H u d/\TabOk H o e/\TabOk H J f/\RepMK K H a i/\RepMK K H b m2/\i.Ok/\m2.Ok/\i.w=m2.w/\i.n*m2.n<=100/\
 ∀p O H',Same H H'->RepM H' p O->O.Ok->O.w=i.w->Canon O->(∀row,i.Row row->O.fin (O.run 0 row)=A (i.fin<|i.run 0 row) (m2.fin<|m2.run 0 row))->Q (.ref p) H'
def bsOf(names:List Str):List Bool:=names.map isP
structure FitR(names:List Str)(m:Mc):Prop where
 ok:m.Ok
 canon:Canon m
 w:m.w=names.length
 takes:∀row,m.Row row->m.fin (m.run 0 row)=fitP (psOf<|bsOf names) row
def zff(K:Frag)(u:Ad)(d:Y3)(o:Ad)(e:Y3)(J:Ad)(f:Y3):Sp:=λvs H Q _=>∃(a:Ad) (names:List Str),vs=[.ref a]/\TabOk H u d/\TabOk H o e/\TabOk H J f/\H a=G (.lst<|names.map V.str)/\FrOk names/\
 ∀p m H',Same H H'->RepMK K H' p m->FitR names m->Q (.ref p) H'
theorem bit_lo:∀t,t<4->∀l:Nat,l<16->loI (l:Int) [t] 0=(bitN t l:Int):=by decide+kernel
theorem zyi(h:names[i]?=G z):(bsOf names).getD i Fa=isP z:=by
 unfold bsOf;rw[y02,y05,h];rfl
theorem znr(names:List Str):(bsOf names).length=names.length:=y01 _
def eachM:Mc:=mM 2 [[0,1,0,0],[1,1,1,1]] [N,Fa]
def aheadM:Mc:=mM 2 [[0,1,2,2],[1,1,1,1],[2,2,2,2]] [Fa,N,Fa]
def nextM:Mc:=mM 2 [[0,1,3,3],[3,3,2,2],[2,2,2,2],[3,3,3,3]] [Fa,Fa,N,Fa]
def ruleM(wd:Str):Mc:=if wd="ahead" then aheadM else if wd="next" then nextM else eachM
def ruleW(wd:Str):Str:=if wd="ahead" then "ahead" else if wd="next" then "next" else "within"
def seen2(i j c:Nat):Nat:=(bit c i).toNat+2*(bit c j).toNat
theorem zvf:eachM.Ok:=⟨by decide,by decide,by decide,by decide,by decide,by decide⟩
theorem zta:aheadM.Ok:=⟨by decide,by decide,by decide,by decide,by decide,by decide⟩
theorem zu0:nextM.Ok:=⟨by decide,by decide,by decide,by decide,by decide,by decide⟩
theorem ztr(wd:Str):(ruleM wd).Ok/\(ruleM wd).w=2/\(ruleM wd).n<=4:=by
 unfold ruleM;split
 .exact⟨zta,R,by decide⟩
 .split
  .exact⟨zu0,R,by decide⟩
  .exact⟨zvf,R,by decide⟩
theorem ztn(i j c:Nat):seen2 i j c<4:=by unfold seen2;cases bit c i<;>cases bit c j<;>decide
theorem zto{i j c:Nat}(hi:i<4)(o:j<4)(C:c<16):loI (c:Int) [i,j] 0=(seen2 i j c:Int):=by
 let h:∀(i j:Fin 4) (c:Fin 16),loI ((c.val:Nat):Int) [i.val,j.val] 0=((seen2 i.val j.val c.val:Nat):Int):=by decide+kernel
 show h ⟨i,hi⟩ ⟨j,o⟩ ⟨c,C⟩
def bstB(wd:Str)(l:Nat)(u A:Bool):Nat:=if l<=1 then l else if l=2 then bst wd 2 u A else bst wd 3 A A
theorem sim{m:Mc}{wd:Str}{rel:List (Nat×Nat)}(hs:∀p∈rel,∀u A:Bool,(m.go p.1<|u.toNat+2*A.toNat,bstB wd p.2 u A)∈rel){i j:Nat}:∀(row:List Nat) (s l:Nat),(s,l)∈rel->(m.run s<|row.map (seen2 i j),brun wd i j l row)∈rel
 |[],s,l,h=>h
 |c::r,s,l,h=>by
  rw[y0r,Mc.run_cons,zsz];show sim hs r _ _<|hs (s,l) h (bit c i) (bit c j)
theorem ztq(wd:Str)(i j:Nat)(row:List Nat):(ruleM wd).fin ((ruleM wd).run 0<|row.map (seen2 i j))=aend (ruleW wd) (brun (ruleW wd) i j 2 row):=by
 unfold ruleM ruleW;split
 .let z:=sim (m:=aheadM) (wd:="ahead") (rel:=[(0,2),(1,1),(2,0)]) (by decide+kernel) (i:=i) (j:=j) row 0 2 04;let f:∀p∈([(0,2),(1,1),(2,0)]:List<|Nat×Nat),aheadM.fin p.1=aend "ahead" p.2:=by decide+kernel
  show f _ z
 .split
  .let z:=sim (m:=nextM) (wd:="next") (rel:=[(0,2),(1,3),(2,1),(3,0)]) (by decide+kernel) (i:=i) (j:=j) row 0 2 04;let f:∀p∈([(0,2),(1,3),(2,1),(3,0)]:List<|Nat×Nat),nextM.fin p.1=aend "next" p.2:=by decide+kernel
   show f _ z
  .let z:=sim (m:=eachM) (wd:="within") (rel:=[(0,2),(1,0)]) (by decide+kernel) (i:=i) (j:=j) row 0 2 04;let f:∀p∈([(0,2),(1,0)]:List<|Nat×Nat),eachM.fin p.1=aend "within" p.2:=by decide+kernel
   show f _ z
structure BareM(tl:List Str)(wd:Str)(i j:Nat)(m:Mc):Prop where
 ok:m.Ok
 canon:Canon m
 w:m.w=tl.length
 fin:∀row,m.Row row->m.fin (m.run 0 row)=(aend (ruleW wd) (brun (ruleW wd) i j 2 row)&&fitP (psOf<|bsOf tl) row)
def zpq(K:Frag):Sp:=λvs H Q _=>∃wd:Str,vs=[.str wd]/\∀p,CMach K p (ruleM wd)->Q (.ref p) H
theorem zs3(Bq:BareM tl wd i j M)(d:BareM tl wd i j M'):M=M':=by
 apply zd6 (by rw[Bq.w,d.w]) Bq.ok d.ok Bq.canon d.canon λrow L=>?_;rw[Bq.fin row L,d.fin row λc C=>by rw[d.w,←Bq.w];show L c C]
end SM
namespace L2
def Itv(K:Frag)(a:Ad)(n:Nat):It :=
 ⟨λi H=>i<n/\∃xs x,SqL K H a xs/\xs[n-1-i]?=G x,λi H x H'=>H'=H/\∀xs,SqL K H a xs->xs[n-1-i]?=G x,λi H=>n=i⟩
def iRev(K:Frag)(A:TA):TI:=λσ H Rq=>A σ H λvs H1=>∃a,vs=[.ref a]/\∃xs,SqL K H1 a xs/\Rq (Itv K a xs.length) H1
open PySem
abbrev Rise(xs:Array Nat):Prop:=xs.toList.Pairwise (· < ·)
theorem zh4(h:Rise xs)(r:i<j)(o:j<xs.size):xs.getD i 0<xs.getD j 0:=by
 let:=y2s.mp h i j (by simpa using y21 r o) (by simpa using o) r;simp only[Array.getElem_toList]at this;rw[Array.getD,Array.getD,dif_pos<|y21 r o,dif_pos o];show this
theorem ziw(h:Rise xs)(j:Nat):∀(a lo hi:Nat),lo<=hi->hi<=xs.size->hi-lo<=a->(∀i,i<lo->xs.getD i 0<j)->(∀i,hi<=i->i<xs.size->j<=xs.getD i 0)->
  SetTable.below.go xs j a lo hi<=xs.size/\(∀i,i<SetTable.below.go xs j a lo hi->xs.getD i 0<j)/\∀i,SetTable.below.go xs j a lo hi<=i->i<xs.size->j<=xs.getD i 0
 |0,lo,hi,Y,M,C,h4,T=>by
  let e:lo=hi:=by omega
  unfold SetTable.below.go;show⟨by omega,h4,λi d=>T i 00⟩
 |a+1,lo,hi,Y,M,C,h4,T=>by
  unfold SetTable.below.go;by_cases c:lo<hi
  .rw[Xq c];let J:(lo+hi)/2<xs.size:=by omega
   let e:xs.getD ((lo+hi)/2) j=xs.getD ((lo+hi)/2) 0:=by rw[Array.getD,Array.getD,dif_pos J,dif_pos J]
   change _/\_/\_;simp only;by_cases U:xs.getD ((lo+hi)/2) j<j
   .rw[Xq U];apply ziw h j a ((lo+hi)/2+1) hi 00 M 00 (λi d=>?_) T;by_cases f:i=(lo+hi)/2
    .rw[f,←e];show U
    .exact y21 (zh4 h (j:=(lo+hi)/2) 00 J) (by rw[←e];show U)
   .rw[Xp U];apply ziw h j a lo ((lo+hi)/2) 00 00 00 h4 λi d hs=>?_;by_cases f:i=(lo+hi)/2
    .rw[f,←e];omega
    .let:=zh4 h (i:=(lo+hi)/2) (j:=i) 00 hs;rw[e]at U;omega
  .rw[Xp c];show⟨by omega,h4,λi d=>T i 00⟩
theorem zet(h:Rise xs)(j:Nat):SetTable.below xs j<=xs.size/\(∀i,i<SetTable.below xs j->xs.getD i 0<j)/\∀i,SetTable.below xs j<=i->i<xs.size->j<=xs.getD i 0 :=
 ziw h j xs.size 0 xs.size (y18 _) (y04 _) 00 (λi hi=>Xa hi<|y2n _) λi Y M=>by omega
theorem zpb(h:Rise xs)(hi:i<xs.size):SetTable.below xs (xs.getD i 0+1)=i+1:=by
 let(Y,M,C):=zet h<|xs.getD i 0+1;by_cases c:SetTable.below xs (xs.getD i 0+1)<=i
 .let:=C i c hi;omega
 .by_cases U:SetTable.below xs (xs.getD i 0+1)=i+1
  .exact U
  .let:=M (i+1) 00;let:=zh4 h (i:=i) (j:=i+1) 00 00;omega
theorem zpa(h:Rise xs):SetTable.below xs 0=0:=by
 let(Y,M,C):=zet h 0;by_cases c:SetTable.below xs 0=0
 .exact c
 .let:=M 0 00;omega
theorem zig(xs:Array q)(p:Nat)(x:q):(SetTable.insertAt xs p x).toList=xs.toList.take p++x::xs.toList.drop p:=by
 unfold SetTable.insertAt;rw[y1e,y2q,y1s,y1s];simp;show y0i (by simp)
theorem zld(h:Rise xs)(o:xs[SetTable.below xs j]? ≠ G j):Rise (SetTable.insertAt xs (SetTable.below xs j) j):=by
 let(Y,M,Q):=zet h j;change(SetTable.insertAt xs (SetTable.below xs j) j).toList.Pairwise (· < ·);rw[zig];generalize SetTable.below xs j=p at *;let at':∀i (hi:i<xs.size),xs.getD i 0=xs.toList[i]'(by simpa using hi):=λi hi=>by rw[Array.getD,dif_pos hi];simp
 let f:∀i,p<=i->i<xs.size->j<xs.getD i 0:=λi L hi=>by
  let v:=Q i L hi;by_cases c:i=p
  .subst c;let l:xs.getD i 0≠j:=λe=>o (by rw[y1w hi,←e,Array.getD,dif_pos hi];rfl);omega
  .let h4:=Q p (y04 _) 00;let:=zh4 h (i:=p) (j:=i) 00 hi;omega
 apply y1l.mpr ⟨h.sublist<|y3q _ _,y44.mpr ⟨λy C=>?_,h.sublist<|y4b _ _⟩,λx O y C=>?_⟩
 .let(i,hi,e):=y22 C;rw[List.getElem_drop]at e;let d:p+i<xs.size:=by rw[y10]at hi;simp at hi;omega
  rw[←e,←at' _ d];show f _ 00 d
 .let a:x<j:=by
   let(i,hi,e):=y22 O;rw[List.getElem_take]at e;let d:i<p/\i<xs.size:=by rw[y0t]at hi;simp at hi;omega
   rw[←e,←at' _ d.2];show M i d.1
  rcases y06.mp C with rfl|C
  .exact a
  .let(i,hi,e):=y22 C;rw[List.getElem_drop]at e;let d:p+i<xs.size:=by rw[y10]at hi;simp at hi;omega
   rw[←e,←at' _ d];let:=f (p+i) 00 d;omega
structure Tb(led:Bool)(t:jk):Prop where
 rise:Rise t.place
 led:t.led=led
 dum:t.dummies=#[]
theorem zth(f m:Nat)(led:Bool):Tb led (.fresh f m led):=⟨List.Pairwise.nil,R,R⟩
theorem zcu(h:Tb led t)(n:Nat):Tb led (t.standIn n):=⟨by
 change(Array.range n).toList.Pairwise (· < ·);rw[Array.toList_range];show y3v,h.led,R⟩
theorem tb_or(h:Tb led t)(n:Nat):Tb led (t.orStandIn n):=by
 unfold SetTable.orStandIn;split
 .exact h
 .exact zcu h n
theorem zv6{t:jk}(h:t.dummies=#[])(j:Nat):SetTable.has t.dummies j=Fa:=by
 rw[h];unfold SetTable.has;rfl
theorem zfz{t:jk}(hd:t.dummies=#[])(hashAt:Nat->Int)(h:Int):∀(a:Nat) (p:SetTable.Probe) (j:Nat) (d:Option Nat),p.dummy=B->SetTable.probe.go t hashAt h a p=G (.empty j d)->d=B/\t.slot j=.empty
 |0,p,j,d,_,e=>by unfold SetTable.probe.go at e;cases e
 |a+1,p,j,d,L,e=>by
  unfold SetTable.probe.go at e;let f:∀q:SetTable.Probe,(t.advance q).dummy=q.dummy:=λq=>by unfold SetTable.advance;split<;>rfl
  cases c:t.slot p.j with
  |empty =>
   rw[c]at e;simp only[Option.some.injEq,SetTable.Met.empty.injEq]at e;let(rfl,rfl):=e;show⟨L,c⟩
  |dummy =>
   exfalso;unfold SetTable.slot at c;simp only[zv6 hd]at c;split at c<;>cases c
  |live i =>
   rw[c]at e;simp only at e;split at e
   .cases e
   .exact zfz hd hashAt h a _ j d (by rw[f];show L) e
theorem zyp{t:jk}(h:Tb led t)(o:t.slot j=.empty):Tb led (t.put j).1:=by
 apply⟨zld h.rise λe=>?_,h.led,?_⟩
 .unfold SetTable.slot at o;simp only[e,beq_self_eq_true,if_true]at o;cases o
 .change(if SetTable.has t.dummies j then _ else t.dummies)=#[];rw[zv6 h.dum];show h.dum
theorem zpp(h:Tb led t)(l:Array<|Int×Va)(k:Int)(x:Va):Tb led (layNew t l k x).2.1/\(layNew t l k x).2.2.1=Fa:=by
 unfold layNew;cases c:t.freeSlot k with
 |none=>show⟨zcu h _,R⟩
 |some p =>
  let(slot,wd):=p;unfold SetTable.freeSlot at c;cases U:t.probe (λ_=>k+1) k (t.probeStart k)with
  |none=>rw[U]at c;cases c
  |some m =>
   rw[U]at c;cases m with
   |candidate j i nx=>cases c
   |empty j d =>
    let(rfl,f):=zfz h.dum _ _ _ _ _ _ R U;simp only[Option.some.injEq,Prod.mk.injEq]at c;let(rfl,rfl):=c;show⟨tb_or (zyp h f) _,R⟩
theorem zro{led plain:Bool}(e:SetTable.laid d g i led plain hs=G (t,o)):Tb led t:=by
 unfold SetTable.laid at e;cases c:SetTable.layClean d hs with
 |none=>rw[c]at e;cases e
 |some owner =>
  rw[c]at e;simp only[Option.bind_eq_bind,Option.bind_some,Option.pure_def,Option.some.injEq,Prod.mk.injEq]at e;let(rfl,rfl):=e;apply⟨?_,R,R⟩;change List.Pairwise (· < ·) (List.map (λx:Nat×Nat=>x.1) ((List.range<|d+1).filterMap λj=>(owner.getD j B).map (j,·)));let:∀l:List Nat,((l.filterMap λj=>(owner.getD j B).map (j,·)).map (·.1)).Sublist l:=λl=>by
   induction l with
   |nil=>show List.Sublist.refl _
   |cons a l E =>
    rw[y28];cases f:owner.getD a B with
    |none=>show .cons _ E
    |some v=>show .cons_cons _ E
  show y3v.sublist<|this _
theorem ztf(h:Tb led t)(l:Array<|Int×Va)(n:Nat):Tb led (lh t l n).2.1:=by
 unfold lh;cases c:t.relaid (l.map (·.1)) n with
 |none=>show zcu h _
 |some p =>
  let(t',o):=p;let:=zro c;rw[h.led]at this;simp only;split
  .exact this
  .exact zcu h _
theorem zqf(next:Nat->Nat):∀(a k:Nat) (left:List q) (out:Array q),left.length=a->(pickOrder.go next a k left out).toList.Perm (out.toList++left)
 |0,k,left,out,h=>by
  unfold pickOrder.go;rw[y32.mp h,y1k]
 |a+1,k,left,out,h=>by
  unfold pickOrder.go;let f:next k%left.length<left.length:=y46 _ 00
  rw[y00 f];simp only;apply(zqf next a (k+1) (left.eraseIdx (next k%left.length)) (out.push left[next k%left.length])<|by rw[y4n f];omega).trans ?_;rw[y2q,y17,List.singleton_append];apply List.Perm.append_left _ ?_;generalize next k%left.length=i at f
  let e:left=left.take i++left[i]::left.drop (i+1):=by rw[y4y,y14]
  conv=>rhs;rw[e]
  rw[y4a];show(List.perm_middle).symm
theorem zqe(next:Nat->Nat)(xs:Array q):(pickOrder next xs).toList.Perm xs.toList:=by
 let:=zqf next xs.size 0 xs.toList #[] (by simp)
 rw[show(#[]:Array q).toList=[]from rfl,y3j]at this;show this
section
variable {P:im}{w:World}{T:Type}[DecidableEq T]{knd:KeyKind P w T}{A:ir}{E:Y0}{s:ik}{led:Bool}
def SetT(knd:KeyKind P w T)(led:Bool)(h:Heap)(a:Ad)(S:T->Bool)(n:Nat):Prop :=
 ∃o l ep t,h.get? a=G o/\o.ExactSet/\o.data=.set l ep t/\(ElemsOf knd l.toList/\∀k,S k=N↔∃e∈l.toList,knd.is k e.2=N)/\(l.size<iQ/\t.fits l.size=N/\l.size=n)/\Tb led t/\l.toList.Pairwise λx y=>∀k,knd.is k x.2=N->knd.is k y.2=Fa
theorem SetT.kept(x:SetT knd led h a S n)(k:∀o,h.get? a=G o->h'.get? a=G o):SetT knd led h' a S n :=
 let⟨o,l,ep,t,e,r⟩:=x;⟨o,l,ep,t,k o e,r⟩
theorem SetT.congr(x:SetT knd led h a S n)(e:∀k,S k=S' k)(y:n=n'):SetT knd led h a S' n':=by
 let:S=S':=funext e;subst this;subst y;show x
theorem ztg(h:Tb led t):Tb led {t with plain:=Fa}:=⟨h.rise,h.led,h.dum⟩
theorem zhq{l l':List (Int×Va)}(h:l.Pairwise λx y=>∀k,knd.is k x.2=N->knd.is k y.2=Fa)(p:l'.Perm l):l'.Pairwise λx y=>∀k,knd.is k x.2=N->knd.is k y.2=Fa :=
 p.symm.pairwise h λ{x y} z k D=>by
  cases c:knd.is k x.2 with
  |false=>rfl
  |true=>rw[z k c]at D;cases D
theorem zmw{h:Heap}{o:Obj}(j:h.get? a=G o)(O:o.ExactSet)(hd:o.data=.set l ep t){fs:Array (Int×Va)}{u:jk}
  (Y:ElemsOf knd fs.toList) (M:∀k,S k=N↔∃e∈fs.toList,knd.is k e.2=N) (C:fs.size<iQ) (h4:u.fits fs.size=N) (r:Tb led u) (U:fs.toList.Pairwise λx y=>∀k,knd.is k x.2=N->knd.is k y.2=Fa) :
  (h.update a<|Obj.putSet fs u).get? a=G {o with data:=.set fs (ep+1) u}/\SetT knd led (h.update a<|Obj.putSet fs u) a S fs.size :=
 let z:=(SetOf_store (knd:=knd) (S':=S) j O hd Y M C h4).1
 ⟨z,_,fs,ep+1,u,z,O,R,⟨Y,M⟩,⟨C,h4,R⟩,r,U⟩
theorem zmv{g:Bool->Sem Unit}(I:∀(b:Bool) (s1:ik) (Rq:Unit->ik->Prop),Rq () s1->wpAny (model P w) A (g b) Rq E s1){a:Ad}{o:Obj}{l:Array (Int×Va)}{ep:Nat}{t:jk}
  (j:s.heap.get? a=G o) (O:o.ExactSet) (hd:o.data=.set l ep t) {fs:Array (Int×Va)} {u:jk} {S:T->Bool} (Y:ElemsOf knd fs.toList) (M:∀k,S k=N↔∃e∈fs.toList,knd.is k e.2=N)
  (C:fs.size<iQ) (h4:u.fits fs.size=N) (z:Tb led u) (U:fs.toList.Pairwise λx y=>∀k,knd.is k x.2=N->knd.is k y.2=Fa) {wd:Bool} {Rq:Option Bool->ik->Prop}
  (h:∀h',Heap.SameBut a s.heap h'->SetT knd led h' a S fs.size->Rq (G N) {s with heap:=h'}) :
  wpAny (model P w) A (do
    storeSet a fs u
    if(!wd&&u.tooFull)=N then do
      g (lh u fs<|SetTable.grown fs.size).2.2
      storeSet a (lh u fs<|SetTable.grown fs.size).1 (lh u fs<|SetTable.grown fs.size).2.1
      pure (G N)
     else pure (G N)) Rq E s:=by
 apply ig<|wpAny_storeSet_of j hd ?_ (fits_of_scanBound C);let(D,L):=zmw (S:=S) j O hd Y M C h4 z U;let J:=Heap.SameBut.update s.heap a<|Obj.putSet fs u;split
 .let p:=relayAll_perm u fs<|SetTable.grown fs.size;let f:=relayAll_fits u fs<|SetTable.grown fs.size;let c:=ztf z fs<|SetTable.grown fs.size;generalize lh u fs (SetTable.grown fs.size)=Z at p f c ⊢;let(i,v,d):=Z;dsimp only at p f c ⊢;let sz:i.size=fs.size:=by rw[←y0m,p.length_eq,y0m]
  let r:i.size<iQ:=by rw[sz];show C
  apply ig<|I _ _ _ (ig<|wpAny_storeSet_of D R ?_ (fits_of_scanBound r));let(_,H):=zmw (knd:=knd) (S:=S) D O R (Y.perm p) (λk'=>(M k').trans ⟨λ⟨e,m,q⟩=>⟨e,p.mem_iff.mpr m,q⟩,λ⟨e,m,q⟩=>⟨e,p.mem_iff.mp m,q⟩⟩) r f c<|zhq U p;rw[sz]at H;show ii<|h _ (J.trans<|Heap.SameBut.update _ a _) H
 .exact ii<|h _ J L
theorem zw2{a:Ad}{S:T->Bool}{n:Nat}{k:T}{x:Va}{Q:Bool->ik->Prop}(D:knd.is k x=N)(hs:x.scannable=N)(x0:SetT knd led s.heap a S n)(room:n+1<iQ)
  (h:∀h',Heap.SameBut a s.heap h'->SetT knd led h' a (λk'=>S k'||decide (k'=k)) (if S k then n else n+1)->Q (!S k) {s with heap:=h'}):wpAny (model P w) A (setAddHashed a x<|knd.hash k) Q E s:=by
 let(o,l,ep,t,ho,O,hd,(Y,M),(h3,h4,I),tb,U):=id x0;unfold setAddHashed setAddHashedIn;apply iu<|ig (iN ho hd h4 ?_);dsimp only;rw[byScan_of hs h3 Y];simp only[↓reduceIte];unfold setAddByScan;apply ig<|ig (jd<|ig (wpAny_setScan_of D ho hd h4 Y ?_));cases c:List.findIdx? (λe=>knd.is k e.2) l.toList with
 |some j =>
  dsimp only;let(hj,L,_):=List.findIdx?_eq_some_iff_getElem.mp c;let f:S k=N:=(M k).mpr ⟨_,y0n hj,L⟩;let z:=h s.heap (Heap.SameBut.refl a s.heap) (x0.congr (λk'=>by
   cases e:S k' with
   |true=>rfl
   |false=>rw[y4v,eq_comm,decide_eq_false_iff_not];intro q;rw[q,f]at e;cases e) (by rw[f];rfl))
  rw[f]at z;apply ii<|ii ?_;cases s;show z
 |none =>
  dsimp only;let no:=List.findIdx?_eq_none_iff.mp c;let f:S k=Fa:=y0w.mpr λz=>by
   let(e,m,q):=(M k).mp z;rw[no e m]at q;cases q
  let H:=layNew_perm t l (knd.hash k) x;let g:=layNew_fits t l (knd.hash k) x;let(lt,ld):=zpp tb l (knd.hash k) x;generalize layNew t l (knd.hash k) x=Z at H g lt ld ⊢;let(fs,u,wd,d):=Z;dsimp only at H g lt ld ⊢;rw[y2q]at H;let v:ElemsOf knd fs.toList:=(Y.push D hs).perm H;let i2:∀k',(S k'||decide (k'=k))=N↔∃e∈fs.toList,knd.is k' e.2=N:=mem_push_iff D M H;let sz:fs.size=n+1:=by rw[←y0m,H.length_eq,y0d,y0m,I];rfl
  let r:fs.size<iQ:=by rw[sz];show room
  let J:fs.toList.Pairwise λx y=>∀k,knd.is k x.2=N->knd.is k y.2=Fa:=by
   apply zhq (y1l.mpr ⟨U,List.pairwise_singleton _ _,λy C z hz k' i=>?_⟩) H;rw[y0b.mp hz];cases q:knd.is k' x with
   |false=>rfl
   |true =>
    let e:=knd.inj x k' k q D;rw[e,no y C]at i;cases i
  let fin:∀h',Heap.SameBut a s.heap h'->SetT knd led h' a (λk'=>S k'||decide (k'=k)) fs.size->Q N {s with heap:=h'}:=λh' b z=>by
   let:=h h' b;rw[f]at this;rw[sz]at z;show this z
  apply ig ?_;let p:∀(b:Bool) (s1:ik) (Rq:Unit->ik->Prop),Rq () s1->wpAny (model P w) A (match b with|true=>rule "set.scan.the-table-gave-way"|false=>pure ()) Rq E s1:=λb s1 Rq q=>by cases b<;>first|show ii q|show jd q
  apply p _ _ _ ?_;split
  .refine ig ?_;rw[hashByValue_scannable 8 hs];apply ii<|zmv (led:=led) p ho O hd v i2 r ?_ ?_ J λh' b z=>?_
   .split
    .exact g
    .exact SetTable.fits_plain_off g
   .split
    .exact lt
    .exact ztg lt
   .dsimp only;show ii<|fin h' b z
  .refine ig<|ii ?_;simp only[↓reduceIte];apply zmv (led:=led) p ho O hd v i2 r g lt J λh' b z=>?_;dsimp only;show ii<|fin h' b z
end
theorem slot_setit_next:Slot "set_iterator" "__next__" "set_iterator.__next__" :=
 .of (owner:="set_iterator") (n:="__next__") (by rw[j0,jh];kernel_rfl) (by decide+kernel) (by decide+kernel) (by decide+kernel) (by first|show .inl (by decide+kernel)|show .inr (by decide+kernel)) (by rw[li];kernel_rfl)
theorem zce:entryFor table "set_iterator.__next__"=G Builtin.«set_iterator.__next__»:=entryFor_of_fast (by kernel_rfl)
theorem zcr(v:Va):argsOk "set_iterator.__next__" ⟨[v],[]⟩:=by unfold argsOk;kernel_rfl
theorem zgq:entryFor table "set.__iter__"=G Builtin.«frozenset.__iter__»:=entryFor_alias (id':="frozenset.__iter__") (by kernel_rfl) R (by decide+kernel) (by kernel_rfl)
noncomputable def byT(w:World):Bool:=w.params.followText "set-order"
inductive Way where
 |text
 |drawn (pt:Ad) (pl:List Nat)
 |place
noncomputable def ordOf(w:World)(a:Ad)(l:Array<|Int×Va)(ep:Nat):Way->List (Int×Va)
 |.text=>(pickOrder (w.params.setOrder a ep) l).toList
 |.drawn _ pl=>pl.filterMap λi=>l[i]?
 |.place=>l.toList
def WayOk(w:World)(l:Array<|Int×Va)(t:jk):Way->Prop
 |.text=>byT w=N
 |.drawn _ pl=>byT w=Fa/\(!t.plain&&decide (l.size>1))=N/\pl.Perm (List.range l.size)
 |.place=>byT w=Fa/\(!t.plain&&decide (l.size>1))=Fa
def FirstIs(h:Heap)(t:jk)(i:Nat)(v:Va):Way->Prop
 |.text=>v=.int 0 0
 |.drawn pt pl=>v=.ref pt/\∃o n,h.get? pt=G o/\o.data=.seq (pl.map λj:Nat=>iB j).toArray n
 |.place=>∃j:Nat,v=.int j 0/\SetTable.below t.place j=i
structure SetSt(w:World)(it a:Ad)(es:Array<|Int×Va)(ep:Nat)(t:jk)(y:Way)(i:Nat)(h:Heap):Prop where
 st:∃o,h.get? a=G o/\o.data=.set es ep t
 it:∃o v,h.get? it=G o/\o.cls=.type "set_iterator"/\o.data=.fields #[v,.int i 0,.ref a,.int es.size 0,.int ep 0]/\FirstIs h t i v y
theorem zr1{q s:Type}{f:q->Option s}{g:q->s}:∀(l:List q),(∀x∈l,f x=G (g x))->l.filterMap f=l.map g
 |[],_=>rfl
 |x::l,h=>by rw[y28,h x y0c,y0r,zr1 l λy C=>h y<|y0a _ C]
section
variable {P:im}{w:World}{A:ir}{E:Y0}{s:ik}
theorem zh8(h:WayOk w l t y):(ordOf w a l ep y).Perm l.toList:=by
 cases y with
 |text=>show zqe _ _
 |place=>show .refl _
 |drawn pt pl =>
  let e:l.toList=(List.range l.size).filterMap λi=>l[i]?:=by
   apply y38 λi=>?_;let:((List.range l.size).filterMap λi=>l[i]?)=(List.range l.size).map λi=>l.getD i default:=by
    apply zr1 _ λi hi=>?_;rw[y1w<|y0z.mp hi,Array.getD,dif_pos<|y0z.mp hi];rfl
   rw[this,y05];by_cases hi:i<l.size
   .rw[y1p hi,y0k,y1w hi,y1z,Array.getD,dif_pos hi];rfl
   .rw[y1c (by simpa using hi),y1c<|by simpa using hi];rfl
  rw[e];show h.2.2.filterMap _
theorem zo7(I:n≠0)(h:∀i d,i<n->Q i {s with drawn:=d}):wpAny M A (choose a n) Q E s :=
 λe p c=>⟨I,h _ _<|y46 _ (Nat.pos_of_ne_zero I)⟩
theorem zvh(n:Nat):∀(xs:List q) (s:ik) (Q:List q->ik->Prop),xs.length=n->(∀ys d,ys.Perm xs->Q ys {s with drawn:=d})->wpAny M A (drawOrder n xs) Q E s:=by
 induction n with
 |zero =>
  intro xs s Q I h;cases List.eq_nil_of_length_eq_zero I;unfold drawOrder;show ii<|h [] s.drawn (.refl _)
 |succ n g =>
  intro xs s Q I h;cases xs with
  |nil=>cases I
  |cons x xs =>
   unfold drawOrder;apply ig<|zo7 (by simp) λi d hi=>?_;rw[y00 hi];simp only;apply ig<|g _ _ _ (by rw[y4n hi];omega) λys d' p=>?_;apply ii<|h _ d' ?_;generalize hl:x::xs=l at hi p ⊢;let e:l=l.take i++l[i]::l.drop (i+1):=by rw[y4y,y14]
   rw[y4a]at p
   conv=>rhs;rw[e]
   show(List.Perm.cons _ p).trans List.perm_middle.symm
theorem SetSt.ty{it a:Ad}{l:Array (Int×Va)}{ep:Nat}{t:jk}{y:Way}{i:Nat}(x:SetSt w it a l ep t y i s.heap):s.TypeIs (.ref it) "set_iterator":=let⟨o,_,j,C,_⟩:=x.it;⟨o,j,C⟩
theorem zbw{h:Heap}{o:Obj}{vs:Array Va}(j:h.get? a=G o)(hd:o.data=.fields vs)(i:Nat)(x:Va):∃D,(h.update a (Obj.mapFields (·.setIfInBounds i x))).get? a=G D/\D.cls=o.cls/\D.data=.fields (vs.setIfInBounds i x) :=
 ⟨_,y1j _ j<|Obj.isFreed_of_fields (Obj.data_mapFields hd _),Obj.cls_mapFields ..,by rw[Obj.data_mapFields hd]⟩
theorem zwo{M:Model}{q:Type}{c:Prop}[Decidable c]{x y:Sem q}{Q:q->ik->Prop}(C:c)(h:wpAny M A x Q E s):wpAny M A (if c then x else y) Q E s:=by rw[Xq C];show h
theorem zpg{M:Model}{q:Type}{c:Prop}[Decidable c]{x y:Sem q}{Q:q->ik->Prop}(C:¬c)(h:wpAny M A y Q E s):wpAny M A (if c then x else y) Q E s:=by rw[Xp C];show h
theorem zev(Y:s.heap.get? a=G o)(hd:o.data=.set l ep t)(T:t.fits l.size=N)(U:byT w=N)
  (q:Q (((ordOf w a l ep .text)[i]?).map λe=>(e.2,j)) s):wpAny (model P w) A (setNext a j i ep) Q E s:=by
 unfold setNext;apply ig<|iN Y hd T ?_;dsimp only;unfold lC;apply ig<|ig (ja<|ii ?_);apply zwo U<|zpg (by simp) ?_;unfold setWalk;apply ig<|ig (iN Y hd T ?_);dsimp only;unfold lC;apply ig<|ig (ja<|ii ?_);apply zwo U ?_;apply ig<|ja (ii<|ii ?_);let e:(ordOf w a l ep .text)[i]?=(pickOrder (w.params.setOrder a ep) l)[i]?:=by change(pickOrder (w.params.setOrder a ep) l).toList[i]?=_;rw[y0k]
 rw[e]at q;show q
theorem zds(Y:s.heap.get? a=G o)(hd:o.data=.set l ep t)(T:t.fits l.size=N)(U:byT w=Fa)(L:(!t.plain&&decide (l.size>1))=Fa)(r:Tb (!byT w) t)
  (q:Q (match l[SetTable.below t.place j]?,t.place[SetTable.below t.place j]? with|some (_,x),G j=>G (x,j+1)|_,_=>B) s):wpAny (model P w) A (setNext a j i ep) Q E s:=by
 unfold setNext;apply ig<|iN Y hd T ?_;dsimp only;unfold lC;apply ig<|ig (ja<|ii ?_);apply zpg (λz=>by rw[show byT w=N from z]at U;cases U)<|zpg (λz=>by rw[show(!t.plain&&decide (l.size>1))=N from z]at L;cases L) ?_;let hl:t.led=N:=by rw[r.led,U];rfl
 apply ig ?_;apply zpg (c:=(!t.led && !l.isEmpty)=N) (by rw[hl];simp)<|ii (ii q)
theorem ztm(C:WayOk w l t y)(z:Tb (!byT w) t)(T:t.fits l.size=N)(st:SetSt w it a l ep t y i s.heap)(al:a≠it)(H:∀pt pl,y=.drawn pt pl->pt≠it)(O:(ordOf w a l ep y)[i]?=G (k,x))
  (q:∀h',SetSt w it a l ep t y (i+1) h'->Heap.SameBut it s.heap h'->Q (G x) {s with heap:=h'}):wpAny (model P w) A (jy<|.ref it) Q E s:=by
 let ty:=st.ty;let((oa,d,da),oi,v,hi,ci,g,fi):=st;unfold jy;apply ig<|jx (i9 (name:=Str.ofString "__next__") ty slot_setit_next<|i8 slot_setit_next ty zce ?_ (zcr _));unfold Builtin.«set_iterator.__next__»;apply ig<|ii ?_;apply ig<|jG hi g ?_;dsimp only;apply ig<|j6 d da T ?_;rw[Xp<|by simp];simp only[y1y];cases y with
 |text =>
  let u:v=.int 0 0:=fi;subst u;dsimp only;apply ig<|zev d da T C ?_;rw[O];dsimp only[y1z];apply ig<|iC hi g (by simp) ?_;let(D,Y,c1,p):=zbw hi g 0<|iB ((0:Int).toNat:Int);apply ig<|iC Y p (by simp) ?_;let(o2,M,U,I):=zbw Y p 1<|iB ((i:Int)+1);let sb:=(Heap.SameBut.update s.heap it (Obj.mapFields (·.setIfInBounds 0 (iB ((0:Int).toNat:Int))))).trans (Heap.SameBut.update _ it (Obj.mapFields (·.setIfInBounds 1 (iB<|(i:Int)+1))));apply ii ⟨x,R,ii<|q _ ⟨⟨oa,by rw[sb.2 a al];show d,da⟩,o2,.int 0 0,M,by rw[U,c1,ci],by rw[I];rfl,R⟩ sb⟩
 |drawn pt pl =>
  let(u,op,n,L,dp):=fi;subst u;dsimp only;apply ig<|iE L dp ?_;dsimp only;obtain⟨j,o,hjx⟩:∃j,pl[i]?=G j/\l[j]?=G (k,x):=by
   let e:ordOf w a l ep (.drawn pt pl)=pl.map λj=>l.getD j default:=zr1 _ λj o=>by
    let:=y0z.mp<|C.2.2.mem_iff.mp o;rw[y1w this,Array.getD,dif_pos this];rfl
   rw[e,y05]at O;let(j,o,r):=y1m.mp O;let f:=y0z.mp<|C.2.2.mem_iff.mp (y0l o);apply⟨j,o,?_⟩;rw[y1w f];rw[Array.getD,dif_pos f]at r;show congrArg G r
  let hj':(pl.map λj:Nat=>iB j).toArray[i]?=G (.int j 0):=by
   rw[List.getElem?_toArray,y05,o];rfl
  rw[hj'];dsimp only;unfold setNextDrawn;apply ig<|ig (iN d da T ?_);dsimp only;apply zpg (by simp) ?_;simp only[y1y,hjx];apply ii ?_;apply ig<|iC hi g (by simp) ?_;let(o2,M,U,I):=zbw hi g 1<|iB ((i:Int)+1);let sb:=Heap.SameBut.update s.heap it (Obj.mapFields (·.setIfInBounds 1 (iB<|(i:Int)+1)));apply ii ⟨x,R,ii<|q _ ⟨⟨oa,by rw[sb.2 a al];show d,da⟩,o2,.ref pt,M,by rw[U,ci],by rw[I];rfl,R,op,n,by rw[sb.2 pt<|H pt pl R];show L,dp⟩ sb⟩
 |place =>
  let(j,u,J):=fi;subst u;dsimp only;apply ig<|zds d da T C.1 C.2 z ?_;let hx':l[i]?=G (k,x):=by
   let:l.toList[i]?=G (k,x):=O;rw[y0k]at this;show this
  let f:i<l.size:=(y2r.mp hx').1;let hpz:t.place.size=l.size:=by
   simp only[SetTable.fits,y07,beq_iff_eq]at T;show T.1
  let c:t.place[i]?=G (t.place.getD i 0):=by rw[y1w 00,Array.getD,dif_pos 00];rfl
  rw[y1y,J,hx',c];dsimp only;apply ig<|iC hi g (by simp) ?_;let(D,Y,c1,p):=zbw hi g 0<|iB ((t.place.getD i 0+1:Nat):Int);apply ig<|iC Y p (by simp) ?_;let(o2,M,U,I):=zbw Y p 1<|iB ((i:Int)+1);let sb:=(Heap.SameBut.update s.heap it (Obj.mapFields (·.setIfInBounds 0 (iB ((t.place.getD i 0+1:Nat):Int))))).trans (Heap.SameBut.update _ it (Obj.mapFields (·.setIfInBounds 1 (iB<|(i:Int)+1))));apply ii ⟨x,R,ii<|q _ ⟨⟨oa,by rw[sb.2 a al];show d,da⟩,o2,_,M,by rw[U,c1,ci],by rw[I];rfl,t.place.getD i 0+1,R,zpb z.rise 00⟩ sb⟩
theorem zh2{it:Ad}{Y:Heap}{Q:Y9}{Rq:Fin->ik->Prop}(M:A.handled=B)(J:Heap.ExtBut it s.heap Y)(q:∀h',Heap.ExtBut it s.heap h'->Q B {s with heap:=h'}):
  wpAny (model P w) A.in1 (newExc (.type "StopIteration") []>>=raiseNew) Rq (λe s'=>wpAny (model P w) A (isInstance e (.type "StopIteration")>>=λb=>if b=N then pure B else throw e) Q E s') {s with heap:=Y}:=by
 apply ig ?_;simp only[newExc,newTuple];apply ig<|i6 (ig (m:=jC _ _)<|wpAny_of_eq (a:=Va.none) (by first|rfl|(simp only[jC];rfl)) (i6 ?_<|by size_fits)) (by size_fits);simp only[raiseNew];apply ig<|wpAny_handled ?_;rw[show A.in1.handled=B from M];apply ig<|ii (wpAny_throw ?_);apply ig<|jS (s:={s with heap:=_}) (T:="StopIteration") (b:=N) ⟨_,y0f _ R,R⟩ isSubtype_stop ?_;show ii<|q _ ((J.push _).push _)
theorem zw1(M:A.handled=B)(C:WayOk w l t y)(z:Tb (!byT w) t)(T:t.fits l.size=N)(st:SetSt w it a l ep t y l.size s.heap)
  (q:∀h',Heap.ExtBut it s.heap h'->Q B {s with heap:=h'}):wpAny (model P w) A (jy<|.ref it) Q E s:=by
 let ty:=st.ty;let((oa,d,c),r,v,hi,f,g,e):=st;unfold jy;apply ig<|jx (i9 (name:=Str.ofString "__next__") ty slot_setit_next<|i8 slot_setit_next ty zce ?_ (zcr _));unfold Builtin.«set_iterator.__next__»;apply ig<|ii ?_;apply ig<|jG hi g ?_;dsimp only;apply ig<|j6 d c T ?_;rw[Xp<|by simp];simp only[y1y];let i:t.place.size=l.size:=by
  simp only[SetTable.fits,y07,beq_iff_eq]at T;show T.1
 cases y with
 |text =>
  let u:v=.int 0 0:=e;subst u;dsimp only;apply ig<|zev d c T C ?_;rw[y1c<|by rw[(zh8 (a:=a) (ep:=ep) C).length_eq];simp];dsimp only[Option.map_none];show ig<|iC hi g (by simp) (zh2 M (Heap.SameBut.update ..).extBut q)
 |drawn pt pl =>
  let(u,H,n,L,dp):=e;subst u;dsimp only;apply ig<|iE L dp ?_;dsimp only;rw[y3w<|by rw[y08,y01,C.2.2.length_eq,y16];show y04 _];dsimp only;change wpAny _ _ (setField (.ref it) 0 (iB 0)>>=λ_=>setField (.ref it) 2 Va.none>>=λ_=>(newExc (.type "StopIteration") []>>=raiseNew)) _ _ s;let(D,Y,I,p):=zbw hi g 0<|iB 0;apply ig<|iC hi g (by simp) ?_;apply ig<|iC Y p (by simp) ?_;show zh2 (s:=s) M ((Heap.SameBut.update s.heap it _).trans<|Heap.SameBut.update _ it _).extBut q
 |place =>
  let(j,u,J):=e;subst u;dsimp only;apply ig<|zds d c T C.1 C.2 z ?_;rw[y1y,J,y3w<|y04 _];dsimp only;show ig<|iC hi g (by simp) (zh2 M (Heap.SameBut.update ..).extBut q)
theorem SetSt.kept{it a:Ad}{l:Array (Int×Va)}{ep:Nat}{t:jk}{y:Way}{i:Nat}{h h':Heap}(x:SetSt w it a l ep t y i h)(k:∀b o,(b=it\/b=a\/∃pl,y=.drawn b pl)->h.get? b=G o->h'.get? b=G o):SetSt w it a l ep t y i h':=by
 let((oa,d,c),r,v,hi,f,g,e):=x;apply⟨⟨oa,k a oa (.inr<|.inl R) d,c⟩,r,v,k it r (.inl R) hi,f,g,?_⟩;cases y with
 |text=>show e
 |place=>show e
 |drawn pt pl =>
  let(u,H,n,L,dp):=e;show⟨u,H,n,k pt H (.inr<|.inr ⟨pl,R⟩) L,dp⟩
noncomputable def Way.fp:Way->List Ad
 |.drawn pt _=>[pt]
 |_=>[]
theorem Way.mem_fp{y:Way}:(∃pl,y=.drawn b pl)↔b∈y.fp:=by
 cases y with
 |text=>show⟨λ⟨_,h⟩=>(nomatch h),λh=>(nomatch h)⟩
 |place=>show⟨λ⟨_,h⟩=>(nomatch h),λh=>(nomatch h)⟩
 |drawn pt pl =>
  constructor
  .rintro⟨a,h⟩;cases h;show y0b.mpr R
  .intro h;rw[y0b.mp h];show⟨pl,R⟩
theorem Walks.set(M:A.handled=B)(d:a≠it)(H:∀pt pl,y=.drawn pt pl->pt≠it)(C:WayOk w l t y)(r:Tb (!byT w) t)(T:t.fits l.size=N)(c:∀(s:ik) (Q:Y0) (E:Y0),s.TypeIs (.ref it) "set_iterator"->Q (.ref it) s->wpAny (model P w) A (jX<|.ref it) Q E s):
  Walks P w A it (it::a::y.fp) [it] l.size (λi v=>∃k,(ordOf w a l ep y)[i]?=G (k,v)) (λi h=>SetSt w it a l ep t y i h) where
 sub:=λb U=>by rw[y0b.mp U];show y0c
 frame:=λi h h' x k=>x.kept λb o U e=>k b (by
  rcases U with rfl|rfl|U
  .exact y0c
  .exact y0a _ y0c
  .exact y0a _<|y0a _ (Way.mem_fp.mp U)) o e
 item:=λi s Q E hi x q=>by
  let hl:i<(ordOf w a l ep y).length:=by rw[(zh8 (a:=a) (ep:=ep) C).length_eq];simpa using hi
  apply ztm C r T x d H (y00 hl) λh' L sb=>q _ h' s.toks ⟨_,y00 hl⟩ L λb o U e=>?_;rw[sb.2 b λz=>U<|by rw[z];show y0b.mpr R];show e
 done:=λs Q E x q=>zw1 M C r T x λh' J=>q h' s.toks λb o U e=>J b o (λz=>U<|by rw[z];show y0b.mpr R) e
 self:=λi s Q E x q=>c s Q E x.ty q
end
local instance (priority:=10000):BEq Key:=instBEqOfDecidableEq
section
variable {prog:im}{w:World}{A:ir}{E:Y0}{s:ik}
theorem zk7(a:Va)
  (h:Q₁ (.ref s.heap.objs.size) {s with heap:=s.heap.push {cls:=.type "set",dict:=B,data:=.set #[] 0 (.fresh 0 0<|!byT w)} }) :
  iY (model prog w) A (.call (.builtin "set.__new__") ⟨[.type "set",a],[]⟩) (wants Q₁ E) s:=by
 apply jz ?_;change wpAny _ A.in1 (do checkBuiltinCall "set.__new__" ⟨[.type "set",a],[]⟩;again (.builtin "set.__new__" ⟨[.type "set",a],[]⟩)) _ _ s;apply ig<|wpAny_of_eq (F.newCall_set_1 a) (ii ⟨iX F.plain_set_new _,iF F.entry_set_new ?_⟩);rw[Around.under_plainId F.plain_set_new _];unfold Builtin.«set.__new__» Builtin.Frozenset.newClass;let hsub:=sub_set_self;let(hp,g,d,tk,os):=s;dsimp only
 wp_walk
 apply ja<|ii ?_;dsimp only;simp only[newObj];apply ig<|wpAny_alloc (ii ?_);show ii h
end
section
variable {P:im}{w:World}{A:ir}{Rq:Result->ik->Prop}{it:Ad}{fp wr:List Ad}{Gq:Array jq->Array jq->Prop}{n:Nat}{Pv:Nat->Va->Prop}{St:Nat->ik->Prop}
def SetTs(P:im)(w:World)(h:Heap)(a:Ad)(ks:List Int):Prop:=∃n,n<=ks.length/\SetT (jV P w) (!byT w) h a (λk=>decide (k∈ks)) n
theorem SetTs.kept(x:SetTs P w h a ks)(k:∀o,h.get? a=G o->h'.get? a=G o):SetTs P w h' a ks:=let⟨n,l,x⟩:=x;⟨n,l,SetT.kept x k⟩
theorem ztp(h:(jV P w).is k v=N):v.scannable=N:=by
 let(t,rfl):=Va.isInt_shape h;rfl
theorem zwz(a:Ad)(J:m<iQ):SetR (jV P w) a m (λh ks=>SetTs P w h a ks):=⟨λx k=>x.kept k,λ{A E s ks k v Q} is hl ⟨D,L,x⟩ q=>by
 apply zw2 (knd:=jV P w) is (ztp is) x 00 λh' sb H=>q h' _ sb ⟨_,?_,SetT.congr H (λk'=>?_) R⟩
 .rw[y0d,y0q];split<;>omega
 .rw[y23];simp only[y35,decide_eq_true_eq,y0v,y0b]⟩
end
section
variable {P:im}{w:World}{A:ir}{E:Y0}{s:ik}
theorem zjc(M:A.handled=B)(hl:s.heap.IsList l its)(D:ks.length=its.size)(hi:∀(i:Nat) v k,its[i]?=G v->ks[i]?=G k->(jV P w).is k v=N)
  (U:its.size+1<iQ)
  (h:∀(h':Heap) (c:Nat),SetTs P w h' s.heap.objs.size ks->(∀b o,b<s.heap.objs.size->s.heap.get? b=G o->h'.get? b=G o)->Q (.ref s.heap.objs.size) {s with heap:=h',toks:=c}) :
  wpAny (model P w) A (call (.type "set") [.ref l]) Q E s :=
 zpz (Lp:=λled=>led=!byT w) M hl D hi (zwz _ U) (λh led e a=>by
  subst e;let(o,r,ep,t,j,O,hd,q,C):=(setObjOf_fresh (knd:=jV P w)<|!byT w).setOf a (by unfold iQ;omega);let d:o=_:=(Option.some.inj<|a.symm.trans j).symm;subst d;let p:Data.set #[] 0 (.fresh 0 0<|!byT w)=Data.set r ep t:=hd;injection p with J g f
  subst J;subst g;subst f;show⟨0,y04 _,_,_,_,_,a,O,R,⟨q,λk=>by simp⟩,C.2,zth _ _ _,.nil⟩) (zk7 (.ref l) ⟨_,R,R,R⟩) h
end
section
variable {P:im}{w:World}{A:ir}{E:Y0}{s:ik}
theorem zix(v:Va):argsOk "set.__iter__" ⟨[v],[]⟩:=by unfold argsOk;kernel_rfl
theorem zn9(j:s.heap.get? a=G o)(O:o.ExactSet)(C:o.cls=.type "set")(hd:o.data=.set l ep t)(T:t.fits l.size=N)(z:Tb (!byT w) t)(I:l.size<=io)
  (q:∀(it:Ad) (y:Way) (h':Heap) (d:Drawn),WayOk w l t y->a≠it->(∀pt pl,y=.drawn pt pl->pt≠it/\s.heap.objs.size<=pt)->s.heap.objs.size<=it->SetSt w it a l ep t y 0 h'->(∀b u,s.heap.get? b=G u->h'.get? b=G u)->Q (.ref it) {s with heap:=h',drawn:=d}) :
  wpAny (model P w) A (jX<|.ref a) Q E s:=by
 let hT:s.TypeIs (.ref a) "set":=⟨o,j,C⟩;apply jK hT F.slot_set_iter<|i8 F.slot_set_iter hT zgq ?_ (zix _);unfold Builtin.«frozenset.__iter__» Builtin.Frozenset.slot0 slotArgs;apply ig<|ig (ii ?_);unfold Builtin.Frozenset.addrOf;apply ii ?_;unfold Builtin.Frozenset.sizeOf;apply ig<|ig (j6 j hd T<|ii ?_);unfold setDrawn;apply ig<|ig (iN j hd T ?_);dsimp only;unfold lC;apply ig<|ig (ja<|ii (ii ?_));let fin:∀(s2:ik) (v:Va) (y:Way),WayOk w l t y->(∀b u,s.heap.get? b=G u->s2.heap.get? b=G u)->s2={s with heap:=s2.heap,drawn:=s2.drawn}->s.heap.objs.size<=s2.heap.objs.size->FirstIs s2.heap t 0 v y->(∀pt pl,y=.drawn pt pl->s.heap.objs.size<=pt/\pt<s2.heap.objs.size)->
   wpAny (model P w) A.in1 (do let e ←setEpoch a;let f ←newFields "set_iterator" [v,iB 0,.ref a,iB l.size,iB e];ret f) (λfin s'=>∃v,fin=PySem.Fin.done (.ret v)/\∃T' r,s'.TypeIs v T'/\jw (Va.type T') (Str.ofString "__next__")=pure (G r)/\Q v s') E s2:=by
  intro s2 v y hy D x le hv hpt;let(M,g2,d2,tk2,os2):=s2;let J:g2=s.gens:=congrArg Shared.gens x;let g:tk2=s.toks:=congrArg Shared.toks x;let e3:os2=s.os:=congrArg Shared.os x;subst J;subst g;subst e3;unfold setEpoch;apply ig<|ig (iN (D a o j) hd T<|ii ?_);unfold newFields;apply ig<|i6 (ii ⟨_,R,"set_iterator",_,⟨_,y0f _ R,R⟩,slot_setit_next.lookup,?_⟩);let lt:a<M.objs.size:=y0e<|D a o j;let i:∀b u,M.get? b=G u->(M.push {cls:=.type "set_iterator",data:=.fields #[v,.int 0 0,.ref a,.int l.size 0,.int ep 0]}).get? b=G u:=λb u e=>y03 _ e;apply q _ y _ d2 hy (y0o lt) (λpt pl e=>⟨y0o (hpt pt pl e).2,(hpt pt pl e).1⟩) le ⟨⟨o,i a o<|D a o j,hd⟩,⟨_,v,y0f _ R,R,R,?_⟩⟩ λb u e=>i b u<|D b u e;cases y with
  |text=>show hv
  |place=>show hv
  |drawn pt pl =>
   let(e,o2,c,Y,H):=hv;show⟨e,o2,c,i _ _ Y,H⟩
 change wpAny _ _ (if(!byT w&&(!t.plain&&decide (l.size>1)))=N then _ else _) _ _ _;cases U:byT w with
 |true =>
  rw[Xp<|by simp];apply ig<|ii ?_;show fin s _ .text U (λ_ _ e=>e) R (y04 _) R λ_ _ e=>nomatch e
 |false =>
  cases L:(!t.plain&&decide (l.size>1))with
  |false =>
   rw[Xp<|by simp];apply ig<|ii ?_;show fin s _ .place ⟨U,L⟩ (λ_ _ e=>e) R (y04 _) ⟨0,R,zpa z.rise⟩ λ_ _ e=>nomatch e
  |true =>
   rw[Xq<|by simp];apply ig<|zvh l.size (List.range l.size) s _ y16 λys d p=>?_;let yl:ys.length=l.size:=by rw[p.length_eq,y16]
   apply ig<|jE ?_ (by rw[y01,yl];show I);apply fin _ _ (.drawn s.heap.objs.size ys) ⟨U,L,p⟩ (λ_ _ e=>y03 _ e) R ?_ ⟨R,_,_,y0f _ R,R⟩ λpt pl e=>?_
   .change _<=(Heap.push _ _).objs.size;rw[y1a];show y3i _
   .cases e;apply⟨y04 _,?_⟩;change _<(Heap.push _ _).objs.size;rw[y1a];show y29 _
end
section
variable {P:im}{w:World}{A:ir}{E:Y0}{s:ik}
theorem zcj:Slot "set_iterator" "__iter__" "set_iterator.__iter__" :=
 .of (owner:="set_iterator") (n:="__iter__") (by rw[j0,jh];kernel_rfl) (by decide+kernel) (by decide+kernel) (by decide+kernel) (by first|show .inl (by decide+kernel)|show .inr (by decide+kernel)) (by rw[li];kernel_rfl)
theorem zfa:entryFor table "set_iterator.__iter__"=G Builtin.«dict_keyiterator.__iter__» :=
 entryFor_alias (id':="dict_keyiterator.__iter__") (by kernel_rfl) R (by decide+kernel) (by kernel_rfl)
theorem zgj(v:Va):argsOk "set_iterator.__iter__" ⟨[v],[]⟩:=by unfold argsOk;kernel_rfl
theorem zn2:jw (.type "set") (Str.ofString "__len__")=pure (G<|.builtin "set.__len__"):=F.slot_set_len.lookup
theorem zl6(hh:A.handled=B)(ho:s.heap.get? a=G o)(hx:o.ExactSet)(hc:o.cls=.type "set")(hd:o.data=.set es ep t)(hf:t.fits es.size=N)(tb:Tb (!byT w) t)(hn:es.size<=io)
  (q:∀(vs:List Va) (h':Heap) (d:Drawn) (tk:Nat),vs.Perm (es.toList.map (·.2))->s.heap.objs.size<=h'.objs.size->s.toks<=tk->(∀b u,s.heap.get? b=G u->h'.get? b=G u)->Q vs {s with heap:=h',drawn:=d,toks:=tk}) :
  wpAny (model P w) A (collect<|.ref a) Q E s:=by
 let la:a<s.heap.objs.size:=y0e ho;unfold collect;apply ig<|wpAny_runValue (iF F.entry_proto_collect ?_);rw[Around.under_plainId F.plain_proto_collect _];change wpAny _ A.in1 (newList []>>=λl=>again<|.builtin "list.__iadd__" ⟨[l,.ref a],[]⟩) _ _ s;apply ig<|i6 ?_;apply ii ⟨iX F.plain_list_iadd _,iF F.entry_list_iadd ?_⟩;rw[Around.under_plainId F.plain_list_iadd _];let hS₁:(s.heap.push {cls:=.type "list",data:=.seq ([]:List Va).toArray}).get? s.heap.objs.size=G {cls:=.type "list",data:=.seq ([]:List Va).toArray}:=y0f _ rfl;let ha₁:(s.heap.push {cls:=.type "list",data:=.seq ([]:List Va).toArray}).get? a=G o:=y03 _ ho;let h1:Builtin.List.listSameRef (.ref s.heap.objs.size) (.ref a)=Fa:=by simp[Builtin.List.listSameRef,y2a la]
 change wpAny _ A.in1 (Builtin.List.listExtendWith (.ref s.heap.objs.size) (.ref a)<|.ref s.heap.objs.size) _ _ _;unfold Builtin.List.listExtendWith;let hT:Shared.TypeIs {s with heap:=s.heap.push {cls:=.type "list",data:=.seq ([]:List Va).toArray} } (.ref a) "set":=⟨o,ha₁,hc⟩;apply ig<|js hT ?_;rw[Xp<|by rw[h1];decide];apply ig<|zn9 (s:={s with heap:=s.heap.push {cls:=.type "list",data:=.seq ([]:List Va).toArray} }) ha₁ hx hc hd hf tb hn λit y h2 d wo hne hpt hit st k2=>?_;apply ig<|iu ?_;let hT2:Shared.TypeIs {s with heap:=h2,drawn:=d} (.ref a) "set":=⟨o,k2 a o ha₁,hc⟩;unfold Builtin.List.listLengthHint;apply ig<|je hT2 zn2 ?_;generalize hid:("set.__len__":String)=id0
 (fail_if_success (clear hid id0))
 wp_delta
 rw[show splitId id0=G ("set","__len__")from by subst hid;decide+kernel];subst hid;apply ig<|jS (b:=N) hT2 (by rw[li];kernel_rfl) ?_;rw[Xp 04];apply zwo (by decide+kernel) ?_;apply ig<|js hT2 (ii ?_);change wpAny _ A.in1 (rule "list.extend.makes-room">>=λ_=>Builtin.List.listTouch (.ref s.heap.objs.size)>>=λ_ =>
  again (.builtin "list.extend.loop" ⟨[.ref s.heap.objs.size,.ref it,.ref s.heap.objs.size],[]⟩)) _ _ _
 apply ig<|jd ?_;let hS2:=k2 _ _ hS₁;apply ig ?_;change wpAny _ A.in1 (jU s.heap.objs.size (·.push .none)>>=λ_=>jU s.heap.objs.size (·.pop)) _ _ _;apply ig<|jf hS2 R ?_;let hS₂:=y1j (Obj.mapSeq (·.push Va.none)) hS2 rfl;apply jf hS₂ R ?_;let hS₃:=y1j (Obj.mapSeq (·.pop)) hS₂ rfl;let oth:∀b o,b≠s.heap.objs.size->h2.get? b=G o->((h2.update s.heap.objs.size (Obj.mapSeq (·.push Va.none))).update s.heap.objs.size (Obj.mapSeq (·.pop))).get? b=G o :=
  λb o hb e=>(y1f _ _<|Ne.symm hb).trans<|(y1f _ _<|Ne.symm hb).trans e
 let hself:∀(s:ik) (Q:Y0) (E:Y0),s.TypeIs (.ref it) "set_iterator"->Q (.ref it) s->wpAny (model P w) A.in1 (jX<|.ref it) Q E s:=λs Q E hT q=>by
  apply jK hT zcj<|i8 zcj hT zfa ?_ (zgj _);change wpAny _ _ (ret<|.ref it) _ _ s;show ii ⟨_,R,"set_iterator",_,hT,slot_setit_next.lookup,q⟩
 let sz1:(s.heap.push {cls:=.type "list",data:=.seq ([]:List Va).toArray}).objs.size=s.heap.objs.size+1:=y1a ..;let hit':s.heap.objs.size+1<=it:=by rw[←sz1];show hit
 let ptne:∀b,b∈y.fp->b≠s.heap.objs.size:=λb hb=>by
  let(pl,e):=Way.mem_fp.mpr hb;let:=(hpt b pl e).2;let z:s.heap.objs.size+1<=b:=by rw[←sz1];show this
  show y2a z
 let W:=(Walks.set (P:=P) (A:=A.in1) (ep:=ep) hh hne (λpt pl e=>(hpt pt pl e).1) wo tb hf hself).toS;let hSf:s.heap.objs.size∉it::a::y.fp:=λhm=>by
  rcases y06.mp hm with z|hm
  .exact y0o hit' z
  rcases y06.mp hm with z|hm
  .exact y2a la z
  .exact ptne _ hm R
 apply ii ⟨iX F.plain_extend_loop _,codeAny_extend_loopS W hn _ hSf _ es.size 0 _ _ _ R (y18 _) ?_ hS₃ (ItemsOf.nil _) λs' acc' c' hm hS' hacc=>?_⟩
 .refine st.kept λb u hb e=>oth b u ?_ e;rcases hb with rfl|rfl|hb
  .exact y2a hit'
  .exact y0o la
  .exact ptne b<|Way.mem_fp.mp hb
 change wpAny _ A (load s.heap.objs.size>>=_) _ _ s';apply ig<|lw hS' (ii ?_);let(h',g',d',tk',os'):=s';let eg:g'=s.gens:=hm.gens;let ed:d'=d:=hm.drawn;let eo:os'=s.os:=hm.os;subst eg;subst ed;subst eo;let op:=zh8 (a:=a) (ep:=ep) wo;let ol:(ordOf w a es ep y).length=es.size:=by rw[op.length_eq,y0m]
 let hacc':acc'.toList=(ordOf w a es ep y).map (·.2):=by
  apply y38 λj=>?_;rw[y05,y0k];cases e:acc'[j]? with
  |none =>
   let:acc'.size<=j:=Array.getElem?_eq_none_iff.mp e;rw[hacc.1]at this;rw[y1c 00];rfl
  |some v =>
   let(k,hk):=hacc.2 j v e;rw[hk];rfl
 apply q _ h' d' tk' (by rw[hacc'];show op.map _) (y1x<|y0e hS') hm.toks λb u e=>?_;let lb:b<s.heap.objs.size:=y0e e;apply hm.heap b u (λhb=>?_)<|oth b u (y0o lb) (k2 b u<|y03 _ e);rcases y06.mp hb with z|z
 .exact y0o lb z
 .rw[y0b.mp z]at lb;show Xa (y21 lb hit')<|y1g _
end
noncomputable def iv:Va->Int
 |.int i _=>i
 |_=>0
theorem zrv:∀{l:List Va},(∀v∈l,∃i t,v=.int i t)->jt l (l.map iv)
 |[],_=>.nil
 |v::r,h=>by
  let(i,t,rfl):=h v y0c;show .cons i t<|zrv λv hv=>h v<|y0a _ hv
section
variable {P:im}{w:World}{A:ir}{E:Y0}{s:ik}
theorem zgp{l:List Int}(Y:l.Pairwise (·<=·))(M:l.Nodup):l.Pairwise (· < ·):=by
 let:=List.Pairwise.and Y M;show this.imp λ⟨a,b⟩=>by omega
end
theorem Inv.drew{X:Cx}{pins:Y2}{σ:St}{H:Hp}{s:ik}(I:02 H s)(d:Drawn):02 H {s with drawn:=d}:=by
 let(Y,M,C,h4,T,p,j,o,l,f,e):=I;show⟨Y,M,C,h4,T,p,j,o,l,f,e⟩
noncomputable def setI(P:im)(w:World)(a:Ad)(ns:List Int):HO:=.ext λh=>SetTs P w h a ns
theorem zkg(C:X.calm=N):CallR X (.type "set") (λxs H Q=>∃(p:Ad) (ns:List Int),xs=[.ref p]/\SqL X.K H p (ns.map V.int)/\ns.length<=1000/\∀a,H a=B->Q (.ref a) (upd H a<|setI X.prog X.w a ns)):=by
 intro pins s σ H xs us Q I r h;let(p,ks,rfl,O,hz,q):=h;let(u,rfl,rx):=vals1 r;cases(show u=Va.ref p from rx);let(vs,T,pl,_):=I.list O;let f:=T.length;rw[y01]at f;apply zjc (ks:=ks) (I.ok.hd C) pl.isList (by rw[y08];show f) (λi v k J g=>?_) (by rw[y08];unfold iQ;omega) λh' c x k=>?_
 .let d:vs[i]?=G v:=by simpa using J
  let(u,e,q):=T.get (i:=i) (x:=V.int k) (by rw[y05,g];rfl);rw[d]at e;cases e;let(t,rfl):=q;change Va.isInt k (.int k t)=N;unfold Va.isInt;simp
 .refine⟨.ref s.heap.objs.size,_,I.laid (t':=c) (λb u e=>k b u (y0e e) e) (y04 _) ?_,R,q _ I.fresh⟩;let(n,D,o,l,ep,t,j,rest):=id x;show⟨x,⟨o,j⟩,λY M L k1=>L.kept k1⟩
theorem zgw:∀{vs:List Va} {ns:List Int},jt vs ns->Vals (ns.map V.int) vs
 |_,_,.nil=>.nil
 |_,_,.cons n t h=>.cons ⟨t,R⟩<|zgw h
def rSortS(P:im)(w:World):List V->Hp->VK->Prop:=λxs H Q=>∃(p:Ad) (ns:List Int),xs=[.ref p]/\H p=G (setI P w p ns)/\ns.length<64/\∀(ms:List Int),ms.Pairwise (· < ·)->(∀k,k∈ms↔k∈ns)->∀L H',New H L (.lst<|ms.map V.int) H'->Q (.ref L) H'
end L2
namespace SM
open PySem PySem.Spec PyProof.Rows L2 SS
def Rising(l:List Nat):Prop:=l.Pairwise (· < ·)
theorem zei(hl:Rising l)(h:∀x∈l,x<n):l.length<=n:=by
 let nd:l.Nodup:=hl.imp λh=>y0o h;let:=zdy (ys:=List.range n) nd λx O=>y0z.mpr<|h x O;simpa using this
theorem zg6:∀{a b:List Nat},Rising a->Rising b->(∀x,x∈a↔x∈b)->a=b
 |[],[],_,_,_=>rfl
 |[],y::s,_,_,h=>by have:=(h y).mpr y0c;cases this
 |x::r,[],_,_,h=>by have:=(h x).mp y0c;cases this
 |x::r,y::s,d,U,h=>by
  let g:=y44.mp d;let u:=y44.mp U;let e:x=y:=by
   rcases y06.mp ((h x).mp y0c)with z|z
   .exact z
   .rcases y06.mp ((h y).mpr y0c)with D|D
    .exact D.symm
    .let:=g.1 y D;let:=u.1 x z;omega
  subst e;congr 1;apply zg6 g.2 u.2 λz=>⟨λhz=>?_,λhz=>?_⟩
  .rcases y06.mp ((h z).mp<|y0a _ hz)with q|q
   .let:=g.1 z hz;omega
   .exact q
  .rcases y06.mp ((h z).mpr<|y0a _ hz)with q|q
   .let:=u.1 z hz;omega
   .exact q
def comeL(m:Mc)(U ls:List Nat):List Nat:=(List.range m.n).filter λk=>U.any λr=>ls.any λl=>m.go r l==k
theorem ze2:Rising (comeL m U ls):=List.Pairwise.filter _ y3v
theorem zvl(h:k∈comeL m U ls):k<m.n:=y0z.mp (y1i.mp h).1
theorem zsr(y:∀r∈U,∀l∈ls,m.go r l<m.n):k∈comeL m U ls↔∃r∈U,∃l∈ls,m.go r l=k:=by
 unfold comeL;rw[y1i,y2i,y0z];constructor
 .rintro⟨_,r,L,h⟩;let(l,hl,e):=y2i.mp h;show⟨r,L,l,hl,by simpa using e⟩
 .rintro⟨r,L,l,hl,rfl⟩;show⟨y r L l hl,r,L,y2i.mpr ⟨l,hl,by simp⟩⟩
def put0(l t:Nat):Nat:=l+l/2^t*2^t
theorem zy3:∀w,w<5->∀t,t<w->∀l,l<2^(w-1)->put0 l t+2^t<2^w:=by decide+kernel
def dropT(m:Mc)(t:Nat):Thg:=⟨m.w-1,λU=>(List.range<|2^(m.w-1)).map λl=>comeL m U [put0 l t,put0 l t+2^t],λU=>U.any m.fin⟩
def DropG(m:Mc)(U:List Nat):Prop:=Rising U/\∀r∈U,r<m.n
theorem zsc:((dropT m t).step U).length=2^(dropT m t).w/\∀u∈(dropT m t).step U,DropG m u:=by
 apply⟨by simp[dropT],λu Y=>?_⟩;let(l,_,rfl):=y0j.mp Y;show⟨ze2,λk D=>zvl D⟩
def zps:Sp:=λvs H Q _=>∃(l t:Nat),vs=[nV l,nV t]/\l<16/\t<=4/\∀p H',New H p (.tup [nV<|put0 l t,nV<|put0 l t+2^t]) H'->Q (.ref p) H'
inductive Gro(T:Thg)(t0:List Nat):List (List Nat)->Nat->Prop where
 |start:Gro T t0 [t0] 0
 |next {fs:List (List Nat)} {k:Nat} {t:List Nat}:Gro T t0 fs k->fs.length<=100->fs[k]?=G t->Gro T t0 (news fs<|T.step t) (k+1)
section
variable {T:Thg}{t0:List Nat}
theorem Gro.one:∀{k:Nat} {fs fs':List (List Nat)},Gro T t0 fs k->Gro T t0 fs' k->fs=fs'
 |0,_,_,.start,.start=>rfl
 |k+1,_,_,.next a _ e,.next b _ Q=>by
  let h:=Gro.one a b;subst h;rw[e]at Q;cases Q;rfl
theorem Gro.before:∀{k':Nat} {fs':List (List Nat)},Gro T t0 fs' k'->∀k,k<k'->∃fs,Gro T t0 fs k/\k<fs.length/\fs.length<=100
 |0,_,_,k,h=>Xa h<|y2n _
 |k'+1,_,.next a hl e,k,h=>by
  by_cases z:k=k'
  .subst z;show⟨_,a,(y09.mp e).1,hl⟩
  .exact Gro.before a k 00
theorem Gro.ends(a:Gro T t0 fs k)(b:Gro T t0 fs' k')(d:fs.length<=k\/100<fs.length)(U:fs'.length<=k'\/100<fs'.length):fs=fs':=by
 rcases y47 k k' with h|h|h
 .let(f,f1,q,L):=b.before k h;rw[Gro.one a f1]at d;omega
 .subst h;show Gro.one a b
 .let(f,f1,q,L):=a.before k' h;rw[Gro.one b f1]at U;omega
theorem Gro.fnd(y:Gq t0)(hs:∀t,Gq t->∀u∈T.step t,Gq u):∀{k:Nat} {fs:List (List Nat)},Gro T t0 fs k->Fnd T Gq t0 fs k
 |0,_,.start=>Fnd.start y
 |k+1,_,.next a _ e=>(Gro.fnd y hs a).next e<|hs _ ((Gro.fnd y hs a).good _<|y0l e)
end
def c0(ps:List Nat):List Nat:=ps.map λ_=>0
structure Frm(tl:List Str):Prop where
 ok:FrOk tl
 four:∀z∈tl,z.length<=4
def mcost:Sy->Nat
 |.bare _ _ _=>1
 |.neg s=>mcost s+1
 |.two _ s t=>max (mcost s) (mcost t)+1
 |.qu w _ s=>if w="all" then mcost s+4 else mcost s+1
end SM
namespace L2
abbrev Key2:=Key ⊕ List Key
def rIskT(K:Frag):List V->Hp->VK->Prop:=λxs H Q=>∃x T k,xs=[x,.ty T]/\T∈["str","list","tuple","bool","int","dict"]/\(Kd H x k\/k="tuple"/\∃a ys,x=.ref a/\SqT K H a ys)/\Q (.bl<|subT k T) H
end L2
namespace SM
open PySem PySem.Spec PyProof.Rows L2 SS
structure LA where
 p:Ad
 dx:Ad
 pf:Ad
 pn:Ad
 ps:Ad
end SM
namespace L2
section
variable {X:Cx}{pins:Y2}{σ:St}{H:Hp}{s:ik}
open Classical in
theorem Inv.froze(I:02 H s)(q:∀x,X.fn x=N):∃Hq,Adopted X σ H Hq/\HOk X.prog X.w Hq s.heap/\(∀b u,H b=G u->Hq b=G u)/\(∀b,¬CellOf X b->Hq b=H b)/\∀b,CellOf X b->X.s₀.heap.objs.size<=b:=by
 letI Hq:Hp:=λb=>if CellOf X b then(s.heap.get? b).map λo=>.frz o (.own b)else H b
 let w:∀b,¬CellOf X b->Hq b=H b:=λb n=>Xp n;let E:∀x c,X.env.cells.lookup x=G c->∃o v,s.heap.get? c=G o/\o.data=.cell v/\Hq c=G (.frz o<|.own c):=λx c e=>by
  let(v,o,j,hd):=I.cell x c e;show⟨o,v,j,hd,by change(if CellOf X c then _ else _)=_;rw[Xq ⟨x,e⟩,j];rfl⟩
 let r:∀b u,H b=G u->¬CellOf X b:=λb u e ⟨x,z⟩=>by rw[I.freeC x b z]at e;cases e
 let ad:Adopted X σ H Hq:=⟨w,λb ⟨x,z⟩=>I.freeC x b z,I.ok.inj,λx c e=>by
  let(o,v,j,hd,A):=E x c e;apply⟨o,v,A,hd,λi y J g Q=>?_⟩;let(m,L,hl):=I.loc;let(u,f,l):=hl i x y J g (by rcases Q with z|z;show .inr<|.inl z;show .inr<|.inr z);rcases l with⟨z,_⟩|⟨_,c',d,D,Y,p⟩
  .rcases Q with a|a<;>(rw[z]at a;cases a)
  .rw[e]at d;cases d;rw[j]at Y;cases Y;rw[hd]at p;cases p;show⟨u,f,R⟩⟩
 let T:∀b,CellOf X b->X.s₀.heap.objs.size<=b:=λb ⟨x,e⟩=>I.ok.cab x b (q x) e;let up:∀b u,H b=G u->Hq b=G u:=λb u e=>by rw[w b<|r b u e];show e
 apply⟨Hq,ad,λb u e=>?_,up,w,T⟩;by_cases C:CellOf X b
 .let(x,ex):=C;let(o,v,j,hd,A):=E x b ex;rw[A]at e;cases e;show⟨j,o,j⟩
 .rw[w b C]at e;show(I.hok b u e).stay (λ_ _ _ z=>z) (λc z=>up c _ z) (λc _ _ _ _ z=>up c _ z) λc xs z=>up c _ z
end
section
variable {P:im}{w:World}{K:Frag}{mg:Y1}{base:Heap}
theorem DfnC.calR{x:Str}{st d1:Stmt}{Nq ps:List Str}{k j:Nat}{sp:Sp}{c Pt:Ad}{y:Str}{py pr:Pos}(d:DfnC K mg x st ps c Pt)(S:FnScope Nq ps<|defScope st)(len:∀vs H Q E,sp vs H Q E->vs.length=ps.length)
  (U:defBody st=[d1,.Return (G<|.Name y py) pr]) (hj:Nq[j]?=G y) (hv:Vis (defScope st) y) (aq:(y==("__debug__":Str))=Fa) (hcd:(y==("__classdict__":Str))=Fa)
  (i:∀(f:Ad) (A:ir) (outer:List Env) (s:ik) (H:Hp) (vs:List V) (Q:VK) (E:XK),Room k (A.deeper<|jl x (defScope st) s.heap.objs.size f (.ref c))->sp vs H Q E->
   ∃t,PS (cxOf CX0 P w K mg base Nq x (defScope st) f (.ref c) A outer s H E) d1 t/\
    t {nx:=λσ H'=>∃v,σ[j]?=G (G v)/\∀Hq,Adopted (cxOf CX0 P w K mg base Nq x (defScope st) f (.ref c) A outer s H E) σ H' Hq->Q v Hq,rt:=λ_ _=>False} (start Nq vs) H):03 (k+1) x ps sp:=by
 let(f,fd,F,b,m):=d.ex;let(oc,od,kV,doc,pm,an,ct,osl,rfl,lk,hcd'):=F.ex;apply⟨f,_,⟨len,λA outer s H args us vs Q E L M hb' r Y=>?_⟩,b,F.kp,m⟩;let hl:=len _ _ _ _ Y;let KX:K.In s.heap:=M.mod.kin.keeps λb o e=>(M.bs b o e).1;let a:s.heap.NoLimit:=M.mod.nolimit.keeps λb o e=>(M.bs b o e).1;let gm:∀y∈ps.zip us,(defScope st).names.lookup y.1=G .local\/((defScope st).names.lookup y.1=G .cell/\((i0 (s.heap.objs.size+1) (defScope st).names []).lookup y.1).isSome=N):=λ⟨n,v⟩ hy=>by
  rcases S.par n (y2d hy).1 with q|q
  .exact .inl q
  .exact .inr ⟨q,PySem.W.cellsFrom_some _ _ _<|.inl q⟩
 apply jg L.depth (KX _ _ lk) R S.co S.gen R (PySem.W.codeRec_of KX hcd')<|hb' _ _ _ _ ?_;apply jA S.kind gm λenv he s1 x1=>?_;subst he;apply⟨a.keeps x1.toInCall.keep,jW ?_⟩;let(t,p,hq):=i f A outer s H vs Q E (L.deeper _) Y;let I:Inv (cxOf CX0 P w K mg base Nq x (defScope st) f (.ref c) A outer s H E) [] (start Nq vs) H s1:=zj5 S L.hd M hl r x1;let aa:wpAny (model P w) (A.deeper<|jl x (defScope st) s.heap.objs.size f (.ref c)) (execs (defBody st)<|jl x (defScope st) s.heap.objs.size f (.ref c))
   (λD s'=>∃u,D=.ret u/\CE outer P w H s Q u s') (cxOf CX0 P w K mg base Nq x (defScope st) f (.ref c) A outer s H E).xe s1:=by
  rw[U];apply iP<|thn (p [] s1 (start Nq vs) H _ I hq) λD s2 hs=>?_;cases D with
  |ret u=>let(_,_,_,_,_,q):=hs;show False.elim q
  |brk=>let(_,_,_,q):=hs;show False.elim q
  |cont=>let(_,_,_,q):=hs;show False.elim q
  |next =>
   let(l,H',J,v,ev,q):=hs;apply iP<|wpAny_Return_some (thn (zf1 (X:=cxOf CX0 P w K mg base Nq x (defScope st) f (.ref c) A outer s H E) (pos:=py) hj hv aq hcd [] s2 l H' (λz Hz=>z=v/\Hz=H') J<|zeb ev ⟨R,R⟩) λu s3 ⟨z,Hz,J3,rz,e1,g⟩=>?_);subst e1 g;let(Hq,ad,hok,up,nc,T):=J3.froze λ_=>rfl;let un:=J3.base;let old:∀b o,s.heap.get? b=G o->¬CellOf (cxOf CX0 P w K mg base Nq x (defScope st) f (.ref c) A outer s H E) b:=λb o e C=>Xa (y0p (y0e e)<|T b C)<|y1g _;show⟨u,R,z,Hq,J3.os,J3.bare,⟨un.keep,un.slot,λb o e n O=>by rw[nc b<|old b o e];show un.free b o e n O,un.there,λb xs e=>up _ _<|un.tups b xs e,λb o u e=>up _ _<|un.frzs b o u e,λb qs ps e=>up _ _<|un.tbls b qs ps e⟩,hok,rz,q Hq ad⟩
 apply iy aa (λD s' hs=>?_) λe s' hs=>hs;let(u,rfl,h):=hs;show h
end
section
variable {X:Cx}{c P:Ad}{qs:Y3}{name qual:Str}{params:iK}{scope:Scope}{pos:Pos}
theorem zt0(C:X.env.code=.ref c)(Y:KCode X.K c P)(x:BltK X.base X.mg)(g:∀p∈scope.names,p.2=.free->X.env.kindOf p.1=G .cell\/X.env.kindOf p.1=G .free)(nd:docOf body=B)
  (A:(pos,qual)∈qs) (i:∀p∈qs,p.1.line=pos.line->p.1.col=pos.col->p.2=qual) (hd:params.defaults=[]) (U:params.kw_defaults=[]) (d:∀e,annTrees params B e=[]) (a:lB X.env name name=qual)
  (hN:X.Nq.Nodup) (o:X.Nq[j]?=G name) (O:Loc X.env.scope name) (L:X.fn name=N):PS X (.FunctionDef name params body [] B [] scope B name pos) (tDef X P qs name qual params (.stmts body) scope j):=by
 intro pins s σ H D I h;let(T,h):=h;rw[exec_def];let l:defaultsOf params X.env=([],[]):=by rw[defaultsOf_eq,hd,U];rfl
 simp only[l,d,a];apply ig<|iW (ig<|iu (ig<|ii (ig<|iu (ii<|iu (ig<|ii ?_)))));apply zlw I C Y x g nd T A i λf H' s' r M=>ig<|iW (ig<|wpAny_bindName ?_);show zcw r hN o O (v:=.ref f) R (λs2 Q=>ii ⟨_,H',Q,h f H' M⟩)<|.inl L
theorem zw9(qual:Str)(C:X.env.code=.ref c)(Y:KCode X.K c P)(x:BltK X.base X.mg)(g:freeOk X.env scope=N)(A:oneOk qs pos qual=N)(hN:X.Nq.Nodup)(o:X.Nq[j]?=G name)(O:Loc X.env.scope name)(T:X.fn name=N)(nd:docOf body=B:=by rfl)
  (hd:params.defaults=[]:=by rfl) (D:params.kw_defaults=[]:=by rfl) (d:∀e,annTrees params B e=[]:=by intro e;rfl) (a:lB X.env name name=qual:=by rfl) :
  PS X (.FunctionDef name params body [] B [] scope B name pos) (tDef X P qs name qual params (.stmts body) scope j):=zt0 C Y x (freeOk.of g) nd (oneOk.mem A) (oneOk.one A) hd D d a hN o O T
end
def FnNd(Nq:List Str):Prop:=Nq.Nodup
instance (Nq:List Str):Decidable (FnNd Nq):=inferInstanceAs<|Decidable Nq.Nodup
theorem FnNd.nd(h:FnNd Nq):Nq.Nodup:=h
structure CalF(P:im)(w:World)(K:Frag)(mg:Y1)(base:Heap)(n:Nat)(f:Ad)(ps:List Str)(sp:Sp):Prop where
 ex:∃fd,FnOk P w K mg base CX0 n f fd ps sp/\Binds K fd ps []/\PySem.W.keepIn K (.ref f)=N
theorem Cal.fn{P:im}{w:World}{K:Frag}{mg:Y1}{base:Heap}{n:Nat}{x:Str}{ps:List Str}{sp:Sp}(C:03 n x ps sp):∃f,CalF P w K mg base n f ps sp/\mg x=G (.ref f):=by
 let(f,fd,F,b,k,m):=C.ex;show⟨f,⟨fd,F,b,k⟩,m⟩
def tCallG(f:Ad)(sp:Sp)(i:Nat)(t:TA):TE:=λσ H Q=>σ[i]?=G (G<|.ref f)/\t σ H λvs H1=>sp vs H1 Q E0
theorem zh7{X:Cx}{x:Str}{i k n:Nat}{f:Ad}{ps:List Str}{sp:Sp}{p pos:Pos}{e:Expr}{l:List Expr}{t:TA}(C:CalF X.prog X.w X.K X.mg X.base n f ps sp)(L:Room k X.A)(v:n<=k)(d:PA X (e::l) t)(hN:X.Nq[i]?=G x:=by rfl)(hv:Vis X.env.scope x:=by first|show Or.inl rfl|show Or.inr (Or.inl R)|show Or.inr (Or.inr R))
  (hd:(x==("__debug__":Str))=Fa:=by decide) (hcd:(x==("__classdict__":Str))=Fa:=by decide) (Y:notStar e=N:=by rfl) (M:l.all notStar=N:=by rfl) :
  PE X (.Call (.Name x p) (e::l) [] pos) (tCallG f sp i t):=by
 intro pins s σ H Q I h;let(fd,F,b,D):=C.ex;let(hs,h):=h;ac_rfl;let(J,g):=zq;subst J g;cases(show u=Va.ref f from r1);apply PySem.W.callWith_K (h₀:=X.base) I1.ok.mod.kin D (thn (d pos pins s1 σ _ _ I1 h) λus s2 zz=>ex5 zz λvs H2 O r q=>⟨O.kIn,?_⟩) (zat Y)<|zbe M;show zp4 F (L.mono v) b .nil pass0 O r (by rw[y1k];show q)
def CloHE(P:im)(w:World)(K:Frag)(mg:Y1)(base:Heap)(k:Nat)(H:Hp)(f:Ad)(n:Nat)(sp:Sp):Prop :=
 ∀(A:ir) (outer:List Env) (s:ik) (H':Hp) (us:List Va) (vs:List V) (Q:VK) (E:XK),Room k A->Env0 P w K mg base A outer s H'->Frz H H'->Vals vs us->vs.length=n->sp vs H' Q E->
  iY (model P w) A (.call (.ref f) ⟨us,[]⟩) (CR (CXE P w) outer P w H' s Q E) s
theorem CloHE.mono{P:im}{w:World}{K:Frag}{mg:Y1}{base:Heap}{k:Nat}{H H1:Hp}{f:Ad}{n:Nat}{sp:Sp}(c:CloHE P w K mg base k H f n sp)(g:Frz H H1):CloHE P w K mg base k H1 f n sp :=
 λA outer s H' us vs Q E L M O=>c A outer s H' us vs Q E L M<|g.trans O
def EL(cl:Y4)(H:Hp)(E:XK):XK:=λc a H2=>(∀b,InCl cl b->H2 b=B)->E c a (mixL cl H H2)
noncomputable def cxLE(P:im)(w:World)(K:Frag)(mg:Y1)(base:Heap)(Nq:List Str)(qual:Str)(scope:Scope)(cl:Y4)(f:Ad)(cd:Va)(A:ir)(outer:List Env)(s:ik)(H:Hp)(E:XK):Cx :=
 (cxL P w K mg base Nq qual scope cl f cd A outer s H).wish λe s'=>wpAny (model P w) (A.deeper<|envL qual scope cl s.heap.objs.size f cd) (lj (envL qual scope cl s.heap.objs.size f cd) e) (λ_ d=>CXE P w outer (dropL cl H) s (EL cl H E) e d) (λQ d=>CXE P w outer (dropL cl H) s (EL cl H E) Q d) s'
section
variable {P:im}{w:World}{K:Frag}{mg:Y1}{base:Heap}{A:ir}{outer:List Env}{s:ik}{H:Hp}{own ps cap:List Str}{qual:Str}{scope:Scope}{cl:Y4}{f:Ad}{cd:Va}{vs cv:List V}{us:List Va}
theorem zj0{s':ik}(M:Env0 P w K mg base A outer s H)(D:ClOk cl H)(un:Un (frs outer) [] (dropL cl H) H2 s.heap s'.heap)(hok:HOk P w H2 s'.heap):
  Un (frs outer) [] H (mixL cl H H2) s.heap s'.heap/\HOk P w (mixL cl H H2) s'.heap/\(∀b,InCl cl b->H2 b=B)/\∀x c,cl.lookup x=G c->∃o,H c=G (.frz o<|.own c)/\s.heap.get? c=G o/\s'.heap.get? c=G o/\∃v,o.data=.cell v:=by
 classical
 let p:∀b,¬InCl cl b->dropL cl H b=H b:=λb n=>Xp n;let i:∀b,¬InCl cl b->mixL cl H H2 b=H2 b:=λb n=>Xp n;let d:∀b,H b=B->¬InCl cl b:=λb e ⟨x,z⟩=>by
  let(o,v,E,_):=D x b z;rw[E]at e;cases e
 let Y:∀x c,cl.lookup x=G c->∃o,H c=G (.frz o<|.own c)/\s.heap.get? c=G o/\s'.heap.get? c=G o/\H2 c=B/\∃v,o.data=.cell v:=λx c e=>by
  let(o,v,z,q):=D x c e;let j:=(M.hok c _ z).1;let r:dropL cl H c=B:=Xq ⟨x,e⟩;let l:c∉frs outer:=λU=>by rw[M.frf c U]at z;cases z
  show⟨o,z,j,un.keep c o j r l (by simp),un.free c o j r (by simp),v,q⟩
 let nm:∀b u,H2 b=G u->¬InCl cl b:=λb u e ⟨x,z⟩=>by
  let(_,_,_,_,E,_):=Y x b z;rw[E]at e;cases e
 apply⟨⟨λb o e n T O=>un.keep b o e (by rw[p b<|d b n];show n) T O,λb o e n T O=>un.slot b o e (by rw[p b<|d b n];show n) T O,λb o e n O=>by rw[i b<|d b n];show un.free b o e (by rw[p b<|d b n];show n) O,un.there,λb xs e=>?_,λb o a e=>?_,λb qs ps e=>?_⟩,λb u e=>?_,λb ⟨x,z⟩=>(let⟨_,_,_,_,E,_⟩:=Y x b z;E),λx c e=>let⟨o,g,L,a3,_,J⟩:=Y x c e;⟨o,g,L,a3,J⟩⟩
 .let C:=zbq D e λ_ _ y=>nomatch y;rw[i b C];show un.tups b xs (by rw[p b C];show e)
 .by_cases C:InCl cl b
  .change(if InCl cl b then H b else H2 b)=_;rw[Xq C];show e
  .rw[i b C];show un.frzs b o a (by rw[p b C];show e)
 .let C:=zbq D e λ_ _ y=>nomatch y;rw[i b C];show un.tbls b qs ps (by rw[p b C];show e)
 .by_cases C:InCl cl b
  .let Q:H b=G u:=by rw[←e];show(Xq C).symm
   let(x,z):=C;let(o,I,_,E,_):=Y x b z;rw[I]at Q;cases Q;show⟨E,o,E⟩
  .rw[i b C]at e;show(hok b u e).stay (λ_ _ _ z=>z) (λc z=>by rw[i c<|nm c _ z];show z) (λc _ _ _ _ z=>by rw[i c<|nm c _ z];show z) λc xs z=>by rw[i c<|nm c _ z];show z
theorem zsn(e0:Env0 P w K mg base A outer s H)(D:ClOk cl H)(h:CXE P w outer (dropL cl H) s (EL cl H E) e s'):CXE P w outer H s E e s':=by
 classical
 let(a,cls,H2,rfl,os,bare,un,hok,(v,vs,T,g,ts,j,p,O,J,d,u,q,C,I,c,Y,M),Q):=h;let(L,r,U,l):=zj0 e0 D un hok;let out:∀b,s.heap.get? b=B->¬InCl cl b:=λb e ⟨x,z⟩=>by
  let(o,_,y,_):=l x b z;rw[e]at y;cases y
 let i:∀b,¬InCl cl b->mixL cl H H2 b=H2 b:=λb n=>Xp n;show⟨a,cls,mixL cl H H2,R,os,bare,L,r,⟨v,vs,T,g,ts,j,p,O,J,d,u,q,C,I,c,(i a<|out a I).trans Y,(i T<|out T c).trans M⟩,Q U⟩
end
section
variable {P:im}{w:World}{K:Frag}{mg:Y1}{base:Heap}{H:Hp}{own ps cap:List Str}{name qual:Str}{params:iK}{scope:Scope}{cl:Y4}{f c':Ad}{oc:Obj}{ct pm:Va}{cv:List V}{k:Nat}{sp:Sp}
theorem zo6(S:CloScope own ps cap scope)(bg:ps.length<=own.length)(T:H f=G (fnO (cloFd name qual params (.stmts body) scope cl ct (.ref c') pm) f))(bh:H c'=G (.frz oc<|.own c'))(co:CodeObj oc qual)
  (D:ClOk cl H) (g:∀p∈scope.names,p.2=.free->∃c,cl.lookup p.1=G c) (inj:∀x y c,cl.lookup x=G c->cl.lookup y=G c->x=y) (U:Caps H cl cap cv)
  (a:∀us:List Va,us.length=ps.length->iZ (cloFd name qual params (.stmts body) scope cl ct (.ref c') pm) ⟨us,[]⟩=pure (ps.zip us))
  (i:∀(A:ir) (outer:List Env) (s:ik) (H':Hp) (vs:List V) (Q:VK) (E:XK),Room k (A.deeper<|envL qual scope cl s.heap.objs.size f (.ref c'))->Env0 P w K mg base A outer s H'->Frz H H'->ClOk cl H'->vs.length=ps.length->sp vs H' Q E->Rs (cxLE P w K mg base (own++cap) qual scope cl f (.ref c') A outer s H' E) (EL cl H' E)->
   ∃t,PSs (cxLE P w K mg base (own++cap) qual scope cl f (.ref c') A outer s H' E) body t/\t {nx:=λ_ H2=>(∀b,InCl cl b->H2 b=B)->Q .non (mixL cl H' H2),rt:=λv H2=>(∀b,InCl cl b->H2 b=B)->Q v (mixL cl H' H2)} (stL own vs cv) (dropL cl H')):CloHE P w K mg base (k+1) H f ps.length sp:=by
 intro A outer s H' us vs Q E L M O r hl Y;let KX:K.In s.heap:=M.mod.kin.keeps λb o e=>(M.bs b o e).1;let dr:s.heap.NoLimit:=M.mod.nolimit.keeps λb o e=>(M.bs b o e).1;let j:=(M.hok f _<|O _ _ _ T).1;let de:=(M.hok c' _<|O _ _ _ bh).1;let(ws,t',m9,ly):=co;let ma:us.length=ps.length:=by rw[←r.length];show hl
 let az:ClOk cl H':=λx c e=>let⟨o,v,z,d⟩:=D x c e;⟨o,v,O _ _ _ z,d⟩;apply jg L.depth j R S.co S.gen R ⟨c',oc,ws,t',R,de,m9,ly⟩ ?_;rw[a us ma];apply ii<|newEnvL S (λy C=>S.par y.1 (y2d<|show(y.1,y.2)∈ps.zip us from C).1) λs1 x=>?_;apply⟨dr.keeps x.toInCall.keep,jW ?_⟩;let(t,ht,hq):=i A outer s H' vs Q E (L.deeper _) M O az hl Y ⟨R,R,R,λ_ _ h=>h⟩;let I:=zif (qual:=qual) (f:=f) (cd:=.ref c') S.m L.hd M hl bg r az g inj (U.frz O) x;rw[zso S.nocell]at I;apply iy (ht [] _ _ _ _ (I.wish _) hq) (λfl s' hs=>?_) λe s' hs=>iy hs (λ_ s'' z=>zsn M az z) λe' s'' z=>zsn M az z;let hs:=SP.unwish hs;cases fl with
 |ret u =>
  let(v,l,H2,J,rv,q):=hs;show zd5 M az (by rw[zso S.nocell];show J) rv q
 |next =>
  let(l,H2,J,q):=hs;show zd5 (v:=V.non) (u:=Va.none) M az (by rw[zso S.nocell];show J) R q
 |brk =>
  let(_,_,_,q):=hs;show False.elim q
 |cont =>
  let(_,_,_,q):=hs;show False.elim q
end
section
variable {X:Cx}{H H1 H1' Hq:Hp}{σ:St}{name qual:Str}{params:iK}{scope:Scope}{f:Ad}{own ps cap:List Str}{cv:List V}{k:Nat}{sp:Sp}
theorem Made.clo_sE(M:Made X H H1 name qual params (.stmts body) scope f)(g:Same H1 H1')(ad:Adopted X σ H1' Hq)(S:CloScope own ps cap scope)(j:ps.length<=own.length)(U:CapAt X σ cap cv)
  (a:∀(cl:Y4) (ct cd p:Va) (us:List Va),us.length=ps.length->iZ (cloFd name qual params (.stmts body) scope cl ct cd p) ⟨us,[]⟩=pure (ps.zip us))
  (i:∀(cl:Y4) (c':Ad) (A:ir) (outer:List Env) (s:ik) (H':Hp) (vs:List V) (Q:VK) (E:XK),Room k (A.deeper<|envL qual scope cl s.heap.objs.size f (.ref c'))->Env0 X.prog X.w X.K X.mg X.base A outer s H'->ClOk cl H'->Frz Hq H'->Frz H1' (dropL cl H')->vs.length=ps.length->sp vs H' Q E->Rs (cxLE X.prog X.w X.K X.mg X.base (own++cap) qual scope cl f (.ref c') A outer s H' E) (EL cl H' E)->
   ∃t,PSs (cxLE X.prog X.w X.K X.mg X.base (own++cap) qual scope cl f (.ref c') A outer s H' E) body t/\t {nx:=λ_ H2=>(∀b,InCl cl b->H2 b=B)->Q .non (mixL cl H' H2),rt:=λv H2=>(∀b,InCl cl b->H2 b=B)->Q v (mixL cl H' H2)} (stL own vs cv) (dropL cl H')):CloHE X.prog X.w X.K X.mg X.base (k+1) Hq f ps.length sp:=by
 let(cl,ct,c',oc,p,l1,l2,C,w,l):=M.ex;let D:ClOk cl Hq:=λx c e=>let⟨o,v,I,z,_⟩:=ad.2.2.2 x c<|l1 x c e;⟨o,v,I,z⟩;let up:=ad.up;apply zo6 S j (up _ _<|g _ _ l) (up _ _<|g _ _ C) w D l2 (λx y c J q=>ad.2.2.1 x y c (l1 x c J)<|l1 y c q) (zgf ad l1 (λx O=>l2 (x,.free) (mem_of_lookup'<|S.cap x O) R) U) (a cl ct _ p) λA outer s H' vs Q E L u r d hl Y Rq=>?_;show i cl c' A outer s H' vs Q E L u d r (zfn ad l1 r) hl Y Rq
end
section
variable {X:Cx}
def tCallVE(P:im)(w:World)(K:Frag)(mg:Y1)(base:Heap)(k n:Nat)(sp:Sp)(E:XK)(i:Nat)(t:TA):TE:=λσ H Q=>∃f fd,σ[i]?=G (G<|.ref f)/\H f=G (fnO fd f)/\
 t σ H λvs H1=>H1 f=G (fnO fd f)/\CloHE P w K mg base k H1 f n sp/\vs.length=n/\sp vs H1 Q E
theorem zvd{pins:Y2}{σ:St}{f:Ad}{fd:i5}{H2:Hp}{s2:ik}(O:02 H2 s2)(j:H2 f=G (fnO fd f)):PySem.W.Frag.In [(f,{cls:=.type "function",data:=.func fd})] s2.heap:=λa o e=>by
 simp only[List.lookup]at e;split at e
 .rename_i q;cases e;rw[beq_iff_eq.mp q];show(O.hok f _ j).1
 .cases e
theorem zqm{x:Str}{i k n:Nat}{sp:Sp}{E:XK}{p pos:Pos}{e:Expr}{l:List Expr}{t:TA}(Rq:Rs X E)(hN:X.Nq[i]?=G x)(hv:Vis X.env.scope x)(L:Room k X.A)(d:PA X (e::l) t)
  (hd:(x==("__debug__":Str))=Fa:=by decide) (hcd:(x==("__classdict__":Str))=Fa:=by decide) (Y:notStar e=N:=by rfl) (M:l.all notStar=N:=by rfl) :
  PE X (.Call (.Name x p) (e::l) [] pos) (tCallVE X.prog X.w X.K X.mg X.base k n sp E i t):=by
 intro pins s σ H Q I h;let(f,fd,hs,T,h):=h;ac_rfl;let(J,g):=zq;subst J g;cases(show u=Va.ref f from r1);apply PySem.W.callWith_K (K:=[(f,{cls:=.type "function",data:=.func fd})]) (h₀:=s1.heap) (zvd I1 T) (zid f fd) (thn (d pos pins s1 σ H1 _ I1 h) λus s2 ⟨vs,H2,O,r,j,c,hl,q⟩=>⟨zvd O j,?_⟩) (zat Y)<|zbe M;apply jm<|iG (c X.A X.stack s2 H2 us vs Q E L O.env0 (Frz.refl _) r hl q) λr s' A=>?_;cases r with
 |error e=>show Rq.xe e s'<|zc5 O Rq.ex Rq.st Rq.fr A λ_ _ _ z=>z
 |ok D =>
  cases D with
  |ret u=>show O.after A
  |next=>show False.elim A
  |brk=>show False.elim A
  |cont=>show False.elim A
structure CalFE(P:im)(w:World)(K:Frag)(mg:Y1)(base:Heap)(n:Nat)(f:Ad)(ps:List Str)(sp:Sp):Prop where
 ex:∃fd,FnOk P w K mg base (CXE P w) n f fd ps sp/\Binds K fd ps []/\PySem.W.keepIn K (.ref f)=N
def tCallGE(f:Ad)(sp:Sp)(E:XK)(i:Nat)(t:TA):TE:=λσ H Q=>σ[i]?=G (G<|.ref f)/\t σ H λvs H1=>sp vs H1 Q E
theorem zdw{x:Str}{i k n:Nat}{f:Ad}{ps:List Str}{sp:Sp}{E:XK}{p pos:Pos}{e:Expr}{l:List Expr}{t:TA}(Rq:Rs X E)(C:CalFE X.prog X.w X.K X.mg X.base n f ps sp)(L:Room k X.A)(v:n<=k)(d:PA X (e::l) t)(hN:X.Nq[i]?=G x:=by rfl)(hv:Vis X.env.scope x:=by first|show Or.inl rfl|show Or.inr (Or.inl R)|show Or.inr (Or.inr R))
  (hd:(x==("__debug__":Str))=Fa:=by decide) (hcd:(x==("__classdict__":Str))=Fa:=by decide) (Y:notStar e=N:=by rfl) (M:l.all notStar=N:=by rfl) :
  PE X (.Call (.Name x p) (e::l) [] pos) (tCallGE f sp E i t):=by
 intro pins s σ H Q I h;let(fd,F,b,D):=C.ex;let(hs,h):=h;ac_rfl;let(J,g):=zq;subst J g;cases(show u=Va.ref f from r1);apply PySem.W.callWith_K (h₀:=X.base) I1.ok.mod.kin D (thn (d pos pins s1 σ _ _ I1 h) λus s2 zz=>ex5 zz λvs H2 O r q=>⟨O.kIn,?_⟩) (zat Y)<|zbe M;show zp4 F (L.mono v) b .nil (Rq.passes λ_ _ _ z=>z) O r (by rw[y1k];show q)
end
section
variable {P:im}{w:World}{cl:Y4}
theorem zhk{st:List Env}{H1 H2 Hq:Hp}{h h':Heap}(Q:∀b,¬InCl cl b->Hq b=H1 b)(q0:∀b,InCl cl b->H1 b=B)(I:∀x c,cl.lookup x=G c->∃o v,h.get? c=G o/\o.data=.cell v/\Hq c=G (.frz o<|.own c))(f:∀b∈frs st,¬InCl cl b)
  (un:Un (frs st) [] Hq H2 h h') (d:HOk P w H2 h'):Un (frs st) [] H1 (dropL cl H2) h h'/\HOk P w (dropL cl H2) h':=by
 classical
 let U:∀x c,cl.lookup x=G c->∃o v,h.get? c=G o/\o.data=.cell v/\H2 c=G (.frz o<|.own c)/\h'.get? c=G o:=λx c e=>by
  let(o,v,j,hd,A):=I x c e;let z:=un.frzs c o _ A;show⟨o,v,j,hd,z,(d c _ z).1⟩
 let p:∀b,¬InCl cl b->dropL cl H2 b=H2 b:=λb n=>Xp n;let l:∀b u,H1 b=G u->¬InCl cl b:=λb u e C=>by rw[q0 b C]at e;cases e
 let up:∀b u,H1 b=G u->Hq b=G u:=λb u e=>by rw[Q b<|l b u e];show e
 let g:∀b o u q,CodeObj o q->H2 b=G (.frz o u)->¬InCl cl b:=λb o u q ⟨vs,t,hv,_⟩ e ⟨x,z⟩=>by
  let(D,v,Y,hd,E,_):=U x b z;rw[E]at e;cases e;rw[hv]at hd;cases hd
 let nm:∀b u,H2 b=G u->(∀o a,u ≠ .frz o a)->¬InCl cl b:=λb u e n ⟨x,z⟩=>by
  let(o,_,_,_,E,_):=U x b z;rw[E]at e;cases e;show n _ _ R
 apply⟨⟨λb o e n T O=>?_,λb o e n T O=>?_,λb o e n O=>?_,λb o e O=>?_,λb xs e=>?_,λb o a e=>?_,λb qs ps e=>?_⟩,λb u e=>?_⟩
 .by_cases C:InCl cl b
  .let(x,ex):=C;let(D,_,Y,_,_,z):=U x b ex;rw[e]at Y;cases Y;show z
  .exact un.keep b o e (by rw[Q b C];show n) T O
 .exact un.slot b o e (by rw[Q b<|f b T];show n) T O
 .by_cases C:InCl cl b
  .exact Xq C
  .rw[p b C];show un.free b o e (by rw[Q b C];show n) O
 .exact un.there b o e O
 .rw[p b<|l b _ e];show un.tups b xs<|up b _ e
 .rw[p b<|l b _ e];show un.frzs b o a<|up b _ e
 .rw[p b<|l b _ e];show un.tbls b qs ps<|up b _ e
 .let C:¬InCl cl b:=λC=>by
   let:dropL cl H2 b=B:=Xq C;rw[this]at e;cases e
  rw[p b C]at e;show(d b u e).stay (λ_ _ _ z=>z) (λc z=>by rw[p c<|nm c _ z λ_ _ y=>nomatch y];show z) (λc o a q co z=>by rw[p c<|g c o a q co z];show z) λc xs z=>by rw[p c<|nm c _ z λ_ _ y=>nomatch y];show z
theorem zxx(g:Frz (dropL cl H) H1):Frz H (mixL cl H H1):=λb o u e=>by
 classical
 change(if InCl cl b then H b else H1 b)=_;by_cases C:InCl cl b
 .rw[Xq C];show e
 .rw[Xp C];show g b o u (by change(if InCl cl b then B else H b)=_;rw[Xp C];show e)
theorem zka(q0:∀b,InCl cl b->H1 b=B)(g:Same (mixL cl H H1) H2):Same H1 (dropL cl H2):=λb u e=>by
 classical
 let C:¬InCl cl b:=λC=>by rw[q0 b C]at e;cases e
 change(if InCl cl b then B else H2 b)=G u;rw[Xp C];show g b u (by change(if InCl cl b then H b else H1 b)=G u;rw[Xp C];show e)
end
def tCallVLE(P:im)(w:World)(K:Frag)(mg:Y1)(base:Heap)(cl:Y4)(p:Hp)(k n:Nat)(sp:Sp)(E:XK)(i:Nat)(t:TA):TE:=λσ H Q=>∃f fd,σ[i]?=G (G<|.ref f)/\H f=G (fnO fd f)/\
 t σ H λvs H1=>(∀b,InCl cl b->H1 b=B)->H1 f=G (fnO fd f)/\CloHE P w K mg base k (mixL cl p H1) f n sp/\vs.length=n/\sp vs (mixL cl p H1) (λv H2=>Q v<|dropL cl H2) λc a H2=>EL cl p E c a<|dropL cl H2
theorem zbp{P:im}{w:World}{K:Frag}{mg:Y1}{base:Heap}{Nq:List Str}{qual:Str}{scope:Scope}{cl:Y4}{f0:Ad}{cd:Va}{A:ir}{outer:List Env}{y:ik}{H0:Hp}{E:XK}
  {x:Str} {i k n:Nat} {sp:Sp} {p pos:Pos} {e:Expr} {l:List Expr} {t:TA} (e0:Env0 P w K mg base A outer y H0) (D:ClOk cl H0) (Rq:Rs (cxLE P w K mg base Nq qual scope cl f0 cd A outer y H0 E)<|EL cl H0 E) (hN:Nq[i]?=G x) (hv:Vis scope x)
  (L:Room k (cxLE P w K mg base Nq qual scope cl f0 cd A outer y H0 E).A) (d:PA (cxLE P w K mg base Nq qual scope cl f0 cd A outer y H0 E) (e::l) t)
  (hd:(x==("__debug__":Str))=Fa:=by decide) (hcd:(x==("__classdict__":Str))=Fa:=by decide) (Y:notStar e=N:=by rfl) (M:l.all notStar=N:=by rfl) :
  PE (cxLE P w K mg base Nq qual scope cl f0 cd A outer y H0 E) (.Call (.Name x p) (e::l) [] pos) (tCallVLE P w K mg base cl H0 k n sp E i t):=by
 classical
 intro pins s σ H Q I h;let(f,fd,hs,hf,h):=h;ac_rfl;let(J,g):=zq;subst J g;cases(show u=Va.ref f from r1);apply PySem.W.callWith_K (K:=[(f,{cls:=.type "function",data:=.func fd})]) (h₀:=s1.heap) (zvd I1 hf) (zid f fd) (thn (d pos pins s1 σ H1 _ I1 h) λus s2 zz=>ex5 zz λvs H2 O r q=>?_) (zat Y)<|zbe M;let un2:Un (frs outer) [] (dropL cl H0) H2 y.heap s2.heap:=O.base;let(p1,p2,p3,p4):=zj0 e0 D un2 O.hok;let(hf2,c,hl,q):=q p3;apply⟨zvd O hf2,?_⟩;let m1:∀b,¬InCl cl b->mixL cl H0 H2 b=H2 b:=λb n=>Xp n;let mz:∀b,InCl cl b->mixL cl H0 H2 b=H0 b:=λb n=>Xq n;let ie:=O.env0;let d6:∀b∈frs (cxLE P w K mg base Nq qual scope cl f0 cd A outer y H0 E).stack,¬InCl cl b:=λb U ⟨x,z⟩=>by
  let(o,a1,a2,_):=p4 x b z;rcases y06.mp (O.stkSub b U)with w'|w'
  .let ac:b<y.heap.objs.size:=y0e a2;rw[w']at ac;show y1g _<|show y.heap.objs.size<y.heap.objs.size from ac
  .rw[e0.frf b w']at a1;cases a1
 let l7:Env0 P w K mg base (cxLE P w K mg base Nq qual scope cl f0 cd A outer y H0 E).A (cxLE P w K mg base Nq qual scope cl f0 cd A outer y H0 E).stack s2 (mixL cl H0 H2):=⟨ie.frames,ie.mod,λb o e=>⟨(ie.bs b o e).1,by
  by_cases C:InCl cl b
  .rw[mz b C];show(e0.bs b o e).2
  .rw[m1 b C];show(ie.bs b o e).2⟩,ie.bsz,ie.funs,λb U=>by rw[m1 b<|d6 b U];show ie.frf b U,p2,ie.bare⟩
 let c1:∀x c,cl.lookup x=G c->∃o v,s2.heap.get? c=G o/\o.data=.cell v/\mixL cl H0 H2 c=G (.frz o<|.own c):=λx c e=>by
  let(o,a1,a2,a3,v,a4):=p4 x c e;show⟨o,v,a3,a4,by rw[mz c ⟨x,e⟩];show a1⟩
 apply jm<|iG (c _ _ s2 (mixL cl H0 H2) us vs _ _ L l7 (Frz.refl _) r hl q) λr s' hq=>?_;cases r with
 |error e =>
  let(a,cls,H3,rfl,os,bare,un,me,(oe,cf,T,oT,ts,j,t2,t3,t4,t5,t6,t7,t8,n1,n2,g1,g2),ee):=hq;let(d1,d2):=zhk m1 p3 c1 d6 un me;let dn:∀b,H3 b=B->dropL cl H3 b=B:=λb e=>by
   by_cases C:InCl cl b
   .exact Xq C
   .exact(Xp C).trans e
  show Rq.xe _ s'<|zc5 (E':=EL cl H0 E) O Rq.ex Rq.st Rq.fr ⟨a,cls,dropL cl H3,R,os,bare,d1,d2,⟨oe,cf,T,oT,ts,j,t2,t3,t4,t5,t6,t7,t8,n1,n2,dn _ g1,dn _ g2⟩,ee⟩ λ_ _ _ z=>z
 |ok fl =>
  cases fl with
  |ret u =>
   let(v,H3,os,bare,un,me,rv,qq):=hq;let(d1,d2):=zhk m1 p3 c1 d6 un me;show O.after ⟨v,dropL cl H3,os,bare,d1,d2,rv,qq⟩
  |next=>show False.elim hq
  |brk=>show False.elim hq
  |cont=>show False.elim hq
def rSortF(P:im)(w:World):List V->Hp->VK->Prop:=λxs H Q=>∃(p:Ad) (ns F:List Int),xs=[.ref p]/\H p=G (setI P w p ns)/\F.length<64/\(∀k∈ns,k∈F)/\∀(ms:List Int),ms.Pairwise (· < ·)->(∀k,k∈ms↔k∈ns)->∀L H',New H L (.lst<|ms.map V.int) H'->Q (.ref L) H'
open PyProof.Rows.LSm
end L2
namespace SM
open PySem PySem.Spec PyProof.Rows L2 SS
theorem Rep.ts(r:Rep H v s)(g:TupS H H'):Rep H' v s:=by
 induction r with
 |bare j e=>show .bare j<|g _ _ e
 |neg e _ E=>show .neg (g _ _ e) E
 |two j e _ _ f l=>show .two j (g _ _ e) f l
 |qu j e _ E=>show .qu j (g _ _ e) E
theorem ClOk.same{cl:Y4}{H H':Hp}(h:ClOk cl H)(g:Same H H'):ClOk cl H':=λx c e=>let⟨o,v,z,d⟩:=h x c e;⟨o,v,g _ _ z,d⟩
def zmu(K:Frag)(u:Ad)(d:Y3)(o:Ad)(e:Y3)(J:Ad)(f:Y3):Sp:=λvs H Q _=>∃(v:V) (b:Ad) (tl:List Str) (wd n m:Str),vs=[v,.ref b]/\TabOk H u d/\TabOk H o e/\TabOk H J f/\Rep H v (.bare wd n m)/\H b=G (.lst<|tl.map V.str)/\Frm tl/\n∈tl/\m∈tl/\wd∈SM.rowWords/\
 ∀p M H',Same H H'->RepM H' p M->BareM tl wd (tl.idxOf n) (tl.idxOf m) M->Q (.ref p) H'
def pre(m:Mc)(k r l:Nat):Nat:=((List.range l).map λl'=>cnt m k<|m.go r l').sum
end SM
namespace L2
def tLz(t:TS):TS:=t
def tIfZ(c:TT)(t u:TS):TS:=λD σ H=>∀r,r=t->c σ H λb H1=>if b=N then tLz r D σ H1 else u D σ H1
def tIfY(c:TT)(t u:TS):TS:=λD σ H=>∀r,r=u->c σ H λb H1=>if b=N then t D σ H1 else tLz r D σ H1
def tIfX(c:TT)(t u:TS):TS:=λD σ H=>∀r,r=t->∀r',r'=u->c σ H λb H1=>if b=N then tLz r D σ H1 else tLz r' D σ H1
def tSeqZ(t u:TS):TS:=λD σ H=>∀r,r=u->t {D with nx:=tLz r D} σ H
def tCutZ(t u:TS):TS:=λD σ H=>∀r,r=u->∃Pv:St->Hp->Prop,t {D with nx:=Pv} σ H/\∀l H',Pv l H'->tLz r D l H'
theorem itN{A Bq:Prop}(h:Bq):asB (.bl N) λc=>if(!c)=N then A else Bq:=(Xp 04:(if(!N)=N then A else Bq)=Bq)▸h
theorem itO{A Bq:Prop}(h:Bq):asB (.bl Fa) λc=>if c=N then A else Bq:=(Xp 04:(if Fa=N then A else Bq)=Bq)▸h
theorem itB{A Bq:Prop}(h:A):asB (.bl N) λc=>if c=N then A else Bq:=(Xq rfl:(if N=N then A else Bq)=A)▸h
def as1(xs:List V)(k:V->Prop):Prop:=match xs with
 |[x]=>k x
 |_=>False
theorem as1_l{x:V}{k:V->Prop}:as1 [x] k=k x:=rfl
theorem zwk{xs:List V}{k:V->Prop}(h:as1 xs k):∃x,xs=[x]/\k x:=by
 match xs,h with
 |[x],h=>show⟨x,R,h⟩
theorem zmg{xs:List V}{k:Ad->Prop}(h:as1 xs λx=>asR x k):∃p,xs=[.ref p]/\k p:=by
 let(x,rfl,h):=zwk h;let(p,rfl,h):=zcf h;show⟨p,R,h⟩
section
variable {X:Cx}
theorem CallR.weak{f:Va}{r r':List V->Hp->VK->Prop}(c:CallR X f r)(h:∀xs H Q,r' xs H Q->r xs H Q):CallR X f r':=λpins s σ H xs us Q I v q=>c pins s σ H xs us Q I v<|h _ _ _ q
theorem OpR.weak{f:Va->Va->Sem Va}{r r':R2}(c:OpR X f r)(h:∀x y H Q,r' x y H Q->r x y H Q):OpR X f r':=λpins s σ H x y v u Q I rx ry q=>c pins s σ H x y v u Q I rx ry<|h _ _ _ _ q
def rEqZ:R2:=λx y H Q=>match x,y with
 |.int a,.int b=>Q (.bl<|decide (a=b)) H
 |.str a,.str b=>Q (.bl<|decide (a=b)) H
 |x,y=>scal x y=N/\Q (.bl<|decide (x=y)) H
def rNeZ:R2:=λx y H Q=>match x,y with
 |.int a,.int b=>Q (.bl<|!decide (a=b)) H
 |.str a,.str b=>Q (.bl<|!decide (a=b)) H
 |x,y=>scal x y=N/\Q (.bl<|!decide (x=y)) H
theorem dec_i(a b:Int):decide (V.int a=V.int b)=decide (a=b):=decide_eq_decide.mpr ⟨λh=>V.int.inj h,λh=>congrArg _ h⟩
theorem dec_s(a b:Str):decide (V.str a=V.str b)=decide (a=b):=decide_eq_decide.mpr ⟨λh=>V.str.inj h,λh=>congrArg _ h⟩
theorem zli{a b:Int}{H:Hp}{Q:VK}:rEqZ (.int a) (.int b) H Q=Q (.bl<|decide (a=b)) H:=rfl
theorem zlh{a b:Str}{H:Hp}{Q:VK}:rEqZ (.str a) (.str b) H Q=Q (.bl<|decide (a=b)) H:=rfl
theorem zlg{a b:Int}{H:Hp}{Q:VK}:rNeZ (.int a) (.int b) H Q=Q (.bl<|!decide (a=b)) H:=rfl
theorem zlf{a b:Str}{H:Hp}{Q:VK}:rNeZ (.str a) (.str b) H Q=Q (.bl<|!decide (a=b)) H:=rfl
theorem rEqZ_eq{x y:V}{H:Hp}{Q:VK}:rEqZ x y H Q=(scal x y=N/\Q (.bl<|decide (x=y)) H):=by
 cases x<;>cases y<;>first|rfl|(rw[zli,dec_i];show propext ⟨λh=>⟨R,h⟩,λh=>h.2⟩)|(rw[zlh,dec_s];show propext ⟨λh=>⟨R,h⟩,λh=>h.2⟩)
theorem rNeZ_eq{x y:V}{H:Hp}{Q:VK}:rNeZ x y H Q=(scal x y=N/\Q (.bl<|!decide (x=y)) H):=by
 cases x<;>cases y<;>first|rfl|(rw[zlg,dec_i];show propext ⟨λh=>⟨R,h⟩,λh=>h.2⟩)|(rw[zlf,dec_s];show propext ⟨λh=>⟨R,h⟩,λh=>h.2⟩)
theorem zbj:OpR X (iw .Eq) rEqZ:=op_eq.weak λ_ _ _ _ h=>rEqZ_eq.mp h
theorem zzd:OpR X (iw .NotEq) rNeZ:=op_ne.weak λ_ _ _ _ h=>rNeZ_eq.mp h
variable (K:Frag)
def rLenZ:List V->Hp->VK->Prop:=λxs H Q=>as1 xs λx=>asR x λp=>∃ys,(SqL K H p ys\/SqT K H p ys)/\Q (.int<|List.length ys) H
theorem zau(h:X.K=K:=by rfl):CallR X (.builtin "len") (rLenZ K):=(zd8 K h).weak λ_ _ _ h=>let⟨p,e,ys,h⟩:=zmg h;⟨p,ys,e,h⟩
def rListOfZ:List V->Hp->VK->Prop:=λxs H Q=>as1 xs λx=>asR x λp=>∃ys,(SqL K H p ys\/SqT K H p ys)/\∀l H',New H l (.lst ys) H'->Q (.ref l) H'
theorem zhp(h:X.K=K:=by rfl):CallR X (.type "list") (rListOfZ K):=(zgt K h).weak λ_ _ _ h=>let⟨p,e,ys,h⟩:=zmg h;⟨p,ys,e,h⟩
def rAllZ:List V->Hp->VK->Prop:=λxs H Q=>as1 xs λx=>asR x λp=>∃bs:List Bool,SqL K H p (bs.map V.bl)/\Q (.bl<|bs.all id) H
theorem zcq(C:X.calm=N)(h:X.K=K:=by rfl):CallR X (.builtin "all") (rAllZ K):=(zkn K C h).weak λ_ _ _ h=>let⟨p,e,ys,h⟩:=zmg h;⟨p,ys,e,h⟩
def rInZ(neg:Bool):R2:=λx y H Q=>asR y λp=>∃xs,(SqL K H p xs\/SqT K H p xs)/\flatV x=N/\xs.all flatV=N/\Q (.bl<|if neg then !inV x xs else inV x xs) H
theorem zqx(h:X.K=K:=by rfl):OpR X (iw .In) (rInZ K Fa):=(zoe K h).weak λ_ _ _ _ h=>let⟨p,e,ys,h⟩:=zcf h;⟨p,ys,e,h⟩
theorem zf3(h:X.K=K:=by rfl):OpR X (iw .NotIn) (rInZ K N):=(zh9 K h).weak λ_ _ _ _ h=>let⟨p,e,ys,h⟩:=zcf h;⟨p,ys,e,h⟩
def rSlLZ:V->Option Int->Option Int->Hp->VK->Prop:=λx lo hi H Q=>asR x λa=>∃xs,SqL K H a xs/\∀p H',New H p (.lst<|cutL xs lo hi) H'->Q (.ref p) H'
theorem zh1(h:X.K=K:=by rfl):SlR X (rSlLZ K):=λpins s σ H x v J vu lo hi f Q I r hs pl g q=>zpx K h pins s σ H x v J vu lo hi f Q I r hs pl g (let⟨p,e,ys,h⟩:=zcf q;⟨p,ys,e,h⟩)
def rSlTZ:V->Option Int->Option Int->Hp->VK->Prop:=λx lo hi H Q=>asR x λa=>∃xs,SqT K H a xs/\¬(HT.sIx xs.length 0 lo=0/\HT.sIx xs.length xs.length hi=xs.length)/\∀p H',New H p (.tup<|cutL xs lo hi) H'->Q (.ref p) H'
theorem zk5(h:X.K=K:=by rfl):SlR X (rSlTZ K):=λpins s σ H x v J vu lo hi f Q I r hs pl g q=>ztk K h pins s σ H x v J vu lo hi f Q I r hs pl g (let⟨p,e,ys,h⟩:=zcf q;⟨p,ys,e,h⟩)
variable {K}
def rAppZ:V->List V->Hp->VK->Prop:=λx vs H Q=>as1 vs λy=>asR x λl=>∃xs,H l=G (.lst xs)/\xs.length<io/\Q .non (upd H l<|.lst (xs++[y]))
theorem zen:MtM X "list.append" rAppZ:=λpins s σ H x xs v us Q I r U h=>zjz pins s σ H x xs v us Q I r U (let⟨y,e,h⟩:=zwk h;let⟨l,g,xs,h⟩:=zcf h;⟨l,xs,y,g,e,h⟩)
def rCatZ:R2:=λx y H Q=>asR x λl=>asR y λb=>∃xs,H l=G (.lst xs)/\∃zs,H b=G (.lst zs)/\xs.length+zs.length<=io/\∀p H',New H p (.lst<|xs++zs) H'->Q (.ref p) H'
theorem zem:OpR X (iM .Add) rCatZ:=op_catN.weak λ_ _ _ _ h=>let⟨l,e,h⟩:=zcf h;let⟨b,Q,xs,Y,zs,h⟩:=zcf h;⟨l,b,xs,zs,e,Q,Y,h⟩
def rIskZ:List V->Hp->VK->Prop:=λxs H Q=>match xs with
 |[x,.ty T]=>∃k,Kd H x k/\T∈["str","list","tuple","bool","int","dict"]/\Q (.bl<|subT k T) H
 |_=>False
theorem zp8{x:V}{T:String}{H:Hp}{Q:VK}:rIskZ [x,.ty T] H Q=∃k,Kd H x k/\T∈["str","list","tuple","bool","int","dict"]/\Q (.bl<|subT k T) H:=rfl
theorem zby:CallR X (.builtin "isinstance") rIskZ:=call_isk.weak λxs H Q h=>by
 match xs,h with
 |[x,.ty T],⟨k,h⟩=>show⟨x,T,k,R,h⟩
def rLeSZ:R2:=λx y H Q=>asS x λi=>asS y λj=>Q (.bl<|!(decide (j.cps.toList<i.cps.toList))) H
theorem zqv:OpR X (iw .LtE) rLeSZ:=op_le_str.weak λ_ _ _ _ h=>let⟨i,e,h⟩:=zs4 h;let⟨j,Q,h⟩:=zs4 h;⟨i,j,e,Q,h⟩
end
theorem CalE.n{P:im}{w:World}{K:Frag}{mg:Y1}{base:Heap}{n:Nat}{x:Str}{ps:List Str}{sp:Sp}(C:CalE P w K mg base n x ps sp)(h:∀vs H Q E,sp vs H Q E->sp vs H Q E0):03 n x ps sp:=by
 let(f,fd,F,b,kp,m):=C.ex;apply⟨f,fd,⟨F.len,λA outer s H args us vs Q E L M a U q=>iG (F.run A outer s H args us vs Q E0 L M a U<|h _ _ _ _ q) λr s' z=>?_⟩,b,kp,m⟩
 match r,z with
 |.ok (.ret u),z=>show z
 |.error e,⟨_,_,_,_,_,_,_,_,_,z⟩=>show z.elim
end L2
namespace SM
open PySem PySem.Spec PyProof.Rows L2 SS
theorem zrj:∀s:Sy,1<=mcost s
 |.bare _ _ _=>y04 _
 |.neg s=>y4j _ _
 |.two _ s t=>y4j _ _
 |.qu w _ s=>by unfold mcost;split<;>omega
structure TabJ(H:Hp)(Pr:Ad)(qr:Y3)(Pp:Ad)(qp:Y3)(Pm:Ad)(qm:Y3)(Pj:Ad)(qj:Y3)(Pd:Ad)(qd:Y3):Prop where
 r:TabOk H Pr qr
 p:TabOk H Pp qp
 m:TabOk H Pm qm
 j:TabOk H Pj qj
 d:TabOk H Pd qd
theorem TabJ.same{H H':Hp}{u:Ad}{d:Y3}{o:Ad}{e:Y3}{J:Ad}{f:Y3}{x:Ad}{a:Y3}{O:Ad}{qd:Y3}(t:TabJ H u d o e J f x a O qd)(g:Same H H'):TabJ H' u d o e J f x a O qd:=⟨t.r.same g,t.p.same g,t.m.same g,t.j.same g,t.d.same g⟩
theorem TabJ.drop{cl:Y4}{H:Hp}{u:Ad}{d:Y3}{o:Ad}{e:Y3}{J:Ad}{f:Y3}{x:Ad}{a:Y3}{O:Ad}{qd:Y3}(t:TabJ H u d o e J f x a O qd)(D:ClOk cl H):TabJ (dropL cl H) u d o e J f x a O qd:=⟨D.tab t.r,D.tab t.p,D.tab t.m,D.tab t.j,D.tab t.d⟩
structure LetF(tl:List Str)(s:Sy):Prop where
 few:tl.length<=4
 len:∀z∈tl,z.length<=4
 fr:frameB (tl.map V.str)=N
 wf:wfB s=N
 dp:s.depth<=12
 pt:s.parts<=60
 ok:letB treeWords 4 tl s=N
def zmq:Sp:=λvs H Q _=>∃(v:V) (b:Ad) (tl:List Str) (s:Sy),vs=[v,.ref b]/\Rep H v s/\H b=G (.lst<|tl.map V.str)/\LetF tl s/\∀H',Same H H'->Q .non H'
inductive Fm where
 |bare (w:Str) (i j:Nat)
 |neg (n:Nat)
 |two (a b:Nat)
 |set (b:Nat) (ks:List Nat)
 |plc (b u:Nat) (ks:List Nat)
deriving DecidableEq
inductive Chs(b:Nat):List Nat->List Nat->Prop
 |nil:Chs b [] []
 |out {c:Nat} {r r':List Nat}:Chs b r r'->Chs b (c::r) (c::r')
 |inn {c:Nat} {r r':List Nat}:Chs b r r'->Chs b (c::r) ((c|||2^b)::r')
inductive Put(b:Nat):List Nat->List Nat->Prop
 |here {c:Nat} {r:List Nat}:Put b (c::r) ((c|||2^b)::r)
 |next {c:Nat} {r r':List Nat}:Put b r r'->Put b (c::r) (c::r')
section
variable {fs fs' Bq:List Fm}{h h' t t' g g' l:Nat}{φ φ':List Nat->Prop}
def Fm.okAt(m:Nat):Fm->Prop
 |.bare w _ _=>w∈rowWords\/w="here"
 |.neg n=>2<=n/\n<m+2
 |.two a b=>2<=a/\a<b/\b<m+2
 |.set _ ks=>ks.Pairwise (· < ·)/\∀k∈ks,2<=k/\k<m+2
 |.plc _ u ks=>u<m+2/\ks.Pairwise (· < ·)/\∀k∈ks,2<=k/\k<m+2
structure FTb(fs:List Fm):Prop where
 at_:∀(m:Nat) (f:Fm),fs[m]?=G f->Fm.okAt m f
 nd:fs.Nodup
end
structure Ex(fs fs':List Fm)(k:Nat):Prop where
 T:FTb fs'
 p:fs <+:fs'
 n:fs'.length<=fs.length+k
def Cho(n:Str)(b:Nat)(r r':List Nat):Prop:=if isPl n=N then Put b r r' else Chs b r r'
def hs:List Str->Sy->List Nat->Prop
 |tl,.bare w n m,r=>aend w (brun w (tl.idxOf n) (tl.idxOf m) 2 r)=N
 |tl,.neg s,r=>¬hs tl s r
 |tl,.two w s t,r=>if w="and" then hs tl s r/\hs tl t r else hs tl s r\/hs tl t r
 |tl,.qu w n s,r=>if w="some" then∃r',Cho n tl.length r r'/\hs (tl++[n]) s r' else∀r',Cho n tl.length r r'->hs (tl++[n]) s r'
theorem zjy{z:Str}(h:isName (.str z)=N):z.length<=4:=by
 let one:∀l,isNm (.str z) l=N->z.length<=4:=λl h=>by
  rw[zky];simp only[isNm,nameB]at h;cases e:z.cps.toList with
  |nil=>simp
  |cons d ds =>
   rw[e]at h;simp only[y07,decide_eq_true_eq]at h;rw[y0s];omega
 unfold isName at h;rw[y35]at h;show h.elim (one _)<|one _
structure Fr11(tl:List Str):Prop where
 h4:tl.length<=4
 hl:∀z∈tl,z.length<=4
 fr:frameB (tl.map V.str)=N
 fo:FrOk tl
def pls11:List Str:=["x","x1","y","x12"]
def sts11:List Str:=["X","X1","Y","X12"]
theorem pl11{z:Str}(h:z∈pls11):isPl z=N/\isName (.str z)=N:=by
 let all:∀z∈pls11,isPl z=N/\isName (.str z)=N:=by decide+kernel
 show all z h
theorem st11{z:Str}(h:z∈sts11):isPl z=Fa/\isSt z=N/\isName (.str z)=N:=by
 let all:∀z∈sts11,isPl z=Fa/\isSt z=N/\isName (.str z)=N:=by decide+kernel
 show all z h
structure T11(tl:List Str):Prop where
 sub:∀z∈tl,z∈pls11\/z∈sts11
 nd:tl.Nodup
 h4:tl.length<=4
theorem T11.nm{tl:List Str}(T:T11 tl):∀z∈tl,isName (.str z)=N:=λz hz=>(T.sub z hz).elim (λh=>(pl11 h).2) λh=>(st11 h).2.2
theorem T11.snoc{tl:List Str}{n:Str}(T:T11 tl)(I:n∈pls11\/n∈sts11)(h:n∉tl)(C:tl.length<=3):T11 (tl++[n]):=by
 apply⟨λz hz=>?_,?_,by rw[y0d,y0q];omega⟩
 .rcases y0v.mp hz with hz|hz
  .exact T.sub z hz
  .rw[y0b.mp hz];show I
 .rw[y37];show⟨T.nd,by simp,λa d b U e=>by rw[y0b.mp U]at e;subst e;show h d⟩
theorem nmok11{z:Str}(h:z∈pls11\/z∈sts11):NmOk z:=by
 rcases h with h|h
 .refine .inl ?_;simp only[pls11,y06,y0h,or_false]at h;rcases h with rfl|rfl|rfl|rfl<;>show zv7 R (by decide+kernel) (by decide) (by decide+kernel)
 .refine .inr ?_;simp only[sts11,y06,y0h,or_false]at h;rcases h with rfl|rfl|rfl|rfl<;>show zv7 R (by decide+kernel) (by decide) (by decide+kernel)
theorem T11.fr{tl:List Str}(T:T11 tl):Fr11 tl:=by
 apply⟨T.h4,λz hz=>zjy<|T.nm z hz,zhj (by rw[y01];show T.h4) ?_ ?_,T.h4,λz hz=>nmok11<|T.sub z hz⟩
 .rw[y11];intro v hv;let(z,hz,rfl):=y0j.mp hv;show T.nm z hz
 .exact y4m.mp T.nd|>.map V.str (λ_ _ h e=>h<|V.str.inj e)|> y4m.mpr
inductive Drw:Nat->Nat->List Str->Sy->Prop
 |bare {d g:Nat} {tl:List Str} {w n m:Str} (hw:w∈rowWords) (hn:n∈tl) (hm:m∈tl) (wf:wfB (.bare w n m)=N):Drw d g tl<|.bare w n m
 |neg {d g:Nat} {tl:List Str} {s:Sy}:Drw d g tl s->Drw (d+1) g tl (.neg s)
 |two {d g:Nat} {tl:List Str} {w:Str} {s t:Sy} (hw:w∈(["and","or"]:List Str)):Drw d g tl s->Drw d g tl t->Drw (d+1) g tl (.two w s t)
 |pl {d g:Nat} {tl:List Str} {w n:Str} {s:Sy} (hw:w∈(["some","all"]:List Str)) (hn:n∈pls11) (h:n∉tl) (h3:tl.length<=3):Drw d g (tl++[n]) s->Drw (d+1) g tl (.qu w n s)
 |st {d g:Nat} {tl:List Str} {w n:Str} {s:Sy} (hw:w∈(["some","all"]:List Str)) (hn:n∈sts11) (h:n∉tl) (h3:tl.length<=3):Drw d g (tl++[n]) s->Drw (d+1) (g+1) tl (.qu w n s)
section
variable {d g:Nat}{tl:List Str}{s:Sy}
theorem zw4{w:Str}(h:w∈rowWords):w∉treeWords:=by
 let all:∀w∈rowWords,w∉treeWords:=by decide+kernel
 show all w h
theorem Drw.let_(D:Drw d g tl s)(h4:tl.length<=4):letB treeWords 4 tl s=N:=by
 induction D with
 |bare j I J wf=>simp only[letB,y07,decide_eq_true_eq];show⟨⟨h4,zw4 j⟩,I,J⟩
 |neg _ E=>simp only[letB,y07,decide_eq_true_eq];show⟨⟨h4,by decide+kernel⟩,E h4⟩
 |two j _ _ f l =>
  simp only[letB,y07,decide_eq_true_eq];let all:∀w∈(["and","or"]:List Str),w∉treeWords:=by decide+kernel
  show⟨⟨h4,all _ j⟩,f h4,l h4⟩
 |pl j I h C _ E =>
  simp only[letB,y07,decide_eq_true_eq];let all:∀w∈(["some","all"]:List Str),w∉treeWords:=by decide+kernel
  show⟨⟨h4,all _ j⟩,h,E<|by rw[y0d,y0q];omega⟩
 |st j I h C _ E =>
  simp only[letB,y07,decide_eq_true_eq];let all:∀w∈(["some","all"]:List Str),w∉treeWords:=by decide+kernel
  show⟨⟨h4,all _ j⟩,h,E<|by rw[y0d,y0q];omega⟩
theorem Drw.wf(D:Drw d g tl s):wfB s=N:=by
 induction D with
 |bare j I J wf=>show wf
 |neg _ E=>show E
 |two j _ _ f l=>simp only[wfB,y07];show⟨f,l⟩
 |pl j I h C _ E=>simp only[wfB,y07];show⟨(pl11 I).2,E⟩
 |st j I h C _ E=>simp only[wfB,y07];show⟨(st11 I).2.2,E⟩
end
end SM
namespace L2
def gallopW:Bool->Keyed->Array Keyed->Nat->Nat->Nat->StateT SortSt Sem (Option Nat):=sortPriv% PySem.Builtin.gallop
def kk(p:Keyed):Int:=numOf p.1
def KI(p:Keyed):Prop:=∃n t,p.1=.int n t
section
variable {P:im}{w:World}{A:ir}{E:Y0}{s:ik}{st:SortSt}
theorem zbb{d:Array Keyed}{i:Nat}{p:Keyed}{Q:Keyed->SortSt->Prop}(h:d[i]?=G p)(q:Q p st):wpS (model P w) A E s (elem' d i) Q st:=by
 rw[elem'_eq,h];show wpS_pure q
theorem w_lt{x y:Keyed}{Q:Option Bool->SortSt->Prop}(hk:iH st=oneType')(hx:KI x)(hy:KI y)(q:Q (G<|decide (kk x<kk y)) st):wpS (model P w) A E s (lt' x y) Q st:=by
 let(x1,x2):=x;let(y1,y2):=y;let(m,t,e):=hx;cases e;let(n,u,e):=hy;cases e;rw[lt'_eq];apply wpS_bind<|wpS_get ?_;rw[hk,keyLt'_oneType];show wpS_bind<|wpS_lift (jx<|oneLt_int ⟨R,wpS_pure q⟩)
def bey(left:Bool)(f p:Keyed):Bool:=if left=N then decide (kk p<kk f)else !decide (kk f<kk p)
theorem ztd{left:Bool}{key:Keyed}{arr:Array Keyed}{b n hint:Nat}{Q:Option Nat->SortSt->Prop}(hk:iH st=oneType')(hkey:KI key)(f:Nat->Bool)(hn:hint<n)
  (ha:∀i,i<n->∃p,arr[b+i]?=G p/\KI p/\bey left key p=f i) (mono:∀i j,i<=j->j<n->f j=N->f i=N)
  (q:∀k,k<=n->(∀i,i<k->f i=N)->(∀i,k<=i->i<n->f i=Fa)->Q (G k) st):wpS (model P w) A E s (gallopW left key arr b n hint) Q st:=by
 let hb:∀(i:Nat) {Rq:Option Bool->SortSt->Prop},i<n->Rq (G<|f i) st->wpS (model P w) A E s (do
  let x ←elem' arr (b+i)
  if left=N then lt' x key
   else do
    let z ←lt' key x
    pure (z.map λx=>!x)) Rq st:=by
  intro i Rq hi r;let(p,e,kp,ep):=ha i hi;apply wpS_bind<|zbb e ?_;rw[←ep]at r;unfold bey at r;cases left
  .rw[Xp 04]at r ⊢;show wpS_bind<|w_lt hk hkey kp (wpS_pure r)
  .rw[Xq rfl]at r ⊢;show w_lt hk kp hkey r
 let fin:∀lo hi:Nat,lo<=hi->hi<=n->(∀i,i<lo->f i=N)->(∀i,hi<=i->i<n->f i=Fa)->∀g:Option (Option Nat)×Nat×Nat->StateT SortSt Sem (Option Nat),(∀k:Nat,g (B,k,k)=pure (G k))->wpS (model P w) A E s (do
   let c ←forIn [:n] ((B,lo,hi):Option (Option Nat)×Nat×Nat) λ_ c =>
    if c.2.1>=c.2.2 then pure (ForInStep.done (B,c.2.1,c.2.2))
    else do
     let z ←(do
      let x ←elem' arr (b+(c.2.1+(c.2.2-c.2.1)/2))
      if left=N then lt' x key
       else do
        let z ←lt' key x
        pure (z.map λx=>!x))
     match z with
      |some more=>if more=N then pure (ForInStep.yield (B,c.2.1+(c.2.2-c.2.1)/2+1,c.2.2))else pure (ForInStep.yield (B,c.2.1,c.2.1+(c.2.2-c.2.1)/2))
      |_=>pure<|ForInStep.done (G B,c.2.1,c.2.2)
   g c) Q st:=by
  intro lo hi h1 h2 h3 h4 g hg;apply wpS_bind<|wpS_forRange (I:=λx c st'=>st'=st/\∃lo hi:Nat,c=(B,lo,hi)/\lo<=hi/\hi<=n/\hi-lo<=n-x/\(∀i,i<lo->f i=N)/\(∀i,hi<=i->i<n->f i=Fa)) ?_ ?_ ⟨R,lo,hi,R,h1,h2,by omega,h3,h4⟩
  .rintro x c st' _ hx ⟨rfl,lo,hi,rfl,h1,h2,h5,h3,h4⟩;dsimp only;by_cases c:lo>=hi
   .rw[Xq c];let e:lo=hi:=by omega
    subst e;apply wpS_pure ?_;change wpS _ _ _ _ (g (B,lo,lo)) _ _;rw[hg];show wpS_pure<|q lo h2 h3 h4
   .rw[Xp c];apply wpS_bind<|hb _ 00 ?_;cases hf:f<|lo+(hi-lo)/2
    .exact wpS_pure ⟨R,lo,_,R,by omega,by omega,by omega,h3,λi z1 z2=>y0w.mpr λz=>by rw[mono _ i z1 z2 z]at hf;cases hf⟩
    .exact wpS_pure ⟨R,_,hi,R,by omega,h2,by omega,λi z=>mono i _ 00 00 hf,h4⟩
  .rintro c st' ⟨rfl,lo,hi,rfl,h1,h2,h5,h3,h4⟩;let e:lo=hi:=by omega
   subst e;rw[hg];show wpS_pure<|q lo h2 h3 h4
 apply wpS_bind<|hb hint hn ?_;cases hf:f hint
 .change wpS _ _ _ _ (if Fa=N then _ else _) _ _;rw[Xp 04];dsimp only;apply wpS_bind<|wpS_forRange (I:=λx c st'=>st'=st/\∃la of:Nat,c=(B,la,of)/\la<of/\la<=hint/\x<of/\f (hint-la)=Fa) ?_ ?_ ⟨R,0,1,R,by omega,by omega,by omega,hf⟩
  .rintro x c st' _ hx ⟨rfl,la,of,rfl,h1,h2,h3,h4⟩;dsimp only;by_cases c:of>=hint+1
   .rw[Xq c];apply wpS_pure<|fin (hint+1-min of (hint+1)) (hint-la) 00 00 (λi z=>by omega) (λi z1 z2=>y0w.mpr λz=>by rw[mono _ i z1 z2 z]at h4;cases h4) _ λk=>rfl
   .rw[Xp c];apply wpS_bind<|hb _ 00 ?_;cases hg:f<|hint-of
    .exact wpS_pure ⟨R,of,_,R,by omega,by omega,by omega,hg⟩
    .refine wpS_pure<|fin (hint+1-min of (hint+1)) (hint-la) 00 00 (λi z=>mono i _ 00 00 hg) (λi z1 z2=>y0w.mpr λz=>by rw[mono _ i z1 z2 z]at h4;cases h4) _ λk=>rfl
  .rintro c st' ⟨rfl,la,of,rfl,h1,h2,h3,h4⟩;apply fin (hint+1-min of (hint+1)) (hint-la) 00 00 (λi z=>by omega) (λi z1 z2=>y0w.mpr λz=>by rw[mono _ i z1 z2 z]at h4;cases h4) _ λk=>rfl
 .change wpS _ _ _ _ (if N=N then _ else _) _ _;rw[Xq rfl];dsimp only;apply wpS_bind<|wpS_forRange (I:=λx c st'=>st'=st/\∃la of:Nat,c=(B,la,of)/\la<of/\hint+la<n/\x<of/\f (hint+la)=N) ?_ ?_ ⟨R,0,1,R,by omega,by omega,by omega,hf⟩
  .rintro x c st' _ hx ⟨rfl,la,of,rfl,h1,h2,h3,h4⟩;dsimp only;by_cases c:of>=n-hint
   .rw[Xq c];apply wpS_pure<|fin (hint+la+1) (hint+min of (n-hint)) 00 00 (λi z=>mono i _ 00 h2 h4) (λi z1 z2=>by omega) _ λk=>rfl
   .rw[Xp c];apply wpS_bind<|hb _ 00 ?_;cases hg:f<|hint+of
    .refine wpS_pure<|fin (hint+la+1) (hint+min of (n-hint)) 00 00 (λi z=>mono i _ 00 h2 h4) (λi z1 z2=>y0w.mpr λz=>by rw[mono (hint+of) i 00 z2 z]at hg;cases hg) _ λk=>rfl
    .exact wpS_pure ⟨R,of,_,R,by omega,by omega,by omega,hg⟩
  .rintro c st' ⟨rfl,la,of,rfl,h1,h2,h3,h4⟩;apply fin (hint+la+1) (hint+min of (n-hint)) 00 00 (λi z=>mono i _ 00 h2 h4) (λi z1 z2=>by omega) _ λk=>rfl
end
structure ML(Rq:Keyed->Keyed->Prop)(T o X Y:List Keyed):Prop where
 perm:(o++(X++Y)).Perm T
 srt:o.Pairwise Rq
 oa:∀x∈o,∀y∈X,Rq x y
 ob:∀x∈o,∀y∈Y,Rq x y
 sa:X.Pairwise Rq
 sb:Y.Pairwise Rq
section
variable {Rq:Keyed->Keyed->Prop}{T o X X2 Y:List Keyed}
theorem ML.swap(h:ML Rq T o X Y):ML Rq T o Y X:=⟨(List.Perm.append_left o y52).trans h.perm,h.srt,h.ob,h.oa,h.sb,h.sa⟩
theorem ML.mov(h:ML Rq T o (X++X2) Y)(le:∀x∈X,∀y∈Y,Rq x y):ML Rq T (o++X) X2 Y:=by
 let(s1,s2,i):=y1l.mp h.sa;apply⟨by have:=h.perm;rwa[y17,←y17]at this ⊢,y1l.mpr ⟨h.srt,s1,λx O y C=>h.oa x O y<|y2c _ C⟩,λx O y C=>?_,λx O y C=>?_,s2,h.sb⟩
 .rcases y0v.mp O with z|z
  .exact h.oa x z y<|y0x _ C
  .exact i x z y C
 .rcases y0v.mp O with z|z
  .exact h.ob x z y C
  .exact le x z y C
theorem ML.fin(h:ML Rq T o X Y)(le:∀x∈X,∀y∈Y,Rq x y):(o++(X++Y)).Perm T/\(o++(X++Y)).Pairwise Rq :=
 ⟨h.perm,y1l.mpr ⟨h.srt,y1l.mpr ⟨h.sa,h.sb,le⟩,λx O y C=>(y0v.mp C).elim (h.oa x O y)<|h.ob x O y⟩⟩
end
def Rl(x y:Keyed):Prop:=kk x<=kk y
def Rg(x y:Keyed):Prop:=kk y<=kk x
def Res(a b r:Array Keyed):Prop:=r.toList.Perm (a.toList++b.toList)/\r.toList.Pairwise Rl
def LI(a b out:Array Keyed)(ia ib:Nat):Prop:=ML Rl (a.toList++b.toList) out.toList (a.toList.drop ia)<|b.toList.drop ib
section
variable {a b out:Array Keyed}{ia ib:Nat}
theorem zsd{l:List Keyed}{n:Nat}(h:l.length<=n){p:Keyed->Prop}:∀y∈l.drop n,p y:=by
 rw[y2l h];intro y C;cases C
theorem zij{a:Array Keyed}{i:Nat}:(a.extract i a.size).toList=a.toList.drop i:=by
 rw[y1s,y1v,y0i<|by rw[y10,y0m];show y04 _]
theorem LI.done(h:LI a b out ia ib)(e:b.size<=ib\/a.size<=ia):Res a b (out++a.extract ia a.size++b.extract ib b.size):=by
 unfold Res;rw[y1e,y1e,zij,zij,y17];apply ML.fin h ?_;rcases e with e|e
 .exactλx _=>zsd (by rw[y0m];show e)
 .exact zsd (by rw[y0m];show e)
theorem LI.last(h:LI a b out ia ib)(e:∀y∈b.toList.drop ib,∀x∈a.toList.drop ia,Rl y x):Res a b (out++b.extract ib b.size++a.extract ia a.size):=by
 unfold Res;rw[y1e,y1e,zij,zij,y17];show ML.fin (ML.swap h) e
theorem LI.blkA(h:LI a b out ia ib){k:Nat}(le:∀x∈(a.toList.drop ia).take k,∀y∈b.toList.drop ib,Rl x y):LI a b (out++a.extract ia (ia+k)) (ia+k) ib:=by
 unfold LI at h ⊢;rw[y1e,y1s,y1v,y31];rw[←y14 k (a.toList.drop ia),y42]at h;show ML.mov h le
theorem LI.blkB(h:LI a b out ia ib){k:Nat}(le:∀x∈(b.toList.drop ib).take k,∀y∈a.toList.drop ia,Rl x y):LI a b (out++b.extract ib (ib+k)) ia (ib+k):=by
 unfold LI at h ⊢;rw[y1e,y1s,y1v,y31];rw[←y14 k (b.toList.drop ib),y42]at h;show ML.swap<|ML.mov (ML.swap h) le
theorem zhs{l:List Keyed}{n:Nat}{p:Keyed}(e:l[n]?=G p):l.drop n=[p]++l.drop (n+1):=by
 let(h,rfl):=y09.mp e;rw[y3o h];rfl
theorem LI.pushA(h:LI a b out ia ib){p:Keyed}(e:a[ia]?=G p)(le:∀y∈b.toList.drop ib,Rl p y):LI a b (out.push p) (ia+1) ib:=by
 unfold LI at h ⊢;rw[zhs (p:=p)<|by rw[y0k];show e]at h;rw[y2q];show ML.mov h λx O=>by rw[y0b.mp O];show le
theorem LI.pushB(h:LI a b out ia ib){p:Keyed}(e:b[ib]?=G p)(le:∀y∈a.toList.drop ia,Rl p y):LI a b (out.push p) ia (ib+1):=by
 unfold LI at h ⊢;rw[zhs (l:=b.toList) (p:=p)<|by rw[y0k];show e]at h;rw[y2q];show ML.swap (ML.mov (ML.swap h) λx O=>by rw[y0b.mp O];show le)
theorem zc8{l:List Keyed}{n:Nat}{p:Keyed}(s:(l.drop n).Pairwise Rl)(e:l[n]?=G p){x:Keyed}(h:kk x<=kk p):∀y∈l.drop n,Rl x y:=λy C=>by
 rw[zhs e]at s C;rcases y06.mp C with rfl|z
 .exact h
 .exact y1t h<|y4r s z
theorem zcg{a:Array Keyed}{i:Nat}(h:i<a.size):∃p,a[i]?=G p/\p∈a.toList:=⟨a[i],getElem?_pos a i h,by simp⟩
end
def mergeLoW:Array Keyed->Array Keyed->StateT SortSt Sem (Array Keyed):=sortPriv% PySem.Builtin.mergeLo
def SK(st st':SortSt):Prop:=iH st'=iH st/\arrOf st'=arrOf st/\pendingOf st'=pendingOf st/\failedOf st'=failedOf st
theorem SK.refl(st:SortSt):SK st st:=⟨R,R,R,R⟩
section
variable {P:im}{w:World}{A:ir}{E:Y0}{s:ik}{st:SortSt}
theorem zfo{n:String}{Q:Unit->SortSt->Prop}(q:Q () st):wpS (model P w) A E s (liftM (rule n):StateT SortSt Sem Unit) Q st:=wpS_lift<|jd ⟨R,q⟩
theorem zhr{g:Nat}{st0:SortSt}{Q:Unit->SortSt->Prop}(k:SK st0 st)(q:∀st',SK st0 st'->Q () st'):wpS (model P w) A E s ((sortPriv% PySem.Builtin.setMinGallop) g:StateT SortSt Sem Unit) Q st:=wpS_modify<|q _ k
theorem zea{q:Type}{m:StateT SortSt Sem q}{Q:q->SortSt->Prop}(h:∀Rq:q->SortSt->Prop,(∀a st,Q a st->Rq a st)->wpS (model P w) A E s m Rq st):wpS (model P w) A E s m Q st:=h Q λ_ _ z=>z
theorem w_if{α:Type}{c:Prop}[Decidable c]{m n:StateT SortSt Sem α}{Q:α->SortSt->Prop}(h1:c->wpS (model P w) A E s m Q st)(h2:¬c->wpS (model P w) A E s n Q st):wpS (model P w) A E s (if c then m else n) Q st:=by
 split
 .exact h1 ‹_›
 .exact h2 ‹_›
theorem znw{left:Bool}{f:Keyed}{d:Array Keyed}{b n H:Nat}{Q:Option Nat->SortSt->Prop}(l:List Keyed)(el:l=(d.toList.drop b).take n)(D:iH st=oneType')(u:KI f)(I:H<n)(hl:b+n<=d.size)(a:∀x∈l,KI x)(L:l.Pairwise Rl)
  (q:∀k,k<=n->(∀x∈l.take k,Rl x f)->(∀x∈l.drop k,Rl f x)->Q (G k) st):wpS (model P w) A E s (gallopW left f d b n H) Q st:=by
 let v:l.length=n:=by rw[el,y0t,y10,y0m];omega
 let at':∀i,i<n->∃p,l[i]?=G p/\d[b+i]?=G p/\p∈l:=λi hi=>by
  obtain⟨p,e⟩:∃p,l[i]?=G p:=⟨l[i],y00 00⟩;apply⟨p,e,?_,y0l e⟩;rw[el,y25 hi,y2m,y0k]at e;show e
 apply ztd D u (λi=>bey left f<|l.getD i f) I (λi hi=>?_) (λi j r o h=>?_) λk Y M C=>q k Y (λx O=>?_) λx O=>?_
 .let(p,J,g,m):=at' i hi;show⟨p,g,a p m,by rw[y02,J];rfl⟩
 .let(p,J,_,_):=at' i 00;let(p',T,_,_):=at' j o;rw[y02,T]at h;rw[y02,J];let:kk p<=kk p':=by
   by_cases c:i=j
   .subst c;rw[J]at T;cases T;show y26 _
   .let(U,rfl):=y09.mp J;let(y,rfl):=y09.mp T;show y2s.mp L i j U y 00
  unfold bey at h ⊢;simp only[y0y]at h ⊢;cases left
  .rw[Xp 04,y4d,decide_eq_false_iff_not]at h ⊢;omega
  .rw[Xq R,decide_eq_true_iff]at h ⊢;omega
 .let(i,e):=y3g O;let hi:i<k:=by have:=(y09.mp e).1;rw[y0t]at this;omega
  let z:=M i hi;rw[y25 hi]at e;rw[y02,e]at z;unfold bey at z;simp only[y0y]at z;change kk x<=kk f;cases left
  .rw[Xp 04,y4d,decide_eq_false_iff_not]at z;omega
  .rw[Xq R,decide_eq_true_iff]at z;omega
 .let(i,e):=y3g O;let hi:k+i<n:=by have:=(y09.mp e).1;rw[y10]at this;omega
  let z:=C (k+i) 00 hi;rw[y2m]at e;rw[y02,e]at z;unfold bey at z;simp only[y0y]at z;change kk f<=kk x;cases left
  .rw[Xp 04,Bool.not_eq_false',decide_eq_true_iff]at z;omega
  .rw[Xq R,decide_eq_false_iff_not]at z;omega
theorem zno{a:Array Keyed}{i:Nat}:a.toList.drop i=(a.toList.drop i).take (a.size-i):=by rw[y0i<|by rw[y10,y0m];show y04 _]
theorem zph{a b:Array Keyed}{Q:Array Keyed->SortSt->Prop}(hk:iH st=oneType')(ka:∀x∈a.toList,KI x)(kb:∀x∈b.toList,KI x)(sa:a.toList.Pairwise Rl)(sb:b.toList.Pairwise Rl)(h0:0<a.size)(h1:0<b.size)
  (fst:∀p,b[0]?=G p->∀y∈a.toList,Rl p y) (lst:∀y∈b.toList,∀x∈a.toList.drop (a.size-1),Rl y x) (q:∀r st',SK st st'->Res a b r->Q r st'):wpS (model P w) A E s (mergeLoW a b) Q st:=by
 let(b0,e0,m0):=zcg h1;apply wpS_bind<|zfo ?_;apply wpS_bind<|zbb e0 ?_;change wpS _ _ _ _ (if _ then _ else if _ then _ else _) _ _;let start:LI a b #[b0] 0 1:=by
  let:LI a b #[] 0 0:=⟨List.Perm.refl _,.nil,λx hx=>(nomatch hx),λx hx=>(nomatch hx),sa,sb⟩;show this.pushB e0<|fst b0 e0
 let last:∀{out ia ib},LI a b out ia ib->ia+1=a.size->Res a b (out++b.extract ib b.size++a.extract ia a.size):=λ{out ia ib} h e=>h.last λy hy=>lst y (y27 hy)|> (by rw[show ia=a.size-1 by omega];show ·)
 by_cases c1:1=b.size
 .rw[Xq<|by simpa using c1];show wpS_pure<|q _ _ (SK.refl _) (start.done<|.inl 00)
 rw[Xp<|by simpa using c1];by_cases c2:0+1=a.size
 .rw[Xq<|by simpa using c2];show wpS_pure<|q _ _ (SK.refl _) (last start c2)
 rw[Xp<|by simpa using c2];apply wpS_bind<|wpS_get ?_;apply wpS_bind<|wpS_forRange (I:=λx c st'=>SK st st'/\∃out ia ib mg,c=(B,out,ia,ib,mg)/\LI a b out ia ib/\ia+1<a.size/\ib<b.size/\x<ia+ib) ?_ ?_ ⟨SK.refl _,_,_,_,_,R,start,by omega,by omega,by omega⟩
 .rintro x c st1 _ hx ⟨k1,out,ia,ib,mg,rfl,L,ha,hb,hx1⟩;apply zea λRq hR=>?_;let hd:∀r out ia ib mg st',SK st st'->Res a b r->Rq (.done (G r,out,ia,ib,mg)) st':=λr out ia ib mg st' k z=>hR _ _<|wpS_pure (q _ _ k z);apply wpS_bind (wpS_mono (wpS_forRange (I:=λy c st'=>SK st st'/\∃out ia ib ac bc,c=(B,out,ia,ib,ac,bc)/\LI a b out ia ib/\ia+1<a.size/\ib<b.size/\x+y<ia+ib)
   (Q:=λc st'=>SK st st'/\∃o out ia ib ac bc,c=(o,out,ia,ib,ac,bc)/\((∃r,o=G r/\Res a b r)\/o=B/\LI a b out ia ib/\ia+1<a.size/\ib<b.size/\x+1<ia+ib)) ?_ ?_ ⟨k1,_,_,_,_,_,R,L,ha,hb,hx1⟩) ?_)
  .rintro y c st2 _ hy ⟨k2,out,ia,ib,ac,bc,rfl,L,ha,hb,hx1⟩;let(pb,eb,mb):=zcg hb;let(pa,ea,ma):=zcg (show ia<a.size by omega);apply wpS_bind<|zbb eb (wpS_bind<|zbb ea (wpS_bind<|w_lt (by rw[k2.1];show hk) (kb _ mb) (ka _ ma) ?_));apply w_if (λc=>?_) λc=>?_
   .let L':=L.pushB eb<|zc8 L.sa (by rw[y0k];show ea) (y3y<|of_decide_eq_true c);apply wpS_bind<|zbb eb (w_if (λc=>?_) λc=>?_)
    .exact wpS_pure ⟨k2,_,_,_,_,_,_,R,.inl ⟨_,R,L'.done<|.inl (y3b (eq_of_beq c).symm)⟩⟩
    .let hb':ib+1<b.size:=by have:ib+1≠b.size:=λz=>c<|beq_iff_eq.mpr z;omega
     show w_if (λd=>wpS_pure ⟨k2,B,out.push pb,ia,ib+1,_,_,R,.inr ⟨R,L',ha,hb',by omega⟩⟩) λd=>wpS_pure ⟨k2,out.push pb,ia,ib+1,_,_,R,L',ha,hb',by omega⟩
   .let L':=L.pushA ea<|zc8 L.sb (by rw[y0k];show eb) (y4c.mp<|of_decide_eq_false (y0w.mpr c));apply wpS_bind<|zbb ea (w_if (λc=>?_) λc=>?_)
    .exact wpS_pure ⟨k2,_,_,_,_,_,_,R,.inl ⟨_,R,last L'<|eq_of_beq c⟩⟩
    .let ha':ia+1+1<a.size:=by have:ia+1+1≠a.size:=λz=>c<|beq_iff_eq.mpr z;omega
     show w_if (λd=>wpS_pure ⟨k2,B,out.push pa,ia+1,ib,_,_,R,.inr ⟨R,L',ha',hb,by omega⟩⟩) λd=>wpS_pure ⟨k2,out.push pa,ia+1,ib,_,_,R,L',ha',hb,by omega⟩
  .rintro c st1 ⟨k1,out,ia,ib,ac,bc,rfl,L,ha,hb,hx1⟩;show Xa hx1 00
  rintro _ st2 ⟨k2,_,out,ia,ib,ac,bc,rfl,⟨r,rfl,z⟩|⟨rfl,L,ha,hb,hx2⟩⟩
  .exact wpS_pure<|hd _ _ _ _ _ _ k2 z
  apply wpS_bind<|zfo ?_;apply wpS_bind (wpS_mono (wpS_forRange (I:=λy c st'=>SK st st'/\∃out ia ib mg ac bc,c=(B,out,ia,ib,mg,ac,bc)/\LI a b out ia ib/\ia+1<a.size/\ib<b.size/\x+1+y<ia+ib)
   (Q:=λc st'=>SK st st'/\∃o out ia ib mg ac bc,c=(o,out,ia,ib,mg,ac,bc)/\((∃r,o=G r/\Res a b r)\/o=B/\LI a b out ia ib/\ia+1<a.size/\ib<b.size/\x+1<ia+ib)) ?_ ?_ ⟨k2,_,_,_,_,_,_,R,L,ha,hb,hx2⟩) ?_)
  .rintro y c st2 _ hy ⟨k2,out,ia,ib,mg,ac,bc,rfl,L,ha,hb,hx1⟩;let(pb,eb,mb):=zcg hb;apply zea λRq hR=>?_;let hd:∀r out ia ib mg ac bc st',SK st st'->Res a b r->Rq (.done (G r,out,ia,ib,mg,ac,bc)) st':=λr out ia ib mg ac bc st' k z=>hR _ _ ⟨k,_,_,_,_,_,_,_,R,.inl ⟨_,R,z⟩⟩;let hn:∀out ia ib mg ac bc st',SK st st'->LI a b out ia ib->ia+1<a.size->ib<b.size->x+1+(y+1)<ia+ib->Rq (.done (B,out,ia,ib,mg,ac,bc)) st'/\Rq (.yield (B,out,ia,ib,mg,ac,bc)) st':=λout ia ib mg ac bc st' k l z1 z2 z3=>⟨hR _ _ ⟨k,_,_,_,_,_,_,_,R,.inr ⟨R,l,z1,z2,by omega⟩⟩,hR _ _ ⟨k,_,_,_,_,_,_,R,l,z1,z2,z3⟩⟩;clear hR
   extract_lets s1 o1 s2 i1 s3 i2 s4 g1 s5 c1 c2 jp0 jp
   let J:∀m,wpS (model P w) A E s (jp () m) Rq st2:=by
    intro m;apply wpS_bind<|zhr k2 λst3 k3=>?_;let hk3:iH st3=oneType':=by rw[k3.1];show hk
    apply wpS_bind<|zbb eb ?_;apply wpS_bind<|znw _ zno hk3 (kb _ mb) (show 0<a.size-ia by omega) (show ia+(a.size-ia)<=a.size by omega) (λx hx=>ka x<|y27 hx) L.sa λk z1 z2 z3=>?_;rw[y42]at z3;dsimp -zeta only
    extract_lets u1 jp2 u3 u4 u5
    let J2:∀o i,LI a b o i ib->i+1<a.size->ia<=i->(∀x∈a.toList.drop i,Rl pb x)->wpS (model P w) A E s (jp2 () o i) Rq st3:=by
     intro o i l hi hle hx;let l':=l.pushB eb hx;apply wpS_bind<|zbb eb (w_if (λc=>?_) λc=>?_)
     .exact wpS_pure<|hd _ _ _ _ _ _ _ _ k3 (l'.done<|.inl (y3b (eq_of_beq c).symm))
     let hb':ib+1<b.size:=by have:ib+1≠b.size:=λz=>c<|beq_iff_eq.mpr z;omega
     let(pa,ea,ma):=zcg (show i<a.size by omega);apply wpS_bind<|zbb ea ?_;apply wpS_bind<|znw _ zno hk3 (ka _ ma) (show 0<b.size-(ib+1) by omega) (show(ib+1)+(b.size-(ib+1))<=b.size by omega) (λx hx=>kb x<|y27 hx) l'.sb λk y1 y2 y3=>?_;rw[y42]at y3;dsimp -zeta only
     extract_lets v1 v2 jp3 v4 v5
     let J3:∀o j,LI a b o i j->j<b.size->ib+1<=j->(∀x∈b.toList.drop j,Rl pa x)->wpS (model P w) A E s (jp3 () o j) Rq st3:=by
      intro o j l hj hlj hx;let l':=l.pushA ea hx;apply wpS_bind<|zbb ea (w_if (λc=>?_) λc=>?_)
      .exact wpS_pure<|hd _ _ _ _ _ _ _ _ k3 (last l'<|eq_of_beq c)
      let ha':i+1+1<a.size:=by have:i+1+1≠a.size:=λz=>c<|beq_iff_eq.mpr z;omega
      let z:=λg c1 c2=>hn _ (i+1) j g c1 c2 st3 k3 l' ha' hj 00;show w_if (λ_=>wpS_pure (z _ _ _).1) λ_=>wpS_pure (z _ _ _).2
     apply w_if (λ_=>w_if (λc=>?_) λc=>?_) λc=>?_
     .exact wpS_pure<|hd _ _ _ _ _ _ _ _ k3 ((l'.blkB λx hx y hy=>y1t (y2 x hx)<|zc8 l.sa (by rw[y0k];show ea) (y26 _) y hy).done<|.inl (y3b (eq_of_beq c).symm))
     .let y1:k<=b.size-(ib+1):=y1;show J3 _ (ib+1+k) (l'.blkB λx hx y hy=>y1t (y2 x hx)<|zc8 l.sa (by rw[y0k];show ea) (y26 _) y hy) (by have:ib+1+k≠b.size:=λz=>c<|beq_iff_eq.mpr z;omega) 00 y3
     .let k0:k=0:=by omega
      subst k0;show J3 _ _ l' hb' (y04 _) y3
    let blk:=L.blkA (k:=k) λx hx y hy=>y1t (z2 x hx)<|zc8 L.sb (by rw[y0k];show eb) (y26 _) y hy;apply w_if (λ_=>w_if (λc=>?_) λc=>w_if (λd=>?_) λd=>?_) λc=>?_
    .exact wpS_pure<|hd _ _ _ _ _ _ _ _ k3 (last blk<|eq_of_beq c)
    .exact wpS_pure<|hd _ _ _ _ _ _ _ _ k3 (blk.done<|.inr (y3b (eq_of_beq d).symm))
    .let z1:k<=a.size-ia:=z1;show J2 _ (ia+k) blk (by have:ia+k+1≠a.size:=λz=>c<|beq_iff_eq.mpr z;let:ia+k≠a.size:=λz=>d<|beq_iff_eq.mpr z;omega) 00 z3
    .let k0:k=0:=by omega
     subst k0;show J2 _ _ L ha (y04 _) z3
   show w_if (λ_=>J _) λ_=>J _
  .rintro c st1 ⟨k1,out,ia,ib,mg,ac,bc,rfl,L,ha,hb,hx1⟩;show Xa hx1 00
  rintro _ st3 ⟨k3,_,out,ia,ib,mg,ac,bc,rfl,⟨r,rfl,z⟩|⟨rfl,L,ha,hb,hx2⟩⟩
  .exact wpS_pure<|hd _ _ _ _ _ _ k3 z
  show wpS_bind<|zhr k3 λst4 k4=>wpS_pure<|hR _ _ ⟨k4,_,_,_,_,R,L,ha,hb,hx2⟩
 .rintro c st1 ⟨k1,out,ia,ib,mg,rfl,L,ha,hb,hx1⟩;show Xa hx1 00
end
def HI(a b out:Array Keyed)(na nb:Nat):Prop:=ML Rg (a.toList++b.toList) out.toList (a.toList.take na).reverse (b.toList.take nb).reverse
section
variable {a b out:Array Keyed}{na nb:Nat}
theorem pw_rev{l:List Keyed}:l.reverse.Pairwise Rg↔l.Pairwise Rl:=y53
theorem znj{a:Array Keyed}{i:Nat}:(a.extract 0 i).toList=a.toList.take i:=by
 rw[y1s,y1v,y2j,Nat.sub_zero]
theorem HI.res{o X Y:List Keyed}{r:Array Keyed}(h:(o++(Y.reverse++X.reverse)).Perm (a.toList++b.toList)/\(o++(Y.reverse++X.reverse)).Pairwise Rg)(e:r.toList=X++Y++o.reverse):Res a b r:=by
 let g:r.toList=(o++(Y.reverse++X.reverse)).reverse:=by rw[e,y2y,y2y,List.reverse_reverse,List.reverse_reverse]
 unfold Res;rw[g];show⟨(y48 _).trans h.1,y53.mpr h.2⟩
theorem HI.done(h:HI a b out na nb)(e:na=0\/nb=0):Res a b (a.extract 0 na++b.extract 0 nb++out.reverse):=by
 apply HI.res (ML.fin (ML.swap h) ?_) (by rw[y1e,y1e,znj,znj,y40]);rcases e with rfl|rfl
 .intro x _ y C;rw[y4q,List.reverse_nil]at C;cases C
 .intro x O;rw[y4q,List.reverse_nil]at O;cases O
theorem HI.first(h:HI a b out na nb)(e:∀y∈b.toList.take nb,∀x∈a.toList.take na,Rl y x):Res a b (b.extract 0 nb++a.extract 0 na++out.reverse) :=
 HI.res (ML.fin h λx O y C=>e y (y2w.mp C) x<|y2w.mp O) (by rw[y1e,y1e,znj,znj,y40])
theorem zp5{l:List Keyed}{k n:Nat}(h:k<=n):(l.take n).reverse=((l.drop k).take<|n-k).reverse++(l.take k).reverse:=by
 rw[←y2y];congr 1;rw[show n=k+(n-k) by omega,List.take_add,y31]
theorem HI.blkA(h:HI a b out na nb){k:Nat}(D:k<=na)(le:∀x∈(a.toList.take na).drop k,∀y∈b.toList.take nb,Rl y x):HI a b (out++(a.extract k na).reverse) k nb:=by
 unfold HI at h ⊢;rw[y1e,y40,y1s,y1v];rw[zp5 D]at h;show ML.mov h λx O y C=>le x (by rw[List.drop_take];show y2w.mp O) y<|y2w.mp C
theorem HI.swap(h:HI a b out na nb):HI b a out nb na:=by
 let:=ML.swap h;show⟨this.perm.trans y52,this.srt,this.oa,this.ob,this.sa,this.sb⟩
theorem HI.blkB(h:HI a b out na nb){k:Nat}(D:k<=nb)(le:∀x∈(b.toList.take nb).drop k,∀y∈a.toList.take na,Rl y x):HI a b (out++(b.extract k nb).reverse) na k:=(h.swap.blkA D le).swap
theorem HI.pushA(h:HI a b out (na+1) nb){p:Keyed}(e:a[na]?=G p)(le:∀y∈b.toList.take nb,Rl y p):HI a b (out.push p) na nb:=by
 unfold HI at h ⊢;rw[y1h,y0k,e,y24,y2y,y4w]at h;rw[y2q];show ML.mov h λx O y C=>by rw[y0b.mp O];show le y<|y2w.mp C
theorem HI.pushB(h:HI a b out na<|nb+1){p:Keyed}(e:b[nb]?=G p)(le:∀y∈a.toList.take na,Rl y p):HI a b (out.push p) na nb:=(h.swap.pushA e le).swap
theorem zf9{l:List Keyed}{n:Nat}{p:Keyed}(s:((l.take<|n+1).reverse).Pairwise Rg)(e:l[n]?=G p){x:Keyed}(h:kk p<=kk x):∀y∈l.take (n+1),Rl y x:=λy C=>by
 let C:=y2w.mpr C;rw[y1h,e,y24,y2y,y4w]at s C;rcases y06.mp C with rfl|z
 .exact h
 .exact y1t (y4r s z) h
end
def mergeHiW:Array Keyed->Array Keyed->StateT SortSt Sem (Array Keyed):=sortPriv% PySem.Builtin.mergeHi
section
variable {P:im}{w:World}{A:ir}{E:Y0}{s:ik}{st:SortSt}
theorem zpi{a b:Array Keyed}{Q:Array Keyed->SortSt->Prop}(hk:iH st=oneType')(ka:∀x∈a.toList,KI x)(kb:∀x∈b.toList,KI x)(sa:a.toList.Pairwise Rl)(sb:b.toList.Pairwise Rl)(h0:0<a.size)(h1:0<b.size)
  (lst:∀p,a[a.size-1]?=G p->∀y∈b.toList,Rl y p) (fst:∀y∈b.toList.take 1,∀x∈a.toList,Rl y x) (q:∀r st',SK st st'->Res a b r->Q r st'):wpS (model P w) A E s (mergeHiW a b) Q st:=by
 let(a0,e0,m0):=zcg (show a.size-1<a.size by omega);apply wpS_bind<|zfo ?_;apply wpS_bind<|zbb e0 ?_;change wpS _ _ _ _ (if _ then _ else if _ then _ else _) _ _;let start:HI a b #[a0] (a.size-1) b.size:=by
  let:HI a b #[] (a.size-1+1) b.size:=by
   unfold HI;rw[show a.size-1+1=a.toList.length by rw[y0m];omega,show b.size=b.toList.length from y0m.symm,y2v,y2v];show⟨(y3j _).symm▸List.Perm.append (y48 _) (y48 _),.nil,λx hx=>(nomatch hx),λx hx=>(nomatch hx),pw_rev.mpr sa,pw_rev.mpr sb⟩
  show this.pushA e0 λy hy=>lst a0 e0 y<|y1r hy
 let first:∀{out na nb},HI a b out na nb->nb=1->Res a b (b.extract 0 nb++a.extract 0 na++out.reverse):=λ{out na nb} h e=>h.first λy hy x hx=>fst y (by rw[←e];show hy) x<|y1r hx
 by_cases c1:a.size-1=0
 .rw[Xq<|beq_iff_eq.mpr c1];show wpS_pure<|q _ _ (SK.refl _) (start.done<|.inl c1)
 rw[Xp λz=>c1<|beq_iff_eq.mp z];by_cases c2:b.size=1
 .rw[Xq<|beq_iff_eq.mpr c2];show wpS_pure<|q _ _ (SK.refl _) (first start c2)
 rw[Xp λz=>c2<|beq_iff_eq.mp z];apply wpS_bind<|wpS_get ?_;apply wpS_bind<|wpS_forRange (I:=λx c st'=>SK st st'/\∃na nb out mg,c=(B,na+1,nb+1,out,mg)/\HI a b out (na+1) (nb+1)/\na+1<=a.size/\nb+1<=b.size/\0<nb/\na+nb+3+x<=a.size+b.size) ?_ ?_ ⟨SK.refl _,a.size-2,b.size-1,#[a0],_,by rw[show a.size-2+1=a.size-1 by omega,show b.size-1+1=b.size by omega],by rw[show a.size-2+1=a.size-1 by omega,show b.size-1+1=b.size by omega];show start,by omega,by omega,by omega,by omega⟩
 .rintro x c st1 _ hx ⟨k1,na,nb,out,mg,rfl,L,ha,hb,h01,hx1⟩;apply zea λRq hR=>?_;let hd:∀r na nb out mg st',SK st st'->Res a b r->Rq (.done (G r,na,nb,out,mg)) st':=λr na nb out mg st' k z=>hR _ _<|wpS_pure (q _ _ k z);apply wpS_bind (wpS_mono (wpS_forRange (I:=λy c st'=>SK st st'/\∃na nb out ac bc,c=(B,na+1,nb+1,out,ac,bc)/\HI a b out (na+1) (nb+1)/\na+1<=a.size/\nb+1<=b.size/\0<nb/\na+nb+3+x+y<=a.size+b.size)
   (Q:=λc st'=>SK st st'/\∃o na nb out ac bc,c=(o,na,nb,out,ac,bc)/\((∃r,o=G r/\Res a b r)\/∃na' nb',na=na'+1/\nb=nb'+1/\o=B/\HI a b out (na'+1) (nb'+1)/\na'+1<=a.size/\nb'+1<=b.size/\0<nb'/\na'+nb'+3+(x+1)<=a.size+b.size)) ?_ ?_ ⟨k1,_,_,_,_,_,R,L,ha,hb,h01,hx1⟩) ?_)
  .rintro y c st2 _ hy ⟨k2,na,nb,out,ac,bc,rfl,L,ha,hb,h01,hx1⟩;let(pb,eb,mb):=zcg (show nb<b.size by omega);let(pa,ea,ma):=zcg (show na<a.size by omega);apply wpS_bind<|zbb eb (wpS_bind<|zbb ea (wpS_bind<|w_lt (by rw[k2.1];show hk) (kb _ mb) (ka _ ma) ?_));apply w_if (λc=>?_) λc=>?_
   .let L':=L.pushA ea<|zf9 L.sb (by rw[y0k];show eb) (y3y<|of_decide_eq_true c);apply wpS_bind<|zbb ea (w_if (λc=>?_) λc=>?_)
    .exact wpS_pure ⟨k2,_,_,_,_,_,_,R,.inl ⟨_,R,L'.done<|.inl (eq_of_beq c)⟩⟩
    .obtain⟨n',rfl⟩:∃n',na=n'+1:=⟨na-1,by have:na≠0:=λz=>c<|beq_iff_eq.mpr z;omega⟩;show w_if (λd=>wpS_pure ⟨k2,B,n'+1,nb+1,out.push pa,_,_,R,.inr ⟨n',nb,R,R,R,L',by omega,hb,h01,by omega⟩⟩) λd=>wpS_pure ⟨k2,n',nb,out.push pa,_,_,R,L',by omega,hb,h01,by omega⟩
   .let L':=L.pushB eb<|zf9 L.sa (by rw[y0k];show ea) (y4c.mp<|of_decide_eq_false (y0w.mpr c));apply wpS_bind<|zbb eb (w_if (λc=>?_) λc=>?_)
    .exact wpS_pure ⟨k2,_,_,_,_,_,_,R,.inl ⟨_,R,first L' (eq_of_beq c)⟩⟩
    .obtain⟨n',rfl⟩:∃n',nb=n'+1:=⟨nb-1,by omega⟩;let h1':0<n':=by have:n'+1≠1:=λz=>c<|beq_iff_eq.mpr z;omega
     show w_if (λd=>wpS_pure ⟨k2,B,na+1,n'+1,out.push pb,_,_,R,.inr ⟨na,n',R,R,R,L',ha,by omega,h1',by omega⟩⟩) λd=>wpS_pure ⟨k2,na,n',out.push pb,_,_,R,L',ha,by omega,h1',by omega⟩
  .rintro c st1 ⟨k1,na,nb,out,ac,bc,rfl,L,ha,hb,h01,hx1⟩;show Xa hx1 00
  rintro _ st2 ⟨k2,_,_,_,out,ac,bc,rfl,⟨r,rfl,z⟩|⟨na,nb,rfl,rfl,rfl,L,ha,hb,h01,hx2⟩⟩
  .exact wpS_pure<|hd _ _ _ _ _ _ k2 z
  apply wpS_bind<|zfo ?_;apply wpS_bind (wpS_mono (wpS_forRange (I:=λy c st'=>SK st st'/\∃na nb out mg ac bc,c=(B,na+1,nb+1,out,mg,ac,bc)/\HI a b out (na+1) (nb+1)/\na+1<=a.size/\nb+1<=b.size/\0<nb/\na+nb+3+(x+1)+y<=a.size+b.size)
   (Q:=λc st'=>SK st st'/\∃o na nb out mg ac bc,c=(o,na,nb,out,mg,ac,bc)/\((∃r,o=G r/\Res a b r)\/∃na' nb',na=na'+1/\nb=nb'+1/\o=B/\HI a b out (na'+1) (nb'+1)/\na'+1<=a.size/\nb'+1<=b.size/\0<nb'/\na'+nb'+3+(x+1)<=a.size+b.size)) ?_ ?_ ⟨k2,_,_,_,_,_,_,R,L,ha,hb,h01,hx2⟩) ?_)
  .rintro y c st2 _ hy ⟨k2,na,nb,out,mg,ac,bc,rfl,L,ha,hb,h01,hx1⟩;let(pb,eb,mb):=zcg (show nb<b.size by omega);apply zea λRq hR=>?_;let hd:∀r na nb out mg ac bc st',SK st st'->Res a b r->Rq (.done (G r,na,nb,out,mg,ac,bc)) st':=λr na nb out mg ac bc st' k z=>hR _ _ ⟨k,_,_,_,_,_,_,_,R,.inl ⟨_,R,z⟩⟩;let hn:∀na nb out mg ac bc st',SK st st'->HI a b out (na+1) (nb+1)->na+1<=a.size->nb+1<=b.size->0<nb->na+nb+3+(x+1)+(y+1)<=a.size+b.size->Rq (.done (B,na+1,nb+1,out,mg,ac,bc)) st'/\Rq (.yield (B,na+1,nb+1,out,mg,ac,bc)) st':=λna nb out mg ac bc st' k l z1 z2 z3 z4=>⟨hR _ _ ⟨k,_,_,_,_,_,_,_,R,.inr ⟨_,_,R,R,R,l,z1,z2,z3,by omega⟩⟩,hR _ _ ⟨k,_,_,_,_,_,_,R,l,z1,z2,z3,z4⟩⟩;clear hR
   extract_lets s1 i1 s2 i2 s3 o1 s4 g1 s5 c1 c2 jp0 jp
   let J:∀m,wpS (model P w) A E s (jp () m) Rq st2:=by
    intro m;apply wpS_bind<|zhr k2 λst3 k3=>?_;let hk3:iH st3=oneType':=by rw[k3.1];show hk
    apply wpS_bind<|zbb eb ?_;apply wpS_bind<|znw (a.toList.take<|na+1) (by rw[y2j]) hk3 (kb _ mb) (show na+1-1<na+1 by omega) (show 0+(na+1)<=a.size by omega) (λx hx=>ka x<|y1r hx) (pw_rev.mp L.sa) λk z1 z2 z3=>?_;rw[List.take_take,y3h z1]at z2;dsimp -zeta only
    extract_lets u1 u2 jp2 u3 u4 u5
    let J2:∀o i,HI a b o (i+1) (nb+1)->i<=na->(∀x∈a.toList.take (i+1),Rl x pb)->wpS (model P w) A E s (jp2 () (i+1) o) Rq st3:=by
     intro o i l hi hx;let l':=l.pushB eb hx;apply wpS_bind<|zbb eb (w_if (λc=>?_) λc=>?_)
     .exact wpS_pure<|hd _ _ _ _ _ _ _ _ k3 (first l' (eq_of_beq c))
     let hb':nb+1-1≠1:=λz=>c<|beq_iff_eq.mpr z;let(pa,ea,ma):=zcg (show i<a.size by omega);apply wpS_bind<|zbb ea ?_;apply wpS_bind<|znw (b.toList.take nb) (show b.toList.take nb=(b.toList.drop 0).take (nb+1-1)from rfl) hk3 (ka _ ma) (show nb+1-1-1<nb+1-1 by omega) (show 0+(nb+1-1)<=b.size by omega) (λx hx=>kb x<|y1r hx) (pw_rev.mp l'.sb) λk y1 y2 y3=>?_;let y1:k<=nb:=y1;rw[List.take_take,y3h y1]at y2;dsimp -zeta only
     extract_lets v1 v2 v3 jp3 v4 v5
     let J3:∀o j,HI a b o (i+1) (j+1)->0<j->j+1<=nb->(∀x∈b.toList.take (j+1),Rl x pa)->wpS (model P w) A E s (jp3 () (j+1) o) Rq st3:=by
      intro o j l hj hlj hx;let l':=l.pushA ea hx;apply wpS_bind<|zbb ea (w_if (λc=>?_) λc=>?_)
      .exact wpS_pure<|hd _ _ _ _ _ _ _ _ k3 (l'.done<|.inl (eq_of_beq c))
      obtain⟨i',rfl⟩:∃n',i=n'+1:=⟨i-1,by have:i≠0:=λz=>c<|beq_iff_eq.mpr z;omega⟩;let z:=λg c1 c2=>hn i' j _ g c1 c2 st3 k3 l' 00 00 hj 00;show w_if (λ_=>wpS_pure (z _ _ _).1) λ_=>wpS_pure (z _ _ _).2
     let blk:=l'.blkB y1 λx hx y hy=>y1t (zf9 l.sa (by rw[y0k];show ea) (y26 _) y hy)<|y3 x hx;apply w_if (λ_=>w_if (λc=>?_) λc=>w_if (λd=>?_) λd=>?_) λc=>?_
     .exact wpS_pure<|hd _ _ _ _ _ _ _ _ k3 (first blk (eq_of_beq c))
     .exact wpS_pure<|hd _ _ _ _ _ _ _ _ k3 (blk.done<|.inr (eq_of_beq d))
     .obtain⟨j,rfl⟩:∃n',k=n'+1:=⟨k-1,by have:k≠0:=λz=>d<|beq_iff_eq.mpr z;omega⟩;show J3 _ j blk (by have:j+1≠1:=λz=>c<|beq_iff_eq.mpr z;omega) y1 y2
     .let k0:k=nb:=by have:¬(nb+1-1-k>0):=c;omega
      subst k0;obtain⟨j,rfl⟩:∃n',k=n'+1:=⟨k-1,by omega⟩;show J3 _ j l' 00 y1 y2
    let blk:=L.blkA z1 λx hx y hy=>y1t (zf9 L.sb (by rw[y0k];show eb) (y26 _) y hy)<|z3 x hx;apply w_if (λ_=>w_if (λc=>?_) λc=>?_) λc=>?_
    .exact wpS_pure<|hd _ _ _ _ _ _ _ _ k3 (blk.done<|.inl (eq_of_beq c))
    .obtain⟨i,rfl⟩:∃n',k=n'+1:=⟨k-1,by have:k≠0:=λz=>c<|beq_iff_eq.mpr z;omega⟩;show J2 _ i blk (by have z1:i+1<=na+1:=z1;omega) z2
    .let k0:k=na+1:=by have z1:k<=na+1:=z1;let:¬(na+1-k>0):=c;omega
     subst k0;show J2 _ na L (y04 _) z2
   show w_if (λ_=>J _) λ_=>J _
  .rintro c st1 ⟨k1,na,nb,out,mg,ac,bc,rfl,L,ha,hb,h01,hx1⟩;show Xa hx1 00
  rintro _ st3 ⟨k3,_,_,_,out,mg,ac,bc,rfl,⟨r,rfl,z⟩|⟨na,nb,rfl,rfl,rfl,L,ha,hb,h01,hx2⟩⟩
  .exact wpS_pure<|hd _ _ _ _ _ _ k3 z
  show wpS_bind<|zhr k3 λst4 k4=>wpS_pure<|hR _ _ ⟨k4,_,_,_,_,R,L,ha,hb,h01,hx2⟩
 .rintro c st1 ⟨k1,na,nb,out,mg,rfl,L,ha,hb,h01,hx1⟩;show Xa hx1 00
end
theorem znh{sa:Nat}:∀(ms:List Keyed) (j:Nat) (d:Array Keyed) (p q s:List Keyed),d.toList=p++(q++s)->q.length=ms.length->p.length=sa+j->((ms.zipIdx j).foldl (λa x=>match x with|(p,j)=>a.setIfInBounds (sa+j) p) d).toList=p++(ms++s)
 |[],j,d,p,q,s,e,Y,M=>by
  let:q=[]:=y32.mp Y;subst this;show e
 |m::ms,j,d,p,q,s,e,Y,M=>by
  match q,Y with
  |x::q,Y =>
  let:=znh ms (j+1) (d.setIfInBounds (sa+j) m) (p++[m]) q s (by rw[Array.toList_setIfInBounds,e,←M,List.set_append_right _ _<|y04 _,y51];simp) (Nat.succ.inj Y) (by rw[y0d,M];rfl);rw[y4h,List.foldl_cons];change(List.foldl _ (d.setIfInBounds (sa+j) m) _).toList=_;rw[this,y17];rfl
section
variable {P:im}{w:World}{A:ir}{E:Y0}{s:ik}{st:SortSt}
theorem zwn{x:SortSt}{Q:PUnit->SortSt->Prop}(h:Q ⟨⟩ x):wpS (model P w) A E s (set x:StateT SortSt Sem PUnit) Q st:=by
 unfold wpS;rw[StateT.run_set];show ii ⟨R,h⟩
theorem zpj{X Y:List Keyed}{pw:Nat}{Q:Bool->SortSt->Prop}(hk:iH st=oneType')(hf:failedOf st=B)(ea:(arrOf st).toList=X++Y)(hp:pendingOf st=#[(0,X.length,pw),(X.length,Y.length,0)])(hx:0<X.length)(hy:0<Y.length)(kx:∀x∈X,KI x)(ky:∀x∈Y,KI x)(sx:X.Pairwise Rl)(sy:Y.Pairwise Rl)
  (q:∀st',iH st'=oneType'->failedOf st'=B->(arrOf st').toList.Perm (X++Y)->(arrOf st').toList.Pairwise Rl->pendingOf st'=#[(0,X.length+Y.length,pw)]->Q N st'):wpS (model P w) A E s (mergeAt' 0) Q st:=by
 let sz:(arrOf st).size=X.length+Y.length:=by rw[←y0m,ea,y0d]
 obtain⟨b0,Y',rfl⟩:∃b0 Y',Y=b0::Y':=by cases Y with|nil=>simp at hy|cons b y=>show⟨b,y,R⟩
 obtain⟨pa,epa⟩:∃pa,X[X.length-1]?=G pa:=⟨_,y00 00⟩;let e0:(arrOf st)[X.length]?=G b0:=by rw[←y0k,ea,y1b<|y04 _,y51];rfl
 let e1:(arrOf st)[X.length-1]?=G pa:=by rw[←y0k,ea,y15 00];show epa
 let mpa:=y0l epa;let leX:∀x∈X,Rl x pa:=by
  let:=zf9 (l:=X) (n:=X.length-1) (p:=pa) (by rw[show X.length-1+1=X.length by omega,y2v];show pw_rev.mpr sx) epa<|y26 _;rwa[show X.length-1+1=X.length by omega,y2v]at this
 let leY:∀y∈b0::Y',Rl b0 y:=zc8 (l:=b0::Y') (n:=0) sy R<|y26 _;apply wpS_bind<|wpS_get ?_;let hp0:(pendingOf st)[0]?=G (0,X.length,pw):=by rw[hp];rfl
 let hp1:(pendingOf st)[0+1]?=G (X.length,(b0::Y').length,0):=by rw[hp];rfl
 let hp2:((pendingOf st).setIfInBounds 0 (0,X.length+(b0::Y').length,pw)).eraseIdxIfInBounds (0+1)=#[(0,X.length+(b0::Y').length,pw)]:=by
  rw[hp];generalize X.length=u;generalize(b0::Y').length=v;simp[Array.eraseIdxIfInBounds]
 rw[hp0,hp1];dsimp -zeta only;apply wpS_bind<|zwn ?_;rw[hp2];apply wpS_bind<|zbb e0 ?_;apply wpS_bind<|znw X (by rw[y2j,ea,List.take_left]) hk (ky b0 y0c) hx (show 0+X.length<=(arrOf st).size by omega) kx sx λk z1 z2 z3=>?_;dsimp -zeta only;apply w_if (λc=>wpS_pure<|q _ hk hf ?_ ?_ R) λc=>?_
 .change(arrOf st).toList.Perm _;rw[ea]
 .change(arrOf st).toList.Pairwise _;rw[ea];let:k=X.length:=by have:X.length-k=0:=eq_of_beq c;omega
  rw[this,y2v]at z2;show y1l.mpr ⟨sx,sy,λx hx y hy=>y1t (z2 x hx)<|leY y hy⟩
 let c:X.length-k≠0:=λz=>c<|beq_iff_eq.mpr z;apply wpS_bind<|zbb (p:=pa) (by rw[show 0+k+(X.length-k)-1=X.length-1 by omega];show e1) ?_;apply wpS_bind<|znw (b0::Y') (by rw[ea,List.drop_left,y2v]) hk (kx pa mpa) (show(b0::Y').length-1<(b0::Y').length by omega) (show X.length+(b0::Y').length<=(arrOf st).size by omega) ky sy λm y1 y2 y3=>?_;dsimp -zeta only;apply w_if (λd=>wpS_pure<|q _ hk hf ?_ ?_ R) λd=>?_
 .change(arrOf st).toList.Perm _;rw[ea]
 .change(arrOf st).toList.Pairwise _;rw[ea];let:m=0:=eq_of_beq d;rw[this,y2j]at y3;show y1l.mpr ⟨sx,sy,λx hx y hy=>y1t (leX x hx)<|y3 y hy⟩
 let d:m≠0:=λz=>d<|beq_iff_eq.mpr z
 extract_lets x y jp
 let ex:x.toList=X.drop k:=by
  change((arrOf st).extract (0+k) X.length).toList=_;rw[y1s,y1v,ea,y3k,List.drop_append_of_le_length 00,y3e (by rw[y10];omega),y0i<|by rw[y10];omega]
 let ey:y.toList=(b0::Y').take m:=by
  change((arrOf st).extract X.length<|X.length+m).toList=_;rw[y1s,y1v,ea,List.drop_left,y31]
 let lx:x.size=X.length-k:=by rw[←y0m,ex,y10]
 let ly:y.size=m:=by rw[←y0m,ey,y0t];omega
 obtain⟨m',rfl⟩:∃m',m=m'+1:=⟨m-1,by omega⟩;let J:∀r st',SK (SortSt.mk' (iH st) (arrOf st) #[(0,X.length+(b0::Y').length,pw)] (gallopOf st)<|failedOf st) st'->Res x y r->wpS (model P w) A E s (jp r) Q st':=by
  rintro r st' ⟨k1,k2,k3,k4⟩ ⟨r1,r2⟩;rw[ex,ey]at r1;apply wpS_bind<|wpS_modify ?_;apply wpS_bind<|wpS_get ?_;change wpS _ _ _ _ (pure (failedOf st').isNone) _ _;rw[show failedOf st'=B from k4.trans hf];let ear:(List.foldl (λa x=>match x with|(p,j)=>a.setIfInBounds (0+k+j) p) (arrOf st') r.toList.zipIdx).toList=X.take k++(r.toList++(b0::Y').drop (m'+1)):=by
   apply znh r.toList 0 (arrOf st') (X.take k) (X.drop k++(b0::Y').take (m'+1)) _ ?_ ?_ ?_
   .rw[k2];change(arrOf st).toList=_;rw[ea,y17<|X.drop k,y14,←y17,y14]
   .exact r1.length_eq.symm
   .rw[y0t];omega
  let hin:∀z∈r.toList,Rl b0 z/\Rl z pa:=λz hz=>by
   rcases y0v.mp (r1.mem_iff.mp hz)with h|h
   .exact⟨z3 z h,leX z<|y27 h⟩
   .exact⟨leY z<|y1r h,y2 z h⟩
  apply wpS_pure<|q _ (k1.trans hk) (k4.trans hf) ?_ ?_ k3
  .refine(List.Perm.of_eq ear).trans ?_;apply(List.Perm.append_left _<|List.Perm.append_right _ r1).trans<|List.Perm.of_eq ?_;rw[y17<|X.drop k,y14,←y17,y14]
  .refine Eq.subst (motive:=λl=>List.Pairwise Rl l) ear.symm ?_;apply y1l.mpr ⟨sx.sublist<|y3q _ _,y1l.mpr ⟨r2,sy.sublist<|y4b _ _,λu hu v hv=>y1t (hin u hu).2<|y3 v hv⟩,λu hu v hv=>?_⟩;rcases y0v.mp hv with h|h
   .exact y1t (z2 u hu) (hin v h).1
   .exact y1t (leX u<|y1r hu)<|y3 v h
 let kx':∀z∈x.toList,KI z:=λz hz=>kx z<|y27 (ex▸hz);let ky':∀z∈y.toList,KI z:=λz hz=>ky z<|y1r (ey▸hz);let sx':x.toList.Pairwise Rl:=by rw[ex];show sx.sublist<|y4b _ _
 let sy':y.toList.Pairwise Rl:=by rw[ey];show sy.sublist<|y3q _ _
 let lastx:∀i p,i=X.length-k-1->(X.drop k)[i]?=G p->p=pa:=λi p ei e=>by
  rw[ei,y2m,show k+(X.length-k-1)=X.length-1 by omega,epa]at e;show(Option.some.inj e).symm
 let yle:∀z∈y.toList,Rl z pa:=λz hz=>y2 z<|ey▸hz;apply w_if (λ_=>wpS_bind ?_) λ_=>wpS_bind ?_
 .refine zph hk kx' ky' sx' sy' 00 00 (λp e z hz=>?_) (λu hu v hv=>?_) J
  .rw[←y0k,ey]at e;cases e;show z3 z<|ex▸hz
  .rw[ex,lx]at hv;let(i,e):=y3g hv;let hi:=(y09.mp e).1;rw[y10,y10]at hi;rw[y2m]at e;rw[lastx _ v 00 e];show yle u hu
 .refine zpi hk kx' ky' sx' sy' 00 00 (λp e z hz=>?_) (λu hu v hv=>?_) J
  .rw[←y0k,ex,lx]at e;rw[lastx _ p R e];show yle z hz
  .rw[ey]at hu;let:u=b0:=by simpa using hu
   rw[this];show z3 v<|ex▸hv
end
structure RS(st0:SortSt)(lo:Nat)(st:SortSt):Prop where
 k:iH st=oneType'
 f:failedOf st=B
 p:pendingOf st=pendingOf st0
 perm:(arrOf st).Perm<|arrOf st0
 pre:∀i,i<lo->(arrOf st)[i]?=(arrOf st0)[i]?
structure DI(xs:Array Keyed):Prop where
 ki:∀x∈xs.toList,KI x
 nd:(xs.toList.map kk).Nodup
theorem DI.perm{xs ys:Array Keyed}(h:DI xs)(p:ys.Perm xs):DI ys:=by
 let p:=y4p.mp p;show⟨λx O=>h.ki x<|p.mem_iff.mp O,(p.map kk).nodup_iff.mpr h.nd⟩
theorem K_at{xs:Array Keyed}{i:Nat}{p:Keyed}(e:xs[i]?=G p):K xs i=kk p:=by unfold K;rw[e];rfl
theorem DI.ne{xs:Array Keyed}(h:DI xs){i j:Nat}(hi:i<xs.size)(o:j<xs.size)(d:i≠j):K xs i≠K xs j:=λe=>by
 let(p,J,_):=zcg hi;let(p',g,_):=zcg o;rw[K_at J,K_at g]at e;apply d<|(List.getElem?_inj (l:=xs.toList.map kk) (by rw[y01,y0m];show hi) h.nd).mp ?_;rw[y05,y05,y0k,y0k,J,g,y1z,y1z,e]
def Inc(st:SortSt)(lo n:Nat):Prop:=∀i j,i<=j->j<n->K (arrOf st) (lo+i)<=K (arrOf st) (lo+j)
def Dec(st:SortSt)(lo n:Nat):Prop:=∀i j,i<=j->j<n->K (arrOf st) (lo+j)<=K (arrOf st) (lo+i)
theorem Inc.one{st:SortSt}{lo:Nat}:Inc st lo 1:=λi j Y M=>by rw[show i=j by omega];show y26 _
theorem Inc.step{st:SortSt}{lo n:Nat}(h:Inc st lo n)(Y:1<=n)(l:K (arrOf st) (lo+n-1)<=K (arrOf st) (lo+n)):Inc st lo (n+1):=λi j r o=>by
 by_cases c:j<n
 .exact h i j r c
 let e:j=n:=by omega
 subst e;by_cases d:i=j
 .rw[d];show y26 _
 .let z:=h i (j-1) 00 00;rw[show lo+(j-1)=lo+j-1 by omega]at z;show y1t z l
section
variable {P:im}{w:World}{A:ir}{E:Y0}{s:ik}{st st0:SortSt}{lo:Nat}
theorem RS.size(Rq:RS st0 lo st):(arrOf st).size=(arrOf st0).size:=Rq.perm.size_eq
theorem RS.put(Rq:RS st0 lo st){xs:Array Keyed}(p:xs.Perm<|arrOf st)(O:∀i,i<lo->xs[i]?=(arrOf st)[i]?):RS st0 lo (setArr st xs):=⟨Rq.k,Rq.f,Rq.p,p.trans Rq.perm,λi hi=>(O i hi).trans<|Rq.pre i hi⟩
theorem w_at{i j:Nat}{Q:Option Bool->SortSt->Prop}(Rq:RS st0 lo st)(D:DI<|arrOf st0)(hi:i<(arrOf st0).size)(hj:j<(arrOf st0).size)(q:Q (G<|decide (K (arrOf st) i<K (arrOf st) j)) st):wpS (model P w) A E s (ltAt' i j) Q st:=by
 let D':=D.perm Rq.perm;let(p,e1,m1):=zcg (a:=arrOf st) (i:=i) (by rw[Rq.size];show hi);let(p',e2,m2):=zcg (a:=arrOf st) (i:=j) (by rw[Rq.size];show hj);rw[K_at e1,K_at e2]at q;rw[ltAt'_eq];apply wpS_bind<|wpS_get (wpS_bind<|zbb e1 (wpS_bind<|zbb e2 (w_lt Rq.k (D'.ki p m1) (D'.ki p' m2) q)))
theorem zyo{a nrem:Nat}{Q:Option (Option Nat)×Nat->SortSt->Prop}(Rq:RS st0 lo st)(D:DI<|arrOf st0)(h1:1<=a)(h2:a<=nrem)(h3:lo+nrem<=(arrOf st0).size)(h4:Inc st lo a)(q:∀n,a<=n->n<=nrem->Inc st lo n->(n=nrem\/K (arrOf st) (lo+n)<K (arrOf st) (lo+n-1))->Q (B,n) st):
  wpS (model P w) A E s (forIn [a:nrem] ((B,a):Option (Option Nat)×Nat) λ_ c=>do
   let z ←ltAt' (lo+c.2) (lo+c.2-1)
   match z with
    |some sm=>if sm=N then pure (ForInStep.done (B,c.2))else pure (ForInStep.yield (B,c.2+1))
    |_=>pure<|ForInStep.done (G B,c.2)) Q st:=by
 apply wpS_forRange (I:=λx c st'=>st'=st/\c=(B,x)/\Inc st lo x) ?_ ?_ ⟨R,R,h4⟩
 .rintro x c st' g1 g2 ⟨rfl,rfl,h⟩;apply wpS_bind<|w_at Rq D (by dsimp only;omega) (by dsimp only;omega) (w_if (λc=>?_) λc=>?_)
  .exact wpS_pure<|q x g1 00 h (.inr<|of_decide_eq_true c)
  .exact wpS_pure ⟨R,R,h.step 00<|y4c.mp (of_decide_eq_false<|y0w.mpr c)⟩
 .rintro c st' ⟨rfl,rfl,h⟩;rw[y4f h2]at h ⊢;show q nrem h2 (y04 _) h<|.inl R
theorem zpk{nrem:Nat}{Q:Option Nat->SortSt->Prop}(Rq:RS st0 lo st)(D:DI<|arrOf st0)(h1:1<=nrem)(h3:lo+nrem<=(arrOf st0).size)(q:∀m st',RS st0 lo st'->1<=m->m<=nrem->Inc st' lo m->Q (G m) st'):wpS (model P w) A E s (countRun' lo nrem) Q st:=by
 let D':=D.perm Rq.perm;let sz:=Rq.size;apply wpS_bind<|zyo Rq D (y04 1) h1 h3 Inc.one λn n1 n2 inc e=>?_;apply w_if (λc=>wpS_pure<|q n st Rq n1 n2 inc) λc=>?_;let c:n≠nrem:=λz=>c<|beq_iff_eq.mpr z;let e:=e.resolve_left c;apply w_if (λd=>?_) λd=>?_
 .refine wpS_bind<|w_at Rq D 00 00 ?_;let:K (arrOf st) lo<K (arrOf st) (lo+n-1):=by
   let z:=inc 0 (n-1) 00 00;rw[Nat.add_zero]at z;rw[show lo+(n-1)=lo+n-1 by omega]at z;let:=D'.ne (i:=lo) (j:=lo+n-1) 00 00 00;omega
  rw[Xg this];show wpS_pure<|q n st Rq n1 n2 inc
 let e1:n=1:=by omega
 subst e1;apply wpS_bind<|zfo ?_;apply wpS_bind<|wpS_mono (wpS_forRange (I:=λx c st'=>st'=st/\c=(B,x,0)/\Dec st lo x) (Q:=λc st'=>st'=st/\∃x,c=(B,x,0)/\Dec st lo x/\2<=x/\x<=nrem) ?_ ?_ ⟨R,R,?_⟩) ?_
 .rintro x c st' g1 g2 ⟨rfl,rfl,h⟩;apply wpS_bind<|w_at Rq D (by dsimp only;omega) (by dsimp only;omega) (w_if (λc=>?_) λc=>?_)
  .refine wpS_pure ⟨R,R,λi j hij hj=>?_⟩;let c:=of_decide_eq_true c;dsimp only at c;by_cases l:j<x
   .exact h i j hij l
   let ej:j=x:=by omega
   subst ej;by_cases l:i=j
   .rw[l];show y26 _
   .let z:=h i (j-1) 00 00;rw[show lo+(j-1)=lo+j-1 by omega]at z;show y1t (y3y c) z
  .refine wpS_bind<|w_at Rq D (by dsimp only;omega) (by dsimp only;omega) ?_;let c:=y4c.mp<|of_decide_eq_false (y0w.mpr c);let:=D'.ne (i:=lo+x-1) (j:=lo+x) 00 00 00;dsimp only at c ⊢;rw[Xg<|show K (arrOf st') (lo+x-1)<K (arrOf st') (lo+x) by omega];show wpS_pure ⟨R,x,R,h,g1,by omega⟩
 .rintro c st' ⟨rfl,rfl,h⟩;rw[y4f 00]at h ⊢;show⟨R,nrem,R,h,by omega,y04 _⟩
 .intro i j hij hj;by_cases l:i=j
  .rw[l];show y26 _
  .rw[show i=0 by omega,show j=1 by omega];show y3y e
 rintro _ st' ⟨rfl,x,rfl,dec,x2,xn⟩;apply wpS_bind<|wpS_modify ?_;let hm:lo+x<=(arrOf st').size:=by omega
 let R':RS st0 lo (setArr st'<|mirror (arrOf st') lo (lo+x) ((lo+x-lo)/2)):=Rq.put (mirror_perm _ _ _ _) λi hi=>by rw[getElem?_mirror_all hm,Xp 00]
 apply wpS_bind<|zyo (a:=x) R' D 00 xn h3 (λi j hij hj=>?_) λn n1 n2 inc _=>wpS_pure<|q n _ R' (by have n1:x<=n:=n1;omega) n2 inc;change K (mirror _ _ _ _) _<=K (mirror _ _ _ _) _;rw[K_mirror hm,K_mirror hm,Xq 00,Xq 00,show lo+(lo+x)-1-(lo+i)=lo+(x-1-i) by omega,show lo+(lo+x)-1-(lo+j)=lo+(x-1-j) by omega];show dec _ _ 00 00
theorem zyn{n ok:Nat}{Q:Bool->SortSt->Prop}(Rq:RS st0 lo st)(D:DI<|arrOf st0)(h1:1<=ok)(h2:ok<=n)(h3:lo+n<=(arrOf st0).size)(inc:Inc st lo ok)(q:∀st',RS st0 lo st'->Inc st' lo n->Q N st'):wpS (model P w) A E s (binarySort' lo n ok) Q st:=by
 apply wpS_bind<|wpS_mono (wpS_forRange (I:=λk c st'=>c=(B,())/\RS st0 lo st'/\Inc st' lo k) (Q:=λc st'=>c=(B,())/\RS st0 lo st'/\Inc st' lo n) ?_ ?_ ⟨R,Rq,by rw[Nat.max_eq_left h1];show inc⟩) ?_
 .rintro k c st1 g1 g2 ⟨rfl,Rq,inc⟩;let sz:=Rq.size;apply wpS_bind (wpS_mono (wpS_forRange (I:=λx c st'=>st'=st1/\∃l r,c=(B,l,r)/\l<=r/\r<=k/\r-l<=k-x/\(∀i,i<l->K (arrOf st1) (lo+i)<=K (arrOf st1) (lo+k))/\∀i,r<=i->i<k->K (arrOf st1) (lo+k)<=K (arrOf st1) (lo+i))
   (Q:=λc st'=>st'=st1/\∃l,c=(B,l,l)/\l<=k/\(∀i,i<l->K (arrOf st1) (lo+i)<=K (arrOf st1) (lo+k))/\∀i,l<=i->i<k->K (arrOf st1) (lo+k)<=K (arrOf st1) (lo+i)) ?_ ?_ ⟨R,0,k,R,by omega,by omega,by omega,λi hi=>by omega,λi _ hi=>by omega⟩) ?_)
  .rintro x c st2 _ hx ⟨rfl,l,r,rfl,z1,z2,z3,z4,z5⟩;apply w_if (λc=>?_) λc=>wpS_bind<|w_at Rq D 00 (by dsimp only;let c:¬l>=r:=c;omega) (w_if (λd=>?_) λd=>?_)
   .let e:l=r:=Nat.le_antisymm z1 c;subst e;show wpS_pure ⟨R,l,R,z2,z4,z5⟩
   .let c:¬l>=r:=c;let d:=of_decide_eq_true d;show wpS_pure ⟨R,l,(l+r)/2,R,by omega,by omega,by omega,z4,λi y1 y2=>y1t (y3y d)<|inc _ _ y1 y2⟩
   .let c:¬l>=r:=c;let d:=y4c.mp<|of_decide_eq_false (y0w.mpr d);show wpS_pure ⟨R,(l+r)/2+1,r,R,by omega,z2,by omega,λi y=>y1t (inc i ((l+r)/2) 00 00) d,z5⟩
  .rintro c st2 ⟨rfl,l,r,rfl,z1,z2,z3,z4,z5⟩;let e:l=r:=by omega
   subst e;show⟨R,l,R,z2,z4,z5⟩
  rintro _ st2 ⟨rfl,l,rfl,z2,z4,z5⟩;let hk:lo+k<(arrOf st2).size:=by omega
  let es:lo+k-(lo+k-(lo+l))=lo+l:=by omega
  apply wpS_bind<|wpS_modify (wpS_pure ⟨R,Rq.put (bubble_perm _ _ _) λi hi=>?_,λi j hij hj=>?_⟩)
  .change(bubble _ (lo+k)<|lo+k-(lo+l))[i]?=_;rw[getElem?_bubble hk _ 00,es,Xp 00,Xp 00]
  change K (bubble _ (lo+k)<|lo+k-(lo+l)) _<=K (bubble _ (lo+k)<|lo+k-(lo+l)) _;rw[K_bubble hk 00,K_bubble hk 00,es];let le:∀i j,i<=j->j<k->K (arrOf st2) (lo+i)<=K (arrOf st2) (lo+j):=inc;by_cases ci:i=l
  .rw[Xq 00];by_cases cj:j=l
   .rw[Xq 00];show y26 _
   .rw[Xp 00,Xq 00,show lo+j-1=lo+(j-1) by omega];show z5 _ 00 00
  .rw[Xp 00];by_cases c1:i<l
   .rw[Xp 00];by_cases cj:j=l
    .rw[Xq 00];show z4 i c1
    .rw[Xp 00];by_cases c2:j<l
     .rw[Xp 00];show le i j hij 00
     .rw[Xq 00,show lo+j-1=lo+(j-1) by omega];show le i (j-1) 00 00
   .rw[Xq 00,Xp 00,Xq 00,show lo+i-1=lo+(i-1) by omega,show lo+j-1=lo+(j-1) by omega];show le _ _ 00 00
 .rintro c st1 ⟨rfl,Rq,inc⟩;rw[Nat.max_eq_left h1,y4f h2]at inc;show⟨R,Rq,inc⟩
 rintro _ st1 ⟨rfl,Rq,inc⟩;show wpS_pure<|q st1 Rq inc
end
theorem zri{n:Nat}(h:2<=n)(M:n<128):1<=minRun' n n 0/\minRun' n n 0<=n/\n<=2*minRun' n n 0:=by
 obtain⟨f,rfl⟩:∃f,n=f+2:=⟨n-2,by omega⟩;change 1<=minRun' (f+1+1) (f+2) 0/\minRun' (f+1+1) (f+2) 0<=f+2/\f+2<=2*minRun' (f+1+1) (f+2) 0;rw[minRun'_succ];by_cases c:f+2<64
 .rw[Xq c];omega
 .rw[Xp c,minRun'_succ,Xq 00];omega
section
variable {P:im}{w:World}{A:ir}{E:Y0}{s:ik}{st:SortSt}
theorem Inc.pw{xs:Array Keyed}{lo n:Nat}(h:∀i j,i<=j->j<n->K xs (lo+i)<=K xs (lo+j))(hl:lo+n<=xs.size):((xs.toList.drop lo).take n).Pairwise Rl:=by
 rw[y2s];intro i j hi o r;rw[y0t]at hi o;let Y:=zcg (a:=xs) (i:=lo+i) 00;let M:=zcg (a:=xs) (i:=lo+j) 00;let(p,J,_):=Y;let(p',g,_):=M;let z:=h i j 00 00;rw[K_at J,K_at g]at z;let g1:((xs.toList.drop lo).take n)[i]?=G p:=by rw[y25 00,y2m,y0k];show J
 let U:((xs.toList.drop lo).take n)[j]?=G p':=by rw[y25 00,y2m,y0k];show g
 let(_,g1):=y09.mp g1;let(_,U):=y09.mp U;rw[g1,U];show z
structure SR(st0 st:SortSt):Prop where
 k:iH st=oneType'
 f:failedOf st=B
 perm:(arrOf st).Perm<|arrOf st0
def Two(st0:SortSt)(n:Nat)(st:SortSt):Prop:=SR st0 st/\∃m pw,0<m/\m<n/\Inc st 0 m/\Inc st m (n-m)/\pendingOf st=#[(0,m,pw),(m,n-m,0)]
theorem zym{Q:Unit->SortSt->Prop}(D:DI<|arrOf st)(hk:iH st=oneType')(hf:failedOf st=B)(hp:pendingOf st=#[])(h2:2<=(arrOf st).size)(h3:(arrOf st).size<128)
  (q:∀st',(arrOf st').Perm (arrOf st)->failedOf st'=B->(arrOf st').toList.Pairwise Rl->Q () st'):wpS (model P w) A E s sortRuns' Q st:=by
 apply wpS_bind<|wpS_get ?_;dsimp -zeta only;generalize en:(arrOf st).size=n at h2 h3 ⊢;let(r1,r2,r3):=zri h2 h3;apply wpS_bind (wpS_mono (wpS_forRange (I:=λx c st'=>(x=0/\c=(B,0)/\st'=st)\/(1<=x/\∃m,c=(B,m)/\m<=n/\(x=1\/m=n)/\n<=2*m/\SR st st'/\Inc st' 0 m/\pendingOf st'=#[(0,m,0)])\/(1<=x/\c=(B,n)/\Two st n st'))
  (Q:=λc st'=>c=(B,n)/\((SR st st'/\Inc st' 0 n/\pendingOf st'=#[(0,n,0)])\/Two st n st')) ?_ ?_ (.inl ⟨R,R,R⟩)) ?_)
 .rintro x c st1 _ hx (⟨rfl,rfl,rfl⟩|⟨hx1,m,rfl,hm,hmn,hm2,S,inc,pe⟩|⟨hx1,rfl,T⟩)
  .refine w_if (λc=>Xa c<|show¬(0>=n) by omega) λ_=>?_;apply zea λRq hR=>?_;apply wpS_bind<|zpk (lo:=0) ⟨hk,hf,R,Array.Perm.refl _,λ_ _=>rfl⟩ D (by dsimp only;omega) (by dsimp only;omega) λm st2 R2 m1 m2 inc=>?_;let m2:m<=n:=m2;dsimp -zeta only
   extract_lets u1 jp fo u3
   let J:∀m st3,RS st1 0 st3->Inc st3 0 m->m<=n->n<=2*m->wpS (model P w) A E s (jp () m) Rq st3:=by
    intro m st3 Rq inc h1 h2;apply wpS_bind<|wpS_get ?_;let pe:pendingOf st3=#[]:=Rq.p.trans hp;let eb:(pendingOf st3).back?=B:=by rw[pe];rfl
    rw[eb];apply wpS_bind<|wpS_modify (wpS_pure<|hR _ _ (.inr<|.inl ⟨y04 1,0+m,R,by omega,.inl R,by omega,⟨Rq.k,Rq.f,Rq.perm⟩,by rw[y3k];show inc,?_⟩));change(pendingOf st3).push _=_;rw[pe,y3k];rfl
   apply w_if (λc=>?_) λc=>J m st2 R2 inc m2 (by have:¬m<minRun' n n 0:=c;omega);let c:m<minRun' n n 0:=c;apply wpS_bind<|zfo (wpS_bind<|zyn (lo:=0) (n:=min (n-0)<|minRun' n n 0) (st0:=st1) R2 D m1 00 00 inc λst3 R3 inc3=>J (min (n-0)<|minRun' n n 0) st3 R3 inc3 00 00)
  .by_cases hlt:m=n
   .subst hlt;apply w_if (λc=>wpS_pure ⟨R,.inl ⟨S,inc,pe⟩⟩) λc=>Xa (y04 _) c
   apply w_if (λc=>Xa c<|show¬(m>=n) by omega) λ_=>?_;apply zea λRq hR=>?_;let D1:=D.perm S.perm;let en1:(arrOf st1).size=n:=by rw[S.perm.size_eq];show en
   apply wpS_bind<|zpk (lo:=m) (st0:=st1) ⟨S.k,S.f,R,Array.Perm.refl _,λ_ _=>rfl⟩ D1 (by dsimp only;omega) (by dsimp only;omega) λm' st2 R2 m1 m2 inc'=>?_;let m2:m'<=n-m:=m2;dsimp -zeta only
   extract_lets u1 jp fo u3
   let J:∀st3,RS st1 m st3->Inc st3 m (n-m)->wpS (model P w) A E s (jp ()<|n-m) Rq st3:=by
    intro st3 R3 inc3;apply wpS_bind<|wpS_get ?_;let pe3:pendingOf st3=#[(0,m,0)]:=R3.p.trans pe;let eb:(pendingOf st3).back?=G (0,m,0):=by rw[pe3];rfl
    rw[eb];apply wpS_bind<|wpS_mono (wpS_forRange (I:=λ_ c st'=>c=(B,())/\st'=st3) (Q:=λc st'=>c=(B,())/\st'=st3) ?_ (λ_ _ z=>z) ⟨R,R⟩) ?_
    .rintro y c st' _ _ ⟨rfl,rfl⟩;apply wpS_bind<|wpS_get ?_;let es:¬(pendingOf st').size>1:=by rw[pe3];show y1g 1
     dsimp only;rw[Xp es];show wpS_pure ⟨R,R⟩
    rintro _ st' ⟨rfl,rfl⟩;apply wpS_bind<|wpS_modify (wpS_bind<|wpS_modify (wpS_pure<|hR _ _ (.inr<|.inr ⟨by omega,?_,⟨R3.k,R3.f,R3.perm.trans S.perm⟩,m,power' n (2*0+m) (2*0+m+m+(n-m)) n,by omega,by omega,λi j hij hj=>?_,inc3,?_⟩)))
    .change(B,m+(n-m))=_;rw[show m+(n-m)=n by omega]
    .let z:=inc i j hij hj;rw[←K_congr (xs:=arrOf st') (R3.pre (0+i) 00),←K_congr (xs:=arrOf st') (R3.pre (0+j) 00)]at z;show z
    .change((pendingOf st').modify ((pendingOf st').size-1) _).push _=_;rw[pe3];simp[Array.modify];rfl
   apply w_if (λc=>?_) λc=>?_
   .let c:m'<minRun' n n 0:=c;let e:min (n-m) (minRun' n n 0)=n-m:=by omega
    apply wpS_bind<|zfo (wpS_bind<|zyn (lo:=m) (n:=min (n-m)<|minRun' n n 0) (st0:=st1) R2 D1 m1 00 00 inc' λst3 R3 inc3=>?_);change wpS _ _ _ _ (jp ()<|min (n-m) (minRun' n n 0)) _ _;rw[e]at inc3 ⊢;show J st3 R3 inc3
   .let c:¬m'<minRun' n n 0:=c;let e:m'=n-m:=by omega
    change wpS _ _ _ _ (jp () m') _ _;rw[e]at inc' ⊢;show J st2 R2 inc'
  .exact w_if (λc=>wpS_pure ⟨R,.inr T⟩) λc=>Xa (y04 _) c
 .rintro c st1 (⟨h,_⟩|⟨_,m,rfl,_,h,_,S,inc,pe⟩|⟨_,rfl,T⟩)
  .omega
  .let:m=n:=by omega
   subst this;show⟨R,.inl ⟨S,inc,pe⟩⟩
  .exact⟨R,.inr T⟩
 rintro _ st1 ⟨rfl,h⟩;apply wpS_bind<|wpS_mono (wpS_forRange (I:=λx c st'=>c=(B,())/\((x=0/\Two st n st')\/(SR st st'/\(arrOf st').toList.Pairwise Rl/\∃v,pendingOf st'=#[v]))) (Q:=λc st'=>c=(B,())/\SR st st'/\(arrOf st').toList.Pairwise Rl) ?_ ?_ ⟨R,?_⟩) ?_
 .rintro x c st2 _ hx ⟨rfl,⟨rfl,S,m,pw,m0,mn,i1,i2,pe⟩|⟨S,pwS,v,pe⟩⟩
  .refine wpS_bind<|wpS_get ?_;let ez:(arrOf st2).size=n:=by rw[S.perm.size_eq];show en
   let D2:=D.perm S.perm;let l1:((arrOf st2).toList.take m).length=m:=by rw[y0t,y0m];omega
   let l2:((arrOf st2).toList.drop m).length=n-m:=by rw[y10,y0m];omega
   let key:wpS (model P w) A E s (mergeAt' 0) (λa st'=>a=N/\SR st st'/\(arrOf st').toList.Pairwise Rl/\∃v,pendingOf st'=#[v]) st2:=by
    apply zpj (X:=(arrOf st2).toList.take m) (Y:=(arrOf st2).toList.drop m) (pw:=pw) S.k S.f (y14 _ _).symm (by rw[l1,l2];show pe) 00 00 (λx hx=>D2.ki x<|y1r hx) (λx hx=>D2.ki x<|y27 hx) ?_ ?_ λst3 k3 f3 p3 w3 e3=>?_
    .let:=Inc.pw (lo:=0) i1 00;rwa[y2j]at this
    .let:=Inc.pw (lo:=m) i2 00;rwa[y0i 00]at this
    .rw[y14]at p3;show⟨R,⟨k3,f3,(y4p.mpr p3).trans S.perm⟩,w3,_,e3⟩
   simp only[pe];apply w_if (λc=>Xa c<|show¬(2<=1) by decide) λ_=>wpS_bind<|wpS_mono key ?_;rintro _ st3 ⟨rfl,z⟩;show wpS_pure ⟨R,.inr z⟩
  .refine wpS_bind<|wpS_get ?_;let es:(pendingOf st2).size<=1:=by rw[pe];show y04 1
   rw[Xq es];show wpS_pure ⟨R,S,pwS⟩
 .rintro c st2 ⟨rfl,⟨h,_⟩|⟨S,pwS,_⟩⟩
  .omega
  .exact⟨R,S,pwS⟩
 .rcases h with⟨S,inc,pe⟩|T
  .let:=Inc.pw (lo:=0) inc (by rw[S.perm.size_eq,en];omega);rw[y2j,y0i<|by rw[y0m,S.perm.size_eq,en];show y04 _]at this;show .inr ⟨S,this,_,pe⟩
  .exact .inl ⟨R,T⟩
 rintro _ st2 ⟨rfl,S,pwS⟩;show wpS_pure<|q st2 S.perm S.f pwS
end
section
variable {P:im}{w:World}{A:ir}{E:Y0}{s:ik}
theorem zuh{vs:List Va}{ns:List Int}(q:jt vs ns)(nd:ns.Nodup):DI (pairsOf vs):=by
 apply⟨λx O=>q.intKeys x O,?_⟩;let:(pairsOf vs).toList.map kk=ns:=by
  rw[pairsOf_toList,show(kk:Keyed->Int)=numOf∘Prod.fst from rfl,←y0u,List.map_fst_zip<|y04 _,q.nums]
 rw[this];show nd
theorem zlx{a:Ad}{vs:List Va}{ns:List Int}{n:Nat}{F:PySem.Fin->ik->Prop}(Y:s.heap.get? a=G (seqObj "list" vs.toArray n))(q:jt vs ns)(nd:ns.Nodup)(l:vs.length<128)
  (h:∀(out:Array Va) (ms:List Int),jt out.toList ms->ms.Perm ns->ms.Pairwise (·<=·)->F (.done<|.ret .none) {s with heap:=sortedHeap s.heap a vs out}) :
  wpAny (model P w) A (Builtin.«list.sort» ⟨[.ref a],[]⟩) F E s:=by
 by_cases f:vs.length<64
 .exact list_sort_tree Y q f h
 obtain⟨x,y,vs,rfl⟩:∃x y z,vs=x::y::z:=by
  match vs,f with
  |[],h=>show Xa 04 h
  |[_],h=>show Xa (show 1<64 by decide) h
  |x::y::z,_=>show⟨x,y,z,R⟩
 let u:=y0e Y;rw[list_sort_plain];obtain⟨J,D⟩:∃e,(s.heap.update a<|Obj.mapSeq λ_=>#[]).get? a=G (seqObj "list" #[] e):=⟨_,get?_update_seq Y _⟩;apply ig<|listItems_at Y R (ig (listUpdate_at Y R<|ig (seqEpoch_at D R<|ig (jE<|ig (wpAny_newList<|iu ?_)))) );let v:(((s.heap.update a<|Obj.mapSeq λ_=>#[]).push<|seqObj "tuple" (x::y::vs).toArray 0).push<|seqObj "list" #[] 0).get? a=G (seqObj "list" #[] J):=y03 _<|y03 _ D;change wpAny (model P w) A _ F E {s with heap:=((s.heap.update a<|Obj.mapSeq λ_=>#[]).push<|seqObj "tuple" (x::y::vs).toArray 0).push (seqObj "list" #[] 0)};dsimp only;let big:¬(x::y::vs).toArray.size<2:=by simp
 rw[Xp big,Xp big,keyKind_ints q];apply ig<|ii (ig<|iy (zym (st:=SortSt.mk' oneType' (pairsOf (x::y::vs)) #[] 7 B) (Q:=λ_ st'=>(arrOf st').Perm (pairsOf (x::y::vs))/\failedOf st'=B/\(arrOf st').toList.Pairwise Rl) (zuh q nd) R R R (by change 2<=(pairsOf _).size;rw[pairsOf_size];simp) (by change(pairsOf _).size<128;rw[pairsOf_size];show l) λst' a b c=>⟨a,b,c⟩) ?_ λ_ _ e=>e);rintro⟨⟨⟩,st'⟩ s' ⟨rfl,L,T,hs⟩;dsimp only;let sz:(arrOf st').size=(x::y::vs).length:=L.size_eq.trans<|pairsOf_size _;apply ig<|seqEpoch_at v R (ig<|listUpdate_at v R ?_ (hsz2:=by change((arrOf st').map _).size<=_;rw[Array.size_map,sz,jI];omega));rw[T];simp only[bne_self_eq_false,y3n,if_false];let(ms,I,C,d):=sorted_out q L (λi j r o=>by
  rw[pairsOf_size,←sz]at o;by_cases c:i=j
  .rw[c];show y26 _
  .let(p,J,_):=zcg (show i<(arrOf st').size by omega);let(p',g,_):=zcg o;rw[K_at J,K_at g];rw[←y0k]at J g;let(g1,rfl):=y09.mp J;let(U,rfl):=y09.mp g;show y2s.mp hs i j g1 U 00)
 show ii<|h _ ms I C d
end
section
variable {P:im}{w:World}{A:ir}{E:Y0}{s:ik}
theorem zk4{F:List Int}{a:Ad}{ks:List Int}{Q:Y0}(hh:A.handled=B)(x:SetTs P w s.heap a ks)(h64:F.length<128)(hF:∀k∈ks,k∈F)
  (q:∀(L:Ad) (vs:List Va) (ns:List Int) (n:Nat) (h':Heap) (d:Drawn) (c:Nat),jt vs ns->ns.Pairwise (· < ·)->(∀k,k∈ns↔k∈ks)->s.heap.objs.size<=L->h'.get? L=G (seqObj "list" vs.toArray n)->s.toks<=c->(∀b u,s.heap.get? b=G u->h'.get? b=G u)->Q (.ref L) {s with heap:=h',drawn:=d,toks:=c}) :
  wpAny (model P w) A (call (.builtin "sorted") [.ref a]) Q E s:=by
 let(n,I,o,l,ep,t,j,O,hd,(Y,M),(h3,h4,hsz),tb,U):=x;apply Calls.call_function_entry kind_sorted plain_sorted entry_sorted (args_sorted1 _) ?_;unfold Builtin.«sorted»;apply ig (m:=checkCount "sorted" 1 1 _)<|ii ?_;let r:∀e∈l.toList,(jV P w).is (iv e.2) e.2=N:=λe he=>by
  let((k,D,_),_):=Y e he;let(t,e'):=Va.isInt_shape D;rw[e']at D ⊢;show D
 let ivn:(l.toList.map λe=>iv e.2).Nodup:=by
  rw[List.Nodup,List.pairwise_map];apply List.Pairwise.imp_of_mem (λ{x y} O C z e=>?_) U;let h:=z _<|r x O;rw[e,r y C]at h;cases h
 let hes:l.size<=F.length:=by
  rw[←y0m,←y01 (f:=λe:Int×Va=>iv e.2)];apply ivn.length_le_of_subset λy C=>?_;let(e,he,rfl):=y0j.mp C;show hF _<|of_decide_eq_true ((M _).mpr ⟨e,he,r e he⟩)
 apply ig<|zl6 hh j O O.1 hd h4 tb (show l.size<=io by unfold io;omega) λvs h' d c p le htk D=>?_;let H:∀v∈vs,∃i t,v=.int i t:=λv hv=>by
  let(e,he,rfl):=y0j.mp<|p.mem_iff.mp hv;let((k,D,_),_):=Y e he;let(t,e):=Va.isInt_shape D;show⟨k,t,e⟩
 let hI:=zrv H;let J:vs.length<128:=by
  rw[p.length_eq,y01,y0m];omega
 let ndI:(vs.map iv).Nodup:=by
  let:=p.map iv;rw[y0u]at this;show this.nodup_iff.mpr ivn
 apply ig<|wpAny_newList ?_;let T:(h'.push<|seqObj "list" vs.toArray 0).get? h'.objs.size=G (seqObj "list" vs.toArray 0):=y0f _ rfl;change wpAny _ _ _ _ _ {s with heap:=h'.push<|seqObj "list" vs.toArray 0,drawn:=d,toks:=c};apply ig<|iu (i8 slot_list_sort ⟨_,T,R⟩ entry_list_sort (zlx T hI ndI J λout ns' g a2 a3=>⟨_,R,?_⟩)<|args_list_sort _);let pe:ns'.Perm (l.toList.map λe=>iv e.2):=by
  apply a2.trans ?_;let:=p.map iv;rwa[y0u]at this
 let(ne,hat):=sortedHeap_at (out:=out) T;apply ii ⟨_,R,q _ out.toList ns' ne _ d c g (zgp a3 ?_) (λk=>?_) le hat htk λb u e=>?_⟩
 .exact pe.nodup_iff.mpr ivn
 .rw[pe.mem_iff,y0j];let:=M k;rw[decide_eq_true_eq]at this;rw[this];constructor
  .rintro⟨e,he,rfl⟩;show⟨e,he,r e he⟩
  .rintro⟨e,he,D⟩;let(t,e'):=Va.isInt_shape D;show⟨e,he,by rw[e'];rfl⟩
 .let lb:b<h'.objs.size:=y0p (y0e e) le;apply(sortedHeap_old (y0o lb) ?_).trans<|y03 _ (D b u e);rw[y1a];show y36 lb
end
def rSortU(P:im)(w:World):List V->Hp->VK->Prop:=λxs H Q=>∃(p:Ad) (ns F:List Int),xs=[.ref p]/\H p=G (setI P w p ns)/\F.length<128/\(∀k∈ns,k∈F)/\∀(ms:List Int),ms.Pairwise (· < ·)->(∀k,k∈ms↔k∈ns)->∀L H',New H L (.lst<|ms.map V.int) H'->Q (.ref L) H'
theorem zfb{X:Cx}(C:X.calm=N):CallR X (.builtin "sorted") (rSortU X.prog X.w):=by
 intro pins s σ H xs us Q I r h;let(p,ns,F,rfl,O,hz,A,q):=h;let(u,rfl,rx):=vals1 r;cases(show u=Va.ref p from rx);let(x,_):=I.hok p _ O;apply zk4 (I.ok.hd C) x hz A λL vs ms n h' d c g v e le a f k=>?_;let J:Vals (ms.map V.int) vs:=zgw g;let l:H L=B:=I.hok.fresh le;apply⟨.ref L,_,(I.laid (t':=c) (o:=.lst<|ms.map V.int) k le ⟨?_,vs,n,J,a⟩).drew d,R,q ms v e L _<|New.mk' l _⟩;rw[y01];let nd:ms.Nodup:=v.imp λh=>by omega
 let:ms.length<=F.length:=nd.length_le_of_subset λy i=>A y<|(e y).mp i;show zah 00
end L2
namespace SM
open PySem PySem.Spec PyProof.Rows L2 SS
theorem CalE.le{P:im}{w:World}{K:Frag}{mg:Y1}{base:Heap}{n:Nat}{x:Str}{ps:List Str}{sp sp':Sp}(C:CalE P w K mg base n x ps sp)(h:∀vs H Q E,sp' vs H Q E->sp vs H Q E):CalE P w K mg base n x ps sp':=by
 let(f,fd,F,b,kp,m):=C.ex;show⟨f,fd,⟨λvs H Q E z=>F.len vs H Q E<|h _ _ _ _ z,λA outer s H args us vs Q E L M a U q=>F.run A outer s H args us vs Q E L M a U<|h _ _ _ _ q⟩,b,kp,m⟩
theorem CalE.fnE{P:im}{w:World}{K:Frag}{mg:Y1}{base:Heap}{n:Nat}{x:Str}{ps:List Str}{sp:Sp}(C:CalE P w K mg base n x ps sp):∃f,CalFE P w K mg base n f ps sp/\mg x=G (.ref f):=by
 let(f,fd,F,b,kp,m):=C.ex;show⟨f,⟨fd,F,b,kp⟩,m⟩
inductive XR(T:Thg)(t0:List Nat):Option Mc->Prop where
 |some {fs:List (List Nat)} {m:Mc} (g:Gro T t0 fs fs.length) (l:fs.length<=100) (ok:m.Ok) (w:m.w=T.w) (c:Canon m) (tk:∀row,(∀l∈row,l<2^T.w)->m.fin (m.run 0 row)=T.fin (T.run t0 row)):XR T t0<|G m
 |none {fs:List (List Nat)} {k:Nat} (g:Gro T t0 fs k) (l:100<fs.length):XR T t0 B
theorem XR.one{T:Thg}{t0:List Nat}{r r':Option Mc}(a:XR T t0 r)(b:XR T t0 r'):r=r':=by
 cases a with
 |some g l ok w c Y =>
  cases b with
  |some g' l' d w' c' U=>rw[zd6 (by rw[w,w']) ok d c c' λrow L=>by rw[Y row λx O=>by rw[←w];show L x O,U row λx O=>by rw[←w];show L x O]]
  |none g' l'=>have:=Gro.ends g g' (.inl<|y04 _)<|.inr l';rw[this]at l;omega
 |none g l =>
  cases b with
  |some g' l'=>have:=Gro.ends g' g (.inl<|y04 _)<|.inr l;rw[this]at l';omega
  |none=>rfl
def XQ(C:Ad)(T:Thg)(t0:List Nat)(H:Hp)(Q:VK)(E:XK):Prop :=
 (∀m,XR T t0 (G m)->∀p H',Same H H'->RepM H' p m->Q (.ref p) H')/\(XR T t0 B->∀e H',Same H H'->E (.ref C) (G e) H')
def zch(C:Ad)(P:im)(w:World)(K:Frag)(mg:Y1)(base:Heap)(I:Ad)(qs:Y3):Sp:=λvs H Q E=>∃(a d c:Ad) (fd i:i5) (T:Thg) (Gq:List Nat->Prop) (Rq:Hp->Prop) (t0:List Nat),
 vs=[nV T.w,.ref a,.ref d,.ref c]/\TabOk H I qs/\H a=G (.tup<|t0.map nV)/\H d=G (fnO fd d)/\H c=G (fnO i c)/\CloH P w K mg base 4 H d 1 (zcy Rq T Gq)/\CloH P w K mg base 4 H c 1 (zfe Rq T Gq)/\Rq H/\(∀H1 H2,Same H1 H2->Rq H1->Rq H2)/\T.w<=4/\Gq t0/\
 (∀t,Gq t->(T.step t).length=2^T.w/\∀u∈T.step t,Gq u)/\XQ C T t0 H Q E
def zef(C:Ad)(P:im)(w:World)(K:Frag)(mg:Y1)(base:Heap)(u:Ad)(d:Y3)(o:Ad)(e:Y3):Sp:=λvs H Q E=>∃(a b f:Ad) (fd:i5) (i m2:Mc) (A:Bool->Bool->Bool),
 vs=[.ref a,.ref b,.ref f]/\TabOk H u d/\TabOk H o e/\RepMK K H a i/\RepMK K H b m2/\i.Ok/\m2.Ok/\i.w=m2.w/\H f=G (fnO fd f)/\CloH P w K mg base 2 H f 2 (zfh A)/\XQ C (pairT i m2 A) [0,0] H Q E
def zdh(C:Ad)(K:Frag)(u:Ad)(d:Y3)(o:Ad)(e:Y3)(J:Ad)(f:Y3)(A:Bool->Bool->Bool):Sp:=λvs H Q E=>∃(a b:Ad) (i m2:Mc),
 vs=[.ref a,.ref b]/\TabOk H u d/\TabOk H o e/\TabOk H J f/\RepMK K H a i/\RepMK K H b m2/\i.Ok/\m2.Ok/\i.w=m2.w/\XQ C (pairT i m2 A) [0,0] H Q E
def zdi(C:Ad)(u:Ad)(d:Y3)(O:Ad)(qd:Y3):Sp:=λvs H Q E=>∃(a:Ad) (m:Mc) (t:Nat),vs=[.ref a,nV t]/\TabOk H u d/\TabOk H O qd/\RepM H a m/\m.Ok/\t<m.w/\XQ C (dropT m t) [0] H Q E
def zg3:Sp:=λvs H Q _=>∃(a b c:Ad) (m:Mc) (U ls:List Nat),vs=[.ref a,.ref b,.ref c]/\RepM H a m/\m.Ok/\H b=G (.tup<|U.map nV)/\H c=G (.tup<|ls.map nV)/\(∀r∈U,r<m.n)/\(∀l∈ls,l<2^m.w)/\U.length<=100/\ls.length<=2/\
 ∀p (ms:List Nat) H',Same H H'->H' p=G (.tup<|ms.map nV)->ms.Pairwise (· < ·)->(∀k,k∈ms↔∃r∈U,∃l∈ls,m.go r l=k)->Q (.ref p) H'
theorem metK_Y{C:Ad}{K:Frag}{u:Ad}{d:Y3}{o:Ad}{e:Y3}{J:Ad}{f:Y3}{A:Bool->Bool->Bool}:∀vs H Q E,zk1 K u d o e J f A vs H Q E->zdh C K u d o e J f A vs H Q E:=by
 rintro vs H Q E ⟨a,b,i,m2,rfl,s,y,O,r1,Y,D,v,j,few,q⟩;apply⟨a,b,i,m2,R,s,y,O,r1,Y,D,v,j,λm x p H' g r=>?_,λx=>?_⟩
 .cases x with
  |some g' l ok w c T=>show q p m H' g r ok w c λrow L=>by rw[T row L,zm3 D v j row D.pos v.pos L];rfl
 .cases x with
  |none g' l =>
   let:=zui<|Gro.fnd ⟨0,0,R,D.pos,v.pos⟩ (λt h=>(zjp D v j h).2) g';omega
inductive Lr:List Str->Sy->Prop where
 |bare {tl:List Str} {wd n m:Str} (f:Frm tl) (hn:n∈tl) (hm:m∈tl) (hw:wd∈SM.rowWords):Lr tl<|.bare wd n m
 |neg {tl:List Str} {s:Sy} (h:Lr tl s):Lr tl<|.neg s
 |two {tl:List Str} {w:Str} {s t:Sy} (h1:Lr tl s) (h2:Lr tl t):Lr tl<|.two w s t
 |qu {tl:List Str} {w n:Str} {s:Sy} (f:Frm tl) (h:Lr (tl++[n]) s):Lr tl<|.qu w n s
theorem Lr.frm:∀{s:Sy} {tl:List Str},Lr tl s->Frm tl
 |.bare _ _ _,_,.bare f _ _ _=>f
 |.neg _,_,.neg h=>h.frm
 |.two _ _ _,_,.two h _=>h.frm
 |.qu _ _ _,_,.qu f _=>f
inductive PutM(tl:List Str):Str->List Mc->Option Mc->Prop where
 |and {M1 M2:Mc} {r:Option Mc} (x:XR (pairT M1 M2 λx y=>x&&y) [0,0] r):PutM tl "and" [M1,M2] r
 |or {M1 M2:Mc} {r:Option Mc} (x:XR (pairT M1 M2 λx y=>x||y) [0,0] r):PutM tl "or" [M1,M2] r
 |neg {M1 M2 mF:Mc} {r:Option Mc} (Rq:Red (turned M1) M2) (F:FitR tl mF) (x:XR (pairT M2 mF λx y=>x&&y) [0,0] r):PutM tl "not" [M1] r
 |some {M1:Mc} {r:Option Mc} (x:XR (dropT M1 tl.length) [0] r):PutM tl "some" [M1] r
theorem PutM.one{tl:List Str}{w:Str}{i:List Mc}{r r':Option Mc}(a:PutM tl w i r)(b:PutM tl w i r'):r=r':=by
 cases a with
 |and x=>cases b with|and y=>show x.one y
 |or x=>cases b with|or y=>show x.one y
 |neg Rq F x =>
  cases b with
  |neg e d y =>
   let J:=ztt Rq e R λrow _=>rfl;let g:_=_:=zd6 (by rw[F.w,d.w]) F.ok d.ok F.canon d.canon λrow L=>by rw[F.takes row L,d.takes row λc C=>by rw[d.w,←F.w];show L c C]
   rw[J,g]at x;show x.one y
 |some x=>cases b with|some y=>show x.one y
inductive Br:Sy->List Str->Option Mc->Prop where
 |bare {wd n m:Str} {tl:List Str} {M:Mc} (Bq:BareM tl wd (tl.idxOf n) (tl.idxOf m) M):Br (.bare wd n m) tl<|G M
 |two {w:Str} {s t:Sy} {tl:List Str} {M1 M2:Mc} {r:Option Mc} (h1:Br s tl<|G M1) (h2:Br t tl<|G M2) (p:PutM tl w [M1,M2] r):Br (.two w s t) tl r
 |two1 {w:Str} {s t:Sy} {tl:List Str} (h1:Br s tl B):Br (.two w s t) tl B
 |two2 {w:Str} {s t:Sy} {tl:List Str} {M1:Mc} (h1:Br s tl<|G M1) (h2:Br t tl B):Br (.two w s t) tl B
 |neg {s:Sy} {tl:List Str} {M1:Mc} {r:Option Mc} (h1:Br s tl<|G M1) (p:PutM tl "not" [M1] r):Br (.neg s) tl r
 |neg1 {s:Sy} {tl:List Str} (h1:Br s tl B):Br (.neg s) tl B
 |some {n:Str} {s:Sy} {tl:List Str} {M1:Mc} {r:Option Mc} (h1:Br s (tl++[n])<|G M1) (p:PutM tl "some" [M1] r):Br (.qu "some" n s) tl r
 |some1 {n:Str} {s:Sy} {tl:List Str} (h1:Br s (tl++[n]) B):Br (.qu "some" n s) tl B
 |all {n:Str} {s:Sy} {tl:List Str} {r:Option Mc} (h:Br (.neg<|.qu "some" n (.neg s)) tl r):Br (.qu "all" n s) tl r
theorem Br.one{s:Sy}{tl:List Str}{r:Option Mc}(a:Br s tl r):∀{r'},Br s tl r'->r=r':=by
 induction a with
 |bare Bq=>intro r' b;cases b with|bare d=>rw[zs3 Bq d]
 |two Y M p f l =>
  intro r' b;cases b with
  |two g1 U p'=>cases f g1;cases l U;show p.one p'
  |two1 g1=>cases f g1
  |two2 g1 U=>cases l U
 |two1 Y f =>
  intro r' b;cases b with
  |two g1 U p'=>cases f g1
  |two1 g1=>rfl
  |two2 g1 U=>rfl
 |two2 Y M f l =>
  intro r' b;cases b with
  |two g1 U p'=>cases l U
  |two1 g1=>rfl
  |two2 g1 U=>rfl
 |neg Y p E =>
  intro r' b;cases b with
  |neg g1 p'=>cases E g1;show p.one p'
  |neg1 g1=>cases E g1
 |neg1 Y E =>
  intro r' b;cases b with
  |neg g1 p'=>cases E g1
  |neg1 g1=>rfl
 |some Y p E =>
  intro r' b;cases b with
  |some g1 p'=>cases E g1;show p.one p'
  |some1 g1=>cases E g1
 |some1 Y E =>
  intro r' b;cases b with
  |some g1 p'=>cases E g1
  |some1 g1=>rfl
 |all h E =>
  intro r' b;cases b with
  |all g=>show E g
theorem XR.ok{T:Thg}{t0:List Nat}{m:Mc}(x:XR T t0<|Option.some m):m.Ok/\m.w=T.w:=by cases x with|some g l ok w=>show⟨ok,w⟩
theorem Br.ok{s:Sy}{tl:List Str}{r:Option Mc}(b:Br s tl r):∀{M:Mc},r=Option.some M->M.Ok/\M.w=tl.length:=by
 induction b with
 |bare Bq=>intro M e;cases e;show⟨Bq.ok,Bq.w⟩
 |two Y a p f l =>
  intro M e;subst e;let d:=(f R).2;cases p with
  |and x=>show⟨x.ok.1,x.ok.2.trans d⟩
  |or x=>show⟨x.ok.1,x.ok.2.trans d⟩
 |neg Y p E =>
  intro M e;subst e;cases p with
  |neg Rq F x=>show⟨x.ok.1,x.ok.2.trans<|Rq.w.trans (E R).2⟩
 |some Y p E =>
  intro M e;subst e;cases p with
  |some x =>
   let d:=(E R).2;rw[y0d,y0q]at d;show⟨x.ok.1,x.ok.2.trans<|by change _-1=_;omega⟩
 |all h E=>show E
 |_=>intro M e;cases e
def BQ(C:Ad)(s:Sy)(tl:List Str)(H:Hp)(Q:VK)(E:XK):Prop :=
 (∀M,Br s tl (G M)->∀p H',Same H H'->RepM H' p M->Q (.ref p) H')/\(Br s tl B->∀e H',Same H H'->E (.ref C) (G e) H')
def zwt(C:Ad)(u:Ad)(d:Y3)(o:Ad)(e:Y3)(J:Ad)(f:Y3)(x:Ad)(a:Y3)(O:Ad)(qd:Y3)(n:Nat):Sp:=λvs H Q E=>∃(v:V) (b:Ad) (tl:List Str) (s:Sy),vs=[v,.ref b]/\TabJ H u d o e J f x a O qd/\Rep H v s/\H b=G (.lst<|tl.map V.str)/\Lr tl s/\mcost s<=n/\BQ C s tl H Q E
def zi7(P:im)(w:World)(K:Frag)(mg:Y1)(base:Heap)(J a r c D fp:Ad)(y:Ad)(qk:Y3)(sp:Nat->Sp):Sp:=λvs H Q _=>vs=[.ref J,.ref a,.ref r,.ref c,.ref D,.ref fp]/\TabOk H y qk/\
 ∀f fd H',Same H H'->H' f=G (fnO fd f)->(∀n,CloHE P w K mg base (11+n) H' f 2<|sp n)->Q (.ref f) H'
def zi9(C:Ad)(u:Ad)(d:Y3)(o:Ad)(e:Y3)(J:Ad)(f:Y3)(x:Ad)(a:Y3)(O:Ad)(qd:Y3)(y:Ad)(qk:Y3):Sp:=λvs H Q E=>∃(v:V) (b:Ad) (tl:List Str) (s:Sy),vs=[v,.ref b]/\TabJ H u d o e J f x a O qd/\TabOk H y qk/\Rep H v s/\H b=G (.lst<|tl.map V.str)/\LetF tl s/\Lr tl s/\mcost s<=16/\BQ C s tl H Q E
end SM
namespace L2
open PySem PySem.Spec PyProof.Rows PySem.W PySem.Calls
def PTB(X:Cx)(hs:List jP)(body:List Stmt)(t:TS):Prop :=
 ∀(pins:Y2) (s:ik) (σ:St) (H:Hp) (D:Ends),02 H s->t D σ H->wpAny 06 X.A (execs body X.env) (SP X pins D)
  (λe s₁=>wpAny 06 X.A (lq e X.env) (λ_ s₂=>wpAny 06 X.A (jT e B) (λ_ s₃=>wpAny 06 X.A (handleBy e X.env hs) (SP X pins D) X.xe s₃) X.xe s₂) X.xe s₁) s
section
variable {X:Cx}{h₀:jP}{hs:List jP}{t u:TS}{pos:Pos}
theorem zqa(h:PTB X (h₀::hs) body t):PS X (.Try body (h₀::hs) [] [] pos) t:=by
 intro pins s σ H D I z;apply wpAny_Try_except<|thn (h pins s σ H D I z) λf s1 q=>?_;cases f with
 |next=>show iR q
 |brk=>show q
 |cont=>show q
 |ret u=>show q
theorem zp9(C:PT X.nox c g)(A:PTB X (h₀::hs) a t)(U:PTB X (h₀::hs) b u):PTB X (h₀::hs) [.If c a b pos] (tIfS g t u):=by
 intro pins s σ H D I h;apply iP<|wpAny_If (iy (C pins s σ H _ (I.wish _) h) (λd s1 ⟨H1,I1,w⟩=>?_) λ_ _ z=>False.elim z);let I1:=I1.unwish;let nx:∀f s',SP X pins D f s'->(match f with|Flow.next=>wpAny 06 X.A (execs [] X.env) (SP X pins D) (λe s₁=>wpAny 06 X.A (lq e X.env) (λ_ s₂=>wpAny 06 X.A (jT e B) (λ_ s₃=>wpAny 06 X.A (handleBy e X.env (h₀::hs)) (SP X pins D) X.xe s₃) X.xe s₂) X.xe s₁) s'|f=>SP X pins D f s'):=λf s' q=>by
  cases f with
  |next=>show iR q
  |brk=>show q
  |cont=>show q
  |ret u=>show q
 cases d with
 |true=>show thn (A pins s1 σ H1 D I1 w) nx
 |false=>show thn (U pins s1 σ H1 D I1 w) nx
end
section
variable {X:Cx}{pins:Y2}{σ:St}{H:Hp}{s:ik}{k:Nat}{fa:Ad}{fd:i5}{ps:List Str}{sp:Sp}
theorem ptb_x{x f c:Str}{i:Nat}{S:Ad}{e:Expr}{l:List Expr}{t:TA}{ts:TS}{px np r g9 cp hpos:Pos}{cz:Stmt}{bv:List Stmt}(F:FnOk X.prog X.w X.K X.mg X.base (CXE X.prog X.w) k fa fd ps sp)(hr:Room k X.A)(hg:Gl X f)(hm:X.mg f=G (.ref fa))
  (hkp:PySem.W.keepIn X.K (.ref fa)=N) (U:Binds X.K fd ps []) (d:PA X.nox (e::l) t) (hgS:Gl X c) (hmS:X.mg c=G (.ref S)) (kS:KSup X.K S)
  (O:X.ex=[]) (E:X.stack=X.env::X.outer) (ag:X.env.frame=G X.env.locals) (hN:X.Nq.Nodup) (hi:X.Nq[i]?=G x) (hxl:Loc X.env.scope x) (hsu:∀a,PSs (X.held a) (cz::bv) ts)
  (hs:j9 (.Call (.Name f np) (e::l) [] r) (G<|.Name x px) g9.line X.env=pure Fa:=by rfl) (hf:X.fn x=N\/X.env.scope.names.lookup x=G .local:=by first|show .inl rfl|show .inr rfl|assumption) (j:(f==("__debug__":Str))=Fa:=by decide)
  (hdc:(c==("__debug__":Str))=Fa:=by decide) (he:iq (e::l) X.env=(Fa,eval e X.env)::iq l X.env:=by rfl) (aw:(ji r<|iq l X.env).any (·.1)=Fa:=by rfl) :
  PTB X [.ExceptHandler (G<|.Name c cp) B (cz::bv) hpos] [.Assign [.Name x px] (.Call (.Name f np) (e::l) [] r) g9] (tTryX X.K S sp i t ts):=by
 intro pins s σ H D I h;apply iP<|wpAny_Assign_Name (iy (zyd F hr hg hm hkp U d I h (Xe:=_) (λH1 s1 ev s' I1 cx=>?_) j he aw) (λv s1 zz=>ex5 zz λy H1 I1 r1 q1=>?_) λ_ _ z=>z) hs
 ·-- an pj
  let(a,cls,H2,rfl,os,bare,un,hok,(oe,vs,T,oT,tts,t1,t2,t3,t4,t6,t7,t8,t9,n1,n2,Y,M),ee):=cx;let(C,rfl,ms,ht):=ee a rfl;let I2:02 H2 s':=I1.call' (ch:=[]) os un hok bare λb z=>nomatch z;let nex:∀b,b∉X.ex:=λb z=>by rw[O]at z;cases z
  let s0:∀b,s1.heap.get? b=B->X.s₀.heap.get? b=B:=λb z=>by
   cases q:X.s₀.heap.get? b with
   |none=>rfl
   |some o =>
    let(o',Q):=I1.base.there b o q<|nex b;rw[z]at Q;cases Q
  let pn:∀b,s1.heap.get? b=B->∀p∈X.pn++pins,p.1≠b:=λb z p hp q=>by
   let:=(I1.pin p hp).1;rw[q,z]at this;cases this
  let I3:=I2.adopt (o:=excO a<|.ref C) Y (s0 a n1) t1 t3 (pn a n1)<|exc_ok ⟨oe,vs,t1,t2,t3⟩;let h2':upd H2 a (excO a<|.ref C) T=B:=by rw[zak t6];show M
  let I4:=I3.adopt (o:=tbO T) h2' (s0 T n2) t7 t8 (pn T n2)<|zyq ⟨oT,tts,t7,t8⟩;apply zux (base:=X.base) (outer:=X.outer) (L:=X.env.locals) (T:=T) (by rw[←E];show I.ok.frames) (by rw[←E];show I2.stack) ag t1 t3 t4 t6 t7 t8 t9 λh'' kk sl tb ⟨fk,cf,T2,jp,k6,u1,u2,u3,u4,u5,u6,u7,u8,u9⟩=>?_;rw[←E]at kk sl;let ea4:upd (upd H2 a<|excO a (.ref C)) T (tbO T) a=G (excO a<|.ref C):=by rw[zak<|Ne.symm t6,zar]
  let I5:=I4.touch (L:=[a,T]) (t':=s'.toks) (h':=h'') (λb o b1 A q=>kk b o b1 (λz=>A<|by simp[z]) (λz=>A<|by simp[z]) q) sl λb U=>by
   simp only[y06,y0h,or_false]at U;rcases U with rfl|rfl
   .exact⟨_,ea4,⟨fk,cf,u1,u2.trans t2,u3⟩,_,u1⟩
   .let(o,w,J,g):=id tb;show⟨_,zar,tb,o,J⟩
  let T2n:s1.heap.get? T2=B:=by
   cases q:s1.heap.get? T2 with
   |none=>rfl
   |some o =>
    let(o',Q):=un.there T2 o q λz=>nomatch z;rw[u9]at Q;cases Q
  let T2T:T2≠T:=λz=>by rw[z,t7]at u9;cases u9
  let HT2:upd (upd H2 a<|excO a (.ref C)) T (tbO T) T2=B:=by
   rw[zak T2T,zak u5];cases q:H2 T2 with
   |none=>rfl
   |some o =>
    let(o',Q):=zca<|hok T2 o q;rw[u9]at Q;cases Q
  let I6:=I5.adopt (o:=tbO T2) HT2 (s0 T2 T2n) u6 u7 (pn T2 T2n)<|zyq ⟨jp,k6,u6,u7⟩;generalize eH:upd (upd (upd H2 a<|excO a (.ref C)) T<|tbO T) T2 (tbO T2)=H3 at I6;let g3:Same H2 H3:=by rw[←eH];show(za4 Y _).trans<|(za4 h2' _).trans (za4 HT2 _)
  let ea3:H3 a=G (excO a<|.ref C):=by rw[←eH,zak<|Ne.symm u5];show ea4
  let eT3:H3 T2=G (tbO T2):=by rw[←eH];show zar
  apply zry kS ms<|zeo (X:=X.held a) (I6.held (a:=a)) hgS hmS ⟨R,I6.kIn,⟨fk,u1,u2.trans t2⟩,?_⟩ hdc;apply zr2 I6 u1 u3 u4 u6 u7 (y2r.mp u8).1 eT3 λh7 I7=>?_;apply iy (hsu a pins _ _ H3 _ (I7.held (a:=a))<|ht H3 g3) (λfl s9 hp=>?_) λ_ _ z=>False.elim z;cases fl with
  |next =>
   let(ku,H9,I9,q9):=hp;show⟨_,H9,I9.unheld I.ok,q9⟩
  |brk=>let(_,_,_,z):=hp;show False.elim z
  |cont=>let(_,_,_,z):=hp;show False.elim z
  |ret u=>let(_,_,_,_,_,z):=hp;show False.elim z
 .exact zcw I1 hN hi hxl r1 (λs2 I2=>iR ⟨_,H1,I2,q1⟩) hf
end
theorem zjj{X:Cx}{k m:Nat}{x f c:Str}{i:Nat}{S:Ad}{ps:List Str}{sp:Sp}{e:Expr}{l:List Expr}{t:TA}{ts:TS}{J w r q cp s:Pos}{p:Stmt}{o:List Stmt}(C:CalE X.prog X.w X.K X.mg X.base m f ps sp)(L:Room k X.A)(v:m<=k)(y:Gl X f)
  (d:PA X.nox (e::l) t) (z:Gl X c) (H:X.mg c=G (.ref S)) (Q:KSup X.K S) (O:X.ex=[]) (E:X.stack=X.env::X.outer) (g:X.env.frame=G X.env.locals) (hN:X.Nq.Nodup) (hi:X.Nq[i]?=G x) (I:Loc X.env.scope x) (A:∀a,PSs (X.held a) (p::o) ts)
  (hs:j9 (.Call (.Name f w) (e::l) [] r) (G<|.Name x J) q.line X.env=pure Fa:=by rfl) (T:X.fn x=N\/X.env.scope.names.lookup x=G .local:=by first|show .inl rfl|show .inr rfl|assumption) (j:(f==("__debug__":Str))=Fa:=by decide)
  (u:(c==("__debug__":Str))=Fa:=by decide) (Y:notStar e=N:=by rfl) (M:l.all notStar=N:=by rfl) :
  PTB X [.ExceptHandler (G<|.Name c cp) B (p::o) s] [.Assign [.Name x J] (.Call (.Name f w) (e::l) [] r) q] (tTryX X.K S sp i t ts):=by
 let(U,fd,F,b,kp,D):=C.ex;show ptb_x F (L.mono v) y D kp b d z H Q O E g hN hi I A hs T j u (zat Y)<|zbe M
def isN:V->Bool
 |.non=>N
 |_=>Fa
def isNV:Va->Bool
 |.none=>N
 |_=>Fa
theorem rc_nn{X:Cx}{k:Nat}{H:Hp}:RcOk X k H .non .non N:=λ_ _ _ _ u v _ _ rx ry=>by
 cases rx;cases ry;show SeqAt.RcAt.none_none
theorem zs7{X:Cx}{pins:Y2}{σ:St}{H:Hp}{s:ik}{A:ir}(I:02 H s)(Y:A.units<cLine):∀{xs:List V} {us:List Va},Vals xs us->(∀z∈xs,z=.non\/∃t l,z=.ref t/\H t=G (.tup l))->us.any isNV=xs.any isN/\∀u∈us,SeqAt.EqAt A s u .none (isNV u)
 |_,_,.nil,_=>⟨R,λu Y=>by cases Y⟩
 |y::xs,u::us,.cons r t,f=>by
  let(J,g):=zs7 I Y t λz hz=>f z<|y0a _ hz;rcases f y y0c with rfl|⟨p,l,rfl,ep⟩
  .cases r;apply⟨by rw[y2h,y2h,J];rfl,λu Y=>?_⟩;rcases y06.mp Y with rfl|Y
   .exact SeqAt.EqAt.same _
   .exact g u Y
  .cases(show u=Va.ref p from r);apply⟨by rw[y2h,y2h,J];rfl,λu c=>?_⟩;rcases y06.mp c with rfl|c
   .let(its,_,pl,_):=I.tuple<|.of ep;show SeqAt.EqAt.tuple_none pl Y
   .exact g u c
def rNoN(K:Frag):R2:=λx y H Q=>x=.non/\∃p xs,y=.ref p/\SqL K H p xs/\(∀z∈xs,z=.non\/∃t l,z=.ref t/\H t=G (.tup l))/\Q (.bl<|!xs.any isN) H
theorem zzc{X:Cx}{k:Nat}(Y:X.A.units+k<cLine)(D:1<k:=by decide):OpR X (iw .NotIn) (rNoN X.K):=by
 infer_instance;let(rfl,p,xs,rfl,O,f,q):=h;cases rx;cases ry;let(its,r,pl,_):=I.list O;let(J,g):=zs7 (A:=X.A.in1) I (by change X.A.units+1<cLine;omega) r f;apply SeqAt.notIn_listAt isNV pl.isList (λw j=>g w<|by simpa using j) ⟨.bl _,H,I,R,?_⟩;rw[show its.toArray.any isNV=its.any isNV by simp,J];show q
def SameB(D:Ad)(H H':Hp):Prop:=∀b o,b≠D->H b=G o->H' b=G o
theorem Same.b(g:Same H H')(D:Ad):SameB D H H':=λb o _ e=>g b o e
theorem SameB.trans(a:SameB D H H1)(b:SameB D H1 H2):SameB D H H2:=λc o n e=>b c o n<|a c o n e
end L2
namespace SM
open PySem PySem.Spec PyProof.Rows L2 SS
def zhx:Sp:=λvs H Q _=>∃(b:Ad) (tl:List Str) (n:Int) (y:Bool),vs=[.ref b,.int n,.bl y]/\0<=n/\H b=G (.lst<|tl.map V.str)/\T11 tl/\tl.length<=3/\∀z H',Same H H'->z∈(if y=N then sts11 else pls11)->z∉tl->Q (.str z) H'
def zfu:Sp:=λvs H Q _=>∃(b:Ad) (tl:List Str) (n:Int),vs=[.int n,.ref b]/\0<=n/\H b=G (.lst<|tl.map V.str)/\T11 tl/\tl≠[]/\∀v w x y H',Same H H'->Rep H' v (.bare w x y)->w∈rowWords->x∈tl->y∈tl->wfB (.bare w x y)=N->Q v H'
def zg2(f:Nat):Sp:=λvs H Q _=>∃(st cl b:Ad) (U:List Int) (tl:List Str) (d r g:Nat),vs=[.ref st,.ref b,nV d,nV r,nV g]/\H st=G (.lst [.ref cl])/\H cl=G (.lst<|U.map V.int)/\U.length<=100/\H b=G (.lst<|tl.map V.str)/\b≠cl/\st≠cl/\T11 tl/\d<f/\d<=3/\g<=2/\tl.length+r<=4/\(tl=[]->1<=d/\1<=r)/\
 ∀(v:V) (s:Sy) (a:List Int) (H':Hp),SameB cl H H'->H' cl=G (.lst<|a.map V.int)->a.length<=100->Rep H' v s->Drw d g tl s->Q v H'
def zg1:Sp:=λvs H Q _=>∃n:Int,vs=[.int n]/\∀p tl H',H p=B->Same H H'->H' p=G (.lst<|tl.map V.str)->T11 tl->tl.length<=2->Q (.ref p) H'
theorem ltr11{z:Str}(h:z∈pls11):atI z.cps.toList 0=G (z.cps.toList.headD 0)/\decide ([z.cps.toList.headD 0]<(Str.ofString "a").cps.toList)=Fa/\decide ((Str.ofString "z").cps.toList<[z.cps.toList.headD 0])=Fa/\z.length<=3:=by
 let all:∀z∈pls11,atI z.cps.toList 0=G (z.cps.toList.headD 0)/\decide ([z.cps.toList.headD 0]<(Str.ofString "a").cps.toList)=Fa/\decide ((Str.ofString "z").cps.toList<[z.cps.toList.headD 0])=Fa/\z.length<=3:=by decide+kernel
 show all z h
theorem ltrS11{z:Str}(h:z∈sts11):atI z.cps.toList 0=G (z.cps.toList.headD 0)/\decide ([z.cps.toList.headD 0]<(Str.ofString "a").cps.toList)=N/\z.length<=3:=by
 let all:∀z∈sts11,atI z.cps.toList 0=G (z.cps.toList.headD 0)/\decide ([z.cps.toList.headD 0]<(Str.ofString "a").cps.toList)=N/\z.length<=3:=by decide+kernel
 show all z h
theorem free11{L tl:List Str}(I:L.Nodup)(h4:L.length=4)(C:tl.length<=3)(j:Nat):∃z zs,(L.drop j++L.take j).filter (λz=>decide (z∉tl))=z::zs:=by
 let J:∃z∈L,z∉tl:=Classical.byContradiction λh=>by
  let:=zdy I (ys:=tl) λz hz=>Classical.byContradiction λp=>h ⟨z,hz,p⟩;omega
 let(z,hz,a):=J;let f:z∈(L.drop j++L.take j).filter (λz=>decide (z∉tl)):=by
  apply y1i.mpr ⟨?_,Xg a⟩;rw[←y14 j L]at hz;show y0v.mpr<|(y0v.mp hz).symm
 match(L.drop j++L.take j).filter (λz=>decide (z∉tl)),f with
 |z::zs,_=>show⟨z,zs,R⟩
theorem zrw{z:Str}{tl:List Str}:inV (V.str z) (tl.map V.str)=decide (z∈tl):=by
 induction tl with
 |nil=>rfl
 |cons y tl E =>
  rw[y0r];change((y==z)||inV _ (tl.map V.str))=_;rw[E,y23];simp only[y35,beq_iff_eq,decide_eq_true_eq,y06];show or_congr eq_comm Iff.rfl
theorem zj8{tl:List Str}:(tl.map V.str).all flatV=N:=by
 rw[y11];intro v hv;let(_,_,rfl):=y0j.mp hv;rfl
def words11(a SL:List Str):List Str:=(if a=[]then[]else(["same","ahead","next"]:List Str))++(if SL=[]then[]else("within":Str)::(if a=[]then[]else(["in","in","in"]:List Str)))
theorem znv{a SL:List Str}{w:Str}(h:w∈words11 a SL):w∈rowWords/\(¬w="within"->a≠[])/\(w="within"\/w="in"->SL≠[]):=by
 unfold words11 at h;by_cases Y:a=[]<;>by_cases M:SL=[]
 .rw[Xq Y,Xq M]at h;cases h
 .rw[Xq Y,Xp M,Xq Y]at h;obtain rfl:w="within":=by simpa using h
  show⟨by decide+kernel,λz=>Xa R z,λ_=>M⟩
 .rw[Xp Y,Xq M,y1k]at h;let all:∀w∈(["same","ahead","next"]:List Str),w∈rowWords/\¬(w="within"\/w="in"):=by decide+kernel
  show⟨(all w h).1,λ_=>Y,λz=>Xa z (all w h).2⟩
 .rw[Xp Y,Xp M,Xp Y]at h;let all:∀w∈((["same","ahead","next"]:List Str)++("within":Str)::(["in","in","in"]:List Str)),w∈rowWords:=by decide+kernel
  show⟨all w h,λ_=>Y,λ_=>M⟩
theorem zkw(a SL:List Str):(words11 a SL).length<=7:=by
 unfold words11;rw[y0d];split<;>split<;>simp
theorem zkv{tl:List Str}(h:tl≠[]):0<(words11 (tl.filter λz=>isPl z)<|tl.filter λz=>!isPl z).length:=by
 match tl,h with
 |z::tl,_ =>
  unfold words11;cases hz:isPl z with
  |true =>
   rw[Xp<|show¬(z::tl).filter (λz=>isPl z)=[] by rw[List.filter_cons,hz];simp];rw[y0d];simp;try omega
  |false =>
   rw[Xp<|show¬(z::tl).filter (λz=>!isPl z)=[] by rw[List.filter_cons,hz];simp];rw[y0d];simp;try omega
theorem wf11{w x y:Str}{tl:List Str}(T:T11 tl)(O:x∈(if w="within" then tl.filter (λz=>!isPl z)else tl.filter λz=>isPl z))(C:y∈(if w="within"\/w="in" then tl.filter (λz=>!isPl z)else tl.filter λz=>isPl z)):x∈tl/\y∈tl/\wfB (.bare w x y)=N:=by
 let st:∀z∈tl,isPl z=Fa->isSt z=N:=λz hz h=>(T.sub z hz).elim (λk=>by rw[(pl11 k).1]at h;cases h) λk=>(st11 k).2.1;unfold wfB;by_cases Y:w="within"
 .rw[Xq Y]at O;rw[Xq<|.inl Y]at C;let(g,v):=y1i.mp O;let(u,A):=y1i.mp C;rw[Xp (by rw[Y];decide+kernel),Xq Y,st x g (by simpa using v),st y u<|by simpa using A];show⟨g,u,R⟩
 .rw[Xp Y]at O;let(g,v):=y1i.mp O;by_cases M:w="in"
  .rw[Xq<|.inr M]at C;let(u,A):=y1i.mp C;rw[Xq M,v,st y u<|by simpa using A];show⟨g,u,R⟩
  .rw[Xp λz=>z.elim Y M]at C;let(u,A):=y1i.mp C;rw[Xp M,Xp Y,v,A];show⟨g,u,R⟩
theorem pick11{L:List Str}(A:L≠[]){m:Int}:0<((L.map V.str).length:Int)/\∃z∈L,atI (L.map V.str) (m%((L.map V.str).length:Int))=G (.str z):=by
 let y:0<L.length:=List.length_pos_iff.mpr A;rw[y01];let Y:=Int.emod_nonneg m (show(L.length:Int)≠0 by omega);let M:=Int.emod_lt_of_pos m (show(0:Int)<L.length by omega);obtain⟨i,hi⟩:∃i:Nat,m%(L.length:Int)=i:=⟨(m%(L.length:Int)).toNat,by omega⟩;let d:i<L.length:=by omega
 apply⟨by omega,L[i],y0n d,?_⟩;rw[hi];show zai (by rw[y05,y00 d];rfl)
theorem lt11{z:Str}:(z∈pls11->decide (z.cps.toList<(Str.ofString "a").cps.toList)=Fa)/\(z∈sts11->decide (z.cps.toList<(Str.ofString "a").cps.toList)=N):=by
 let g:∀z∈pls11,decide (z.cps.toList<(Str.ofString "a").cps.toList)=Fa:=by decide+kernel
 let v:∀z∈sts11,decide (z.cps.toList<(Str.ofString "a").cps.toList)=N:=by decide+kernel
 show⟨g z,v z⟩
theorem SameB.tups{l:Ad}{H H':Hp}{xs:List V}(g:SameB l H H')(e:H l=G (.lst xs)):TupS H H':=λb o h=>g b _ (λz=>by rw[z,e]at h;cases h) h
theorem zxl{a b c d:Bool}{X Y:Prop}(O:(a=N\/(b=N/\c=N/\d=N))->X)(C:¬(a=N\/(b=N/\c=N/\d=N))->Y):if a=N then X else if b=N then if c=N then if d=N then X else Y else Y else Y:=by
 cases a
 .cases b
  .exact C (by simp)
  .cases c
   .exact C (by simp)
   .cases d
    .exact C 04
    .exact O<|.inr ⟨R,R,R⟩
 .exact O<|.inl R
theorem zt7{P:Bool->Prop}{c e:Bool}{A Bq:Prop}(d:A)(U:Bq)(h:∀y,(y=N->c=N)->P y):if c=N then A/\Bq/\P e else P Fa:=by
 cases c
 .exact h Fa λz=>z
 .exact⟨d,U,h e λ_=>rfl⟩
theorem Same.sb{p H H':Hp}{l:Ad}(g:Same p H)(s:SameB l H H')(h:p l=B):Same p H':=λb o e=>s b o (λz=>by rw[z,h]at e;cases e)<|g b o e
def dq:Sy->Nat
 |.bare _ _ _=>1
 |.neg s=>dq s+1
 |.two _ s t=>max (dq s) (dq t)+1
 |.qu w _ s=>if w="all" then dq s+3 else dq s+1
def pq:Sy->Nat
 |.bare _ _ _=>1
 |.neg s=>pq s+1
 |.two _ s t=>pq s+pq t+1
 |.qu w _ s=>if w="all" then pq s+3 else pq s+1
theorem zsf:∀s:Sy,s.depth<=dq s
 |.bare _ _ _=>y04 _
 |.neg s=>by have:=zsf s;change s.depth+1<=dq s+1;omega
 |.two _ s t=>by have:=zsf s;have:=zsf t;change max s.depth t.depth+1<=max (dq s) (dq t)+1;omega
 |.qu w _ s=>by have:=zsf s;change s.depth+1<=if w="all" then dq s+3 else dq s+1;split<;>omega
theorem zoa:∀s:Sy,s.parts<=pq s
 |.bare _ _ _=>y04 _
 |.neg s=>by have:=zoa s;change s.parts+1<=pq s+1;omega
 |.two _ s t=>by have:=zoa s;have:=zoa t;change s.parts+t.parts+1<=pq s+pq t+1;omega
 |.qu w _ s=>by have:=zoa s;change s.parts+1<=if w="all" then pq s+3 else pq s+1;split<;>omega
theorem zv0:∀s:Sy,1<=pq s:=λs=>y19 s.parts_pos<|zoa s
structure P33(tl:List Str)(s:Sy):Prop where
 fr:frameB (tl.map V.str)=N
 l:Lr tl s
 wf:wfB s=N
 lt:letB treeWords 4 tl s=N
 d:dq s<=12
 p:pq s<=60
 m:mcost s<=16
theorem P33.letF{tl:List Str}{s:Sy}(h:P33 tl s):LetF tl s:=⟨h.l.frm.ok.1,h.l.frm.four,h.fr,h.wf,y19 (zsf s) h.d,y19 (zoa s) h.p,h.lt⟩
theorem zoz{tl:List Str}{n:Str}(h:frameB (tl.map V.str)=N)(I:isName (.str n)=N)(Y:n∉tl)(h4:(tl++[n]).length<=4):frameB ((tl++[n]).map V.str)=N:=by
 unfold frameB at h;simp only[y07,decide_eq_true_eq]at h;let((_,M),C):=h;rw[y13];apply zhj (by rw[←y13,y01];show h4) (by rw[List.all_append,M];simp[I]) ?_;rw[y37];apply⟨C,by simp,λa d b U e=>?_⟩;let(z,hz,rfl):=y0j.mp d;simp only[y0r,y3c,y0b]at U;rw[U]at e;cases e;show Y hz
def prts:Sy->List Str->List (Sy×List Str)
 |.bare _ _ _,_=>[]
 |.neg s,tl=>[(s,tl)]
 |.two _ s t,tl=>[(s,tl),(t,tl)]
 |.qu w n s,tl=>if w="all" then[(.qu "some" n<|.neg s,tl)]else[(s,tl++[n])]
theorem P33.neg{tl:List Str}{s:Sy}(h:P33 tl<|.neg s):P33 tl s:=by
 let(f,l,wf,lt,d,p,m):=h;simp only[letB,y07]at lt;let d:dq s+1<=12:=d;let p:pq s+1<=60:=p;let m:mcost s+1<=16:=m;cases l with
 |neg l=>show⟨f,l,wf,lt.2,by omega,by omega,by omega⟩
theorem P33.two{tl:List Str}{w:Str}{s t:Sy}(h:P33 tl<|.two w s t):P33 tl s/\P33 tl t:=by
 let(f,l,wf,lt,d,p,m):=h;simp only[letB,wfB,y07]at lt wf;let d:max (dq s) (dq t)+1<=12:=d;let p:pq s+pq t+1<=60:=p;let m:max (mcost s) (mcost t)+1<=16:=m;cases l with
 |two l1 l2=>show⟨⟨f,l1,wf.1,lt.2.1,by omega,by omega,by omega⟩,⟨f,l2,wf.2,lt.2.2,by omega,by omega,by omega⟩⟩
theorem P33.some{tl:List Str}{n:Str}{s:Sy}(h:P33 tl<|.qu "some" n s):P33 (tl++[n]) s:=by
 let(f,l,wf,lt,d,p,m):=h;simp only[letB,wfB,y07,decide_eq_true_eq]at lt wf;let d:dq s+1<=12:=d;let p:pq s+1<=60:=p;let m:mcost s+1<=16:=m;cases l with
 |qu f1 l=>show⟨zoz f wf.1 lt.2.1 l.frm.ok.1,l,wf.2,lt.2.2,by omega,by omega,by omega⟩
theorem P33.all{tl:List Str}{n:Str}{s:Sy}(h:P33 tl<|.qu "all" n s):P33 tl (.qu "some" n<|.neg s):=by
 let(f,l,wf,lt,d,p,m):=h;simp only[letB,wfB,y07,decide_eq_true_eq]at lt wf;let d:dq s+3<=12:=d;let p:pq s+3<=60:=p;let m:mcost s+4<=16:=m;cases l with
 |qu f1 l =>
  let h4:=l.frm.ok.1;apply⟨f,.qu f1<|.neg l,by simp only[wfB,y07];show wf,?_,by change dq s+1+1<=12;omega,by change pq s+1+1<=60;omega,by change mcost s+1+1<=16;omega⟩;simp only[letB,y07,decide_eq_true_eq];show⟨⟨lt.1.1,by decide+kernel⟩,lt.2.1,⟨h4,by decide+kernel⟩,lt.2.2⟩
theorem Drw.p33{d g:Nat}{tl:List Str}{s:Sy}(D:Drw d g tl s)(T:T11 tl):Lr tl s/\dq s<=3*d+1/\pq s+3<=4*2^d/\mcost s<=4*d+1:=by
 let L:∀d:Nat,1<=2^d:=λd=>Nat.pow_pos 04;let frm:∀{tl:List Str},T11 tl->Frm tl:=λT=>⟨⟨T.h4,λz hz=>nmok11<|T.sub z hz⟩,λz hz=>zjy<|T.nm z hz⟩;let qu:∀{d:Nat} {w n:Str} {s:Sy},dq s<=3*d+1->pq s+3<=4*2^d->mcost s<=4*d+1->dq (.qu w n s)<=3*(d+1)+1/\pq (.qu w n s)+3<=4*2^(d+1)/\mcost (.qu w n s)<=4*(d+1)+1:=λ{d w n s} a b c=>by
  let:=L d;rw[y4e];unfold dq pq mcost;apply⟨?_,?_,?_⟩<;>split<;>omega
 induction D with
 |@bare d g tl w n m j I J wf=>have:=L d;show⟨.bare (frm T) I J j,by change 1<=_;omega,by change 1+3<=_;omega,by change 1<=_;omega⟩
 |@neg d g tl s _ E =>
  let(a,b,c,e):=E T;rw[y4e];let:=L d;show⟨.neg a,by change dq s+1<=_;omega,by change pq s+1+3<=_;omega,by change mcost s+1<=_;omega⟩
 |@two d g tl w s t j _ _ f l =>
  let(a,b,c,e):=f T;let(A,i,c',Q):=l T;rw[y4e];let:=L d;show⟨.two a A,by change max (dq s) (dq t)+1<=_;omega,by change pq s+pq t+1+3<=_;omega,by change max (mcost s) (mcost t)+1<=_;omega⟩
 |pl j I h C _ E =>
  let(a,b,c,e):=E<|T.snoc (.inl I) h C;show⟨.qu (frm T) a,qu b c e⟩
 |st j I h C _ E =>
  let(a,b,c,e):=E<|T.snoc (.inr I) h C;show⟨.qu (frm T) a,qu b c e⟩
theorem Drw.ok33{g:Nat}{tl:List Str}{s:Sy}(D:Drw 3 g tl s)(T:T11 tl):P33 tl s:=by
 let(a,b,c,e):=D.p33 T;let z:(4:Nat)*2^3=32:=by decide
 show⟨T.fr.fr,a,D.wf,D.let_ T.h4,by omega,by omega,by omega⟩
structure TbK(H:Hp)(Pr:Ad)(qr:Y3)(Pp:Ad)(qp:Y3)(Pm:Ad)(qm:Y3)(Pj:Ad)(qj:Y3)(Pd:Ad)(qd:Y3)(Pk:Ad)(qk:Y3):Prop where
 j:TabJ H Pr qr Pp qp Pm qm Pj qj Pd qd
 k:TabOk H Pk qk
theorem TbK.same{H H':Hp}{u:Ad}{d:Y3}{o:Ad}{e:Y3}{J:Ad}{f:Y3}{x:Ad}{a:Y3}{O:Ad}{qd:Y3}{y:Ad}{qk:Y3}(t:TbK H u d o e J f x a O qd y qk)(g:Same H H'):TbK H' u d o e J f x a O qd y qk:=⟨t.j.same g,t.k.same g⟩
def MoN(H:Hp)(v:V):Option Mc->Prop
 |some M=>∃p,v=.ref p/\RepM H p M
 |none=>v=.non
theorem MoN.ts{H H':Hp}{v:V}(g:TupS H H'):∀{r:Option Mc},MoN H v r->MoN H' v r
 |some _,⟨p,e,r⟩=>⟨p,e,r.ts g⟩
 |none,h=>h
def ItM(ps:List<|Sy×List Str)(j:Nat)(y:V)(H:Hp):Prop:=∃pp r,ps[j]?=G pp/\Br pp.1 pp.2 r/\MoN H y r
theorem ItM.ts{ps:List (Sy×List Str)}{j:Nat}{y:V}{H H':Hp}(h:ItM ps j y H)(g:TupS H H'):ItM ps j y H':=let⟨pp,r,e,b,m⟩:=h;⟨pp,r,e,b,m.ts g⟩
def zms(K:Frag)(u:Ad)(d:Y3)(o:Ad)(e:Y3)(J:Ad)(f:Y3):Sp:=λvs H Q _=>∃(b:Ad) (tl:List Str),vs=[.ref b]/\TabOk H u d/\TabOk H o e/\TabOk H J f/\H b=G (.lst<|tl.map V.str)/\frameB (tl.map V.str)=N/\Frm tl/\∀p m H',Same H H'->RepMK K H' p m->FitR tl m->Q (.ref p) H'
def zpr(u:Ad)(d:Y3)(o:Ad)(e:Y3)(J:Ad)(f:Y3)(x:Ad)(a:Y3)(O:Ad)(qd:Y3)(c:Ad)(qk:Y3):Sp:=λvs H Q _=>∃(v:V) (b:Ad) (tl:List Str) (s:Sy),vs=[v,.ref b]/\TbK H u d o e J f x a O qd c qk/\Rep H v s/\H b=G (.lst<|tl.map V.str)/\P33 tl s/\
 ∀r y H',Same H H'->Br s tl r->MoN H' y r->Q y H'
inductive Pre(tl:List Str):Str->List Mc->Prop where
 |and {M1 M2:Mc} (o1:M1.Ok) (o2:M2.Ok) (hw:M1.w=M2.w):Pre tl "and" [M1,M2]
 |or {M1 M2:Mc} (o1:M1.Ok) (o2:M2.Ok) (hw:M1.w=M2.w):Pre tl "or" [M1,M2]
 |neg {M1:Mc} (o1:M1.Ok) (hw:M1.w=tl.length):Pre tl "not" [M1]
 |some {M1:Mc} (o1:M1.Ok) (hw:M1.w=tl.length+1):Pre tl "some" [M1]
def zmp(u:Ad)(d:Y3)(o:Ad)(e:Y3)(J:Ad)(f:Y3)(x:Ad)(a:Y3)(O:Ad)(qd:Y3):Sp:=λvs H Q _=>∃(wd:Str) (l b:Ad) (ys:List V) (i:List Mc) (tl:List Str),vs=[.str wd,.ref l,.ref b]/\TabJ H u d o e J f x a O qd/\H l=G (.lst ys)/\i4 (λy M=>MoN H y<|G M) ys i/\H b=G (.lst<|tl.map V.str)/\frameB (tl.map V.str)=N/\Frm tl/\Pre tl wd i/\
 ∀r y H',Same H H'->PutM tl wd i r->MoN H' y r->Q y H'
def PtV(H:Hp)(v:V)(p:Sy×List Str):Prop:=∃(t:Ad) (x:V) (b:Ad),v=.ref t/\H t=G (.tup [x,.ref b])/\Rep H x p.1/\H b=G (.lst<|p.2.map V.str)
def zg0:Sp:=λvs H Q _=>∃(v:V) (b:Ad) (tl:List Str) (s:Sy),vs=[v,.ref b]/\Rep H v s/\H b=G (.lst<|tl.map V.str)/\tl.length<=4/\∀D xs H',Same H H'->H' D=G (.lst xs)->i4 (PtV H') xs (prts s tl)->Q (.ref D) H'
def zgy(u:Ad)(d:Y3)(o:Ad)(e:Y3)(J:Ad)(f:Y3)(x:Ad)(a:Y3)(O:Ad)(qd:Y3)(y:Ad)(qk:Y3)(n:Nat):Sp:=λvs H Q _=>∃(v:V) (b:Ad) (tl:List Str) (s:Sy),vs=[v,.ref b]/\TbK H u d o e J f x a O qd y qk/\Rep H v s/\H b=G (.lst<|tl.map V.str)/\P33 tl s/\pq s<=n/\∀H',Same H H'->Q (.bl N) H'
end SM
set_option maxHeartbeats 4000000
namespace L2
open PySem
theorem fitS{n:Nat}{P:List Va->Prop}(h:∀a us,us.length=n->P (a::us)):∀us:List Va,us.length=n+1->P us
 |a::us,e=>h a us<|Nat.succ.inj e
theorem fit0{P:List Va->Prop}(h:P []):∀us:List Va,us.length=0->P us
 |[],_=>h
theorem fit1{P:List Va->Prop}(h:∀a,P [a]):∀us:List Va,us.length=1->P us:=fitS λa=>fit0<|h a
theorem fit2{P:List Va->Prop}(h:∀a b,P [a,b]):∀us:List Va,us.length=2->P us:=fitS λa=>fit1<|h a
theorem fit3{P:List Va->Prop}(h:∀a b c,P [a,b,c]):∀us:List Va,us.length=3->P us:=fitS λa=>fit2<|h a
theorem fit4{P:List Va->Prop}(h:∀a b c d,P [a,b,c,d]):∀us:List Va,us.length=4->P us:=fitS λa=>fit3<|h a
theorem fit5{P:List Va->Prop}(h:∀a b c d e,P [a,b,c,d,e]):∀us:List Va,us.length=5->P us:=fitS λa=>fit4<|h a
theorem fit6{P:List Va->Prop}(h:∀a b c d e f,P [a,b,c,d,e,f]):∀us:List Va,us.length=6->P us:=fitS λa=>fit5<|h a
end L2
namespace K33
open PySem PySem.Spec PyProof.Rows L2 SS SM
local macro_rules| `(tactic|trivial)=>`(tactic|((try dsimp only[tIfZ,tIfY,tIfX,tSeqZ,tCutZ,asI_l,asR_l,asS_l,asB_l,as1_l,zli,zlh,zlg,zlf,zp8,rLenZ,rListOfZ,rAllZ,rInZ,rSlLZ,rSlTZ,rAppZ,rCatZ,rLeSZ,rEqI,rNeI,rInDc,rLenD,rLenT,rDictOf,rMaxL,rIndex,rCatTN,rCatTE,tDNewN,tDNewTN,tDisp1T,rNeM,rRange2,rListRng,rRepN,rPopAt,rSetL,gSub,ipI,tDGet,tDGet2,sDPut,iEnum,iEZ,iZipL,tLam,tCallA,tCallV,tDef,tListZip,rIskT,rIndexT,tCallG,gLst,rSortS,rSortF,tCallVLE,tCallVE,iRev,tTry,tRaise,tTryA,rIsX,rIsXT,rRepT,iRng3,tTryN,tTryX,rLeL,rNotInD,tCallAE,tCallGE,rSortU,rNoN,iZip,rInD,rIxD,rLen,rAll,rAny,rSum,rListOf,rEqS,rNeS,rSlTN,rStrB,tTupN,tLstN,rSlLN,rCatN,cxK,cxP,cxW,tSeq,tIfS,tTest,tB,tOp,tUn,tC,tAnd,tOr,tNot,tAndV,tOrV,tNotV,tIf,tNext,tBreak,tCont,tDrop,tRet,tRetN,gName,gNil,gCons,gTup,tAsg,tPar,tAug,rI,rI0,rU,rEq,rNe,tChain,tNil,tCons,tTup,tLst,tCall,tCB,tNoPart,tPart,tSl,rSlT,rSlL,rSlS,rIxL,rIxT,rIxS,rIn,tBM0,tBM,tyV,rAppend,rExtend,rCat,rZfill,rEqD,iList,iTup,iStr,iRng1,iRng2,tYes,tDisp,tPairs,zyw,zyv,zp7,zvw,zmy,zmz,List.set_cons_zero,List.set_cons_succ,y3j,y3f,zyx,zyy,zy0,zy1,zy2]);(try simp only[tIfZ,tIfY,tIfX,tSeqZ,tCutZ,asI_l,asR_l,asS_l,asB_l,as1_l,zli,zlh,zlg,zlf,zp8,rLenZ,rListOfZ,rAllZ,rInZ,rSlLZ,rSlTZ,rAppZ,rCatZ,rLeSZ,exists_eq',rEqI,rNeI,rInDc,rLenD,rLenT,rDictOf,rMaxL,rIndex,rCatTN,rCatTE,tDNewN,tDNewTN,tDisp1T,rNeM,rRange2,rListRng,rRepN,rPopAt,rSetL,gSub,ipI,tDGet,tDGet2,sDPut,iEnum,iEZ,iZipL,tLam,tCallA,tCallV,tDef,tListZip,rIskT,rIndexT,tCallG,gLst,rSortS,rSortF,tCallVLE,tCallVE,iRev,tTry,tRaise,tTryA,rIsX,rIsXT,rRepT,iRng3,tTryN,tTryX,rLeL,rNotInD,tCallAE,tCallGE,rSortU,rNoN,iZip,rInD,rIxD,rLen,rAll,rAny,rSum,rListOf,rEqS,rNeS,rSlTN,rStrB,tTupN,tLstN,rSlLN,rCatN,cxK,cxP,cxW,tSeq,tIfS,tTest,tB,tOp,tUn,tC,tAnd,tOr,tNot,tAndV,tOrV,tNotV,tIf,tNext,tBreak,tCont,tDrop,tRet,tRetN,gName,gNil,gCons,gTup,tAsg,tPar,tAug,rI,rI0,rU,rEq,rNe,tChain,tNil,tCons,tTup,tLst,tCall,tCB,tNoPart,tPart,tSl,rSlT,rSlL,rSlS,rIxL,rIxT,rIxS,rIn,tBM0,tBM,tyV,rAppend,rExtend,rCat,rZfill,rEqD,iList,iTup,iStr,iRng1,iRng2,tYes,tDisp,tPairs,zyw,zyv,zp7,zvw,zmy,zmz,List.set_cons_zero,List.set_cons_succ,y3j,y3f,y1k,V.int.injEq,V.str.injEq,V.bl.injEq,V.ref.injEq,V.ty.injEq,List.cons.injEq,and_true,true_and,exists_eq_left,exists_eq_left',exists_and_left,exists_eq,exists_const,if_true,if_false,ite_true,ite_false,zyx,zyy,zy0,zy1,zy2,Option.some.injEq,exists_eq_right,exists_eq_right',and_assoc,reduceCtorEq,false_and,and_false,false_or,or_false,exists_false])))
noncomputable def top(i:Nat):Stmt:=PySem.Challenge.pw_setsays_k33_built_by_parts.main.body.getD i<|.Pass ⟨0,0,0,0⟩
structure Txt(K:Frag)(mg:Y1)(w:World)(tw rw fa cj ca ce co cn cTooGreat:Ad):Prop where
 b_isinstance:mg "isinstance"=B
 b_str:mg "str"=B
 b_tuple:mg "tuple"=B
 b_list:mg "list"=B
 b_int:mg "int"=B
 b_bool:mg "bool"=B
 b_dict:mg "dict"=B
 b_set:mg "set"=B
 b_len:mg "len"=B
 b_any:mg "any"=B
 b_sorted:mg "sorted"=B
 b_ValueError:mg "ValueError"=B
 b_min:mg "min"=B
 b_all:mg "all"=B
 b_sum:mg "sum"=B
 b_max:mg "max"=B
 b_range:mg "range"=B
 b_zip:mg "zip"=B
 b_enumerate:mg "enumerate"=B
 m_TooGreat:mg "TooGreat"=G (.ref cTooGreat)
 k_TooGreat:KSup K cTooGreat
 ms:PySem.W.mroIn K cTooGreat (.ref cTooGreat)=G N
 x_TooGreat:PySem.W.excIn K cTooGreat veM "ValueError.__new__"=N
 g_MOST_COME_TO:GlV mg "MOST_COME_TO"<|.int 100
 g_FIGURES:GlV mg "FIGURES"<|.str FIGS
 g_LONGEST_NAME:GlV mg "LONGEST_NAME"<|.int 4
 g_SMALL_LETTERS:GlV mg "SMALL_LETTERS"<|.str SMALL
 g_GREAT_LETTERS:GlV mg "GREAT_LETTERS"<|.str GREAT
 g_MOST_NAMES:GlV mg "MOST_NAMES"<|.int 4
 g_DEEPEST:GlV mg "DEEPEST"<|.int 12
 g_MOST_PARTS:GlV mg "MOST_PARTS"<|.int 60
 g_TELLING_WORDS:GlV mg "TELLING_WORDS"<|.ref tw
 t_TELLING_WORDS:∀H,SqT K H tw [.str "some",.str "all"]
 g_TREE_WORDS:GlV mg "TREE_WORDS"<|.ref rw
 t_TREE_WORDS:∀H,SqT K H rw [.str "left",.str "right",.str "above"]
 g_FORMS:GlV mg "FORMS"<|.ref fa
 f_FORMS:Forms K w fa
 g_JUST_ONCE:GlV mg "JUST_ONCE"<|.ref cj
 c_JUST_ONCE:CMach K cj justM
 g_ANY_ROW:GlV mg "ANY_ROW"<|.ref ca
 c_ANY_ROW:CMach K ca anyM
 g_EACH_IN:GlV mg "EACH_IN"<|.ref ce
 c_EACH_IN:CMach K ce eachM
 g_COMES_AHEAD:GlV mg "COMES_AHEAD"<|.ref co
 c_COMES_AHEAD:CMach K co aheadM
 g_COMES_NEXT:GlV mg "COMES_NEXT"<|.ref cn
 c_COMES_NEXT:CMach K cn nextM
seal PE PT PW PA PS PSs
section
variable {P:im}{w:World}{K:Frag}{mg:Y1}{base:Heap}{tw rw fa cj ca ce co cn cTooGreat:Ad}
abbrev Vh:Stmt:=top 7
theorem Qi:FnScope ["machine","rooms","known","at","here","room"] ["machine"] (defScope Vh):={}
variable (T:Txt K mg w tw rw fa cj ca ce co cn cTooGreat)
include T in
theorem zok(d:Dfn K mg "reached" Vh ["machine"]):03 1 "reached" ["machine"] zgz:=by
 apply d.cal Qi 07 08
 .nofun
 let(a,m,rfl,(b,c,rs,ea,M,pr,ec),ok,q):=h;let Y:=ze9 hr 8 04;let fu:=zbr ok.wid;let hf:m.n<=100:=ok.few;let at1:atI [nV m.w,V.ref b,V.ref c] 1=G (V.ref b):=zai (j:=1) rfl;apply⟨_,(zab (zao (i:=1) Qi.nd R (Or.inl R)<|zaq (pa_c zad zaa))<|zab (zao (i:=2) Qi.nd R (Or.inl R)<|zxg (zt6 zad zf2 zxb) R R (by simp) 04) (zab (zao (i:=3) Qi.nd R (Or.inl R) zad)<|zab (zh5 PassesOwn.never (zaj zqu (pv 3) (za3 (zau K) 01 T.b_len iA<|pa_c (pv 1) zaa)<|nomark _)<|zab (zao (i:=4) Qi.nd R (Or.inl R)<|zap (za1 K) (pv 1) (pv 3) (λ_ _=>rfl)) (zab (zey PassesOwn.never R (zbo K<|zap (zaf K) (zap (zaf K) (pv 0) zad λ_ _=>rfl) (pv 4) (λ_ _=>rfl)) (zam (i:=5) Qi.nd 01<|Or.inl 01)<|zac (za6 (zaj (zc0 Y) (pv 5) (pv 2)<|by with_unfolding_all rfl) (zab (zfj Y (pv 2) (pv 5) zf2 R)<|zac (zdl<|zg8 K PySem.F.plainAttrs_list PySem.F.slot_list_append PySem.F.type_list_append zen (pv 1) (pa_c (pv 5) zaa))) zan))<|zac (zy4 (i:=3) Qi.nd R (Or.inl R) zad ip_add))) (zac<|zag (pv 1)))),?_⟩;apply zax [G<|.ref a,B,B,B,B,B] R ?_;trivial;apply⟨by decide,λp H1 I kd nkd=>⟨zar,[((Sum.inl 0:Key),V.bl N)],R,by decide,?_⟩⟩;let npk:p≠kd:=zas I.at' nkd;apply⟨λmm σ H'=>∃(rooms:List Nat) (at':Nat) (v4 v5:Option V),mm=m.n-at'/\Same H H'/\σ=[G<|.ref a,G<|.ref p,G<|.ref kd,G<|nV at',v4,v5]/\H' p=G (.lst<|rooms.map nV)/\H' kd=G (.dK<|knT rooms)/\Come m rooms at' 0/\at'<=rooms.length,
  ⟨m.n,[0],0,B,B,R,?_,R,?_,?_,Come.start ok.pos,y18 _⟩,?_⟩
 .exact((I.g.trans<|za4 nkd _).wr (I.g.free nkd) _)
 .rw[zak npk,zak npk];show I.at'
 .rw[zar];rfl
 rintro mm σ H' ⟨rooms,at',v4,v5,rfl,g,rfl,ep,ek,cm,ha⟩;let hrl:rooms.length<=m.n:=zc1 cm.nd cm.lt;trivial;apply⟨_,.inl<|.of ep,?_⟩;rw[y01];by_cases ac:at'<rooms.length
 .refine itT (show(at':Int)<(rooms.length:Int) by omega) ⟨λa8 u=>∃O,O<m.n-at'/\_,λa8 u z=>z,?_⟩;apply atom λzG zk=>?_;let fw:=cm.lt _<|zd2 ac;let atr:(rooms.map nV)[at']?=G (nV<|ix rooms at'):=by rw[y05,zcc ac];rfl
  let x:ix rooms at'<m.ways.length:=by rw[ok.len];show fw
  let(v,D,a2,rfl,e4):=Paired.at2 pr<|y00 x;let cw:=ok.line _<|y0n x;apply zk ?_;apply⟨_,.of ep,_,zai atr,_,.of<|g _ _ ea,_,at1,_,.of<|g _ _ M,_,zai D,⟨_,.of<|g _ _ e4⟩,?_⟩;apply zr8 (K:=K) (a:=a2) (xs:=m.ways[ix rooms at'].map nV) (λl σ u=>Same H u/\∃(o:List Nat) (v5:Option V),σ=[G<|.ref a,G<|.ref p,G<|.ref kd,G<|nV at',G<|nV (ix rooms at'),v5]/\u p=G (.lst<|o.map nV)/\u kd=G (.dK<|knT o)/\Come m o at' l/\at'<o.length/\ix o at'=ix rooms at')
   ⟨g,rooms,_,R,ep,ek,cm,ac,R⟩ (λi σ u _ z=>.of<|z.1 _ _ e4) ?_ ?_
  .rintro l y σ u C ⟨U,o,v5',rfl,k8,c8,dw,mh,ei⟩;rw[y05]at C;apply atom λzG zk=>?_;let(r,er,rfl):=y1m.mp C;let hl:l<2^m.w:=by rw[←cw];show(y09.mp er).1
   let(line,f1,f2,L):=ok.at fw hl;let egl:r=m.go (ix o at') l:=by
    rw[y00 x]at f1;cases f1;rw[er]at f2;rw[ei];show Option.some.inj f2
   let hrl2:o.length<=m.n:=zc1 dw.nd dw.lt;let nn:p≠kd:=zrd k8 c8 (by intro z;cases z);apply zk ?_;trivial;apply⟨_,DGet.n c8,?_⟩;rw[zlz];by_cases J:r∈o
   .rw[Xq J];apply iteF ⟨U,o,k8,c8,?_,mh,ei⟩;show dw.old mh (by rw[←egl];show J)
   .rw[Xp J];let hnk:H kd=B:=I.g.free nkd;apply iteT ⟨_,DPut.n c8 (by rw[zx2];show small1000 00),.inl ⟨_,.of<|by rw[zak nn];show k8⟩,_,by rw[zak nn];show k8,by rw[y01];show small1000 00,?_⟩;apply⟨(U.wr hnk _).wr I.nil _,o++[r],?_,?_,?_,by rw[y0d,y0q];omega,by rw[zwf mh];show ei⟩
    .rw[zar,y13];rfl
    .rw[zak<|Ne.symm nn,zar,zx1 J]
    .let z:=dw.new mh hl (by rw[ei];show L) (by rw[←egl];show J);rw[←egl]at z;show z
  .rintro σ u ⟨U,o,v5',rfl,k8,c8,dw,mh,ei⟩;rw[y01,cw]at dw;let hrl2:o.length<=m.n:=zc1 dw.nd dw.lt;trivial;show⟨_,R,_,R,m.n-(at'+1),by omega,o,at'+1,R,U,R,k8,c8,dw.turn,by omega⟩
 .rw[Xf<|show¬(at':Int)<(rooms.length:Int) by omega];let e:at'=rooms.length:=by omega
  subst e;apply iteF ?_;show q p rooms H' I.nil g ep cm
abbrev Q1:Stmt:=top 8
theorem zeh:FnScope ["rooms","numbers"] ["rooms","numbers"] (defScope Q1):={}
include T in
theorem zoi(d:Dfn K mg "renamed" Q1 ["rooms","numbers"]):03 1 "renamed" ["rooms","numbers"] zee:=by
 apply d.cal zeh 07 08
 .nofun
 let(a,b,l,g,rfl,I,C,lk,q):=h;let Y:=ze9 hr 8 04;rcases lk with⟨kvs,M,hv⟩|⟨ns,M,hv⟩
 .refine⟨_,(zac<|zag (zbi zaw 01 T.b_tuple iO<|pa_c (zav ["room"] [(1,"numbers")] (CompOk.of R 01 01) 01 (zbo K<|pv 0) (λ_ _ _ _ _=>(zam (i:=0) (show List.Nodup (["room","numbers"]:List Str) by decide+kernel) 01<|Or.inl 01)) (λ_ _ _ _ _=>za9) λ_ _ _ _ _=>(zfk Y (pv 1) (pv 0) λ_ _=>rfl)) zaa)),?_⟩;apply zax [G<|.ref a,G<|.ref b] R ?_;trivial;apply⟨⟨_,.of I⟩,ze3 (K:=K) (a:=a) (xs:=l.map nV) (λσ=>∃v,σ=[v,G<|.ref b]) (λy=>match y with|.int z=>nV (g z.toNat)|v=>v) (by rw[y01];omega) (.of I) ⟨_,R⟩ ?_ ?_⟩
  .rintro D i σ H' x hi J O e u L ⟨v,rfl⟩;let(r,o,rfl):=y0j.mp J;let z:=DGet.n (n:=(r:Int))<|e _ _ M;rw[hv r o]at z;trivial;show⟨_,z,zb0 (by rw[y01];omega) O u L e ⟨_,R⟩ R⟩
  intro D H1 u g1 j;let p:H1 D=G (.lst<|(l.map g).map nV):=by rw[j,y0u,y0u];rfl
  show⟨_,R,_,.inl ⟨.of p,λt H2 c=>q t H2 (g1.trans c.g) c.at'⟩⟩
 .refine⟨_,(zac<|zag (zbi zaw 01 T.b_tuple iO<|pa_c (zav ["room"] [(1,"numbers")] (CompOk.of R 01 01) 01 (zbo K<|pv 0) (λ_ _ _ _ _=>(zam (i:=0) (show List.Nodup (["room","numbers"]:List Str) by decide+kernel) 01<|Or.inl 01)) (λ_ _ _ _ _=>za9) λ_ _ _ _ _=>(zap (za1 K) (pv 1) (pv 0) λ_ _=>rfl)) zaa)),?_⟩;apply zax [G<|.ref a,G<|.ref b] R ?_;trivial;apply⟨⟨_,.of I⟩,ze3 (K:=K) (a:=a) (xs:=l.map nV) (λσ=>∃v,σ=[v,G<|.ref b]) (λy=>match y with|.int z=>nV (g z.toNat)|v=>v) (by rw[y01];omega) (.of I) ⟨_,R⟩ ?_ ?_⟩
  .rintro D i σ H' x hi J O e u L ⟨v,rfl⟩;let(r,o,rfl):=y0j.mp J;let z:atI (ns.map nV) (r:Int)=G (nV<|g r):=zai (by rw[y05,hv r o];rfl);trivial;show⟨_,.of<|e _ _ M,_,z,zb0 (by rw[y01];omega) O u L e ⟨_,R⟩ R⟩
  intro D H1 u g1 j;let p:H1 D=G (.lst<|(l.map g).map nV):=by rw[j,y0u,y0u];rfl
  show⟨_,R,_,.inl ⟨.of p,λt H2 c=>q t H2 (g1.trans c.g) c.at'⟩⟩
abbrev Vt:Stmt:=top 9
theorem Vk:FnScope ["machine","rooms","numbers","ways","ends"] ["machine","rooms","numbers"] (defScope Vt):={}
include T in
theorem zq3(d:Dfn K mg "picked" Vt ["machine","rooms","numbers"])(Ql:03 1 "renamed" ["rooms","numbers"] zee):03 2 "picked" ["machine","rooms","numbers"] zi4:=by
 apply d.cal Vk 07 08
 .nofun
 let(a,b,c,m,rooms,g,rfl,(b1,Y,rs,I,b9,pr,ck),ok,M,oq,b8,lk,q):=h;let fu:=zbr ok.wid;apply⟨_,(zab (zek (i:=3) Vk.nd R (Or.inl R) ["room"] [(2,"numbers"),(0,"machine")] (CompOk.of R 01 01) 01 (za8 K<|pv 1) (λ_ _ _ _ _=>(zam (i:=0) (show List.Nodup (["room","numbers","machine"]:List Str) by decide+kernel) 01<|Or.inl 01)) (λ_ _ _ _ _=>za9) λ_ _ _ _ _=>(zae Ql hr 00 01<|pa_c (zap (zaf K) (zap (zaf K) (pv 2) zad λ_ _=>rfl) (pv 0) λ_ _=>rfl) (pa_c (pv 1) zaa)))<|zab (zek (i:=4) Vk.nd R (Or.inl R) ["room"] [(0,"machine")] (CompOk.of R 01 01) 01 (za8 K<|pv 1) (λ_ _ _ _ _=>(zam (i:=0) (show List.Nodup (["room","machine"]:List Str) by decide+kernel) 01<|Or.inl 01)) (λ_ _ _ _ _=>za9) λ_ _ _ _ _=>(zap (zaf K) (zap (zaf K) (pv 1) zad λ_ _=>rfl) (pv 0) λ_ _=>rfl)) (zac<|zag (za2<|pa_c (zap (zaf K) (pv 0) zad λ_ _=>rfl) (pa_c (zbi zaw 01 T.b_tuple iO<|pa_c (pv 3) zaa)<|pa_c (zbi zaw 01 T.b_tuple iO<|pa_c (pv 4) zaa) zaa)))),?_⟩;apply zax [G<|.ref a,G<|.ref b,G<|.ref c,B,B] R ?_;trivial;let wat:∀{i:Nat},i<rooms.length->∃a2,rs[ix rooms i]?=G (.ref a2)/\H a2=G (.tup<|(m.ways.getD (ix rooms i) []).map nV)/\(m.ways.getD (ix rooms i) []).length<=16:=λ{i} hi=>by
  apply atom λzG zk=>?_;let bd:ix rooms i<m.ways.length:=by rw[ok.len];show b8 _<|zd2 hi
  let(v2,ev,a2,rfl,e4):=Paired.at2 pr<|y00 bd;let eg:m.ways.getD (ix rooms i) []=m.ways[ix rooms i]:=by rw[y02,y00 bd];rfl
  apply zk ?_;rw[eg];apply⟨a2,ev,e4,?_⟩;rw[ok.line _<|y0n bd];omega
 apply⟨⟨_,.of M⟩,zgr (n:=rooms.length) (λσ=>∃v,σ=[v,G<|.ref c,G<|.ref a]) (λj y H=>Line H y<|(m.ways.getD (ix rooms j) []).map g) 00 ⟨_,R⟩ (λi H' hi e=>⟨_,nV<|ix rooms i,.of<|e _ _ M,by rw[y05,zcc hi];rfl⟩) (λH' e=>⟨_,.of<|e _ _ M,by rw[y01];show y04 _⟩) ?_ ?_⟩
 .rintro D i ys σ H1 x H1' hi e u L hl C ⟨v,rfl⟩ ⟨rfl,yx⟩;let ex:=yx _<|.of (e _ _ M);rw[y05,zcc hi]at ex;cases ex;apply atom λzG zk=>?_;let(a2,ev,e4,h16):=wat hi;apply zk ?_;trivial;show⟨_,.of<|e _ _ I,_,zai (j:=1) R,ixm (.of<|e _ _ b9) (zai ev) ⟨a2,c,_,g,R,e _ _ e4,h16,(lk _ (zd2 hi)).same e,λp H2 U e2=>zb1 (λj y H H' ts z=>z.ts ts) 00 hi u (U _ _ L) hl C U.tups (e.trans U) ⟨_,R⟩ ⟨p,R,e2⟩⟩⟩
 intro D1 ys H1 dy g1 mi d4 hy1;trivial;apply⟨⟨_,.of<|g1 _ _ M⟩,zss (K:=K) (a:=b) (xs:=rooms.map nV) (λσ=>∃v,σ=[v,G<|.ref a]) (λy=>match y with|.int z=>.bl (m.fin z.toNat)|v=>v) (by rw[y01];omega) (.of<|g1 _ _ M) ⟨_,R⟩ ?_ ?_⟩
 .rintro D i σ H' x hi hm O e u L ⟨v,rfl⟩;let(r,mr,rfl):=y0j.mp hm;let at3:(m.ends.map V.bl)[r]?=G (.bl<|m.fin r):=by rw[y05,Mc.fin_at<|b8 r mr];rfl
  trivial;show⟨_,.of<|(g1.trans e) _ _ I,_,zai (j:=2) R,ixm (.of<|(g1.trans e) _ _ ck) (zai at3)<|zb0 (by rw[y01];omega) O u L e ⟨_,R⟩ R⟩
 intro D2 H2 cg U bi;let eD2':H2 D2=G (.lst<|(rooms.map m.fin).map V.bl):=by rw[bi,y0u,y0u];rfl
 let ai:=g1.trans U;trivial;apply⟨_,.of<|ai _ _ I,_,za7,_,.inl ⟨.of<|U _ _ mi,λt1 H3 n3=>⟨_,.inl ⟨.of<|n3.g _ _ eD2',λt2 H4 n4=>mkT λt3 H5 n5=>?_⟩⟩⟩⟩;let df:Same H2 H5:=n3.g.trans<|n4.g.trans n5.g;apply q t3 H5 (ai.trans df) ⟨t1,t2,ys,n5.at',(n4.g.trans n5.g) _ _ n3.at',zbs (by rw[d4];show(y01 _).symm) λj y l J e2=>?_,n5.g _ _ n4.at'⟩;let o:j<rooms.length:=by rw[←d4];show(y09.mp J).1
 let am:G ((m.ways.getD (ix rooms j) []).map g)=G l:=by rw[←e2];change _=(rooms.map λr=>(m.ways.getD r []).map g)[j]?;rw[y05,zcc o];rfl
 cases am;show(hy1 j y J).ts (U.trans df).tups
abbrev K0:Stmt:=top 10
theorem Qn:FnScope ["marks","numbers","mark"] ["marks"] (defScope K0):={}
include T in
theorem zlm(d:Dfn K mg "numbered" K0 ["marks"]):03 1 "numbered" ["marks"] zdg:=by
 apply d.cal Qn 07 08
 .rcases h with⟨a,bs,rfl,_⟩|⟨a,U,ms,rfl,_⟩<;>rfl
 let hu:=ze9 hr 8 04;rcases h with⟨a,bs,rfl,ea,oq,q⟩|⟨a,U,ms,rfl,ea,pr,oq,q⟩
 .refine⟨_,(zab (zao (i:=1) Qn.nd R (Or.inr R) zub)<|zab (zey PassesOwn.never R (zbo K<|pv 0) (zam (i:=2) Qn.nd 01<|Or.inl 01)<|zac (za6 (zaj (zc0 hu) (pv 2) (pv 1)<|by with_unfolding_all rfl) (zac<|zfj hu (pv 1) (pv 2) (za3 zo9 01 T.b_len iA<|pa_c (pv 1) zaa) R) zan)) (zac<|zag (zav ["mark"] [(1,"numbers")] (CompOk.of R 01 01) 01 (zbo K<|pv 0) (λ_ _ _ _ _=>(zam (i:=0) (show List.Nodup (["mark","numbers"]:List Str) by decide+kernel) 01<|Or.inl 01)) (λ_ _ _ _ _=>za9) λ_ _ _ _ _=>(zfk hu (pv 1) (pv 0) λ_ _=>rfl)))),?_⟩;apply zax [G<|.ref a,B,B] R ?_;trivial
  applyλp H1 I=>⟨⟨_,.of<|I.g _ _ ea⟩,zr8 (K:=K) (a:=a) (xs:=bs.map V.bl) (λi σ H'=>Same H H'/\(∃v2,σ=[G<|.ref a,G<|.ref p,v2])/\H' p=G (.dK<|tabF keyB 0 (news []<|bs.take i))) ⟨I.g,⟨B,R⟩,I.at'⟩ (λi σ H' _ z=>.of<|z.1 _ _ ea) ?_ ?_⟩
  .rintro i y σ H' C ⟨g,⟨v2,rfl⟩,ep⟩;rw[y05]at C;let(x,ex,rfl):=y1m.mp C;let en:=zjx ex;let gb:=zdz (bs.take i) [];rw[y0t,y1o]at gb;trivial;apply⟨_,DGet.b ep,?_⟩;by_cases O:x∈news [] (bs.take i)
   .rw[show valV (tabF keyB 0<|news [] (bs.take i)) (.inl<|blI x)=_ from zec zfl O];show iteF ⟨g,by rw[en,zrc O];show ep⟩
   .rw[show valV (tabF keyB 0<|news [] (bs.take i)) (.inl<|blI x)=_ from zfc zfl O];apply iteT ⟨_,ep,_,DPut.b ep (by rw[zcv];show small1000 00),g.wr I.nil _,?_⟩;rw[zar,en,zlp O];show congrArg (λz=>G<|HO.dK z)<|zhu zfl O
  .rintro σ H' ⟨g,⟨v2,rfl⟩,ep⟩;rw[y01,y0i<|y04 _]at ep;trivial;apply⟨⟨_,.of<|g _ _ ea⟩,ze3 (K:=K) (a:=a) (xs:=bs.map V.bl) (λσ=>∃v,σ=[v,G<|.ref p]) (λy=>match y with|.bl x=>nV (nOf (news [] bs) x)|v=>v) (by rw[y01];omega) (.of<|g _ _ ea) ⟨_,R⟩ ?_ ?_⟩
   .rintro D i σ H2 x hi J O e u L ⟨v,rfl⟩;let(r,mr,rfl):=y0j.mp J;let tv:valV (tabF keyB 0<|news [] bs) (.inl<|blI r)=_:=zec zfl<|(zbu bs [] r).mpr (.inr mr);let z:=DGet.b (b:=r)<|e _ _ ep;rw[tv]at z;trivial;show⟨_,z,zb0 (by rw[y01];omega) O u L e ⟨_,R⟩ R⟩
   intro D H3 u c j;show q D (bs.map<|nOf (news [] bs)) H3 (g.free u) (g.trans c) (by rw[j,y0u,y0u];rfl)<|zv5 bs
 .let hlr:=SS.Paired.len pr;apply⟨_,(zab (zao (i:=1) Qn.nd R (Or.inr R) zqk)<|zab (zey PassesOwn.never R (za8 K<|pv 0) (zam (i:=2) Qn.nd 01<|Or.inl 01)<|zac (za6 (zaj (zc0 hu) (pv 2) (pv 1)<|by with_unfolding_all rfl) (zac<|zfj hu (pv 1) (pv 2) (za3 zsx 01 T.b_len iA<|pa_c (pv 1) zaa) R) zan)) (zac<|zag (zav ["mark"] [(1,"numbers")] (CompOk.of R 01 01) 01 (za8 K<|pv 0) (λ_ _ _ _ _=>(zam (i:=0) (show List.Nodup (["mark","numbers"]:List Str) by decide+kernel) 01<|Or.inl 01)) (λ_ _ _ _ _=>za9) λ_ _ _ _ _=>(zfk hu (pv 1) (pv 0) λ_ _=>rfl)))),?_⟩;apply zax [G<|.ref a,B,B] R ?_;trivial
  applyλp H1 I=>⟨⟨_,.of<|I.g _ _ ea⟩,zl1 (K:=K) (a:=a) (xs:=U) (λi σ H'=>Same H H'/\(∃v2,σ=[G<|.ref a,G<|.ref p,v2])/\H' p=G (.dT<|tabF keyL 0 (news []<|ms.take i))) ⟨I.g,⟨B,R⟩,I.at'⟩ (λi σ H' _ z=>.of<|z.1 _ _ ea) ?_ ?_⟩
  .rintro i y σ H' C ⟨g,⟨v2,rfl⟩,ep⟩;apply atom λzG o=>?_;let(x,ex,t,rfl,et):=SS.Paired.at pr C;let en:=zjx ex;let gb:=zdz (ms.take i) [];apply o ?_;rw[y0t,y1o]at gb;let l:H' t=G (.tup<|(keyL x).map kV):=by rw[zj3];show g _ _ et
   trivial;apply⟨_,DGet.t ep l,?_⟩;by_cases O:x∈news [] (ms.take i)
   .rw[show valV (tabF keyL 0<|news [] (ms.take i)) (keyL x)=_ from zec zbv O];show iteF ⟨g,by rw[en,zrc O];show ep⟩
   .rw[show valV (tabF keyL 0<|news [] (ms.take i)) (keyL x)=_ from zfc zbv O];apply iteT ⟨_,ep,_,DPut.t ep l (by rw[zcv];show small1000 00),g.wr I.nil _,?_⟩;rw[zar,en,zlp O];show congrArg (λz=>G<|HO.dT z)<|zhu zbv O
  .rintro σ H' ⟨g,⟨v2,rfl⟩,ep⟩;rw[y0i 00]at ep;trivial;apply⟨⟨_,.of<|g _ _ ea⟩,zl7 (K:=K) (a:=a) (xs:=U) (λσ=>∃v,σ=[v,G<|.ref p]) (λi=>nV<|nOf (news [] ms) (ms.getD i [])) 00 (.of<|g _ _ ea) ⟨_,R⟩ ?_ ?_⟩
   .rintro D i σ H2 x hi O e u L ⟨v,rfl⟩;apply atom λzG o=>?_;let(r,er,t,rfl,et):=SS.Paired.at pr O;let tv:valV (tabF keyL 0<|news [] ms) (keyL r)=_:=zec zbv<|(zbu ms [] r).mpr (.inr<|y0l er);let l:H2 t=G (.tup<|(keyL r).map kV):=by rw[zj3];show e _ _<|g _ _ et
    let z:=DGet.t (e _ _ ep) l;apply o ?_;rw[tv]at z;trivial;apply⟨_,z,cstep (zah 00) hi L (by simp) ⟨e.wr u _,⟨_,R⟩,?_⟩⟩;rw[y3x,y13,List.map_singleton,y02,er,y0y]
   intro D H3 u c j;apply q D (ms.map<|nOf (news [] ms)) H3 (g.free u) (g.trans c) ?_<|zv5 ms;rw[j,hlr];congr 2;apply y2x (by simp) λi Y M=>?_;simp only[y01,y16]at Y;simp[y02,y00 Y]
abbrev Q3:Stmt:=top 11
theorem zgm:FnScope ["machine","sorts"] ["machine","sorts"] (defScope Q3):={}
include T in
theorem zuu(d:Dfn K mg "finer_sorts" Q3 ["machine","sorts"])(Ql:03 1 "renamed" ["rooms","numbers"] zee)(Ku:03 1 "numbered" ["marks"] zdg):03 2 "finer_sorts" ["machine","sorts"] zmt:=by
 apply d.cal zgm 07 08
 .nofun
 let(a,b,m,ns,rfl,(b1,Y,rs,ea,b9,O,ck),ok,M,S,q):=h;let fu:=zbr ok.wid;let hf:m.n<=100:=ok.few;let k9:ns.length=m.n:=S.len;let hrs:rs.length=m.n:=by rw[SS.Paired.len O,ok.len]
 apply⟨_,(zac<|zag (zae Ku hr 00 01<|pa_c (zav ["sort","ways"] [(1,"sorts")] (CompOk.of R 01 01) 01 (zt9 K 01 T.b_zip<|pa_c (pv 1) (pa_c (zap (zaf K) (pv 0) zad λ_ _=>rfl) zaa)) (λ_ _ _ _ _=>(zdn K (n:=2) R<|zba (zam (i:=0) (show List.Nodup (["sort","ways","sorts"]:List Str) by decide+kernel) 01<|Or.inl 01) (zba (zam (i:=1) (show List.Nodup (["sort","ways","sorts"]:List Str) by decide+kernel) 01<|Or.inl 01) zdm))) (λ_ _ _ _ _=>za9) λ_ _ _ _ _=>(zay (zqy K) (za2<|pa_c (pv 0) zaa)<|zae Ql hr 00 01 (pa_c (pv 1)<|pa_c (pv 2) zaa))) zaa)),?_⟩;apply zax [G<|.ref a,G<|.ref b] R ?_;trivial;apply⟨_,.of ea,_,zai (j:=1) R,_,R,⟨_,.of M⟩,⟨_,.of b9⟩,zgr (n:=m.n) (λσ=>∃v v',σ=[v,v',G<|.ref b]) (λj y H=>Line H y<|markOf m ns j) 00 ⟨_,_,R⟩ (λi H' hi e=>?_) (λH' e=>⟨_,_,.of<|e _ _ M,.of<|e _ _ b9,by rw[y01];omega⟩) ?_ ?_⟩
 .let(v2,ev,_):=Paired.at2 O<|y00 (show i<m.ways.length by rw[ok.len];show hi);show⟨_,_,nV<|ix ns i,v2,.of<|e _ _ M,.of<|e _ _ b9,by rw[y05,zcc 00];rfl,ev⟩
 .rintro D i ys σ H1 x H1' hi e u L hl C ⟨v,v',rfl⟩ yz;apply atom λzG zk=>?_;let(p,x1,y1,rfl,I,ex,ey):=ztb (.of<|e _ _ M) (.of<|e _ _ b9) yz;apply zk ?_;rw[y05,zcc 00]at ex;cases ex;apply atom λzG zk=>?_;let bd:i<m.ways.length:=by rw[ok.len];show hi
  let(v2,ev,a2,rfl,e4):=Paired.at2 O<|y00 bd;apply zk ?_;rw[ev]at ey;cases ey;let eg:m.ways.getD i []=m.ways[i]:=by rw[y02,y00 bd];rfl
  let cw:=ok.line _<|y0n bd;let g1:=e.trans I.g;trivial;apply⟨_,.of I.at',R,_,_,R,_,_,R,R,mkT λt H2 c=>⟨a2,b,m.ways[i],ix ns,R,c.g _ _<|g1 _ _ e4,by omega,.inr ⟨ns,c.g _ _<|g1 _ _ M,λr mr=>zcc<|by rw[k9];show ok.room _ (y0n bd) r mr⟩,λp3 H3 g3 e3=>?_⟩⟩;apply⟨_,R,_,.of<|g3 _ _ c.at',_,.of e3,by simp,?_,?_,λp4 H4 n4=>?_⟩
  .intro z;let:=congrArg List.length z;rw[y01,y01,y1o]at this;omega
  .rw[y01,y01,y0q];show zah 00
  let dg:Same H1' H4:=c.g.trans<|g3.trans n4.g;apply zb1 (λj y H H' ts z=>z.ts ts) 00 hi u (dg _ _<|I.g _ _ L) hl C (I.g.trans dg).tups (g1.trans dg) ⟨_,_,R⟩ ⟨p4,R,?_⟩;rw[n4.at'];unfold markOf;rw[eg];rfl
 intro D ys H1 u g1 eD hl C;apply .inr ⟨D,ys,(List.range m.n).map<|markOf m ns,R,eD,zbs (by rw[hl,y01,y16]) λj y l J g=>?_,by rw[y01,y16];omega,λD2 fs H2 cg U g Nq=>q D2 fs H2 (g1.free cg) (g1.trans U) g Nq⟩;let o:j<m.n:=by rw[←hl];show(y09.mp J).1
 rw[y05,y1p o]at g;cases g;show C j y J
abbrev Kw:Stmt:=top 12
theorem Qo:FnScope ["ends","part_further","sorts","finer"] ["ends","part_further"] (defScope Kw):={}
include T in
theorem zog(d:Dfn K mg "sorts_by" Kw ["ends","part_further"])(Ku:03 1 "numbered" ["marks"] zdg):03 4 "sorts_by" ["ends","part_further"] (zgx P w K mg base):=by
 apply d.cal Qo 07 08
 .nofun
 let(e,pf,fd,bs,Rq,J,L,j,rfl,x,U,p,cl,y,C,hJ0,hJl,hnx,q):=h;let Y:=ze9 hr 8 04;apply⟨_,(zab (zao (i:=2) Qo.nd R (Or.inl R)<|zae Ku hr 00 01 (pa_c (pv 0) zaa))<|zab (zao (i:=3) Qo.nd R (Or.inl R)<|zcm P w K mg base 1 3 1 (zhw Rq J L) hr 00 (pa_c (pv 2) zaa)) (zab (zh5 PassesOwn.never (zaj (zqs K Y) (pv 3) (pv 2)<|nomark _)<|zab (zao (i:=2) Qo.nd R (Or.inl R)<|pv 3) (zac<|zao (i:=3) Qo.nd R (Or.inl R) (zcm P w K mg base 1 3 1 (zhw Rq J L) hr 00<|pa_c (pv 2) zaa)))<|zac (zag<|pv 2))),?_⟩;apply zax [G<|.ref e,G<|.ref pf,B,B] R ?_;trivial;apply .inl ⟨e,bs,R,x,U,λo ns H1 M g1 e1 N1=>?_⟩;apply⟨pf,R,fd,g1 _ _ p,g1 _ _ p,cl.mono g1.frz,R,o,ns,R,C _ _ g1 y,e1,hJ0 ns N1,λa fs H2 r g2 e2 N2=>?_⟩;apply⟨λD σ H'=>∃(ns fs:List Nat) (o a:Ad),D=j ns/\Same H H'/\σ=[G<|.ref e,G<|.ref pf,G<|.ref o,G<|.ref a]/\H' o=G (.lst<|ns.map nV)/\H' a=G (.lst<|fs.map nV)/\J ns/\L ns fs,
  ⟨_,ns,fs,o,a,R,g1.trans g2,R,g2 _ _ e1,e2,hJ0 ns N1,N2⟩,?_⟩
 rintro D σ H' ⟨ns,fs,o,a,rfl,g,rfl,e1,e2,S,Nq⟩;let(S',v):=hnx ns fs S Nq;trivial;apply⟨fs.map λ(n:Nat)=>(n:Int),.of (by rw[←zm8];show e2),ns.map λ(n:Nat)=>(n:Int),.of (by rw[←zm8];show e1),?_⟩;by_cases I:fs=ns
 .rw[Xg<|by rw[I]];apply iteF ?_;show q o ns H' g e1 S<|I▸Nq
 .rw[Xf λz=>I<|ze1 z];apply iteT ⟨λl u=>∃O,O<j ns/\_,λl u z=>z,?_⟩;apply⟨pf,R,fd,g _ _ p,g _ _ p,cl.mono g.frz,R,a,fs,R,C _ _ g y,e2,S',λD3 fs' H3 hD3 c e3 N3=>⟨j fs,v I,fs,R,g.trans c,fs',a,D3,R,c _ _ e2,e3,S',N3⟩⟩
abbrev Vm:Stmt:=top 13
theorem Qu:FnScope ["machine","rooms","in_order","sorts","firsts"] ["machine"] (defScope Vm):={}
abbrev qs_reduced:List (Pos×Str):=[(⟨49,34,49,80⟩,"reduced.<locals>.<lambda>")]
include T in
theorem zoj{c Pt:Ad}(d:DfnC K mg "reduced" Vm ["machine"] c Pt)(kb:BltK base mg)(P4:03 1 "reached" ["machine"] zgz)(To:03 2 "picked" ["machine","rooms","numbers"] zi4)(Tk:03 2 "finer_sorts" ["machine","sorts"] zmt)(Pe:03 4 "sorts_by" ["ends","part_further"]<|zgx P w K mg base):03 5 "reduced" ["machine"] (zdf Pt qs_reduced):=by
 apply d.cal Qu 07 λf A outer s H vs Q E L h=>?_
 .nofun
 let(a,m,rfl,tab,rm,ok,q):=h;let hf:m.n<=100:=ok.few;apply⟨_,(zab (zao (i:=1) Qu.nd R (Or.inl R)<|zae P4 L 00 01 (pa_c (pv 0) zaa))<|zab (zao (i:=2) Qu.nd R (Or.inr R)<|zae To L 00 01 (pa_c (pv 0)<|pa_c (pv 1) (pa_c (zbi (ziv K R) 01 T.b_dict boot_dict<|pa_c (zav ["number","room"] [] (CompOk.of R 01 01) 01 (zh6 K 01 T.b_enumerate<|pa_c (pv 1) zaa) (λ_ _ _ _ _=>(zdn K (n:=2) R<|zba (zam (i:=0) (show List.Nodup (["number","room"]:List Str) by decide+kernel) 01<|Or.inl 01) (zba (zam (i:=1) (show List.Nodup (["number","room"]:List Str) by decide+kernel) 01<|Or.inl 01) zdm))) (λ_ _ _ _ _=>za9) λ_ _ _ _ _=>(za2<|pa_c (pv 1) (pa_c (pv 0) zaa))) zaa) zaa))) (zab (zao (i:=3) Qu.nd R (Or.inr R)<|zqq Pe L 00 01 (λ_=>rfl) (pa_c (zap (zaf K) (pv 2) zad λ_ _=>rfl)<|pa_c (zjn (qs:=qs_reduced) "reduced.<locals>.<lambda>" rfl d.code kb 01 01) zaa))<|zab (zek (i:=4) Qu.nd R (Or.inl R) ["sort"] [(3,"sorts")] (CompOk.of R 01 01) 01 (zf0 01 T.b_range<|pa_c (zay zf5 (za3 (zma K R) 01 T.b_max boot_max<|pa_c (pv 3) zaa) zad) zaa) (λ_ _ _ _ _=>(zam (i:=0) (show List.Nodup (["sort","sorts"]:List Str) by decide+kernel) 01<|Or.inl 01)) (λ_ _ _ _ _=>za9) λ_ _ _ _ _=>(zg8 K PySem.F.plainAttrs_list PySem.F.slot_list_index PySem.F.type_list_index (zrg K) (pv 1)<|pa_c (pv 0) zaa)) (zac<|zag (zae To L 00 01<|pa_c (pv 2) (pa_c (pv 4)<|pa_c (pv 3) zaa))))),?_⟩;apply zax [G<|.ref a,B,B,B,B] R ?_;trivial;apply⟨a,m,R,rm,ok,λD rooms H1 u g1 eD cm=>?_⟩;let hrl:rooms.length<=m.n:=zc1 cm.nd cm.lt;apply⟨_,R,⟨_,.of eD⟩,zgr (n:=rooms.length) (λσ=>∃v v',σ=[v,v']) (λj y H=>∃t,y=.ref t/\H t=G (.tup [nV<|ix rooms j,nV j])) 00 ⟨_,_,R⟩ (λi H' hi gg=>⟨_,nV<|ix rooms i,.of<|gg _ _ eD,by rw[y05,zcc hi];rfl⟩) (λH' gg=>⟨_,.of<|gg _ _ eD,by rw[y01];show y04 _⟩) ?_ ?_⟩
 .rintro D' i ys σ H2 x H2' hi gg dy cg hl C ⟨v,v',rfl⟩ yz;apply atom λzG zk=>?_;let(p,x1,rfl,n1,ex):=zmj (.of<|gg _ _ eD) yz;apply zk ?_;rw[y05,zcc hi]at ex;cases ex;trivial;apply⟨_,.of n1.at',R,_,_,R,_,_,R,R,mkT λt H3 n3=>zb1 (λj y H H' ts ⟨t,e,z⟩=>⟨t,e,ts _ _ z⟩) 00 hi dy (n3.g _ _<|n1.g _ _ cg) hl C (n1.g.trans n3.g).tups (gg.trans<|n1.g.trans n3.g) ⟨_,_,R⟩ ⟨t,R,n3.at'⟩⟩
 intro D2 ys H2 cg U bi cr e8;let hpo:∀j y (l:Key×V),ys[j]?=G y->((List.range rooms.length).map λi=>((Sum.inl ((ix rooms i:Nat):Int):Key),nV i))[j]?=G l->PairV H2 y l:=λj y l J e2=>by
  let o:j<rooms.length:=by rw[←cr];show(y09.mp J).1
  rw[y05,y1p o]at e2;cases e2;show e8 j y J
 apply⟨_,R,_,.of bi,(List.range rooms.length).map λi=>((Sum.inl ((ix rooms i:Nat):Int):Key),nV i),zbs (by rw[cr,y01,y16]) hpo,by rw[y01,y16];omega,λdd H3 n3=>?_⟩;apply atom λzG zk=>?_;let ar:Same H1 H3:=U.trans n3.g;let hg:∀i,i<rooms.length->rooms.idxOf (ix rooms i)=i:=λi hi=>by
  let(Y,h2):=zne<|zd2 hi;show zwe cm.nd Y hi h2
 let knd:(((List.range rooms.length).map λi=>((Sum.inl ((ix rooms i:Nat):Int):Key),nV i)).map (·.1)).Nodup:=by
  rw[y0u];apply SM.nodup_map_on (λi hi j o e=>?_) List.nodup_range;show zwe cm.nd (y0z.mp hi) (y0z.mp o) (by have:=Sum.inl.inj e;omega)
 let hlk:∀r∈rooms,Lk H3 dd (m.ways.getD r []) (λx=>rooms.idxOf x):=λr mr=>by
  apply .inl ⟨_,n3.at',λx mx=>zm7 _ [] _ _ knd ?_⟩;let O:x∈rooms:=by
   let(i,hi,rfl):=zie mr;let bd:ix rooms i<m.ways.length:=by rw[ok.len];show cm.lt _ mr
   rw[y02,y00 bd,y0y]at mx;let(l,hl,el):=y22 mx;rw[ok.line _<|y0n bd]at hl;let(line,f1,f2,_):=ok.at (cm.lt _ mr) hl;rw[y00 bd]at f1;cases f1;rw[y00 (by rw[ok.line _<|y0n bd];show hl),el]at f2;let(t,ht,et,_):=cm.clos i l hi hl<|.inl hi;rw[Option.some.inj f2,←et];show zd2 ht
  let(Y,h2):=zne O;apply y0j.mpr ⟨rooms.idxOf x,y0z.mpr Y,?_⟩;rw[h2]
 let(eh,ord1,_,_):=zge ok cm (g:=λx=>rooms.idxOf x) hg;apply zk ?_;apply⟨a,D,dd,m,rooms,λx=>rooms.idxOf x,R,rm.same<|g1.trans ar,ok,ar _ _ eD,by omega,cm.lt,hlk,λp1 H4 g4 cy=>?_⟩;apply atom λzG zk=>?_;let(b1,c1,rs1,ea1,b9,gd,ck):=id cy;apply zk ?_;apply ixm (.of ea1) (zai (j:=2) R) ⟨tab.same<|g1.trans (ar.trans g4),λfl H4a M=>?_⟩;intro Hq ad;let gq:Same H4 Hq:=M.old.trans ad.up;let(mt,mn):=M.fn;generalize epm:(picked m rooms λx=>rooms.idxOf x)=cq at eh ord1 cy ea1 gd ck;let cl:CloH P w K mg base 3 Hq fl 1 (zhw (λH=>RepM H p1 cq) (Sorts cq) λns fs=>Num ((List.range cq.n).map<|markOf cq ns) fs):=by
  apply M.clo_e (own:=["coarser"]) (ps:=["coarser"]) (cap:=["in_order"]) (cv:=[.ref p1]) (k:=2) (Same.refl _) ad ⟨R,R,R,by decide+kernel,R,by decide+kernel,by decide+kernel,by decide+kernel⟩ (y04 _) (.cons ⟨2,R,R,.inl R⟩ .nil) (λcl ct cd pm=>L2.fit1 λ_=>rfl) ?_;rintro clo c' A' bj s' H' vs Q' L a9 fz d9 hl ⟨b,ns,rfl,hR,eb,S,q'⟩;apply⟨_,(zae Tk L 00 01<|pa_c (pv 1) (pa_c (pv 0) zaa)),?_⟩;apply zp6 [G<|.ref b,G<|.ref p1] R ?_;trivial;show⟨p1,b,cq,ns,R,hR.ts<|SameN.tups a9.n,eh,a9.n _ _ eb (λ_ _ z=>nomatch z),S,λD5 fs H5 hD5 g5 d8 N5 mq=>q' D5 fs (mixL clo H' H5) (zbk (cl:=clo) (H:=H') g5|> λ_=>by
   let:=zgc hD5 d8 mq;show this) (zbk g5) (ze0 mq _ _ d8) N5⟩
 apply⟨c1,fl,mt,cq.ends,(λH=>RepM H p1 cq),Sorts cq,_,(λns=>cq.n*cq.n-ns.sum),R,gq _ _ ck,eh.few,ad.up _ _ mn,cl,cy.same gq,(λH1 H2 g z=>z.same g),(λns Nq=>zk3 Nq),(λns S=>by rw[S.len];show eh.few),(λns fs S Nq=>?_),λD5 ns H5' g5' eD5' S N5=>?_⟩
 .let(S',ref,_):=zg4 eh S Nq;apply⟨S',λI=>?_⟩;let(m1,m2):=zn0 S S' ref I;change cq.n*cq.n-fs.sum<cq.n*cq.n-ns.sum;omega
 let st:=(zg4 eh S N5).2.2 rfl;let g5:=M.old.trans<|ad.same g5';let d8:=ad.keep g5' eD5' λ_ _ z=>nomatch z;dsimp only;generalize dropX _ H5'=H5 at g5 d8 ⊢;subst epm;let gb:ns.length=rooms.length:=by rw[S.len,zb8]
 apply⟨_,R,ns.map λ(n:Nat)=>(n:Int),.of (by rw[←zm8];show d8),by rw[y01,gb];show cm.pos,λM mM hM=>?_⟩;apply atom λzG zk=>?_;let(Mn,mMn,rfl):=y0j.mp mM;let hMl:∀x∈ns,x<=Mn:=λx mx=>by have:=hM _<|y0j.mpr ⟨x,mx,R⟩;omega
 let(F,mem):=zr7 S.srt mMn hMl;let hMb:Mn<100:=by
  let(i,hi,ei):=zie mMn;let:=S.srt.le i hi;omega
 let etn:((Mn:Int)+1-0).toNat=Mn+1:=by omega
 apply zk ?_;apply⟨by omega,by omega,?_⟩;rw[show((Mn:Int)+1).toNat=Mn+1 by omega];apply zwi (λσ=>∃v,σ=[v,G<|.ref D5]) (λi=>nV<|ns.idxOf i) 00 ⟨_,R⟩ ?_ ?_
 .rintro D6 i σ H6 hi gg hD6 hD6' ⟨v,rfl⟩;trivial;apply⟨.inl ⟨_,.of<|gg _ _ d8⟩,ns.map λ(n:Nat)=>(n:Int),.of (by rw[←zm8];show gg _ _ d8),y0j.mpr ⟨i,mem i 00,by omega⟩,by rw[y01];omega,?_⟩;apply zsp 00 hi hD6 hD6' gg ⟨_,R⟩ ?_;rw[show(0:Int)+(i:Int)=((i:Nat):Int) by omega,znf]
 intro D6 H6 hD6 g6 eD6;let eD6':H6 D6=G (.lst<|((List.range<|Mn+1).map λs=>ns.idxOf s).map nV):=by rw[eD6,y0u];rfl
 let fl:∀r∈((List.range<|Mn+1).map λs=>ns.idxOf s),r<(picked m rooms λx=>rooms.idxOf x).n:=λr mr=>by
  let(s',hs,rfl):=zie mr;rw[←S.len];show F.lt s' hs
 apply⟨p1,D6,D5,_,_,ix ns,R,cy.same<|g5.trans g6,eh,eD6',by rw[y01,y16];omega,fl,λr mr=>.inr ⟨ns,g6 _ _ d8,λx mx=>zcc ?_⟩,λp2 H7 g7 dh=>?_⟩
 .rw[S.len];let bd:r<(picked m rooms λx=>rooms.idxOf x).ways.length:=by rw[eh.len];show fl r mr
  rw[y02,y00 bd,y0y]at mx;show eh.room _ (y0n bd) x mx
 .exact q p2 _ H7 (g1.trans<|ar.trans (g4.trans<|g5.trans (g6.trans g7))) dh<|zyu ok cm hg S st F
include T in
theorem zll(d:Dfn K mg "renamed" Q1 ["rooms","numbers"]):03 1 "renamed" ["rooms","numbers"] zfq:=by
 apply d.cal zeh 07 08
 .nofun
 let(a,b,U,ls,fs,rfl,I,O,r,M,g,q):=h;let Y:=ze9 hr 8 04;let hrl:=SS.Paired.len O;apply⟨_,(zac<|zag (zbi zaw 01 T.b_tuple iO<|pa_c (zav ["room"] [(1,"numbers")] (CompOk.of R 01 01) 01 (za8 K<|pv 0) (λ_ _ _ _ _=>(zam (i:=0) (show List.Nodup (["room","numbers"]:List Str) by decide+kernel) 01<|Or.inl 01)) (λ_ _ _ _ _=>za9) λ_ _ _ _ _=>(zfk Y (pv 1) (pv 0) λ_ _=>rfl)) zaa)),?_⟩;apply zax [G<|.ref a,G<|.ref b] R ?_;trivial;apply⟨⟨_,.of I⟩,zgr (n:=ls.length) (λσ=>∃v,σ=[v,G<|.ref b]) (λj y H=>y=nV (nOf fs<|ls.getD j [])) 00 ⟨_,R⟩ (λi H' hi e=>⟨_,U[i]'(00),.of<|e _ _ I,y00 _⟩) (λH' e=>⟨_,.of<|e _ _ I,by omega⟩) ?_ ?_⟩
 .rintro D i ys σ H1 x H1' hi e u L hl C ⟨v,rfl⟩ ⟨rfl,J⟩;apply atom λzG zk=>?_;let ex:=J _<|.of (e _ _ I);let(l,el,t,rfl,et):=SS.Paired.at O ex;let et2:=e _ _ et;apply zk ?_;rw[←zj3]at et2;let z:=DGet.t (e _ _ M) et2;rw[zec zbv<|g l (y0l el)]at z;trivial;apply⟨_,z,zb1 (λj y H H' ts z=>z) 00 hi u L hl C (Same.refl _).tups e ⟨_,R⟩ ?_⟩;rw[y02,el];rfl
 intro D ys H1 u g1 eD hl C;let p:H1 D=G (.lst<|(ls.map<|nOf fs).map nV):=by
  rw[eD];congr 2;apply y38 λj=>?_;by_cases o:j<ls.length
  .rw[y00 (show j<ys.length by omega),C j _<|y00 (show j<ys.length by omega),y05,y05,y02,y00 o];rfl
  .rw[y1c 00,y1c<|by rw[y01,y01];omega]
 show⟨_,R,_,.inl ⟨.of p,λt H2 c=>q t H2 (g1.trans c.g) c.at'⟩⟩
abbrev K3:Stmt:=top 19
theorem Qk:FnScope ["tracks","first","comings","is_end","numbers","found","ways","coming_here","thing"] ["tracks","first","comings","is_end"] (defScope K3):={}
include T in
theorem zjv{Pt:Ad}(d:Dfn K mg "explored" K3 ["tracks","first","comings","is_end"])(Ql:03 1 "renamed" ["rooms","numbers"] zfq)(Vn:03 5 "reduced" ["machine"]<|zdf Pt qs_reduced):
  CalE P w K mg base 6 "explored" ["tracks","first","comings","is_end"] (zch cTooGreat P w K mg base Pt qs_reduced):=by
 apply d.calE Qk 07 λf cdv A outer s H vs Q E L h Rq=>?_
 .nofun
 let(a,fc,fe,fdc,fde,Th,Gq,Rh,t0,rfl,tab,I,efc,efe,ng,mw,hR,hRs,hw,hG0,bu,q,qx):=h;let hu:=ze9 L 8 04;apply⟨_,(zab (zao (i:=4) Qk.nd R (Or.inl R)<|zql hu (pv 1) zad)<|zab (zao (i:=5) Qk.nd R (Or.inl R)<|zaq (pa_c (pv 1) zaa)) (zab (zao (i:=6) Qk.nd R (Or.inl R)<|zaq zaa)<|zab (zh5 PassesOwn.leaving (zaj zqu (za3 (zau K) 01 T.b_len iA<|pa_c (pv 6) zaa) (za3 (zau K) 01 T.b_len iA<|pa_c (pv 5) zaa)<|nomark _)<|zab (zao (i:=7) Qk.nd R (Or.inl R)<|zcm P w K mg base 2 4 1 (zcy Rh Th Gq) L 00 (pa_c (zap (za1 K) (pv 5) (za3 (zau K) 01 T.b_len iA<|pa_c (pv 6) zaa) λ_ _=>rfl) zaa)) (zab (zey PassesOwn.leaving R (za8 K<|pv 7) (zam (i:=8) Qk.nd 01<|Or.inl 01)<|zac (za6 (zaj (zc0 hu) (pv 8) (pv 4)<|by with_unfolding_all rfl) (zab (zfj hu (pv 4) (pv 8) (za3 (zau K) 01 T.b_len iA<|pa_c (pv 5) zaa) R)<|zac (zdl<|zg8 K PySem.F.plainAttrs_list PySem.F.slot_list_append PySem.F.type_list_append zen (pv 5) (pa_c (pv 8) zaa))) zan))<|zab (za6 (zaj zia (za3 (zau K) 01 T.b_len iA<|pa_c (pv 5) zaa) (zbt 01 T.g_MOST_COME_TO)<|nomark _) (zac<|zqb Rq R 01 T.m_TooGreat T.x_TooGreat F.excBase_ValueError (pa_c zal zaa)) zan) (zac<|zdl (zg8 K PySem.F.plainAttrs_list PySem.F.slot_list_append PySem.F.type_list_append zen (pv 6)<|pa_c (zae Ql L 00 01<|pa_c (pv 7) (pa_c (pv 4) zaa)) zaa)))) (zac<|zag (zae Vn L 00 01<|pa_c (za2<|pa_c (pv 0) (pa_c (zbi zaw 01 T.b_tuple iO<|pa_c (pv 6) zaa)<|pa_c (zbi zaw 01 T.b_tuple iO<|pa_c (zav ["thing"] [(3,"is_end")] (CompOk.of R 01 01) 01 (za8 K<|pv 5) (λ_ _ _ _ _=>(zam (i:=0) (show List.Nodup (["thing","is_end"]:List Str) by decide+kernel) 01<|Or.inl 01)) (λ_ _ _ _ _=>za9) λ_ _ _ _ _=>(zcm P w K mg base 1 4 1 (zfe Rh Th Gq) L 00<|pa_c (pv 0) zaa)) zaa) zaa)) zaa)))),?_⟩;apply zax [G<|nV Th.w,G<|.ref a,G<|.ref fc,G<|.ref fe,B,B,B,B,B] R ?_;trivial
 applyλkd Hk nk=>⟨nk.at',keyL t0,by rw[zj3];show nk.g _ _ I,mkT λpf H2 c=>⟨by decide,λpw H3 r=>?_⟩⟩
 generalize eH:upd Hk kd (.dT [(keyL t0,V.int 0)])=Hk2 at c;let gk:Same H Hk2:=by rw[←eH];show nk.g.wr nk.nil _
 let ek:Hk2 kd=G (.dT<|tabF keyL 0 [t0]):=by rw[←eH,zar];rfl
 let g3:Same H H3:=gk.trans<|c.g.trans r.g;let nfk:kd≠pf:=zas ek c.nil;let nwk:kd≠pw:=zas (c.g _ _ ek) r.nil;let nfw:pf≠pw:=zas c.at' r.nil;let hkd:H kd=B:=nk.nil;let hpf:H pf=B:=gk.free c.nil;let hpw:H pw=B:=(gk.trans c.g).free r.nil;let fu:=zbr hw;apply⟨λmm σ H'=>∃(k:Nat) (fs:List<|List Nat) (rs rw:List V) (v7 v8:Option V),mm=100-k/\Same H H'/\σ=[G<|nV Th.w,G<|.ref a,G<|.ref fc,G<|.ref fe,G<|.ref kd,G<|.ref pf,G<|.ref pw,v7,v8]/\H' kd=G (.dT<|tabF keyL 0 fs)/\H' pf=G (.lst rs)/\i4 (Line H') rs fs/\H' pw=G (.lst rw)/\i4 (Line H') rw ((fs.take k).map λt=>(Th.step t).map<|nOf fs)/\Fnd Th Gq t0 fs k/\Gro Th t0 fs k/\fs.length<=100,
  ⟨100,0,[t0],[.ref a],[],B,B,R,g3,R,(c.g.trans r.g) _ _ ek,r.g _ _ c.at',.cons ⟨a,R,g3 _ _ I⟩ .nil,r.at',.nil,Fnd.start hG0,.start,by simp⟩,?_⟩
 rintro mm σ H' ⟨k,fs,rs,rw',v7,v8,rfl,g,rfl,ek',gh,pr,ew',pw',F,Gr,Y⟩;let hrl:=SS.Paired.len pr;let f9:=SS.Paired.len pw';rw[y01,y0t,y3h F.le]at f9;trivial;apply⟨_,.inl<|.of ew',_,.inl<|.of gh,?_⟩;by_cases ac:k<fs.length
 .refine itT 00 ⟨λa8 ao=>∃O,O<100-k/\_,λa8 ao z=>z,?_⟩;apply atom λzG zk=>?_;let et:fs[k]?=G fs[k]:=y00 ac;let(v,ev,ta,rfl,eta):=Paired.at2 pr et;let hGt:=F.good _<|y0n ac;apply zk ?_;generalize fs[k]=t at et eta hGt;let(k9,hsG):=bu t hGt;apply⟨fc,R,fdc,g _ _ efc,_,.inl<|.of ew',_,.of gh,_,by rw[f9];show zai ev,g _ _ efc,ng.mono g.frz,R,ta,t,R,hRs _ _ g hR,eta,hGt,λD db H1 hD g1 eD gd=>⟨⟨_,.of eD⟩,?_⟩⟩;let nkD:kd≠D:=zas ek' hD;let nfD:pf≠D:=zas gh hD;let aw:=SS.Paired.len gd;apply zl1 (K:=K) (a:=D) (xs:=db) (λj σ ao=>Same H ao/\TupS H1 ao/\(∃v8,σ=[G<|nV Th.w,G<|.ref a,G<|.ref fc,G<|.ref fe,G<|.ref kd,G<|.ref pf,G<|.ref pw,G<|.ref D,v8])/\ao D=G (.lst db)/\ao pw=G (.lst rw')/\∃dc,ao kd=G (.dT<|tabF keyL 0 (news fs<|(Th.step t).take j))/\ao pf=G (.lst dc)/\i4 (Line ao) dc (news fs<|(Th.step t).take j))
   ⟨g.trans g1,TupS.refl _,⟨_,R⟩,eD,g1 _ _ ew',rs,g1 _ _ ek',g1 _ _ gh,L2.Paired.mapP pr λ_ _ z=>z.ts g1.tups⟩ (λj σ ao _ z=>.of z.2.2.2.1) ?_ ?_
  .rintro j y σ ao C ⟨U,ts,⟨v8',rfl⟩,bi,gu,dc,c8,d3,gf⟩;apply atom λzG zk=>?_;let(u,eu,tu,rfl,etu):=SS.Paired.at gd C;let ou:=ts _ _ etu;let ox:ao tu=G (.tup<|(keyL u).map kV):=by rw[zj3];show ou
   let hjl:=SS.Paired.len gf;let gb:=zdz ((Th.step t).take j) fs;apply zk ?_;rw[y0t]at gb;trivial;apply⟨_,DGet.t c8 ox,?_⟩;by_cases d7:u∈news fs ((Th.step t).take j)
   .rw[zec zbv d7];apply iteF ?_;rw[zhe eu,zrc d7];show⟨U,ts,bi,gu,c8,dc,d3,gf⟩
   .rw[zfc zbv d7];let ef3:∀o,upd ao kd o pf=G (.lst dc):=λo=>by rw[zak<|Ne.symm nfk];show d3
    apply iteT ⟨_,.inl<|.of d3,_,DPut.t c8 ox (by rw[zcv];show small1000 00),.inl ⟨_,.of<|ef3 _⟩,_,ef3 _,small1000 00,?_⟩;rw[zhe eu,zlp d7];generalize news fs ((Th.step t).take j)=ds at d7 c8 gf hjl gb;let ep:putK (tabF keyL 0 ds) (keyL u) (V.int (dc.length:Int))=tabF keyL 0 (ds++[u]):=by
     rw[←zhu zbv d7,zcv,hjl]
    let tsA:TupS ao (upd (upd ao kd<|.dT (putK (tabF keyL 0 ds) (keyL u)<|V.int (dc.length:Int))) pf<|.lst (dc++[.ref tu])):=(TupS.wrT c8 _).trans<|TupS.wr (ef3 _) _;apply⟨(U.wr hkd _).wr hpf _,ts.trans tsA,by rw[zak<|Ne.symm nfD,zak<|Ne.symm nkD];show bi,by rw[zak<|Ne.symm nfw,zak<|Ne.symm nwk];show gu,by rw[zak nfk,zar,ep],dc++[.ref tu],zar,SM.Paired.snoc (L2.Paired.mapP gf λ_ _ z=>z.ts tsA) ⟨tu,R,tsA _ _ ou⟩⟩
  .rintro σ ao ⟨U,ts,⟨v8',rfl⟩,bi,gu,dc,c8,d3,gf⟩;rw[aw,y0i<|y04 _]at c8 gf;let F':=F.next et hsG;let Gr':Gro Th t0 (news fs<|Th.step t) (k+1):=.next Gr Y et
   let hnl':=zdz (Th.step t) fs;let hjl:=SS.Paired.len gf;trivial;apply⟨_,.inl<|.of d3,?_⟩;by_cases M:100<(news fs<|Th.step t).length
   .exact itT 00<|mkT λa0 n0=>qx (.none Gr' M) a0 ao U
   apply itF 00 ⟨.inl ⟨_,.of gu⟩,D,kd,db,Th.step t,news fs<|Th.step t,R,bi,L2.Paired.mapP gd λ_ _ z=>z.ts ts,by omega,c8,(λl hl=>(zbu _ _ _).mpr<|.inr hl),λp H4 g4 ep=>⟨_,g4 _ _ gu,small1000 00,?_⟩⟩;let tsB:TupS ao (upd H4 pw<|.lst (rw'++[.ref p])):=g4.tups.trans<|TupS.wr (g4 _ _ gu) _;apply⟨100-(k+1),by omega,k+1,R,(U.trans g4).wr hpw _,news fs<|Th.step t,by rw[zak nwk];show g4 _ _ c8,dc,by rw[zak nfw];show g4 _ _ d3,L2.Paired.mapP gf λ_ _ z=>z.ts tsB,rw'++[.ref p],zar,?_,F',Gr',by omega⟩;rw[zpf F et];show SM.Paired.snoc (L2.Paired.mapP pw' λ_ _ z=>z.ts<|g1.tups.trans (ts.trans tsB)) ⟨p,R,TupS.wr (g4 _ _ gu) _ _ _ ep⟩
 .rw[Xf 00];let hk:k=fs.length:=by have:=F.le;omega
  subst hk;apply iteF ?_;let hF:∀t∈fs,Gq t:=F.good;apply⟨_,.inl ⟨.of ew',λt1 H4 J=>⟨⟨_,.of<|J.g _ _ gh⟩,?_⟩⟩⟩;apply zgr (n:=fs.length) (λσ=>∃v,σ=[v,G<|.ref fe]) (λj y H=>y=.bl (Th.fin<|fs.getD j [])) 00 ⟨_,R⟩ (λi H5 hi e=>⟨_,rs[i]'(00),.of<|e _ _ (J.g _ _ gh),y00 _⟩) (λH5 e=>⟨_,.of<|e _ _ (J.g _ _ gh),by omega⟩) ?_ ?_
  .rintro D i ys σ H5 x H5' hi e hD ae hl C ⟨v,rfl⟩ ⟨rfl,yx⟩;apply atom λzG zk=>?_;let ex:=yx _<|.of (e _ _<|J.g _ _ gh);let(l,el,tl,rfl,etl):=SS.Paired.at pr ex;let gg':=g.trans<|J.g.trans e;apply zk ?_;trivial;apply⟨fe,R,fde,gg' _ _ efe,gg' _ _ efe,mw.mono gg'.frz,R,tl,l,R,hRs _ _ gg' hR,(J.g.trans e) _ _ etl,F.good l<|y0l el,λH6 g6=>zb1 (λj y H H' ts z=>z) 00 hi hD (g6 _ _ ae) hl C g6.tups (e.trans g6) ⟨_,R⟩ ?_⟩;rw[y02,el];rfl
  intro D ys H5 hD g5 eD hl C;let be:H5 D=G (.lst<|(fs.map Th.fin).map V.bl):=by
   rw[eD];congr 2;apply y38 λj=>?_;by_cases hj:j<fs.length
   .rw[y00 (show j<ys.length by omega),C j _<|y00 (show j<ys.length by omega),y05,y05,y02,y00 hj];rfl
   .rw[y1c 00,y1c<|by rw[y01,y01];omega]
  apply⟨D,R,_,.inl ⟨.of be,λt2 H6 n6=>mkT λt3 H7 n7=>?_⟩⟩;let gA:=J.g.trans<|g5.trans (n6.g.trans n7.g);rw[y0i<|y04 _]at pw';let rp:RepM H7 t3 (expl Th fs):=⟨t1,t2,rw',n7.at',(g5.trans<|n6.g.trans n7.g) _ _ J.at',L2.Paired.mapP pw' λ_ _ z=>z.ts gA.tups,n7.g _ _ n6.at'⟩;apply⟨t3,expl Th fs,R,tab.same<|g.trans gA,rp,zyb hw F 00 λt h=>(bu t h).1,λp O H8 g8 r8 Rd=>q O (.some Gr Y Rd.ok Rd.w Rd.canon λrow L=>?_) p H8 (g.trans<|gA.trans g8) r8⟩;rw[←Rd.par row L,zo3 F (λt h=>(bu t h).1) row L]
abbrev Vx:Stmt:=top 20
theorem Ta:FnScope ["one","other","is_end","comings"] ["one","other","is_end"] (defScope Vx):={}
abbrev qs_paired:List (Pos×Str):=[(⟨77,4,78,60⟩,"paired.<locals>.comings"),(⟨79,45,79,100⟩,"paired.<locals>.<lambda>")]
include T in
theorem zom{c o Pt:Ad}(d:DfnC K mg "paired" Vx ["one","other","is_end"] c o)(kb:BltK base mg)(Kq:CalE P w K mg base 6 "explored" ["tracks","first","comings","is_end"]<|zch cTooGreat P w K mg base Pt qs_reduced):
  CalE P w K mg base 7 "paired" ["one","other","is_end"] (zef cTooGreat P w K mg base Pt qs_reduced o qs_paired):=by
 apply d.calE Ta 07 λf A outer s H vs Q E hr h Rq=>?_
 .nofun
 let(a,b,pf,fd,i,m2,op,rfl,tr,tp,cy,dh,o1,o2,hw,ef,cl,q,qx):=h;let(u,c1,rs1,ea,b9,gd,ck):=id cy;let(b2,U,rs2,eb,nh,pr2,nu):=id dh;apply⟨_,(zab (za6 (zaj op_ne (zap (zaf K) (pv 0) zad λ_ _=>rfl) (zap (zaf K) (pv 1) zad λ_ _=>rfl)<|nomark _) (zac zfi) zan)<|zab (zvy (qs:=qs_paired) "paired.<locals>.comings" (j:=3) R d.code kb 01 01 Ta.nd R R) (zac<|zag (zcz Rq Kq hr 00 01 (λ_=>rfl)<|pa_c (zap (zaf K) (pv 0) zad λ_ _=>rfl) (pa_c (za2<|pa_c zad (pa_c zad zaa))<|pa_c (pv 3) (pa_c (zjn (qs:=qs_paired) "paired.<locals>.<lambda>" rfl d.code kb 01 01) zaa))))),?_⟩;apply zax [G<|.ref a,G<|.ref b,G<|.ref pf,B] R ?_;trivial;apply⟨_,.of ea,_,za7,_,.of eb,_,za7,R,?_⟩;rw[show(!decide (nV i.w=nV m2.w))=Fa by rw[hw];simp];apply iteF ⟨tp,λf1 H1 M1=>⟨_,.of<|M1.old _ _ ea,_,za7,mkT λt0 H2 n2=>⟨tp.same<|M1.old.trans n2.g,λf2 H3 M2 Hq ad=>?_⟩⟩⟩;apply atom λzG zk=>?_;let g3:Same H H3:=M1.old.trans<|n2.g.trans M2.old;let gq:Same H Hq:=g3.trans ad.up;let(c9,kf):=M1.fn;let(fd2,d3):=M2.fn;let ng:CloH P w K mg base 4 Hq f1 1 (zcy (λH=>RepMK K H a i/\RepMK K H b m2) (pairT i m2 op)<|PairG i m2):=by
  apply M1.clo_s (own:=["pair"]) (ps:=["pair"]) (cap:=["one","other"]) (cv:=[.ref a,.ref b]) (k:=3) (n2.g.trans M2.old) ad ⟨R,R,R,by decide+kernel,R,by decide+kernel,by decide+kernel,by decide+kernel⟩ (y04 _) (.cons ⟨0,R,R,.inl R⟩<|.cons ⟨1,R,R,.inl R⟩ .nil) (λcl ct cd pm=>L2.fit1 λ_=>rfl) ?_;rintro clo c' A' bj s' H' vs Q' hr D fz d9 hl ⟨pa,t,rfl,⟨gv,ka⟩,et,⟨x,y,rfl,O,C⟩,q'⟩;apply⟨_,(zac<|zag (zlj R 01 T.b_list 01 T.b_zip<|pa_c (zap (zaf K) (zap (zaf K) (pv 1) zad λ_ _=>rfl) (zap (zaf K) (pv 0) zad λ_ _=>rfl) λ_ _=>rfl) (pa_c (zap (zaf K) (zap (zaf K) (pv 2) zad λ_ _=>rfl) (zap (zaf K) (pv 0) zad λ_ _=>rfl) λ_ _=>rfl) zaa))),?_⟩;apply zax [G<|.ref pa,G<|.ref a,G<|.ref b] R ?_;trivial;let(b1',c1',oz,nj,ni,pd,gz):=gv.ts<|SameN.tups D.n;let(b2',c2',rs2',f6,ph,oy,pi):=ka.ts<|SameN.tups D.n;let bx:=D.n _ _ et λ_ _ z=>nomatch z;let(l1,w1,J,n1,r1):=zct o1 O;let(l2,w2,e2,n2',r2):=zct o2 C;let(v1,ev1,u1,rfl,eu1):=Paired.at2 pd w1;let(v2,ev2,u2,rfl,eu2):=Paired.at2 oy w2;let fu:=zbr o1.wid;apply⟨_,.of nj,_,zai (j:=1) R,_,.of bx,_,za7,_,.of ni,_,zai ev1,_,.of f6,_,zai (j:=1) R,_,.of bx,_,zai (j:=1) R,_,.of ph,_,zai ev2,u1,R,u2,R,_,.of eu1,_,.of eu2,by rw[y01,y01,n1,n2',hw],by rw[y01,n1];omega,λL ps H5 hL r eL lps PL I=>q' L (ps.map V.ref) (mixL clo H' H5) (zgc hL eL I) (zbk r) (ze0 I _ _ eL) ?_⟩;change i4 _ _ (((i.ways.getD x []).zip<|m2.ways.getD y []).map λp=>[p.1,p.2]);rw[J,e2];apply zbs (by rw[y01,y01,List.length_zip,lps,y01,n1,n2',←hw,Nat.min_self]) λj v l ev el=>?_;rw[y05]at ev el;let(p,ep,rfl):=y1m.mp ev;let((z1,z2),ez,rfl):=y1m.mp el;let(x',y',Y,M,h3):=PL j p ep;let(hz1,hz2):=y4s.mp ez;rw[y05,hz1]at Y;rw[y05,hz2]at M;cases Y;cases M;show⟨p,R,ze0 I _ _ h3⟩
 let mw:CloH P w K mg base 4 Hq f2 1 (zfe (λH=>RepMK K H a i/\RepMK K H b m2) (pairT i m2 op)<|PairG i m2):=by
  apply M2.clo_e (own:=["pair"]) (ps:=["pair"]) (cap:=["is_end","one","other"]) (cv:=[.ref pf,.ref a,.ref b]) (k:=3) (Same.refl _) ad ⟨R,R,R,by decide+kernel,R,by decide+kernel,by decide+kernel,by decide+kernel⟩ (y04 _) (.cons ⟨2,R,R,.inl R⟩<|.cons ⟨0,R,R,.inl R⟩ (.cons ⟨1,R,R,.inl R⟩ .nil)) (λcl ct cd pm=>L2.fit1 λ_=>rfl) ?_;rintro clo c' A' bj s' H' vs Q' hr D fz d9 hl ⟨pa,t,rfl,⟨gv,ka⟩,et,⟨x,y,rfl,O,C⟩,q'⟩;apply⟨_,(zcm P w K mg base 1 2 2 (zfh op) hr 00<|pa_c (zap (zaf K) (zap (zaf K) (pv 2) zad λ_ _=>rfl) (zap (zaf K) (pv 0) zad λ_ _=>rfl) λ_ _=>rfl) (pa_c (zap (zaf K) (zap (zaf K) (pv 3) zad λ_ _=>rfl) (zap (zaf K) (pv 0) zad λ_ _=>rfl) λ_ _=>rfl) zaa)),?_⟩;apply zp6 [G<|.ref pa,G<|.ref pf,G<|.ref a,G<|.ref b] R ?_;trivial;let(b1',c1',oz,nj,ni,pd,gz):=gv.ts<|SameN.tups D.n;let(b2',c2',rs2',f6,ph,oy,pi):=ka.ts<|SameN.tups D.n;let bx:=D.n _ _ et λ_ _ z=>nomatch z;show⟨pf,R,fd,d9 _ _ _<|g3 _ _ ef,_,.of nj,_,zai (j:=2) R,_,.of bx,_,za7,_,gz.sq,_,zai (by rw[y05,Mc.fin_at O];rfl),_,.of f6,_,zai (j:=2) R,_,.of bx,_,zai (j:=1) R,_,pi.sq,_,zai (by rw[y05,Mc.fin_at C];rfl),d9 _ _ _<|g3 _ _ ef,cl.mono<|g3.frz.trans d9,R,_,_,R,λI=>q' _<|zbk (Same.refl _)⟩
 apply zk ?_;apply⟨t0,f1,f2,c9,fd2,pairT i m2 op,PairG i m2,(λH=>RepMK K H a i/\RepMK K H b m2),[0,0],R,tr.same gq,(M2.old.trans ad.up) _ _ n2.at',((n2.g.trans M2.old).trans ad.up) _ _ kf,ad.up _ _ d3,ng,mw,⟨cy.same gq,dh.same gq⟩,(λH1 H2 g z=>⟨z.1.same g,z.2.same g⟩),o1.wid,⟨0,0,R,o1.pos,o2.pos⟩,(λt h=>zjp o1 o2 hw h),λm' x p H5 r rp=>q m' x p _ (g3.trans<|ad.same r)<|rp.ts λb xs e=>ad.keep r e (λ_ _ z=>nomatch z),λx e H5 r=>qx x e _<|g3.trans (ad.same r)⟩
abbrev Pa:Stmt:=top 22
theorem zyt:FnScope ["one","other"] ["one","other"] (defScope Pa):={}
abbrev qs_met:List (Pos×Str):=[(⟨83,30,83,68⟩,"met.<locals>.<lambda>")]
include T in
theorem zxq{c Pm o I:Ad}(d:DfnC K mg "met" Pa ["one","other"] c Pm)(kb:BltK base mg)(Ve:CalE P w K mg base 7 "paired" ["one","other","is_end"]<|zef cTooGreat P w K mg base I qs_reduced o qs_paired):
  CalE P w K mg base 8 "met" ["one","other"] (zdh cTooGreat K I qs_reduced o qs_paired Pm qs_met λx y=>x&&y):=by
 apply d.calE zyt 07 λf A outer s H vs Q E L h Rq=>?_
 .nofun
 let(a,b,i,m2,rfl,l,tp,tm,u,dh,o1,v,j,q,qx):=h;apply⟨_,(zac<|zag (zcz Rq Ve L 00 01 (λ_=>rfl)<|pa_c (pv 0) (pa_c (pv 1)<|pa_c (zjn (qs:=qs_met) "met.<locals>.<lambda>" rfl d.code kb 01 01) zaa))),?_⟩;apply zax [G<|.ref a,G<|.ref b] R ?_;trivial;apply⟨tm,λfl H1 M Hq ad=>?_⟩;let gq:Same H Hq:=M.old.trans ad.up;let(mt,mn):=M.fn;let cl:CloH P w K mg base 2 Hq fl 2 (zfh λx y=>x&&y):=by
  apply M.clo_e (own:=["first","second"]) (ps:=["first","second"]) (cap:=[]) (cv:=[]) (k:=1) (Same.refl _) ad ⟨R,R,R,by decide+kernel,R,by decide+kernel,by decide+kernel,by decide+kernel⟩ (y04 _) .nil (λcl ct cd pm=>L2.fit2 λ_ _=>rfl) ?_;rintro clo c' A' g s' H' vs Q' L D fz d9 hl ⟨x,y,rfl,Y⟩;apply⟨_,(zdb (pv 0)<|zcl (pv 1)),?_⟩;apply zp6 [G<|.bl x,G<|.bl y] R ?_;trivial;let J:mixL clo H' (dropL clo H')=H':=by
   classical
   funext b;unfold mixL dropL;by_cases U:InCl clo b
   .rw[Xq U]
   .rw[Xp U,Xp U]
  rw[J];cases x with
  |true=>show iteT λ_=>Y
  |false=>show iteF λ_=>Y
 show⟨a,b,fl,mt,i,m2,_,R,l.same gq,tp.same gq,u.same gq,dh.same gq,o1,v,j,ad.up _ _ mn,cl,λO x p H5 r C=>q O x p _ (M.old.trans<|ad.same r)<|C.ts λb xs e=>ad.keep r e (λ_ _ z=>nomatch z),λx e H5 r=>qx x e _<|M.old.trans (ad.same r)⟩
abbrev Vw:Stmt:=top 23
theorem zp1:FnScope ["one","other"] ["one","other"] (defScope Vw):={}
abbrev qs_joined:List (Pos×Str):=[(⟨85,30,85,67⟩,"joined.<locals>.<lambda>")]
include T in
theorem zuo{c Pj o I:Ad}(d:DfnC K mg "joined" Vw ["one","other"] c Pj)(kb:BltK base mg)(Ve:CalE P w K mg base 7 "paired" ["one","other","is_end"]<|zef cTooGreat P w K mg base I qs_reduced o qs_paired):
  CalE P w K mg base 8 "joined" ["one","other"] (zdh cTooGreat K I qs_reduced o qs_paired Pj qs_joined λx y=>x||y):=by
 apply d.calE zp1 07 λf A outer s H vs Q E L h Rq=>?_
 .nofun
 let(a,b,i,m2,rfl,l,tp,tm,u,dh,o1,v,j,q,qx):=h;apply⟨_,(zac<|zag (zcz Rq Ve L 00 01 (λ_=>rfl)<|pa_c (pv 0) (pa_c (pv 1)<|pa_c (zjn (qs:=qs_joined) "joined.<locals>.<lambda>" rfl d.code kb 01 01) zaa))),?_⟩;apply zax [G<|.ref a,G<|.ref b] R ?_;trivial;apply⟨tm,λfl H1 M Hq ad=>?_⟩;let gq:Same H Hq:=M.old.trans ad.up;let(mt,mn):=M.fn;let cl:CloH P w K mg base 2 Hq fl 2 (zfh λx y=>x||y):=by
  apply M.clo_e (own:=["first","second"]) (ps:=["first","second"]) (cap:=[]) (cv:=[]) (k:=1) (Same.refl _) ad ⟨R,R,R,by decide+kernel,R,by decide+kernel,by decide+kernel,by decide+kernel⟩ (y04 _) .nil (λcl ct cd pm=>L2.fit2 λ_ _=>rfl) ?_;rintro clo c' A' g s' H' vs Q' L D fz d9 hl ⟨x,y,rfl,Y⟩;apply⟨_,(zy9 (pv 0)<|zcl (pv 1)),?_⟩;apply zp6 [G<|.bl x,G<|.bl y] R ?_;trivial;let J:mixL clo H' (dropL clo H')=H':=by
   classical
   funext b;unfold mixL dropL;by_cases U:InCl clo b
   .rw[Xq U]
   .rw[Xp U,Xp U]
  rw[J];cases x with
  |true=>show iteT λ_=>Y
  |false=>show iteF λ_=>Y
 show⟨a,b,fl,mt,i,m2,_,R,l.same gq,tp.same gq,u.same gq,dh.same gq,o1,v,j,ad.up _ _ mn,cl,λO x p H5 r C=>q O x p _ (M.old.trans<|ad.same r)<|C.ts λb xs e=>ad.keep r e (λ_ _ z=>nomatch z),λx e H5 r=>qx x e _<|M.old.trans (ad.same r)⟩
abbrev Vo:Stmt:=top 21
theorem zn6:FnScope ["machine"] ["machine"] (defScope Vo):={}
include T in
theorem zoo{Pt:Ad}(d:Dfn K mg "flipped" Vo ["machine"])(Vn:03 5 "reduced" ["machine"]<|zdf Pt qs_reduced):03 6 "flipped" ["machine"] (zeg Pt qs_reduced):=by
 apply d.cal zn6 07 08
 .nofun
 let(a,m,rfl,tab,(b1,Y,rs1,I,g,M,l),ok,q):=h;let hf:m.ends.length<=100:=ok.few;apply⟨_,(zac<|zag (zae Vn hr 00 01<|pa_c (za2<|pa_c (zap (zaf K) (pv 0) zad λ_ _=>rfl) (pa_c (zap (zaf K) (pv 0) zad λ_ _=>rfl)<|pa_c (zbi zaw 01 T.b_tuple iO<|pa_c (zav ["end"] [] (CompOk.of R 01 01) 01 (zbo K<|zap (zaf K) (pv 0) zad (λ_ _=>rfl)) (λ_ _ _ _ _=>(zam (i:=0) (show List.Nodup (["end"]:List Str) by decide+kernel) 01<|Or.inl 01)) (λ_ _ _ _ _=>za9) λ_ _ _ _ _=>(zv1<|pv 0)) zaa) zaa)) zaa)),?_⟩;apply zax [G<|.ref a] R ?_;trivial;apply⟨_,.of I,_,za7,_,.of I,_,zai (j:=1) R,_,.of I,_,zai (j:=2) R,⟨_,.of l⟩,ze3 (K:=K) (a:=Y) (xs:=m.ends.map V.bl) (λσ=>∃v,σ=[v]) (λy=>match y with|.bl x=>.bl (!x)|v=>v) (by rw[y01];omega) (.of l) ⟨_,R⟩ ?_ ?_⟩
 .rintro D i σ H' x hi J O e u L ⟨v,rfl⟩;let(r,o,rfl):=y0j.mp J;trivial;show zb0 (by rw[y01];omega) O u L e ⟨_,R⟩ R
 intro D H1 u g1 eD;let be:H1 D=G (.lst<|(m.ends.map λb=>!b).map V.bl):=by rw[eD,y0u,y0u];rfl
 apply⟨_,R,_,.inl ⟨.of be,λt1 H2 c=>mkT λt2 H3 n3=>?_⟩⟩;let C:=g1.trans<|c.g.trans n3.g;let rt:RepM H3 t2 (turned m):=⟨b1,t1,rs1,n3.at',C _ _ g,L2.Paired.mapP M λ_ _ z=>z.ts C.tups,n3.g _ _ c.at'⟩;show⟨t2,turned m,R,tab.same C,rt,zpl ok,λp m' H4 U rp Rq=>q p m' H4 (C.trans U) rp Rq⟩
abbrev Qg:Stmt:=top 37
theorem zbz:FnScope ["thing","letters"] ["thing","letters"] (defScope Qg):={}
include T in
theorem ok_lf(d:Dfn K mg "is_letter_with_figures" Qg ["thing","letters"]):03 1 "is_letter_with_figures" ["thing","letters"] zwu:=by
 apply d.cal zbz 07 08
 .nofun
 let(x,l,k,rfl,j,hz,q):=h;apply⟨_,(zab (za6 (PW.pt<|ze8 (zdv<|zb4 (za3 zby 01 T.b_isinstance iU<|pa_c (pv 0) (pa_c (zdo (v:=.ty "str") 01 T.b_str boot_str 01) zaa))) (ze8 (zaj zbj (pv 0) zal<|nomark _)<|zdu (zaj zia (za3 zkj 01 T.b_len iA<|pa_c (pv 0) zaa) (zbt 01 T.g_LONGEST_NAME)<|nomark _))) (zac<|zag zf2) zan)<|zac (zag<|zdb (zbh zjt (zap zwd (pv 0) zad λ_ _=>rfl) (pv 1)<|by with_unfolding_all rfl) (zcl<|za3 (zcq K R) 01 T.b_all lG (pa_c (zav ["sign"] [] (CompOk.of R 01 01) 01 (zy7<|zb9 zys (pv 0) (zck zad) zel) (λ_ _ _ _ _=>(zam (i:=0) (show List.Nodup (["sign"]:List Str) by decide+kernel) 01<|Or.inl 01)) (λ_ _ _ _ _=>za9) λ_ _ _ _ _=>(zbh zjt (pv 0) (zbt 01 T.g_FIGURES)<|by with_unfolding_all rfl)) zaa)))),?_⟩;apply zax [G x,G<|.str l] R ?_;trivial;apply⟨k,j,by decide,?_⟩;cases j with
 |str z =>
  let p:=hz z rfl;let hl:=zky z;rw[show(!subT "str" "str")=Fa by decide];trivial;apply ite2 (λc=>?_) λc=>?_
  .let c':=of_decide_eq_true c;subst c';show q H<|Same.refl H
  let c':=of_decide_eq_false<|y0w.mpr c;let ne:z.cps.toList≠[]:=λe=>c'<|ext_toList e;apply⟨by have:=small1000 p;omega,?_⟩;let(c0,r0,M):=List.exists_cons_of_ne_nil ne;let Y:∀H',Same H H'->Q (.bl<|decide (r0.length<=3)&&signIn c0 l&&r0.all λd=>signIn d FIGS) H':=λH' g=>by
   let h:=q H' g;simp only[isNm,nameB,M]at h;show h
  rw[M,y0s]at hl;apply ite2 (λc=>?_) λc=>?_
  .let U:=of_decide_eq_true c;let h:=Y H<|Same.refl H;rw[show decide (r0.length<=3)=Fa by simp;omega,y1q,y1q]at h;show h
  let U:=of_decide_eq_false<|y0w.mpr c;rw[show decide (r0.length<=3)=N by simp;omega,y1d]at Y;apply⟨by have:=small1000 p;omega,c0,by rw[M];show za7,?_⟩;apply ite2 (λc=>?_) λc=>?_
  .rw[show signIn c0 l=N from c,y1d]at Y;let r:(Txt.slice z (G 1) B).cps.toList=r0:=by
    rw[zpw,show((1:Int))=((1:Nat):Int)from rfl,zcp,M];rfl
   let y:(Txt.slice z (G 1) B).cps.size=r0.length:=by rw[←r];simp
   apply⟨by have:=small1000 p;omega,?_⟩;apply cb_str (λD i ys σ H'=>Same H H'/\(∃v,σ=[v])/\ys=(r0.take i).map λd=>V.bl<|signIn d FIGS) (by rw[y];show y1x<|small1000 00) (λD u=>⟨za4 u _,⟨B,R⟩,R⟩) ?_ ?_
   .rintro D i ys σ H' d u hi hd L a ⟨g,⟨v,rfl⟩,rfl⟩;trivial;apply cstep (by rw[y];show y1x<|small1000 00) hi L a ⟨λb o e=>?_,⟨_,R⟩,?_⟩
    .rw[zak<|zas e u];show g b o e
    .rw[y]at hi;let J:r0[i]?=G d:=by rw[←r];simpa using hd
     rw[y1h,J,y13];rfl
   .rintro D ys σ H' u L a ⟨g,_,rfl⟩;rw[y,y0i<|y04 _]at L;apply⟨r0.map λd=>signIn d FIGS,.of (by rw[L,y0u];rfl),?_⟩;let h:=Y H' g;rw[y3m];show h
  .let h:=Y H<|Same.refl H;rw[show signIn c0 l=Fa from y0w.mpr c,y1q]at h;show h
 |non=>show q H<|Same.refl H
 |bl b=>show q H<|Same.refl H
 |int i=>show q H<|Same.refl H
 |lst e=>show q H<|Same.refl H
 |tup e=>show q H<|Same.refl H
 |dK e=>show q H<|Same.refl H
abbrev K6:Stmt:=top 38
theorem zla:FnScope ["thing"] ["thing"] (defScope K6):={}
include T in
theorem zul(d:Dfn K mg "is_place" K6 ["thing"])(a:03 1 "is_letter_with_figures" ["thing","letters"] zwu):03 2 "is_place" ["thing"] (zhv SMALL):=by
 apply d.cal zla 07 08
 .nofun
 let(x,k,rfl,D,hz,q):=h;apply⟨_,(zac<|zag (zae a hr 00 01<|pa_c (pv 0) (pa_c (zbt 01 T.g_SMALL_LETTERS) zaa))),?_⟩;apply zax [G x] R ?_;trivial;show⟨x,SMALL,k,R,D,hz,q⟩
abbrev Vs:Stmt:=top 39
theorem zp2:FnScope ["thing"] ["thing"] (defScope Vs):={}
include T in
theorem ok_set(d:Dfn K mg "is_set" Vs ["thing"])(a:03 1 "is_letter_with_figures" ["thing","letters"] zwu):03 2 "is_set" ["thing"] (zhv GREAT):=by
 apply d.cal zp2 07 08
 .nofun
 let(x,k,rfl,D,hz,q):=h;apply⟨_,(zac<|zag (zae a hr 00 01<|pa_c (pv 0) (pa_c (zbt 01 T.g_GREAT_LETTERS) zaa))),?_⟩;apply zax [G x] R ?_;trivial;show⟨x,GREAT,k,R,D,hz,q⟩
abbrev Va:Stmt:=top 40
theorem zn4:FnScope ["thing"] ["thing"] (defScope Va):={}
include T in
theorem ok_nm(d:Dfn K mg "is_name" Va ["thing"])(e:03 2 "is_place" ["thing"]<|zhv SMALL)(g:03 2 "is_set" ["thing"]<|zhv GREAT):03 3 "is_name" ["thing"] ztj:=by
 apply d.cal zn4 07 08
 .nofun
 let(x,rfl,((k,D),hz),q):=h;apply⟨_,(zac<|zag (zy9 (zae e hr 00 01<|pa_c (pv 0) zaa)<|zcl (zae g hr 00 01<|pa_c (pv 0) zaa))),?_⟩;apply zax [G x] R ?_;trivial;apply⟨x,k,R,D,hz,λH1 g1=>⟨_,R,ite2 (λc=>?_) λc=>⟨x,k,R,D.same g1,hz,λH2 U=>?_⟩⟩⟩
 .let h:=q H1 g1;rw[show isName x=N by unfold isName;rw[c,Bool.true_or]]at h;show h
 .let h:=q H2<|g1.trans U;rw[show isName x=isNm x GREAT by unfold isName;rw[y0w.mpr c,y4v]]at h;show h
abbrev K5:Stmt:=top 41
theorem zlb:FnScope ["thing"] ["thing"] (defScope K5):={}
include T in
theorem zur(d:Dfn K mg "is_frame" K5 ["thing"])(Y:03 3 "is_name" ["thing"] ztj):03 4 "is_frame" ["thing"] zww:=by
 apply d.cal zlb 07 08
 .nofun
 let(x,rfl,((k,hk),hz),M,q):=h;apply⟨_,(zab (za6 (PW.pt<|ze8 (zdv<|zb4 (za3 zby 01 T.b_isinstance iU<|pa_c (pv 0) (pa_c (zdo (v:=.ty "list") 01 T.b_list boot_list 01) zaa))) (zdu<|zaj zia (za3 (zau K) 01 T.b_len iA<|pa_c (pv 0) zaa) (zbt 01 T.g_MOST_NAMES) (nomark _))) (zac<|zag zf2) zan)<|zac (zag<|zdb (za3 (zcq K R) 01 T.b_all lG<|pa_c (zav ["name"] [] (CompOk.of R 01 01) 01 (za8 K<|pv 0) (λ_ _ _ _ _=>(zam (i:=0) (show List.Nodup (["name"]:List Str) by decide+kernel) 01<|Or.inl 01)) (λ_ _ _ _ _=>za9) λ_ _ _ _ _=>(zae Y hr 00 01<|pa_c (pv 0) zaa)) zaa) (zcl<|zbh zbj (za3 ziu 01 T.b_len iA<|pa_c (zbi (zkf R) 01 T.b_set boot_set<|pa_c (pv 0) zaa) zaa) (za3 (zau K) 01 T.b_len iA<|pa_c (pv 0) zaa) (nomark _)))),?_⟩;apply zax [G x] R ?_;trivial;apply⟨k,hk,by decide,?_⟩;cases hk with
 |lst e =>
  rename_i a xs;let(hl,C):=M a xs R e;let j:SqL K H a xs:=.of e;let p:frB H (.ref a)=frameB xs:=by simp only[frB,e]
  rw[p]at q;apply iteF ⟨xs,.inl j,?_⟩;apply ite2 (λc=>?_) λc=>⟨⟨xs,j⟩,?_⟩
  .let c':=of_decide_eq_true c;let h:=q H<|Same.refl H;rw[show frameB xs=Fa by unfold frameB;rw[Xf 00,y1q,y1q]]at h;show h
  let c':=of_decide_eq_false<|y0w.mpr c;let l:frameB xs=(xs.all isName&&decide xs.Nodup):=by unfold frameB;rw[Xg 00,y1d]
  rw[l]at q;apply ziq (K:=K) (a:=a) (xs:=xs) (λD i ys σ H'=>Same H H'/\(∃v,σ=[v])/\ys=(xs.take i).map λy=>V.bl<|isName y) (zah hl) (λD u=>⟨za4 u _,⟨B,R⟩,R⟩) (λD i ys σ H' _ _ _ ⟨g,_⟩=>g.seq j) ?_ ?_
  .rintro D i ys σ H' y u hi O L hys ⟨g,⟨v,rfl⟩,rfl⟩;trivial;apply⟨y,R,(C y<|y0l O).same g,λH2 U=>?_⟩;apply cstep (zah hl) hi (U _ _ L) hys ⟨λb o e=>?_,⟨_,R⟩,?_⟩
   .rw[zak<|zas e u];show U b o<|g b o e
   .rw[y1h,O,y13];rfl
  .rintro D ys σ H' u L hys ⟨g,_,rfl⟩;rw[y0i<|y04 _]at L;apply⟨xs.map isName,.of (by rw[L,y0u];rfl),?_⟩;rw[y3m,show(id∘isName)=isName from rfl];apply ite2 (λca=>?_) λca=>?_
   .let(ks,I,J):=zhg ca;let lk:ks.length=xs.length:=by rw[I,y01]
    apply⟨a,R,ks,I▸g.seq j,by omega,λb H3 r=>⟨ks,r.at',by omega,xs,.inl<|r.g.seq (g.seq j),?_⟩⟩;let h:=q _<|g.trans r.g;rw[ca,y1d]at h;let ed:decide xs.Nodup=decide (((onceK [] ks).length:Int)=(xs.length:Int)):=by
     apply decide_eq_decide.mpr ?_;rw[J,←zq0,lk];omega
    rw[ed]at h;show h
   .let h:=q H' g;rw[y0w.mpr ca,y1q]at h;show h
 |non=>show q H<|Same.refl H
 |bl b=>show q H<|Same.refl H
 |int i=>show q H<|Same.refl H
 |str z=>show q H<|Same.refl H
 |tup e =>
  let h:=q H<|Same.refl H;simp only[frB,e]at h;show h
 |dK e =>
  let h:=q H<|Same.refl H;simp only[frB,e]at h;show h
include T in
theorem zju(d:Dfn K mg "renamed" Q1 ["rooms","numbers"]):03 1 "renamed" ["rooms","numbers"] (zeu K):=by
 apply d.cal zeh 07 08
 .nofun
 let(a,b,l,line,rfl,I,g,M,U,q):=h;apply⟨_,(zac<|zag (zbi zaw 01 T.b_tuple iO<|pa_c (zav ["room"] [(1,"numbers")] (CompOk.of R 01 01) 01 (za8 K<|pv 0) (λ_ _ _ _ _=>(zam (i:=0) (show List.Nodup (["room","numbers"]:List Str) by decide+kernel) 01<|Or.inl 01)) (λ_ _ _ _ _=>za9) λ_ _ _ _ _=>(zap (zaf K) (pv 1) (pv 0) λ_ _=>rfl)) zaa)),?_⟩;apply zax [G<|.ref a,G<|.ref b] R ?_;trivial;apply⟨⟨_,.of I⟩,zss (K:=K) (a:=a) (xs:=l.map nV) (λσ=>∃v,σ=[v,G<|.ref b]) (λy=>match y with|.int z=>nV (line.getD z.toNat 0)|v=>v) (by rw[y01];omega) (.of I) ⟨_,R⟩ ?_ ?_⟩
 .rintro D i σ H' x hi J O e u L ⟨v,rfl⟩;let(r,o,rfl):=y0j.mp J;let z:atI (line.map nV) (r:Int)=G (nV<|line.getD r 0):=zai (by rw[y05,y02,y00<|U r o];rfl);trivial;show⟨_,M _,_,z,zb0 (by rw[y01];omega) O u L e ⟨_,R⟩ R⟩
 intro D H1 u g1 j;let p:H1 D=G (.lst<|(l.map λx=>line.getD x 0).map nV):=by rw[j,y0u,y0u];rfl
 show⟨_,R,_,.inl ⟨.of p,λt H2 c=>q t H2 (g1.trans c.g) c.at'⟩⟩
abbrev Km:Stmt:=top 24
theorem zjd:FnScope ["letter","tracks"] ["letter","tracks"] (defScope Km):={}
include T in
theorem zln(d:Dfn K mg "letter_of" Km ["letter","tracks"]):03 1 "letter_of" ["letter","tracks"] zfr:=by
 apply d.cal zjd 07 08
 .nofun
 let(l,a,ts,rfl,D,ea,h5,h4,q):=h;apply⟨_,(zac<|zag (za3 (zd7 K R) 01 T.b_sum boot_sum<|pa_c (zav ["number","track"] [(0,"letter")] (CompOk.of R 01 01) 01 (zh6 K 01 T.b_enumerate<|pa_c (pv 1) zaa) (λ_ _ _ _ _=>(zdn K (n:=2) R<|zba (zam (i:=0) (show List.Nodup (["number","track","letter"]:List Str) by decide+kernel) 01<|Or.inl 01) (zba (zam (i:=1) (show List.Nodup (["number","track","letter"]:List Str) by decide+kernel) 01<|Or.inl 01) zdm))) (λ_ _ _ _ _=>za9) λ_ _ _ _ _=>(zay zjq (zay op_and (zay zv2 (pv 2)<|pv 1) zad)<|pv 0)) zaa)),?_⟩;apply zax [G<|nV l,G<|.ref a] R ?_;trivial;apply⟨⟨_,.of ea⟩,zgr (n:=ts.length) (λσ=>∃v u,σ=[v,u,G<|nV l]) (λj y H=>∃t,ts[j]?=G t/\y=.int (Builtin.bitAnd ((l:Int)/2^t) 1*2^j)) 00 ⟨_,_,R⟩ (λi H' hi gg=>⟨_,nV<|ix ts i,.of<|gg _ _ ea,by rw[y05,zcc hi];rfl⟩) (λH' gg=>⟨_,.of<|gg _ _ ea,by rw[y01];show y04 _⟩) ?_ ?_⟩
 .rintro D' i ys σ H2 x Y hi gg M r hl C ⟨v,u,rfl⟩ O;apply atom λzG zk=>?_;let(p,L,rfl,I,ex):=zmj (.of<|gg _ _ ea) O;apply zk ?_;rw[y05,zcc hi]at ex;cases ex;let h4':=h4 _<|zd2 hi;trivial;let hbs:=(zs1 l D (ix ts i) 00).2;apply⟨_,.of I.at',R,_,_,R,_,_,R,R,by omega,⟨by omega,by omega,y21 hbs 04⟩,?_⟩;show zb1 (Gq:=λj y H=>∃t,ts[j]?=G t/\y=.int (Builtin.bitAnd ((l:Int)/2^t) 1*2^j)) (λj y H H' _ z=>z) 00 hi M (I.g _ _ r) hl C I.g.tups (gg.trans I.g) ⟨_,_,R⟩ ⟨ix ts i,zcc hi,R⟩
 intro D2 ys H2 r U c cr g;let J:ys=(loL (l:Int) ts 0).map V.int:=by
  apply y38 λj=>?_;rw[y05,zv8];by_cases o:j<ys.length
  .let(t,et,e):=g j _<|y00 o;rw[y00 o,e,et,y3k];rfl
  .rw[y1c 00,y1c 00];rfl
 subst J;rw[←zrm]at q;show⟨_,R,_,.of c,q H2 U⟩
abbrev Vu:Stmt:=top 25
theorem Td:FnScope ["machine","tracks","width","seen"] ["machine","tracks","width"] (defScope Vu):={}
include T in
theorem zof(d:Dfn K mg "spread" Vu ["machine","tracks","width"])(Tz:03 1 "letter_of" ["letter","tracks"] zfr)(Ql:03 1 "renamed" ["rooms","numbers"]<|zeu K):03 2 "spread" ["machine","tracks","width"] (zed K):=by
 apply d.cal Td 07 08
 .nofun
 let(a,b,m,ts,W,f,rfl,(b1,Y,ls,I,b9,pr,ck),ok,M,h5,h4,hW,hf,q):=h;let fu:=zbr hW;let hp2:(1:Int)*2^((W:Nat):Int).toNat=((2^W:Nat):Int):=by rw[Int.one_mul,zqc];rfl
 let hfew:=ok.few;apply⟨_,(zab (zao (i:=3) Td.nd R (Or.inr R)<|zav ["letter"] [(1,"tracks")] (CompOk.of R 01 01) 01 (zf0 01 T.b_range<|pa_c (zay zjq zad<|pv 2) zaa) (λ_ _ _ _ _=>(zam (i:=0) (show List.Nodup (["letter","tracks"]:List Str) by decide+kernel) 01<|Or.inl 01)) (λ_ _ _ _ _=>za9) (λ_ _ _ _ _=>(zae Tz hr 00 01<|pa_c (pv 0) (pa_c (pv 1) zaa))))<|zac (zag<|za2 (pa_c (pv 2)<|pa_c (zbi zaw 01 T.b_tuple iO<|pa_c (zav ["ways"] [(3,"seen")] (CompOk.of R 01 01) 01 (zbo K<|zap (zaf K) (pv 0) zad (λ_ _=>rfl)) (λ_ _ _ _ _=>(zam (i:=0) (show List.Nodup (["ways","seen"]:List Str) by decide+kernel) 01<|Or.inl 01)) (λ_ _ _ _ _=>za9) λ_ _ _ _ _=>(zae Ql hr 00 01<|pa_c (pv 1) (pa_c (pv 0) zaa))) zaa) (pa_c (zap (zaf K) (pv 0) zad λ_ _=>rfl) zaa)))),?_⟩;apply zax [G<|.ref a,G<|.ref b,G<|nV W,B] R ?_;trivial;apply⟨⟨by omega,by omega,by decide⟩,by rw[hp2];omega,by rw[hp2];omega,?_⟩;rw[hp2,show((2^W:Nat):Int).toNat=2^W from rfl];apply zwi (λσ=>∃v,σ=[v,G<|.ref b]) (λi=>nV<|f i) 00 ⟨_,R⟩ ?_ ?_
 .rintro D i σ H' hi e u L ⟨v,rfl⟩;trivial;apply⟨i,b,ts,by rw[Int.zero_add],by omega,e _ _ M,h5,h4,λH2 U=>zsp 00 hi u (U _ _ L) (e.trans U) ⟨_,R⟩ ?_⟩;rw[(hf i hi).1]
 intro D1 H1 dy g1 mi;let eD1':H1 D1=G (.lst<|((List.range<|2^W).map f).map nV):=by rw[mi,y0u];rfl
 let d4:ls.length=m.ways.length:=SS.Paired.len pr;let f9:=ok.len;apply⟨_,I _,_,zai (j:=1) R,⟨_,b9 _⟩,zgr (n:=ls.length) (λσ=>∃v,σ=[v,G<|.ref D1]) (λj y H=>Line H y<|(List.range<|2^W).map λl=>(m.ways.getD j []).getD (f l) 0) 00 ⟨_,R⟩ (λi H' hi e=>⟨_,_,b9 _,by rw[y05,y00 hi];rfl⟩) (λH' e=>⟨_,b9 _,by rw[y01];show y04 _⟩) ?_ ?_⟩
 .rintro D i ys σ H2 x H2' hi e u L hl C ⟨v,rfl⟩ ⟨rfl,yx⟩;let ex:=yx _<|b9 _;let hi':i<m.ways.length:=by omega
  let(a2,ev,e4):=Paired.at2 pr<|y00 hi';rw[y05,ev]at ex;cases ex;let cw:=ok.line _<|y0n hi';let eg:m.ways.getD i []=m.ways[i]:=by rw[y02,y00 hi'];rfl
  trivial;apply⟨D1,a2,(List.range<|2^W).map f,m.ways[i],R,e _ _ eD1',by rw[y01,y16];omega,e4,λx O=>?_,λp H3 c e3=>?_⟩
  .let(l,hl,rfl):=y0j.mp O;rw[cw];show(hf l<|y0z.mp hl).2
  apply zb1 (λj y H H' ts z=>z.ts ts) 00 hi u (c _ _ L) hl C c.tups (e.trans c) ⟨_,R⟩ ⟨p,R,?_⟩;rw[e3,eg];simp only[y0u];rfl
 intro D2 ys H2 cg U bi cr e8;apply⟨_,R,_,.inl ⟨.of bi,λt1 H3 r=>⟨_,I _,_,zai (j:=2) R,mkT λt2 H4 n4=>?_⟩⟩⟩;let dg:Same H2 H4:=r.g.trans n4.g;let nv:Same H H4:=g1.trans<|U.trans dg;apply q t2 H4 nv ⟨t1,Y,ys,n4.at',n4.g _ _ r.at',zbs (by rw[cr,d4];show(y01 _).symm) λj y l J g=>?_,Or.inr ck⟩;let o:j<m.ways.length:=by rw[←d4,←cr];show(y09.mp J).1
 let am:G ((List.range<|2^W).map λl=>(m.ways.getD j []).getD (f l) 0)=G l:=by
  rw[←g];change _=(m.ways.map λline=>(List.range<|2^W).map λl=>line.getD (f l) 0)[j]?;rw[y05,y00 o,y02,y00 o];rfl
 cases am;show(e8 j y J).ts dg.tups
abbrev Q9:Stmt:=top 64
theorem Qj:FnScope ["frame","machine","track","name"] ["frame"] (defScope Q9):={}
include T in
theorem zus{u o Pm:Ad}(d:Dfn K mg "fitting_of" Q9 ["frame"])(Qx:03 2 "is_place" ["thing"]<|zhv SMALL)(Kr:03 2 "spread" ["machine","tracks","width"]<|zed K)(Vq:03 8 "met" ["one","other"]<|zk1 K u qs_reduced o qs_paired Pm qs_met λx y=>x&&y):03 9 "fitting_of" ["frame"] (zff K u qs_reduced o qs_paired Pm qs_met):=by
 apply d.cal Qj 07 08
 .nofun
 let(a,names,rfl,tr,L,tm,I,fo,q):=h;let h4:=fo.1;apply⟨_,(zab (zao (i:=1) Qj.nd R (Or.inl R)<|zae Kr hr 00 01 (pa_c (zbt 01 T.g_ANY_ROW)<|pa_c (zaq zaa) (pa_c (za3 (zau K) 01 T.b_len iA<|pa_c (pv 0) zaa) zaa)))<|zab (zey PassesOwn.never R (zh6 K 01 T.b_enumerate<|pa_c (pv 0) zaa) (zdn K (n:=2) R<|zba (zam (i:=2) Qj.nd 01<|Or.inl 01) (zba (zam (i:=3) Qj.nd 01<|Or.inl 01) zdm))<|zac (za6 (zb4<|zae Qx hr 00 01 (pa_c (pv 3) zaa)) (zac<|zao (i:=1) Qj.nd R (Or.inl R) (zae Vq hr 00 01<|pa_c (pv 1) (pa_c (zae Kr hr 00 01<|pa_c (zbt 01 T.g_JUST_ONCE) (pa_c (zaq<|pa_c (pv 2) zaa)<|pa_c (za3 (zau K) 01 T.b_len iA<|pa_c (pv 0) zaa) zaa)) zaa))) zan)) (zac<|zag (pv 1))),?_⟩;apply zax [G<|.ref a,B,B,B] R ?_;trivial;let bl:=znr names;let h01:∀l:Nat,l<2^names.length->(λ_:Nat=>0) l<2^anyM.w:=λl _=>(by decide:(0:Nat)<2^anyM.w);apply mkT λY H0 n0=>⟨_,.inl<|.of (n0.g _ _ I),?_⟩;rw[y01];apply⟨ca,Y,anyM,[],names.length,λ_=>0,R,T.c_ANY_ROW,zs6,n0.at',by decide,(λt h=>nomatch h),h4,(λl hl=>⟨R,h01 l hl⟩),λpm0 H1 g1 r1=>⟨⟨_,.of<|(n0.g.trans g1) _ _ I⟩,?_⟩⟩;let J:=(n0.g.trans g1) _ _ I;let ok0:(sprd anyM (λ_=>0) names.length).Ok:=zkz zs6 h4 h01;apply zya (K:=K) (a:=a) (xs:=names.map V.str) (λi σ H'=>Same H1 H'/\∃(p:Ad) (m:Mc) (e v3:Option V),σ=[G<|.ref a,G<|.ref p,e,v3]/\RepMK K H' p m/\m.Ok/\Canon m/\m.w=names.length/\∀row,m.Row row->m.fin (m.run 0 row)=fitP (psOf<|sofar (bsOf names) i) row)
  ⟨Same.refl _,pm0,_,B,B,R,r1,ok0,zgs ok0 R,R,λrow hr=>?_⟩ (λi σ H' _ z=>.of<|z.1 _ _ J) ?_ ?_
 .rw[zr5,zfd (W:=names.length) zs6 h01 row 0 04 hr,zs5 _ λl hl=>(y0j.mp hl).elim λx O=>O.2.symm];rfl
 .rintro i y σ H' pt H4 C ⟨g,p,m,e,v3,rfl,v,ok,cn,j,c⟩ n4;rw[y05]at C;let(z,ez,rfl):=y1m.mp C;let hi:=(y09.mp ez).1;let bz:=zyi ez;trivial;apply⟨_,.of n4.at',R,_,_,R,_,_,R,R,.str z,_,R,.str z,(λD ez'=>by injection ez' with ez';subst ez';show zuz<|fo.2 z (y0l ez)),λH5 r=>?_⟩;let U:Same H' H5:=n4.g.trans r;let hv:isNm (.str z) SMALL=isP z:=rfl;rw[hv];cases hP:isP z with
  |false =>
   rw[hP]at bz;apply itO ⟨g.trans U,m,v.same U,ok,cn,j,λrow hr=>?_⟩;rw[zr4 (by rw[bl];show hi) bz];show c row hr
  |true =>
   rw[hP]at bz;let n17:=zr3 (bs:=sofar (bsOf names) i) (by rw[zci,bl];show h4) cn c;apply itB<|mkT λp6 H6 M=>⟨_,.inl<|.of ((g.trans<|U.trans M.g) _ _ J),?_⟩;rw[y01];let ny:∀l:Nat,l<2^names.length->loI (l:Int) [i] 0=(bitN i l:Int)/\bitN i l<2^justM.w:=λl hl=>⟨bit_lo i 00 l (by have:=zbr h4;omega),y46 _ 04⟩;apply⟨cj,p6,justM,[i],names.length,bitN i,R,T.c_JUST_ONCE,zl0,M.at',by simp,(λt h=>by rw[y0b.mp h];omega),h4,ny,λp7 H7 g7 r7=>?_⟩;let g07:Same H H7:=n0.g.trans<|g1.trans (g.trans<|U.trans (M.g.trans g7));let ok7:(sprd justM (bitN i) names.length).Ok:=zkz zl0 h4 λl hl=>(ny l hl).2;apply⟨p,p7,m,_,R,tr.same g07,L.same g07,tm.same g07,v.same<|U.trans (M.g.trans g7),r7,ok,ok7,j,?_,λp8 m8 H8 g8 r8 ok8 w8 cn8 tk8=>?_⟩
   .let:(sprd justM (bitN i) names.length).n=3:=rfl;rw[this];omega
   .refine⟨g.trans<|U.trans (M.g.trans<|g7.trans g8),p8,R,m8,r8.k,ok8,cn8,w8.trans j,λrow hr=>?_⟩;let b8:m.Row row:=λl hl=>by rw[←w8];show hr l hl
    rw[tk8 row b8,c row b8,zr6 (by rw[bl];show hi) bz,zfd zl0 (λl hl=>(ny l hl).2) row 0 04 λl hl=>by rw[←j];show b8 l hl];change(_&&justM.fin _)=_;rw[zow]
 .rintro σ H' ⟨g,p,m,e,v3,rfl,v,ok,cn,j,c⟩;trivial;apply q p m H' (n0.g.trans<|g1.trans g) v ⟨ok,cn,j,λrow hr=>?_⟩;rw[c row hr,y01,←bl,zpu]
abbrev Qq:Stmt:=top 48
theorem zh3:FnScope ["thing","sort","deepest"] ["thing","sort","deepest"] (defScope Qq):={}
theorem zq2{n k:Nat}(D:3<=k)(T:Txt K mg w tw rw fa cj ca ce co cn cTooGreat)(d:Dfn K mg "is_of_sort" Qq ["thing","sort","deepest"])(e:03 2 "is_place" ["thing"]<|zhv SMALL)(g:03 2 "is_set" ["thing"]<|zhv GREAT)(Y:03 3 "is_name" ["thing"] ztj)
  (l:03 k "has_form" ["thing","deepest"]<|zhz n):03 (k+1) "is_of_sort" ["thing","sort","deepest"] (zk0 n):=by
 apply d.cal zh3 07 08
 .nofun
 let(v,i,rfl,ex,q):=h;let((kd,a),hz):=ex.thing;let J:∀b:Str,decide (V.str i=V.str b)=decide (i=b):=λb=>by simp
 apply⟨_,(zab (za6 (zaj zbj (pv 1) zal<|nomark _) (zac<|zag (zae e hr 00 01<|pa_c (pv 0) zaa)) zan)<|zab (za6 (zaj zbj (pv 1) zal<|nomark _) (zac<|zag (zae g hr 00 01<|pa_c (pv 0) zaa)) zan) (zab (za6 (zaj zbj (pv 1) zal<|nomark _) (zac<|zag (zae Y hr 00 01<|pa_c (pv 0) zaa)) zan)<|zac (zag<|zae l hr 00 01 (pa_c (pv 0)<|pa_c (pv 2) zaa)))),?_⟩;apply zax [G v,G<|.str i,G<|.int n] R ?_;trivial;unfold sortB at q;apply ite2 (λc=>?_) λc=>?_
 .rw[Xq<|of_decide_eq_true c]at q;show⟨v,kd,R,a,hz,q⟩
 rw[Xp<|of_decide_eq_false (y0w.mpr c)]at q;apply ite2 (λc=>?_) λc=>?_
 .rw[Xq<|of_decide_eq_true c]at q;show⟨v,kd,R,a,hz,q⟩
 rw[Xp<|of_decide_eq_false (y0w.mpr c)]at q;apply ite2 (λc=>?_) λc=>?_
 .rw[Xq<|of_decide_eq_true c]at q;show⟨v,R,⟨⟨kd,a⟩,hz⟩,q⟩
 rw[Xp<|of_decide_eq_false (y0w.mpr c)]at q;show⟨v,R,ex,q⟩
abbrev Q8:Stmt:=top 49
theorem Vr:FnScope ["thing","deepest","sorts"] ["thing","deepest"] (defScope Q8):={}
include T in
theorem zq6{n k:Nat}(d:Dfn K mg "has_form" Q8 ["thing","deepest"])(Tm:03 k "is_of_sort" ["thing","sort","deepest"]<|sp_sort' n):03 (k+1) "has_form" ["thing","deepest"] (zhz n):=by
 apply d.cal Vr 07 08
 .nofun
 let(v,rfl,ex,q):=h;apply⟨_,(zab (za6 (PW.pt<|ze8 (zaj zbj (pv 1) zad<|nomark _) (ze8 (zdv<|zb4 (za3 zby 01 T.b_isinstance iU<|pa_c (pv 0) (pa_c (zdo (v:=.ty "tuple") 01 T.b_tuple iO 01) zaa)))<|zdu (zaj zbj (za3 (zau K) 01 T.b_len iA<|pa_c (pv 0) zaa) zad<|nomark _))) (zac<|zag zf2) zan)<|zab (za6 (PW.pt<|ze8 (zdv<|zb4 (za3 zby 01 T.b_isinstance iU<|pa_c (zap (zaf K) (pv 0) zad λ_ _=>rfl) (pa_c (zdo (v:=.ty "str") 01 T.b_str boot_str 01) zaa))) (zdu<|zaj (zjr K w) (zap (zaf K) (pv 0) zad λ_ _=>rfl) (zbt 01 T.g_FORMS) (by with_unfolding_all rfl))) (zac<|zag zf2) zan) (zab (zao (i:=2) Vr.nd R (Or.inl R)<|zap (ix_dct K w) (zbt 01 T.g_FORMS) (zap (zaf K) (pv 0) zad λ_ _=>rfl) (λ_ _=>rfl))<|zab (za6 (zaj zzd (za3 (zau K) 01 T.b_len iA<|pa_c (pv 0) zaa) (zay zf5 zad<|za3 (zau K) 01 T.b_len iA (pa_c (pv 2) zaa))<|nomark _) (zac<|zag zf2) zan) (zac<|zag (za3 (zcq K R) 01 T.b_all lG<|pa_c (zav ["part","sort"] [(1,"deepest")] (CompOk.of R 01 01) 01 (zxd K 01 T.b_zip<|pa_c (zb9 (zk5 K) (pv 0) (zck zad) zel) (pa_c (pv 2) zaa)) (λ_ _ _ _ _=>(zdn K (n:=2) R<|zba (zam (i:=0) (show List.Nodup (["part","sort","deepest"]:List Str) by decide+kernel) 01<|Or.inl 01) (zba (zam (i:=1) (show List.Nodup (["part","sort","deepest"]:List Str) by decide+kernel) 01<|Or.inl 01) zdm))) (λ_ _ _ _ _=>za9) λ_ _ _ _ _=>(zae Tm hr 00 01<|pa_c (pv 0) (pa_c (pv 1)<|pa_c (zay zdc (pv 2) zad) zaa))) zaa)))),?_⟩;apply zax [G v,G<|.int n,B] R ?_;trivial;cases n with
 |zero =>
  show itT (show((0:Nat):Int)=0 from rfl)<|q H (Same.refl H)
 |succ n =>
 rw[Xf<|show¬((n+1:Nat):Int)=0 by omega];apply atom λC o=>?_;let(((kd,hkd),hz),d7):=id ex;apply o ?_;apply iteF ⟨kd,hkd,by decide,?_⟩;cases hkd with
 |tup e =>
  rename_i a xs;let(hl,O):=d7 a xs R e;let j:SqT K H a xs:=.of e;apply iteF ⟨xs,.inr j,?_⟩;cases xs with
  |nil =>
   let h:=q H<|Same.refl H;simp only[formH,e]at h;show iteT h
  |cons x0 r =>
  rw[Xf<|show¬(((x0::r).length:Nat):Int)=0 by rw[y0s];omega];apply atom λC o=>?_;let((k0,hk0),_):=(O x0 y0c).thing;apply o ?_;apply iteF<|ixm j za7 ⟨k0,hk0,by decide,?_⟩;cases hk0 with
  |str wd =>
   let Y:∀H',Same H H'->Q (.bl<|match forms.lookup wd with|some M=>zipB (formH H n) r M|none=>Fa) H':=λH' g=>by
    let h:=q H' g;simp only[formH,e]at h;show h
   let(fm,hd,hf):=T.f_FORMS.ex;apply iteF<|ixm j za7 ⟨wd,R,fm,hd,?_⟩;rcases hf wd with⟨M,b,f7,hfw,bu⟩|⟨f7,hfw⟩
   .rw[f7]at Y;replace Y:∀H',Same H H'->Q (.bl<|zipB (formH H n) r M) H':=Y;rw[hfw];apply iteF<|ixm j za7 ⟨wd,R,fm,hd,.ref b,hfw,_,.inr j,_,.inr<|bu H,?_⟩;rw[y0s,y01];by_cases c:r.length=M.length
    .rw[Xg<|show(((r.length+1:Nat)):Int)=1+(M.length:Int) by omega];apply iteF ⟨_,j,zfx (by simp),λp H1 I=>?_⟩;let ec:cutL (V.str wd::r) (G 1) B=r:=by
      rw[show((1:Int))=((1:Nat):Int)from rfl,zcp];rfl
     rw[ec]at I;let lr:r.length<=1000:=by rw[y0s]at hl;omega
     apply⟨b,R,⟨_,.of I.at'⟩,⟨_,bu H1⟩,cz_map (K:=K) (a:=p) (b:=b) (xs:=r) (ys:=M.map V.str) (λσ=>∃v1 v2,σ=[v1,v2,G<|.int ((n+1:Nat):Int)]) (λi=>.bl<|sortB (formH H n) (r.getD i .non) (M.getD i "")) lr (by rw[y01];show c) (.of I.at') (bu H1) ⟨_,_,R⟩ ?_ ?_⟩
     .rintro D i σ Gq G' pp x y ex1 ey1 g u L ⟨v1,v2,rfl⟩ nw;rw[y05]at ey1;let(sx,l,rfl):=y1m.mp ey1;let hi:i<r.length:=(y09.mp ex1).1;let mx:x∈r:=y0l ex1;let gx:Same H G':=I.g.trans<|g.trans nw.g;let exx:=O x<|y0a _ mx;trivial;apply⟨_,.of nw.at',R,_,_,R,_,_,R,R,?_⟩;let en:(((n+1:Nat):Int)-1)=(n:Int):=by omega
      rw[en];apply⟨x,sx,R,exx.same gx,λG2 U=>zl4 lr hi u (U _ _<|nw.g _ _ L) (g.trans<|nw.g.trans U) ⟨_,_,R⟩ ?_⟩;let J:r.getD i .non=x:=by rw[y02,ex1];rfl
      let e2:M.getD i ""=sx:=by rw[y02,l];rfl
      rw[J,e2];unfold sortB;rw[zer gx exx]
     .intro D Gq u g eD;apply⟨(List.range r.length).map λi=>sortB (formH H n) (r.getD i .non)<|M.getD i "",.of (by rw[eD,y0u];rfl),?_⟩;let h:=Y Gq<|I.g.trans g;rw[zgu c]at h;rw[y3m];show h
    .rw[Xf<|show¬(((r.length+1:Nat)):Int)=1+(M.length:Int) by omega];let h:=Y H<|Same.refl H;rw[zmi c]at h;show iteT h
   .rw[f7]at Y;rw[hfw];show iteT<|Y H (Same.refl H)
  |_ =>
   let h:=q H<|Same.refl H;simp only[formH,e]at h;show iteT h
 |non=>show iteT<|q H (Same.refl H)
 |bl b=>show iteT<|q H (Same.refl H)
 |int i=>show iteT<|q H (Same.refl H)
 |str z=>show iteT<|q H (Same.refl H)
 |lst e =>
  let h:=q H<|Same.refl H;simp only[formH,e]at h;show iteT h
 |dK e =>
  let h:=q H<|Same.refl H;simp only[formH,e]at h;show iteT h
theorem znt(T:Txt K mg w tw rw fa cj ca ce co cn cTooGreat)(p:Dfn K mg "is_of_sort" Qq ["thing","sort","deepest"])(I:Dfn K mg "has_form" Q8 ["thing","deepest"])(e:03 2 "is_place" ["thing"]<|zhv SMALL)(f:03 2 "is_set" ["thing"]<|zhv GREAT)(a:03 3 "is_name" ["thing"] ztj):
  ∀n,03 (2*n+4) "has_form" ["thing","deepest"] (zhz n)/\03 (2*n+5) "is_of_sort" ["thing","sort","deepest"] (zk0 n)
 |0=>by
  let c:=zq6 (n:=0) T I ((p.never (sp:=sp_sort' 0) λvs H Q E h=>h).mono (y18 3):03 3 _ _ _);show⟨c,zq2 04 T p e f a c⟩
 |n+1=>by
  let g:=znt T p I e f a n;let c:=zq6 (n:=n+1) T I g.2;show⟨c,zq2 00 T p e f a c⟩
abbrev Qt:Stmt:=top 50
theorem ze7:FnScope ["saying"] ["saying"] (defScope Qt):={}
include T in
theorem zuq(d:Dfn K mg "inner_sayings" Qt ["saying"]):03 1 "inner_sayings" ["saying"] zb6:=by
 apply d.cal ze7 07 08
 .nofun
 let(a,xs,rfl,e,hl,U,q):=h;apply⟨_,(zac<|zag (zav ["thing"] [] (CompOk.of R 01 01) 01 (zbo K<|pv 0) (λ_ _ _ _ _=>(zam (i:=0) (show List.Nodup (["thing"]:List Str) by decide+kernel) 01<|Or.inl 01)) (λ_ _ _ _ _=>(zm2<|zb4 (za3 zby 01 T.b_isinstance iU<|pa_c (pv 0) (pa_c (zdo (v:=.ty "tuple") 01 T.b_tuple iO 01) zaa)))) λ_ _ _ _ _=>(pv 0))),?_⟩;apply zax [G<|.ref a] R ?_;trivial;let j:SqT K H a xs:=.of e;apply⟨⟨xs,j⟩,cf_tup (λσ=>∃v,σ=[v]) (isT H) id hl j ⟨_,R⟩ ?_ ?_⟩
 .rintro D i σ H' x hi J O g u L ⟨v,rfl⟩;let(k,c):=U x J;trivial;apply⟨k,c.same g,by decide,?_⟩;rw[Kd.isT c];cases p:isT H x with
  |true=>show iteT<|zin hl O p u L g ⟨_,R⟩ R
  |false=>show iteF<|zio O p L g ⟨_,R⟩
 .intro D H' u g L;rw[y4k]at L;show q D H' u g L
abbrev Vj:Stmt:=top 51
theorem zn5:FnScope ["saying"] ["saying"] (defScope Vj):={}
include T in
theorem zq5(d:Dfn K mg "is_bare" Vj ["saying"])(y:03 1 "inner_sayings" ["saying"] zb6):03 2 "is_bare" ["saying"] zfs:=by
 apply d.cal zn5 07 08
 .nofun
 let(v,sy,rfl,r,q):=h;let Y:=ze9 hr 8 04;apply⟨_,(zac<|zag (zbh (zm4 Y) (zae y hr 00 01<|pa_c (pv 0) zaa) (zaq zaa)<|nomark _)),?_⟩;apply zax [G v] R ?_;trivial;apply atom λC o=>?_;let(a,xs,rfl,e,hl,U,L):=r.items;apply o ?_;apply⟨a,xs,R,e,by omega,U,λD H1 u g1 j=>⟨by decide,λp H2 c=>⟨_,(ztu (k:=0) (.of<|c.g _ _ j) c.lst).up 04,?_⟩⟩⟩;let h:=q H2<|g1.trans c.g;let M:sy.isBare=decide (xs.filter (isT H)=[]):=by
  generalize xs.filter (isT H)=ys at L;cases sy with
  |bare w n m=>cases L;rfl
  |neg s=>cases L;rfl
  |two w s t=>cases L;rfl
  |qu w n s=>cases L;rfl
 rw[M]at h;show h
abbrev Qp:Stmt:=top 52
theorem zgn:FnScope ["saying"] ["saying"] (defScope Qp):={}
include T in
theorem zuv{n:Nat}(d:Dfn K mg "count_parts" Qp ["saying"])(y:03 1 "inner_sayings" ["saying"] zb6)(Y:03 (n+1) "count_parts" ["saying"]<|zfg n):03 (n+1+1) "count_parts" ["saying"] (zfg<|n+1):=by
 apply d.cal zgn 07 08
 .nofun
 let(v,sy,rfl,r,hd,q):=h;apply⟨_,(zac<|zag (zay zf5 zad<|za3 (zd7 K R) 01 T.b_sum boot_sum (pa_c (zav ["inner"] [] (CompOk.of R 01 01) 01 (za8 K<|zae y hr 00 01 (pa_c (pv 0) zaa)) (λ_ _ _ _ _=>(zam (i:=0) (show List.Nodup (["inner"]:List Str) by decide+kernel) 01<|Or.inl 01)) (λ_ _ _ _ _=>za9) λ_ _ _ _ _=>(zae Y hr 00 01<|pa_c (pv 0) zaa)) zaa))),?_⟩;apply zax [G v] R ?_;trivial;let(a,xs,rfl,e,hl,hk,L):=r.items;apply⟨a,xs,R,e,by omega,hk,λo H1 M g1 J=>⟨⟨_,.of J⟩,?_⟩⟩;let c:=Paired.len L;let C:(xs.filter<|isT H).length<=1000:=y19 (y2o _ _) 00;apply zl7 (K:=K) (a:=o) (xs:=xs.filter<|isT H) (λσ=>∃v,σ=[v]) (λi=>.int<|((sy.inner[i]?).map Sy.parts).getD 0) C (.of J) ⟨_,R⟩ ?_ ?_
 .rintro D i σ H' x hi O g u z ⟨v,rfl⟩;let(t,I,rt):=Paired.at L O;let p:=(zgb<|y0l I).1;trivial;apply⟨x,t,R,rt.same<|g1.trans g,by omega,λH2 U=>zl4 C hi u (U _ _ z) (g.trans U) ⟨_,R⟩<|by rw[I];rfl⟩
 .intro D H' u g j;apply⟨D,R,(List.range (xs.filter<|isT H).length).map λi=>(((sy.inner[i]?).map Sy.parts).getD 0:Nat),.of (by rw[j,y0u];rfl),?_⟩;let h:=q H'<|g1.trans g;let l:(1:Int)+((List.range (xs.filter<|isT H).length).map λi=>((((sy.inner[i]?).map Sy.parts).getD 0:Nat):Int)).sum=(sy.parts:Int):=by
   rw[c];cases sy with
   |bare w n m=>rfl
   |neg s=>change(1:Int)+((s.parts:Int)+0)=((s.parts+1:Nat):Int);omega
   |two w s t=>change(1:Int)+((s.parts:Int)+((t.parts:Int)+0))=((s.parts+t.parts+1:Nat):Int);omega
   |qu w n s=>change(1:Int)+((s.parts:Int)+0)=((s.parts+1:Nat):Int);omega
  rw[l];show h
theorem zks(T:Txt K mg w tw rw fa cj ca ce co cn cTooGreat)(d:Dfn K mg "count_parts" Qp ["saying"])(e:03 1 "inner_sayings" ["saying"] zb6):∀n,03 (n+1) "count_parts" ["saying"] (zfg n)
 |0=>(d.never λvs H Q E h=>by let(v,s,_,_,hd,_):=h;show Xa hd<|y2n _).mono 04
 |n+1=>zuv T d e<|zks T d e n
abbrev Qw:Stmt:=top 53
theorem ze6:FnScope ["thing"] ["thing"] (defScope Qw):={}
include T in
theorem zra(d:Dfn K mg "is_any_saying" Qw ["thing"])(l:03 28 "has_form" ["thing","deepest"]<|zhz 12)(Y:03 14 "count_parts" ["saying"]<|zfg 13):03 29 "is_any_saying" ["thing"] zja:=by
 apply d.cal ze6 07 08
 .nofun
 let(v,rfl,ex,q):=h;apply⟨_,(zac<|zag (zdb (zae l hr 00 01<|pa_c (pv 0) (pa_c (zbt 01 T.g_DEEPEST) zaa))<|zcl (zbh zzg (zae Y hr 00 01<|pa_c (pv 0) zaa) (zbt 01 T.g_MOST_PARTS)<|nomark _))),?_⟩;apply zax [G v] R ?_;trivial;apply⟨v,R,ex,λH1 g1=>⟨_,R,ite2 (λc=>?_) λc=>q Fa H1 g1 ⟨λz=>(by cases z),λ⟨s,r,j,hd,_⟩=>Xa (zmx r j hd) c⟩⟩⟩;let(sy,r,j,hd):=zc7 c;apply⟨v,sy,R,r.same g1,by omega,λH2 U=>q _ H2 (g1.trans U) ⟨λz=>⟨sy,r,j,hd,?_⟩,λ⟨s,r',_,_,L⟩=>?_⟩⟩
 .let:=of_decide_eq_true z;omega
 .rw[r.det r'];show Xg 00
abbrev Ky:Stmt:=top 54
theorem zp3:FnScope ["saying","known","barred","most"] ["saying","known","barred","most"] (defScope Ky):={}
include T in
theorem ok_let{n:Nat}{bw:List Str}(d:Dfn K mg "is_let" Ky ["saying","known","barred","most"])(Qh:03 1 "inner_sayings" ["saying"] zb6)(Qaa:03 2 "is_bare" ["saying"] zfs)
  (K4:03 (n+2) "is_let" ["saying","known","barred","most"]<|zi8 K bw n):03 (n+1+2) "is_let" ["saying","known","barred","most"] (zi8 K bw<|n+1):=by
 apply d.cal zp3 07 08
 .nofun
 let(v,a,ba,sy,tl,mo,rfl,r,hd,ea,hl,U,q):=h;apply⟨_,(zab (za6 (PW.pt<|ze8 (zaj zia (za3 (zau K) 01 T.b_len iA<|pa_c (pv 1) zaa) (pv 3)<|nomark _) (zdu<|zaj (zqx K) (zap (zaf K) (pv 0) zad λ_ _=>rfl) (pv 2) (by with_unfolding_all rfl))) (zac<|zag zf2) zan)<|zab (za6 (zaj (zqx K) (zap (zaf K) (pv 0) zad λ_ _=>rfl) (zbt 01 T.g_TELLING_WORDS)<|by with_unfolding_all rfl) (zac<|zag (zdb (zbh (zf3 K) (zap (zaf K) (pv 0) zad λ_ _=>rfl) (pv 1)<|by with_unfolding_all rfl)<|zcl (zae K4 hr 00 01<|pa_c (zap (zaf K) (pv 0) zad λ_ _=>rfl) (pa_c (zay zem (pv 1)<|zaq (pa_c (zap (zaf K) (pv 0) zad λ_ _=>rfl) zaa))<|pa_c (pv 2) (pa_c (pv 3) zaa))))) zan) (zab (za6 (zb4<|zae Qaa hr 00 01 (pa_c (pv 0) zaa)) (zac<|zag (za3 (zcq K R) 01 T.b_all lG<|pa_c (zav ["name"] [(1,"known")] (CompOk.of R 01 01) 01 (zbo K<|zb9 (zk5 K) (pv 0) (zck zad) zel) (λ_ _ _ _ _=>(zam (i:=0) (show List.Nodup (["name","known"]:List Str) by decide+kernel) 01<|Or.inl 01)) (λ_ _ _ _ _=>za9) λ_ _ _ _ _=>(zbh (zqx K) (pv 0) (pv 1)<|by with_unfolding_all rfl)) zaa)) zan)<|zac (zag<|za3 (zcq K R) 01 T.b_all lG (pa_c (zav ["inner"] [(1,"known"),(2,"barred"),(3,"most")] (CompOk.of R 01 01) 01 (za8 K<|zae Qh hr 00 01 (pa_c (pv 0) zaa)) (λ_ _ _ _ _=>(zam (i:=0) (show List.Nodup (["inner","known","barred","most"]:List Str) by decide+kernel) 01<|Or.inl 01)) (λ_ _ _ _ _=>za9) λ_ _ _ _ _=>(zae K4 hr 00 01<|pa_c (pv 0) (pa_c (pv 1)<|pa_c (pv 2) (pa_c (pv 3) zaa)))) zaa)))),?_⟩;apply zax [G v,G<|.ref a,G<|.ref ba,G<|.int mo] R ?_;trivial;rw[zxz]at q;apply⟨_,.inl<|.of ea,ite2 (λc=>?_) λc=>?_⟩
 .let c':=of_decide_eq_true c;rw[y01]at c';let h:=q H<|Same.refl H;rw[Xf 00,y1q,y1q]at h;show h
 let c':=of_decide_eq_false<|y0w.mpr c;rw[y01]at c';rw[Xg 00,y1d]at q;let tw':=T.t_TELLING_WORDS H;apply atom λzG o=>?_;obtain⟨p0,rest,ev,e0⟩:∃p rest,v=.ref p/\H p=G (.tup (.str (wordOf sy)::rest)):=by
  cases r with
  |bare hw e=>show⟨_,_,R,e⟩
  |neg e O=>show⟨_,_,R,e⟩
  |two hw e Y M=>show⟨_,_,R,e⟩
  |qu hw e O=>show⟨_,_,R,e⟩
 apply o ?_;subst ev;apply ixm (.of e0) za7 ⟨_,.inr<|U H,R,zbx bw,?_⟩;rw[zfm];by_cases hwb:wordOf sy∈bw
 .rw[Xg hwb];let h:=q H<|Same.refl H;rw[Xf λz=>z hwb,y1q]at h;show iteT h
 rw[Xf hwb];rw[Xg hwb,y1d]at q;apply iteF<|ixm (.of e0) za7 ⟨_,.inr tw',R,R,?_⟩;let ah:(∀w n t,sy ≠ .qu w n t)->sy.isBare=Fa->∀H1,Same H H1->zb6 [.ref p0] H1 (λx H1=>asR x λa_1=>(∃xs,SqL K H1 a_1 xs)/\
   cBody ["inner"] [(1,"known"),(2,"barred"),(3,"most")] (gName 0) tYes (tCall (zi8 K bw n) [] E0<|tCons (tVar 0) (tCons (tVar 1)<|tCons (tVar 2) (tCons (tVar 3) tNil)))
    [G<|.ref p0,G<|V.ref a,G<|V.ref ba,G<|V.int mo] (λx H1=>asR x λp=>∃x,SqL K H1 p (List.map V.bl x)/\Q (V.bl<|x.all id) H1) (Itl K a_1) H1) E0:=by
  intro nq pk H1 g1;apply atom λzG o=>?_;let(p1,xs,ev',e,hl3,hk,pr):=r.items;apply o ?_;cases ev';rw[zou nq pk]at q;let eis:xs.filter (isT H1)=xs.filter (isT H):=y49 λy C=>by
   let(k,z):=hk y C;rw[←Kd.isT z,←Kd.isT (z.same g1)]
  let aw:=Paired.len pr;let l3:(xs.filter<|isT H).length<=1000:=y19 (y2o _ _) 00;apply⟨p0,xs,R,g1 _ _ e,by omega,λy C=>let⟨k,z⟩:=hk y C;⟨k,z.same g1⟩,λD1 H2 dy g2 e2=>⟨⟨_,.of e2⟩,?_⟩⟩;rw[eis]at e2;let l:=g1.trans g2;apply zl7 (K:=K) (a:=D1) (xs:=xs.filter<|isT H) (λσ=>∃v,σ=[v,G<|V.ref a,G<|V.ref ba,G<|V.int mo]) (λi=>.bl<|((sy.inner[i]?).map<|letB bw mo tl).getD N) l3 (.of e2) ⟨_,R⟩ ?_ ?_
  .rintro D i σ H' x hi O g u L ⟨v,rfl⟩;let(t,et,rt):=Paired.at pr O;let dt:=(zgb<|y0l et).1;let gx:=l.trans g;trivial;show⟨x,a,ba,t,tl,mo,R,rt.same gx,by omega,gx _ _ ea,by omega,U,λH3 g3=>zl4 l3 hi u (g3 _ _ L) (g.trans g3) ⟨_,R⟩<|by rw[et];rfl⟩
  .intro D H' u g eD;apply⟨(List.range (xs.filter<|isT H).length).map λi=>((sy.inner[i]?).map<|letB bw mo tl).getD N,.of (by rw[eD,y0u];rfl),?_⟩;rw[aw,zcs];show q H'<|l.trans g
 cases r with
 |qu hw e O =>
  rename_i wd nm x t;rw[show wordOf (Sy.qu wd nm t)=wd from rfl,zpo wd hw];replace q:∀H',Same H H'->Q (.bl<|decide (nm∉tl)&&letB bw mo (tl++[nm]) t) H':=q;let dn:=zvi wd nm t;apply iteT<|ixm (.of e) (zai (j:=1) R) ⟨_,.inl<|.of ea,R,zbx tl,?_⟩;rw[zfm];by_cases I:nm∈tl
  .rw[Xg I];let h:=q H<|Same.refl H;rw[Xf λz=>z I,y1q]at h;show iteF h
  rw[Xf I];rw[Xg I,y1d]at q;apply iteT<|ixm (.of e) (zai (j:=2) R) (ixm (.of e) (zai (j:=1) R)<|mkT λp1 H1 n1=>⟨_,n1.g _ _ ea,_,n1.at',zah (by rw[y01,y0q];omega),λp2 H2 n2=>?_⟩);let g2:=n1.g.trans n2.g;show⟨x,p2,ba,t,tl++[nm],mo,R,O.same g2,by omega,by rw[n2.at',y13];rfl,by rw[y0d,y0q];omega,U,λH3 g3=>q H3<|g2.trans g3⟩
 |neg e O =>
  rw[show wordOf (Sy.neg _)=("not":Str)from rfl,zuy];show iteF ⟨_,_,R,.neg e O,λH1 g1=>by trivial;show iteF<|ah (λ_ _ _ z=>by cases z) R H1 g1⟩
 |two hw e Y M =>
  rename_i wd x y t1 t2;rw[show wordOf (Sy.two wd t1 t2)=wd from rfl,zrs wd hw];show iteF ⟨_,_,R,.two hw e Y M,λH1 g1=>by trivial;show iteF<|ah (λ_ _ _ z=>by cases z) R H1 g1⟩
 |bare hw e =>
  rename_i wd nm m;rw[show wordOf (Sy.bare wd nm m)=wd from rfl,zs2 wd hw];replace q:∀H',Same H H'->Q (.bl<|decide (nm∈tl)&&decide (m∈tl)) H':=q;apply iteF ⟨_,_,R,.bare hw e,λH1 g1=>itB ⟨_,.of<|g1 _ _ e,zfx (by simp),λp H2 n2=>⟨⟨_,.of n2.at'⟩,?_⟩⟩⟩;let ec:cutL [V.str wd,V.str nm,V.str m] (G 1) B=[nm,m].map V.str:=by
   rw[show((1:Int))=((1:Nat):Int)from rfl,zcp];rfl
  rw[ec]at n2;let g:=g1.trans n2.g;apply ze3 (K:=K) (a:=p) (xs:=[nm,m].map V.str) (λσ=>∃v,σ=[v,G<|.ref a]) (λy=>.bl<|inV y (tl.map V.str)) (by simp) (.of n2.at') ⟨_,R⟩ ?_ ?_
  .rintro D i σ H' x hi J O g' u L ⟨v,rfl⟩;let fx:flatV x=N:=by
    let(z,_,rfl):=y0j.mp J;rfl
   trivial;show⟨_,.inl<|.of (g' _ _<|g _ _ ea),fx,zbx tl,zb0 (by simp) O u L g' ⟨_,R⟩ R⟩
  .intro D H' u g' L;apply⟨[decide (nm∈tl),decide (m∈tl)],.of ?_,?_⟩
   .rw[L];change G (HO.lst [.bl<|inV (.str nm) (tl.map V.str),.bl<|inV (.str m) (tl.map V.str)])=_;rw[zfm,zfm];rfl
   .let h:=q H'<|g.trans g';rw[show[decide (nm∈tl),decide (m∈tl)].all id=(decide (nm∈tl)&&(decide (m∈tl)&&N))from rfl,Bool.and_true];show h
theorem zs8{bw:List Str}(T:Txt K mg w tw rw fa cj ca ce co cn cTooGreat)(d:Dfn K mg "is_let" Ky ["saying","known","barred","most"])(e:03 1 "inner_sayings" ["saying"] zb6)(f:03 2 "is_bare" ["saying"] zfs):
  ∀n,03 (n+2) "is_let" ["saying","known","barred","most"]<|zi8 K bw n
 |0=>(d.never λvs H Q E h=>by let(v,a,c,s,tl,mo,_,_,hd,_):=h;show Xa hd<|y2n _).mono 04
 |n+1=>ok_let T d e f<|zs8 T d e f n
abbrev Kk:Stmt:=top 55
theorem zjg:FnScope ["thing","frame"] ["thing","frame"] (defScope Kk):={}
include T in
theorem zup(d:Dfn K mg "is_saying" Kk ["thing","frame"])(O:03 4 "is_frame" ["thing"] zww)(V2:03 29 "is_any_saying" ["thing"] zja)
  (l:03 15 "is_let" ["saying","known","barred","most"]<|zi8 K treeWords 13):03 30 "is_saying" ["thing","frame"] (zmr treeWords 4):=by
 apply d.cal zjg 07 08
 .nofun
 let(v,u,rfl,ex,x,hf,q):=h;apply⟨_,(zac<|zag (zdb (zae O hr 00 01<|pa_c (pv 1) zaa)<|zdb (zae V2 hr 00 01<|pa_c (pv 0) zaa) (zcl<|zae l hr 00 01 (pa_c (pv 0)<|pa_c (pv 1) (pa_c (zbt 01 T.g_TREE_WORDS)<|pa_c (zbt 01 T.g_MOST_NAMES) zaa))))),?_⟩;apply zax [G v,G u] R ?_;trivial;apply⟨u,R,x,hf,λH1 g1=>⟨_,R,ite2 (λc=>?_) λc=>q Fa H1 g1 ⟨λz=>(by cases z),λ⟨a,tl,s,D,e,g,_⟩=>Xa (show frB H u=N by rw[D];simp only[frB,e];show g) c⟩⟩⟩;apply atom λC o=>?_;let(a,tl,rfl,e,g,h4):=frB_ex c;apply o ?_;apply⟨v,R,ex.same g1,λb H2 g2 U=>⟨_,R,?_⟩⟩;let back:(∃s,AnySay H1 v s)↔∃s,AnySay H v s:=⟨λ⟨s,r,j,hd,L⟩=>by
   let Y:=zmx r j hd;rw[zer g1 ex]at Y;apply atom λC o=>?_;let(s',r',i,p):=zc7 Y;apply o ?_;rw[r.det<|r'.same g1]at L;show⟨s',r',i,p,L⟩,λ⟨s,r,j,hd,L⟩=>⟨s,r.same g1,j,hd,L⟩⟩
 rw[back]at U;apply ite2 (λJ=>?_) λJ=>q Fa H2 (g1.trans g2) ⟨λz=>(by cases z),λ⟨_,_,s,_,_,_,y,_⟩=>Xa (U.mpr ⟨s,y⟩) J⟩;apply atom λC o=>?_;let(sy,y):=U.mp J;let(r,j,hd,L):=id y;apply o ?_;apply⟨v,a,rw,sy,tl,4,R,r.same<|g1.trans g2,by omega,g2 _ _<|g1 _ _ e,by omega,T.t_TREE_WORDS,λH3 g3=>q _ H3 (g1.trans<|g2.trans g3) ⟨λz=>⟨a,tl,sy,R,e,g,y,z⟩,λ⟨a',tl',s',D,e',_,M,z⟩=>?_⟩⟩;cases D;rw[e]at e';let I:tl=tl':=by
  let:=(Option.some.inj e');show zmo<|HO.lst.inj this
 subst I;rw[r.det M.1];show z
abbrev Vg:Stmt:=top 66
theorem zn3:FnScope ["word"] ["word"] (defScope Vg):={}
include T in
theorem zxp(d:Dfn K mg "rule_of" Vg ["word"]):03 1 "rule_of" ["word"] (zpq K):=by
 apply d.cal zn3 07 08
 .nofun
 let(wd,rfl,q):=h;apply⟨_,(zab (za6 (zaj zbj (pv 0) zal<|nomark _) (zac<|zag (zbt 01 T.g_COMES_AHEAD)) zan)<|zab (za6 (zaj zbj (pv 0) zal<|nomark _) (zac<|zag (zbt 01 T.g_COMES_NEXT)) zan) (zac<|zag (zbt 01 T.g_EACH_IN))),?_⟩;apply zax [G<|.str wd] R ?_;trivial;unfold ruleM at q;by_cases Y:wd="ahead"
 .rw[Xq Y]at q;show itT Y<|q _ T.c_COMES_AHEAD
 rw[Xp Y]at q;apply itF Y ?_;by_cases M:wd="next"
 .rw[Xq M]at q;show itT M<|q _ T.c_COMES_NEXT
 rw[Xp M]at q;show itF M<|q _ T.c_EACH_IN
abbrev Vf:Stmt:=top 67
theorem Vz:FnScope ["saying","frame","tracks"] ["saying","frame"] (defScope Vf):={}
include T in
theorem zuw{Pr Pp Pm:Ad}(d:Dfn K mg "bare_of" Vf ["saying","frame"])(P5:03 1 "rule_of" ["word"]<|zpq K)(Kr:03 2 "spread" ["machine","tracks","width"]<|zed K)(Ka:03 9 "fitting_of" ["frame"]<|zff K Pr qs_reduced Pp qs_paired Pm qs_met)(Vq:03 8 "met" ["one","other"]<|zk1 K Pr qs_reduced Pp qs_paired Pm qs_met λx y=>x&&y):
  03 10 "bare_of" ["saying","frame"] (zmu K Pr qs_reduced Pp qs_paired Pm qs_met):=by
 apply d.cal Vz 07 08
 .nofun
 let(v,b,tl,wd,n,m,rfl,tr,L,tm,C,M,p,I,J,g,q):=h;let Y:=ze9 hr 8 04;apply⟨_,(zab (zek (i:=2) Vz.nd R (Or.inl R) ["name"] [(1,"frame")] (CompOk.of R 01 01) 01 (zbo K<|zb9 (zk5 K) (pv 0) (zck zad) zel) (λ_ _ _ _ _=>(zam (i:=0) (show List.Nodup (["name","frame"]:List Str) by decide+kernel) 01<|Or.inl 01)) (λ_ _ _ _ _=>za9) λ_ _ _ _ _=>(zg8 K PySem.F.plainAttrs_list PySem.F.slot_list_index PySem.F.type_list_index (zos K Y) (pv 1)<|pa_c (pv 0) zaa))<|zac (zag<|zae Vq hr 00 01 (pa_c (zae Kr hr 00 01<|pa_c (zae P5 hr 00 01<|pa_c (zap (zaf K) (pv 0) zad λ_ _=>rfl) zaa) (pa_c (pv 2)<|pa_c (za3 (zau K) 01 T.b_len iA<|pa_c (pv 1) zaa) zaa))<|pa_c (zae Ka hr 00 01<|pa_c (pv 1) zaa) zaa))),?_⟩;apply zax [G v,G<|.ref b,B] R ?_;trivial;cases C with
 |bare j e =>
 rename_i a;apply⟨_,.of e,zfx (by simp),λp3 H3 r=>⟨⟨_,.of r.at'⟩,?_⟩⟩;let ec:cutL [V.str wd,V.str n,V.str m] (G 1) B=[n,m].map V.str:=by
  rw[show((1:Int))=((1:Nat):Int)from rfl,zcp];rfl
 rw[ec]at r;let fo:=p.ok;let hz4:=p.four;let hl3:tl.length<=4:=fo.1;let hi:=y1n.mpr I;let o:=y1n.mpr J;apply ze3 (K:=K) (a:=p3) (xs:=[n,m].map V.str) (λσ=>∃v,σ=[v,G<|.ref b]) (λv=>match v with|.str z=>nV (tl.idxOf z)|_=>.non) (by simp) (.of r.at') ⟨_,R⟩ ?_ ?_
 .rintro D3 i σ H4 x hx0 hmm O gg hD3 hD3' ⟨v,rfl⟩;let(z,mz,rfl):=y0j.mp hmm;let hz:z∈tl:=by
   simp only[y06,y0h,or_false]at mz;rcases mz with rfl|rfl
   .exact I
   .exact J
  trivial;show⟨.inl ⟨_,.of<|(r.g.trans gg) _ _ M⟩,_,.of<|(r.g.trans gg) _ _ M,hz,by omega,zb0 (by simp) O hD3 hD3' gg ⟨_,R⟩ R⟩
 intro D H4 u U eD;let nv:=r.g.trans U;let be:H4 D=G (.lst<|([tl.idxOf n,tl.idxOf m]:List Nat).map nV):=eD;let h16:∀l:Nat,l<2^tl.length->l<16:=λl hl=>by
  let:2^tl.length<=2^4:=Nat.pow_le_pow_right 04 hl3;omega
 let(rok,rw2,rn):=ztr wd;let k9:∀l:Nat,l<2^tl.length->seen2 (tl.idxOf n) (tl.idxOf m) l<2^(ruleM wd).w:=λl _=>by rw[rw2];show ztn _ _ _
 apply ixm (.of<|nv _ _ e) za7 ⟨wd,R,λp0 CM=>⟨_,.inl<|.of (nv _ _ M),p0,D,ruleM wd,[tl.idxOf n,tl.idxOf m],tl.length,seen2 (tl.idxOf n)<|tl.idxOf m,by rw[y01],CM,rok,be,by simp,(λt p=>by simp only[y06,y0h,or_false]at p;rcases p with rfl|rfl<;>omega),by omega,(λl hl=>⟨zto 00 00<|h16 l hl,k9 l hl⟩),λp5 H5 g5 rm=>?_⟩⟩;let o0:=nv.trans g5;apply⟨b,tl,R,tr.same o0,L.same o0,tm.same o0,o0 _ _ M,fo,λp6 mF H6 c rF FF=>?_⟩;let g06:=o0.trans c;let hFn:=zr3 (by rw[znr];omega) FF.canon FF.takes;apply⟨p5,p6,_,mF,R,tr.same g06,L.same g06,tm.same g06,rm.same c,rF,zkz rok 00 k9,FF.ok,FF.w.symm,?_,λp7 m' H7 g7 r7 ok7 w7 can fin7=>q p7 m' H7 (g06.trans g7) r7 ⟨ok7,can,w7,λrow hr=>?_⟩⟩
 .change(ruleM wd).n*mF.n<=100;show y19 (Nat.mul_le_mul rn hFn) 04
 .let hr1:(sprd (ruleM wd) (seen2 (tl.idxOf n)<|tl.idxOf m) tl.length).Row row:=λl hl=>by have:=hr l hl;rw[w7]at this;show this
  rw[fin7 row hr1,zti,zfd rok k9 row 0 rok.pos hr1,ztq,FF.takes row λl hl=>by rw[FF.w];show hr1 l hl]
abbrev Ks:Stmt:=top 15
theorem zk9:FnScope ["thing"] ["thing"] (defScope Ks):={}
include T in
theorem zq1(d:Dfn K mg "is_whole" Ks ["thing"]):03 1 "is_whole" ["thing"] zi3:=by
 apply d.cal zk9 07 08
 .nofun
 let(v,rfl,h):=h;apply⟨_,(zac<|zag (zdb (za3 zby 01 T.b_isinstance iU<|pa_c (pv 0) (pa_c (zdo (v:=.ty "int") 01 T.b_int boot_int 01) zaa))<|zcl (zv1<|za3 zby 01 T.b_isinstance iU (pa_c (pv 0)<|pa_c (zdo (v:=.ty "bool") 01 T.b_bool boot_bool 01) zaa)))),?_⟩;apply zax [G v] R ?_;trivial;rcases h with⟨r,rfl,q⟩|⟨k,kd,J,q⟩
 .exact⟨_,.int r,by decide,iteT ⟨_,.int r,by decide,q⟩⟩
 .refine⟨_,kd,by decide,?_⟩;cases kd with
  |bl b=>show iteT ⟨_,.bl b,by decide,q⟩
  |int=>show Xa R J
  |_=>show iteF q
abbrev Kx:Stmt:=top 16
theorem zlc:FnScope ["thing","bound"] ["thing","bound"] (defScope Kx):={}
include T in
theorem zq8(d:Dfn K mg "is_below" Kx ["thing","bound"])(a:03 1 "is_whole" ["thing"] zi3):03 2 "is_below" ["thing","bound"] zft:=by
 apply d.cal zlc 07 08
 .nofun
 let(v,n,rfl,h):=h;apply⟨_,(zac<|zag (zdb (zae a hr 00 01<|pa_c (pv 0) zaa)<|zcl (zud zzg zqu zad (pv 0)<|pv 1))),?_⟩;apply zax [G v,G<|.int n] R ?_;trivial;rcases h with⟨r,rfl,g,Y,q⟩|⟨⟨r,rfl,I⟩|⟨k,kd,J⟩,q⟩
 .refine⟨_,R,.inl ⟨r,R,_,R,iteT ?_⟩⟩;apply itT g ?_;trivial;rw[Xg Y];show q
 .refine⟨_,R,.inl ⟨r,R,_,R,iteT ?_⟩⟩;by_cases g:0<=r
  .refine itT g ?_;trivial;rw[Xf λY=>I ⟨g,Y⟩];show q
  .exact itF g q
 .exact⟨_,R,.inr ⟨k,kd,J,_,R,iteF q⟩⟩
abbrev Qy:Stmt:=top 26
theorem Qv:FnScope ["letter","track","above","without"] ["letter","track"] (defScope Qy):={}
include T in
theorem zxt(d:Dfn K mg "both_letters" Qy ["letter","track"]):03 1 "both_letters" ["letter","track"] zps:=by
 apply d.cal Qv 07 08
 .nofun
 let(l,t,rfl,hl,D,q):=h;apply⟨_,(zab (zao (i:=2) Qv.nd R (Or.inl R)<|zay zv2 (pv 0) (pv 1))<|zab (zao (i:=3) Qv.nd R (Or.inl R)<|zay zf5 (pv 0) (zay zjq (pv 2)<|pv 1)) (zac<|zag (za2<|pa_c (pv 3) (pa_c (zay zf5 (pv 3)<|zay zjq zad (pv 1)) zaa)))),?_⟩;apply zax [G<|nV l,G<|nV t,B,B] R ?_;trivial;rw[y1y];let ep:((2:Int)^t)=((2^t:Nat):Int):=by push_cast;rfl
 let I:(l:Int)/(2:Int)^t=((l/2^t:Nat):Int):=by rw[ep];rfl
 let le:l/2^t<=l:=Nat.div_le_self _ _;let J:(l:Int)+(l:Int)/(2:Int)^t*(2:Int)^t=((put0 l t:Nat):Int):=by
  rw[I,ep];unfold put0;push_cast;rfl
 let g:(l:Int)+(l:Int)/(2:Int)^t*(2:Int)^t+1*(2:Int)^t=((put0 l t+2^t:Nat):Int):=by
  rw[J,ep,Int.one_mul];push_cast;rfl
 apply⟨by omega,⟨by omega,by omega,?_⟩,⟨by omega,by omega,by decide⟩,mkT λp H' n=>?_⟩
 .rw[I];change(l/2^t:Nat)<2^64;show y3l le<|y21 hl 04
 .rw[g,J]at n;show q p H' n
theorem zni{m:Mc}{ls:List Nat}(M:ls.length<=2):∀l:List Nat,l.length<=100->(l.flatMap λr=>ls.map λl=>m.go r l).length<=200:=λl hl=>by
 let:(l.flatMap λr=>ls.map λl=>m.go r l).length<=l.length*2:=by
  clear hl
  induction l with
  |nil=>simp
  |cons x r E =>
   rw[List.flatMap_cons,y0d,y01,y0s];omega
 omega
abbrev Qz:Stmt:=top 27
theorem Qs:FnScope ["machine","rooms","letters","found","room"] ["machine","rooms","letters"] (defScope Qz):={}
include T in
theorem zop(d:Dfn K mg "coming_rooms" Qz ["machine","rooms","letters"]):03 1 "coming_rooms" ["machine","rooms","letters"] zg3:=by
 apply d.cal Qs 07 08
 .nofun
 let(a,b,c,m,U,ls,rfl,rm,ok,eb,ec,hrs,f7,r5,l2,q):=h;apply⟨_,(zab (zao (i:=3) Qs.nd R (Or.inl R)<|zaq zaa)<|zab (zey PassesOwn.never R (zbo K<|pv 1) (zam (i:=4) Qs.nd 01<|Or.inr 01)<|zac (zdl<|zg8 K PySem.F.plainAttrs_list PySem.F.slot_list_extend PySem.F.type_list_extend zrh (pv 3) (pa_c (zav ["letter"] [(4,"room"),(0,"machine")] (CompOk.of R 01 01) 01 (zbo K<|pv 2) (λ_ _ _ _ _=>(zam (i:=0) (show List.Nodup (["letter","room","machine"]:List Str) by decide+kernel) 01<|Or.inl 01)) (λ_ _ _ _ _=>za9) λ_ _ _ _ _=>(zap (zaf K) (zap (zaf K) (zap (zaf K) (pv 2) zad λ_ _=>rfl) (pv 1) λ_ _=>rfl) (pv 0) λ_ _=>rfl)) zaa))) (zac<|zag (zbi zaw 01 T.b_tuple iO<|pa_c (za3 (zfb R) 01 T.b_sorted 01<|pa_c (zbi (zkg R) 01 T.b_set 01<|pa_c (pv 3) zaa) zaa) zaa))),?_⟩;apply zax [G<|.ref a,G<|.ref b,G<|.ref c,B,B] R ?_;trivial;apply mkT λp0 p I=>⟨⟨_,.of<|I.g _ _ eb⟩,?_⟩;apply zr8 (K:=K) (a:=b) (xs:=U.map nV) (λi σ H'=>Same H H'/\∃v4:Option V,σ=[G<|.ref a,G<|.ref b,G<|.ref c,G<|.ref p0,v4]/\H' p0=G (.lst<|((U.take i).flatMap λr=>ls.map λl=>m.go r l).map nV)) ⟨I.g,B,R,I.at'⟩ (λi σ H' _ z=>.of<|z.1 _ _ eb) ?_ ?_
 .rintro i y σ H' C ⟨g,v4,rfl,e0⟩;rw[y05]at C;let(r,er,rfl):=y1m.mp C;let mr:=y0l er;trivial;apply⟨.inl ⟨_,.of e0⟩,⟨_,.of<|g _ _ ec⟩,?_⟩;apply ze3 (K:=K) (a:=c) (xs:=ls.map nV) (λσ=>∃v,σ=[v,G<|nV r,G<|.ref a]) (λx=>match x with|.int l=>nV (m.go r l.toNat)|_=>.non) (by rw[y01];omega) (.of<|g _ _ ec) ⟨_,R⟩ ?_ ?_
  .rintro D j σ H2 x o mx O e u ae ⟨v,rfl⟩;let(l,ml,rfl):=y0j.mp mx;trivial;apply atom λzG zk=>?_;let gH:=g.trans e;let(b1,c1,ws,ea1,b9,pr,_):=id rm;let(line,f1,f2,f3):=ok.at (hrs r mr)<|f7 l ml;let(v,ev1,u1,rfl,e41):=Paired.at2 pr f1;let ati:atI (line.map nV) (l:Int)=G (nV<|m.go r l):=zai (by rw[y05,f2];rfl);apply zk ?_;show⟨_,.of<|gH _ _ ea1,_,zai (j:=1) R,ixm (.of<|gH _ _ b9) (zai ev1) ⟨_,.of<|gH _ _ e41,_,ati,zb0 (by rw[y01];omega) O u ae e ⟨_,R⟩ R⟩⟩
  intro D H3 u g3 e3;trivial;let fl:∀l:List Nat,l.length<=100->(l.flatMap λr=>ls.map λl=>m.go r l).length<=200:=zni l2;apply⟨_,g3 _ _ e0,_,e3,zah ?_,(g.trans g3).wr I.nil _,?_⟩
  .rw[y01,y01,y01];let:=fl (U.take i) (by rw[y0t];omega);omega
  .rw[zar,y1h,er,y24,List.flatMap_append,y13,y0u];simp only[List.flatMap_cons,List.flatMap_nil,y1k,y0u];rfl
 .rintro σ H' ⟨g,v4,rfl,e0⟩;trivial;rw[y01,y0i<|y04 _]at e0;let fl:((U.flatMap λr=>ls.map λl=>m.go r l)).length<=200:=zni l2 U r5;let lt:∀k∈(U.flatMap λr=>ls.map λl=>m.go r l),k<m.n:=λk hk=>by
   let(r,hr,hk):=y3t.mp hk;let(l,hl,rfl):=y0j.mp hk;show(ok.at (hrs r hr)<|f7 l hl).choose_spec.2.2
  generalize hF:(U.flatMap λr=>ls.map λl=>m.go r l)=F at e0 fl lt;apply⟨F.map λk:Nat=>(k:Int),.of (by rw[e0,y0u];rfl),by rw[y01];omega,λS hS=>⟨_,zar,(List.range m.n).map λk:Nat=>(k:Int),by rw[y01,y16];let:=ok.few;change m.ends.length<128;omega,λk hk=>?_,λms Y M L H3 n3=>⟨_,.inl ⟨.of n3.at',λt H4 J=>?_⟩⟩⟩⟩
  .let(k',bo,rfl):=y0j.mp hk;show y0j.mpr ⟨k',y0z.mpr<|lt k' bo,R⟩
  let e4:(ms.map V.int)=((ms.map Int.toNat).map nV):=by
   rw[y0u];apply y30 λk hk=>?_;let(k',_,rfl):=y0j.mp<|(M k).mp hk;rfl
  apply q t (ms.map Int.toNat) H4 (g.trans<|(za4 hS _).trans (n3.g.trans J.g)) (by rw[←e4];show J.at') ?_ λk=>?_
  .rw[List.pairwise_map];apply List.Pairwise.imp_of_mem (λ{x y} O C hxy=>?_) Y;apply atom λzG zk=>?_;let(x',_,rfl):=y0j.mp<|(M x).mp O;let(y',_,rfl):=y0j.mp<|(M y).mp C;apply zk ?_;omega
  .rw[y0j];let hk:(∃a,a∈ms/\Int.toNat a=k)↔k∈F:=by
    constructor
    .rintro⟨z,hz,rfl⟩;let(k',bo,rfl):=y0j.mp<|(M z).mp hz;show bo
    .intro hk;show⟨(k:Int),(M _).mpr<|y0j.mpr ⟨k,hk,R⟩,R⟩
   rw[hk,←hF,y3t];simp only[y0j]
abbrev Vc:Stmt:=top 28
theorem K2:FnScope ["machine","track","letters","comings"] ["machine","track"] (defScope Vc):={}
abbrev qs_dropped:List (Pos×Str):=[(⟨105,4,106,71⟩,"dropped.<locals>.comings"),(⟨107,51,107,106⟩,"dropped.<locals>.<lambda>")]
include T in
theorem zlo{c Pd Pt:Ad}(d:DfnC K mg "dropped" Vc ["machine","track"] c Pd)(kb:BltK base mg)(Pf:03 2 "is_below" ["thing","bound"] zft)(V9:03 1 "both_letters" ["letter","track"] zps)(V7:03 1 "coming_rooms" ["machine","rooms","letters"] zg3)(Kq:CalE P w K mg base 6 "explored" ["tracks","first","comings","is_end"]<|zch cTooGreat P w K mg base Pt qs_reduced):
  CalE P w K mg base 7 "dropped" ["machine","track"] (zdi cTooGreat Pt qs_reduced Pd qs_dropped):=by
 apply d.calE K2 07 λf A outer s H vs Q E L h Rq=>?_
 .nofun
 let(a,m,t,rfl,tr,td,rm,ok,ht,q,qx):=h;let h5:m.n<=100:=ok.few;let(b1,c1,rs,ea,b9,pr,ck):=id rm;let hw4:=ok.wid;apply⟨_,(zab (za6 (zdv<|zb4 (zae Pf L 00 01<|pa_c (pv 1) (pa_c (zap (zaf K) (pv 0) zad λ_ _=>rfl) zaa))) (zac zfi) zan)<|zab (zao (i:=2) K2.nd R (Or.inr R)<|zav ["letter"] [(1,"track")] (CompOk.of R 01 01) 01 (zf0 01 T.b_range<|pa_c (zay zjq zad<|zay zdc (zap (zaf K) (pv 0) zad λ_ _=>rfl) zad) zaa) (λ_ _ _ _ _=>(zam (i:=0) (show List.Nodup (["letter","track"]:List Str) by decide+kernel) 01<|Or.inl 01)) (λ_ _ _ _ _=>za9) (λ_ _ _ _ _=>(zae V9 L 00 01<|pa_c (pv 0) (pa_c (pv 1) zaa)))) (zab (zvy (qs:=qs_dropped) "dropped.<locals>.comings" (j:=3) R d.code kb 01 01 K2.nd R R)<|zac (zag<|zcz Rq Kq L 00 01 (λ_=>rfl) (pa_c (zay zdc (zap (zaf K) (pv 0) zad λ_ _=>rfl) zad)<|pa_c (za2<|pa_c zad zaa) (pa_c (pv 3)<|pa_c (zjn (qs:=qs_dropped) "dropped.<locals>.<lambda>" rfl d.code kb 01 01) zaa))))),?_⟩;apply zax [G<|.ref a,G<|nV t,B,B] R ?_;trivial;apply⟨_,.of ea,_,za7,_,_,R,.inl ⟨_,R,by omega,by omega,?_⟩⟩;let bd:1<=m.w:=by omega
 let fu:=zbr (w:=m.w-1) 00;let hz:((1:Int)*2^(((m.w:Nat):Int)-1).toNat)=((2^(m.w-1):Nat):Int):=by
  rw[Int.one_mul,show(((m.w:Nat):Int)-1).toNat=m.w-1 by omega];show zqc _
 apply itN ⟨_,.of ea,_,za7,⟨by omega,by omega,by decide⟩,by rw[hz];omega,by rw[hz];omega,?_⟩;rw[hz,y1y];apply zgr (n:=2^(m.w-1)) (λσ=>∃v,σ=[v,G<|nV t]) (λj y H=>Line H y [put0 j t,put0 j t+2^t]) 00 ⟨B,by simp[stB]⟩ (λi H' hi gg=>hi) (λH' gg=>y04 _) ?_ ?_
 .rintro D i ys σ H1 x H1' hi gg u ae cw C ⟨v,rfl⟩ ⟨rfl,rfl⟩;trivial;apply⟨i,t,by simp,by omega,by omega,λp H2 n2=>zb1 (λj y H H' ts z=>z.ts ts) 00 hi u (n2.g _ _ ae) cw C n2.g.tups (gg.trans n2.g) ⟨_,R⟩ ⟨p,R,n2.at'⟩⟩
 intro D ys H1 u g1 eD cw C;apply⟨td.same g1,λf1 H2 M1=>?_⟩;let U:Same H H2:=g1.trans M1.old;apply⟨_,.of<|U _ _ ea,_,za7,mkT λt0 H3 n3=>⟨td.same<|U.trans n3.g,λf2 H4 M2 Hq ad=>?_⟩⟩;apply atom λzG zk=>?_;let g4:Same H H4:=U.trans<|n3.g.trans M2.old;let g14:Same H1 H4:=M1.old.trans<|n3.g.trans M2.old;let gq:Same H Hq:=g4.trans ad.up;let g1q:Same H1 Hq:=g14.trans ad.up;let(c9,kf):=M1.fn;let(fd2,d3):=M2.fn;let pl:i4 (Line H1) ys ((List.range<|2^(m.w-1)).map λl=>[put0 l t,put0 l t+2^t]):=by
  apply zbs (by rw[cw,y01,y16]) λj v l J e2=>?_;let o:j<2^(m.w-1):=by have:=(y09.mp J).1;omega
  rw[y05,y1p o]at e2;cases e2;show C j v J
 let ng:CloH P w K mg base 4 Hq f1 1 (zcy (λH=>RepM H a m/\H D=G (.lst ys)/\i4 (Line H) ys ((List.range<|2^(m.w-1)).map λl=>[put0 l t,put0 l t+2^t])) (dropT m t)<|DropG m):=by
  apply M1.clo_sM (own:=["rooms"]) (ps:=["rooms"]) (cap:=["machine","letters"]) (cv:=[.ref a,.ref D]) (k:=3) (n3.g.trans M2.old) ad ⟨R,R,R,R,by decide+kernel,by decide+kernel,by decide+kernel,by decide+kernel⟩ (y04 _) (.cons ⟨0,R,R,.inl R⟩<|.cons ⟨2,R,R,.inl R⟩ .nil) (λcl ct cd pm=>L2.fit1 λ_=>rfl) ?_;rintro clo c' A' bj s' H' vs Q' L a9 fz d9 hl ⟨pa,db,rfl,⟨gv,ka,hR3⟩,et,⟨hri,d0⟩,q'⟩;apply⟨_,(zac<|zag (zav ["both"] [(1,"machine"),(0,"rooms")] (CompOk.of R 01 01) 01 (za8 K<|pv 2) (λ_ _ _ _ _=>(zam (i:=0) (show List.Nodup (["both","machine","rooms"]:List Str) by decide+kernel) 01<|Or.inl 01)) (λ_ _ _ _ _=>za9) λ_ _ _ _ _=>(zae V7 L 00 01<|pa_c (pv 1) (pa_c (pv 2)<|pa_c (pv 0) zaa)))),?_⟩;apply zax [G<|.ref pa,G<|.ref a,G<|.ref D] R ?_;trivial;let o5:=gv.ts<|SameN.tups a9.n;let be:=a9.n _ _ ka λ_ _ z=>nomatch z;let pl':=L2.Paired.mapP hR3 λ_ _ z=>z.ts<|SameN.tups a9.n;let bx:=a9.n _ _ et λ_ _ z=>nomatch z;apply⟨⟨_,.of be⟩,zgr (n:=2^(m.w-1)) (λσ=>∃v,σ=[v,G<|.ref a,G<|.ref pa]) (λj y H=>Line H y<|comeL m db [put0 j t,put0 j t+2^t]) 00 ⟨_,R⟩ (λi H5 hi gg=>⟨_,ys[i]'(00),.of<|gg _ _ be,y00 _⟩) (λH5 gg=>⟨_,.of<|gg _ _ be,by omega⟩) ?_ ?_⟩
  .rintro D2 i zs σ H5 y H5' hi gg u ae o4 e8 ⟨v,rfl⟩ ⟨rfl,yx⟩;let ex:=yx _<|.of (gg _ _ be);let(l,el,p,rfl,ep):=SS.Paired.at pl' ex;rw[y05,y1p hi]at el;cases el;let ac:=zy3 m.w 00 t ht i hi;let f7:∀l∈[put0 i t,put0 i t+2^t],l<2^m.w:=λl hl=>by
    simp only[y06,y0h,or_false]at hl;rcases hl with rfl|rfl
    .exact y3l (y4g _ _) ac
    .exact ac
   trivial;apply⟨a,pa,p,m,db,_,R,o5.same gg,ok,gg _ _ bx,gg _ _ ep,d0,f7,(by have:=zei hri d0;omega),by simp,λp' ms H6 g6 e6 Y M=>zb1 (λj y H H' ts z=>z.ts ts) 00 hi u (g6 _ _ ae) o4 e8 g6.tups (gg.trans g6) ⟨_,R⟩ ⟨p',R,?_⟩⟩;rw[e6,zg6 Y ze2 λk=>(M k).trans (zsr λr L l hl=>(ok.at (d0 r L)<|f7 l hl).choose_spec.2.2).symm]
  intro D2 zs H5 cg g5 bi o4 e8 I;apply q' D2 zs (mixL clo H' H5) (zgc cg bi I) (zbk g5) (ze0 I _ _ bi) ?_;apply zbs (by rw[o4];simp[dropT]) λj v l J e2=>?_;let o:j<2^(m.w-1):=by have:=(y09.mp J).1;omega
  let am:((List.range<|2^(m.w-1)).map λl=>comeL m db [put0 l t,put0 l t+2^t])[j]?=G l:=e2;rw[y05,y1p o]at am;cases am;let(p,rfl,ep):=e8 j v J;show⟨p,R,ze0 I _ _ ep⟩
 let mw:CloH P w K mg base 4 Hq f2 1 (zfe (λH=>RepM H a m/\H D=G (.lst ys)/\i4 (Line H) ys ((List.range<|2^(m.w-1)).map λl=>[put0 l t,put0 l t+2^t])) (dropT m t)<|DropG m):=by
  apply M2.clo_e (own:=["rooms"]) (ps:=["rooms"]) (cap:=["machine"]) (cv:=[.ref a]) (k:=3) (Same.refl _) ad ⟨R,R,R,by decide+kernel,R,by decide+kernel,by decide+kernel,by decide+kernel⟩ (y04 _) (.cons ⟨0,R,R,.inl R⟩ .nil) (λcl ct cd pm=>L2.fit1 λ_=>rfl) ?_;rintro clo c' A' bj s' H' vs Q' L a9 fz d9 hl ⟨pa,db,rfl,⟨gv,ka,hR3⟩,et,⟨hri,d0⟩,q'⟩;apply⟨_,(za3 (zkm K R) 01 T.b_any boot_any<|pa_c (zav ["room"] [(1,"machine")] (CompOk.of R 01 01) 01 (zbo K<|pv 0) (λ_ _ _ _ _=>(zam (i:=0) (show List.Nodup (["room","machine"]:List Str) by decide+kernel) 01<|Or.inl 01)) (λ_ _ _ _ _=>za9) λ_ _ _ _ _=>(zap (zaf K) (zap (zaf K) (pv 1) zad λ_ _=>rfl) (pv 0) λ_ _=>rfl)) zaa),?_⟩;apply zp6 [G<|.ref pa,G<|.ref a] R ?_;trivial;let o5:=gv.ts<|SameN.tups a9.n;let bx:=a9.n _ _ et λ_ _ z=>nomatch z;let(b1',c1',oz,nj,ni,pr',gz):=id o5;apply⟨⟨_,.of bx⟩,ze3 (K:=K) (a:=pa) (xs:=db.map nV) (λσ=>∃v,σ=[v,G<|.ref a]) (λx=>match x with|.int r=>V.bl (m.fin r.toNat)|_=>.non) (by rw[y01];let:=zei hri d0;omega) (.of bx) ⟨_,R⟩ ?_ ?_⟩
  .rintro D2 j σ H5 x o mx O gg u ae ⟨v,rfl⟩;let(r,mr,rfl):=y0j.mp mx;trivial;show⟨_,.of<|gg _ _ nj,_,zai (j:=2) R,ixm (.of<|gg _ _ gz) (zai<|by rw[y05,Mc.fin_at<|d0 r mr];rfl)<|zb0 (by rw[y01];let:=zei hri d0;omega) O u ae gg ⟨_,R⟩ R⟩
  intro D2 H5 cg g5 bi;apply⟨_,R,db.map m.fin,.of (by rw[bi,y0u,y0u];rfl),λI=>?_⟩;let:=q' (mixL clo H' H5)<|zbk g5;rw[List.any_map];show this
 apply zk ?_;apply⟨t0,f1,f2,c9,fd2,dropT m t,(DropG m),(λH=>RepM H a m/\H D=G (.lst ys)/\i4 (Line H) ys ((List.range<|2^(m.w-1)).map λl=>[put0 l t,put0 l t+2^t])),[0],?_,tr.same gq,(M2.old.trans ad.up) _ _ n3.at',((n3.g.trans M2.old).trans ad.up) _ _ kf,ad.up _ _ d3,ng,mw,⟨rm.same gq,g1q _ _ eD,L2.Paired.mapP pl λ_ _ z=>z.ts g1q.tups⟩,(λH5 H6 g z=>⟨z.1.same g,g _ _ z.2.1,L2.Paired.mapP z.2.2 λ_ _ y=>y.ts g.tups⟩),by change m.w-1<=4;omega,⟨by simp[Rising],λr L=>by rw[y0b.mp L];show ok.pos⟩,(λdb hg=>zsc),λm' x p H5 g5 rp=>q m' x p _ (g4.trans<|ad.same g5)<|rp.ts λb xs e=>ad.keep g5 e (λ_ _ z=>nomatch z),λx e H5 g5=>qx x e _<|g4.trans (ad.same g5)⟩;change[V.int<|((m.w:Nat):Int)-1,V.ref t0,V.ref f1,V.ref f2]=[V.int (((m.w-1:Nat)):Int),V.ref t0,V.ref f1,V.ref f2];rw[show(((m.w-1:Nat)):Int)=((m.w:Nat):Int)-1 by omega]
abbrev V8:Stmt:=top 30
theorem Tn:FnScope ["bare_of","fitting_of","met","joined","flipped","dropped","machine_of"] ["bare_of","fitting_of","met","joined","flipped","dropped"] (defScope V8):={}
abbrev qs_maker:List (Pos×Str):=[(⟨111,4,123,37⟩,"maker.<locals>.machine_of")]
abbrev SPN(C u o J x O:Ad)(n:Nat):Sp:=zwt C u qs_reduced o qs_paired J qs_met x qs_joined O qs_dropped n
include T in
theorem zq4{c Pk Pr Pp Pm Pj Pd fb ff fm fj fl fp:Ad}(d:DfnC K mg "maker" V8 ["bare_of","fitting_of","met","joined","flipped","dropped"] c Pk)(kb:BltK base mg)(Qak:CalF P w K mg base 10 fb ["saying","frame"]<|zmu K Pr qs_reduced Pp qs_paired Pm qs_met)(Qao:CalF P w K mg base 9 ff ["frame"]<|zff K Pr qs_reduced Pp qs_paired Pm qs_met)(P3:CalFE P w K mg base 8 fm ["one","other"]<|zdh cTooGreat K Pr qs_reduced Pp qs_paired Pm qs_met λx y=>x&&y)(Qah:CalFE P w K mg base 8 fj ["one","other"]<|zdh cTooGreat K Pr qs_reduced Pp qs_paired Pj qs_joined λx y=>x||y)(Qai:CalF P w K mg base 6 fl ["machine"]<|zeg Pr qs_reduced)(Qal:CalFE P w K mg base 7 fp ["machine","track"]<|zdi cTooGreat Pr qs_reduced Pd qs_dropped):
  03 1 "maker" ["bare_of","fitting_of","met","joined","flipped","dropped"] (zi7 P w K mg base fb ff fm fj fl fp Pk qs_maker<|SPN cTooGreat Pr Pp Pm Pj Pd):=by
 apply d.calR Tn 07 R (j:=6) R (.inr<|.inl R) 04 04 λf A outer s H vs Q E L h=>?_
 .let(rfl,_):=h;rfl
 let(rfl,tk,q):=h;apply⟨_,zw9 (qs:=qs_maker) "maker.<locals>.machine_of" (j:=6) R d.code kb 01 01 Tn.nd R (.inr R) R,tk,λf1 H1 M1=>⟨.ref f1,R,λHq ad=>?_⟩⟩;let(c9,kf):=M1.fn;let efq:=ad.up _ _ kf;apply q f1 c9 Hq (M1.old.trans ad.up) efq λn=>?_
 induction n with
 |zero =>
  rintro A outer s H' us vs Q E L e0 fz r hl ⟨v,b,tl,s,_,_,_,_,_,J,_⟩;show Xa J (by have:=zrj s;omega)
 |succ n ih =>
 apply M1.clo_sE (own:=["saying","frame","word"]) (ps:=["saying","frame"]) (cap:=["met","machine_of","joined","flipped","fitting_of","dropped","bare_of"]) (cv:=[.ref fm,.ref f1,.ref fj,.ref fl,.ref ff,.ref fp,.ref fb]) (k:=11+n) (Same.refl _) ad ⟨R,R,R,by decide+kernel,R,by decide+kernel,by decide+kernel,by decide+kernel⟩ 04
  (.cons ⟨2,R,R,.inl R⟩<|.cons ⟨6,R,R,.inl R⟩ (.cons ⟨3,R,R,.inl R⟩<|.cons ⟨4,R,R,.inl R⟩ (.cons ⟨1,R,R,.inl R⟩<|.cons ⟨5,R,R,.inl R⟩ (.cons ⟨0,R,R,.inl R⟩ .nil)))) (λcl ct cd pm=>L2.fit2 λ_ _=>rfl) ?_
 rintro clo c' A' bj s' H' vs Q' E' L e0 D fz d9 hl ⟨v,b,tl,sy,rfl,tb,rp,eb,mo,C,q',qx'⟩ Rq;apply⟨_,(zab (zao (i:=2) (show FnNd ["saying","frame","word","met","machine_of","joined","flipped","fitting_of","dropped","bare_of"] by decide+kernel).nd R (Or.inl R)<|zap (zaf K) (pv 0) zad (λ_ _=>rfl))<|zab (za6 (zaj op_eq (pv 2) zal<|nomark _) (zac<|zag (zdw Rq P3 L 00 (pa_c (zbp e0 D Rq (i:=4) (k:=(11+n)) (n:=2) (sp:=(SPN cTooGreat Pr Pp Pm Pj Pd n)) R (by first|show Or.inl rfl|show Or.inr (Or.inl R)|show Or.inr (Or.inr R)) L<|pa_c (zap (zaf K) (pv 0) zad λ_ _=>rfl) (pa_c (pv 1) zaa))<|pa_c (zbp e0 D Rq (i:=4) (k:=(11+n)) (n:=2) (sp:=(SPN cTooGreat Pr Pp Pm Pj Pd n)) R (by first|show Or.inl rfl|show Or.inr (Or.inl R)|show Or.inr (Or.inr R)) L<|pa_c (zap (zaf K) (pv 0) zad λ_ _=>rfl) (pa_c (pv 1) zaa)) zaa) (i:=3))) zan) (zab (za6 (zaj op_eq (pv 2) zal<|nomark _) (zac<|zag (zdw Rq Qah L 00 (pa_c (zbp e0 D Rq (i:=4) (k:=(11+n)) (n:=2) (sp:=(SPN cTooGreat Pr Pp Pm Pj Pd n)) R (by first|show Or.inl rfl|show Or.inr (Or.inl R)|show Or.inr (Or.inr R)) L<|pa_c (zap (zaf K) (pv 0) zad λ_ _=>rfl) (pa_c (pv 1) zaa))<|pa_c (zbp e0 D Rq (i:=4) (k:=(11+n)) (n:=2) (sp:=(SPN cTooGreat Pr Pp Pm Pj Pd n)) R (by first|show Or.inl rfl|show Or.inr (Or.inl R)|show Or.inr (Or.inr R)) L<|pa_c (zap (zaf K) (pv 0) zad λ_ _=>rfl) (pa_c (pv 1) zaa)) zaa) (i:=5))) zan)<|zab (za6 (zaj op_eq (pv 2) zal<|nomark _) (zac<|zag (zdw Rq P3 L 00 (pa_c (zh7 Qai L 00 (pa_c (zbp e0 D Rq (i:=4) (k:=(11+n)) (n:=2) (sp:=(SPN cTooGreat Pr Pp Pm Pj Pd n)) R (by first|show Or.inl rfl|show Or.inr (Or.inl R)|show Or.inr (Or.inr R)) L<|pa_c (zap (zaf K) (pv 0) zad λ_ _=>rfl) (pa_c (pv 1) zaa)) zaa) (i:=6))<|pa_c (zh7 Qao L 00 (pa_c (pv 1) zaa) (i:=7)) zaa) (i:=3))) zan) (zab (za6 (zaj op_eq (pv 2) zal<|nomark _) (zac<|zag (zdw Rq Qal L 00 (pa_c (zbp e0 D Rq (i:=4) (k:=(11+n)) (n:=2) (sp:=(SPN cTooGreat Pr Pp Pm Pj Pd n)) R (by first|show Or.inl rfl|show Or.inr (Or.inl R)|show Or.inr (Or.inr R)) L<|pa_c (zap (zaf K) (pv 0) zad λ_ _=>rfl) (pa_c (zay op_catN (pv 1)<|zaq (pa_c (zap (zaf K) (pv 0) zad λ_ _=>rfl) zaa)) zaa))<|pa_c (za3 (zd8 K) 01 T.b_len iA<|pa_c (pv 1) zaa) zaa) (i:=8))) zan)<|zab (za6 (zaj op_eq (pv 2) zal<|nomark _) (zac<|zag (zbp e0 D Rq (i:=4) (k:=(11+n)) (n:=2) (sp:=(SPN cTooGreat Pr Pp Pm Pj Pd n)) R (by first|show Or.inl rfl|show Or.inr (Or.inl R)|show Or.inr (Or.inr R)) L<|pa_c (za2<|pa_c zal (pa_c (za2<|pa_c zal (pa_c (zap (zaf K) (pv 0) zad λ_ _=>rfl)<|pa_c (za2<|pa_c zal (pa_c (zap (zaf K) (pv 0) zad λ_ _=>rfl) zaa)) zaa)) zaa)) (pa_c (pv 1) zaa))) zan) (zac<|zag (zh7 Qak L 00 (pa_c (pv 0)<|pa_c (pv 1) zaa) (i:=9)))))),?_⟩;apply zax [G v,G<|.ref b,B,G<|.ref fm,G<|.ref f1,G<|.ref fj,G<|.ref fl,G<|.ref ff,G<|.ref fp,G<|.ref fb] R ?_;trivial;let gl:dropL clo H' f1=G (fnO c9 f1):=d9 _ _ _ kf;let self:∀(Gq:Hp),Same (dropL clo H') Gq->(∀b,InCl clo b->Gq b=B)->∀(x:V) (b':Ad) (tl':List Str) (s':Sy) (Qc:VK),Rep Gq x s'->Gq b'=G (.lst<|tl'.map V.str)->Lr tl' s'->mcost s'<=n->(∀M' p G',Br s' tl' (G M')->Same Gq (dropL clo G')->RepM (dropL clo G') p M'->Qc (.ref p) G')->(Br s' tl' B->Br sy tl B)->(Gq f1=G (fnO c9 f1)/\CloHE P w K mg base (11+n) (mixL clo H' Gq) f1 2 (SPN cTooGreat Pr Pp Pm Pj Pd n)/\[x,V.ref b'].length=2/\SPN cTooGreat Pr Pp Pm Pj Pd n [x,.ref b'] (mixL clo H' Gq) Qc λc a H2=>EL clo H' E' c a<|dropL clo H2):=by
  intro Gq g I x b' tl' s' Qc rx f6 mo' au qc qn;apply⟨g _ _ gl,ih.mono<|fz.trans (zxx λb o u e=>g _ _ e),R,x,b',tl',s',R,tb.same<|zbk g,rx.same<|ze0 I,ze0 I _ _ f6,mo',au,λM' z p H2 U l=>?_,λz e H2 U cc=>?_⟩
  .exact qc M' p _ z (zka I U)<|l.ts (SameN.tups (SM.ClOk.same (SM.ClOk.same D<|zbk g) U).n)
  .exact qx' (qn z) e _<|zbk (g.trans<|zka I U)
 let bp:=tb.drop D;let rpd:Rep (dropL clo H') v sy:=SM.Rep.ts rp<|SameN.tups D.n;let dk:=D.n _ _ eb λ_ _ z=>nomatch z;let fin:∀(p:Ad) (O:Mc) (Gq:Hp),Same (dropL clo H') Gq->RepM Gq p O->Br sy tl (G O)->(∀b,InCl clo b->Gq b=B)->Q' (.ref p) (mixL clo H' Gq):=λp O Gq g r z I=>q' O z p _ (zbk g)<|r.same (ze0 I);let fix:∀(e:Ad) (Gq:Hp),Same (dropL clo H') Gq->Br sy tl B->EL clo H' E' (.ref cTooGreat) (G e) Gq:=λe Gq g z I=>qx' z e _<|zbk g;cases rpd with
 |@bare a wd nn mm ay e =>
  cases mo with
  |bare hf I J hw =>
  let nw:∀z:Str,z∈(["and","or","not","some","all"]:List Str)->¬V.str wd=V.str z:=λz hz e0=>by
   let:=V.str.inj e0;subst this;simp only[SM.rowWords,y06,y0h,or_false]at hw hz;rcases hw with rfl|rfl|rfl|rfl|rfl<;>revert hz<;>decide
  apply ixm (.of e) za7 ⟨R,?_⟩;apply itF (nw _ 04) ⟨R,?_⟩;apply itF (nw _ 04) ⟨R,?_⟩;apply itF (nw _ 04) ⟨R,?_⟩;apply itF (nw _ 04) ⟨R,?_⟩;apply itF (nw _ 04) ⟨R,.ref a,b,tl,wd,nn,mm,R,bp.r,bp.p,bp.m,.bare ay e,dk,hf,I,J,hw,λp M' H2 U l B' cc=>fin p M' H2 U l (.bare B') cc⟩
 |@two a w x y s1 s2 ay e r1 l =>
  cases mo with
  |two Y h2 =>
  let au:max (mcost s1) (mcost s2)+1<=n+1:=C;let c1:mcost s1<=n/\mcost s2<=n:=⟨by omega,by omega⟩;apply ixm (.of e) za7 ⟨R,?_⟩;simp only[y06,y0h,or_false]at ay;rcases ay with rfl|rfl
  .refine itT R ⟨R,f1,R,c9,gl,ixm (.of e) (zai (j:=1) R) λI=>self _ (Same.refl _) I _ _ _ _ _ r1 dk Y c1.1 (λM1 p1 o6 b1 g1 q1=>?_) λz=>.two1 z⟩;generalize dropL clo o6=G1 at g1 q1 ⊢;apply⟨f1,R,c9,g1 _ _ gl,ixm (.of<|g1 _ _ e) (zai (j:=2) R) λhn1=>self _ g1 hn1 _ _ _ _ _ (l.same g1) (g1 _ _ dk) h2 c1.2 (λM2 p2 G2' b2 U q2=>?_) λz=>.two2 b1 z⟩;generalize dropL clo G2'=G2 at U q2 ⊢;let ai:=g1.trans U;let(o1,w1):=b1.ok rfl;let(o2,w2):=b2.ok rfl;show⟨p1,p2,_,_,R,bp.r.same ai,bp.p.same ai,bp.m.same ai,(q1.same U).k,q2.k,o1,o2,by rw[w1,w2],λO x p G3 g3 r3 cc=>fin p O G3 (ai.trans g3) r3 (.two b1 b2<|.and x) cc,λx e G3 g3=>fix e G3 (ai.trans g3)<|.two b1 b2 (.and x)⟩
  .refine itF 04 ⟨R,?_⟩;apply itT R ⟨R,f1,R,c9,gl,ixm (.of e) (zai (j:=1) R) λI=>self _ (Same.refl _) I _ _ _ _ _ r1 dk Y c1.1 (λM1 p1 o6 b1 g1 q1=>?_) λz=>.two1 z⟩;generalize dropL clo o6=G1 at g1 q1 ⊢;apply⟨f1,R,c9,g1 _ _ gl,ixm (.of<|g1 _ _ e) (zai (j:=2) R) λhn1=>self _ g1 hn1 _ _ _ _ _ (l.same g1) (g1 _ _ dk) h2 c1.2 (λM2 p2 G2' b2 U q2=>?_) λz=>.two2 b1 z⟩;generalize dropL clo G2'=G2 at U q2 ⊢;let ai:=g1.trans U;let(o1,w1):=b1.ok rfl;let(o2,w2):=b2.ok rfl;show⟨p1,p2,_,_,R,bp.r.same ai,bp.p.same ai,bp.j.same ai,(q1.same U).k,q2.k,o1,o2,by rw[w1,w2],λO x p G3 g3 r3 cc=>fin p O G3 (ai.trans g3) r3 (.two b1 b2<|.or x) cc,λx e G3 g3=>fix e G3 (ai.trans g3)<|.two b1 b2 (.or x)⟩
 |@neg a x s1 e r1 =>
  cases mo with
  |neg Y =>
  let au:mcost s1+1<=n+1:=C;let hf:=Y.frm;apply ixm (.of e) za7 ⟨R,?_⟩;apply itF 04 ⟨R,?_⟩;apply itF 04 ⟨R,?_⟩;apply itT R ⟨R,R,f1,R,c9,gl,ixm (.of e) (zai (j:=1) R) λI=>self _ (Same.refl _) I _ _ _ _ _ r1 dk Y 00 (λM1 p1 o6 b1 g1 q1=>?_) λz=>.neg1 z⟩;generalize dropL clo o6=G1 at g1 q1 ⊢;let(o1,w1):=b1.ok rfl;apply⟨p1,M1,R,bp.r.same g1,q1,o1,λp2 m2 G2 U l f8=>?_⟩;let ai:=g1.trans U;apply⟨R,b,tl,R,bp.r.same ai,bp.p.same ai,bp.m.same ai,ai _ _ dk,hf.ok,λp3 mF G3 g3 r3 FF=>?_⟩;let ar:=ai.trans g3;let w2:m2.w=tl.length:=by rw[f8.w,←w1];rfl
  show⟨p2,p3,m2,mF,R,bp.r.same ar,bp.p.same ar,bp.m.same ar,(l.same g3).k,r3,f8.ok,FF.ok,by rw[w2,FF.w],λO x p G4 g4 r4 cc=>fin p O G4 (ar.trans g4) r4 (.neg b1<|.neg f8 FF x) cc,λx e G4 g4=>fix e G4 (ar.trans g4)<|.neg b1 (.neg f8 FF x)⟩
 |@qu a w nm x s1 ay e r1 =>
  cases mo with
  |qu hf Y =>
  simp only[y06,y0h,or_false]at ay;rcases ay with rfl|rfl
  .let au:mcost s1+1<=n+1:=C;apply ixm (.of e) za7 ⟨R,?_⟩;apply itF 04 ⟨R,?_⟩;apply itF 04 ⟨R,?_⟩;apply itF 04 ⟨R,?_⟩;apply itT R ⟨R,f1,R,c9,gl,ixm (.of e) (zai (j:=2) R)<|ixm (.of e) (zai (j:=1) R) (mkT λpl G1 n1=>⟨_,n1.g _ _ dk,_,n1.at',zah (by have:=Y.frm.ok.1;rw[y0d,y0q]at this;rw[y01,y0q];omega),λpf G2 n2 I=>?_⟩)⟩;let U:=n1.g.trans n2.g;let ef:G2 pf=G (.lst<|(tl++[nm]).map V.str):=by rw[n2.at',y13];rfl
   apply self _ U I _ _ _ _ _ (r1.same U) ef Y 00 (λM1 p1 G3' b1 g3 q3=>?_) λz=>.some1 z;generalize dropL clo G3'=G3 at g3 q3 ⊢;let ar:=U.trans g3;let(o1,w1):=b1.ok rfl;rw[y0d,y0q]at w1;show⟨_,.inl<|.of (ar _ _ dk),p1,M1,tl.length,by rw[y01],bp.r.same ar,bp.d.same ar,q3,o1,by omega,λO x p G4 g4 r4 cc=>fin p O G4 (ar.trans g4) r4 (.some b1<|.some x) cc,λx e G4 g4=>fix e G4 (ar.trans g4)<|.some b1 (.some x)⟩
  .let au:mcost s1+4<=n+1:=C;apply ixm (.of e) za7 ⟨R,?_⟩;apply itF 04 ⟨R,?_⟩;apply itF 04 ⟨R,?_⟩;apply itF 04 ⟨R,?_⟩;apply itF 04 ⟨R,?_⟩;apply itT R ⟨f1,R,c9,gl,ixm (.of e) (zai (j:=1) R)<|ixm (.of e) (zai (j:=2) R) (mkT λt1 G1 n1=>mkT λt2 G2 n2=>mkT λt3 G3 n3 I=>?_)⟩;let g3:=n1.g.trans<|n2.g.trans n3.g;apply self _ g3 I _ _ _ _ _ (.neg n3.at'<|.qu 04 (n3.g _ _ n2.at') (.neg (n3.g _ _<|n2.g _ _ n1.at')<|r1.same g3)) (g3 _ _ dk) (.neg<|.qu hf (.neg Y)) ?_ (λM p1 G4' b4 g4 q4 cc=>?_) λz=>.all z
   .change mcost s1+1+1+1<=n;omega
   .exact fin p1 M _ (g3.trans g4) q4 (.all b4) cc
abbrev Q2:Stmt:=top 56
theorem zgo:FnScope ["frame"] ["frame"] (defScope Q2):={}
include T in
theorem zjw(d:Dfn K mg "check_frame" Q2 ["frame"])(O:03 4 "is_frame" ["thing"] zww):03 5 "check_frame" ["frame"] zcx:=by
 apply d.cal zgo 07 08
 .nofun
 let(b,tl,rfl,M,h4,hl,L,q):=h;apply⟨_,(zac<|za6 (zdv<|zb4 (zae O hr 00 01<|pa_c (pv 0) zaa)) (zac zfi) zan),?_⟩;apply zax [G<|.ref b] R ?_;trivial;apply⟨_,R,⟨⟨_,.lst M⟩,λz e=>by cases e⟩,(λa xs I e=>by cases I;rw[M]at e;cases e;show zfp 00 (λz hz=>by have:=hl z hz;omega)),λH1 g1=>?_⟩;rw[show frB H (.ref b)=N by unfold frB;simp only[M];show L];show itN<|q H1 g1
abbrev Kf:Stmt:=top 57
theorem zjh:FnScope ["saying","frame"] ["saying","frame"] (defScope Kf):={}
include T in
theorem zib(d:Dfn K mg "check_let" Kf ["saying","frame"])(c:03 5 "check_frame" ["frame"] zcx)(i:03 30 "is_saying" ["thing","frame"]<|zmr treeWords 4):03 31 "check_let" ["saying","frame"] zmq:=by
 apply d.cal zjh 07 08
 .nofun
 let(v,b,tl,sy,rfl,r,M,Bq,q):=h;apply⟨_,(zab (zdl<|zae c hr 00 01 (pa_c (pv 1) zaa))<|zac (za6 (zdv<|zb4 (zae i hr 00 01<|pa_c (pv 0) (pa_c (pv 1) zaa))) (zac zfi) zan)),?_⟩;apply zax [G v,G<|.ref b] R ?_;trivial;let h4:=Bq.few;let hl:=Bq.len;apply⟨b,tl,R,M,h4,hl,Bq.fr,λH1 g1=>?_⟩;let g:=g1 _ _ M;let r1:=r.same g1;apply⟨v,.ref b,R,r1.exp Bq.wf 12,⟨⟨_,.lst g⟩,λz e=>by cases e⟩,(λa xs I e=>by cases I;rw[g]at e;cases e;show zfp 00 (λz hz=>by have:=hl z hz;omega)),λl H2 j U=>?_⟩;let:l=N:=U.mpr ⟨b,tl,sy,R,g,Bq.fr,⟨r1,Bq.wf,Bq.dp,Bq.pt⟩,Bq.ok⟩;rw[this];show itN<|q H2 (g1.trans j)
abbrev V6:Stmt:=top 68
theorem Tr:FnScope ["saying","frame","machine_of"] ["saying","frame"] (defScope V6):={}
include T in
theorem zq7{y u o J x O fb ff r fj D fp:Ad}(d:Dfn K mg "built" V6 ["saying","frame"])(T5:03 31 "check_let" ["saying","frame"] zmq)(gy:mg "bare_of"=G (.ref fb))(g:mg "fitting_of"=G (.ref ff))(pz:mg "met"=G (.ref r))(kg:mg "joined"=G (.ref fj))(I:mg "flipped"=G (.ref D))(Y:mg "dropped"=G (.ref fp))(Qan:03 1 "maker" ["bare_of","fitting_of","met","joined","flipped","dropped"]<|zi7 P w K mg base fb ff r fj D fp y qs_maker (SPN cTooGreat u o J x O)):
  CalE P w K mg base 32 "built" ["saying","frame"] (zi9 cTooGreat u qs_reduced o qs_paired J qs_met x qs_joined O qs_dropped y qs_maker):=by
 apply d.calE Tr 07 λf j A outer s H vs Q E hr h Rq=>?_
 .nofun
 let(v,b,tl,sy,rfl,tb,tk,rp,eb,L,mo,C,q,qx):=h;apply⟨_,(zab (zdl<|zae T5 hr 00 01 (pa_c (pv 0)<|pa_c (pv 1) zaa))<|zab (zao (i:=2) Tr.nd R (Or.inl R)<|zae Qan hr 00 01 (pa_c (zbt (v:=V.ref _) 01 ⟨_,gy,R⟩)<|pa_c (zbt (v:=V.ref _) 01 ⟨_,g,R⟩) (pa_c (zbt (v:=V.ref _) 01 ⟨_,pz,R⟩)<|pa_c (zbt (v:=V.ref _) 01 ⟨_,kg,R⟩) (pa_c (zbt (v:=V.ref _) 01 ⟨_,I,R⟩)<|pa_c (zbt (v:=V.ref _) 01 ⟨_,Y,R⟩) zaa)))) (zac<|zag (zqm Rq (i:=2) (k:=27) (n:=2) (sp:=(SPN cTooGreat u o J x O 16)) R (by first|show Or.inl rfl|show Or.inr (Or.inl R)|show Or.inr (Or.inr R)) (hr.mono<|by omega)<|pa_c (pv 0) (pa_c (pv 1) zaa)))),?_⟩;apply zax [G v,G<|.ref b,B] R ?_;trivial;apply⟨v,b,tl,sy,R,rp,eb,L,λH1 g1=>⟨R,tk.same g1,λf1 a H2 U ef cl=>?_⟩⟩;let l:=g1.trans U;show⟨f1,R,a,ef,ef,cl 16,R,v,b,tl,sy,R,tb.same l,rp.same l,l _ _ eb,mo,C,λM z p H3 c r3=>q M z p H3 (l.trans c) r3,λz e H3 c=>qx z e H3<|l.trans c⟩
abbrev K9:Stmt:=top 65
theorem zn7:FnScope ["frame"] ["frame"] (defScope K9):={}
include T in
theorem zut{u o J:Ad}(d:Dfn K mg "fitting" K9 ["frame"])(c:03 5 "check_frame" ["frame"] zcx)(a:03 9 "fitting_of" ["frame"]<|zff K u qs_reduced o qs_paired J qs_met):03 10 "fitting" ["frame"] (zms K u qs_reduced o qs_paired J qs_met):=by
 apply d.cal zn7 07 08
 .nofun
 let(b,tl,rfl,j,i,O,M,L,r,q):=h;apply⟨_,(zab (zdl<|zae c hr 00 01 (pa_c (pv 0) zaa))<|zac (zag<|zae a hr 00 01 (pa_c (pv 0) zaa))),?_⟩;apply zax [G<|.ref b] R ?_;trivial;show⟨b,tl,R,M,r.ok.1,r.four,L,λH1 g1=>⟨b,tl,R,j.same g1,i.same g1,O.same g1,g1 _ _ M,r.ok,λp m H2 U l e=>q p m H2 (g1.trans U) l e⟩⟩
abbrev Kh:Stmt:=top 76
theorem Qr:FnScope ["_law_saying","_law_frame_here","_law_found"] ["_law_saying","_law_frame_here"] (defScope Kh):={}
include T in
theorem zxr{y u o J x O:Ad}(d:Dfn K mg "_law_built" Kh ["_law_saying","_law_frame_here"])(g:CalE P w K mg base 32 "built" ["saying","frame"]<|zi9 cTooGreat u qs_reduced o qs_paired J qs_met x qs_joined O qs_dropped y qs_maker):03 33 "_law_built" ["_law_saying","_law_frame_here"] (zpr u qs_reduced o qs_paired J qs_met x qs_joined O qs_dropped y qs_maker):=by
 apply d.cal Qr 07 08
 .nofun
 let(v,b,tl,sy,rfl,r,C,L,p33,q):=h;apply⟨_,(zab (zao (i:=2) Qr.nd R (Or.inl R) zda)<|zab (zqa<|zjj g hr 00 01 (pa_c (pv 0)<|pa_c (zbi (zhp K) 01 T.b_list boot_list<|pa_c (pv 1) zaa) zaa) 01 T.m_TooGreat T.k_TooGreat R R R Qr.nd (i:=2) R (Or.inl R) λ_=>(zac<|zao (i:=2) Qr.nd R (Or.inl R) zda)) (zac<|zag (pv 2))),?_⟩;apply zax [G v,G<|.ref b,B] R ?_;trivial;show⟨_,.inl<|.of L,λl H1 I=>⟨v,l,tl,sy,R,r.j.same I.g,r.k.same I.g,C.same I.g,I.at',p33.letF,p33.l,p33.m,λM z p H2 U Y=>q (G M) _ H2 (I.g.trans U) z ⟨p,R,Y⟩,λz e H2 U a D=>⟨_,R,T.ms,λH3 c=>q B _ H3 (I.g.trans<|U.trans c) z R⟩⟩⟩
theorem zqz{q s:Type}{Rq:q->s->Prop}{ys:List q}{M:s}(p:i4 Rq ys [M]):∃y,Rq y M/\ys=[y]:=by
 cases p with
 |cons Y p =>
  cases p;show⟨_,Y,R⟩
theorem zvs{q s:Type}{Rq:q->s->Prop}{ys:List q}{M Nq:s}(p:i4 Rq ys [M,Nq]):∃y z,Rq y M/\Rq z Nq/\ys=[y,z]:=by
 cases p with
 |cons Y p =>
  let(z,a,rfl):=zqz p;show⟨_,z,Y,a,R⟩
abbrev Vl:Stmt:=top 77
theorem Qe:FnScope ["_law_word","_law_machines","_law_frame_here","_law_found"] ["_law_word","_law_machines","_law_frame_here"] (defScope Vl):={}
include T in
theorem zuk{u o J Pj O:Ad}(d:Dfn K mg "_law_put" Vl ["_law_word","_law_machines","_law_frame_here"])(Vq:CalE P w K mg base 8 "met" ["one","other"]<|zdh cTooGreat K u qs_reduced o qs_paired J qs_met λx y=>x&&y)(Qae:CalE P w K mg base 8 "joined" ["one","other"]<|zdh cTooGreat K u qs_reduced o qs_paired Pj qs_joined λx y=>x||y)(P9:CalE P w K mg base 7 "dropped" ["machine","track"]<|zdi cTooGreat u qs_reduced O qs_dropped)(P1:03 6 "flipped" ["machine"]<|zeg u qs_reduced)(P8:03 10 "fitting" ["frame"]<|zms K u qs_reduced o qs_paired J qs_met):03 11 "_law_put" ["_law_word","_law_machines","_law_frame_here"] (zmp u qs_reduced o qs_paired J qs_met Pj qs_joined O qs_dropped):=by
 apply d.cal Qe 07 08
 .nofun
 let(wd,l,b,ys,Ms,tl,rfl,z,Y,pr,M,hf,fm,pre,q):=h;apply⟨_,(zab (zao (i:=3) Qe.nd R (Or.inl R) zda)<|zab (zqa<|zp9 (zaj zbj (pv 0) zal<|nomark _) (zjj Vq hr 00 01 (pa_c (zap (za1 K) (pv 1) zad λ_ _=>rfl)<|pa_c (zap (za1 K) (pv 1) zad λ_ _=>rfl) zaa) 01 T.m_TooGreat T.k_TooGreat R R R Qe.nd (i:=3) R (Or.inl R) λ_=>(zac<|zao (i:=3) Qe.nd R (Or.inl R) zda)) (zp9 (zaj zbj (pv 0) zal<|nomark _) (zjj Qae hr 00 01 (pa_c (zap (za1 K) (pv 1) zad λ_ _=>rfl)<|pa_c (zap (za1 K) (pv 1) zad λ_ _=>rfl) zaa) 01 T.m_TooGreat T.k_TooGreat R R R Qe.nd (i:=3) R (Or.inl R) λ_=>(zac<|zao (i:=3) Qe.nd R (Or.inl R) zda))<|zp9 (zaj zbj (pv 0) zal<|nomark _) (zjj Vq hr 00 01 (pa_c (zae P1 hr 00 01<|pa_c (zap (za1 K) (pv 1) zad λ_ _=>rfl) zaa)<|pa_c (zae P8 hr 00 01<|pa_c (pv 2) zaa) zaa) 01 T.m_TooGreat T.k_TooGreat R R R Qe.nd (i:=3) R (Or.inl R) λ_=>(zac<|zao (i:=3) Qe.nd R (Or.inl R) zda)) (zjj P9 hr 00 01 (pa_c (zap (za1 K) (pv 1) zad λ_ _=>rfl)<|pa_c (za3 (zau K) 01 T.b_len iA<|pa_c (pv 2) zaa) zaa) 01 T.m_TooGreat T.k_TooGreat R R R Qe.nd (i:=3) R (Or.inl R) λ_=>(zac<|zao (i:=3) Qe.nd R (Or.inl R) zda)))) (zac<|zag (pv 3))),?_⟩;apply zax [G<|.str wd,G<|.ref l,G<|.ref b,B] R ?_;trivial;cases pre with
 |and D v hw =>
  let(_,_,(L,rfl,r1),(p2,rfl,r2),rfl):=zvs pr;show itT R ⟨_,.of Y,_,za7,_,.of Y,_,zai (j:=1) R,L,p2,_,_,R,z.r,z.p,z.m,r1.k,r2.k,D,v,hw,λm x p H' g r=>q (G m) _ H' g (.and x) ⟨p,R,r⟩,λx e H' g a I=>⟨_,R,T.ms,λH3 c=>q B _ H3 (g.trans c) (.and x) R⟩⟩
 |or D v hw =>
  let(_,_,(L,rfl,r1),(p2,rfl,r2),rfl):=zvs pr;show itF 04<|itT R ⟨_,.of Y,_,za7,_,.of Y,_,zai (j:=1) R,L,p2,_,_,R,z.r,z.p,z.j,r1.k,r2.k,D,v,hw,λm x p H' g r=>q (G m) _ H' g (.or x) ⟨p,R,r⟩,λx e H' g a I=>⟨_,R,T.ms,λH3 c=>q B _ H3 (g.trans c) (.or x) R⟩⟩
 |neg D hw =>
  let(_,(L,rfl,r1),rfl):=zqz pr;apply itF 04<|itF 04 (itT R ⟨_,.of Y,_,za7,L,_,R,z.r,r1,D,λp2 m2 G2 U r2 f8=>⟨b,tl,R,z.r.same U,z.p.same U,z.m.same U,U _ _ M,hf,fm,λp3 mF G3 c r3 FF=>?_⟩⟩);let C:=U.trans c;show⟨p2,p3,m2,mF,R,z.r.same C,z.p.same C,z.m.same C,(r2.same c).k,r3,f8.ok,FF.ok,by rw[f8.w,FF.w];show hw,λm x p H' g r=>q (G m) _ H' (C.trans g) (.neg f8 FF x) ⟨p,R,r⟩,λx e H' g a I=>⟨_,R,T.ms,λH3 c=>q B _ H3 (C.trans<|g.trans c) (.neg f8 FF x) R⟩⟩
 |some D hw =>
  let(_,(L,rfl,r1),rfl):=zqz pr;show itF 04<|itF 04 (itF 04 ⟨_,.of Y,_,za7,_,.inl<|.of M,L,_,tl.length,by rw[y01],z.r,z.d,r1,D,by omega,λm x p H' g r=>q (G m) _ H' g (.some x) ⟨p,R,r⟩,λx e H' g a I=>⟨_,R,T.ms,λH3 c=>q B _ H3 (g.trans c) (.some x) R⟩⟩)
abbrev Ki:Stmt:=top 78
theorem zje:FnScope ["_law_saying","_law_frame_here"] ["_law_saying","_law_frame_here"] (defScope Ki):={}
include T in
theorem zol(d:Dfn K mg "_law_parts" Ki ["_law_saying","_law_frame_here"]):03 1 "_law_parts" ["_law_saying","_law_frame_here"] zg0:=by
 apply d.cal zje 07 08
 .nofun
 let(v,b,tl,sy,rfl,C,M,h4,q):=h;apply⟨_,(zab (za6 (zaj op_eq (zap (zaf K) (pv 0) zad λ_ _=>rfl) zal<|nomark _) (zac<|zag (zaq<|pa_c (za2<|pa_c (zap (zaf K) (pv 0) zad λ_ _=>rfl) (pa_c (pv 1) zaa)) zaa)) zan)<|zab (za6 (PW.pt<|ze8 (zaj op_eq (zap (zaf K) (pv 0) zad λ_ _=>rfl) zal<|nomark _) (zdu<|zaj op_eq (zap (zaf K) (pv 0) zad λ_ _=>rfl) zal (nomark _))) (zac<|zag (zaq<|pa_c (za2<|pa_c (zap (zaf K) (pv 0) zad λ_ _=>rfl) (pa_c (pv 1) zaa)) (pa_c (za2<|pa_c (zap (zaf K) (pv 0) zad λ_ _=>rfl) (pa_c (pv 1) zaa)) zaa))) zan) (zab (za6 (zaj op_eq (zap (zaf K) (pv 0) zad λ_ _=>rfl) zal<|nomark _) (zac<|zag (zaq<|pa_c (za2<|pa_c (zap (zaf K) (pv 0) zad λ_ _=>rfl) (pa_c (zay zem (pv 1)<|zaq (pa_c (zap (zaf K) (pv 0) zad λ_ _=>rfl) zaa)) zaa)) zaa)) zan)<|zab (za6 (zaj op_eq (zap (zaf K) (pv 0) zad λ_ _=>rfl) zal<|nomark _) (zac<|zag (zaq<|pa_c (za2<|pa_c (za2<|pa_c zal (pa_c (zap (zaf K) (pv 0) zad λ_ _=>rfl)<|pa_c (za2<|pa_c zal (pa_c (zap (zaf K) (pv 0) zad λ_ _=>rfl) zaa)) zaa)) (pa_c (pv 1) zaa)) zaa)) zan) (zac<|zag (zaq zaa)))),?_⟩;apply zax [G v,G<|.ref b] R ?_;trivial;let Y:∀{a b:Str} {A Bq:Prop},¬a=b->Bq->(if decide (V.str a=V.str b)=N then A else Bq):=λh z=>itF (λe=>h<|V.str.inj e) z;cases C with
 |@bare a wd n m hw e =>
  let o:∀z:Str,z∈(["not","and","or","some","all"]:List Str)->¬wd=z:=λz hz=>by
   let all:∀w∈bareWords,∀z∈(["not","and","or","some","all"]:List Str),¬w=z:=by decide+kernel
   show all wd hw z hz
  apply ixm (.of e) za7 ⟨R,Y (o _ 04) ?_⟩;apply ixm (.of e) za7 ⟨R,Y (o _ 04) ?_⟩;apply ixm (.of e) za7 ⟨R,Y (o _ 04) ?_⟩;apply ixm (.of e) za7 ⟨R,Y (o _ 04) ?_⟩;apply ixm (.of e) za7 ⟨R,Y (o _ 04) ?_⟩;show mkT λp H1 I=>q p [] H1 I.g I.at' .nil
 |@neg a x s1 e r1 =>
  apply ixm (.of e) za7 ⟨R,itT R ?_⟩;apply ixm (.of e) (zai (j:=1) R)<|mkT λt H1 I=>mkT λD H2 c=>q D _ H2 (I.g.trans c.g) c.at'<|.cons ⟨t,x,b,R,c.g _ _ I.at',r1.same<|I.g.trans c.g,(I.g.trans c.g) _ _ M⟩ .nil
 |@two a wd x y s1 s2 hw e r1 l =>
  apply ixm (.of e) za7 ⟨R,Y (zu7 wd hw) ?_⟩;let fin:∀(t1 i D:Ad) (H1 H2 H3:Hp),New H t1 (.tup [x,.ref b]) H1->New H1 i (.tup [y,.ref b]) H2->New H2 D (.lst [.ref t1,.ref i]) H3->Q (.ref D) H3:=λt1 i D H1 H2 H3 I c r=>by
   let g:=I.g.trans<|c.g.trans r.g;show q D _ H3 g r.at'<|.cons ⟨t1,x,b,R,(c.g.trans r.g) _ _ I.at',r1.same g,g _ _ M⟩ (.cons ⟨i,y,b,R,r.g _ _ c.at',l.same g,g _ _ M⟩ .nil)
  simp only[y06,y0h,or_false]at hw;rcases hw with rfl|rfl
  .exact ixm (.of e) za7 ⟨R,itT R<|ixm (.of e) (zai (j:=1) R) (mkT λt1 H1 I=>ixm (.of<|I.g _ _ e) (zai (j:=2) R)<|mkT λi H2 c=>mkT λD H3 r=>fin t1 i D H1 H2 H3 I c r)⟩
  .refine ixm (.of e) za7 ⟨R,itF 04 ?_⟩;show ixm (.of e) za7 ⟨R,itT R<|ixm (.of e) (zai (j:=1) R) (mkT λt1 H1 I=>ixm (.of<|I.g _ _ e) (zai (j:=2) R)<|mkT λi H2 c=>mkT λD H3 r=>fin t1 i D H1 H2 H3 I c r)⟩
 |@qu a wd nm x s1 hw e r1 =>
  let o:∀z:Str,z∈(["not","and","or"]:List Str)->¬wd=z:=λz hz=>by
   let all:∀w∈(["some","all"]:List Str),∀z∈(["not","and","or"]:List Str),¬w=z:=by decide+kernel
   show all wd hw z hz
  apply ixm (.of e) za7 ⟨R,Y (o _ 04) ?_⟩;apply ixm (.of e) za7 ⟨R,Y (o _ 04) ?_⟩;apply ixm (.of e) za7 ⟨R,Y (o _ 04) ?_⟩;simp only[y06,y0h,or_false]at hw;rcases hw with rfl|rfl
  .refine ixm (.of e) za7 ⟨R,itT R ?_⟩;apply ixm (.of e) (zai (j:=2) R)<|ixm (.of e) (zai (j:=1) R) (mkT λpl G1 I=>⟨_,I.g _ _ M,_,I.at',zah (by rw[y01,y0q];omega),λpf U c=>mkT λt u r=>mkT λD L J=>?_⟩);let g:=I.g.trans<|c.g.trans (r.g.trans J.g);show q D _ L g J.at'<|.cons ⟨t,x,pf,R,J.g _ _ r.at',r1.same g,by rw[(r.g.trans J.g) _ _ c.at',y13];rfl⟩ .nil
  .refine ixm (.of e) za7 ⟨R,itF 04 ?_⟩;apply ixm (.of e) za7 ⟨R,itT R ?_⟩;apply ixm (.of e) (zai (j:=1) R)<|ixm (.of e) (zai (j:=2) R) (mkT λt1 G1 I=>mkT λi U c=>mkT λO u r=>mkT λD L J=>?_);let g:=I.g.trans<|c.g.trans (r.g.trans J.g);show q D _ L g J.at'<|.cons ⟨O,.ref i,b,R,J.g _ _ r.at',.qu 04 ((r.g.trans J.g) _ _ c.at')<|.neg ((c.g.trans<|r.g.trans J.g) _ _ I.at') (r1.same g),g _ _ M⟩ .nil
theorem zt2:∀(s:Sy) (tl:List Str),(prts s tl).length<=2
 |.bare _ _ _,_=>y18 _
 |.neg _,_=>y3i 1
 |.two _ _ _,_=>y04 _
 |.qu w n s,tl=>by
  change(if w="all" then[(Sy.qu "some" n<|.neg s,tl)]else[(s,tl++[n])]).length<=2;split<;>show y3i 1
theorem zvz{H:Hp}{v:V}{s:Sy}{tl:List Str}(r:Rep H v s)(h:P33 tl s):∀p∈prts s tl,P33 p.2 p.1/\pq p.1<pq s:=by
 cases r with
 |bare=>intro p L;cases L
 |neg e r1=>intro p L;cases y0b.mp L;show⟨h.neg,y29 _⟩
 |two j e r1 l =>
  intro p L;let:=zv0;simp only[prts,y06,y0h,or_false]at L;rcases L with rfl|rfl
  .exact⟨h.two.1,Nat.lt_succ_of_le<|y4g _ _⟩
  .exact⟨h.two.2,Nat.lt_succ_of_le<|y4j _ _⟩
 |qu j e r1 =>
  intro p L;simp only[y06,y0h,or_false]at j;rcases j with rfl|rfl
  .cases y0b.mp L;show⟨h.some,y29 _⟩
  .cases y0b.mp L;show⟨h.all,by change pq _+1+1<pq _+3;omega⟩
abbrev Kp:Stmt:=top 79
theorem Qa:FnScope ["_law_saying","_law_frame_here","_law_parts_here","_law_part","_law_inner","_law_machines","_law_due","_law_word"] ["_law_saying","_law_frame_here"] (defScope Kp):={}
include T in
theorem zoh{Pk Pr o Pm Pj Pd:Ad}(d:Dfn K mg "_law_right" Kp ["_law_saying","_law_frame_here"])(T8:03 1 "_law_parts" ["_law_saying","_law_frame_here"] zg0)(Ko:03 33 "_law_built" ["_law_saying","_law_frame_here"]<|zpr Pr qs_reduced o qs_paired Pm qs_met Pj qs_joined Pd qs_dropped Pk qs_maker)(P2:03 11 "_law_put" ["_law_word","_law_machines","_law_frame_here"]<|zmp Pr qs_reduced o qs_paired Pm qs_met Pj qs_joined Pd qs_dropped):∀n,03 (34+n) "_law_right" ["_law_saying","_law_frame_here"] (zgy Pr qs_reduced o qs_paired Pm qs_met Pj qs_joined Pd qs_dropped Pk qs_maker n):=by
 intro n
 induction n with
 |zero =>
  apply d.cal (k:=33) Qa 07 08
  .nofun
  .let(v,b,tl,sy,_,_,_,_,_,I,_):=h;show Xa I (by have:=zv0 sy;omega)
 |succ n Kn =>
 change 03 (34+n+1) "_law_right" ["_law_saying","_law_frame_here"] _;apply d.cal Qa 07 08
 .nofun
 let(v,b,tl,sy,rfl,tb,rp,eb,p33,I,q):=h;let Y:=ze9 hr 8 04;apply⟨_,(zab (zao (i:=2) Qa.nd R (Or.inl R)<|zae T8 hr 00 01 (pa_c (pv 0)<|pa_c (pv 1) zaa))<|zab (zey PassesOwn.never R (za8 K<|pv 2) (zdn K (n:=2) R<|zba (zam (i:=3) Qa.nd 01<|Or.inl 01) (zba (zam (i:=4) Qa.nd 01<|Or.inl 01) zdm))<|zac (za6 (zdv<|zb4 (zae Kn hr 00 01<|pa_c (pv 3) (pa_c (pv 4) zaa))) (zac<|zag zf2) zan)) (zab (za6 (zaj (zm4 Y) (pv 2) (zaq zaa)<|nomark _) (zac<|zag (zbh zxm (zae Ko hr 00 01<|pa_c (pv 0) (pa_c (pv 1) zaa)) zda<|nomark _)) zan)<|zab (zek (i:=5) Qa.nd R (Or.inl R) ["_law_part","_law_inner"] [] (CompOk.of R 01 01) 01 (za8 K<|pv 2) (λ_ _ _ _ _=>(zdn K (n:=2) R<|zba (zam (i:=0) (show List.Nodup (["_law_part","_law_inner"]:List Str) by decide+kernel) 01<|Or.inl 01) (zba (zam (i:=1) (show List.Nodup (["_law_part","_law_inner"]:List Str) by decide+kernel) 01<|Or.inl 01) zdm))) (λ_ _ _ _ _=>za9) λ_ _ _ _ _=>(zae Ko hr 00 01<|pa_c (pv 0) (pa_c (pv 1) zaa))) (zab (zao (i:=6) Qa.nd R (Or.inl R) zda)<|zdk (za6 (zaj (zzc Y) zda (pv 5)<|by with_unfolding_all rfl) (zab (zao (i:=7) Qa.nd R (Or.inl R)<|zap (zaf K) (pv 0) zad (λ_ _=>rfl))<|zdk (za6 (zaj zbj (pv 7) zal<|nomark _) (zac<|zao (i:=7) Qa.nd R (Or.inl R) zal) zan) (zac<|zao (i:=6) Qa.nd R (Or.inl R) (zae P2 hr 00 01<|pa_c (pv 7) (pa_c (pv 5)<|pa_c (pv 1) zaa)))) zan) (zac<|zag (zbh (zm4 Y) (zae Ko hr 00 01<|pa_c (pv 0) (pa_c (pv 1) zaa)) (pv 6)<|nomark _))))),?_⟩;apply zax [G v,G<|.ref b,B,B,B,B,B,B] R ?_;trivial;let p4:=p33.l.frm.ok.1;apply⟨v,b,tl,sy,R,rp,eb,p4,λD xs H1 g1 eD pr=>⟨⟨_,.of eD⟩,?_⟩⟩;let lx:=SS.Paired.len pr;let l2:(prts sy tl).length<=2:=zt2 sy tl;apply zl1 (K:=K) (a:=D) (xs:=xs) (λj σ H2=>Same H1 H2/\∃v3 v4:Option V,σ=[G v,G<|.ref b,G<|.ref D,v3,v4,B,B,B]) ⟨Same.refl _,B,B,R⟩ (λj σ H2 _ z=>.of<|z.1 _ _ eD) ?_ ?_
 .rintro j y σ H2 C ⟨g2,v3,v4,rfl⟩;let(pp,ep,t,x,b',rfl,et,rx,f6):=SS.Paired.at pr C;let(k1,k2):=zvz rp p33 pp<|y0l ep;trivial;apply⟨_,.of<|g2 _ _ et,R,_,_,R,_,_,R,R,x,b',pp.2,pp.1,R,tb.same<|g1.trans g2,rx.same g2,g2 _ _ f6,k1,by omega,λH3 c=>?_⟩;show itN<|g2.trans c
 .rintro σ H2 ⟨g2,v3,v4,rfl⟩;let ai:=g1.trans g2;trivial;apply mkT λp0 H3 n3=>?_;let c:=ai.trans n3.g;let kh:=(g2.trans n3.g) _ _ eD;by_cases O:xs=[]
  .subst O;apply⟨N,zej (k:=7) (.of kh) (.of n3.at') R (λ_=>N) λj h=>Xa h<|y2n _,iteT ⟨v,b,tl,sy,R,tb.same c,rp.same c,c _ _ eb,p33,λr y H4 g4 br mo=>?_⟩⟩;let:∃M,r=G M:=by
    cases rp with
    |bare=>cases br;show⟨_,R⟩
    |neg=>cases lx
    |two=>cases lx
    |@qu a w n x s1 hw =>
     exfalso;revert lx;change 0=(if w="all" then[(Sy.qu "some" n<|.neg s1,tl)]else[(s1,tl++[n])]).length->False;split<;>show nofun
   let(M,rfl):=this;let(p,rfl,_):=mo;show q H4<|c.trans g4
  apply⟨Fa,zfy (.of kh) (.of n3.at') λz=>O<|y32.mp z,?_⟩;apply iteF ⟨⟨_,.of kh⟩,?_⟩;apply zgr (n:=xs.length) (λσ=>∃v w,σ=[v,w]) (ItM<|prts sy tl) 00 ⟨_,_,R⟩ (λi H5 hi gg=>⟨_,xs[i],.of<|gg _ _ kh,y00 _⟩) (λH5 gg=>⟨_,.of<|gg _ _ kh,y04 _⟩) ?_ ?_
  .rintro D2 i ys σ H5 x H5' hi gg u L hl C ⟨v,w,rfl⟩ ⟨rfl,yx⟩;let ex:=yx _<|.of (gg _ _ kh);let(pp,ep,t,x,b',rfl,et,rx,f6):=SS.Paired.at pr ex;let(k1,k2):=zvz rp p33 pp<|y0l ep;let g5:=g2.trans<|n3.g.trans gg;trivial;show⟨_,.of<|g5 _ _ et,R,_,_,R,_,_,R,R,x,b',pp.2,pp.1,R,tb.same<|g1.trans g5,rx.same g5,g5 _ _ f6,k1,λr y H6 g6 br mo=>zb1 (λj y H H' ts z=>z.ts ts) 00 hi u (g6 _ _ L) hl C g6.tups (gg.trans g6) ⟨_,_,R⟩ ⟨pp,r,ep,br,mo⟩⟩
  intro D5 ys H5 hD5 g5 d8 hl C;let g15:=c.trans g5;let qa:∀z∈ys,z=.non\/∃t,z=V.ref t/\∃ws,H5 t=G (.tup ws):=λz hz=>by
   let(j,ej):=y3g hz;let(pp,r,_,_,mo):=C j z ej;cases r with
   |none=>show .inl mo
   |some M =>
    let(p,rfl,_,_,_,e,_):=mo;show .inr ⟨p,R,_,e⟩
  let aa:(ys.any isN=N/\Br sy tl B)\/(ys.any isN=Fa/\∃a w0 zs w' Ms,v=.ref a/\H a=G (.tup (.str w0::zs))/\(w0="all"/\w'="not"\/w0≠"all"/\w'=w0)/\i4 (λy M=>MoN H5 y<|G M) ys Ms/\Pre tl w' Ms/\∀r,PutM tl w' Ms r->Br sy tl r):=by
   let one:∀{s1:Sy} {tl1:List Str},prts sy tl=[(s1,tl1)]->∃y r,ys=[y]/\Br s1 tl1 r/\MoN H5 y r:=λ{s1 tl1} e=>by
    rw[e]at lx C;let(y,rfl):=List.length_eq_one_iff.mp<|hl.trans lx;let(pp,r,J,br,mo):=C 0 y rfl;cases J;show⟨y,r,R,br,mo⟩
   cases rp with
   |bare=>show Xa (y32.mp lx) O
   |neg e r1 =>
    let(y,r,rfl,br,mo):=one rfl;cases r with
    |none=>cases mo;show .inl ⟨R,.neg1 br⟩
    |some M =>
     let(p,rfl,rm):=mo;let(o1,w1):=br.ok rfl;show .inr ⟨R,_,_,_,_,[M],R,e,.inr ⟨by decide,R⟩,.cons ⟨p,R,rm⟩ .nil,.neg o1 w1,λr pu=>.neg br pu⟩
   |@qu a w n x s1 hw e r1 =>
    simp only[y06,y0h,or_false]at hw;rcases hw with rfl|rfl
    .let(y,r,rfl,br,mo):=one rfl;cases r with
     |none=>cases mo;show .inl ⟨R,.some1 br⟩
     |some M =>
      let(p,rfl,rm):=mo;let(o1,w1):=br.ok rfl;rw[y0d,y0q]at w1;show .inr ⟨R,_,_,_,_,[M],R,e,.inr ⟨by decide,R⟩,.cons ⟨p,R,rm⟩ .nil,.some o1 w1,λr pu=>.some br pu⟩
    .let(y,r,rfl,br,mo):=one rfl;cases r with
     |none=>cases mo;show .inl ⟨R,.all<|.neg1 br⟩
     |some M =>
      let(p,rfl,rm):=mo;let(o1,w1):=br.ok rfl;show .inr ⟨R,_,_,_,_,[M],R,e,.inl ⟨R,R⟩,.cons ⟨p,R,rm⟩ .nil,.neg o1 w1,λr pu=>.all<|.neg br pu⟩
   |@two a w x y s1 s2 hw e r1 r2 =>
    let l2':ys.length=2:=hl.trans lx;obtain⟨y1,y2,rfl⟩:∃y1 y2,ys=[y1,y2]:=by
     match ys,l2' with
     |[y1,y2],_=>show⟨y1,y2,R⟩
    let(pp,ra,J,b1,mo1):=C 0 y1 rfl;cases J;let(pp,rb,g,b2,mo2):=C 1 y2 rfl;cases g;cases ra with
    |none=>cases mo1;show .inl ⟨R,.two1 b1⟩
    |some M1 =>
     let(p1,rfl,cy):=mo1;cases rb with
     |none=>cases mo2;show .inl ⟨R,.two2 b1 b2⟩
     |some M2 =>
      let(p2,rfl,dh):=mo2;let(o1,w1):=b1.ok rfl;let(o2,w2):=b2.ok rfl;let pm:i4 (λy M=>MoN H5 y<|G M) [V.ref p1,V.ref p2] [M1,M2]:=.cons ⟨p1,R,cy⟩<|.cons ⟨p2,R,dh⟩ .nil;simp only[y06,y0h,or_false]at hw;rcases hw with rfl|rfl
      .exact .inr ⟨R,_,_,_,_,[M1,M2],R,e,.inr ⟨by decide,R⟩,pm,.and o1 o2<|w1.trans w2.symm,λr pu=>.two b1 b2 pu⟩
      .exact .inr ⟨R,_,_,_,_,[M1,M2],R,e,.inr ⟨by decide,R⟩,pm,.or o1 o2<|w1.trans w2.symm,λr pu=>.two b1 b2 pu⟩
  apply⟨λl H'=>Same H5 H'/\∃y r v7,l=[G v,G<|.ref b,G<|.ref D,v3,v4,G<|.ref D5,G y,v7]/\Br sy tl r/\MoN H' y r,?_,?_⟩
  .trivial;apply⟨ys,.of d8,qa,?_⟩;rcases aa with⟨ha,U⟩|⟨ha,a,w0,zs,w',Ms,rfl,ev,hw,pm,pre,qr⟩
   .rw[ha];show iteF ⟨Same.refl _,B,U,R⟩
   .rw[ha];apply iteT<|ixm (.of<|g15 _ _ ev) za7 ?_;apply⟨λl H'=>H'=H5/\l=[G<|.ref a,G<|.ref b,G<|.ref D,v3,v4,G<|.ref D5,G .non,G<|.str w'],?_,?_⟩
    .trivial;rcases hw with⟨rfl,rfl⟩|⟨h,rfl⟩
     .exact itT R R
     .exact itF h R
    .rintro l H' ⟨rfl,rfl⟩;trivial;show⟨w',D5,b,ys,Ms,tl,R,(tb.same g15).j,d8,pm,g15 _ _ eb,p33.fr,p33.l.frm,pre,λr y H6 g6 pu mo=>⟨g6,r,qr r pu,mo⟩⟩
  .rintro l H6 ⟨g6,y,r,v7,rfl,br,mo⟩;trivial;let o7:=g15.trans g6;apply⟨v,b,tl,sy,R,tb.same o7,rp.same o7,o7 _ _ eb,p33,λr' y' H7 g7 br' mo'=>?_⟩;let e:=br.one br';subst e;cases r with
   |none =>
    cases mo;cases mo';show⟨N,rc_nn,q H7<|o7.trans g7⟩
   |some M =>
    let(p,rfl,r1):=mo;let(p',rfl,r2):=mo';show⟨N,zw5 r2<|r1.same g7,q H7<|o7.trans g7⟩
abbrev Kg:Stmt:=top 71
theorem zjf:FnScope ["_law_cell"] ["_law_cell"] (defScope Kg):={}
include T in
theorem zun(d:Dfn K mg "_law_mixed" Kg ["_law_cell"]):03 1 "_law_mixed" ["_law_cell"] zhy:=by
 apply d.cal zjf 07 08
 .nofun
 let(c,rfl,q):=h;apply⟨_,(zac<|zag (zay zdd (zay zv3 (pv 0) zad) zad)),?_⟩;apply zax [G<|.int c] R ?_;trivial;show⟨.inr ⟨by decide,by decide⟩,by decide,q _ (Int.emod_nonneg _ 04)<|Int.emod_lt_of_pos _ 04⟩
abbrev Kj:Stmt:=top 75
theorem Vb:FnScope ["_law_cell","_law_mixed_here"] ["_law_cell"] (defScope Kj):={}
include T in
theorem zon(d:Dfn K mg "_law_frame" Kj ["_law_cell"])(Q0:03 1 "_law_mixed" ["_law_cell"] zhy):03 2 "_law_frame" ["_law_cell"] zg1:=by
 apply d.cal Vb 07 08
 .nofun
 let(n,rfl,q):=h;apply⟨_,(zab (zao (i:=1) Vb.nd R (Or.inl R)<|zae Q0 hr 00 01 (pa_c (pv 0) zaa))<|zac (zag<|zap (za1 K) (zaq<|pa_c (zaq zaa) (pa_c (zaq<|pa_c zal zaa)<|pa_c (zaq<|pa_c zal zaa) (pa_c (zaq<|pa_c zal (pa_c zal zaa))<|pa_c (zaq<|pa_c zal (pa_c zal zaa)) (pa_c (zaq<|pa_c zal (pa_c zal zaa))<|pa_c (zaq<|pa_c zal zaa) (pa_c (zaq<|pa_c zal (pa_c zal zaa)) zaa))))) (zay zdd (pv 1) zad) (λ_ _=>rfl))),?_⟩;apply zax [G<|.int n,B] R ?_;trivial;apply⟨n,R,λr h0 Y=>?_⟩;apply mkT λp0 G0 e=>mkT λL C m1=>mkT λp2 G2 m2=>mkT λU G3 D=>mkT λl G4 y=>mkT λx G5 p=>mkT λo G6 I=>mkT λp7 G7 m7=>mkT λp8 M m8=>⟨by decide,_,.of m8.at',?_⟩;let g:=e.g.trans m1.g;let v:=g.trans m2.g;let O:=v.trans D.g;let J:=O.trans y.g;let a5:=J.trans p.g;let a6:=a5.trans I.g;let a7:=a6.trans m7.g;let b7:=m8.g;let z:=m7.g.trans b7;let b5:=I.g.trans z;let a:=p.g.trans b5;let j:=y.g.trans a;let b2:=D.g.trans j;let u:=m2.g.trans b2;let b0:=m1.g.trans u;let c:=a7.trans m8.g;rcases(show r%8=0\/r%8=1\/r%8=2\/r%8=3\/r%8=4\/r%8=5\/r%8=6\/r%8=7 by omega)with h|h|h|h|h|h|h|h<;>rw[h]
 .exact⟨_,R,q p0 [] M e.nil c (b0 _ _ e.at') ⟨by decide+kernel,by decide+kernel,by decide⟩ 04⟩
 .exact⟨_,R,q L ["x"] M (e.g.free m1.nil) c (u _ _ m1.at') ⟨by decide+kernel,by decide+kernel,by decide⟩ 04⟩
 .exact⟨_,R,q p2 ["X"] M (g.free m2.nil) c (b2 _ _ m2.at') ⟨by decide+kernel,by decide+kernel,by decide⟩ 04⟩
 .exact⟨_,R,q U ["x","X"] M (v.free D.nil) c (j _ _ D.at') ⟨by decide+kernel,by decide+kernel,by decide⟩ 04⟩
 .exact⟨_,R,q l ["X1","x"] M (O.free y.nil) c (a _ _ y.at') ⟨by decide+kernel,by decide+kernel,by decide⟩ 04⟩
 .exact⟨_,R,q x ["x","x1"] M (J.free p.nil) c (b5 _ _ p.at') ⟨by decide+kernel,by decide+kernel,by decide⟩ 04⟩
 .exact⟨_,R,q o ["X"] M (a5.free I.nil) c (z _ _ I.at') ⟨by decide+kernel,by decide+kernel,by decide⟩ 04⟩
 .exact⟨_,R,q p7 ["x12","X"] M (a6.free m7.nil) c (b7 _ _ m7.at') ⟨by decide+kernel,by decide+kernel,by decide⟩ 04⟩
abbrev Q5:Stmt:=top 70
theorem zgl:FnScope ["_law_script","_law_k"] ["_law_script","_law_k"] (defScope Q5):={}
include T in
theorem zxs(d:Dfn K mg "_law_cell_at" Q5 ["_law_script","_law_k"]):03 1 "_law_cell_at" ["_law_script","_law_k"] (zk2 K):=by
 apply d.cal zgl 07 08
 .nofun
 let(a,ns,k,rfl,j,g,q):=h;apply⟨_,(zab (za6 (zaj zqu (pv 1) (za3 (zau K) 01 T.b_len iA<|pa_c (pv 0) zaa)<|nomark _) (zac<|zag (zap (za1 K) (pv 0) (pv 1) λ_ _=>rfl)) zan)<|zac (zag zad)),?_⟩;apply zax [G<|.ref a,G<|.int k] R ?_;trivial;apply⟨_,.inl j,ite2 (λc=>?_) λ_=>q 0⟩;let c':=of_decide_eq_true c;rw[y01]at c';let D:k.toNat<ns.length:=by omega
 let I:k=((k.toNat:Nat):Int):=by omega
 let e:atI (ns.map V.int) ((k.toNat:Nat):Int)=G (.int ns[k.toNat]):=zai (by simp[D]);rw[←I]at e;show⟨_,j,_,e,q _⟩
abbrev Vd:Stmt:=top 72
theorem Q7:FnScope ["_law_frame_here","_law_number","_law_great","_law_some"] ["_law_frame_here","_law_number","_law_great"] (defScope Vd):={}
include T in
theorem zum(d:Dfn K mg "_law_new" Vd ["_law_frame_here","_law_number","_law_great"]):03 1 "_law_new" ["_law_frame_here","_law_number","_law_great"] zhx:=by
 apply d.cal Q7 07 08
 .nofun
 let(b,tl,n,y,rfl,I,M,T1,C,q):=h;apply⟨_,(zab (zao (i:=3) Q7.nd R (Or.inl R)<|zaq (pa_c zal<|pa_c zal (pa_c zal<|pa_c zal zaa)))<|zdk (za6 (zb4<|pv 2) (zac<|zao (i:=3) Q7.nd R (Or.inl R) (zaq<|pa_c zal (pa_c zal<|pa_c zal (pa_c zal zaa)))) zan) (zab (zao (i:=3) Q7.nd R (Or.inl R)<|zay zem (zb9 (zh1 K) (pv 3) (zck<|zay zdd (pv 1) zad) zel) (zb9 (zh1 K) (pv 3) zel<|zck (zay zdd (pv 1) zad)))<|zac (zag<|zap (za1 K) (zav ["_law_name"] [(0,"_law_frame_here")] (CompOk.of R 01 01) 01 (za8 K<|pv 3) (λ_ _ _ _ _=>(zam (i:=0) (show List.Nodup (["_law_name","_law_frame_here"]:List Str) by decide+kernel) 01<|Or.inl 01)) (λ_ _ _ _ _=>(zm2<|zaj (zf3 K) (pv 0) (pv 1) (by with_unfolding_all rfl))) λ_ _ _ _ _=>(pv 0)) zad (λ_ _=>rfl)))),?_⟩;apply zax [G<|.ref b,G<|.int n,G<|.bl y,B] R ?_;trivial;apply mkT λY H0 n0=>⟨λl H'=>∃p',l=[G<|.ref b,G<|.int n,G<|.bl y,G<|.ref p']/\Same H H'/\H' p'=G (.lst<|(if y=N then sts11 else pls11).map V.str),?_,?_⟩
 .trivial;cases y with
  |true=>show iteT<|mkT λp1 H1 n1=>⟨n0.g.trans n1.g,n1.at'⟩
  |false=>show iteF ⟨n0.g,n0.at'⟩
 rintro l H' ⟨p',rfl,g,ep⟩;trivial;let h4:0<=n%4/\n%4<4:=⟨by omega,by omega⟩;obtain⟨j,o⟩:∃j:Nat,n%4=(j:Int):=⟨(n%4).toNat,by omega⟩;let hL:(if y=N then sts11 else pls11).Nodup/\(if y=N then sts11 else pls11).length=4:=by cases y<;>decide+kernel
 generalize hLL:(if y=N then sts11 else pls11)=L at hL ep q;rw[o];apply⟨by decide,_,.of ep,λp1 H1 n1=>⟨by decide,_,.of<|n1.g _ _ ep,λp2 H2 c=>?_⟩⟩;rw[zcp]at n1;rw[zyh]at c;apply⟨_,c.g _ _ n1.at',_,c.at',zah (by rw[y10,y0t,y01];omega),λp3 H3 r=>?_⟩;let e3:H3 p3=G (.lst<|(L.drop j++L.take j).map V.str):=by rw[r.at',y13,List.map_drop,List.map_take]
 let g3:Same H H3:=g.trans<|n1.g.trans (c.g.trans r.g);let hl8:(L.drop j++L.take j).length<=8:=by rw[y0d,y10,y0t];omega
 apply⟨⟨_,.of e3⟩,zl8 (K:=K) (a:=p3) (xs:=(L.drop j++L.take j).map V.str) (λσ=>∃v,σ=[v,G<|.ref b]) (λv=>!inV v (tl.map V.str)) id (by rw[y01];omega) (.of e3) ⟨_,R⟩ ?_ ?_⟩
 .rintro D i σ H4 x hi J O e u ae ⟨v,rfl⟩;let(z,mz,rfl):=y0j.mp J;let hl:((L.drop j++L.take j).map V.str).length<=1000:=by rw[y01];omega
  trivial;apply⟨_,.inl<|.of ((g3.trans e) _ _ M),R,zj8,?_⟩;cases hz:inV (V.str z) (tl.map V.str)with
  |true=>show iteF<|zio O (by change(!inV _ _)=Fa;rw[hz];rfl) ae e ⟨_,R⟩
  |false=>show iteT<|zin hl O (by change(!inV _ _)=N;rw[hz];rfl) u ae e ⟨_,R⟩ R
 intro D H4 u U eD;let(z,zs,ezs):=free11 hL.1 hL.2 C j;let p:H4 D=G (.lst<|((L.drop j++L.take j).filter λz=>decide (z∉tl)).map V.str):=by
  rw[eD,y4k,y4l];congr 3;apply y49 λz _=>?_;change(!inV (V.str z) (tl.map V.str))=_;rw[zrw];by_cases h:z∈tl<;>simp[h]
 rw[ezs]at p;let hz:=y1i.mp (show z∈(L.drop j++L.take j).filter (λz=>decide (z∉tl)) by rw[ezs];show y0c);apply ixm (.of p) za7<|q z H4 (g3.trans U) ?_ (of_decide_eq_true hz.2);rcases y0v.mp hz.1 with h|h
 .exact y27 h
 .exact y1r h
abbrev K7:Stmt:=top 73
theorem Qb:FnScope ["_law_number","_law_frame_here","_law_places","_law_sets","_law_words","_law_word","_law_ones","_law_others"] ["_law_number","_law_frame_here"] (defScope K7):={}
include T in
theorem zq9(d:Dfn K mg "_law_bare" K7 ["_law_number","_law_frame_here"]):03 1 "_law_bare" ["_law_number","_law_frame_here"] zfu:=by
 apply d.cal Qb 07 08
 .nofun
 let(b,tl,n,rfl,I,eb,T1,al,q):=h;let hu:=ze9 hr 8 04;apply⟨_,(zab (zao (i:=2) Qb.nd R (Or.inr R)<|zav ["_law_name"] [] (CompOk.of R 01 01) 01 (za8 K<|pv 1) (λ_ _ _ _ _=>(zam (i:=0) (show List.Nodup (["_law_name"]:List Str) by decide+kernel) 01<|Or.inl 01)) (λ_ _ _ _ _=>(zm2<|zty zqv zqv zal (zap zwd (pv 0) zad λ_ _=>rfl) zal)) (λ_ _ _ _ _=>(pv 0)))<|zab (zek (i:=3) Qb.nd R (Or.inl R) ["_law_name"] [(2,"_law_places")] (CompOk.of R 01 01) 01 (za8 K<|pv 1) (λ_ _ _ _ _=>(zam (i:=0) (show List.Nodup (["_law_name","_law_places"]:List Str) by decide+kernel) 01<|Or.inl 01)) (λ_ _ _ _ _=>(zm2<|zaj (zf3 K) (pv 0) (pv 1) (by with_unfolding_all rfl))) λ_ _ _ _ _=>(pv 0)) (zab (zao (i:=4) Qb.nd R (Or.inl R)<|zay zqr (zaq<|pa_c zal (pa_c zal<|pa_c zal zaa)) (zbi zgg 01 T.b_int boot_int<|pa_c (zbh (zlk K hu) (pv 2) (zaq zaa)<|nomark _) zaa))<|zdk (za6 (zaj (zlk K hu) (pv 3) (zaq zaa)<|nomark _) (zac<|zao (i:=4) Qb.nd R (Or.inl R) (zay zem (zay zem (pv 4)<|zaq (pa_c zal zaa))<|zay zqr (zaq<|pa_c zal (pa_c zal<|pa_c zal zaa)) (zbi zgg 01 T.b_int boot_int<|pa_c (zbh (zlk K hu) (pv 2) (zaq zaa)<|nomark _) zaa))) zan) (zab (zao (i:=5) Qb.nd R (Or.inl R)<|zap (za1 K) (pv 4) (zay zdd (pv 0)<|za3 (zau K) 01 T.b_len iA (pa_c (pv 4) zaa)) (λ_ _=>rfl))<|zab (zao (i:=6) Qb.nd R (Or.inl R)<|pv 2) (zab (zao (i:=7) Qb.nd R (Or.inl R)<|pv 2)<|zdk (za6 (zaj zbj (pv 5) zal<|nomark _) (zac<|zao (i:=6) Qb.nd R (Or.inl R) (pv 3)) zan) (zdk (za6 (PW.pt<|ze8 (zaj zbj (pv 5) zal<|nomark _) (zdu<|zaj zbj (pv 5) zal (nomark _))) (zac<|zao (i:=7) Qb.nd R (Or.inl R) (pv 3)) zan)<|zac (zag<|za2 (pa_c (pv 5)<|pa_c (zap (za1 K) (pv 6) (zay zdd (zay zf4 (pv 0) zad)<|za3 (zau K) 01 T.b_len iA (pa_c (pv 6) zaa)) λ_ _=>rfl) (pa_c (zap (za1 K) (pv 7) (zay zdd (zay zf4 (pv 0) zad)<|za3 (zau K) 01 T.b_len iA (pa_c (pv 7) zaa)) λ_ _=>rfl) zaa)))))))),?_⟩;apply zax [G<|.int n,G<|.ref b,B,B,B,B,B,B] R ?_;trivial;let h4:=T1.h4;let hfl:∀p:Str->Bool,(tl.filter p).length<=4:=λp=>y19 (y2o _ _) h4;apply⟨⟨_,.of eb⟩,zl8 (K:=K) (a:=b) (xs:=tl.map V.str) (λσ=>∃v,σ=[v]) (λv=>match v with|.str z=>isPl z|_=>Fa) id (by rw[y01];omega) (.of eb) ⟨_,R⟩ ?_ ?_⟩
 .rintro D i σ H4 x hi hm O e u ae ⟨v,rfl⟩;let(z,mz,rfl):=y0j.mp hm;let hl:(tl.map V.str).length<=1000:=by rw[y01];omega
  trivial;rcases T1.sub z mz with hz|hz
  .let(Y,M,h3,h5):=ltr11 hz;apply⟨zah 00,_,Y,?_⟩;rw[M,h3];show iteT<|iteT (zin hl O (pl11 hz).1 u ae e ⟨_,R⟩ R)
  .let(Y,M,h5):=ltrS11 hz;apply⟨zah 00,_,Y,?_⟩;rw[M];show iteF<|zio O (st11 hz).1 ae e ⟨_,R⟩
 intro o H1 dy g1 mi;let J:H1 o=G (.lst<|(tl.filter λz=>isPl z).map V.str):=by rw[mi,y4k,y4l];rfl
 apply⟨⟨_,.of<|g1 _ _ eb⟩,zl8 (K:=K) (a:=b) (xs:=tl.map V.str) (λσ=>∃v,σ=[v,G<|.ref o]) (λv=>!inV v ((tl.filter λz=>isPl z).map V.str)) id (by rw[y01];omega) (.of<|g1 _ _ eb) ⟨_,R⟩ ?_ ?_⟩
 .rintro D i σ H4 x hi hm O e u ae ⟨v,rfl⟩;let(z,mz,rfl):=y0j.mp hm;let hl:(tl.map V.str).length<=1000:=by rw[y01];omega
  trivial;apply⟨_,.inl<|.of (e _ _ J),R,zj8,?_⟩;cases hz:inV (V.str z) ((tl.filter λz=>isPl z).map V.str)with
  |true=>show iteF<|zio O (by change(!inV _ _)=Fa;rw[hz];rfl) ae e ⟨_,R⟩
  |false=>show iteT<|zin hl O (by change(!inV _ _)=N;rw[hz];rfl) u ae e ⟨_,R⟩ R
 intro D2 H2 cg U bi;let g:H2 D2=G (.lst<|(tl.filter λz=>!isPl z).map V.str):=by
  rw[bi,y4k,y4l];congr 3;apply y49 λz hz=>?_;change(!inV (V.str z) _)=_;rw[zrw];congr 1;rw[y23,decide_eq_true_eq,y1i];show⟨λh=>h.2,λh=>⟨hz,h⟩⟩
 let e12:=U _ _ J;let al:=zkv al;let f9:=zkw (tl.filter λz=>isPl z)<|tl.filter λz=>!isPl z;generalize hPL:(tl.filter λz=>isPl z)=PL at J e12 al f9;generalize hSL:(tl.filter λz=>!isPl z)=SL at g al f9;let hPl:PL.length<=4:=by rw[←hPL];show hfl _
 let hSl:SL.length<=4:=by rw[←hSL];show hfl _
 let rep:∀(xs:List Str),(List.replicate (if(!decide (PL=[]))=N then 1 else 0:Int).toNat<|xs.map V.str).flatten=(if PL=[]then[]else xs).map V.str:=λxs=>by
  by_cases h:PL=[]
  .rw[Xg h,Xq h];rfl
  .rw[Xf h,Xp h];simp
 let le1:(if(!decide (PL=[]))=N then 1 else 0:Int).toNat<=1/\(0:Int)<=(if(!decide (PL=[]))=N then 1 else 0)/\(if(!decide (PL=[]))=N then 1 else 0:Int)<=1:=by split<;>decide
 apply mkT λp3 H3 r=>mkT λp4 H4 n4=>⟨o,R,PL,.of<|(r.g.trans n4.g) _ _ e12,[],.of n4.at',_,n4.g _ _ r.at',by omega,by omega,?_,λp5 H5 n5=>?_⟩
 .exact y19 (Nat.mul_le_mul_left _ le1.1) (by simp;decide)
 let df:Same H2 H5:=r.g.trans<|n4.g.trans n5.g;let e5:H5 p5=G (.lst<|(if PL=[]then[]else(["same","ahead","next"]:List Str)).map V.str):=by rw[n5.at',←rep];rfl
 apply⟨λl H'=>∃p,l=[G<|.int n,G<|.ref b,G<|.ref o,G<|.ref D2,G<|.ref p,B,B,B]/\Same H5 H'/\H' p=G (.lst<|(words11 PL SL).map V.str),?_,?_⟩
 .trivial;apply mkT λq1 G1 m1=>⟨SL,.of<|(df.trans m1.g) _ _ g,[],.of m1.at',?_⟩;by_cases j:SL=[]
  .rw[Xg j];apply iteF ⟨m1.g,?_⟩;rw[m1.g _ _ e5];unfold words11;rw[Xq j,y1k]
  .rw[Xf j];apply iteT<|mkT λq2 G2 m2=>⟨_,(m1.g.trans m2.g) _ _ e5,_,m2.at',zah (by rw[y01];split<;>simp),λq3 G3 m3=>mkT λq4 G4 m4=>mkT λq5 G5 m5=>⟨PL,.of<|(df.trans<|m1.g.trans (m2.g.trans<|m3.g.trans (m4.g.trans m5.g))) _ _ e12,[],.of m5.at',_,m5.g _ _ m4.at',by omega,by omega,?_,λq6 G6 m6=>⟨_,(m4.g.trans<|m5.g.trans m6.g) _ _ m3.at',_,m6.at',?_,λq7 G7 m7=>⟨m1.g.trans<|m2.g.trans (m3.g.trans<|m4.g.trans (m5.g.trans<|m6.g.trans m7.g)),?_⟩⟩⟩⟩
   .exact y19 (Nat.mul_le_mul_left _ le1.1) (by simp;decide)
   .let:=rep ["in","in","in"];rw[show(List.replicate (if(!decide (PL=[]))=N then 1 else 0:Int).toNat [V.str "in",V.str "in",V.str "in"]).flatten=_ from this];apply zah ?_;rw[y0d,y01,y01];split<;>simp
   .let:=rep ["in","in","in"];rw[m7.at',show(List.replicate (if(!decide (PL=[]))=N then 1 else 0:Int).toNat [V.str "in",V.str "in",V.str "in"]).flatten=_ from this];unfold words11;rw[Xp j,y13,y0r,y17];rfl
 rintro l H6 ⟨p6,rfl,g56,e6⟩;trivial;let(hp0,wd,gi,o8):=pick11 (L:=words11 PL SL) (λz=>by rw[z]at al;show Xa al<|y1g _) (m:=n);apply⟨_,.inl<|.of e6,hp0,_,.of e6,_,o8,?_⟩;let(hrw,hnP,hnS):=znv gi;let g6:Same H2 H6:=df.trans g56;let f1:=g6 _ _ e12;let f2:=g6 _ _ g;apply⟨λl H'=>H'=H6/\l=[G<|.int n,G<|.ref b,G<|.ref o,G<|.ref D2,G<|.ref p6,G<|.str wd,G<|.ref (if wd="within" then D2 else o),G<|.ref o],?_,?_⟩
 .trivial;by_cases h:wd="within"
  .exact itT h (Xq h).symm
  .exact itF h (Xp h).symm
 rintro l H7 ⟨rfl,rfl⟩;apply⟨λl H'=>H'=H7/\l=[G<|.int n,G<|.ref b,G<|.ref o,G<|.ref D2,G<|.ref p6,G<|.str wd,G<|.ref (if wd="within" then D2 else o),G<|.ref (if wd="within"\/wd="in" then D2 else o)],?_,?_⟩
 .trivial;by_cases h:wd="within"
  .exact itT h (Xq<|.inl h).symm
  .refine itF h ?_;by_cases h':wd="in"
   .exact itT h' (Xq<|.inr h').symm
   .exact itF h' (Xp λz=>z.elim h h').symm
 rintro l H8 ⟨rfl,rfl⟩;trivial;let eo:H8 (if wd="within" then D2 else o)=G (.lst<|(if wd="within" then SL else PL).map V.str):=by split<;>assumption
 let eo':H8 (if wd="within"\/wd="in" then D2 else o)=G (.lst<|(if wd="within"\/wd="in" then SL else PL).map V.str):=by split<;>assumption
 let n1:(if wd="within" then SL else PL)≠[]:=by
  by_cases h:wd="within"
  .rw[Xq h];show hnS<|.inl h
  .rw[Xp h];show hnP h
 let c:(if wd="within"\/wd="in" then SL else PL)≠[]:=by
  by_cases h:wd="within"\/wd="in"
  .rw[Xq h];show hnS h
  .rw[Xp h];show hnP λz=>h<|.inl z
 let(a1,x,O,ex):=pick11 n1 (m:=n/7);let(a2,y,C,ey):=pick11 c (m:=n/28);apply⟨⟨by decide,by decide⟩,_,.inl<|.of eo,a1,_,.of eo,_,ex,⟨by decide,by decide⟩,_,.inl<|.of eo',a2,_,.of eo',_,ey,mkT λp9 H9 n9=>?_⟩;let hw9:=wf11 (w:=wd) T1 (x:=x) (y:=y) (by rw[hPL,hSL];show O) (by rw[hPL,hSL];show C);let hbw:wd∈bareWords:=by
  let all:∀a∈SM.rowWords,a∈bareWords:=by decide+kernel
  show all wd hrw
 show q _ wd x y H9 ((g1.trans U).trans<|g6.trans n9.g) (.bare hbw n9.at') hrw hw9.1 hw9.2.1 hw9.2.2
abbrev Kl:Stmt:=top 74
theorem Qd:FnScope ["_law_state","_law_frame_here","_law_deep","_law_room","_law_great","_law_cell","_law_number","_law_way","_law_name","_law_inner","_law_one"] ["_law_state","_law_frame_here","_law_deep","_law_room","_law_great"] (defScope Kl):={}
theorem zhc(T:Txt K mg w tw rw fa cj ca ce co cn cTooGreat)(d:Dfn K mg "_law_drawn" Kl ["_law_state","_law_frame_here","_law_deep","_law_room","_law_great"])(Q0:03 1 "_law_mixed" ["_law_cell"] zhy)(Tc:03 1 "_law_new" ["_law_frame_here","_law_number","_law_great"] zhx)(V3:03 1 "_law_bare" ["_law_number","_law_frame_here"] zfu):∀lv,03 (2+lv) "_law_drawn" ["_law_state","_law_frame_here","_law_deep","_law_room","_law_great"] (zg2 lv)
 |0=>(d.never λvs H Q E z=>by let(_,_,_,_,_,_,_,_,_,_,_,_,_,_,_,_,h,_):=z;show Xa h<|y2n _).mono 00
 |lv+1=>by
  let Qm:=zhc T d Q0 Tc V3 lv;apply d.cal Qd 07 08
  .nofun
  let(st,cl,b,cs,tl,dp,r,g,rfl,l,ec,a9,eb,o9,og,T1,hlv,hd3,hg2,h4,hnil,q):=h;let hu:=ze9 hr 8 00;change Room (2+lv) _ at hr;apply⟨_,(zab (zao (i:=5) Qd.nd R (Or.inl R)<|zay zf5 zad (zay zv3 zad<|pv 2))<|zdk (za6 (zaj (zqs K hu) (zap (za1 K) (pv 0) zad λ_ _=>rfl) (zaq zaa)<|nomark _) (zac<|zao (i:=5) Qd.nd R (Or.inl R) (zxj K PySem.F.plainAttrs_list PySem.F.slot_list_pop PySem.F.type_list_pop mt_pop<|zap (za1 K) (pv 0) zad (λ_ _=>rfl))) zan) (zab (zao (i:=6) Qd.nd R (Or.inl R)<|zae Q0 hr 00 01 (pa_c (pv 5) zaa))<|zab (zao (i:=7) Qd.nd R (Or.inl R)<|zay zdd (pv 6) zad) (zab (zao (i:=6) Qd.nd R (Or.inl R)<|zay zf4 (pv 6) zad)<|zab (za6 (PW.pt<|ze8 (zaj (zxn K hu) (pv 1) (zaq zaa)<|nomark _) (zdu<|PW.pt (zvx (zaj zia (pv 2) zad<|nomark _)<|zvx (zaj zia (pv 3) zad<|nomark _) (zw7<|zaj zia (pv 7) zad (nomark _))))) (zab (zao (i:=8) Qd.nd R (Or.inl R)<|zae Tc hr 00 01 (pa_c (pv 1)<|pa_c (pv 6) (pa_c (zdb (zbh zia (pv 4) zad<|nomark _)<|zcl (zbh zbj (zay zdd (zay zf4 (pv 6) zad) zad) zad<|nomark _)) zaa)))<|zab (zao (i:=9) Qd.nd R (Or.inl R)<|zae Qm hr 00 01 (pa_c (pv 0)<|pa_c (zay zem (pv 1)<|zaq (pa_c (pv 8) zaa)) (pa_c (za3 (zkh R) 01 T.b_max boot_max<|pa_c zad (pa_c (zay zdc (pv 2) zad) zaa))<|pa_c (zay zdc (pv 3) zad) (pa_c (zay zdc (pv 4)<|zbi zgg 01 T.b_int boot_int (pa_c (zbh zqt (pv 8) zal<|nomark _) zaa)) zaa)))) (zac<|zag (za2<|pa_c (zap (za1 K) (zaq<|pa_c zal (pa_c zal zaa)) (zay zdd (zay zf4 (pv 6) zad) zad) λ_ _=>rfl) (pa_c (pv 8)<|pa_c (pv 9) zaa)))) zan) (zab (za6 (PW.pt<|ze8 (zaj zbj (pv 2) zad<|nomark _) (ze8 (zaj zqu (pv 7) zad<|nomark _)<|zdu (zaj zia (pv 7) zad<|nomark _))) (zac<|zag (zae V3 hr 00 01<|pa_c (pv 6) (pa_c (pv 1) zaa))) zan)<|zab (zao (i:=10) Qd.nd R (Or.inl R)<|zae Qm hr 00 01 (pa_c (pv 0)<|pa_c (pv 1) (pa_c (zay zdc (pv 2) zad)<|pa_c (pv 3) (pa_c (pv 4) zaa)))) (zab (za6 (zaj zbj (pv 7) zad<|nomark _) (zac<|zag (za2<|pa_c zal (pa_c (pv 10) zaa))) zan)<|zac (zag<|za2 (pa_c (zap (za1 K) (zaq<|pa_c zal (pa_c zal zaa)) (zay zdc (pv 7) zad) λ_ _=>rfl)<|pa_c (pv 10) (pa_c (zae Qm hr 00 01<|pa_c (pv 0) (pa_c (pv 1)<|pa_c (zay zdc (pv 2) zad) (pa_c (pv 3)<|pa_c (pv 4) zaa))) zaa)))))))),?_⟩;apply zax [G<|.ref st,G<|.ref b,G<|nV dp,G<|nV r,G<|nV g,B,B,B,B,B,B] R ?_;trivial;apply⟨.inl ⟨by decide,by decide⟩,λa8 H'=>∃(cell:Int) (cs':List Int),a8=[G<|.ref st,G<|.ref b,G<|nV dp,G<|nV r,G<|nV g,G<|.int cell,B,B,B,B,B]/\SameB cl H H'/\H' cl=G (.lst<|cs'.map V.int)/\cs'.length<=100,?_,?_⟩
  .trivial;apply⟨_,.of l,_,za7,mkT λp0 p I=>⟨cl,R,cs,.of<|I.g _ _ ec,[],.of I.at',?_⟩⟩;by_cases C:cs=[]
   .rw[Xg C];show iteF ⟨I.g.b _,cs,I.g _ _ ec,a9⟩
   .rw[Xf C];apply iteT ⟨_,.of<|I.g _ _ l,_,za7,.inl ⟨_,.of<|I.g _ _ ec⟩,?_⟩;let hp:cs.length-1<cs.length:=by have:=List.length_pos_iff.mpr C;omega
    apply⟨cl,cs.map V.int,.int cs[cs.length-1],R,R,I.g _ _ ec,?_,_,R,λb o U e=>by rw[zak U];show I.g _ _ e,cs.dropLast,by rw[zar,List.map_dropLast],by rw[List.length_dropLast];omega⟩;rw[y01,y05,y00 hp];rfl
  rintro a8 H1 ⟨cell,cs1,rfl,g1,ck,ax⟩;trivial;apply⟨cell,R,λnm hn0 hn1=>⟨by decide,⟨by decide,by decide⟩,mkT λp1 H2 c=>⟨tl,.of<|c.g _ _ (g1 _ _ o9 eb),[],.of c.at',?_⟩⟩⟩;let g2:SameB cl H H2:=g1.trans<|c.g.b _;let nu:=c.g _ _ ck;let nh:=g2 _ _ o9 eb;let es2:=g2 _ _ og l;let hm0:0<=nm/10:=Int.ediv_nonneg hn0 04;apply zxl (λC=>?_) λC=>?_
  .let hdr:1<=dp/\1<=r:=by
    rcases C with C|⟨Y,M,_⟩
    .exact hnil<|of_decide_eq_true C
    .let Y:=of_decide_eq_true Y;let M:=of_decide_eq_true M;omega
   apply zt7 (P:=λgr=>zhx [.ref b,.int<|nm/10,.bl gr] H2 _ E0) ⟨by decide,by decide⟩ 04 λgr hgr=>⟨b,tl,nm/10,gr,R,hm0,nh,T1,by omega,λz H3 g3 hz hzt=>mkT λp4 H4 J=>⟨_,(g3.trans J.g) _ _ nh,_,J.at',zah (by rw[y01];simp only[y0s,y1o];omega),λp5 H5 n5=>⟨z,R,?_⟩⟩⟩;let df:Same H2 H5:=g3.trans<|J.g.trans n5.g;let ep5:H5 p5=G (.lst<|(tl++[z]).map V.str):=by rw[n5.at',y13];rfl
   let n5c:p5≠cl:=(zas ((g3.trans J.g) _ _ nu) n5.nil).symm;obtain⟨g',eg',hg',hzz,u⟩:∃g':Nat,((g:Int)-if decide (z.cps.toList<(Str.ofString "a").cps.toList)=N then 1 else 0)=(g':Int)/\g'<=2/\(z∈pls11\/z∈sts11)/\∀wd s,wd∈(["some","all"]:List Str)->Drw (dp-1) g' (tl++[z]) s->Drw dp g tl (.qu wd z s):=by
    let h3:tl.length<=3:=by omega
    cases gr with
    |true =>
     let hg1:=of_decide_eq_true<|hgr R;rw[Xq rfl]at hz;rw[lt11.2 hz,Xq rfl];apply⟨g-1,by omega,by omega,.inr hz,λwd s j D=>?_⟩;let:=Drw.st j hz hzt h3 D;rwa[show dp-1+1=dp by omega,show g-1+1=g by omega]at this
    |false =>
     rw[Xp 04]at hz;rw[lt11.1 hz,Xp 04];apply⟨g,by omega,hg2,.inl hz,λwd s j D=>?_⟩;let:=Drw.pl j hz hzt h3 D;rwa[show dp-1+1=dp by omega]at this
   rw[eg',show(if(dp:Int)-1>0 then(dp:Int)-1 else 0)=((dp-1:Nat):Int) by split<;>omega,show(r:Int)-1=((r-1:Nat):Int) by omega];apply⟨st,cl,p5,cs1,tl++[z],dp-1,r-1,g',R,df _ _ es2,df _ _ nu,ax,ep5,n5c,og,T1.snoc hzz hzt 00,by omega,by omega,hg',by rw[y0d,y0q];omega,(λz=>by simp at z),λv s cs' H6 g6 ec6 hc6 rp D=>?_⟩;let(_,wd,gi,o8):=pick11 (L:=["some","all"]) 04 (m:=nm/10/8);apply mkT λp7 H7 n7=>⟨⟨by decide,by decide⟩,by decide,_,.of n7.at',_,o8,mkT λp8 H8 n8=>?_⟩;let g68:=n7.g.trans n8.g;show q (.ref p8) (.qu wd z s) cs' H8 (g2.trans<|(df.b _).trans (g6.trans<|g68.b _)) (g68 _ _ ec6) hc6 (.qu gi n8.at'<|rp.same g68)<|u wd s gi D
  .let al:tl≠[]:=λh=>C<|.inl (Xg h);let bare:zfu [V.int<|nm/10,V.ref b] H2 Q E0:=⟨b,tl,nm/10,R,hm0,nh,T1,al,λv w x y H3 g3 rp j O hy wf=>q v _ cs1 H3 (g2.trans<|g3.b _) (g3 _ _ nu) ax rp<|.bare j O hy wf⟩;by_cases h0:dp=0
   .exact itT 00 bare
   apply itF 00 ?_;by_cases Y:nm%10<2
   .exact itT Y bare
   apply itF Y ?_;by_cases h5:4<nm%10
   .exact itT h5 bare
   apply itF h5 ?_;let ed:(dp:Int)-1=((dp-1:Nat):Int):=by omega
   rw[ed];apply⟨st,cl,b,cs1,tl,dp-1,r,g,R,es2,nu,ax,nh,o9,og,T1,by omega,by omega,hg2,h4,(λh=>Xa h al),λv1 s1 cs3 H3 g3 ec3 hc3 rp1 D1=>?_⟩;let g23:=g2.trans g3;by_cases M:nm%10=2
   .refine itT M<|mkT λp4 H4 J=>q (.ref p4) (.neg s1) cs3 H4 (g23.trans<|J.g.b _) (J.g _ _ ec3) hc3 (.neg J.at'<|rp1.same J.g) ?_;let:=Drw.neg D1;rwa[show dp-1+1=dp by omega]at this
   .obtain⟨wd,gi,o8⟩:∃wd:Str,wd∈(["and","or"]:List Str)/\atI [V.str<|Str.ofString "and",V.str<|Str.ofString "or"] (nm%10-3)=G (.str wd):=by
     rcases(show nm%10=3\/nm%10=4 by omega)with h|h<;>rw[h]
     .exact⟨"and",by decide+kernel,R⟩
     .exact⟨"or",by decide+kernel,R⟩
    apply itF M<|mkT λp4 H4 J=>⟨_,.of J.at',_,o8,?_⟩;let dg:=g23.trans<|J.g.b _;apply⟨st,cl,b,cs3,tl,dp-1,r,g,R,dg _ _ og l,J.g _ _ ec3,hc3,dg _ _ o9 eb,o9,og,T1,by omega,by omega,hg2,h4,(λh=>Xa h al),λv2 s2 cs5 H5 g5 ec5 hc5 rp2 a=>mkT λp6 H6 n6=>?_⟩;let rp1':=(SM.Rep.ts (rp1.same J.g)<|SameB.tups g5 (J.g _ _ ec3)).same n6.g;apply q (.ref p6) (.two wd s1 s2) cs5 H6 (dg.trans<|g5.trans (n6.g.b _)) (n6.g _ _ ec5) hc5 (.two gi n6.at' rp1'<|rp2.same n6.g) ?_;let:=Drw.two gi D1 a;rwa[show dp-1+1=dp by omega]at this
theorem zhh{q:Type}{x:Ad}{v:q}{r:List (Ad×q)}:List.lookup x ((x,v)::r)=G v:=by simp[List.lookup]
theorem zbf{q:Type}{x y:Ad}{v:q}{r:List (Ad×q)}(h:x≠y):List.lookup x ((y,v)::r)=List.lookup x r:=by
 let:(x==y)=Fa:=by simpa using h
 simp[List.lookup,this]
theorem small8{a b:Int}(d:0<=a)(c:a<=1000)(U:-1<=b)(e:b<=1000):Builtin.Range.small a b 8=N/\0<=Builtin.Range.rangeSize a b 8:=by
 let hs:0<=Builtin.Range.rangeSize a b 8/\Builtin.Range.rangeSize a b 8<=1002:=by
  unfold Builtin.Range.rangeSize;rw[Xq 04];split<;>omega
 apply⟨?_,hs.1⟩;unfold Builtin.Range.small;generalize Builtin.Range.rangeSize a b 8=z at hs;simp only[Builtin.Range.rangeFitsLong,y07,y35,decide_eq_true_eq,beq_iff_eq];simp;omega
theorem cut8{q:Type}(xs:List q)(k:Nat):(cutL xs (G (k:Int))<|G ((k:Int)+8)).length<=8:=by
 unfold cutL;rw[show((k:Int)+8)=((k+8:Nat):Int) by omega,HT.sIx_nat,HT.sIx_nat,y0t,y10];omega
theorem Drw.pq29{g:Nat}{tl:List Str}{s:Sy}(D:Drw 3 g tl s)(T:T11 tl):pq s<=29:=by
 let:=(D.p33 T).2.2.1;let z:(4:Nat)*2^3=32:=by decide
 omega
abbrev Pi:Stmt:=top 80
theorem V1:FnScope ["_law_script","_law_frame_here","_law_start","_law_saying"] ["_law_script"] (defScope Pi):={}
abbrev sp_law:=zwv
include T in
theorem ok_law{f:Ad}{fd:i5}{y u o J x O:Ad}(F:Fun K "law" "law" Pi f fd)(I:o≠u)(c:J≠u)(r:J≠o)(n4:O≠u)(p:O≠o)(n6:O≠J)(n7:y≠u)(n8:y≠o)(n9:y≠J)(n10:y≠O)(j1:x≠u)(j2:x≠o)(j3:x≠J)(j4:O≠x)(j5:y≠x)(Te:03 1 "_law_cell_at" ["_law_script","_law_k"]<|zk2 K)(T3:03 2 "_law_frame" ["_law_cell"] zg1)(Qm:03 6 "_law_drawn" ["_law_state","_law_frame_here","_law_deep","_law_room","_law_great"]<|zg2 4)(Kn:03 (34+29) "_law_right" ["_law_saying","_law_frame_here"]<|zgy u qs_reduced o qs_paired J qs_met x qs_joined O qs_dropped y qs_maker 29):FnOk P w K mg base CX0 64 f fd ["_law_script"] (sp_law K [(u,qs_reduced),(o,qs_paired),(J,qs_met),(x,qs_joined),(O,qs_dropped),(y,qs_maker)]):=by
 apply F.ok V1 07 λj A outer s H vs Q E L h=>?_
 .nofun
 let(a,ns,rfl,hS,h63,hO,q):=h;let z:TbK H u qs_reduced o qs_paired J qs_met x qs_joined O qs_dropped y qs_maker:=⟨⟨hO.tab zhh,hO.tab (by rw[zbf I];show zhh),hO.tab (by rw[zbf c,zbf r];show zhh),hO.tab (by rw[zbf j1,zbf j2,zbf j3];show zhh),hO.tab<|by rw[zbf n4,zbf p,zbf n6,zbf j4];show zhh⟩,hO.tab<|by rw[zbf n7,zbf n8,zbf n9,zbf j5,zbf n10];show zhh⟩;let Y:=ze9 L 8 04;apply⟨_,(zab (zao (i:=1) V1.nd R (Or.inl R)<|zae T3 L 00 01 (pa_c (zae Te L 00 01<|pa_c (pv 0) (pa_c zad zaa)) zaa))<|zab (zey PassesOwn.never R (zqh 01 T.b_range<|pa_c zad (pa_c (za3 (zkh R) 01 T.b_max boot_max<|pa_c zad (pa_c (za3 (zsw R) 01 T.b_min boot_min<|pa_c (za3 (zau K) 01 T.b_len iA<|pa_c (pv 0) zaa) (pa_c zad zaa)) zaa))<|pa_c zad zaa)) (zam (i:=2) V1.nd 01<|Or.inl 01)<|zab (zao (i:=3) V1.nd R (Or.inl R)<|zae Qm L 00 01 (pa_c (zaq<|pa_c (zbi (zhp K) 01 T.b_list boot_list<|pa_c (zb9 (zh1 K) (pv 0) (zck<|pv 2)<|zck (zay zf5 (pv 2) zad)) zaa) zaa)<|pa_c (pv 1) (pa_c zad<|pa_c (zay zdc zad<|za3 (zau K) 01 T.b_len iA (pa_c (pv 1) zaa)) (pa_c zad zaa)))) (zac<|za6 (zdv<|zb4 (zae Kn L 00 01<|pa_c (pv 3) (pa_c (pv 1) zaa))) (zac<|zag zf2) zan)) (zac<|zag zf2)),?_⟩;apply zax [G<|.ref a,B,B,B] R ?_;trivial;apply⟨a,ns,0,R,hS,by decide,λc0=>⟨c0,R,λpb tl H1 hpb g1 eb T1 M=>⟨_,.inl<|g1.seq hS,by decide,?_⟩⟩⟩;rw[y01];let hmx:2<=(if(if(17:Int)<(ns.length:Int)then 17 else(ns.length:Int))>2 then if(17:Int)<(ns.length:Int)then 17 else(ns.length:Int)else 2)/\(if(if(17:Int)<(ns.length:Int)then 17 else(ns.length:Int))>2 then if(17:Int)<(ns.length:Int)then 17 else(ns.length:Int)else 2)<=63:=by split<;>split<;>omega
 generalize(if(if(17:Int)<(ns.length:Int)then 17 else(ns.length:Int))>2 then if(17:Int)<(ns.length:Int)then 17 else(ns.length:Int)else 2)=mx at hmx;let(sm1,sm2):=small8 (a:=1) (b:=mx) 04 04 00 00;apply⟨sm1,by omega,by decide,sm2,?_⟩;let h4:=T1.h4;apply zr9 (λi σ H'=>Same H1 H'/\∃e v3,σ=[G<|.ref a,G<|.ref pb,e,v3]) ⟨Same.refl _,_,_,R⟩ ?_ ?_
 .rintro i σ H' hi ⟨g,e,v3,rfl⟩;trivial;apply⟨_,(g1.trans g).seq hS,λpc H2 c=>?_⟩;rw[zvj,show(1:Int)+(i:Int)*8=((1+i*8:Nat):Int) by omega]at c;let hc8:=cut8 ns<|1+i*8;generalize cutL ns (G ((1+i*8:Nat):Int)) (G<|((1+i*8:Nat):Int)+8)=U at c hc8;apply⟨_,.inl<|.of c.at',λl1 H3 r=>mkT λst H4 n4=>⟨_,.inl<|.of ((g.trans<|c.g.trans (r.g.trans n4.g)) _ _ eb),?_⟩⟩;rw[y01,show(4:Int)-(tl.length:Int)=((4-tl.length:Nat):Int) by omega];let l:Same H1 H2:=g.trans c.g;let g14:Same H1 H4:=l.trans<|r.g.trans n4.g;let el1:H1 l1=B:=l.free r.nil;apply⟨st,l1,pb,U,tl,3,4-tl.length,2,R,n4.at',n4.g _ _ r.at',by omega,g14 _ _ eb,zas (l _ _ eb) r.nil,(zas r.at' n4.nil).symm,T1,by decide,by decide,by decide,by omega,(λh=>⟨by decide,by rw[h];decide⟩),λv sy cs5 H5 g5 ec5 hc5 C D=>?_⟩;let d:Same H1 H5:=Same.sb g14 g5 el1;show⟨v,pb,tl,sy,R,z.same<|g1.trans d,C,d _ _ eb,D.ok33 T1,Drw.pq29 D T1,λH6 g6=>itN<|d.trans g6⟩
 .rintro σ H' ⟨g,e,v3,rfl⟩;trivial;show q H'
end
section
variable {P:im}{w:World}{K:Frag}{mg:Y1}{base:Heap}{f:Ad}{fd:i5}{tw rw fa cj ca ce co cn cTooGreat:Ad}
variable (T:Txt K mg w tw rw fa cj ca ce co cn cTooGreat)
include T in
theorem all(Pw:Dfn K mg "reached" Vh ["machine"])(Vi:Dfn K mg "renamed" Q1 ["rooms","numbers"])(Qad:Dfn K mg "picked" Vt ["machine","rooms","numbers"])(Ph:Dfn K mg "numbered" K0 ["marks"])(Ti:Dfn K mg "finer_sorts" Q3 ["machine","sorts"])(Pb:Dfn K mg "sorts_by" Kw ["ends","part_further"]){o a:Ad}(Ke:DfnC K mg "reduced" Vm ["machine"] o a)(T9:Dfn K mg "is_whole" Ks ["thing"])(Pn:Dfn K mg "is_below" Kx ["thing","bound"])(Pg:Dfn K mg "explored" K3 ["tracks","first","comings","is_end"]){km e:Ad}(Kz:DfnC K mg "paired" Vx ["one","other","is_end"] km e)(Pu:Dfn K mg "flipped" Vo ["machine"]){qb j:Ad}(Tl:DfnC K mg "met" Pa ["one","other"] qb j){kj d:Ad}(K1:DfnC K mg "joined" Vw ["one","other"] kj d)(T7:Dfn K mg "letter_of" Km ["letter","tracks"])(Qag:Dfn K mg "spread" Vu ["machine","tracks","width"])(V5:Dfn K mg "both_letters" Qy ["letter","track"])(V4:Dfn K mg "coming_rooms" Qz ["machine","rooms","letters"]){q t_dropped:Ad}(Kc:DfnC K mg "dropped" Vc ["machine","track"] q t_dropped){oh i:Ad}(Vp:DfnC K mg "maker" V8 ["bare_of","fitting_of","met","joined","flipped","dropped"] oh i)(Kb:Dfn K mg "is_letter_with_figures" Qg ["thing","letters"])(Pq:Dfn K mg "is_place" K6 ["thing"])(Qac:Dfn K mg "is_set" Vs ["thing"])(P0:Dfn K mg "is_name" Va ["thing"])(Po:Dfn K mg "is_frame" K5 ["thing"])(Tp:Dfn K mg "is_of_sort" Qq ["thing","sort","deepest"])(Pc:Dfn K mg "has_form" Q8 ["thing","deepest"])(Vy:Dfn K mg "inner_sayings" Qt ["saying"])(Px:Dfn K mg "is_bare" Vj ["saying"])(Tf:Dfn K mg "count_parts" Qp ["saying"])(V0:Dfn K mg "is_any_saying" Qw ["thing"])(Qaf:Dfn K mg "is_let" Ky ["saying","known","barred","most"])(T4:Dfn K mg "is_saying" Kk ["thing","frame"])(Tj:Dfn K mg "check_frame" Q2 ["frame"])(Tt:Dfn K mg "check_let" Kf ["saying","frame"])(Tq:Dfn K mg "fitting_of" Q9 ["frame"])(Qab:Dfn K mg "fitting" K9 ["frame"])(Pz:Dfn K mg "rule_of" Vg ["word"])(Py:Dfn K mg "bare_of" Vf ["saying","frame"])(Qaj:Dfn K mg "built" V6 ["saying","frame"])(Tg:Dfn K mg "_law_cell_at" Q5 ["_law_script","_law_k"])(Tu:Dfn K mg "_law_mixed" Kg ["_law_cell"])(P7:Dfn K mg "_law_new" Vd ["_law_frame_here","_law_number","_law_great"])(Pl:Dfn K mg "_law_bare" K7 ["_law_number","_law_frame_here"])(Ts:Dfn K mg "_law_drawn" Kl ["_law_state","_law_frame_here","_law_deep","_law_room","_law_great"])(Tv:Dfn K mg "_law_frame" Kj ["_law_cell"])(Tw:Dfn K mg "_law_built" Kh ["_law_saying","_law_frame_here"])(P6:Dfn K mg "_law_put" Vl ["_law_word","_law_machines","_law_frame_here"])(Ty:Dfn K mg "_law_parts" Ki ["_law_saying","_law_frame_here"])(T6:Dfn K mg "_law_right" Kp ["_law_saying","_law_frame_here"])(I:e≠a)(c:j≠a)(r:j≠e)(j1:d≠a)(j2:d≠e)(j3:d≠j)(n4:t_dropped≠a)(p:t_dropped≠e)(n6:t_dropped≠j)(j4:t_dropped≠d)(E:i≠a)(n8:i≠e)(n9:i≠j)(j5:i≠d)(n10:i≠t_dropped)(x:BltK base mg)(F:Fun K "law" "law" Pi f fd):
  FnOk P w K mg base CX0 64 f fd ["_law_script"] (sp_law K [(a,qs_reduced),(e,qs_paired),(j,qs_met),(d,qs_joined),(t_dropped,qs_dropped),(i,qs_maker)]):=by
 let c1:=zok (P:=P) (w:=w) (base:=base) T Pw;let U:=zoi (P:=P) (w:=w) (base:=base) T Vi;let c3:=zq3 T Qad U;let c4:=zlm (P:=P) (w:=w) (base:=base) T Ph;let c5:=zuu T Ti U c4;let c6:=zog T Pb c4;let c7:=zoj T Ke x c1 c3 c5 c6;let J:=zll (P:=P) (w:=w) (base:=base) T Vi;let g:=zjv T Pg J c7;let Q:=zom T Kz x g;let e4':=zxq T Tl x Q;let s:=(SM.CalE.le e4' metK_Y).n λ_ _ _ _ z=>z;let a1:=ok_lf (P:=P) (w:=w) (base:=base) T Kb;let v:=zul T Pq a1;let O:=ok_set T Qac a1;let a4:=ok_nm T P0 v O;let a5:=zur T Po a4;let s6:=znt T Tp Pc v O a4 12;let s7:=zuq (P:=P) (w:=w) (base:=base) T Vy;let s8:=zq5 T Px s7;let s9:=zks T Tf s7 13;let s10:=zra T V0 s6.1 s9;let s11:=zs8 (bw:=treeWords) T Qaf s7 s8 13;let s12:=zup T T4 a5 s10 s11;let u:=zju (P:=P) (w:=w) (base:=base) T Vi;let A:=zln (P:=P) (w:=w) (base:=base) T T7;let b3:=zof T Qag A u;let b4:=zus T Tq v b3 s;let r1:=zxp (P:=P) (w:=w) (base:=base) T Pz;let l:=zuw T Py r1 b3 b4 s;let L:=zoo T Pu c7;let H:=zq1 (P:=P) (w:=w) (base:=base) T T9;let x3:=zq8 T Pn H;let x4:=zxt (P:=P) (w:=w) (base:=base) T V5;let x5:=zop (P:=P) (w:=w) (base:=base) T V4;let x6:=zlo T Kc x x3 x4 x5 g;let y:=zuo T K1 x Q;let(fb,rF,mb):=l.fn;let(ff,fF,mf):=b4.fn;let(fm,mF,mm):=SM.CalE.fnE e4';let(fj,jF,mj):=SM.CalE.fnE y;let(D,lF,ml):=L.fn;let(fp,pF,mp):=SM.CalE.fnE x6;let Y:=zq4 T Vp x rF fF mF jF lF pF;let M:=zjw T Tj a5;let C:=zib T Tt M s12;let h4:=zq7 T Qaj C mb mf mm mj ml mp Y;let h5:=zut T Qab M b4;let l1:=zxs (P:=P) (w:=w) (base:=base) T Tg;let l2:=zun (P:=P) (w:=w) (base:=base) T Tu;let l3:=zon T Tv l2;let l4:=zum (P:=P) (w:=w) (base:=base) T P7;let l5:=zq9 (P:=P) (w:=w) (base:=base) T Pl;let l6:=zhc T Ts l2 l4 l5 4;let k1:=zxr T Tw h4;let k2:=zuk T P6 e4' y x6 L h5;let k3:=zol (P:=P) (w:=w) (base:=base) T Ty;let k4:=zoh T T6 k3 k1 k2 29;show ok_law T F I c r n4 p n6 E n8 n9 n10 j1 j2 j3 j4 j5 l1 l3 l6 k4
end
theorem txt_mk{K:Frag}{mg:Y1}{w:World}{tw rw O g ca u co cn a:Ad}(E:mg "isinstance"=B)(Y:mg "str"=B)(M:mg "tuple"=B)(C:mg "list"=B)(h4:mg "int"=B)(T:mg "bool"=B)(p:mg "dict"=B)(j:mg "set"=B)(o:mg "len"=B)(l:mg "any"=B)(f:mg "sorted"=B)(e:mg "ValueError"=B)(q:mg "min"=B)(v:mg "all"=B)(z:mg "sum"=B)(i:mg "max"=B)(r:mg "range"=B)(s:mg "zip"=B)(d:mg "enumerate"=B)(h19:mg "TooGreat"=G (.ref a))(h20:KSup K a)(h21:PySem.W.mroIn K a (.ref a)=G N)(A:PySem.W.excIn K a veM "ValueError.__new__"=N)(h23:GlV mg "MOST_COME_TO"<|.int 100)(h24:GlV mg "FIGURES"<|.str FIGS)(h25:GlV mg "LONGEST_NAME"<|.int 4)(h26:GlV mg "SMALL_LETTERS"<|.str SMALL)(I:GlV mg "GREAT_LETTERS"<|.str GREAT)(h28:GlV mg "MOST_NAMES"<|.int 4)(h29:GlV mg "DEEPEST"<|.int 12)(h30:GlV mg "MOST_PARTS"<|.int 60)(h31:GlV mg "TELLING_WORDS"<|.ref tw)(D:∀H,SqT K H tw [.str "some",.str "all"])(U:GlV mg "TREE_WORDS"<|.ref rw)(h34:∀H,SqT K H rw [.str "left",.str "right",.str "above"])(h35:GlV mg "FORMS"<|.ref O)(h36:Forms K w O)(h37:GlV mg "JUST_ONCE"<|.ref g)(h38:CMach K g justM)(h39:GlV mg "ANY_ROW"<|.ref ca)(J:CMach K ca anyM)(h41:GlV mg "EACH_IN"<|.ref u)(h42:CMach K u eachM)(h43:GlV mg "COMES_AHEAD"<|.ref co)(h44:CMach K co aheadM)(h45:GlV mg "COMES_NEXT"<|.ref cn)(h46:CMach K cn nextM):∃(x L qfa qcj qca qce y Q c:Ad) ,Txt K mg w x L qfa qcj qca qce y Q c  :=
 ⟨tw,rw,O,g,ca,u,co,cn,a,⟨E,Y,M,C,h4,T,p,j,o,l,f,e,q,v,z,i,r,s,d,h19,h20,h21,A,h23,h24,h25,h26,I,h28,h29,h30,h31,D,U,h34,h35,h36,h37,h38,h39,J,h41,h42,h43,h44,h45,h46⟩⟩
end K33
open PySem PySem.W PyProof.Rows
set_option hygiene false in
local macro_rules
| `(tactic|exact_mod_cast 0) => `(tactic|((try dsimp only[L2.KOf]);refine' L2.dfn_mk KX Gq ?a ?l ?c ?k (λ_ _ _ _ _ _=>by first|exact L2.fit1 λ_=>rfl|exact L2.fit2 λ_ _=>rfl|exact L2.fit3 λ_ _ _=>rfl|exact L2.fit4 λ_ _ _ _=>rfl|exact L2.fit5 λ_ _ _ _ _=>rfl);((case a=>k_is);(case l=>k_is);(case c=>k_is);(case k=>k_is))))
namespace PySem.W.Fast
def tw7798486687264848255:=True
def tw13347120869539081112:=True
def tw11024015602876003191:=True
def tw6827854948239013057:=True
def tw118557595115099709:=True
def tw18446397269515580868:=True
def tw6558765920008903455:=True
def tw433199175797200353:=True
def tw3592026432739539423:=True
def tw9705669032407031790:=True
def tw9066388393235778126:=True
def tw7994183234515970746:=True
def tw5989615382672170420:=True
def tw7105956908135601087:=True
def tw15620021061055026284:=True
def tw16414126169881529385:=True
def tw11835108110117748696:=True
def tw4395920079388380045:=True
def tw10186221002859098318:=True
def tw13991443508571558961:=True
def tw3314978913207620275:=True
def tw13258729584744299637:=True
def tw2132464986431082038:=True
def tw7817950708549836262:=True
def tw6392511523258337844:=True
def tw12646751789322123665:=True
def tw8173641665771009692:=True
def tw11198378707671586630:=True
def tw13417268899738267951:=True
def tw5846162027221541038:=True
def tw9357041481578809610:=True
def tw5183267105784742678:=True
def tw12791455895043352729:=True
def tw6899274481709438990:=True
def tw4098826914605512224:=True
def tw15647862858628247819:=True
def tw16575163075628247814:=True
def tw7676426183173022232:=True
def tw6802584383160030093:=True
def tw1318468405995143200:=True
def tw16852413599226338793:=True
def tw9961490003675491924:=True
def tw17883235134485685326:=True
def tw18274043013695612736:=True
def tw6489946560705225342:=True
def tw10285785276923002967:=True
def tw11121043107218175416:=True
def tw6732989448179459016:=True
def tw10084189011481215291:=True
def tw10764640180526161060:=True
def tw17116770363490154193:=True
def tw367846473893658233:=True
def tw5916053006063034923:=True
def tw12909145361029336927:=True
def tw4677907185361190782:=True
def tw10777976006051703873:=True
def tw3275260303406146230:=True
def tw4600378381608775683:=True
def tw17760562845620092909:=True
def tw4249402690067385202:=True
def tw5586896011821515821:=True
def tw1831823324092622159:=True
def tw15735380825801458597:=True
def tw5592746697926656392:=True
def tw17801854720946100882:=True
def tw15511840715008560181:=True
def tw2350422460894713081:=True
def tw6214440413443307295:=True
def tw10826843287566961066:=True
def tw11381582197007546853:=True
def tw17115489750814656077:=True
def tw4699391251199784359:=True
def tw14171013145168574925:=True
def tw14062994262264573357:=True
def tw11563871380085461363:=True
def tw11407559372371073978:=True
def tw440102792035688948:=True
def tw4451132464698279548:=True
def tw11783667653274587979:=True
def tw2896533836315138753:=True
def tw470313936277508613:=True
def tw4426255251882837924:=True
def tw7244059947826197513:=True
def tw7911788995551203804:=True
def tw12693602606013744663:=True
def tw11549407702051210792:=True
def tw4041726631260674203:=True
def tw15111944385857597927:=True
def tw14418139853019313564:=True
def tw2704937820626061339:=True
def tw11202411541231902506:=True
def tw3469808759191458265:=True
def tw17278490869339804711:=True
def tw2572760292873439323:=True
def tw13905478590002399950:=True
def tw4672519525095570088:=True
def tw783887502469949980:=True
def tw13840441589330053443:=True
def tw6985393392605854971:=True
def tw9544117725827703702:=True
def tw10164554424969058631:=True
def tw13153996080215651639:=True
def tw10424150969432631053:=True
def tw7058771238926831894:=True
def tw4694383061318866369:=True
def tw10982102256096078108:=True
def tw6588357185201007265:=True
def tw1167608013531165334:=True
def tw15035705555521715566:=True
def tw4423870321002185261:=True
def tw9385917865799076845:=True
def tw11390601670466972971:=True
def tw6274795010784218269:=True
def tw18419756865863921383:=True
def tw8093644786492255919:=True
def tw12126504101825144600:=True
def tw8202329697653923084:=True
def tw14713991613432735734:=True
def tw11507776231049329569:=True
def tw7897173835111565971:=True
def tw17200040500999165975:=True
def tw16038821513542072801:=True
def tw5189846303891500210:=True
def tw9580093793219726200:=True
def tw2491665026543896347:=True
def tw4893468318313085946:=True
def tw12685219757426241247:=True
def tw9433147016599579600:=True
def tw8352565001801666673:=True
def tw4284002946590794614:=True
def tw10609883556509096077:=True
def tw8509004332429569349:=True
def tw10346190352986096048:=True
def tw12584550117938427880:=True
def tw13349854735095603564:=True
def tw6931741974338721470:=True
def tw9397497524619476988:=True
def tw9869475445183301300:=True
def tw6733204953220148062:=True
def tw4014374204091299544:=True
def tw7637318800379458097:=True
def tw211257188985597471:=True
def tw13842169459468075419:=True
def tw1125211957449729243:=True
def tw17930090257859457476:=True
def tw2063414543334883588:=True
def tw12004142783315110646:=True
def tw2331777581307866457:=True
def tw12995009035553141508:=True
def tw14127685238034348173:=True
def tw11769982749982915529:=True
def tw2583072431618970568:=True
def tw14143439331443719985:=True
def tw13251561117971549149:=True
def tw1646699029871627220:=True
def tw13054617021420839147:=True
def tw6318952057758815139:=True
def tw9742902198912581275:=True
def tw6021489274470234753:=True
def tw11894049553719463356:=True
def tw6874509185420041512:=True
def tw8361040249684210322:=True
def tw4087607980427586210:=True
def tw10629165955032318030:=True
def tw4896427101053516812:=True
def tw6455095664521123513:=True
def tw13741253366304132876:=True
def tw7406384751444236077:=True
def tw1731456361429821480:=True
def tw9452697920549538642:=True
def tw8017025531516362541:=True
def tw5834023855769563232:=True
def tw2956946168114905435:=True
def tw11340501662351553763:=True
def tw5530690229050793711:=True
def tw17901915513239990314:=True
def tw16649867069222958430:=True
def tw17437782262154978884:=True
def tw13603541605216214770:=True
def tw5962940432896367448:=True
def tw2209316016248865941:=True
def tw15336543072931985810:=True
def tw3159401356296898213:=True
def tw17087377848630542371:=True
def tw14384871536025565155:=True
def tw1028334137699654981:=True
def tw9528658081089834198:=True
def tw10266155099901904844:=True
def tw11874396301992185916:=True
def tw1623558770017747496:=True
def tw13421504274447359099:=True
def tw3813408937074938147:=True
def tw17316611726511492742:=True
def tw3257299516909784591:=True
def tw13995580224358520147:=True
def tw3486469011913599932:=True
def tw14151567194857722762:=True
def tw3754285702429178242:=True
def tw12566930700580809122:=True
def tw1016384464576926756:=True
def tw16854450630526190335:=True
def tw1002706196561625098:=True
def tw5051801184053686732:=True
def tw9131928617403862533:=True
def tw14979674828707738429:=True
def tw26784137847433867:=True
def tw11348714835514764583:=True
def tw4833956659849383221:=True
def tw5191489651122283000:=True
def tw6407954088887540927:=True
def tw5908180351116240006:=True
def tw4053526060469811672:=True
def tw4711532651263055414:=True
def tw2560605825664872618:=True
def tw3621025548007936821:=True
def tw15797380230786476029:=True
def tw8821525915657588864:=True
def tw8658053435232887994:=True
def tw9313941269958651455:=True
def tw15520938026256984206:=True
def tw15550880694717698069:=True
def tw1076459991019035940:=True
def tw9198186253748259535:=True
def tw14859101183629957695:=True
def tw8400132120640558628:=True
def tw12768569298919911885:=True
def tw5568225347604919274:=True
def tw13385301166368262593:=True
def tw16384353130670255461:=True
def tw3674862848198300896:=True
def tw10435333948893213257:=True
def tw4435862093791643706:=True
def tw13883014675599655363:=True
def tw7632484849695600232:=True
def tw13194666479387818558:=True
def tw15236529233484994621:=True
def tw14852780479672260223:=True
def tw548027174447021511:=True
def tw12924129355635663667:=True
def tw9806270179478421833:=True
def tw14320386847373935192:=True
def tw9577792336947969220:=True
def tw12734833221740309683:=True
def tw4668859638912562480:=True
def tw5290482402259465398:=True
def tw9196991841331383149:=True
def tw344881309042593459:=True
def tw3867808847721187930:=True
def tw11037871764808849141:=True
def tw15877080784922611524:=True
def tw1277264593506883600:=True
def tw23085433113261464:=True
def tw3940937655342897122:=True
def tw14541730498581944486:=True
def tw10075088117261700280:=True
def tw2662169990391234138:=True
def tw9833853416556963419:=True
def tw9600752736804303489:=True
def tw17342252929207396552:=True
def tw2480471909324467420:=True
def tw5270607380170377903:=True
def tw8318877374685908475:=True
def tw2025236429304548844:=True
def tw78538250190718413:=True
def tw4792905567692623958:=True
def tw5456944456491958920:=True
def tw3109307804870300927:=True
def tw11744940156495021782:=True
def tw14566354864552962115:=True
def tw3876422846681647065:=True
def tw13754558826735485020:=True
def tw18336525301452636225:=True
def tw17930805135150963256:=True
def tw3099326354357487310:=True
def tw791439606982711782:=True
def tw9541029235735594734:=True
def tw9639048402753143180:=True
def tw6210320147888399965:=True
def tw5316145391702391788:=True
def tw5581539675656800939:=True
def tw3364111107882870996:=True
def tw8827449718381017637:=True
def tw8889954107891724465:=True
def tw11749019547327187314:=True
def tw7832640210640409910:=True
def tw3271901271432630685:=True
def tw11945146015017575923:=True
def tw7480315092498856044:=True
def tw17210445369438067736:=True
def tw1334417338955261746:=True
def tw5698710929966432908:=True
def tw13292816111993266957:=True
def tw3297686220696184395:=True
def tw6264910378630386256:=True
def tw6168530602352863550:=True
def tw4436092527923479060:=True
def tw12356367561875151442:=True
def tw5020804424742894656:=True
def tw6294756038098858411:=True
def tw5601589480091397601:=True
def tw8223586926207359081:=True
def tw13100091515289876596:=True
def tw12195273801497944471:=True
def tw5885900456044198387:=True
def tw7920295710469411157:=True
def tw13003440243723281213:=True
def tw1990224233764649484:=True
def tw16946841905655980671:=True
def tw11054544280569293971:=True
def tw943404727391602096:=True
def tw1427332661740007184:=True
def tw13215268008805227125:=True
def tw12679058392918498129:=True
def tw17822827245948810507:=True
def tw17377556370511964684:=True
def tw9945078542297316035:=True
def tw3508743319979852598:=True
def tw11313301163220692710:=True
def tw14010295754329251433:=True
def tw16111121698199659706:=True
def tw13746592211531045717:=True
def tw18239159359077493204:=True
end PySem.W.Fast
set_option maxRecDepth 100000 in
set_option maxHeartbeats 0 in
theorem PySem.Challenge.cw_setsays_k33_built_by_parts_holds : PySem.Challenge.rw_setsays_k33_built_by_parts.Holds := by
 w_on;o_law;k_head;(case hw=>w_witness2)
 k_fill
 apply L2.walk_ofT (l:=PySem.Challenge.rw_setsays_k33_built_by_parts) (n:=63) (k:=64) (x:="_law_script") (CX:=L2.CX0) (sp:=K33.sp_law) R (by decide) R ⟨R,by decide,by decide⟩ (λw h Y=>PySem.W.km_in_of Y) ?F (λ_ _ _ a ns hl hO hS=>⟨a,ns,R,hS,hl,hO,λ_=>rfl⟩) λ_ _ _ _ z=>z
 case F =>
  intro w mg fa h KX Gq hmg;obtain⟨tw,g_TELLING_WORDS,t_TELLING_WORDS⟩:∃q,L2.GlV mg "TELLING_WORDS" (.ref q)/\∀H,L2.SqT (L2.KOf KX) H q [.str "some",.str "all"]:=by
   dsimp only[L2.KOf];refine' L2.glt_mk KX Gq 05 05 (by decide) (by show .cons ⟨_,R⟩ 35)
  obtain⟨rw,g_TREE_WORDS,t_TREE_WORDS⟩:∃q,L2.GlV mg "TREE_WORDS" (.ref q)/\∀H,L2.SqT (L2.KOf KX) H q [.str "left",.str "right",.str "above"]:=by
   dsimp only[L2.KOf];refine' L2.glt_mk KX Gq 05 05 (by decide) (by show .cons ⟨_,R⟩ (.cons ⟨_,R⟩ 35))
  obtain⟨ff,g_FORMS,f_FORMS⟩:∃q,L2.GlV mg "FORMS" (.ref q)/\SS.Forms (L2.KOf KX) w q:=by
   dsimp only[L2.KOf];refine' SS.forms_mk KX Gq 05 (by decide) 05 (by show⟨⟨_,_,R,R⟩,⟨⟨_,_,R,R⟩,⟨⟨_,_,R,R⟩,⟨⟨_,_,R,R⟩,⟨⟨_,_,R,R⟩,⟨⟨_,_,R,R⟩,⟨⟨_,_,R,R⟩,⟨⟨_,_,R,R⟩,⟨⟨_,_,R,R⟩,⟨⟨_,_,R,R⟩,⟨⟨_,_,R,R⟩,⟨⟨_,_,R,R⟩,⟨⟨_,_,R,R⟩,trivial⟩⟩⟩⟩⟩⟩⟩⟩⟩⟩⟩⟩⟩) ?he;refine' .cons ⟨⟨_,R⟩,_,R,SS.sqt_mk 05 (by decide) (by show .cons ⟨_,R⟩ 35)⟩ (.cons ⟨⟨_,R⟩,_,R,SS.sqt_mk 05 (by decide) (by show .cons ⟨_,R⟩ 35)⟩ (.cons ⟨⟨_,R⟩,_,R,SS.sqt_mk 05 (by decide) (by show .cons ⟨_,R⟩ 35)⟩ (.cons ⟨⟨_,R⟩,_,R,SS.sqt_mk 05 (by decide) (by show .cons ⟨_,R⟩ 35)⟩ (.cons ⟨⟨_,R⟩,_,R,SS.sqt_mk 05 (by decide) (by show .cons ⟨_,R⟩ 35)⟩ (.cons ⟨⟨_,R⟩,_,R,SS.sqt_mk 05 (by decide) (by show .cons ⟨_,R⟩ 35)⟩ (.cons ⟨⟨_,R⟩,_,R,SS.sqt_mk 05 (by decide) (by show .cons ⟨_,R⟩ 35)⟩ (.cons ⟨⟨_,R⟩,_,R,SS.sqt_mk 05 (by decide) (by show .cons ⟨_,R⟩ 35)⟩ (.cons ⟨⟨_,R⟩,_,R,SS.sqt_mk 05 (by decide) (by show .cons ⟨_,R⟩ (.nil))⟩ (.cons ⟨⟨_,R⟩,_,R,SS.sqt_mk 05 (by decide) (by show .cons ⟨_,R⟩ 35)⟩ (.cons ⟨⟨_,R⟩,_,R,SS.sqt_mk 05 (by decide) (by show .cons ⟨_,R⟩ 35)⟩ (.cons ⟨⟨_,R⟩,_,R,SS.sqt_mk 05 (by decide) (by show .cons ⟨_,R⟩ 35)⟩ (.cons ⟨⟨_,R⟩,_,R,SS.sqt_mk 05 (by decide) (by show .cons ⟨_,R⟩ 35)⟩ (.nil)))))))))))))
  obtain⟨cj,g_JUST_ONCE,c_JUST_ONCE⟩:∃q,L2.GlV mg "JUST_ONCE" (.ref q)/\SM.CMach (L2.KOf KX) q SM.justM:=by
   dsimp only[L2.KOf];refine' SM.cm_mk (ls:=[_,_,_]) KX Gq 05 (SS.sqt_mk 05 ?cj_zp (by show .cons ⟨_,R⟩ (.cons R (.cons R (.nil))))) (SS.sqt_mk 05 ?cj_zb (by show .cons R (.cons R (.cons R (.nil))))) (.cons (SS.sqt_mk 05 ?cj_z0 (by show .cons ⟨_,R⟩ 35)) (.cons (SS.sqt_mk 05 ?cj_z1 (by show .cons ⟨_,R⟩ 35)) (.cons (SS.sqt_mk 05 ?cj_z2 (by show .cons ⟨_,R⟩ 35)) (.nil)))) (SS.sqt_mk 05 ?cj_zc (by show .cons R (.cons R (.cons R (.nil)))))
   all_goals decide
  obtain⟨ca,g_ANY_ROW,c_ANY_ROW⟩:∃q,L2.GlV mg "ANY_ROW" (.ref q)/\SM.CMach (L2.KOf KX) q SM.anyM:=by
   dsimp only[L2.KOf];refine' SM.cm_mk (ls:=[_]) KX Gq 05 (SS.sqt_mk 05 ?ca_zp (by show .cons ⟨_,R⟩ (.cons R (.cons R (.nil))))) (SS.sqt_mk 05 ?ca_zb (by show .cons R (.nil))) (.cons (SS.sqt_mk 05 ?ca_z0 (by show .cons ⟨_,R⟩ (.nil))) (.nil)) (SS.sqt_mk 05 ?ca_zc (by show .cons R (.nil)))
   all_goals decide
  obtain⟨ce,g_EACH_IN,c_EACH_IN⟩:∃q,L2.GlV mg "EACH_IN" (.ref q)/\SM.CMach (L2.KOf KX) q SM.eachM:=by
   dsimp only[L2.KOf];refine' SM.cm_mk (ls:=[_,_]) KX Gq 05 (SS.sqt_mk 05 ?ce_zp (by show .cons ⟨_,R⟩ (.cons R (.cons R (.nil))))) (SS.sqt_mk 05 ?ce_zb (by show .cons R (.cons R (.nil)))) (.cons (SS.sqt_mk 05 ?ce_z0 (by show .cons ⟨_,R⟩ (.cons ⟨_,R⟩ (.cons ⟨_,R⟩ 35)))) (.cons (SS.sqt_mk 05 ?ce_z1 (by show .cons ⟨_,R⟩ (.cons ⟨_,R⟩ (.cons ⟨_,R⟩ 35)))) (.nil))) (SS.sqt_mk 05 ?ce_zc (by show .cons R (.cons R (.nil))))
   all_goals decide
  obtain⟨co,g_COMES_AHEAD,c_COMES_AHEAD⟩:∃q,L2.GlV mg "COMES_AHEAD" (.ref q)/\SM.CMach (L2.KOf KX) q SM.aheadM:=by
   dsimp only[L2.KOf];refine' SM.cm_mk (ls:=[_,_,_]) KX Gq 05 (SS.sqt_mk 05 ?co_zp (by show .cons ⟨_,R⟩ (.cons R (.cons R (.nil))))) (SS.sqt_mk 05 ?co_zb (by show .cons R (.cons R (.cons R (.nil))))) (.cons (SS.sqt_mk 05 ?co_z0 (by show .cons ⟨_,R⟩ (.cons ⟨_,R⟩ (.cons ⟨_,R⟩ 35)))) (.cons (SS.sqt_mk 05 ?co_z1 (by show .cons ⟨_,R⟩ (.cons ⟨_,R⟩ (.cons ⟨_,R⟩ 35)))) (.cons (SS.sqt_mk 05 ?co_z2 (by show .cons ⟨_,R⟩ (.cons ⟨_,R⟩ (.cons ⟨_,R⟩ 35)))) (.nil)))) (SS.sqt_mk 05 ?co_zc (by show .cons R (.cons R (.cons R (.nil)))))
   all_goals decide
  obtain⟨cn,g_COMES_NEXT,c_COMES_NEXT⟩:∃q,L2.GlV mg "COMES_NEXT" (.ref q)/\SM.CMach (L2.KOf KX) q SM.nextM:=by
   dsimp only[L2.KOf];refine' SM.cm_mk (ls:=[_,_,_,_]) KX Gq 05 (SS.sqt_mk 05 ?cn_zp (by show .cons ⟨_,R⟩ (.cons R (.cons R (.nil))))) (SS.sqt_mk 05 ?cn_zb (by show .cons R (.cons R (.cons R (.cons R (.nil)))))) (.cons (SS.sqt_mk 05 ?cn_z0 (by show .cons ⟨_,R⟩ (.cons ⟨_,R⟩ (.cons ⟨_,R⟩ 35)))) (.cons (SS.sqt_mk 05 ?cn_z1 (by show .cons ⟨_,R⟩ (.cons ⟨_,R⟩ (.cons ⟨_,R⟩ 35)))) (.cons (SS.sqt_mk 05 ?cn_z2 (by show .cons ⟨_,R⟩ (.cons ⟨_,R⟩ (.cons ⟨_,R⟩ 35)))) (.cons (SS.sqt_mk 05 ?cn_z3 (by show .cons ⟨_,R⟩ (.cons ⟨_,R⟩ (.cons ⟨_,R⟩ 35)))) (.nil))))) (SS.sqt_mk 05 ?cn_zc (by show .cons R (.cons R (.cons R (.cons R (.nil))))))
   all_goals decide
  obtain⟨ktw,krw,kfa,kcj,kca,kce,kco,kcn,kcTooGreat,T⟩:∃(ktw krw kfa kcj kca kce kco kcn kcTooGreat:Ad) ,K33.Txt (L2.KOf KX) mg w ktw krw kfa kcj kca kce kco kcn kcTooGreat  :=by
   dsimp only[L2.KOf];refine' K33.txt_mk 36 36 36 36 36 36 36 36 36 36 36 36 36 36 36 36 36 36 36 (PySem.W.mg_of KX Gq 05) ⟨05,05,05⟩ 05 (by k_exc) (L2.glv_mk KX Gq 05 (by show⟨_,R⟩)) (L2.glv_mk KX Gq 05 (by show⟨_,R⟩)) (L2.glv_mk KX Gq 05 (by show⟨_,R⟩)) (L2.glv_mk KX Gq 05 (by show⟨_,R⟩)) (L2.glv_mk KX Gq 05 (by show⟨_,R⟩)) (L2.glv_mk KX Gq 05 (by show⟨_,R⟩)) (L2.glv_mk KX Gq 05 (by show⟨_,R⟩)) (L2.glv_mk KX Gq 05 (by show⟨_,R⟩)) g_TELLING_WORDS t_TELLING_WORDS g_TREE_WORDS t_TREE_WORDS g_FORMS f_FORMS g_JUST_ONCE c_JUST_ONCE g_ANY_ROW c_ANY_ROW g_EACH_IN c_EACH_IN g_COMES_AHEAD c_COMES_AHEAD g_COMES_NEXT c_COMES_NEXT
  obtain⟨c_reduced,t_reduced,c_paired,t_paired,c_met,t_met,c_joined,t_joined,c_dropped,t_dropped,c_maker,t_maker,Ke,Kz,Tl,K1,Kc,Vp,n_reduced,n_paired,n_met,n_joined,n_dropped,n_maker,ne_paired_reduced,ne_met_reduced,ne_met_paired,ne_joined_reduced,ne_joined_paired,ne_joined_met,ne_dropped_reduced,ne_dropped_paired,ne_dropped_met,ne_dropped_joined,ne_maker_reduced,ne_maker_paired,ne_maker_met,ne_maker_joined,ne_maker_dropped⟩:∃c_reduced t_reduced c_paired t_paired c_met t_met c_joined t_joined c_dropped t_dropped c_maker t_maker,L2.DfnC (L2.KOf KX) mg "reduced" K33.Vm ["machine"] c_reduced t_reduced/\L2.DfnC (L2.KOf KX) mg "paired" K33.Vx ["one","other","is_end"] c_paired t_paired/\L2.DfnC (L2.KOf KX) mg "met" K33.Pa ["one","other"] c_met t_met/\L2.DfnC (L2.KOf KX) mg "joined" K33.Vw ["one","other"] c_joined t_joined/\L2.DfnC (L2.KOf KX) mg "dropped" K33.Vc ["machine","track"] c_dropped t_dropped/\L2.DfnC (L2.KOf KX) mg "maker" K33.V8 ["bare_of","fitting_of","met","joined","flipped","dropped"] c_maker t_maker/\(L2.KOf KX).lookup t_reduced=B/\(L2.KOf KX).lookup t_paired=B/\(L2.KOf KX).lookup t_met=B/\(L2.KOf KX).lookup t_joined=B/\(L2.KOf KX).lookup t_dropped=B/\(L2.KOf KX).lookup t_maker=B/\t_paired≠t_reduced/\t_met≠t_reduced/\t_met≠t_paired/\t_joined≠t_reduced/\t_joined≠t_paired/\t_joined≠t_met/\t_dropped≠t_reduced/\t_dropped≠t_paired/\t_dropped≠t_met/\t_dropped≠t_joined/\t_maker≠t_reduced/\t_maker≠t_paired/\t_maker≠t_met/\t_maker≠t_joined/\t_maker≠t_dropped:=by
   dsimp only[L2.KOf];refine'⟨_,_,_,_,_,_,_,_,_,_,_,_,L2.dfnc_mk KX Gq 05 05 05 05 (L2.kcode_mk 05 R R R R R (by decide)) (λ_ _ _ _ _ _=>L2.fit1 λ_=>rfl),L2.dfnc_mk KX Gq 05 05 05 05 (L2.kcode_mk 05 R R R R R (by decide)) (λ_ _ _ _ _ _=>L2.fit3 λ_ _ _=>rfl),L2.dfnc_mk KX Gq 05 05 05 05 (L2.kcode_mk 05 R R R R R (by decide)) (λ_ _ _ _ _ _=>L2.fit2 λ_ _=>rfl),L2.dfnc_mk KX Gq 05 05 05 05 (L2.kcode_mk 05 R R R R R (by decide)) (λ_ _ _ _ _ _=>L2.fit2 λ_ _=>rfl),L2.dfnc_mk KX Gq 05 05 05 05 (L2.kcode_mk 05 R R R R R (by decide)) (λ_ _ _ _ _ _=>L2.fit2 λ_ _=>rfl),L2.dfnc_mk KX Gq 05 05 05 05 (L2.kcode_mk 05 R R R R R (by decide)) (λ_ _ _ _ _ _=>L2.fit6 λ_ _ _ _ _ _=>rfl),?n0,?n1,?n2,?n3,?n4,?n5,(by decide),(by decide),(by decide),(by decide),(by decide),(by decide),(by decide),(by decide),(by decide),(by decide),(by decide),(by decide),(by decide),(by decide),(by decide)⟩
   case n0=>first|k_is|kernel_rfl
   case n1=>first|k_is|kernel_rfl
   case n2=>first|k_is|kernel_rfl
   case n3=>first|k_is|kernel_rfl
   case n4=>first|k_is|kernel_rfl
   case n5=>first|k_is|kernel_rfl
  let L:∃fd:FuncData,(∀(s:Shared) (v:Va),BindsTo s fd ⟨[v],[]⟩ [("_law_script",v)])/\L2.Fun (L2.KOf KX) "law" "law" K33.Pi fa fd:=by
   dsimp only[L2.KOf];refine' L2.law_mk KX Gq hmg 05 05 05 05 ?b
   showλs u =>.of_eq R
  obtain⟨fd,hb,F⟩:=L;show⟨fd,[(t_reduced,K33.qs_reduced),(t_paired,K33.qs_paired),(t_met,K33.qs_met),(t_joined,K33.qs_joined),(t_dropped,K33.qs_dropped),(t_maker,K33.qs_maker)],hb,L2.ts_all (List.forall_mem_cons.mpr ⟨⟨Ke.tab (by decide+kernel),n_reduced⟩,(List.forall_mem_cons.mpr ⟨⟨Kz.tab (by decide+kernel),n_paired⟩,(List.forall_mem_cons.mpr ⟨⟨Tl.tab (by decide+kernel),n_met⟩,(List.forall_mem_cons.mpr ⟨⟨K1.tab (by decide+kernel),n_joined⟩,(List.forall_mem_cons.mpr ⟨⟨Kc.tab (by decide+kernel),n_dropped⟩,(List.forall_mem_cons.mpr ⟨⟨Vp.tab (by decide+kernel),n_maker⟩,λ_ z=>nomatch z⟩)⟩)⟩)⟩)⟩)⟩),λbase _ _ kb=>K33.all T 09 09 09 09 09 09 Ke 09 09 09 Kz 09 Tl K1 09 09 09 09 Kc Vp 09 09 09 09 09 09 09 09 09 09 09 09 09 09 09 09 09 09 09 09 09 09 09 09 09 09 09 09 09 09 ne_paired_reduced ne_met_reduced ne_met_paired ne_joined_reduced ne_joined_paired ne_joined_met ne_dropped_reduced ne_dropped_paired ne_dropped_met ne_dropped_joined ne_maker_reduced ne_maker_paired ne_maker_met ne_maker_joined ne_maker_dropped kb F⟩
