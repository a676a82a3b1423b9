import PyProof.Rows.All
import Wide.All
import OpenK.AllK
import PySem.Challenge.RW_setsays_k67_whole_counted
set_option compiler.extract_closed false
set_option bootstrap.genMatcherCode false
set_option genSizeOf false
set_option genSizeOfSpec false
set_option maxHeartbeats 4000000
noncomputable section
local macro_rules|`(tactic|omega)=>`(tactic|first|assumption|exact Nat.le_refl _|exact Nat.le_add_left _ _|exact Nat.le_add_right _ _|exact Nat.le_of_lt (by assumption)|exact Nat.le_of_succ_le_succ (by assumption)|exact Nat.lt_of_succ_lt (by assumption)|exact Nat.le_of_succ_le (by assumption)|exact Nat.lt_of_succ_lt_succ (by assumption)|exact Nat.le_trans (by assumption) (by decide)|exact Nat.lt_of_le_of_lt (by assumption) (by decide)|exact Nat.min_le_left _ _|decide|lia|omega+splitDisjunctions)
local macro_rules|`(tactic|let $d:letDecl)=>do
 match d with
 |`(letDecl|$p:term:=$e)=>
  let rec go:Nat->Lean.Syntax->Lean.MacroM (Lean.TSyntax `rcasesPat)
   |0,_=>Lean.Macro.throwUnsupported
   |n+1,s=>do match (⟨s⟩:Lean.Term) with
    |`(($a,$b,*))=>do
     let x<-(#[a]++b.getElems).mapM λx=>go n x.raw
     let x<-x.mapM λx=>`(Lean.Parser.Tactic.rcasesPatMed|$x:rcasesPat)
     let x:Array (Lean.TSyntax `Lean.Parser.Tactic.rcasesPatLo)<-x.mapM λx=>`(Lean.Parser.Tactic.rcasesPatLo|$x:rcasesPatMed)
     `(rcasesPat|⟨$x,*⟩)
    |`(_)=>`(rcasesPat|_)
    |`($i:ident)=>`(rcasesPat|$i:ident)
    |_=>Lean.Macro.throwUnsupported
  let q<-go 9 p
  `(tactic|obtain $q:rcasesPat:=$e)
 |_=>`(tactic|have $d:letDecl)
local macro_rules|`(tactic|show $e:term)=>`(tactic|exact $e)
local macro_rules|`(tactic|apply $e:term)=>`(tactic|refine $e)
set_option hygiene false
local macro_rules|`(tactic|nofun)=>`(tactic|first|(cases h;subst_vars;rfl)|(rcases h with ⟨_,rfl,_⟩;rfl)|(rcases h with ⟨_,_,rfl,_⟩;rfl)|(rcases h with ⟨_,_,_,rfl,_⟩;rfl)|(rcases h with ⟨_,_,_,_,rfl,_⟩;rfl)|(rcases h with ⟨_,_,_,_,_,rfl,_⟩;rfl)|(rcases h with ⟨_,_,_,_,_,_,rfl,_⟩;rfl)|(rcases h with ⟨_,_,_,_,_,_,_,rfl,_⟩;rfl)|(rcases h with ⟨_,_,_,_,_,_,_,_,rfl,_⟩;rfl)|(rcases h with ⟨_,_,_,_,_,_,_,_,_,rfl,_⟩;rfl)|(rcases h with ⟨_,_,_,_,_,_,_,_,_,_,rfl,_⟩;rfl))
set_option hygiene true
universe u v
theorem R{D:Sort u}{a:D}:a=a:=rfl
theorem Xp{c:Prop}{h:Decidable c}(n:¬c){D:Sort u}{t e:D}:ite c t e=e:=if_neg n
theorem Xq{c:Prop}{h:Decidable c}(n:c){D:Sort u}{t e:D}:ite c t e=t:=if_pos n
theorem Xa{a b:Prop}(h:a)(n:¬a):b:=absurd h n
theorem Xf{p:Prop}[i:Decidable p](h:¬p):decide p=false:=decide_eq_false h
theorem Xg{p:Prop}[i:Decidable p](h:p):decide p=true:=decide_eq_true h
open PySem renaming Addr → Ad,Value → Va
open Option renaming some → G,none → B
open Bool renaming true → N,false → Fa
set_option Elab.async false
set_option linter.all false
set_option maxRecDepth 100000
open List renaming getElem?_eq_getElem → y00, length_map → y01, getD_eq_getElem?_getD → y02, getElem?_map → y03, mem_cons_of_mem → y06, mem_cons → y08, size_toArray → y09, mem_cons_self → y0a, mem_singleton → y0b, getElem_mem → y0c, length_append → y0e, getElem?_eq_some_iff → y0f, mem_map → y0h, length_cons → y0j, mem_of_getElem? → y0k, take_of_length_le → y0l, not_mem_nil → y0n, map_map → y0o, getElem?_range → y0p, getElem?_eq_none → y0r, length_singleton → y0s, map_cons → y0t, map_append → y0u, mem_range → y0v, length_take → y0w, mem_append → y0x, length_range → y0y, mem_append_right → y10, getElem?_append_right → y11, all_eq_true → y12, take_add_one → y14, lookup_cons → y15, getElem?_append_left → y1c, length_nil → y1e, idxOf_lt_length_iff → y1f, append_nil → y1g, length_drop → y1h, nodup_cons → y1k, getElem_of_mem → y1n, ext_getElem? → y1p, getElem?_cons_succ → y1r, cons_append → y1u, any_eq_true → y1v, map_congr_left → y1w, filter_cons_of_pos → y1y, filter_cons_of_neg → y1z, of_mem_zip → y21, filterMap_cons → y22, forIn_cons → y25, all_cons → y26, range_succ → y28, mem_filter → y29, length_filter_le → y2a, find?_cons → y2b, flatMap_cons → y2d, append_assoc → y2e, mem_of_mem_take → y2f, mem_append_left → y2g, ext_getElem → y2k, nil_append → y2m, idxOf_cons → y2n, getElem_idxOf → y2o, filter_append → y2p, range_succ_eq_map → y2s, drop_eq_nil_of_le → y2t, forIn_nil → y2v, length_replicate → y2w, sum_cons → y2x, foldl_cons → y30, map_nil → y31, all_map → y32, drop_eq_getElem_cons → y34, foldl_append → y35, getElem?_replicate → y36, any_cons → y37, pairwise_lt_range → y39, take_append_drop → y3d, nodup_nil → y3h, pairwise_cons → y3l, map_take → y3m, reverse_cons → y3n, nodup_append → y3o, eraseIdx_eq_take_drop_succ → y3p, all_eq_false → y3q, take_append_of_le_length → y3s, nodup_range → y3t, mem_flatMap → y3u, getElem_map → y3v, length_eraseIdx_of_lt → y3x, getElem?_zip_eq_some → y3z, drop_zero → y40, length_erase_of_mem → y41, getElem?_take_of_lt → y42, getElem?_cons_zero → y43, length_pos_of_mem → y46, getElem_cons_drop → y47, getElem?_set_self → y48, singleton_append → y4c, eq_nil_or_concat → y4d, concat_eq_append → y4e
open PySem.Heap renaming get?_push_of_some → y04, get?_push_size → y0d, lt_size → y0g, get?_update_other → y18, size_push → y19, get?_update_self → y1b
open Nat renaming le_refl → y05, ne_of_lt → y0m, lt_of_lt_of_le → y0q, zero_le → y13, le_trans → y1a, lt_trans → y1j, lt_irrefl → y1m, le_of_lt → y1o, ne_of_gt → y24, le_of_not_lt → y27, succ_le_succ → y2i, lt_succ_self → y2j, lt_succ_of_lt → y2u, mod_lt → y2y, not_lt_zero → y2z, le_of_succ_le_succ → y38, sub_self → y3b, min_eq_left → y3c, not_succ_le_zero → y3f, le_succ → y3i, lt_of_le_of_lt → y3k, le_add_left → y3w, zero_add → y49, mul_comm → y4a, le_of_eq → y4b
open Bool renaming and_eq_true → y07, false_ne_true → y0i, eq_false_iff → y1i, false_and → y1q, true_and → y1s, eq_iff_iff → y1t, and_false → y2h, false_eq_true → y33, or_eq_true → y3e, and_eq_true_iff → y3g, or_false → y44, false_or → y45
open Option renaming map_eq_some_iff → y0z, getD_some → y17, toList_some → y1x, map_some → y20, isSome_iff_exists → y2l
open Array renaming length_toList → y16, getElem?_eq_getElem → y1l, getElem?_eq_some_iff → y23, getElem?_toList → y2c, getElem?_eq_none → y3a, toList_push → y3r
open Int renaming toNat_natCast → y1d, emod_nonneg → y2q, emod_lt_of_pos → y2r, one_mul → y3j, fdiv_eq_ediv_of_nonneg → y3y, zero_add → y4f
open PySem renaming wpAny_bind → ia, wpAny_pure → ib, Shared → ig, sizeLine → ii, Program → ik, starEach → im, Around → io, wpAny_mono → iq, wpAny_holding → ir, mainGlobals → iu, cellsFrom → iw, boot_len → iz, builtinLookup_eq_fast → i0, compareOp → i4, wpAny_call_entry → i5, FuncData → i6, wpAny_newObj_type → i7, Paired → i8, rawInt → i9, wpAny_field → iA, wpAny_callSpecial?_slot → iB, wpAny_truthy_bool → iC, wpAny_setField → iD, wpAny_Call_Name_kw → iE, wpAny_seqItems → iF, codeAny_builtin → iG, codeAny_mono → iH, isSubtype_type → iI, typeLookup_type → iJ, wpAny_execs_cons → iL, sysModules → iM, Arguments → iN, wpAny_execs_nil → iO, wpAny_setField_rec → iP, binaryOp → iQ, wpAny_setState_of → iR, wpAny_specialOf → iS, backTo → iT, plainId_quiet → iU, scanBound → iV, codeAny_call_function → iW, wpAny_passesOwn → iX, letOwnedTupleGo → iY, wpAny_updateSeq → iZ, bootBuiltins → ja, wpAny_pyIter_list → jb, codeAny → jc, wpAny_standAt → je, bindArgs → jf, wpAny_askSetting → jg, builtinsNs → jh, wpAny_call → ji, NameKind → jj, wpAny_newFunctionEnv_cells → jk, typeLookup → jl, call_meets → jm, wpAny_rule → jn, SetTable → jo, swapsWith → jp, wpAny_typeOf → jq, codeAny_of_tree → jr, assignEach → js, sliceBounds → jt, GenState → ju, foldedSetIterable → jv, wpAny_pyIter_slot → jw, codeAmong → jx, wpAny_isInstance → jz, InCallC → j0, sizeLine_eq → j6, codeAny_call_builtin → j7, pyNext → j8, wpAny_setEntries_of → j9, codeAny_func → jB, updateSeq → jC, tupleKind_room_in1 → jD, firstArgMember → jE, ZipApart → jG, wpAny_fieldsOf → jH, newFunctionEnv → jI, getItem → jJ, wpAny_letGo → jL, behindInMarks → jM, IsPair → jO, wpAny_onRaise → jP, wpAny_attempt → jQ, tupleKind → jR, storeName → jS, checkBuiltinCall → jT, intKind → jU, pyIter → jV, Keyword → jW, recursionLimit → jX, subscripted → jY, wpAny_newTuple → jZ, relayAll → lg, BindsTo → lh, leaving → li, callerA → lj, valueAt → lm, wpAny_load → lq, findBy → lu, IsPart → lw, qualnameIn → ly, setsByText → lz, FuncBody → lA
open PyProof.Rows renaming boot_isinstance → iy, boot_tuple → iK, envOfC → jd, kindOf → jy, AllBare → jA, IntsAre → jK, boot_all → lB
open PySem PySem.Spec PyProof.Rows
open PySem.W (Frag)
abbrev Y0:=Va->ig->Prop
abbrev Y1:=Str->Option Va
abbrev Y2:=List<|Ad×Obj
abbrev Y3:=List<|Pos×Str
abbrev Y4:=List<|Str×Ad
abbrev Y6:=List<|Nat×Str
abbrev Y8:=Array<|Option Va
abbrev Y9:=Option Va->ig->Prop
set_option hygiene false in
local macro_rules
| `(tactic|ac_rfl) => `(tactic|refine atom λzG zk=>?_)
set_option hygiene false in
local macro_rules
| `(tactic|infer_instance) => `(tactic|refine iE (thn (zhs (pos:=p) hN hv hd hcd pins s σ H (λv H'=>v =.ref f/\H'=H) I (zfz hs ⟨rfl,rfl⟩)) λu s1 zz=>ex5 zz λv H1 I1 r1 zq=>?_))
set_option hygiene false
local macro_rules|`(23)=>`(λvs H Q E h=>?_)
local macro_rules|`(47)=>`(λf cdv A outer s H vs Q E hr h=>?_)
local macro_rules|`(03)=>`(Cal P w K mg base)
local macro_rules|`(02)=>`(Inv X pins σ)
local macro_rules|`(00)=>`(by rfl)
local macro_rules|`(01)=>`(by omega)
local macro_rules|`(36)=>`(model X.prog X.w)
local macro_rules|`(05)=>`(by simp)
local macro_rules|`(48)=>`(by decide+kernel)
local macro_rules|`(09)=>`(Or.inl rfl)
local macro_rules|`(07)=>`(by decide)
local macro_rules|`(04)=>`(.ref a)
local macro_rules|`(010)=>`(pa_c (pv 0) zaa)
local macro_rules|`(029)=>`(.Call (.Name x p) (e::es) [] pos)
local macro_rules|`(019)=>`(pa_c (pv 1) zaa)
local macro_rules|`(012)=>`(x==("__debug__":Str))
local macro_rules|`(013)=>`(m.run 0 (row.take i))
local macro_rules|`(73)=>`(defScope st)
local macro_rules|`(018)=>`(.ref s.heap.objs.size)
local macro_rules|`(054)=>`(s2.heap.push {cls:=.type "list",data:=.seq ([]:List Value).toArray})
local macro_rules|`(033)=>`((∀b,InCl cl b->H2 b=none))
local macro_rules|`(22)=>`(.ref p)
local macro_rules|`(88)=>`(model prog w)
local macro_rules|`(08)=>`(y05 _)
local macro_rules|`(19)=>`(zag K)
local macro_rules|`(061)=>`(s.heap.objs.size+1)
local macro_rules|`(062)=>`(k==NameKind.free&&env.scope.kind ==.function&&env.kindOf n==some .cell)
local macro_rules|`(66)=>`(nomark _)
local macro_rules|`(020)=>`(.frz o (.own c))
local macro_rules|`(011)=>`(Same.refl H)
local macro_rules|`(81)=>`(model P w)
local macro_rules|`(50)=>`(.lst ys)
local macro_rules|`(063)=>`(cloFd name qual params (.stmts body) scope cl ct (.ref c') pm)
local macro_rules|`(071)=>`(s.heap.push {cls:=.type "set",dict:=none,data:=.set #[] 0 (.fresh 0 0 led)})
local macro_rules|`(023)=>`(pa_c (pv 2) zaa)
local macro_rules|`(064)=>`(A.deeper (envL qual scope cl s.heap.objs.size f (.ref c')))
local macro_rules|`(49)=>`(.ref b)
local macro_rules|`(74)=>`(CompOk.of rfl 00 00)
local macro_rules|`(38)=>`(Or.inl 00)
local macro_rules|`(072)=>`(PySem.W.fnOf x x (defArgs st) (defBody st) 73 .none kV doc pm an cdv ct)
local macro_rules|`(065)=>`(cxOf CX0 P w K mg base Nq x 73 f (.ref c) A outer s H E)
local macro_rules|`(066)=>`(cxLE P w K mg base Nq qual scope cl f0 cd A outer s0 H0 E)
local macro_rules|`(067)=>`(cxOf CX P w K mg base Nq qual scope f cdv A outer s H E)
local macro_rules|`(050)=>`(zay (zar K) 00 T.b_len iz 010)
local macro_rules|`(022)=>`(za7 I q 05)
local macro_rules|`(055)=>`(.Call (.Name f np) (e::es) [] cpos)
local macro_rules|`(051)=>`(cxB X scope tn cp cl C s H fp)
local macro_rules|`(041)=>`((false,eval e X.env))
local macro_rules|`(52)=>`(.ref f)
local macro_rules|`(049)=>`(iw 061 scope.names [])
local macro_rules|`(075)=>`((∀c o,c∉[z,ti,ro,j1,j2]->s.heap.get? c=some o->h'.get? c=some o))
local macro_rules|`(068)=>`((f,{cls:=.type "function",data:=.func fd}))
local macro_rules|`(037)=>`(EP X pins σ Q)
local macro_rules|`(073)=>`((∀σ' H',Nq σ' H'->∃m',m'<m/\W (i+1) m' σ' H'))
local macro_rules|`(076)=>`((∀b o,b<s.heap.objs.size->s.heap.get? b=some o->h'.get? b=some o))
local macro_rules|`(048)=>`(ha pins s σ H _ I h)
local macro_rules|`(65)=>`(.ref D)
local macro_rules|`(045)=>`(upd H1 D (.lst []))
local macro_rules|`(034)=>`(ns.map V.int)
local macro_rules|`(077)=>`(PySem.W.fnOf name qual params body scope dV kV doc pm an cdv ct)
local macro_rules|`(042)=>`(excO a (.ref C))
local macro_rules|`(032)=>`(m.run 0 row)
local macro_rules|`(024)=>`(I.ok.hd hc)
local macro_rules|`(078)=>`(cloFd name qual params (.expr body) scope cl ct (.ref c') pm)
local macro_rules|`(079)=>`(.FunctionDef name params body [] none [] scope none name pos)
local macro_rules|`(046)=>`(pa_c (pv 0) 019)
local macro_rules|`(074)=>`(.ListComp elt [⟨tg,iter,ifs,0⟩] scope pos)
local macro_rules|`(080)=>`(pa_c (zbl (v:=.ty "bool") 00 T.b_bool boot_bool 00) zaa)
local macro_rules|`(030)=>`(row.take i)
local macro_rules|`(035)=>`(mixKind P w)
local macro_rules|`(038)=>`(zac (zai zch))
local macro_rules|`(039)=>`(mixL cl H' H2)
local macro_rules|`(069)=>`(zae Tf hr 01 00 010)
local macro_rules|`(047)=>`(picked m rooms g)
local macro_rules|`(081)=>`(pa_c (zbl (v:=.ty "int") 00 T.b_int boot_int 00) zaa)
local macro_rules|`(014)=>`(.ref it)
local macro_rules|`(056)=>`(x==("__classdict__":Str))
local macro_rules|`(025)=>`(⟨us,[]⟩)
local macro_rules|`(070)=>`(zay (zar K) 00 T.b_len iz 019)
local macro_rules|`(026)=>`(ps.zip us)
local macro_rules|`(027)=>`(m.run 0 u)
local macro_rules|`(043)=>`(row.length-i-1)
local macro_rules|`(057)=>`(iw 061 scope.names []++cl)
local macro_rules|`(085)=>`(s.heap.push {cls:=.type "range",data:=.fields #[.int lo t,.int hi u,.int 1 v]})
local macro_rules|`(021)=>`(T.step t)
local macro_rules|`(052)=>`(iT pos (im es X.env))
local macro_rules|`(086)=>`(PySem.W.fnOf x qual (defArgs st) (defBody st) 73 .none kV doc pm an cdv ct)
local macro_rules|`(058)=>`(zaq op_eq (pv 2) zaz 66)
local macro_rules|`(082)=>`(HT.sIx xs.length xs.length hi-HT.sIx xs.length 0 lo)
local macro_rules|`(015)=>`(.tup xs)
local macro_rules|`(016)=>`(.lst xs)
local macro_rules|`(083)=>`(tDef X P qs name qual params (.stmts body) scope j)
local macro_rules|`(059)=>`(upd H4 D (.lst (ys++[y])))
local macro_rules|`(036)=>`(start Nq vs)
local macro_rules|`(044)=>`(stB tn cp σ0)
local macro_rules|`(053)=>`(.Tuple elts x1 tpos)
local macro_rules|`(084)=>`(sIx items.size items.size hi-sIx items.size 0 lo)
local macro_rules|`(040)=>`(e0.bs b o e)
local macro_rules|`(028)=>`(.inl rfl)
local macro_rules|`(060)=>`(ha pos pins s σ H _ I h)
local macro_rules|`(031)=>`(PySem.W.mg_none_of KX Gq (by k_is))
local macro_rules|`(39)=>`(by exact_mod_cast 0)
local macro_rules|`(06)=>`(by k_is)
local macro_rules|`(017)=>`(.cons ⟨_,rfl⟩ (.nil))
set_option hygiene true
namespace L2
theorem ex5{D p:Type}{A Bq C:D->p->Prop}{Gq:Prop}(h:∃x y,A x y/\Bq x y/\C x y)(k:∀x y,A x y->Bq x y->C x y->Gq):Gq:=let⟨x,y,a,b,c⟩:=h;k x y a b c
abbrev Key:=Sum Int Str
noncomputable def blI(b:Bool):Int:=if b=N then 1 else 0
def isBl(k:Int):Va->Bool
 |.bool b=>k==blI b
 |_=>Fa
def keyIs:Key->Va->Bool
 |.inl k,v=>Va.isInt k v||isBl k v
 |.inr x,v=>Va.isStrOf x v
noncomputable def keyH(w:World):Key->Int
 |.inl k=>hashInt k
 |.inr x=>hashStr w x
theorem zqd:∀{v:Va},isBl k v=N->∃b,k=blI b/\v=Va.bool b:=by
 intro v h;cases v
 case bool b=>show⟨b,eq_of_beq h,R⟩
 all_goals show Xa h y0i
theorem za5:∀{k:Key} {v:Va},keyIs k v=N->(∃i t,k=Sum.inl i/\v=Va.int i t)\/(∃x t,k=Sum.inr x/\v=Va.str x t)\/∃b,k=Sum.inl (blI b)/\v=Va.bool b
 |.inl i,v,h=>by
  rcases(y3e _ _).mp (show(Va.isInt i v||isBl i v)=N from h)with h|h
  .let(t,e):=Va.isInt_shape (k:=i) (v:=v) h;show .inl ⟨i,t,R,e⟩
  .let(b,e,l):=zqd h;show .inr<|.inr ⟨b,by rw[e],l⟩
 |.inr x,v,h=>by
  let(t,e):=Va.isStrOf_shape (x:=x) (v:=v) h;show .inr<|.inl ⟨x,t,R,e⟩
theorem zta(i:Int)(t:Tok):keyIs (.inl i) (.int i t)=N:=by simp[keyIs,Va.isInt]
theorem zw3(b:Bool):keyIs (.inl<|blI b) (.bool b)=N:=by simp[keyIs,isBl]
theorem blI_inj(e:blI a=blI b):a=b:=by
 cases a<;>cases b<;>first|rfl|show Xa e (by decide)
theorem hash_bl(h:Q (hashInt<|blI b) {s with toks:=s.toks+1}):wpAny (model prog w) A (pyHash<|.bool b) Q E s:=by
 let v:s.TypeIs (.bool b) "bool":=rfl;let D:=rawHash_range<|blI b;unfold pyHash;apply ia ?_;rw[cRoomFor,Xp<|show¬[Va.bool b].any Va.onHeap=N from y0i];apply ib<|ia (iS v PySem.F.slot_bool_hash.lookup ?_);change wpAny _ _ (if(G (Va.builtin "int.__hash__")==G Va.none)=N then _ else _) Q E s;rw[Xp<|show¬(G (Va.builtin "int.__hash__")==G Va.none)=N from y0i];apply ia<|iS v PySem.F.slot_bool_hash.lookup ?_;change wpAny _ _ (callSpecialIfBoundUnlessNone? (.bool b) "__hash__" _>>=_) Q E s;apply ia<|wpAny_callSpecialIfBoundUnlessNone?_slot v PySem.F.slot_bool_hash (i5 PySem.F.slot_bool_hash v PySem.F.entry_int_hash ?_<|PySem.F.args_int_hash_1 _);apply(show wpAny _ _ (do ret<|←mkInt (rawHash<|blI b)) _ _ s from wpAny_ret_mkInt ?_);change wpAny _ _ (if(decide (-(2:Int)^63<=rawHash (blI b))&&decide (rawHash (blI b)<2^63))=N then _ else _) Q E _;rw[Xq<|by rw[Xg D.1,Xg D.2];rfl];show ib h
theorem zs9(x:Str)(t:Tok):keyIs (.inr x) (.str x t)=N:=by simp[keyIs,Va.isStrOf]
theorem zoj(a b:Int):decide ((Sum.inl a:Key)=Sum.inl b)=(a==b):=by
 by_cases e:a=b
 .subst e;simp
 .let h:¬(Sum.inl a:Key)=Sum.inl b:=λq=>e<|Sum.inl.inj q;rw[Xf h];show(beq_eq_false_iff_ne.mpr e).symm
theorem key_rr(a b:Str):decide ((Sum.inr a:Key)=Sum.inr b)=decide (a=b):=by
 by_cases e:a=b
 .subst e;simp
 .let h:¬(Sum.inr a:Key)=Sum.inr b:=λq=>e<|Sum.inr.inj q;rw[Xf h,Xf e]
theorem zyd(a:Int)(b:Str):decide ((Sum.inl a:Key)=Sum.inr b)=Fa:=Xf λq=>nomatch q
theorem zyc(a:Str)(b:Int):decide ((Sum.inr a:Key)=Sum.inl b)=Fa:=Xf λq=>nomatch q
def mixKind(prog:ik)(w:World):PySem.KeyKind prog w Key where
 is:=keyIs
 hash:=keyH w
 inj:=λv a b q U=>by
  rcases za5 q with⟨i,t,rfl,rfl⟩|⟨x,t,rfl,rfl⟩|⟨c,rfl,rfl⟩
  .rcases za5 U with⟨j,u,rfl,e⟩|⟨y,u,rfl,e⟩|⟨d,rfl,e⟩
   .injection e with L _;rw[L]
   .exact nomatch e
   .exact nomatch e
  .rcases za5 U with⟨j,u,rfl,e⟩|⟨y,u,rfl,e⟩|⟨d,rfl,e⟩
   .exact nomatch e
   .injection e with L _;rw[L]
   .exact nomatch e
  .rcases za5 U with⟨j,u,rfl,e⟩|⟨y,u,rfl,e⟩|⟨d,rfl,e⟩
   .exact nomatch e
   .exact nomatch e
   .injection e with L;rw[L]
 byValue:=λk v h=>by
  rcases za5 h with⟨i,t,rfl,rfl⟩|⟨x,t,rfl,rfl⟩|⟨c,rfl,rfl⟩<;>rfl
 pyHash:=λhv h=>by
  rcases za5 hv with⟨i,t,rfl,rfl⟩|⟨x,t,rfl,rfl⟩|⟨c,rfl,rfl⟩
  .exact wpAny_pyHash_int h
  .exact wpAny_pyHash_str h
  .exact hash_bl h
 eqBool:=λr hv h=>by
  rcases za5 r with⟨i,t,rfl,rfl⟩|⟨x,t,rfl,rfl⟩|⟨c,rfl,rfl⟩
  .rcases za5 hv with⟨j,u,rfl,rfl⟩|⟨y,u,rfl,rfl⟩|⟨d,rfl,rfl⟩
   .rw[zoj]at h;show wpAny_eqBool_int h
   .rw[zyd]at h;show SeqAt.EqAt.int_str i t y u _ _ _ _ h
   .rw[zoj]at h;show SeqAt.EqAt.int_bool i t d _ _ _ _ h
  .rcases za5 hv with⟨j,u,rfl,rfl⟩|⟨y,u,rfl,rfl⟩|⟨d,rfl,rfl⟩
   .rw[zyc]at h;show SeqAt.EqAt.str_int x t j u _ _ _ _ h
   .rw[key_rr]at h;show wpAny_eqBool_str h
   .rw[zyc]at h;show SeqAt.EqAt.str_bool x t d _ _ _ _ h
  .rcases za5 hv with⟨j,u,rfl,rfl⟩|⟨y,u,rfl,rfl⟩|⟨d,rfl,rfl⟩
   .rw[zoj]at h;show SeqAt.EqAt.bool_int c j u _ _ _ _ h
   .rw[zyd]at h;show SeqAt.EqAt.bool_str c y u _ _ _ _ h
   .rw[zoj,show(blI c==blI d)=(c==d) by cases c<;>cases d<;>rfl]at h;show SeqAt.EqAt.bool_bool c d _ _ _ _ h
 «strs»:=λk x t v h=>by
  rcases za5 h with⟨i,u,rfl,e⟩|⟨y,u,rfl,e⟩|⟨d,rfl,e⟩
  .exact nomatch e
  .injection e with L _
   subst L;cases v<;>rfl
  .exact nomatch e
theorem zmq(prog:ik)(w:World)(i:Int)(t:Tok):(mixKind prog w).is (.inl i) (.int i t)=N:=zta i t
theorem zmp(prog:ik)(w:World)(x:Str)(t:Tok):(mixKind prog w).is (.inr x) (.str x t)=N:=zs9 x t
inductive V where
 |non|bl (b:Bool)|int (i:Int)|str (x:Str)|byt (b:Array UInt8)|flt (b:UInt64)|ref (a:Ad)|ty (n:String)
 deriving DecidableEq
def RelV:V->Va->Prop
 |.non,u=>u=Va.none
 |.bl b,u=>u=Va.bool b
 |.int i,u=>∃t,u=Va.int i t
 |.str x,u=>∃t,u=Va.str x t
 |.byt b,u=>∃t,u=Va.bytes b t
 |.flt b,u=>∃t,u=Va.float b t
 |.ref a,u=>u=Va.ref a
 |.ty n,u=>u=Va.type n
abbrev Vals:List V->List Va->Prop:=i8 RelV
theorem Vals.length(r:Vals xs us):xs.length=us.length:=Paired.length r
theorem Vals.get:∀{xs:List V} {us:List Va} {i:Nat} {x:V},Vals xs us->xs[i]?=G x->∃u,us[i]?=G u/\RelV x u
 |_,_,_,_,.nil,e=>by simp at e
 |_,_,0,_,.cons r _,e=>by simp at e;subst e;show⟨_,R,r⟩
 |_,_,i+1,x,.cons _ t,e=>by
  let(u,O,M):=Vals.get (i:=i) (x:=x) t (by simpa using e);show⟨u,by simpa using O,M⟩
theorem Vals.append:∀{xs ys:List V} {us j:List Va},Vals xs us->Vals ys j->Vals (xs++ys) (us++j)
 |_,_,_,_,.nil,s=>s
 |_,_,_,_,.cons r t,s=>.cons r<|Vals.append t s
theorem Vals.take:∀{xs:List V} {us:List Va} (n:Nat),Vals xs us->Vals (xs.take n) (us.take n)
 |_,_,0,_=>.nil
 |_,_,_+1,.nil=>.nil
 |_,_,n+1,.cons r t=>.cons r<|Vals.take n t
theorem Vals.drop:∀{xs:List V} {us:List Va} (n:Nat),Vals xs us->Vals (xs.drop n) (us.drop n)
 |_,_,0,r=>r
 |_,_,_+1,.nil=>.nil
 |_,_,n+1,.cons _ t=>Vals.drop n t
def RelO:Option V->Option Va->Prop
 |some v,G u=>RelV v u
 |none,B=>True
 |_,_=>False
def KV{d:Type}:List (d×V)->List (d×Va)->Prop:=i8 λ(p:d×V) (q:d×Va)=>p.1=q.1/\RelV p.2 q.2
noncomputable def kV:Key->V
 |.inl i=>.int i
 |.inr x=>.str x
inductive HO where
  |lst (xs:List V)
  |tup (xs:List V)
  |dK (kvs:List<|Key×V)|dT (kvs:List<|List Key×V)
  |set (S:Int->Bool) (n:Nat)
  |ins (C dx:Ad) (fs:List<|Str×V)
  |own (x:Ad)
  |xd (fs:List<|Str×V)
  |met (f x:Ad)
  |rng (lo hi:Int)
  |frz (o:Obj) (u:HO)
  |tbl (qs:Y3) (ps:Array Va)
  |ext (φ:Heap->Prop)
abbrev Hp:=Ad->Option HO
noncomputable def upd(H:Hp)(a:Ad)(o:HO):Hp:=λb=>if b=a then G o else H b
theorem zao:upd H a o a=G o:=by unfold upd;rw[Xq rfl]
theorem zak(h:b≠a):upd H a o b=H b:=by unfold upd;rw[Xp h]
theorem zsx{H:Hp}{a b:Ad}{o u:HO}(h:H a=G o)(h':H b=G u)(d:o≠u):a≠b:=by
 intro e;subst e;rw[h]at h';show d<|Option.some.inj h'
theorem zax{H:Hp}{a b:Ad}{o:HO}(h:H a=G o)(h':H b=B):a≠b:=by
 intro e;subst e;rw[h]at h';cases h'
section
variable (P:ik)(w:World)
def CodeObj(o:Obj)(q:Str):Prop:=∃vs t,o.data=.fields vs/\vs[1]?=G (.str q t)
def ObjOk(H:Hp)(h:Heap)(a:Ad):HO->Prop
 |.lst xs=>xs.length<=ii/\∃(its:List Va) (n:Nat),Vals xs its/\h.get? a=G {cls:=.type "list",data:=.seq its.toArray n}
 |.tup xs=>xs.length<=ii/\∃its:List Va,Vals xs its/\IsTup h a its.toArray
 |.dK kvs=>kvs.length<=ii/\(a==iM)=Fa/\∃vs,KV kvs vs/\h.DictOf 035 a vs
 |.dT kvs=>kvs.length<=ii/\(a==iM)=Fa/\∃xs:List<|List Key×Ad×Va,
   i8 (λ(p:List Key×V) (q:List Key×Ad×Va)=>p.1=q.1/\H q.2.1=G (.tup<|p.1.map kV)/\RelV p.2 q.2.2) kvs xs/\
   ∃o l ep,h.get? a=G o/\o.ExactDict/\o.data=.dict l ep/\l.toList=xs.map (entryOfKey<|jR 035)/\(xs.map (·.1)).Nodup
 |.set S n=>h.SetOf (jU P w) a S n
 |.ins C dx fs=>H dx=G (.own a)/\fs.length<=1000/\dx≠a/\h.get? a=G (PySem.W.instObj C dx)/\
   ∃L,h.Ns1 dx L/\(∀f,RelO (fs.lookup f)<|L f)/\PySem.Within L (fs.map (·.1))
 |.own _=>∃o,h.get? a=G o
 |.xd fs=>∃L,h.Ns1 a L/\∀f,RelO (fs.lookup f)<|L f
 |.rng lo hi=>∃t u v,h.get? a=G {cls:=.type "range",data:=.fields #[.int lo t,.int hi u,.int 1 v]}
 |.frz o u=>h.get? a=G o/\ObjOk H h a u
 |.tbl qs ps=>∃i:Array Va,h.get? a=G {cls:=.none,data:=.fields (ps++i)}/\TriplesOk (ps++i).toList/\∀p∈qs,∀v,jx p.1 (ps++i).toList=G v->∃c o,v=.ref c/\H c=G 020/\CodeObj o p.2
 |.met f x=>h.get? a=G (PySem.W.methodObj 52<|.ref x)
 |.ext j=>j h/\(∃o,h.get? a=G o)/\∀O M:Heap,j O->(∀o,O.get? a=G o->M.get? a=G o)->j M
def HOk(H:Hp)(h:Heap):Prop:=∀a o,H a=G o->ObjOk P w H h a o
end
section
variable {P:ik}{w:World}{H H':Hp}{h h':Heap}{a:Ad}{o:HO}
theorem ObjOk.lt(x:ObjOk P w H h a o):a<h.objs.size:=by
 cases o with
 |lst xs=>let(_,_,_,_,e):=x;show y0g e
 |tup xs=>let(_,_,_,p):=x;show p.lt
 |dK kvs=>let(_,_,_,_,o,_,_,e,_):=x;show y0g e
 |dT kvs=>let(_,_,_,_,o,_,_,e,_):=x;show y0g e
 |set S n=>let(o,_,_,_,e,_):=x;show y0g e
 |ins C dx fs=>let(_,_,_,e,_):=x;show y0g e
 |own y=>let(_,e):=x;show y0g e
 |xd fs=>let(_,(_,_,_,e,_),_):=x;show y0g e
 |rng lo hi=>let(_,_,_,e):=x;show y0g e
 |frz ob u=>let(e,_):=x;show y0g e
 |tbl qs ps=>let(_,e,_):=x;show y0g e
 |met f y=>show y0g<|show h.get? a=G _ from x
 |ext j=>let(_,(_,e),_):=x;show y0g e
theorem Paired.mapP:∀{d:List D} {c:List p},i8 F d c->(∀a b,F a b->Gq a b)->i8 Gq d c
 |_,_,.nil,_=>.nil
 |_,_,.cons r t,f=>.cons (f _ _ r)<|Paired.mapP t f
theorem ObjOk.stay(x:ObjOk P w H h a o)(k:∀b u,(b=a\/H b=G (.own a))->h.get? b=G u->h'.get? b=G u)
  (D:∀b,H b=G (.own a)->H' b=G (.own a)) (T:∀b o u q,CodeObj o q->H b=G (.frz o u)->H' b=G (.frz o u)) (J:∀b xs,H b=G 015->H' b=G 015):ObjOk P w H' h' a o:=by
 induction o with
 |lst xs=>let(z,its,n,r,e):=x;show⟨z,its,n,r,k _ _ 028 e⟩
 |tup xs=>let(z,its,r,ob,e,c):=x;show⟨z,its,r,ob,k _ _ 028 e,c⟩
 |dK kvs=>let(z,y,vs,r,ob,l,ep,e,c):=x;show⟨z,y,vs,r,ob,l,ep,k _ _ 028 e,c⟩
 |dT kvs =>
  let(z,y,xs,r,ob,l,ep,e,c):=x;show⟨z,y,xs,Paired.mapP r λp q z=>⟨z.1,J _ _ z.2.1,z.2.2⟩,ob,l,ep,k _ _ 028 e,c⟩
 |set S n=>let(ob,l,ep,t,e,c):=x;show⟨ob,l,ep,t,k _ _ 028 e,c⟩
 |ins C dx fs =>
  let(d,z,ne,e,L,(M,l,ep,g,c),r):=x;show⟨D _ d,z,ne,k _ _ 028 e,L,⟨M,l,ep,k _ _ (.inr d) g,c⟩,r⟩
 |own y=>let(ob,e):=x;show⟨ob,k _ _ 028 e⟩
 |xd fs=>let(L,(M,l,ep,e,c),r):=x;show⟨L,⟨M,l,ep,k _ _ 028 e,c⟩,r⟩
 |rng lo hi=>let(t,u,v,e):=x;show⟨t,u,v,k _ _ 028 e⟩
 |frz ob u I=>let(e,q):=x;show⟨k _ _ 028 e,I q⟩
 |tbl qs ps=>let(i,e,t,c):=x;show⟨i,k _ _ 028 e,t,λp E v q=>let⟨s,o,r,z,co⟩:=c p E v q;⟨s,o,r,T _ _ _ _ co z,co⟩⟩
 |met f y =>
  let e:h.get? a=G (PySem.W.methodObj 52<|.ref y):=x;change h'.get? a=G (PySem.W.methodObj 52<|.ref y);show k a _ 028 e
 |ext j=>let(p,(o,e),st):=x;show⟨st _ _ p λo q=>k _ _ 028 q,⟨o,k _ _ 028 e⟩,st⟩
theorem HOk.lt(x:HOk P w H h)(e:H a=G o):a<h.objs.size:=(x a o e).lt
theorem HOk.fresh(x:HOk P w H h)(e:h.objs.size<=a):H a=B:=by
 cases q:H a with
 |none=>rfl
 |some u=>show Xa (y0q (x.lt q) e)<|y1m _
theorem HOk.kept(x:HOk P w H h)(k:∀b u,h.get? b=G u->h'.get? b=G u):HOk P w H h':=λa o e =>
 (x a o e).stay (λb u _ q=>k b u q) (λ_ q=>q) (λ_ _ _ _ _ q=>q) λ_ _ q=>q
theorem HOk.laid(x:HOk P w H h)(k:∀b u,h.get? b=G u->h'.get? b=G u)(E:h.objs.size<=a)(new:ObjOk P w (upd H a o) h' a o):HOk P w (upd H a o) h':=λb u e=>by
 let I:=x.fresh E;by_cases U:b=a
 .subst U;rw[zao]at e;cases e;show new
 .rw[zak U]at e;show(x b u e).stay (λc v _ q=>k c v q) (λc q=>by rw[zak<|zax q I];show q) (λc _ _ _ _ q=>by rw[zak<|zax q I];show q) λc xs q=>by rw[zak<|zax q I];show q
end
def Rd(H:Hp)(a:Ad)(u:HO):Prop:=H a=G u\/∃o,H a=G (.frz o u)
theorem Rd.ok(r:Rd H a u)(x:HOk P w H h):ObjOk P w H h a u:=by
 rcases r with r|⟨o,r⟩
 .exact x a u r
 .let(_,q):=x a _ r;show q
def Mut:Option HO->Prop
 |some (.lst _)=>True
 |some (.dK _)=>True
 |some (.dT _)=>True
 |some (.set _ _)=>True
 |some (.ins _ _ _)=>True
 |some (.ext _)=>True
 |_=>False
section
variable {P:ik}{w:World}{H:Hp}{h h':Heap}{x e:Ad}{o':HO}
theorem HOk.write(ok:HOk P w H h)(j:Mut<|H x)(f:e=x\/H e=G (.own x))(k:∀b u,b≠e->h.get? b=G u->h'.get? b=G u)(g:∃u,h'.get? e=G u)
  (new:ObjOk P w (upd H x o') h' x o'):HOk P w (upd H x o') h':=λb u q=>by
 let a:∀c y,H c=G (.own y)->c≠x:=λc y r z=>by subst z;rw[r]at j;show j
 let i:∀c xs,H c=G 015->c≠x:=λc xs r z=>by subst z;rw[r]at j;show j
 let l:∀c o y,H c=G (.frz o y)->c≠x:=λc o y r z=>by subst z;rw[r]at j;show j
 by_cases U:b=x
 .subst U;rw[zao]at q;cases q;show new
 .rw[zak U]at q;by_cases d:b=e
  .let p:H b=G (.own x):=by
    rcases f with z|z
    .exact Xa (d.trans z) U
    .rw[d];show z
   rw[q]at p;cases p;let(v,hv):=g;show⟨v,by rw[d];show hv⟩
  .refine(ok b u q).stay (λc v C r=>k c v ?_ r) (λc r=>by rw[zak<|a c b r];show r) (λc o y _ _ r=>by rw[zak<|l c o y r];show r) λc xs r=>by rw[zak<|i c xs r];show r
   rcases C with rfl|C
   .exact d
   .rintro rfl;rcases f with z|z
    .exact a c b C z
    .rw[C]at z;cases z;show U R
end
structure Un(fs ex:List Ad)(H H':Hp)(h h':Heap):Prop where
 keep:∀b o,h.get? b=G o->H b=B->b∉fs->b∉ex->h'.get? b=G o
 slot:∀b o,h.get? b=G o->H b=B->b∈fs->b∉ex->∃sl,h'.get? b=G {o with slots:=sl}
 free:∀b o,h.get? b=G o->H b=B->b∉ex->H' b=B
 there:∀b o,h.get? b=G o->b∉ex->∃o',h'.get? b=G o'
 tups:∀b xs,H b=G 015->H' b=G 015
 frzs:∀b o u,H b=G (.frz o u)->H' b=G (.frz o u)
 tbls:∀b qs ps,H b=G (.tbl qs ps)->H' b=G (.tbl qs ps)
section
variable {fs fs' ex ex':List Ad}{H H1 H2:Hp}{h h1 h2 h':Heap}{a x e:Ad}{o:HO}
theorem Un.any(u:Un fs ex H H1 h h1)(q:h.get? b=G ob)(n:H b=B)(J:b∉ex):∃y,h1.get? b=G {ob with slots:=y}:=by
 by_cases U:b∈fs
 .exact u.slot b ob q n U J
 .exact⟨ob.slots,u.keep b ob q n U J⟩
theorem Un.kept(k:∀b u,h.get? b=G u->h'.get? b=G u):Un fs ex H H h h' :=
 ⟨λb ob q _ _ _=>k b ob q,λb ob q _ _ _=>⟨ob.slots,k b ob q⟩,λ_ _ _ n _=>n,λb ob q _=>⟨ob,k b ob q⟩,λ_ _ q=>q,λ_ _ _ q=>q,λ_ _ _ q=>q⟩
theorem Un.refl:Un fs ex H H h h:=Un.kept λ_ _ q=>q
theorem Un.laid(k:∀b u,h.get? b=G u->h'.get? b=G u)(E:h.objs.size<=a)(I:H a=B):Un fs ex H (upd H a o) h h' where
 keep:=λb u q _ _ _=>k b u q
 slot:=λb u q _ _ _=>⟨u.slots,k b u q⟩
 free:=λb u q n _=>by rw[zak<|y0m (y0q (y0g q) E)];show n
 there:=λb u q _=>⟨u,k b u q⟩
 tups:=λb xs q=>by rw[zak<|zax q I];show q
 frzs:=λb u xs q=>by rw[zak<|zax q I];show q
 tbls:=λb qs ps q=>by rw[zak<|zax q I];show q
theorem Un.write(j:Mut<|H x)(f:e=x\/H e=G (.own x))(k:∀b u,b≠e->h.get? b=G u->h'.get? b=G u)(g:∃u,h'.get? e=G u):Un fs ex H (upd H x o) h h':=by
 let J:∀b,H b=B->b≠x:=λb n z=>by subst z;rw[n]at j;show j
 let U:∀b,H b=B->b≠e:=λb n z=>by
  subst z;rcases f with r|r
  .exact J b n r
  .rw[n]at r;cases r
 let Y:∀b u,H b=G u->¬Mut (G u)->b≠x:=λb u q nm z=>by subst z;rw[q]at j;show nm j
 apply⟨λb u q n _ _=>k b u (U b n) q,λb u q n _ _=>⟨u.slots,k b u (U b n) q⟩,λb u q n _=>by rw[zak<|J b n];show n,λb u q _=>?_,
  λb xs q=>by rw[zak<|Y b _ q λz=>z];show q,λb u xs q=>by rw[zak<|Y b _ q λz=>z];show q,λb qs ps q=>by rw[zak<|Y b _ q λz=>z];show q⟩
 by_cases d:b=e
 .subst d;show g
 .exact⟨u,k b u d q⟩
end
noncomputable def trk(h:Heap)(H:Hp):List Ad:=(List.range h.objs.size).filter λa=>(H a).isSome
def hidT(h:Heap)(H:Hp):Heap:=PySem.W.hideAll h<|trk h H
theorem zth(h:Heap)(H:Hp):(hidT h H).objs.size=h.objs.size:=PySem.W.hideAll_size _ _
theorem zw8(e:h.get? b=G o)(n:H b=B):(hidT h H).get? b=G o :=
 PySem.W.hideAll_get _ e λY=>by
  let q:(H b).isSome=N:=(y29.mp Y).2;rw[n]at q;simp at q
theorem of_hidT(e:(hidT h H).get? b=G o):h.get? b=G o/\H b=B:=by
 let l:h.get? b=G o:=PySem.W.of_hideAll (trk h H) e;apply⟨l,?_⟩;cases q:H b with
 |none=>rfl
 |some x =>
  let Y:b∈trk h H:=y29.mpr ⟨y0v.mpr<|y0g l,by simp[q]⟩;let z:(hidT h H).get? b=B:=PySem.W.hideAll_none (trk h H) Y;rw[z]at e;cases e
noncomputable def allNews(g h:Heap)(L:Ad):List (Ad×Obj):=(List.range h.objs.size).filterMap λa=>if a=L\/(g.get? a).isSome=N then B else(h.get? a).map λo=>(a,o)
def rest(g h:Heap)(L d:Ad):List (Ad×Obj):=(allNews g h L).filter λp=>decide (p.1≠d)
structure Mod(K:Frag)(mg:Y1)(base:Heap):Prop where
 kin:K.In base
 glob:base.Ns iu mg
 blt:∃mb,base.Ns jh mb/\∀x:Str,x≠"__name__"->mb x=ja x
 nolimit:base.NoLimit
structure Cx where
 prog:ik
 w:World
 K:Frag
 mg:Str->Option Va
 base:Heap
 A:io
 Nq:List Str
 s₀:ig
 H₀:Hp
 env:Env
 outer:List Env
 stack:List Env
 ex:List Ad
 fn:Str->Bool
 calm:Bool
 pn:List<|Ad×Obj
 xe:Va->ig->Prop
noncomputable def frs(l:List Env):List Ad:=l.filterMap (·.frame)
abbrev Cx.fs(X:Cx):List Ad:=frs X.outer
def Vis(a:Scope)(x:Str):Prop:=a.names.lookup x=G .local\/a.names.lookup x=G .cell\/a.names.lookup x=G .free
def Loc(a:Scope)(x:Str):Prop:=a.names.lookup x=G .local\/a.names.lookup x=G .cell
def Look(env:Env)(h:Heap)(m:Y1)(x:Str)(u:Va):Prop :=
 (env.kindOf x=G .local/\m x=G u)\/((env.kindOf x=G .cell\/env.kindOf x=G .free)/\∃c,env.cells.lookup x=G c/\h.IsCell c (G u))
structure Cx.Ok(X:Cx):Prop where
 mod:Mod X.K X.mg X.base
 kind:X.env.scope.kind=.function
 glob:X.env.globals=iu
 blt:X.env.builtins=jh
 above:X.s₀.heap.objs.size<=X.env.locals
 inj:∀x y c,X.env.cells.lookup x=G c->X.env.cells.lookup y=G c->x=y
 has:∀x,(X.env.kindOf x=G .cell\/X.env.kindOf x=G .free)->∃c,X.env.cells.lookup x=G c
 cab:∀x c,X.fn x=N->X.env.cells.lookup x=G c->X.s₀.heap.objs.size<=c
 hd:X.calm=N->X.A.handled=B
 frames:X.A.frames=G X.stack
 stk:X.stack=X.outer\/(X.stack=X.env::X.outer/\X.env.frame=G X.env.locals)
 exf:∀b∈X.ex,b≠X.env.locals/\∀x c,X.env.cells.lookup x=G c->c≠b
 bs:∀b o,X.base.get? b=G o->X.s₀.heap.get? b=G o/\X.H₀ b=B
 bsz:X.base.objs.size<=X.s₀.heap.objs.size
 noex:∀b o,X.base.get? b=G o->b∉X.ex
 exfs:∀b∈X.ex,b∉X.fs
 funs:X.s₀.heap.FunFrames X.base X.outer
 frf:∀b∈X.fs,X.H₀ b=B
structure Inv(X:Cx)(pins:Y2)(σ:List<|Option V)(H:Hp)(s:ig):Prop where
 ok:X.Ok
 os:s.os=X.s₀.os
 bare:jA s.gens
 base:Un X.fs X.ex X.H₀ H X.s₀.heap s.heap
 loc:∃m,s.heap.Ns X.env.locals m/\∀(i:Nat) (x:Str) (v:V),X.Nq[i]?=G x->σ[i]?=G (G v)->Vis X.env.scope x->∃u,RelV v u/\Look X.env s.heap m x u
 cell:∀x c,X.env.cells.lookup x=G c->∃v,s.heap.IsCell c v
 free:H X.env.locals=B
 freeC:∀x c,X.env.cells.lookup x=G c->H c=B
 pin:∀p∈X.pn++pins,s.heap.get? p.1=G p.2/\H p.1=B/\p.1≠X.env.locals/\p.1∉X.fs/\∀v,p.2.data ≠ .cell v
 hok:HOk X.prog X.w H s.heap
 len:σ.length=X.Nq.length
section
variable {X:Cx}{pins:Y2}{σ:List (Option V)}{H H':Hp}{s:ig}{h':Heap}
theorem Cx.Ok.nofr(ok:X.Ok)(e:X.base.get? b=G o):b∉X.fs:=λU=>by
 let:=(ok.funs.mem U).1;rw[e]at this;cases this
theorem Inv.bs(I:02 H s):∀b o,X.base.get? b=G o->s.heap.get? b=G o/\H b=B:=λb o e =>
 ⟨I.base.keep b o (I.ok.bs b o e).1 (I.ok.bs b o e).2 (I.ok.nofr e)<|I.ok.noex b o e,I.base.free b o (I.ok.bs b o e).1 (I.ok.bs b o e).2<|I.ok.noex b o e⟩
theorem Inv.bk(I:02 H s):∀b o,X.base.get? b=G o->s.heap.get? b=G o:=λb o e=>(I.bs b o e).1
theorem Inv.mod(I:02 H s):Mod X.K X.mg X.base:=I.ok.mod
theorem Inv.kIn(I:02 H s):X.K.In s.heap:=I.ok.mod.kin.keeps I.bk
theorem Inv.lt(I:02 H s):X.env.locals<s.heap.objs.size:=let⟨_,U,_⟩:=I.loc;U.lt
theorem Inv.sz(I:02 H s):X.s₀.heap.objs.size<=s.heap.objs.size:=y1a I.ok.above<|y1o I.lt
theorem Inv.nofs(I:02 H s){a:Ad}(h:s.heap.objs.size<=a):a∉X.fs:=λU=>by
 let(_,o,D,_):=I.ok.funs.mem U;show Xa (y0q (y0g D)<|y1a I.sz h)<|y1m _
theorem Inv.cne(I:02 H s):∀x c,X.env.cells.lookup x=G c->c≠X.env.locals:=λx c e z=>by
 let(v,o,D,hd):=I.cell x c e;let(m,(f,l,ep,d,j,_),_):=I.loc;rw[z,d]at D;cases D;rw[j]at hd;cases hd
theorem Inv.funs(I:02 H s):s.heap.FunFrames X.base X.outer:=by
 let all:∀(l:List Env),(∀b∈frs l,b∈X.fs)->X.s₀.heap.FunFrames X.base l->s.heap.FunFrames X.base l:=by
  intro l
  induction l with
  |nil=>intro _ _;trivial
  |cons env r f =>
   intro hs Y;let(j,(L,o,T,d,q,hd),D):=Y;let i:L∈X.fs:=hs L (by unfold frs;rw[y22,T];show y0a);let(y,e):=I.base.slot L o q (I.ok.frf L i) i λz=>I.ok.exfs L z i;show⟨j,⟨L,_,T,d,e,hd⟩,f (λb U=>hs b<|by unfold frs;rw[y22,T];show y06 _ U) D⟩
 show all X.outer (λ_ U=>U) I.ok.funs
theorem Inv.stack(I:02 H s):s.heap.FunFrames X.base X.stack:=by
 rcases I.ok.stk with e|⟨e,T⟩
 .rw[e];show I.funs
 .rw[e];let(m,U,_):=I.loc;apply .cons (by rw[I.ok.kind];decide) T U ?_ I.funs;show Heap.get?_none_of_le<|y1a I.ok.bsz I.ok.above
theorem Inv.stkSub(I:02 H s):∀b∈frs X.stack,b∈X.env.locals::X.fs:=λb U=>by
 rcases I.ok.stk with e|⟨e,T⟩
 .rw[e]at U;show y06 _ U
 .rw[e]at U;unfold frs at U;rw[y22,T]at U;show U
theorem Inv.stkFree(I:02 H s):∀b∈frs X.stack,H b=B:=λb U=>by
 rcases y08.mp (I.stkSub b U)with e|U
 .rw[e];show I.free
 .let(_,o,D,_):=I.ok.funs.mem U;show I.base.free b o D (I.ok.frf b U) λz=>I.ok.exfs b z U
theorem Inv.step{g':Array ju}{t':Nat}{d':Drawn}{ch:List Ad}(I:02 H s)
  (a:∀b∈ch,(b∈X.ex\/X.s₀.heap.objs.size<=b)/\b≠X.env.locals/\(∀x c,X.env.cells.lookup x=G c->c≠b)/\∀p∈X.pn++pins,p.1≠b)
  (keep:∀b o,b≠X.env.locals->b∉X.fs->b∉ch->s.heap.get? b=G o->H b=B->h'.get? b=G o)
  (slot:∀b o,b≠X.env.locals->b∈X.fs->b∉ch->s.heap.get? b=G o->H b=B->∃y,h'.get? b=G {o with slots:=y}) (free:∀b o,b∉ch->s.heap.get? b=G o->H b=B->H' b=B)
  (there:∀b o,b∉ch->s.heap.get? b=G o->∃f,h'.get? b=G f)
  (tups:∀b xs,H b=G 015->H' b=G 015) (frzs:∀b o u,H b=G (.frz o u)->H' b=G (.frz o u)) (tbls:∀b qs ps,H b=G (.tbl qs ps)->H' b=G (.tbl qs ps))
  (ns:∀m,s.heap.Ns X.env.locals m->h'.Ns X.env.locals m) (hok:HOk X.prog X.w H' h') (j:jA g') :
  02 H' {s with heap:=h',gens:=g',drawn:=d',toks:=t'}:=by
 let T:∀b o,X.s₀.heap.get? b=G o->b≠X.env.locals:=λb o e=>y0m<|y0q (y0g e) I.ok.above;let A:∀b o,X.s₀.heap.get? b=G o->b∉X.ex->b∉ch:=λb o e J U=>by
  rcases(a b U).1 with z|z
  .exact J z
  .exact Xa (y0q (y0g e) z)<|y1m _
 let O:∀x c,X.env.cells.lookup x=G c->∀v,s.heap.IsCell c v->h'.IsCell c v:=λx c e v ⟨o,D,hd⟩=>by
  let w:c∉ch:=λz=>(a c z).2.2.1 x c e rfl;by_cases C:c∈X.fs
  .let(y,q):=slot c o (I.cne x c e) C w D<|I.freeC x c e;show⟨_,q,hd⟩
  .exact⟨o,keep c o (I.cne x c e) C w D<|I.freeC x c e,hd⟩
 apply⟨I.ok,I.os,j,⟨λb o e n U J=>?_,λb o e n U J=>?_,λb o e n J=>?_,λb o e J=>?_,λb xs e=>tups b xs<|I.base.tups b xs e,λb o xs e=>frzs b o xs<|I.base.frzs b o xs e,λb qs ps e=>tbls b qs ps<|I.base.tbls b qs ps e⟩,?_,λx c e=>?_,?_,λx c e=>?_,λp E=>?_,hok,I.len⟩
 .exact keep b o (T b o e) U (A b o e J) (I.base.keep b o e n U J)<|I.base.free b o e n J
 .let(y,L):=I.base.slot b o e n U J;let(Q,g):=slot b _ (T b o e) U (A b o e J) L<|I.base.free b o e n J;show⟨Q,g⟩
 .let(f,L):=I.base.there b o e J;show free b f (A b o e J) L<|I.base.free b o e n J
 .let(f,L):=I.base.there b o e J;show there b f (A b o e J) L
 .let(m,hn,Y):=I.loc;apply⟨m,ns m hn,λi x v L g M=>?_⟩;let(u,r,l):=Y i x v L g M;apply⟨u,r,?_⟩;rcases l with l|⟨k,c,e,z⟩
  .exact .inl l
  .exact .inr ⟨k,c,e,O x c e _ z⟩
 .let(v,z):=I.cell x c e;show⟨v,O x c e v z⟩
 .let(m,(o,_,_,D,_),_):=I.loc;show free _ o (λz=>(a _ z).2.1 R) D I.free
 .let(v,o,D,hd):=I.cell x c e;show free c o (λz=>(a c z).2.2.1 x c e R) D<|I.freeC x c e
 .let(e,n,ne,nf,d):=I.pin p E;let w:p.1∉ch:=λz=>(a p.1 z).2.2.2 p E rfl;show⟨keep p.1 p.2 ne nf w e n,free p.1 p.2 w e n,ne,nf,d⟩
theorem Inv.un{t':Nat}(I:02 H s)(u:Un X.fs [] H H' s.heap h')(hok:HOk X.prog X.w H' h'):02 H' {s with heap:=h',toks:=t'}:=by
 let(m,(o,l,ep,D,r),_):=id I.loc;let(y,i):=u.any D I.free 05;show I.step (g':=s.gens) (d':=s.drawn) (ch:=[]) (λ_ z=>nomatch z) (λb o _ U _ e n=>u.keep b o e n U 05) (λb o _ U _ e n=>u.slot b o e n U 05) (λb o _ e n=>u.free b o e n 05) (λb o _ e=>u.there b o e 05) u.tups u.frzs u.tbls (λO Y=>by
  let(f,q,g,d,r'):=Y;rw[D]at d;cases d;show⟨_,q,g,i,r'⟩) hok I.bare
theorem Inv.call{g':Array ju}{t':Nat}{d':Drawn}{ch:List Ad}(I:02 H s)(u:Un (frs X.stack) ch H H' s.heap h')(hok:HOk X.prog X.w H' h')(j:jA g')
  (a:∀b∈ch,(b∈X.ex\/X.s₀.heap.objs.size<=b)/\b≠X.env.locals/\(∀x c,X.env.cells.lookup x=G c->c≠b)/\∀p∈X.pn++pins,p.1≠b) :
  02 H' {s with heap:=h',gens:=g',drawn:=d',toks:=t'}:=by
 let(m,(o,l,ep,D,r),_):=id I.loc;let(y,i):=u.any D I.free λz=>(a _ z).2.1 rfl;show I.step (ch:=ch) a (λb o i U C e n=>u.keep b o e n (λz=>(y08.mp<|I.stkSub b z).elim i U) C) (λb o _ _ C e n=>u.any e n C) (λb o C e n=>u.free b o e n C) (λb o C e=>u.there b o e C) u.tups u.frzs u.tbls (λO Y=>by
  let(f,q,g,d,r'):=Y;rw[D]at d;cases d;show⟨_,q,g,i,r'⟩) hok j
theorem Inv.turned{t':Nat}{it:Ad}(I:02 H s)(k:∀b o,b≠it->s.heap.get? b=G o->h'.get? b=G o)(d:H it=B)(i:it≠X.env.locals)
  (O:it∈X.ex\/X.s₀.heap.objs.size<=it) (M:∀x c,X.env.cells.lookup x=G c->c≠it) (A:∀p∈X.pn++pins,p.1≠it):02 H {s with heap:=h',toks:=t'}:=by
 let a:∀b u,H b=G u->b≠it:=λb u e z=>by rw[z,d]at e;cases e
 apply I.step (g':=s.gens) (d':=s.drawn) (ch:=[it]) (λb U=>?_) (λb o _ _ C e _=>k b o (λz=>C<|by simp[z]) e) (λb o _ _ C e _=>⟨o.slots,k b o (λz=>C<|by simp[z]) e⟩) (λ_ _ _ _ n=>n)
  (λb o C e=>⟨o,k b o (λz=>C<|by simp[z]) e⟩) (λ_ _ e=>e) (λ_ _ _ e=>e) (λ_ _ _ e=>e) (λm Y=>?_) (λb u e=>?_) I.bare
 .let e:b=it:=by simpa using U
  subst e;show⟨O,i,M,A⟩
 .let(o,l,ep,D,r):=Y;show⟨o,l,ep,k _ o (Ne.symm i) D,r⟩
 .refine(I.hok b u e).stay (λc v C q=>k c v ?_ q) (λ_ q=>q) (λ_ _ _ _ _ q=>q) λ_ _ q=>q;rcases C with z|z
  .rw[z];show a b u e
  .exact a c _ z
theorem Inv.tok(I:02 H s)(t:Nat):02 H {s with toks:=t}:=I.un (h':=s.heap) (t':=t) Un.refl I.hok
theorem Inv.kept(I:02 H s)(k:∀b u,s.heap.get? b=G u->h'.get? b=G u):02 H {s with heap:=h',toks:=t'}:=I.un (Un.kept k)<|I.hok.kept k
theorem Inv.laid{a:Ad}{o:HO}{t':Nat}(I:02 H s)(k:∀b u,s.heap.get? b=G u->h'.get? b=G u)(E:s.heap.objs.size<=a)(new:ObjOk X.prog X.w (upd H a o) h' a o):
  02 (upd H a o) {s with heap:=h',toks:=t'}:=I.un (Un.laid k E<|I.hok.fresh E)<|I.hok.laid k E new
theorem Inv.write(I:02 H s)(j:Mut<|H x)(f:e=x\/H e=G (.own x))(k:∀b u,b≠e->s.heap.get? b=G u->h'.get? b=G u)(g:∃u,h'.get? e=G u)
  (new:ObjOk X.prog X.w (upd H x o) h' x o):02 (upd H x o) {s with heap:=h',toks:=t'}:=I.un (Un.write j f k g)<|I.hok.write j f k g new
theorem Inv.pins_of(I:02 H s)(h:∀p∈a,s.heap.get? p.1=G p.2/\H p.1=B/\p.1≠X.env.locals/\p.1∉X.fs/\∀v,p.2.data ≠ .cell v):Inv X a σ H s :=
 ⟨I.ok,I.os,I.bare,I.base,I.loc,I.cell,I.free,I.freeC,λp E=>(y0x.mp E).elim (λz=>I.pin p<|y2g _ z)<|h p,I.hok,I.len⟩
theorem zod{Nq:List Str}(hN:Nq.Nodup){i j:Nat}{x:Str}(a:Nq[i]?=G x)(b:Nq[j]?=G x):i=j:=by
 let(O,L):=y0f.mp a;let(M,g):=y0f.mp b;show(List.getElem_inj hN).mp<|L.trans g.symm
theorem zjt(I:02 H s)(hN:X.Nq.Nodup)(hi:X.Nq[i]?=G x)(J:Loc X.env.scope x)(r:RelV v u)
  (h:∀s',Inv X pins (σ.set i<|G v) H s'->(∃a,Heap.SameBut a s.heap s'.heap/\(a=X.env.locals\/X.env.cells.lookup x=G a))->Q () s') (T:X.fn x=N\/X.env.scope.names.lookup x=G .local:=by first|show .inl rfl|show .inr rfl|assumption):wpAny M A (jS X.env x u) Q E s:=by
 let(m,hn,Y):=id I.loc;let hcls:(X.env.scope.kind ==.class||(X.env.scope.kind ==.module&&X.env.locals !=X.env.globals))=Fa:=by rw[I.ok.kind];rfl
 let qt:i<σ.length:=by rw[I.len];show(y0f.mp hi).1
 let cne:=I.cne;let fk:∀{a:Ad} {h':Heap},(∃o,s.heap.get? a=G o/\H a=B)->Heap.SameBut a s.heap h'->HOk X.prog X.w H h':=λ{a h'} ha hs b ob e=>by
  let(_,_,mt):=ha;apply(I.hok b ob e).stay (λc w' C q=>(hs.2 c ?_).trans q) (λ_ q=>q) (λ_ _ _ _ _ q=>q) λ_ _ q=>q;rintro rfl;rcases C with rfl|C
  .rw[mt]at e;cases e
  .rw[mt]at C;cases C
 rcases J with hk|hk
 .refine wpAny_storeName_local hk hn (λh' hn' hs=>?_) hcls;let(oL,_,_,hoL,_):=id hn;apply h _ ⟨I.ok,I.os,I.bare,⟨λb o e n U J=>?_,λb o e n U J=>?_,I.base.free,λb o e J=>?_,I.base.tups,I.base.frzs,I.base.tbls⟩,⟨_,hn',λj y O L g e3=>?_⟩,λy c e=>?_,I.free,I.freeC,λp hp=>?_,fk ⟨oL,hoL,I.free⟩ hs,by simpa using I.len⟩ ⟨_,hs,.inl R⟩
  .exact(hs.2 b<|y0m (y0q (y0g e) I.ok.above)).trans<|I.base.keep b o e n U J
  .let(sl,L):=I.base.slot b o e n U J;show⟨sl,(hs.2 b<|y0m (y0q (y0g e) I.ok.above)).trans L⟩
  .let(f,L):=I.base.there b o e J;show⟨f,(hs.2 b<|y0m (y0q (y0g e) I.ok.above)).trans L⟩
  .by_cases hj:j=i
   .subst hj;rw[hi]at L;cases L;rw[y48 qt]at g;cases g;show⟨u,r,.inl ⟨hk,by simp⟩⟩
   .rw[List.getElem?_set_ne (Ne.symm hj)]at g;let(u',r',q):=Y j y O L g e3;apply⟨u',r',?_⟩;rcases q with⟨k,e⟩|⟨k,c,e,z⟩
    .refine .inl ⟨k,?_⟩;let:y≠x:=λe=>hj<|zod hN L (e▸hi);simp[this,e]
    .exact .inr ⟨k,c,e,z.sameBut hs<|cne y c e⟩
  .let(w',z):=I.cell y c e;show⟨w',z.sameBut hs<|cne y c e⟩
  .let(e,n,ne,D,d):=I.pin p hp;show⟨(hs.2 p.1 ne).trans e,n,ne,D,d⟩
 .let w:X.fn x=N:=by
   rcases T with z|z
   .exact z
   .rw[z]at hk;cases hk
  let(c,C):=I.ok.has x<|.inl hk;let(w',z):=I.cell x c C;apply wpAny_storeName_cell I.ok.kind hk C z λh' av hs=>?_;let(oc,l,hocd):=id z;apply h {s with heap:=h'} ⟨I.ok,I.os,I.bare,⟨λb o e n U J=>?_,λb o e n U J=>?_,I.base.free,λb o e J=>?_,I.base.tups,I.base.frzs,I.base.tbls⟩,⟨m,hn.sameBut hs<|Ne.symm (cne x c C),λj y O L g e3=>?_⟩,λy c' e=>?_,I.free,I.freeC,λp hp=>?_,fk ⟨oc,l,I.freeC x c C⟩ hs,by simpa using I.len⟩ ⟨c,hs,.inr C⟩
  .exact(hs.2 b<|y0m (y0q (y0g e)<|I.ok.cab x c w C)).trans<|I.base.keep b o e n U J
  .let(sl,L):=I.base.slot b o e n U J;show⟨sl,(hs.2 b<|y0m (y0q (y0g e)<|I.ok.cab x c w C)).trans L⟩
  .let(f,L):=I.base.there b o e J;show⟨f,(hs.2 b<|y0m (y0q (y0g e)<|I.ok.cab x c w C)).trans L⟩
  .by_cases hj:j=i
   .subst hj;rw[hi]at L;cases L;rw[y48 qt]at g;cases g;show⟨u,r,.inr ⟨.inl hk,c,C,av⟩⟩
   .rw[List.getElem?_set_ne (Ne.symm hj)]at g;let(u',r',q):=Y j y O L g e3;apply⟨u',r',?_⟩;rcases q with q|⟨k,c',e,z'⟩
    .exact .inl q
    .refine .inr ⟨k,c',e,z'.sameBut hs ?_⟩;rintro rfl;show hj<|zod hN L (I.ok.inj _ _ _ e C▸hi)
  .by_cases hcc:c'=c
   .subst hcc;show⟨_,av⟩
   .let(w2,z2):=I.cell y c' e;show⟨w2,z2.sameBut hs hcc⟩
  .let(e,n,ne,D,d):=I.pin p hp;apply⟨(hs.2 p.1 ?_).trans e,n,ne,D,d⟩;intro q;rw[q,l]at e;let q':oc=p.2:=Option.some.inj e;show d w' (by rw[←q'];show hocd)
theorem zcn(I:02 H s)(hN:X.Nq.Nodup)(hi:X.Nq[i]?=G x)(J:Loc X.env.scope x)(r:RelV v u)
  (h:∀s',Inv X pins (σ.set i<|G v) H s'->Q () s') (T:X.fn x=N\/X.env.scope.names.lookup x=G .local:=by first|show .inl rfl|show .inr rfl|assumption):wpAny M A (jS X.env x u) Q E s :=
 zjt I hN hi J r (λs' y _=>h s' y) T
theorem Inv.call'{ch:List Ad}(I:02 H s)(D:s'.os=s.os)(u:Un (frs X.stack) ch H H' s.heap s'.heap)(hok:HOk X.prog X.w H' s'.heap)(j:jA s'.gens)
  (a:∀b∈ch,(b∈X.ex\/X.s₀.heap.objs.size<=b)/\b≠X.env.locals/\(∀x c,X.env.cells.lookup x=G c->c≠b)/\∀p∈X.pn++pins,p.1≠b):02 H' s':=by
 let(h',g',d',t',f):=s';let e:f=s.os:=D;subst e;show I.call (g':=g') (t':=t') (d':=d') u hok j a
end
abbrev XK:=Va->Option Ad->Hp->Prop
abbrev St:=List<|Option V
abbrev VK:=V->Hp->Prop
abbrev TE:=St->Hp->VK->Prop
abbrev TT:=St->Hp->(Bool->Hp->Prop)->Prop
abbrev TA:=St->Hp->(List V->Hp->Prop)->Prop
structure Ends where
 nx:St->Hp->Prop
 rt:VK
 bk:St->Hp->Prop:=λ_ _=>False
 ct:St->Hp->Prop:=λ_ _=>False
abbrev TS:=Ends->St->Hp->Prop
def EP(X:Cx)(pins:Y2)(σ:St)(Q:VK)(u:Va)(s':ig):Prop:=∃v H',02 H' s'/\RelV v u/\Q v H'
def TP(X:Cx)(pins:Y2)(σ:St)(Q:Bool->Hp->Prop)(b:Bool)(s':ig):Prop:=∃H',02 H' s'/\Q b H'
def AP(X:Cx)(pins:Y2)(σ:St)(Q:List V->Hp->Prop)(us:List Va)(s':ig):Prop:=∃vs H',02 H' s'/\Vals vs us/\Q vs H'
def SP(X:Cx)(pins:Y2)(D:Ends)(f:Flow)(s':ig):Prop :=
 match f with
 |.next=>∃l H',Inv X pins l H' s'/\D.nx l H'
 |.brk=>∃l H',Inv X pins l H' s'/\D.bk l H'
 |.cont=>∃l H',Inv X pins l H' s'/\D.ct l H'
 |.ret u=>∃v l H',Inv X pins l H' s'/\RelV v u/\D.rt v H'
def PE(X:Cx)(e:Expr)(t:TE):Prop :=
 ∀(pins:Y2) (s:ig) (σ:St) (H:Hp) (Q:VK),02 H s->t σ H Q->wpAny 36 X.A (eval e X.env) 037 X.xe s
def PT(X:Cx)(e:Expr)(t:TT):Prop :=
 ∀(pins:Y2) (s:ig) (σ:St) (H:Hp) (Q:Bool->Hp->Prop),02 H s->t σ H Q->wpAny 36 X.A (isTrue e X.env<|eval e X.env) (TP X pins σ Q) X.xe s
def PW(X:Cx)(e:Expr)(t:TT):Prop :=
 ∀(g:Sem Va) (pins:Y2) (s:ig) (σ:St) (H:Hp) (Q:Bool->Hp->Prop),02 H s->t σ H Q->wpAny 36 X.A (isTrue e X.env g) (TP X pins σ Q) X.xe s
theorem PW.pt(h:PW X e t):PT X e t:=h _
def PA(X:Cx)(es:List Expr)(t:TA):Prop :=
 ∀(pos:Pos) (pins:Y2) (s:ig) (σ:St) (H:Hp) (Q:List V->Hp->Prop),02 H s->t σ H Q->wpAny 36 X.A (spliced 052) (AP X pins σ Q) X.xe s
def PS(X:Cx)(st:Stmt)(t:TS):Prop :=
 ∀(pins:Y2) (s:ig) (σ:St) (H:Hp) (D:Ends),02 H s->t D σ H->wpAny 36 X.A (exec st X.env) (SP X pins D) X.xe s
def PSs(X:Cx)(st:List Stmt)(t:TS):Prop :=
 ∀(pins:Y2) (s:ig) (σ:St) (H:Hp) (D:Ends),02 H s->t D σ H->wpAny 36 X.A (execs st X.env) (SP X pins D) X.xe s
theorem thn{D:Type}{t:Sem D}{Q d:D->ig->Prop}{M:Model}{A:io}{E:Y0}{s:ig}(h:wpAny M A t Q E s)(g:∀a s,Q a s->d a s):wpAny M A t d E s:=iq h g λ_ _ x=>x
section
variable {X:Cx}
def tVar(i:Nat):TE:=λσ H Q=>match σ[i]? with
 |some (G v)=>Q v H
 |_=>False
theorem zyt(h:tVar i σ H Q):∃v,σ[i]?=G (G v)/\Q v H:=by
 unfold tVar at h;split at h
 .rename_i e;show⟨_,e,h⟩
 .exact h.elim
theorem zfz(e:σ[i]?=G (G v))(h:Q v H):tVar i σ H Q:=by
 unfold tVar;rw[e];show h
def tC(v:V):TE:=λ_ H Q=>Q v H
theorem zhs{i:Nat}{x:Str}{pos:Pos}(hN:X.Nq[i]?=G x)(hv:Vis X.env.scope x)(hd:012=Fa:=by decide)(hcd:056=Fa:=by decide):PE X (.Name x pos) (tVar i):=by
 intro pins s σ H Q I h;let(v,e,h):=zyt h;let(m,U,Y):=I.loc;let(u,r,l):=Y i x v hN e hv;let fin:EP X pins σ Q u s:=⟨v,H,I,r,h⟩;rcases l with⟨j,M⟩|⟨j,c,C,a⟩
 .exact wpAny_Name (wpAny_loadName_local I.ok.kind j U M fin) hd
 .rcases j with j|j
  .exact wpAny_Name (wpAny_loadName_cell I.ok.kind j C a fin) hd
  .exact wpAny_Name (wpAny_loadName_free I.ok.kind j C a fin hcd) hd
theorem zad:PE X (.Constant (.int i) j pos) (tC<|.int i):=λ_ _ _ H _ I h=>wpAny_Constant_int ⟨.int i,H,I.tok _,⟨_,R⟩,h⟩
theorem zch:PE X (.Constant (.bool b) j pos) (tC<|.bl b):=λ_ _ _ H _ I h=>Constant_bool ⟨.bl b,H,I,R,h⟩
theorem zaz:PE X (.Constant (.str x) j pos) (tC<|.str x):=λ_ _ _ H _ I h=>Calls.Constant_str ⟨.str x,H,I.tok _,⟨_,R⟩,h⟩
def Gl(X:Cx)(x:Str):Prop:=X.env.kindOf x=G .globalImplicit
theorem zcv{E:Y0}{pins:Y2}{s:ig}{σ:St}{H:Hp}{x:Str}{u:Va}{pos:Pos}{Q:Y0}(I:02 H s)(j:Gl X x)(Y:X.mg x=G u)(h:Q u s)
  (hd:012=Fa:=by decide):wpAny 36 X.A (eval (.Name x pos) X.env) Q E s :=
 Calls.Name_function_global I.ok.kind j (Calls.loadGlobal_global (by rw[I.ok.glob];show I.mod.glob.keeps I.bk) Y h) hd
theorem zdw{E:Y0}{pins:Y2}{s:ig}{σ:St}{H:Hp}{x:Str}{u:Va}{pos:Pos}{Q:Y0}(I:02 H s)(j:Gl X x)(Y:X.mg x=B)(hv:ja x=G u)(h:Q u s)
  (U:x≠"__name__":=by decide) (hd:012=Fa:=by decide):wpAny 36 X.A (eval (.Name x pos) X.env) Q E s:=by
 let(mb,O,M):=I.mod.blt;show Calls.Name_function_global I.ok.kind j (Calls.loadGlobal_builtin (by rw[I.ok.glob];show I.mod.glob.keeps I.bk) Y (by rw[I.ok.blt];show O.keeps I.bk) ((M x U).trans hv) h) hd
theorem zr1(j:Gl X x)(Y:X.mg x=G u)(r:RelV v u)(hd:012=Fa:=by decide):PE X (.Name x pos) (tC v) :=
 λ_ _ _ H _ I h=>zcv I j Y ⟨v,H,I,r,h⟩ hd
theorem zbl{x:Str}{v:V}{u:Va}{pos:Pos}(j:Gl X x)(Y:X.mg x=B)(hv:ja x=G u)(r:RelV v u)(U:x≠"__name__":=by decide)(hd:012=Fa:=by decide):PE X (.Name x pos) (tC v) :=
 λ_ _ _ H _ I h=>zdw I j Y hv ⟨v,H,I,r,h⟩ U hd
variable {a b:Expr}{ta tb:TE}{pos:Pos}
def asI(x:V)(k:Int->Prop):Prop:=match x with
 |.int i=>k i
 |_=>False
theorem zdx(h:asI x k):∃i,x=.int i/\k i:=by
 cases x<;>first|show⟨_,R,h⟩|show False.elim h
theorem asI_l:asI (.int i) k=k i:=rfl
def asR(x:V)(k:Ad->Prop):Prop:=match x with
 |.ref i=>k i
 |_=>False
theorem zc0(h:asR x k):∃i,x=.ref i/\k i:=by
 cases x<;>first|show⟨_,R,h⟩|show False.elim h
theorem asR_l:asR (.ref i) k=k i:=rfl
def asS(x:V)(k:Str->Prop):Prop:=match x with
 |.str i=>k i
 |_=>False
theorem asS_ex(h:asS x k):∃i,x=.str i/\k i:=by
 cases x<;>first|show⟨_,R,h⟩|show False.elim h
theorem asS_l:asS (.str i) k=k i:=rfl
def asB(x:V)(k:Bool->Prop):Prop:=match x with
 |.bl i=>k i
 |_=>False
theorem zlm(h:asB x k):∃i,x=.bl i/\k i:=by
 cases x<;>first|show⟨_,R,h⟩|show False.elim h
theorem asB_l:asB (.bl i) k=k i:=rfl
def tB(t:TE):TT:=λσ H Q=>t σ H λx H1=>asB x λc=>Q c H1
theorem zbe(h:PE X e t)(f:∀g,isTrue e X.env g=(do let v ←g;standAt e.pos;holding [v] (truthy v)):=by intro _;rfl):PT X e (tB t):=by
 intro pins s σ H Q I L;apply isTrue_plain (thn (h pins s σ H _ I L) λv s1 zz=>ex5 zz λx H1 I1 r1 A=>?_)<|f _;let(d,rfl,q):=zlm A;cases r1;show iC ⟨H1,I1,q⟩
variable {tA tB':TT}{rest:List Expr}
def tAnd(t u:TT):TT:=λσ H Q=>t σ H λc H1=>if c=N then u σ H1 Q else Q Fa H1
def tOr(t u:TT):TT:=λσ H Q=>t σ H λc H1=>if c=N then Q N H1 else u σ H1 Q
def tNot(t:TT):TT:=λσ H Q=>t σ H λc H1=>Q (!c) H1
theorem zdv(d:PT X a tA):PW X (.BoolOp .Or [a] pos) tA:=by
 intro f pins s σ H Q I h;apply isTrue_or<|thn (d pins s σ H Q I h) λc s1 e=>?_;cases c with
 |false=>show isTrue_or_nil e
 |true=>show e
theorem zez(ha:PT X a tA)(U:PW X (.BoolOp .Or (b::rest) pos) tB'):PW X (.BoolOp .Or (a::b::rest) pos) (tOr tA tB'):=by
 intro f pins s σ H Q I h;apply isTrue_or<|thn 048 λc s1 ⟨H1,I1,A⟩=>?_;cases c with
 |true=>show⟨H1,I1,A⟩
 |false=>show U f pins s1 σ H1 Q I1 A
theorem zbj(d:PT X a tA):PT X (.UnaryOp .Not a pos) (tNot tA):=by
 intro pins s σ H Q I h;show isTrue_not<|d pins s σ H (λc H1=>Q (!c) H1) I h
def tAndV(ta tb:TE):TE:=λσ H Q=>ta σ H λx H1=>∃c,x=.bl c/\if c=N then tb σ H1 Q else Q (.bl Fa) H1
def tOrV(ta tb:TE):TE:=λσ H Q=>ta σ H λx H1=>∃c,x=.bl c/\if c=N then Q (.bl N) H1 else tb σ H1 Q
def tNotV(ta:TE):TE:=λσ H Q=>ta σ H λx H1=>∃c,x=.bl c/\Q (.bl<|!c) H1
theorem zcy(h:PE X a t):PE X (.BoolOp o [a] pos) t:=λpins s σ H Q I L=>BoolOp_one<|h pins s σ H Q I L
theorem zci(ha:PE X a ta)(U:PE X (.BoolOp .And (b::rest) pos) tb):PE X (.BoolOp .And (a::b::rest) pos) (tAndV ta tb):=by
 intro pins s σ H Q I h;apply BoolOp_and<|thn 048 λv s1 zz=>ex5 zz λx H1 I1 r1 A=>?_;let(c,rfl,A):=A;cases r1;apply iC ?_;cases c with
 |true=>show U pins s1 σ H1 Q I1 A
 |false=>show⟨.bl Fa,H1,I1,R,A⟩
theorem pe_or(ha:PE X a ta)(U:PE X (.BoolOp .Or (b::rest) pos) tb):PE X (.BoolOp .Or (a::b::rest) pos) (tOrV ta tb):=by
 intro pins s σ H Q I h;apply BoolOp_or<|thn 048 λv s1 zz=>ex5 zz λx H1 I1 r1 A=>?_;let(c,rfl,A):=A;cases r1;apply iC ?_;cases c with
 |false=>show U pins s1 σ H1 Q I1 A
 |true=>show⟨.bl N,H1,I1,R,A⟩
theorem zn6(ha:PE X a ta):PE X (.UnaryOp .Not a pos) (tNotV ta):=by
 intro pins s σ H Q I h;apply UnaryOp_<|thn 048 λv s1 zz=>ex5 zz λx H1 I1 r1 A=>?_;let(c,rfl,A):=A;cases r1;show not_of<|iC ⟨.bl<|!c,H1,I1,R,A⟩
def tIf(t:TT)(ta tb:TE):TE:=λσ H Q=>t σ H λc H1=>if c=N then ta σ H1 Q else tb σ H1 Q
theorem zv3(C:PT X c tA)(q:PE X a ta)(U:PE X b tb):PE X (.IfExp c a b pos) (tIf tA ta tb):=by
 intro pins s σ H Q I h;apply wpAny_IfExp<|thn (C pins s σ H _ I h) λd s1 ⟨H1,I1,A⟩=>?_;cases d with
 |true=>show q pins s1 σ H1 Q I1 A
 |false=>show U pins s1 σ H1 Q I1 A
end
def SqL(K:Frag)(H:Hp)(a:Ad)(xs:List V):Prop :=
 Rd H a 016\/
  ∃(o:Obj) (its:Array Va) (n:Nat),K.lookup a=G o/\o.cls=.type "list"/\o.dict=B/\o.data=.seq its n/\its.size<=ii/\Vals xs its.toList
def SqT(K:Frag)(H:Hp)(a:Ad)(xs:List V):Prop :=
 Rd H a 015\/
  ∃(o:Obj) (its:Array Va) (n:Nat),K.lookup a=G o/\o.cls=.type "tuple"/\o.data=.seq its n/\its.size<=ii/\Vals xs its.toList
noncomputable def absV:Va->Option V
 |.none=>G .non
 |.bool b=>G<|.bl b
 |.int i _=>G<|.int i
 |.str x _=>G<|.str x
 |.bytes b _=>G<|.byt b
 |.float b _=>G<|.flt b
 |.ref a=>G 04
 |.type n=>G<|.ty n
 |_=>B
theorem RelV.abs(r:RelV x u):absV u=G x:=by
 cases x with
 |non=>cases r;rfl
 |bl _=>cases r;rfl
 |int _=>let(t,rfl):=r;rfl
 |str _=>let(t,rfl):=r;rfl
 |byt _=>let(t,rfl):=r;rfl
 |flt _=>let(t,rfl):=r;rfl
 |ref _=>cases r;rfl
 |ty _=>cases r;rfl
theorem RelV.inj(r:RelV x u)(q:RelV y u):x=y:=Option.some.inj<|r.abs.symm.trans q.abs
theorem Vals.inj:∀{xs ys:List V} {us:List Va},Vals xs us->Vals ys us->xs=ys
 |_,_,_,.nil,.nil=>rfl
 |_,_,_,.cons r t,.cons r' t'=>by rw[r.inj r',Vals.inj t t']
section
variable {X:Cx}{pins:Y2}{σ:St}{H:Hp}{s:ig}{a:Ad}{xs ys:List V}
theorem SqL.of{K:Frag}(h:H a=G 016):SqL K H a xs:=.inl<|.inl h
theorem SqT.of{K:Frag}(h:H a=G 015):SqT K H a xs:=.inl<|.inl h
theorem Inv.list(I:02 H s)(h:SqL X.K H a xs):∃its:List Va,Vals xs its/\PlainL s.heap a its.toArray/\xs.length<=ii:=by
 rcases h with h|⟨o,its,n,j,C,hd,hs,hz,r⟩
 .let(z,its,n,r,e):=h.ok I.hok;show⟨its,r,⟨_,n,e,R,R,R⟩,z⟩
 .refine⟨its.toList,r,⟨o,n,I.kIn a o j,C,hd,by simpa using hs⟩,?_⟩;let e:=r.length;simp only[y16]at e;omega
theorem Inv.tuple(I:02 H s)(h:SqT X.K H a xs):∃its:List Va,Vals xs its/\IsTup s.heap a its.toArray/\xs.length<=ii:=by
 rcases h with h|⟨o,its,n,j,C,hs,hz,r⟩
 .let(z,its,r,p):=h.ok I.hok;show⟨its,r,p,z⟩
 .refine⟨its.toList,r,⟨o,I.kIn a o j,C,n,by simpa using hs⟩,?_⟩;let e:=r.length;simp only[y16]at e;omega
theorem Inv.list_inj(I:02 H s)(h:SqL X.K H a xs)(h':SqL X.K H a ys):xs=ys:=by
 let(its,r,(o,n,e,_,_,d),_):=I.list h;let(its',r',(f,n',l,_,_,d'),_):=I.list h';rw[e]at l;cases l;rw[d]at d';injection d' with p _
 let:its=its':=by simpa using congrArg Array.toList p
 subst this;show r.inj r'
theorem Inv.tuple_inj(I:02 H s)(h:SqT X.K H a xs)(h':SqT X.K H a ys):xs=ys:=by
 let(its,r,(o,e,_,n,d),_):=I.tuple h;let(its',r',(f,l,_,n',d'),_):=I.tuple h';rw[e]at l;cases l;rw[d]at d';injection d' with p _
 let:its=its':=by simpa using congrArg Array.toList p
 subst this;show r.inj r'
end
noncomputable abbrev Cx.wish(X:Cx)(E:Y0):Cx:={X with xe:=E}
noncomputable abbrev Cx.nox(X:Cx):Cx:=X.wish λ_ _=>False
theorem Cx.Ok.wish{X:Cx}(ok:X.Ok)(E:Y0):(X.wish E).Ok :=
 ⟨ok.mod,ok.kind,ok.glob,ok.blt,ok.above,ok.inj,ok.has,ok.cab,ok.hd,ok.frames,ok.stk,ok.exf,ok.bs,ok.bsz,ok.noex,ok.exfs,ok.funs,ok.frf⟩
theorem Cx.Ok.unwish{X:Cx}(ok:(X.wish E).Ok):X.Ok :=
 ⟨ok.mod,ok.kind,ok.glob,ok.blt,ok.above,ok.inj,ok.has,ok.cab,ok.hd,ok.frames,ok.stk,ok.exf,ok.bs,ok.bsz,ok.noex,ok.exfs,ok.funs,ok.frf⟩
section
variable {X:Cx}{pins:Y2}{σ:St}{H:Hp}{s:ig}{E:Y0}
theorem Inv.wish(I:02 H s)(E:Y0):Inv (X.wish E) pins σ H s:=⟨I.ok.wish E,I.os,I.bare,I.base,I.loc,I.cell,I.free,I.freeC,I.pin,I.hok,I.len⟩
theorem Inv.unwish(I:Inv (X.wish E) pins σ H s):02 H s:=⟨I.ok.unwish,I.os,I.bare,I.base,I.loc,I.cell,I.free,I.freeC,I.pin,I.hok,I.len⟩
theorem SP.unwish(h:SP (X.wish E) pins D f s'):SP X pins D f s':=by
 cases f with
 |next=>let(l,H',I,q):=h;show⟨l,H',I.unwish,q⟩
 |brk=>let(l,H',I,q):=h;show⟨l,H',I.unwish,q⟩
 |cont=>let(l,H',I,q):=h;show⟨l,H',I.unwish,q⟩
 |ret u=>let(v,l,H',I,r,q):=h;show⟨v,l,H',I.unwish,r,q⟩
theorem PSs.nox{st:List Stmt}{t:TS}(h:PSs X.nox st t):PSs X st t:=λpins s σ H D I L =>
 iq (h pins s σ H D (I.wish _) L) (λ_ _ q=>q.unwish) λ_ _ z=>False.elim z
end
section
variable {X:Cx}{st:Stmt}{rest:List Stmt}{t u:TS}{e:Expr}{te:TE}{pos:Pos}
def tNext:TS:=λD σ H=>D.nx σ H
def tSeq(t u:TS):TS:=λD σ H=>t {D with nx:=u D} σ H
theorem zan:PSs X [] tNext:=λ_ _ σ H _ I h=>iO ⟨σ,H,I,h⟩
theorem zab(O:PS X st t)(M:PSs X rest u):PSs X (st::rest) (tSeq t u):=by
 intro pins s σ H D I h;apply iL<|thn (O pins s σ H {D with nx:=u D} I h) λf s1 q=>?_;cases f with
 |next =>
  let(l,H',y,q):=q;show M pins s1 l H' D y q
 |ret v=>show q
 |brk=>show q
 |cont=>show q
theorem zac(O:PS X st t):PSs X [st] t:=by
 intro pins s σ H D I h;apply iL<|thn (O pins s σ H D I h) λf s1 q=>?_;cases f with
 |next=>show iO q
 |ret v=>show q
 |brk=>show q
 |cont=>show q
def tBreak:TS:=λD σ H=>D.bk σ H
def tCont:TS:=λD σ H=>D.ct σ H
theorem Inv.quiet{pins:Y2}{σ:St}{H:Hp}{s:ig}(I:02 H s):interactive X.env=Fa:=by simp[interactive,I.ok.kind]
def tDrop(te:TE):TS:=λD σ H=>te σ H λ_ H1=>D.nx σ H1
theorem zbk(f:PE X e te)(hs:jp e B pos.line X.env=pure Fa:=by rfl):PS X (.Expr e pos) (tDrop te):=by
 intro pins s σ H D I h;show wpAny_Expr_any (thn (f pins s σ H _ I h) λv s1 zz=>ex5 zz λx H1 I1 r1 A=>⟨σ,H1,I1,A⟩) I.quiet hs
def tRet(te:TE):TS:=λD σ H=>te σ H D.rt
theorem zai(f:PE X e te):PS X (.Return (G e) pos) (tRet te):=by
 intro pins s σ H D I h;show wpAny_Return_some<|thn (f pins s σ H _ I h) λv s1 zz=>ex5 zz λx H1 I1 r1 A=>⟨x,σ,H1,I1,r1,A⟩
def tRetN:TS:=λD _ H=>D.rt .non H
def tIfS(c:TT)(t u:TS):TS:=λD σ H=>c σ H λb H1=>if b=N then t D σ H1 else u D σ H1
theorem za3(C:PT X c o)(q:PSs X a t)(U:PSs X b u):PS X (.If c a b pos) (tIfS o t u):=by
 intro pins s σ H D I h;apply wpAny_If<|thn (C pins s σ H _ I h) λd s1 ⟨H1,I1,A⟩=>?_;cases d with
 |true=>show q pins s1 σ H1 D I1 A
 |false=>show U pins s1 σ H1 D I1 A
def tNever:TS:=λ_ _ _=>False
theorem zb2:PS X st tNever:=λ_ _ _ _ _ _ h=>h.elim
end
abbrev TG:=V->St->Hp->(St->Hp->Prop)->Prop
abbrev TGs:=List V->St->Hp->(St->Hp->Prop)->Prop
def PG(X:Cx)(a:Expr)(t:TG):Prop :=
 ∀(pins:Y2) (s:ig) (σ:St) (H:Hp) (v:V) (u:Va) (Q:St->Hp->Prop),02 H s->RelV v u->t v σ H Q->
  wpAny 36 X.A (assign a X.env u) (λ_ s'=>∃l H',Inv X pins l H' s'/\Q l H') X.xe s
def PGs(X:Cx)(ts:List Expr)(t:TGs):Prop :=
 ∀(pins:Y2) (s:ig) (σ:St) (H:Hp) (vs:List V) (us:List Va) (Q:St->Hp->Prop),02 H s->Vals vs us->t vs σ H Q->
  wpAny 36 X.A (assignInOrder ((js ts X.env).map (·.2)) us) (λ_ s'=>∃l H',Inv X pins l H' s'/\Q l H') X.xe s
abbrev TSet:=V->V->V->Hp->(Hp->Prop)->Prop
abbrev TIp:=V->V->Hp->VK->Prop
def PIp(X:Cx)(o:Operator)(t:TIp):Prop :=
 ∀(pins:Y2) (s:ig) (σ:St) (H:Hp) (x y:V) (v u:Va) (Q:VK),02 H s->RelV x v->RelV y u->t x y H Q->
  wpAny 36 X.A (inplaceOp o v u) 037 X.xe s
section
variable {X:Cx}{pos:Pos}
def gName(i:Nat):TG:=λv σ H Q=>Q (σ.set i<|G v) H
theorem zaj(hN:X.Nq.Nodup)(hi:X.Nq[i]?=G x)(J:Loc X.env.scope x)(T:X.fn x=N\/X.env.scope.names.lookup x=G .local:=by first|show .inl rfl|show .inr rfl|assumption):PG X (.Name x pos) (gName i):=by
 intro pins s σ H v u Q I r h;show wpAny_assign_Name<|zcn I hN hi J r (λs' y=>⟨_,H,y,h⟩) T
def gNil:TGs:=λvs σ H Q=>vs=[]/\Q σ H
def gCons(t:TG)(u:TGs):TGs:=λvs σ H Q=>∃v r,vs=v::r/\t v σ H λl H'=>u r l H' Q
theorem zc5:PGs X [] gNil:=by
 intro pins s σ H vs us Q I r h;let(e,h):=h;subst e;cases r;show assignInOrder_nil ⟨σ,H,I,h⟩
theorem zbc(O:PG X e t)(M:PGs X l u)
  (hs:(js (e::l) X.env).map (·.2)=assign e X.env::(js l X.env).map (·.2):=by rfl):PGs X (e::l) (gCons t u):=by
 intro pins s σ H vs us Q I r h;let(v,c,L,h):=h;subst L;cases r with
 |cons r d =>
  rw[hs];apply assignInOrder_cons<|thn (O pins s σ H _ _ _ I r h) λ_ s1 ⟨a,H1,I1,A⟩=>?_;show M pins s1 a H1 _ _ Q I1 d A
def gTup(K:Frag)(n:Nat)(t:TGs):TG:=λv σ H Q=>∃a xs,v=.ref a/\SqT K H a xs/\xs.length=n/\t xs σ H Q
theorem pg_tup{l:List Expr}{k:Nat}{t:TGs}{n:Nat}(hc:X.calm=N)(h:PGs X l t)
  (U:(js l X.env).length=n:=by rfl) (c:(js l X.env).findIdx? (·.1)=B:=by rfl):PG X (.Tuple l k pos) (gTup X.K n t):=by
 intro pins s σ H v u Q I r w;let(a,xs,L,O,Y,w):=w;subst L;cases r;let(its,f,p,hz):=I.tuple O;apply assign_Tuple_tuple 024 p (by simp[U,←Y,f.length]) c λh' J=>?_;let I1:02 H {s with heap:=h'}:=I.kept (t':=s.toks) λb o e=>J b o (y0m<|y0g e) e;show h pins _ σ H xs _ Q I1 (by simpa using f) w
def gSub(c ti:TE)(t:TSet):TG:=λv σ H Q=>c σ H λo H1=>ti σ H1 λi H2=>t o i v H2 λH3=>Q σ H3
def tAsg(te:TE)(g:TG):TS:=λD σ H=>te σ H λx H1=>g x σ H1 D.nx
theorem zx2(f:PE X e te)(j:PG X a g)(hs:swapsWithSole [a] e pos.line X.env=pure Fa:=by rfl)(L:swappedStores [a] e X.env=pure B:=by rfl)
  (O:(js [a] X.env).map (·.2)=[assign a X.env]:=by rfl):PS X (.Assign [a] e pos) (tAsg te g):=by
 intro pins s σ H D I h;apply wpAny_Assign_stores (thn (f pins s σ H _ I h) λv s1 zz=>ex5 zz λx H1 I1 r1 A=>?_) hs L;rw[O];show thn (j pins s1 σ H1 x v _ I1 r1 A) λ_ s2 q=>q
theorem zal(hN:X.Nq.Nodup)(hi:X.Nq[i]?=G x)(J:Loc X.env.scope x)(f:PE X e te)(hs:jp e (G<|.Name x Q) pos.line X.env=pure Fa:=by rfl)(T:X.fn x=N\/X.env.scope.names.lookup x=G .local:=by first|show .inl rfl|show .inr rfl|assumption):
  PS X (.Assign [.Name x Q] e pos) (tAsg te<|gName i):=by
 intro pins s σ H D I h;apply wpAny_Assign_Name (thn (f pins s σ H _ I h) λv s1 zz=>ex5 zz λy H1 I1 r1 A=>?_) hs;show zcn I1 hN hi J r1 (λs2 l=>⟨_,H1,l,A⟩) T
def tPar(i j:Nat)(y:TA):TS:=λD σ H=>y σ H λvs H1=>∃v w,vs=[v,w]/\D.nx ((σ.set i<|G v).set j<|G w) H1
def tAug(i:Nat)(te:TE)(ti:TIp):TS:=λD σ H=>∃x,σ[i]?=G (G x)/\te σ H λy H1=>ti x y H1 λz H2=>D.nx (σ.set i<|G z) H2
theorem zn3(hN:X.Nq.Nodup)(hi:X.Nq[i]?=G x)(J:Loc X.env.scope x)(f:PE X e te)(q:PIp X o ti)(T:X.fn x=N\/X.env.scope.names.lookup x=G .local:=by first|show .inl rfl|show .inr rfl|assumption):
  PS X (.AugAssign (.Name x Q) o e pos) (tAug i te ti):=by
 intro pins s σ H D I h;let(v,L,h):=h;let(m,U,Y):=I.loc;let d:Vis X.env.scope x:=by rcases J with k|k;show .inl k;show .inr<|.inl k
 let(u,r,l):=Y i x v hi L d;apply wpAny_AugAssign_Name ?_;let go:wpAny 36 X.A (eval e X.env) (λw s₂=>wpAny 36 X.A (inplaceOp o u w) (λr s₃=>wpAny 36 X.A (jS X.env x r) (λ_=>SP X pins D .next) X.xe s₃) X.xe s₂) X.xe s:=by
  apply thn (f pins s σ H _ I h) λw s1 zz=>ex5 zz λy H1 I1 r1 A=>?_;apply thn (q pins s1 σ H1 v y u w _ I1 r r1 A) λz s2 zz=>ex5 zz λg H2 I2 E q2=>?_;show zcn I2 hN hi J E (λO p=>⟨_,H2,p,q2⟩) T
 rcases l with⟨j,M⟩|⟨j,c,C,a⟩
 .exact wpAny_loadName_local I.ok.kind j U M go
 .rcases j with j|j
  .exact wpAny_loadName_cell I.ok.kind j C a go
  .rcases J with k|k
   .let:X.env.scope.names.lookup x=G .free:=j;rw[k]at this;cases this
   .let:X.env.scope.names.lookup x=G .free:=j;rw[k]at this;cases this
def ipI(f:Int->Int->Int):TIp:=λx y H Q=>∃i j,x=.int i/\y=.int j/\Q (.int<|f i j) H
theorem ztf:PIp X .Add (ipI λi j=>i+j):=by
 intro pins s σ H x y v u Q I r1 E h;let(i,j,L,g,q):=h;subst L;subst g;let(t,rfl):=r1;let(t',rfl):=E;show iadd_int ⟨.int _,H,I.tok _,⟨_,R⟩,q⟩
theorem ip_sub:PIp X .Sub (ipI λi j=>i-j):=by
 intro pins s σ H x y v u Q I r1 E h;let(i,j,L,g,q):=h;subst L;subst g;let(t,rfl):=r1;let(t',rfl):=E;show isub_int ⟨.int _,H,I.tok _,⟨_,R⟩,q⟩
end
section
variable {X:Cx}{pos:Pos}
def tWhile(c:TT)(I:TS):TS:=λD σ H=>∃W:Nat->St->Hp->Prop,(∃m,W m σ H)/\∀m σ H,W m σ H->
 c σ H λb H1=>if b=N then∃Nq:St->Hp->Prop,(∀l H',Nq l H'->∃O,O<m/\W O l H')/\I {D with nx:=Nq,ct:=Nq,bk:=D.nx} σ H1 else D.nx σ H1
theorem zdj(E:PassesOwn 36 X.A X.env X.xe)(C:PT X c o)(U:PSs X body q):PS X (.While c body [] pos) (tWhile o q):=by
 intro pins s σ H D I h;let(W,(g,j),turn):=h;apply wpAny_While<|codeAny_whileLoop (λn s'=>∃l H',Inv X pins l H' s'/\W n l H') ?_ g ⟨σ,H,I,j⟩;rintro n s1 ⟨a,H1,I1,d⟩;apply iX E<|thn (C pins s1 a H1 _ I1<|turn n a H1 d) λb s2 ⟨H2,x,w⟩=>?_;cases b with
 |true =>
  let(Nq,hN,w):=w;rw[Xq rfl];apply iX E<|thn (U pins s2 a H2 _ x w) λf J i=>?_;cases f with
  |next =>
   let(y,H3,p,e):=i;let(O,Y,z):=hN y H3 e;show⟨O,Y,y,H3,p,z⟩
  |cont =>
   let(y,H3,p,e):=i;let(O,Y,z):=hN y H3 e;show⟨O,Y,y,H3,p,z⟩
  |brk=>show i
  |ret v=>show i
 |false =>
  rw[Xp y0i];show iO ⟨a,H2,x,w⟩
end
structure It where
 go:Nat->Hp->Prop
 yld:Nat->Hp->V->Hp->Prop
 stop:Nat->Hp->Prop
def FpOk(X:Cx)(pins:Y2)(H:Hp)(b:Ad):Prop :=
 H b=B/\b≠X.env.locals/\b∉X.fs/\(b∈X.ex\/X.s₀.heap.objs.size<=b)/\(∀x c,X.env.cells.lookup x=G c->c≠b)/\∀p∈X.pn++pins,p.1≠b
theorem Inv.fpOk{X:Cx}{pins:Y2}{σ:St}{H H':Hp}{s:ig}{b:Ad}(I:02 H s)(U:s.heap.objs.size<=b)(d:H' b=B):FpOk X pins H' b:=by
 apply⟨d,y24<|y0q I.lt U,I.nofs U,.inr<|y1a I.sz U,λx c e z=>?_,λp E z=>?_⟩
 .let(v,q):=I.cell x c e;show Xa (y0q q.lt<|by rw[z];show U)<|y1m _
 .exact Xa (y0q (y0g (I.pin p E).1)<|by rw[z];show U)<|y1m _
structure Turn(P:ik)(w:World)(K:Frag)(tg:Expr)(J:It)(fp:List Ad)(it:Ad)(tn:Nat->Heap->Prop):Prop where
 mem:it∈fp
 obj:∀i h,tn i h->∀b∈fp,∃o,h.get? b=G o/\∀v,o.data ≠ .cell v
 keep:∀i h h',tn i h->(∀b∈fp,∀o,h.get? b=G o->h'.get? b=G o)->tn i h'
 item:∀(X:Cx),X.prog=P->X.w=w->X.K=K->X.calm=N->∀(i:Nat) (pins:Y2) (s:ig) (σ:St) (H:Hp) (E:Y0),02 H s->(∀b∈fp,FpOk X pins H b)->tn i s.heap->J.go i H->
  wpAny 81 X.A (j8 014) (λr s1=>∃u,r=G u/\
   wpAny 81 X.A (iY tg 014 u) (λ_ s2=>∃x H',02 H' s2/\RelV x u/\J.yld i H x H'/\tn (i+1) s2.heap/\∀b∈fp,H' b=B) E s1) E s
 done:∀(X:Cx),X.prog=P->X.w=w->X.K=K->X.calm=N->∀(i:Nat) (pins:Y2) (s:ig) (σ:St) (H:Hp) (E:Y0),02 H s->(∀b∈fp,FpOk X pins H b)->tn i s.heap->J.stop i H->
  wpAny 81 X.A (j8 014) (λr s1=>r=B/\02 H s1) E s
 self:∀(A:io) (i:Nat) (s:ig) (Q:Y0) (E:Y0),tn i s.heap->Q 014 s->wpAny 81 A (jV 014) Q E s
abbrev TI:=St->Hp->(It->Hp->Prop)->Prop
def PIE(X:Cx)(pins:Y2)(σ:St)(a:Expr)(Rq:It->Hp->Prop)(c:Va)(s2:ig):Prop :=
 ∃(it:Ad) (fp:List Ad) (tn:Nat->Heap->Prop) (J:It) (H':Hp),c=.ref it/\02 H' s2/\Turn X.prog X.w X.K a J fp it tn/\tn 0 s2.heap/\(∀b∈fp,FpOk X pins H' b)/\Rq J H'
def PI(X:Cx)(a iter:Expr)(w:TI):Prop :=
 ∀(pins:Y2) (s:ig) (σ:St) (H:Hp) (Rq:It->Hp->Prop),02 H s->w σ H Rq->
  wpAny 36 X.A (eval iter X.env) (λv s1=>wpAny 36 X.A (jV v) (PIE X pins σ a Rq) X.xe s1) X.xe s
theorem zw9(D:s.heap.get? it=G o)(C:o.cls=.type n)(hd:o.data=.fields vs)
  (I:["enumerate","zip","dict_itemiterator","dict_reverseitemiterator","odict_iterator","itertools.zip_longest","itertools.pairwise"].contains n=Fa) (g:Q () s):wpAny M A (iY a 014 u) Q E s:=by
 unfold iY;cases a<;>first
  |show ib g
  |(cases u<;>first
    |show ib g
    |(apply ia (lq D ?_)
      rw[C,hd];change wpAny M A (if(["enumerate","zip","dict_itemiterator","dict_reverseitemiterator","odict_iterator","itertools.zip_longest","itertools.pairwise"].contains n&&vs[0]? ==G (i9 _))=N then _ else _) Q E s;rw[Xp<|by intro h;rw[I,y1q]at h;cases h];show ib g))
noncomputable def Itl(K:Frag)(a:Ad):It :=
 ⟨λi H=>∃xs x,SqL K H a xs/\xs[i]?=G x,λi H x H'=>H'=H/\∀xs,SqL K H a xs->xs[i]?=G x,λi H=>∃xs,SqL K H a xs/\xs.length<=i⟩
noncomputable def Itt(K:Frag)(a:Ad):It :=
 ⟨λi H=>∃xs x,SqT K H a xs/\xs[i]?=G x,λi H x H'=>H'=H/\∀xs,SqT K H a xs->xs[i]?=G x,λi H=>∃xs,SqT K H a xs/\xs.length<=i⟩
noncomputable def Itr(lo:Int)(n:Nat):It:=⟨λi _=>i<n,λi H x H'=>H'=H/\x=.int (lo+i),λi _=>n<=i⟩
theorem zq1{P:ik}{w:World}{K:Frag}{tg:Expr}(a it:Ad):Turn P w K tg (Itl K a) [it] it (λi h=>h.IsListIter it a i) where
 mem:=by simp
 obj:=λi h st b U=>by
  let e:b=it:=by simpa using U
  subst e;let(o,e,c,d):=st;show⟨o,e,λv z=>by rw[d]at z;cases z⟩
 keep:=λi h h' st k=>st.at λo e=>k it 05 o e
 item:=by
  intro X l L hK hc i pins s σ H E I T st j;subst l L hK;let(xs,x,O,J):=j;let(its,f,p,hz):=I.list O;let(u,hu,g):=f.get J;let(y,f1,q,M,Q,A):=T it 05;apply wpAny_pyNext_list_item st p.isList (x:=u) (by simpa using hu) λh' D r=>?_;let I1:02 H {s with heap:=h'}:=I.turned (t':=s.toks) (λb o U e=>(r.2 b U).trans e) y f1 M Q A;let(o,e,c,d):=id D;show⟨u,R,zw9 (s:={s with heap:=h'}) e c d (by decide) ⟨x,H,I1,g,⟨R,λys C=>by rw[I.list_inj C O];show J⟩,D,λb U=>(T b U).1⟩⟩
 done:=by
  intro X l L hK hc i pins s σ H E I T st j;subst l L hK;let(xs,O,J):=j;let(its,f,p,hz):=I.list O;let(y,f1,q,M,Q,A):=T it 05;let Y:=f.length;show wpAny_pyNext_list_end 024 st p.isList (by simp;omega) λh' eb=>⟨R,I.turned (t':=s.toks) (λb o U e=>eb b o U e) y f1 M Q A⟩
 self:=λ_ _ _ _ _ st h=>wpAny_pyIter_listiter st h
theorem zpc{P:ik}{w:World}{K:Frag}{tg:Expr}(a it:Ad):Turn P w K tg (Itt K a) [it] it (λi h=>h.IsTupleIter it a i) where
 mem:=by simp
 obj:=λi h st b U=>by
  let e:b=it:=by simpa using U
  subst e;let(o,e,c,d):=st;show⟨o,e,λv z=>by rw[d]at z;cases z⟩
 keep:=λi h h' st k=>st.at λo e=>k it 05 o e
 item:=by
  intro X l L hK hc i pins s σ H E I T st j;subst l L hK;let(xs,x,O,J):=j;let(its,f,p,hz):=I.tuple O;let(u,hu,g):=f.get J;let(y,f1,q,M,Q,A):=T it 05;apply wpAny_pyNext_tuple_item st (show s.heap.IsTuple a its.toArray from p) (x:=u) (by simpa using hu) λh' D r=>?_;let I1:02 H {s with heap:=h'}:=I.turned (t':=s.toks) (λb o U e=>(r.2 b U).trans e) y f1 M Q A;let(o,e,c,d):=id D;show⟨u,R,zw9 (s:={s with heap:=h'}) e c d (by decide) ⟨x,H,I1,g,⟨R,λys C=>by rw[I.tuple_inj C O];show J⟩,D,λb U=>(T b U).1⟩⟩
 done:=by
  intro X l L hK hc i pins s σ H E I T st j;subst l L hK;let(xs,O,J):=j;let(its,f,p,hz):=I.tuple O;let(y,f1,q,M,Q,A):=T it 05;let Y:=f.length;show wpAny_pyNext_tuple_end 024 st (show s.heap.IsTuple a its.toArray from p) (by simp;omega) λh' eb=>⟨R,I.turned (t':=s.toks) (λb o U e=>eb b o U e) y f1 M Q A⟩
 self:=λ_ _ _ _ _ st h=>wpAny_pyIter_tupleiter st h
theorem zpd{P:ik}{w:World}{K:Frag}{a:Expr}(it:Ad)(lo:Int)(n:Nat):Turn P w K a (Itr lo n) [it] it (λi h=>IsRangeIter h it (lo+(i:Nat)*1) ((n:Int)-(i:Nat)) 1) where
 mem:=by simp
 obj:=λi h st b U=>by
  let e:b=it:=by simpa using U
  subst e;show⟨_,st,λv z=>by
   let f:Data.fields _=Data.cell v:=z;cases f⟩
 keep:=λi h h' st k=>k it 05 _ st
 item:=by
  intro X l L p hc i pins s σ H E I T st j;subst l L p;let(y,f1,q,M,Q,A):=T it 05;let W:=Walks.range (prog:=X.prog) (w:=X.w) 024 it lo 1 n;apply W.item i s _ _ j st λv h' r hv D d=>?_;let(t,rfl):=hv;let I1:02 H {s with heap:=h',toks:=r}:=I.turned (λb o U e=>d b o (by simpa using U) e) y f1 M Q A;apply⟨_,R,zw9 (s:={s with heap:=h',toks:=r}) (n:="range_iterator") D R R (by decide) ⟨.int<|lo+i,H,I1,⟨t,?_⟩,⟨R,R⟩,D,λb U=>(T b U).1⟩⟩;rw[Int.mul_one]
 done:=by
  intro X l L p hc i pins s σ H E I T st j;subst l L p;let(y,f1,q,M,Q,A):=T it 05;show wpAny_pyNext_range_end 024 st (by have:n<=i:=j;omega) λh' O=>⟨R,I.turned (t':=s.toks) (λb o U e=>O b o U e) y f1 M Q A⟩
 self:=λ_ _ _ _ _ st h=>wpAny_pyIter_rangeiter st h
section
variable {X:Cx}{tg:Expr}
def iList(K:Frag)(tl:TE):TI:=λσ H Rq=>tl σ H λx H1=>asR x λa=>(∃xs,SqL K H1 a xs)/\Rq (Itl K a) H1
def iTup(K:Frag)(tl:TE):TI:=λσ H Rq=>tl σ H λx H1=>asR x λa=>(∃xs,SqT K H1 a xs)/\Rq (Itt K a) H1
theorem pi_list{l:Expr}{tl:TE}(Y:PE X l tl):PI X tg l (iList X.K tl):=by
 intro pins s σ H Rq I h;apply thn (Y pins s σ H _ I h) λv s1 zz=>ex5 zz λx H1 I1 r1 A=>?_;let(a,e,(xs,O),q):=zc0 A;subst e;cases r1;let(its,f,p,hz):=I1.list O;apply jb p.isList ?_;apply⟨s1.heap.objs.size,[s1.heap.objs.size],_,_,H1,R,I1.kept (t':=s1.toks) λb o e=>y04 _ e,zq1 a _,⟨_,y0d _ R,R,R⟩,λb U=>?_,q⟩;let e:b=s1.heap.objs.size:=by simpa using U
 subst e;show I1.fpOk 08<|I1.hok.fresh 08
theorem pi_tup{l:Expr}{tl:TE}(Y:PE X l tl):PI X tg l (iTup X.K tl):=by
 intro pins s σ H Rq I h;apply thn (Y pins s σ H _ I h) λv s1 zz=>ex5 zz λx H1 I1 r1 A=>?_;let(a,e,(xs,O),q):=zc0 A;subst e;cases r1;let(its,f,p,hz):=I1.tuple O;apply wpAny_pyIter_tuple (show s1.heap.IsTuple a its.toArray from p) ?_;apply⟨s1.heap.objs.size,[s1.heap.objs.size],_,_,H1,R,I1.kept (t':=s1.toks) λb o e=>y04 _ e,zpc a _,⟨_,y0d _ R,R,R⟩,λb U=>?_,q⟩;let e:b=s1.heap.objs.size:=by simpa using U
 subst e;show I1.fpOk 08<|I1.hok.fresh 08
theorem zvt{pins:Y2}{σ:St}{H:Hp}{s:ig}{Rq:It->Hp->Prop}{E:Y0}{lo hi:Int}{t u v:Tok}{r:Nat}(I:02 H s)(O:-(2^62)<=lo)(M:lo<2^62)(A:-(2^62)<=hi)(p:hi<2^62)
  (q:Rq (Itr lo (hi-lo).toNat) H):wpAny 36 X.A (jV 018) (PIE X pins σ tg Rq) E {s with heap:=s.heap.push {cls:=.type "range",data:=.fields #[.int lo t,.int hi u,.int 1 v]},toks:=r}:=by
 apply wpAny_pyIter_range (IsRange.new ..) (small_one O M A p) ?_;let I1:02 H {s with heap:=s.heap.push {cls:=.type "range",data:=.fields #[.int lo t,.int hi u,.int 1 v]},toks:=r}:=I.kept λb o e=>y04 _ e;apply⟨(085).objs.size,[(085).objs.size],_,_,H,R,
  I1.kept (t':=r) λb o e=>y04 _ e,zpd _ lo (hi-lo).toNat,?_,λb U=>?_,q⟩
 .let L:lo+((0:Nat):Int)*1=lo:=by simp
  let g:(((hi-lo).toNat:Nat):Int)-((0:Nat):Int)=Builtin.Range.rangeSize lo hi 1:=by rw[rangeSize_one];split<;>omega
  change IsRangeIter _ _ (lo+((0:Nat):Int)*1) ((((hi-lo).toNat:Nat):Int)-((0:Nat):Int)) 1;rw[L,g];show y0d _ R
 .let e:b=(085).objs.size:=by simpa using U
  subst e;show I1.fpOk 08<|I1.hok.fresh 08
def iRng1(y:TA):TI:=λσ H Rq=>y σ H λvs H1=>∃j:Int,vs=[.int j]/\-(2^62)<=j/\j<2^62/\Rq (Itr 0 j.toNat) H1
def iRng2(y:TA):TI:=λσ H Rq=>y σ H λvs H1=>∃i j:Int,vs=[.int i,.int j]/\(-(2^62)<=i/\i<2^62/\-(2^62)<=j/\j<2^62)/\Rq (Itr i (j-i).toNat) H1
theorem zbp{a:Expr}{y:TA}{p pos:Pos}(i:Gl X "range")(Y:X.mg "range"=B)(ha:PA X [a] y)(hs:im [a] X.env=[(Fa,eval a X.env)]:=by rfl):PI X tg (.Call (.Name "range" p) [a] [] pos) (iRng1 y):=by
 intro pins s σ H Rq I h;apply Call_<|zdw I i Y boot_range (PyProof.Rows.callWith_type1 (thn 060 λus s1 zz=>ex5 zz λvs H1 I1 r1 A=>?_) hs R);let(j,e,A,w,q):=A;subst e;cases r1 with
 |cons r d =>
  cases d;let(t,rfl):=r;show call_range_1<|zvt I1 01 01 A w (by simpa using q)
def tFor(w:TI)(g:TG)(I:TS):TS:=λD σ H=>w σ H λJ H1=>∃W:Nat->Nat->St->Hp->Prop,(∃m,W 0 m σ H1)/\∀i m σ H,W i m σ H->
 (J.stop i H/\D.nx σ H)\/(J.go i H/\∃Nq:St->Hp->Prop,073/\∀x H',J.yld i H x H'->g x σ H' λd H2=>I {D with nx:=Nq,ct:=Nq,bk:=D.nx} d H2)
noncomputable def pinsAt(fp:List Ad)(h:Heap):List (Ad×Obj):=fp.filterMap λb=>(h.get? b).map λo=>(b,o)
theorem zdp(U:b∈fp)(e:h.get? b=G o):(b,o)∈pinsAt fp h:=List.mem_filterMap.mpr ⟨b,U,by rw[e];rfl⟩
theorem zsu(E:p∈pinsAt fp h):p.1∈fp/\h.get? p.1=G p.2:=by
 let(b,U,e):=List.mem_filterMap.mp E;cases q:h.get? b with
 |none=>rw[q]at e;cases e
 |some o =>
  rw[q]at e;let l:(b,o)=p:=Option.some.inj e;subst l;show⟨U,q⟩
theorem Inv.pinned{pins:Y2}{σ:St}{H:Hp}{s:ig}{fp:List Ad}(I:02 H s)(T:∀b∈fp,FpOk X pins H b)(D:∀b∈fp,∃o,s.heap.get? b=G o/\∀v,o.data ≠ .cell v):Inv X (pins++pinsAt fp s.heap) σ H s :=
 I.pins_of λp E=>(y0x.mp E).elim (λz=>I.pin p<|y10 _ z) λz=>by
  let(U,e):=zsu z;let(y,f1,q,_):=T p.1 U;let(o,l,d):=D p.1 U;rw[e]at l;cases l;show⟨e,y,f1,q,d⟩
theorem Inv.unpinned{pins c:Y2}{σ:St}{H:Hp}{s:ig}(I:Inv X (pins++c) σ H s):02 H s:=I.pins_of λp E=>I.pin p<|y10 _ (y2g _ E)
theorem zbz(E:PassesOwn 36 X.A X.env X.xe)(C:X.calm=N)(hi:PI X tg iter w)(j:PG X tg g)(U:PSs X body tb)
  (hs:∀x,jv iter X.env x=pure x:=by intro _;rfl):PS X (.For tg iter body [] pos) (tFor w g tb):=by
 intro pins s σ H D I h;apply wpAny_For (thn (hi pins s σ H _ I h) λv s1 O=>thn O λitv s2 M=>?_) hs;let(it,fp,tn,J,H2,e,I2,T,st2,q,W,(m0,w0),turn):=M;subst e;let A:∀{H':Hp},(∀b∈fp,H' b=B)->∀b∈fp,FpOk X pins H' b:=λhn b U=>⟨hn b U,(q b U).2⟩;apply codeAny_forLoop_any (λn s'=>∃i l H',Inv X pins l H' s'/\tn i s'.heap/\(∀b∈fp,H' b=B)/\W i n l H') ?_ m0 ⟨0,σ,H2,I2,st2,λb U=>(q b U).1,w0⟩;rintro n s3 ⟨i,y,H3,p,nb,fr3,z⟩;rcases turn i n y H3 z with⟨stop,qn⟩|⟨go,Nq,hN,step⟩
 .refine iX E<|thn (T.done X R R R C i pins s3 y H3 X.xe p (A fr3) nb stop) λr s4 ⟨hr,I4⟩=>?_;subst hr;show iO ⟨y,H3,I4,qn⟩
 .refine iX E<|thn (T.item X R R R C i pins s3 y H3 X.xe p (A fr3) nb go) λr s4 ⟨u,hr,L⟩=>?_;subst hr;apply iX E<|thn L λ_ s5 zz=>ex5 zz λx H5 I5 r5 zq=>?_;let(y5,st5,fr5):=zq;let I5':=I5.pinned (A fr5)<|T.obj _ _ st5;apply iX E<|thn (j _ s5 y H5 x u _ I5' r5<|step x H5 y5) λ_ s6 ⟨σ6,H6,I6,q6⟩=>?_;apply iX E<|thn (U _ s6 σ6 H6 _ I6 q6) λf s7 q7=>?_;let again:∀{a:St} {H7:Hp},Inv X (pins++pinsAt fp s5.heap) a H7 s7->Nq a H7->∃m,m<n/\∃i l H',Inv X pins l H' s7/\tn i s7.heap/\(∀b∈fp,H' b=B)/\W i m l H':=λ{a H7} c Q=>by
   let(m',Y,w7):=hN a H7 Q;apply⟨m',Y,i+1,a,H7,c.unpinned,T.keep _ _ _ st5 λb U o e=>(c.pin (b,o)<|y10 _ (y10 _<|zdp U e)).1,λb U=>?_,w7⟩;let(o,e,d):=T.obj _ _ st5 b U;show(c.pin (b,o)<|y10 _ (y10 _<|zdp U e)).2.1
  cases f with
  |next=>let(a,H7,c,Q):=q7;show again c Q
  |cont=>let(a,H7,c,Q):=q7;show again c Q
  |brk=>let(a,H7,c,q7):=q7;show⟨a,H7,c.unpinned,q7⟩
  |ret v=>let(x7,a,H7,c,r7,q7):=q7;show⟨x7,a,H7,c.unpinned,r7,q7⟩
end
theorem zxb{K:Frag}{a:Ad}{xs:List V}{g:TG}{I:TS}{D:Ends}{σ:St}{H:Hp}(Pv:Nat->St->Hp->Prop)(C:Pv 0 σ H)(Y:∀i σ H,i<=xs.length->Pv i σ H->SqL K H a xs)
  (hs:∀i x σ H,xs[i]?=G x->Pv i σ H->g x σ H λd H2=>I {D with nx:=Pv<|i+1,ct:=Pv<|i+1,bk:=D.nx} d H2) (hd:∀σ H,Pv xs.length σ H->D.nx σ H) :
  ∃W:Nat->Nat->St->Hp->Prop,(∃m,W 0 m σ H)/\∀i m σ H,W i m σ H->
   ((Itl K a).stop i H/\D.nx σ H)\/((Itl K a).go i H/\∃Nq:St->Hp->Prop,073/\∀x H',(Itl K a).yld i H x H'->g x σ H' λd H2=>I {D with nx:=Nq,ct:=Nq,bk:=D.nx} d H2):=by
 apply⟨λi m σ H=>m=xs.length-i/\i<=xs.length/\Pv i σ H,⟨xs.length,by simp,y13 _,C⟩,?_⟩;rintro i m σ H ⟨rfl,hi,p⟩;let q:=Y i σ H hi p;by_cases o:i<xs.length
 .refine .inr ⟨⟨xs,xs[i],q,by simp[o]⟩,Pv<|i+1,λσ' H' j=>⟨xs.length-(i+1),by omega,R,o,j⟩,λx H' y=>?_⟩;let(e,y):=y;subst e;show hs i x σ _ (y xs q) p
 .let e:i=xs.length:=by omega
  subst e;show .inl ⟨⟨xs,q,y05 _⟩,hd σ H p⟩
theorem for_tup{K:Frag}{a:Ad}{xs:List V}{g:TG}{I:TS}{D:Ends}{σ:St}{H:Hp}(Pv:Nat->St->Hp->Prop)(C:Pv 0 σ H)(Y:∀i σ H,i<=xs.length->Pv i σ H->SqT K H a xs)
  (hs:∀i x σ H,xs[i]?=G x->Pv i σ H->g x σ H λd H2=>I {D with nx:=Pv<|i+1,ct:=Pv<|i+1,bk:=D.nx} d H2) (hd:∀σ H,Pv xs.length σ H->D.nx σ H) :
  ∃W:Nat->Nat->St->Hp->Prop,(∃m,W 0 m σ H)/\∀i m σ H,W i m σ H->
   ((Itt K a).stop i H/\D.nx σ H)\/((Itt K a).go i H/\∃Nq:St->Hp->Prop,073/\∀x H',(Itt K a).yld i H x H'->g x σ H' λd H2=>I {D with nx:=Nq,ct:=Nq,bk:=D.nx} d H2):=by
 apply⟨λi m σ H=>m=xs.length-i/\i<=xs.length/\Pv i σ H,⟨xs.length,by simp,y13 _,C⟩,?_⟩;rintro i m σ H ⟨rfl,hi,p⟩;let q:=Y i σ H hi p;by_cases o:i<xs.length
 .refine .inr ⟨⟨xs,xs[i],q,by simp[o]⟩,Pv<|i+1,λσ' H' j=>⟨xs.length-(i+1),by omega,R,o,j⟩,λx H' y=>?_⟩;let(e,y):=y;subst e;show hs i x σ _ (y xs q) p
 .let e:i=xs.length:=by omega
  subst e;show .inl ⟨⟨xs,q,y05 _⟩,hd σ H p⟩
theorem ztk{lo:Int}{n:Nat}{g:TG}{I:TS}{D:Ends}{σ:St}{H:Hp}(Pv:Nat->St->Hp->Prop)(C:Pv 0 σ H)
  (hs:∀i σ H,i<n->Pv i σ H->g (.int<|lo+i) σ H λd H2=>I {D with nx:=Pv<|i+1,ct:=Pv<|i+1,bk:=D.nx} d H2) (hd:∀σ H,Pv n σ H->D.nx σ H) :
  ∃W:Nat->Nat->St->Hp->Prop,(∃m,W 0 m σ H)/\∀i m σ H,W i m σ H->
   ((Itr lo n).stop i H/\D.nx σ H)\/((Itr lo n).go i H/\∃Nq:St->Hp->Prop,073/\∀x H',(Itr lo n).yld i H x H'->g x σ H' λd H2=>I {D with nx:=Nq,ct:=Nq,bk:=D.nx} d H2):=by
 apply⟨λi m σ H=>m=n-i/\i<=n/\Pv i σ H,⟨n,by simp,y13 _,C⟩,?_⟩;rintro i m σ H ⟨rfl,hi,p⟩;by_cases o:i<n
 .refine .inr ⟨o,Pv<|i+1,λσ' H' j=>⟨n-(i+1),by omega,R,o,j⟩,λx H' y=>?_⟩;let(e,y):=y;subst e y;show hs i σ _ o p
 .let e:i=n:=by omega
  subst e;show .inl ⟨y05 _,hd σ H p⟩
abbrev R2:=V->V->Hp->VK->Prop
def OpR(X:Cx)(f:Va->Va->Sem Va)(r:R2):Prop :=
 ∀(pins:Y2) (s:ig) (σ:St) (H:Hp) (x y:V) (v u:Va) (Q:VK),02 H s->RelV x v->RelV y u->r x y H Q->
  wpAny 36 X.A (f v u) 037 X.xe s
def UnR(X:Cx)(f:Va->Sem Va)(r:V->Hp->VK->Prop):Prop :=
 ∀(pins:Y2) (s:ig) (σ:St) (H:Hp) (x:V) (v:Va) (Q:VK),02 H s->RelV x v->r x H Q->
  wpAny 36 X.A (f v) 037 X.xe s
def CallR(X:Cx)(f:Va)(r:List V->Hp->VK->Prop):Prop :=
 ∀(pins:Y2) (s:ig) (σ:St) (H:Hp) (xs:List V) (us:List Va) (Q:VK),02 H s->Vals xs us->r xs H Q->
  wpAny 36 X.A (call f us) 037 X.xe s
def TruR(X:Cx)(r:V->Hp->(Bool->Hp->Prop)->Prop):Prop :=
 ∀(pins:Y2) (s:ig) (σ:St) (H:Hp) (x:V) (v:Va) (Q:Bool->Hp->Prop),02 H s->RelV x v->r x H Q->
  wpAny 36 X.A (truthy v) (TP X pins σ Q) X.xe s
def tOp(r:R2)(a I:TE):TE:=λσ H Q=>a σ H λx H1=>I σ H1 λy H2=>r x y H2 Q
def tUn(r:V->Hp->VK->Prop)(y:TE):TE:=λσ H Q=>y σ H λx H1=>r x H1 Q
def rI(C:Int->Int->Prop)(g:Int->Int->V):R2:=λx y H Q=>asI x λi=>asI y λj=>C i j/\Q (g i j) H
def rI0(g:Int->Int->V):R2:=λx y H Q=>asI x λi=>asI y λj=>Q (g i j) H
def rU(g:Int->V):V->Hp->VK->Prop:=λx H Q=>asI x λi=>Q (g i) H
section
variable {X:Cx}{a b c:Expr}{ta tb tc:TE}{pos:Pos}
theorem binT(ha:PE X a ta)(U:PE X b tb){pins:Y2}{s:ig}{σ:St}{H:Hp}{Rq:V->V->Hp->Prop}(I:02 H s)
  (h:ta σ H λx H1=>tb σ H1 λy H2=>Rq x y H2) {Q:Y0} {f:Va->Va->Sem Va}
  (T:∀v u s2 x y H2,02 H2 s2->RelV x v->RelV y u->Rq x y H2->wpAny 36 X.A (f v u) Q X.xe s2) :
  wpAny 36 X.A (eval a X.env) (λv s₁=>wpAny 36 X.A (eval b X.env) (λu s₂=>wpAny 36 X.A (f v u) Q X.xe s₂) X.xe s₁) X.xe s:=by
 apply thn 048 λv s1 zz=>ex5 zz λx H1 I1 r1 A=>?_;apply thn (U pins s1 σ H1 _ I1 A) λu s2 zz=>ex5 zz λy H2 l E w=>?_;show T v u s2 x y H2 l r1 E w
theorem zat(D:OpR X (iQ o) r)(d:PE X a ta)(U:PE X b tb):PE X (.BinOp a o b pos) (tOp r ta tb):=by
 intro pins s σ H Q I h;show wpAny_BinOp<|binT d U I h λv u s2 x y H2 l T f q=>D pins s2 σ H2 x y v u Q l T f q
theorem zis(D:UnR X (unaryOp o) r)(ha:PE X a ta):PE X (.UnaryOp o a pos) (tUn r ta):=by
 intro pins s σ H Q I h;show UnaryOp_<|thn 048 λv s1 zz=>ex5 zz λx H1 I1 r1 A=>D pins s1 σ H1 x v Q I1 r1 A
theorem opI{f:Va->Va->Sem Va}{C:Int->Int->Prop}{g:Int->Int->Int}
  (rule:∀(i j:Int) (t u:Tok) (s:ig) (Q:Y0) (E:Y0),C i j->Q (.int (g i j) s.toks) {s with toks:=s.toks+1}->wpAny (model X.prog X.w) X.A (f (.int i t)<|.int j u) Q E s) :
  OpR X f (rI C λi j=>.int<|g i j):=by
 intro pins s σ H x y v u Q I T d h;let(i,rfl,h'):=zdx h;let(j,rfl,z,q):=zdx h';let(t,rfl):=T;let(t',rfl):=d;show rule i j t t' s _ _ z ⟨.int<|g i j,H,I.tok _,⟨_,R⟩,q⟩
theorem opI0{f:Va->Va->Sem Va}{g:Int->Int->Int}
  (rule:∀(i j:Int) (t u:Tok) (s:ig) (Q:Y0) (E:Y0),Q (.int (g i j) s.toks) {s with toks:=s.toks+1}->wpAny (model X.prog X.w) X.A (f (.int i t)<|.int j u) Q E s) :
  OpR X f (rI0 λi j=>.int<|g i j):=by
 intro pins s σ H x y v u Q I T d h;let(i,rfl,h'):=zdx h;let(j,rfl,q):=zdx h';let(t,rfl):=T;let(t',rfl):=d;show rule i j t t' s _ _ ⟨.int<|g i j,H,I.tok _,⟨_,R⟩,q⟩
theorem opB0{f:Va->Va->Sem Va}{g:Int->Int->Bool}
  (rule:∀(i j:Int) (t u:Tok) (s:ig) (Q:Y0) (E:Y0),Q (.bool<|g i j) s->wpAny 36 X.A (f (.int i t)<|.int j u) Q E s) :
  OpR X f (rI0 λi j=>.bl<|g i j):=by
 intro pins s σ H x y v u Q I T d h;let(i,rfl,h'):=zdx h;let(j,rfl,q):=zdx h';let(t,rfl):=T;let(t',rfl):=d;show rule i j t t' s _ _ ⟨.bl<|g i j,H,I,R,q⟩
def CDiv(i j:Int):Prop:=0<j/\j<1073741824
def CPow(i j:Int):Prop:=0<=j/\j<=1000000/\i.natAbs<2^64
def CMul(i j:Int):Prop:=(-(2^64)<i/\i<2^64)\/(-(2^64)<j/\j<2^64)
theorem CMul.ok(h:CMul i j):IntMulOk i j:=by
 rcases h with⟨O,M⟩|⟨O,M⟩
 .exact .of_left<|intBits_le_64 O M
 .exact .of_right<|intBits_le_64 O M
theorem zo9(k:Nat):(0:Int)<=2^k:=by
 rw[two_pow_cast];show Int.natCast_nonneg _
theorem zca:OpR X (iQ .Add) (rI0 λi j=>.int<|i+j):=opI0 λ_ _ _ _ _ _ _ q=>add_int q
theorem zcj:OpR X (iQ .Sub) (rI0 λi j=>.int<|i-j):=opI0 λ_ _ _ _ _ _ _ q=>sub_int q
theorem zgh:OpR X (iQ .Mult) (rI CMul λi j=>.int<|i*j):=opI λ_ _ _ _ _ _ _ C q=>mul_int q C.ok
theorem zd5:OpR X (iQ .FloorDiv) (rI CDiv λi j=>.int<|i/j):=opI λi j _ _ _ _ _ C q=>by
 let O:(0:Int)<j:=C.1;let M:j<1073741824:=C.2;show floordiv_int 01 (by rw[y3y i 01];show q)<|.inl (PyProof.noPylong_small 01)
theorem zbt:OpR X (iQ .Mod) (rI (λ_ j=>0<j) λi j=>.int<|i%j):=opI λi j _ _ _ _ _ C q=>by
 let O:(0:Int)<j:=C;show mod_int' 01 (by rw[Int.fmod_eq_emod_of_nonneg i 01];show q)
theorem zr9:OpR X (iQ .Pow) (rI CPow λi j=>.int<|i^j.toNat):=opI λ_ _ _ _ _ _ _ C q=>pow_int_small C.1 C.2.1 C.2.2 q
theorem zed:OpR X (iQ .LShift) (rI CPow λi j=>.int<|i*2^j.toNat):=opI λ_ _ _ _ _ _ _ C q=>lshift_int_small C.1 C.2.1 C.2.2 q
theorem zx4:OpR X (iQ .RShift) (rI (λ_ j=>0<=j) λi j=>.int<|i/2^j.toNat):=opI λi j _ _ _ _ _ C q =>
 rshift_int C (by rw[y3y i<|zo9 _];show q)
theorem op_and:OpR X (iQ .BitAnd) (rI0 λi j=>.int<|Builtin.bitAnd i j):=opI0 λ_ _ _ _ _ _ _ q=>and_int q
theorem unI{f:Va->Sem Va}{g:Int->Int}
  (rule:∀(i:Int) (t:Tok) (s:ig) (Q:Y0) (E:Y0),Q (.int (g i) s.toks) {s with toks:=s.toks+1}->wpAny (model X.prog X.w) X.A (f<|.int i t) Q E s) :
  UnR X f (rU λi=>.int<|g i):=by
 intro pins s σ H x v Q I T h;let(i,rfl,q):=zdx h;let(t,rfl):=T;show rule i t s _ _ ⟨.int<|g i,H,I.tok _,⟨_,R⟩,q⟩
theorem zd9:UnR X (unaryOp .USub) (rU λi=>.int<|-i):=unI λ_ _ _ _ _ q=>neg_int q
end
noncomputable def scal:V->V->Bool
 |.non,.non=>N|.non,.int _=>N|.int _,.non=>N|.non,.bl _=>N|.bl _,.non=>N|.non,.str _=>N|.str _,.non=>N
 |.int _,.int _=>N|.bl _,.bl _=>N|.str _,.str _=>N|.byt _,.byt _=>N
 |.int _,.str _=>N|.str _,.int _=>N|.bl _,.str _=>N|.str _,.bl _=>N
 |_,_=>Fa
def rEq:R2:=λx y H Q=>scal x y=N/\Q (.bl<|decide (x=y)) H
def rNe:R2:=λx y H Q=>scal x y=N/\Q (.bl<|!decide (x=y)) H
theorem zt6:decide (V.int i=V.int j)=(i==j):=by
 rw[y1t];simp
theorem zyi:decide (V.bl i=V.bl j)=(i==j):=by
 rw[y1t];simp
theorem zt2:decide (V.str i=V.str j)=(i==j):=by
 rw[y1t];simp
theorem zt7:decide (V.byt i=V.byt j)=(i.toList==j.toList):=by
 rw[y1t];cases i;cases j;simp
section
variable {X:Cx}{a b c:Expr}{ta tb tc:TE}{pos:Pos}
theorem za7{pins:Y2}{σ:St}{H:Hp}{s:ig}{Q:VK}{k k':Bool}(I:02 H s)(q:Q (.bl k) H)(e:k=k'):EP X pins σ Q (.bool k') s:=by
 subst e;show⟨.bl k,H,I,R,q⟩
theorem op_eq:OpR X (i4 .Eq) rEq:=by
 intro pins s σ H x y v u Q I T d h;let(hs,q):=h;cases x with
 |non =>
  cases T;cases y with
  |non=>cases d;show PySem.EqNone.eq_none_none 022
  |bl j=>cases d;show PySem.EqNone.eq_none_bool 022
  |int j=>let(t',rfl):=d;show PySem.EqNone.eq_none_int 022
  |str j=>let(t',rfl):=d;show PySem.EqNone.eq_none_str 022
  |_=>show Xa (show Fa=N from hs) y0i
 |bl i =>
  cases T;cases y with
  |non=>cases d;show PySem.EqNone.eq_bool_none 022
  |bl j=>cases d;show eq_bool<|za7 I q zyi
  |str j=>let(t',rfl):=d;show PySem.EqMixed.eq_bool_str 022
  |_=>show Xa (show Fa=N from hs) y0i
 |int i =>
  let(t,rfl):=T;cases y with
  |non=>cases d;show PySem.EqNone.eq_int_none 022
  |int j=>let(t',rfl):=d;show eq_int<|za7 I q zt6
  |str j=>let(t',rfl):=d;show PySem.EqMixed.eq_int_str 022
  |_=>show Xa (show Fa=N from hs) y0i
 |str i =>
  let(t,rfl):=T;cases y with
  |non=>cases d;show PySem.EqNone.eq_str_none 022
  |bl j=>cases d;show PySem.EqMixed.eq_str_bool 022
  |int j=>let(t',rfl):=d;show PySem.EqMixed.eq_str_int 022
  |str j=>let(t',rfl):=d;show eq_str<|za7 I q zt2
  |_=>show Xa (show Fa=N from hs) y0i
 |byt i =>
  let(t,rfl):=T;cases y with
  |byt j=>let(t',rfl):=d;show PySem.W.eq_bytes<|za7 I q zt7
  |_=>show Xa (show Fa=N from hs) y0i
 |_=>cases y<;>show Xa (show Fa=N from hs) y0i
theorem op_ne:OpR X (i4 .NotEq) rNe:=by
 intro pins s σ H x y v u Q I T d h;let(hs,q):=h;cases x with
 |non =>
  cases T;cases y with
  |non=>cases d;show PySem.EqNone.ne_none_none 022
  |bl j=>cases d;show PySem.EqNone.ne_none_bool 022
  |int j=>let(t',rfl):=d;show PySem.EqNone.ne_none_int 022
  |str j=>let(t',rfl):=d;show PySem.EqNone.ne_none_str 022
  |_=>show Xa (show Fa=N from hs) y0i
 |bl i =>
  cases T;cases y with
  |non=>cases d;show PySem.EqNone.ne_bool_none 022
  |bl j=>cases d;show ne_bool<|za7 I q (congrArg not zyi)
  |str j=>let(t',rfl):=d;show PySem.EqMixed.ne_bool_str 022
  |_=>show Xa (show Fa=N from hs) y0i
 |int i =>
  let(t,rfl):=T;cases y with
  |non=>cases d;show PySem.EqNone.ne_int_none 022
  |int j=>let(t',rfl):=d;show ne_int<|za7 I q (congrArg not zt6)
  |str j=>let(t',rfl):=d;show PySem.EqMixed.ne_int_str 022
  |_=>show Xa (show Fa=N from hs) y0i
 |str i =>
  let(t,rfl):=T;cases y with
  |non=>cases d;show PySem.EqNone.ne_str_none 022
  |bl j=>cases d;show PySem.EqMixed.ne_str_bool 022
  |int j=>let(t',rfl):=d;show PySem.EqMixed.ne_str_int 022
  |str j=>let(t',rfl):=d;show ne_str<|za7 I q (congrArg not zt2)
  |_=>show Xa (show Fa=N from hs) y0i
 |byt i =>
  let(t,rfl):=T;cases y with
  |byt j=>let(t',rfl):=d;show PySem.W.ne_bytes<|za7 I q (congrArg not zt7)
  |_=>show Xa (show Fa=N from hs) y0i
 |_=>cases y<;>show Xa (show Fa=N from hs) y0i
theorem zkn:OpR X (i4 .Lt) (rI0 λi j=>.bl<|decide (i<j)):=opB0 λ_ _ _ _ _ _ _ q=>lt_int q
theorem zsc:OpR X (i4 .LtE) (rI0 λi j=>.bl<|decide (i<=j)):=opB0 λ_ _ _ _ _ _ _ q=>le_int q
theorem zpt:OpR X (i4 .Gt) (rI0 λi j=>.bl<|decide (j<i)):=opB0 λ_ _ _ _ _ _ _ q=>gt_int q
theorem op_ge:OpR X (i4 .GtE) (rI0 λi j=>.bl<|decide (j<=i)):=opB0 λ_ _ _ _ _ _ _ q=>ge_int q
theorem zko:OpR X (i4 .In) (λx y H Q=>∃i j,x=.str i/\y=.str j/\Q (.bl<|!(Builtin.Str.occurrences j i 0 j.length 1).isEmpty) H):=by
 intro pins s σ H x y v u Q I T d h;let(i,j,rfl,rfl,q):=h;let(t,rfl):=T;let(t',rfl):=d;show in_str<|za7 I q R
theorem nomark(b:Expr)(h:o ≠ .In:=by decide)(M:o ≠ .NotIn:=by decide):jM o b=Fa:=by
 let L:(o==CmpOp.In)=Fa:=by cases o<;>first|rfl|show Xa R h
 let g:(o==CmpOp.NotIn)=Fa:=by cases o<;>first|rfl|show Xa R M
 cases b<;>simp[jM,L,g]
theorem zb9(D:OpR X (i4 o) r)(d:PE X a ta)(U:PE X b tb)(Y:jM o b=Fa):PE X (.Compare a [o] [b] pos) (tOp r ta tb):=by
 intro pins s σ H Q I h;show wpAny_Compare1 (binT d U I h λv u s2 x y H2 l T f q=>D pins s2 σ H2 x y v u Q l T f q) Y
def tTest(t:TE):TT:=λσ H Q=>t σ H λx H'=>asB x λk=>Q k H'
theorem zaq(D:OpR X (i4 o) r)(ha:PE X a ta)(U:PE X b tb)(Y:jM o b=Fa):PT X (.Compare a [o] [b] pos) (tTest<|tOp r ta tb):=by
 intro pins s σ H Q I h;apply wpAny_isTrue_Compare1 (thn 048 λv s1 zz=>ex5 zz λx H1 I1 r1 A=>thn (U pins s1 σ H1 _ I1 A) λu s2 zz=>ex5 zz λy H2 l E w =>
  thn (D pins s2 σ H2 x y v u _ l r1 E w) λc J zz=>ex5 zz λz H3 p O i=>?_) Y
 let(k,e,i):=zlm i;subst e;cases O;show iC ⟨H3,p,i⟩
def tChain(r r':R2)(ta tb tc:TE):TE:=λσ H Q=>ta σ H λx H1=>tb σ H1 λy H2=>r x y H2 λz H3=>asB z λk =>
 (if k=N then tc σ H3 λw' H4=>r' y w' H4 Q else Q (.bl Fa) H3)
theorem zn7(D:OpR X (i4 o) r)(T:OpR X (i4 M) r')(ha:PE X a ta)(U:PE X b tb)(C:PE X c tc)
  (Y:lastMarks [o,M] [b,c]=Fa:=by with_unfolding_all rfl):PE X (.Compare a [o,M] [b,c] pos) (tChain r r' ta tb tc):=by
 intro pins s σ H Q I h;apply Compare_chain (thn 048 λv s1 zz=>ex5 zz λx H1 I1 r1 A=>chain_link (thn (U pins s1 σ H1 _ I1 A) λu s2 zz=>ex5 zz λy H2 l E w =>
  thn (D pins s2 σ H2 x y v u _ l r1 E w) λd J zz=>ex5 zz λz H3 p O i=>?_)) Y
 let(k,e,i):=zlm i;subst e;cases O;apply iC ?_;cases k with
 |false=>show ite_ff ⟨.bl Fa,H3,p,R,i⟩
 |true=>show ite_tt<|chain_last (thn (C pins J σ H3 _ p i) λw' j zz=>ex5 zz λf H4 L q g=>T pins j σ H4 y f u w' Q L E q g)
theorem zvu(D:OpR X (i4 o) r)(ho':OpR X (i4 M) r')(ha:PE X a ta)(U:PE X b tb)(C:PE X c tc)
  (Y:lastMarks [o,M] [b,c]=Fa:=by with_unfolding_all rfl):PT X (.Compare a [o,M] [b,c] pos) (tTest<|tChain r r' ta tb tc):=by
 intro pins s σ H Q I h;apply isTrue_chain (thn 048 λv s1 zz=>ex5 zz λx H1 I1 r1 A=>test_link (thn (U pins s1 σ H1 _ I1 A) λu s2 zz=>ex5 zz λy H2 l E w =>
  thn (D pins s2 σ H2 x y v u _ l r1 E w) λd J zz=>ex5 zz λz H3 p O i=>?_)) Y
 let(k,e,i):=zlm i;subst e;cases O;apply iC ?_;cases k with
 |false =>
  show ite_ff ⟨H3,p,i⟩
 |true =>
  apply ite_tt<|test_last (thn (C pins J σ H3 _ p i) λw' j zz=>ex5 zz λf H4 L q q4=>thn (ho' pins j σ H4 y f u w' _ L E q q4) λd' s5 zz=>ex5 zz λz2 H5 I5 T q5=>?_);let(k2,g,q5):=zlm q5;subst g;cases T;show iC ⟨H5,I5,q5⟩
def TruV(K:Frag)(x:V)(H:Hp)(k:Bool):Prop :=
 match x with
 |.non=>k=Fa
 |.bl b=>k=b
 |.int i=>k=(i !=0)
 |.str y=>y.length<=ii/\k=((y.length:Int) !=0)
 |.byt y=>y.size<=ii/\k=((y.size:Int) !=0)
 |.ref p=>(∃xs,SqL K H p xs/\k=!xs.isEmpty)\/(∃xs,SqT K H p xs/\k=!xs.isEmpty)\/∃kvs,H p=G (.dK kvs)/\k=!kvs.isEmpty
 |_=>False
theorem zqc{d:Type}{kvs:List (d×V)}{vs:List (d×Va)}(r:KV kvs vs):(!vs.isEmpty)=!kvs.isEmpty:=by
 cases r<;>rfl
theorem zh4(r:Vals xs its):(!its.toArray.isEmpty)=!xs.isEmpty:=by
 cases r<;>simp
theorem line63:(ii:Nat)<2^63:=by rw[j6];decide
theorem tru_ok:TruR X (λx H Q=>∃k,TruV X.K x H k/\Q k H):=by
 intro pins s σ H x v Q I T h;let(k,e,q):=h;let Y:=line63;let hs:ii=16777216:=j6;cases x with
 |non =>
  cases T;let l:k=Fa:=e;subst l;show truthy_none ⟨H,I,q⟩
 |bl b =>
  cases T;let l:k=b:=e;subst l;show iC ⟨H,I,q⟩
 |int i =>
  let(t,rfl):=T;let l:k=(i !=0):=e;subst l;show PySem.P.truthy_int ⟨H,I,q⟩
 |str y =>
  let(t,rfl):=T;obtain⟨C,l⟩:y.length<=ii/\k=((y.length:Int) !=0):=e;subst l;show PySem.P.truthy_str 01 ⟨H,I.tok _,q⟩
 |byt y =>
  let(t,rfl):=T;obtain⟨C,l⟩:y.size<=ii/\k=((y.size:Int) !=0):=e;subst l;show PySem.W.truthy_bytes 01 ⟨H,I.tok _,q⟩
 |ref p =>
  cases T;let l:(∃xs,SqL X.K H p xs/\k=!xs.isEmpty)\/(∃xs,SqT X.K H p xs/\k=!xs.isEmpty)\/∃kvs,H p=G (.dK kvs)/\k=!kvs.isEmpty:=e;rcases l with⟨xs,J,l⟩|⟨xs,J,l⟩|⟨kvs,J,l⟩
  .subst l;let(its,r,A,hz):=I.list J;let M:=r.length;show wpAny_truthy_list A.isList (by simp only[y09];omega) ⟨H,I.tok _,by rw[zh4 r];show q⟩
  .subst l;let(its,r,A,hz):=I.tuple J;let M:=r.length;show truthy_tuple A (by simp only[y09];omega) ⟨H,I.tok _,by rw[zh4 r];show q⟩
  .subst l;obtain⟨hz,O,vs,r,m⟩:kvs.length<=ii/\(p==iM)=Fa/\∃vs,KV kvs vs/\s.heap.DictOf (mixKind X.prog X.w) p vs:=I.hok p _ J;let M:kvs.length=vs.length:=Paired.length r;show wpAny_truthy_dict O m 01 ⟨H,I.tok _,by rw[zqc r];show q⟩
 |_=>show(show False from e).elim
theorem zn2(ha:PE X a ta)(f:∀g,isTrue a X.env g=(do let v ←g;standAt a.pos;holding [v] (truthy v))):
  PT X a (λσ H Q=>ta σ H λx H'=>∃k,TruV X.K x H' k/\Q k H'):=by
 intro pins s σ H Q I h;show isTrue_plain (thn 048 λv s1 zz=>ex5 zz λx H1 I1 r1 A=>tru_ok pins s1 σ H1 x v Q I1 r1 A)<|f _
theorem vals1(r:Vals [x] us):∃u,us=[u]/\RelV x u:=by
 cases r with
 |cons r1 E=>cases E;show⟨_,R,r1⟩
theorem vals2(r:Vals [x,y] us):∃u w',us=[u,w']/\RelV x u/\RelV y w':=by
 cases r with
 |cons r1 E =>
  cases E with
  |cons O q=>cases q;show⟨_,_,R,r1,O⟩
theorem zus(hc:X.calm=N):CallR X (.builtin "max") (λxs H Q=>∃i j,xs=[.int i,.int j]/\Q (.int<|if j>i then j else i) H):=by
 intro pins s σ H xs us Q I r h;let(i,j,rfl,q):=h;let(u,w',rfl,(t,rfl),(t',rfl)):=vals2 r;apply max_two_ints 024 λh' E k=>⟨_,H,I.kept k,?_,q⟩;by_cases U:j>i
 .rw[Xq U,Xq U];show⟨_,R⟩
 .rw[Xp U,Xp U];show⟨_,R⟩
theorem zlf:CallR X (.type "int") (λxs H Q=>(∃i,xs=[.int i]/\Q (.int i) H)\/∃k,xs=[.bl k]/\Q (.int<|if k then 1 else 0) H):=by
 intro pins s σ H xs us Q I r h;rcases h with⟨i,rfl,q⟩|⟨k,rfl,q⟩
 .let(u,rfl,t,rfl):=vals1 r;show call_int_int ⟨.int i,H,I,⟨_,R⟩,q⟩
 .let(u,rfl,r1):=vals1 r;cases r1;show call_int_bool ⟨.int<|if k then 1 else 0,H,I.tok _,⟨_,R⟩,q⟩
end
structure ObjM(h:Heap)(x dx C:Ad)(mA:Y1):Prop where
 obj:h.get? x=G (PySem.W.instObj C dx)
 ns:h.Ns1 dx mA
 ne:dx≠x
theorem zs4{h:Heap}(n:h.Ns1 dx L):∃M,h.get? dx=G M/\∀name,PySem.W.lookIn name M=G (L name):=by
 let(o,l,ep,D,hd,j,_,Y):=n;apply⟨o,D,λname=>?_⟩;let e:=Y name;unfold nsFind lu at e;rw[←Array.find?_toList]at e;unfold PySem.W.lookIn;rw[hd];dsimp only;split
 .rename_i y q;rw[q]at e;show congrArg G e
 .rename_i q;rw[q]at e;let a:l.toList.any (·.refKey)=Fa:=by
   rw[List.any_eq_false];intro y C;let(z,t,c):=j y<|Array.mem_toList_iff.mp C;simp[DictEntry.refKey,c]
  let I:¬l.toList.any (·.refKey)=N:=by rw[a];show y0i
  rw[Xp I];show congrArg G e
theorem ObjM.look(I:ObjM h x dx C L):∃M,PySem.W.InstAt h x (PySem.W.instObj C dx) C (G M)/\∀name,PySem.W.lookIn name M=G (L name) :=
 let⟨M,D,Y⟩:=zs4 I.ns
 ⟨M,⟨I.obj,R,R,D⟩,Y⟩
theorem RelO.some_of(r:RelO (G v) o):∃u,o=G u/\RelV v u:=by
 cases o with
 |none=>show(show False from r).elim
 |some u=>show⟨u,R,r⟩
section
variable {P:ik}{w:World}{H H':Hp}{h h':Heap}{a C dx:Ad}{fs fs':List (Str×V)}
theorem ins_get(hok:HOk P w H h)(e:H a=G (.ins C dx fs)):∃L,ObjM h a dx C L/\(∀f,RelO (fs.lookup f)<|L f)/\PySem.Within L (fs.map (·.1))/\fs.length<=1000/\H dx=G (.own a):=by
 let(d,z,ne,ob,L,n,r,q):=(show ObjOk P w H h a (.ins C dx fs)from hok a _ e);show⟨L,⟨ob,n,ne⟩,r,q,z,d⟩
end
structure Cls(K:Frag)(C:Ad):Prop where
 pg:PySem.W.plainGet K C Str.empty=N
 hd:PySem.W.hasDictIn K C=N
 po:PySem.W.plainOver K C=N
 sa:PySem.W.findIn K (.ref C) "__setattr__"=G (G<|.builtin "object.__setattr__")
theorem Cls.get{K:Frag}{C:Ad}(c:Cls K C)(f:Str):PySem.W.plainGet K C f=N:=c.pg
section
variable {X:Cx}{pins:Y2}{σ:St}{H:Hp}{s:ig}{A:io}{E:Y0}{Q:Y0}{c:Va}{b:Bool}
inductive TyOf(K:Frag)(H:Hp):V->Va->Prop where
 |non:TyOf K H .non<|.type "NoneType"
 |bl (x:Bool):TyOf K H (.bl x)<|.type "bool"
 |int (i:Int):TyOf K H (.int i)<|.type "int"
 |str (x:Str):TyOf K H (.str x)<|.type "str"
 |flt (x:UInt64):TyOf K H (.flt x)<|.type "float"
 |lst {a:Ad} {xs:List V} (e:H a=G (.lst xs)):TyOf K H (.ref a)<|.type "list"
 |frz {a:Ad} {o:Obj} {xs:List V} (e:H a=G (.frz o<|.lst xs)):TyOf K H (.ref a)<|.type "list"
 |tup {a:Ad} {xs:List V} (e:H a=G (.tup xs)):TyOf K H (.ref a)<|.type "tuple"
 |dK {a:Ad} {kvs:List (Key×V)} (e:H a=G (.dK kvs)):TyOf K H (.ref a)<|.type "dict"
 |dT {a:Ad} {kvs:List (List Key×V)} (e:H a=G (.dT kvs)):TyOf K H (.ref a)<|.type "dict"
 |ins {a C dx:Ad} {fs:List (Str×V)} (e:H a=G (.ins C dx fs)) (cl:Cls K C) (ha:PySem.W.findIn K (.ref C) "__class__"=G (G<|.builtin "object.__class__"))
   (hn:PySem.W.specialIn K (.builtin "object.__class__") "__get__"=G (G<|.builtin "getset_descriptor.__get__")) (htk:PySem.W.takesIn K (.builtin "object.__class__")=G N)
   (hm:PySem.W.mroIn K C (.type "object")=G N):TyOf K H 04<|.ref C
theorem zte(I:02 H s)(T:RelV x u)(ty:TyOf X.K H x t)(e:PySem.W.kitOne X.K t c=G b)(h:∀r,Q (.bool b) {s with toks:=r}):
  wpAny 36 A (call (.builtin "isinstance") [u,c]) Q E s:=by
 cases ty with
 |non=>cases(show u=Va.none from T);show PySem.W.kia_one PySem.W.kitx_none I.kIn True.intro e (λz=>nomatch z) h
 |bl y=>cases(show u=Va.bool y from T);show PySem.W.kia_one PySem.W.kitx_bool I.kIn True.intro e (λz=>nomatch z) h
 |int i=>let(t,q):=(show∃t,u=Va.int i t from T);cases q;show PySem.W.kia_one PySem.W.kitx_int I.kIn True.intro e (λz=>nomatch z) h
 |str y=>let(t,q):=(show∃t,u=Va.str y t from T);cases q;show PySem.W.kia_one PySem.W.kitx_str I.kIn True.intro e (λz=>nomatch z) h
 |flt y=>let(t,q):=(show∃t,u=Va.float y t from T);cases q;show PySem.W.kia_one PySem.W.kitx_float I.kIn True.intro e (λz=>nomatch z) h
 |@lst a xs j =>
  cases(show u=Va.ref a from T);let(_,_,n,_,g):=(show ObjOk X.prog X.w H s.heap a (016)from I.hok a _ j);show PySem.W.kia_one PySem.W.kitx_list I.kIn ⟨_,g,R⟩ e (λz=>nomatch z) h
 |@frz a ob xs j =>
  cases(show u=Va.ref a from T);let(_,_,_,n,_,g):=(show ObjOk X.prog X.w H s.heap a (.frz ob 016)from I.hok a _ j);show PySem.W.kia_one PySem.W.kitx_list I.kIn ⟨_,g,R⟩ e (λz=>nomatch z) h
 |@tup a xs j =>
  cases(show u=Va.ref a from T);let(_,_,_,p):=(show ObjOk X.prog X.w H s.heap a (015)from I.hok a _ j);let(o,g,M,_):=p;show PySem.W.kia_one PySem.W.kitx_tuple I.kIn ⟨o,g,M⟩ e (λz=>nomatch z) h
 |@dK a kvs j =>
  cases(show u=Va.ref a from T);let(_,_,vs,_,p):=(show ObjOk X.prog X.w H s.heap a (.dK kvs)from I.hok a _ j);let(o,l,ep,g,M,_):=p;show PySem.W.kia_one PySem.W.kitx_dict I.kIn ⟨o,g,M.1⟩ e (λz=>nomatch z) h
 |@dT a kvs j =>
  cases(show u=Va.ref a from T);let(_,_,xs,_,o,l,ep,g,M,_):=(show ObjOk X.prog X.w H s.heap a (.dT kvs)from I.hok a _ j);show PySem.W.kia_one PySem.W.kitx_dict I.kIn ⟨o,g,M.1⟩ e (λz=>nomatch z) h
 |@ins a C dx fs j cl d U f Y =>
  cases(show u=Va.ref a from T);let(L,O,_):=ins_get I.hok j;let(v,J,_):=O.look;show PySem.W.kia_one (PySem.W.kitx_own (cl.get _) cl.hd d U f Y) I.kIn J e (λz=>nomatch z) h
end
structure Room(k:Nat)(A:io):Prop where
 hd:A.handled=B
 dp:A.depth+3*k+5<jX
 un:A.units+16*k+200<cLine
theorem Room.mono(r:Room k A)(h:j<=k):Room j A:=⟨r.hd,by have:=r.dp;omega,by have:=r.un;omega⟩
theorem Room.deeper(r:Room (k+1) A)(env:Env):Room k (A.deeper env) :=
 ⟨r.hd,by have:=r.dp;change A.depth+1+3*k+5<_;omega,by have:=r.un;change A.units+3+16*k+200<_;omega⟩
theorem Room.depth(r:Room k A):A.depth<jX:=by have:=r.dp;omega
theorem Room.units(r:Room k A):A.units+64<cLine:=by have:=r.un;omega
def tNil:TA:=λ_ H Q=>Q [] H
def tCons(y:TE)(r:TA):TA:=λσ H Q=>y σ H λx H1=>r σ H1 λxs H2=>Q (x::xs) H2
section
variable {X:Cx}{e:Expr}{es:List Expr}{te:TE}{t:TA}{pos:Pos}
theorem zaa:PA X [] tNil:=λ_ _ _ _ H Q I h=>Calls.spliced_nil ⟨[],H,I,.nil,h⟩
theorem pa_cons(ha:PE X e te)(D:PA X es t)(hs:im (e::es) X.env=041::im es X.env:=by rfl):PA X (e::es) (tCons te t):=by
 intro pos pins s σ H Q I h;rw[hs];change wpAny _ _ (spliced (041::iT pos (im es X.env))) _ _ s;apply Calls.spliced_cons<|thn 048 λu s1 zz=>ex5 zz λx H1 I1 r1 A=>?_;show thn (D pos pins s1 σ H1 _ I1 A) λus s2 zz=>ex5 zz λxs H2 l E w=>⟨x::xs,H2,l,.cons r1 E,w⟩
def tTup(t:TA):TE:=λσ H Q=>t σ H λxs H1=>xs.length<=ii/\∀p,H1 p=B->Q 22 (upd H1 p 015)
def tLst(t:TA):TE:=λσ H Q=>t σ H λxs H1=>xs.length<=ii/\∀p,H1 p=B->Q 22 (upd H1 p 016)
end
abbrev Sp:=List V->Hp->VK->XK->Prop
abbrev CXT:=List Env->Hp->ig->XK->Va->ig->Prop
structure Env0(P:ik)(w:World)(K:Frag)(mg:Y1)(base:Heap)(A:io)(outer:List Env)(s:ig)(H:Hp):Prop where
 frames:A.frames=G outer
 mod:Mod K mg base
 bs:∀b o,base.get? b=G o->s.heap.get? b=G o/\H b=B
 bsz:base.objs.size<=s.heap.objs.size
 funs:s.heap.FunFrames base outer
 frf:∀b∈frs outer,H b=B
 hok:HOk P w H s.heap
 bare:jA s.gens
def CE(outer:List Env)(P:ik)(w:World)(H:Hp)(s:ig)(Q:VK)(u:Va)(s':ig):Prop :=
 ∃v H',s'.os=s.os/\jA s'.gens/\Un (frs outer) [] H H' s.heap s'.heap/\HOk P w H' s'.heap/\RelV v u/\Q v H'
def CR(CX:CXT)(outer:List Env)(P:ik)(w:World)(H:Hp)(s:ig)(Q:VK)(E:XK)(r:Result)(s':ig):Prop :=
 match r with
 |.ok (.ret u)=>CE outer P w H s Q u s'
 |.ok _=>False
 |.error e=>CX outer H s E e s'
structure FnOk(P:ik)(w:World)(K:Frag)(mg:Y1)(base:Heap)(CX:CXT)(k:Nat)(f:Ad)(fd:i6)(ps:List Str)(sp:Sp):Prop where
 len:∀vs H Q E,sp vs H Q E->vs.length=ps.length
 run:∀(A:io) (outer:List Env) (s:ig) (H:Hp) (args:Args) (us:List Va) (vs:List V) (Q:VK) (E:XK),Room k A->Env0 P w K mg base A outer s H->lh s fd args 026->Vals vs us->sp vs H Q E->
  jc 81 A (.call 52 args) (CR CX outer P w H s Q E) s
theorem FnOk.mono{P:ik}{w:World}{K:Frag}{mg:Y1}{base:Heap}{CX:CXT}{j k:Nat}{f:Ad}{fd:i6}{ps:List Str}{sp:Sp}(F:FnOk P w K mg base CX j f fd ps sp)(h:j<=k):
  FnOk P w K mg base CX k f fd ps sp:=⟨F.len,λA outer s H args us vs Q E D=>F.run A outer s H args us vs Q E<|D.mono h⟩
section
variable {X:Cx}{pins:Y2}{σ:St}{H:Hp}{s s':ig}
theorem Inv.env0(I:02 H s):Env0 X.prog X.w X.K X.mg X.base X.A X.stack s H :=
 ⟨I.ok.frames,I.ok.mod,I.bs,y1a I.ok.bsz I.sz,I.stack,I.stkFree,I.hok,I.bare⟩
theorem Inv.after(I:02 H s)(h:CE X.stack X.prog X.w H s Q u s'):EP X pins σ Q u s':=by
 let(v,H',os,bare,un,hok,r,q):=h;let(M,g,d,t,x):=s';obtain rfl:x=s.os:=os;show⟨v,H',I.call (h':=M) (g':=g) (d':=d) (t':=t) (ch:=[]) un hok bare λb z=>Xa z 05,r,q⟩
end
def tCall(sp:Sp)(a:List V)(E:XK)(t:TA):TE:=λσ H Q=>t σ H λvs H1=>sp (vs++a) H1 Q E
def Binds(K:Frag)(fd:i6)(ps:List Str)(ds:List Va):Prop :=
 ∀(s:ig) (us:List Va),K.In s.heap->(us++ds).length=ps.length->lh s fd 025 (ps.zip<|us++ds)
theorem Binds.all{K:Frag}{fd:i6}{ps:List Str}(h:∀us:List Va,us.length=ps.length->jf fd 025=pure 026):Binds K fd ps []:=λs us _ Y=>by
 rw[y1g]at Y ⊢;show .of_eq<|h us Y
def Passes(CX:CXT)(X:Cx)(E:XK):Prop:=∀(pins:Y2) (σ:St) (H:Hp) (s:ig) (e:Va) (s':ig),02 H s->CX X.stack H s E e s'->X.xe e s'
section
variable {X:Cx}{CX:CXT}{k:Nat}{f C:Ad}{fd:i6}{ps:List Str}{sp:Sp}{dvs:List V}{ds:List Va}{E:XK}{x m:Str}{p pos apos:Pos}{e o:Expr}{es:List Expr}{ta:TE}{t:TA}
theorem zrl{pins:Y2}{σ:St}{H:Hp}{s:ig}{Q:VK}{us:List Va}{vs:List V}(F:FnOk X.prog X.w X.K X.mg X.base CX k f fd ps sp)(D:Room k X.A)(U:Binds X.K fd ps ds)(hd:Vals dvs ds)(J:Passes CX X E)
  (I:02 H s) (r:Vals vs us) (h:sp (vs++dvs) H Q E):wpAny 36 X.A (call 52 us) 037 X.xe s:=by
 let A:Vals (vs++dvs) (us++ds):=r.append hd;let Y:(us++ds).length=ps.length:=by rw[←A.length];show F.len _ _ _ _ h
 apply ji<|iH (F.run X.A X.stack s H 025 (us++ds) (vs++dvs) Q E D I.env0 (U s us I.kIn Y) A h) λr s' O=>?_;cases r with
 |error e=>show J pins σ H s e s' I O
 |ok g =>
  cases g with
  |ret u=>show I.after O
  |next=>show False.elim O
  |brk=>show False.elim O
  |cont=>show False.elim O
theorem zmd(F:FnOk X.prog X.w X.K X.mg X.base CX k f fd ps sp)(D:Room k X.A)(i:Gl X x)(Y:X.mg x=G 52)(j:PySem.W.keepIn X.K 52=N)(U:Binds X.K fd ps ds)(hd:Vals dvs ds)(J:Passes CX X E)
  (ha:PA X (e::es) t) (w:012=Fa:=by decide) (v:im (e::es) X.env=041::im es X.env:=by rfl) (z:(052).any (·.1)=Fa:=by rfl) :
  PE X 029 (tCall sp dvs E t):=by
 intro pins s σ H Q I h;apply iE<|zcv I i Y ?_ w;apply PySem.W.callWith_K (h₀:=X.base) I.ok.mod.kin j (thn 060 λus s1 zz=>ex5 zz λvs H1 I1 r q=>⟨I1.kIn,?_⟩) v z;show zrl F D U hd J I1 r q
end
structure FnScope(Nq P:List Str)(sc:Scope):Prop where
 kind:sc.kind=.function:=by rfl
 co:sc.isCoroutine=Fa:=by rfl
 gen:sc.isGenerator=Fa:=by rfl
 nd:Nq.Nodup:=by decide+kernel
 pre:Nq.take P.length=P:=by rfl
 par:∀x∈P,sc.names.lookup x=G .local\/sc.names.lookup x=G .cell:=by decide+kernel
 nofree:∀y∈sc.names,y.2 ≠ .free:=by decide+kernel
theorem zlk{jy:Str->Option jj}{x:Str}:∀{binds:List (Str×Va)} {m:Y1},(∀v,(x,v)∉binds)->bindL jy binds m x=m x
 |[],_,_=>rfl
 |(n,v)::r,m,h=>by
  unfold bindL;rw[zlk λw L=>h w<|y06 _ L];split
  .let:x≠n:=by rintro rfl;show h v y0a
   simp[this]
  .rfl
theorem zll{jy:Str->Option jj}{x:Str}:∀{binds:List (Str×Va)} {m:Y1},(∀v,(x,v)∉binds)->bindC jy binds m x=m x
 |[],_,_=>rfl
 |(n,v)::r,m,h=>by
  unfold bindC;rw[zll λw L=>h w<|y06 _ L];split
  .rfl
  .let:x≠n:=by rintro rfl;show h v y0a
   simp[this]
theorem zgz{jy:Str->Option jj}{x:Str}{v:Va}:∀{P:List Str} {vs:List Va} {i:Nat} {m:Y1},P.Nodup->P[i]?=G x->vs[i]?=G v->jy x=G .local->
  bindL jy (P.zip vs) m x=G v
 |[],_,_,_,_,h,_,_=>by simp at h
 |_::_,[],_,_,_,_,h,_=>by simp at h
 |p::P,w::vs,0,m,nd,O,M,j=>by
  simp at O M;subst O;subst M;change bindL jy ((p,w)::P.zip vs) m p=_;unfold bindL;rw[zlk λv hv=>(y1k.mp nd).1 (y21 hv).1,Xq j];simp
 |p::P,w::vs,i+1,m,nd,O,M,j=>by
  change bindL jy ((p,w)::P.zip vs) m x=_;unfold bindL;show zgz (i:=i) (y1k.mp nd).2 (by simpa using O) (by simpa using M) j
theorem zg0{jy:Str->Option jj}{x:Str}{v:Va}:∀{P:List Str} {vs:List Va} {i:Nat} {m:Y1},P.Nodup->P[i]?=G x->vs[i]?=G v->jy x≠G .local->
  bindC jy (P.zip vs) m x=G v
 |[],_,_,_,_,h,_,_=>by simp at h
 |_::_,[],_,_,_,_,h,_=>by simp at h
 |p::P,w::vs,0,m,nd,O,M,j=>by
  simp at O M;subst O;subst M;change bindC jy ((p,w)::P.zip vs) m p=_;unfold bindC;rw[zll λv hv=>(y1k.mp nd).1 (y21 hv).1,Xp j];simp
 |p::P,w::vs,i+1,m,nd,O,M,j=>by
  change bindC jy ((p,w)::P.zip vs) m x=_;unfold bindC;show zg0 (i:=i) (y1k.mp nd).2 (by simpa using O) (by simpa using M) j
noncomputable def start(Nq:List Str)(vs:List V):St:=vs.map G++List.replicate (Nq.length-vs.length) B
noncomputable def cxOf(CX:CXT)(P:ik)(w:World)(K:Frag)(mg:Y1)(base:Heap)(Nq:List Str)(qual:Str)(scope:Scope)(f:Ad)(cd:Va)(A:io)(outer:List Env)(s:ig)(H:Hp)(E:XK):Cx where
 prog:=P
 w:=w
 K:=K
 mg:=mg
 base:=base
 A:=A.deeper<|jd qual scope s.heap.objs.size f cd
 Nq:=Nq
 s₀:=s
 H₀:=H
 env:=jd qual scope s.heap.objs.size f cd
 outer:=outer
 stack:=jd qual scope s.heap.objs.size f cd::outer
 ex:=[]
 calm:=N
 fn:=λ_=>N
 pn:=[]
 xe:=λe s'=>wpAny 81 (A.deeper<|jd qual scope s.heap.objs.size f cd) (li (jd qual scope s.heap.objs.size f cd) e) (λ_ d=>CX outer H s E e d) (λl d=>CX outer H s E l d) s'
theorem zdt{a:Scope}(h:a.names.lookup x=G .cell):∃c,(iw n a.names []).lookup x=G c:=by
 let q:=PySem.W.cellsFrom_some a.names n []<|.inl h;show y2l.mp q
theorem zgn{CX:CXT}{P:ik}{w:World}{K:Frag}{mg:Y1}{base:Heap}{Nq ps:List Str}{qual:Str}{scope:Scope}{f:Ad}{cd:Va}{A:io}{outer:List Env}{s s1:ig}{H:Hp}{E:XK}{us:List Va}{vs:List V}
  (S:FnScope Nq ps scope) (hd:A.handled=B) (J:Env0 P w K mg base A outer s H) (Y:vs.length=ps.length) (r:Vals vs us)
  (x:j0 s s.heap.objs.size (bindL (jd qual scope s.heap.objs.size f cd).kindOf 026 λ_=>B) 049 (bindC (jd qual scope s.heap.objs.size f cd).kindOf 026 λ_=>B) s1) :
  Inv (cxOf CX P w K mg base Nq qual scope f cd A outer s H E) [] 036 H s1:=by
 let o:ps.length<=Nq.length:=by have:=congrArg List.length S.pre;rw[y0w]at this;omega
 let(O,I,rfl,j):=x.done;let g:∀b:Ad,b∉(cxOf CX P w K mg base Nq qual scope f cd A outer s H E).ex:=λb z=>Xa (show b∈([]:List Ad)from z) 05;apply⟨⟨J.mod,S.kind,R,R,y05 _,λy z c O M=>?_,λy C=>?_,λy c _ h=>?_,λ_=>hd,Around.frames_deeper J.frames,.inr ⟨R,R⟩,λb z=>Xa z<|g b,J.bs,J.bsz,λb _ _=>g b,λb z=>Xa z<|g b,J.funs,J.frf⟩,
  rfl,J.bare,Un.kept j,⟨_,x.toInCall.ns,λi y v O M D=>?_⟩,λy c h=>⟨_,x.cell y c h⟩,J.hok.fresh 08,λy c h=>?_,λp Q=>Xa (show p∈([]:Y2)from Q) 05,J.hok.kept j,?_⟩
 .exact name_of_addr x.apart (PySem.mem_of_lookup O)<|PySem.mem_of_lookup M
 .let C:scope.names.lookup y=G .cell\/scope.names.lookup y=G .free:=C;rcases C with C|C
  .exact zdt C
  .exact Xa R<|S.nofree _ (PySem.mem_of_lookup C)
 .exact y1o<|x.above y c (PySem.mem_of_lookup h)
 .let hi:i<vs.length:=by
   unfold start at M;by_cases hi:i<vs.length
   .exact hi
   .rw[y11<|by simpa using hi]at M;rw[y36]at M;split at M<;>cases M
  let d:vs[i]?=G v:=by
   unfold start at M;rw[y1c (by simpa using hi),y03]at M;cases e:vs[i]? with
   |none=>rw[e]at M;cases M
   |some a=>rw[e]at M;cases M;rfl
  let(u,U,L):=r.get d;let Q:ps[i]?=G y:=by
   rw[←S.pre,y42 01];show O
  let l:ps.Nodup:=by rw[←S.pre];show S.nd.sublist<|List.take_sublist _ _
  apply⟨u,L,?_⟩;rcases S.par y (y0k Q)with k|k
  .exact .inl ⟨k,zgz l Q U k⟩
  .let(c,e):=zdt (n:=s.heap.objs.size+1) k;apply .inr ⟨.inl k,c,e,?_⟩;let q:=x.cell y c e;rw[zg0 l Q U<|by change scope.names.lookup y≠_;rw[k];decide]at q;show q
 .exact J.hok.fresh<|y1o (x.above y c<|PySem.mem_of_lookup h)
 .unfold start;change _=Nq.length;rw[y0e,y01,y2w];omega
theorem fn_of{CX:CXT}{P:ik}{w:World}{K:Frag}{mg:Y1}{base:Heap}{k:Nat}{f:Ad}{name qual:Str}{params:iN}{body:List Stmt}{scope:Scope}{dV kV doc pm cdv ct oc:Va}{an M:Option Ad}
  {z:Y8} {Nq ps:List Str} {sp:Sp} (lk:K.lookup f=G ⟨oc,M,.func 077,z⟩) (hcd:PySem.W.codeIn K cdv qual=N) (S:FnScope Nq ps scope)
  (len:∀vs H Q E,sp vs H Q E->vs.length=ps.length)
  (i:∀(A:io) (outer:List Env) (s:ig) (H:Hp) (vs:List V) (Q:VK) (E:XK),Room k (A.deeper<|jd qual scope s.heap.objs.size f cdv)->sp vs H Q E->
   ∃t,PSs 067 body t/\t {nx:=λ_ H'=>Q .non H',rt:=Q} 036 H) :
  FnOk P w K mg base CX (k+1) f 077 ps sp:=by
 apply⟨len,λA outer s H args us vs Q E D e0 U r T=>?_⟩;let Y:=len _ _ _ _ T;let KX:K.In s.heap:=e0.mod.kin.keeps λb o e=>(040).1;let c:s.heap.NoLimit:=e0.mod.nolimit.keeps λb o e=>(040).1;let a:∀y∈ps.zip us,scope.names.lookup y.1=G .local\/(scope.names.lookup y.1=G .cell/\((049).lookup y.1).isSome=N):=λ⟨n,v⟩ C=>by
  rcases S.par n (y21 C).1 with q|q
  .exact .inl q
  .exact .inr ⟨q,PySem.W.cellsFrom_some _ _ _<|.inl q⟩
 apply iW D.depth (KX _ _ lk) R S.co S.gen R (PySem.W.codeRec_of KX hcd)<|U _ _ _ _ ?_;apply jk S.kind a λenv j s1 x=>?_;subst j;apply⟨c.keeps x.toInCall.keep,jB ?_⟩;let(t,p,O):=i A outer s H vs Q E (D.deeper _) T;let I:Inv 067 [] 036 H s1:=zgn S D.hd e0 Y r x;apply iq (p [] s1 036 H _ I O) (λg s' hs=>?_) λe s' hs=>hs;let fin:∀{l:St} {H':Hp} {v:V} {u:Va},Inv 067 [] l H' s'->RelV v u->Q v H'->CE outer P w H s Q u s' :=
  λ{l H' v u} J L q=>⟨v,H',J.os,J.bare,J.base,J.hok,L,q⟩
 cases g with
 |ret u =>
  let(v,l,H',J,L,q):=hs;show fin J L q
 |next =>
  let(l,H',J,q):=hs;show fin (v:=V.non) (u:=Va.none) J R q
 |brk =>
  let(_,_,_,q):=hs;show False.elim q
 |cont =>
  let(_,_,_,q):=hs;show False.elim q
section
variable {X:Cx}{x:Str}{p pos:Pos}{e:Expr}{es:List Expr}{t:TA}{id T:String}{r:List V->Hp->VK->Prop}
def tCB(r:List V->Hp->VK->Prop)(t:TA):TE:=λσ H Q=>t σ H λvs H1=>r vs H1 Q
theorem zv8(C:CallR X (.builtin id) r)(j:Gl X x)(Y:X.mg x=B)(hv:ja x=G (.builtin id))(ha:PA X (e::es) t)(U:x≠"__name__":=by decide)(w:012=Fa:=by decide)
  (f:im (e::es) X.env=041::im es X.env:=by rfl) (z:(052).any (·.1)=Fa:=by rfl):PE X 029 (tCB r t):=by
 intro pins s σ H Q I h;apply iE<|zdw I j Y hv ?_ U w;show PyProof.Rows.callWith_builtin1 (thn 060 λus s1 zz=>ex5 zz λvs H1 I1 r1 A=>C pins s1 σ H1 vs us Q I1 r1 A) f z
theorem zr6(C:CallR X (.type T) r)(j:Gl X x)(Y:X.mg x=B)(hv:ja x=G (.type T))(ha:PA X (e::es) t)(U:x≠"__name__":=by decide)(w:012=Fa:=by decide)
  (f:im (e::es) X.env=041::im es X.env:=by rfl) (z:(052).any (·.1)=Fa:=by rfl):PE X 029 (tCB r t):=by
 intro pins s σ H Q I h;apply iE<|zdw I j Y hv ?_ U w;show PyProof.Rows.callWith_type1 (thn 060 λus s1 zz=>ex5 zz λvs H1 I1 r1 A=>C pins s1 σ H1 vs us Q I1 r1 A) f z
end
end L2
namespace HT
open PySem PyProof.Rows
section
open PySem.SeqAt
open PySem.AutoSeq1 (wpAny_loadPart')
open PySem.MeetsSeq PySem.MeetsSeq2 PySem.MeetsSeq3
end
section
variable {prog:ik}{w:World}{A:io}{E:Y0}{s:ig}
theorem cat_tup(p:IsTup s.heap t vs.toArray)(U:IsTup s.heap b j.toArray)(hv:vs≠[])
  (O:j=[]->Q (.ref t) s) (M:j≠[]->Q 018 {s with heap:=s.heap.push {cls:=.type "tuple",data:=.seq (vs++j).toArray} })
  (hsz:vs.length+j.length<=ii):wpAny 88 A (iQ .Add (.ref t) 49) Q E s:=by
 let((cls,dd,data,y),D,C,n,hd):=id p;let((i,c,data2,f),a,g,o,d):=id U;simp only at C hd g d;subst C hd g d;let e:vs.toArray++j.toArray=(vs++j).toArray:=by simp
 by_cases L:j=[]
 .exact concat_meets ⟨_,D,R⟩ ⟨_,a,R⟩ noFill_tuple_add seq_tuple_add PySem.F.slot_tuple_add PySem.F.entry_tuple_add (PySem.F.args_tuple_add_2 _ _)
   (tuple_addW1 t b vs.toArray j.toArray n o dd c y f (by simpa using hv)<|by simp[L]) ⟨D,a,O L⟩
 .refine concat_meets ⟨_,D,R⟩ ⟨_,a,R⟩ noFill_tuple_add seq_tuple_add PySem.F.slot_tuple_add PySem.F.entry_tuple_add (PySem.F.args_tuple_add_2 _ _)
   (tuple_addW2 t b vs.toArray j.toArray n o dd c y f (by simpa using hv) (by simpa using L)<|by rw[y09,y09];show hsz) ⟨D,a,?_⟩
  rw[e];show M L
noncomputable def sIx(n d:Nat):Option Int->Nat
 |none=>d
 |some v=>if v<0 then(v+(n:Int)).toNat else min v.toNat n
theorem sIx_none(n d:Nat):sIx n d B=d:=rfl
theorem sIx_nat(n d k:Nat):sIx n d (G (k:Int))=min k n:=by
 change(if(k:Int)<0 then((k:Int)+(n:Int)).toNat else min (k:Int).toNat n)=min k n;rw[Xp 01,y1d]
theorem sIx_le(n d:Nat)(hd:d<=n)(o:Option Int):sIx n d o<=n:=by
 cases o with
 |none=>show hd
 |some v =>
  change(if v<0 then(v+(n:Int)).toNat else min v.toNat n)<=n;by_cases hv:v<0
  .rw[Xq hv];omega
  .rw[Xp hv];show Nat.min_le_right _ _
theorem clip_eq(v:Int)(n d:Nat):(if v<0 then max (v+(n:Int)) 0 else min v (n:Int))=((sIx n d (G v):Nat):Int):=by
 change(if v<0 then max (v+(n:Int)) 0 else min v (n:Int))=(((if v<0 then(v+(n:Int)).toNat else min v.toNat n):Nat):Int);by_cases hv:v<0
 .simp only[Xq hv];omega
 .simp only[Xp hv];omega
theorem zqv(lo hi:Option Int)(n:Nat):Builtin.Slice.sliceAdjust lo hi 1 (n:Int)=(((sIx n 0 lo:Nat):Int),((sIx n n hi:Nat):Int)):=by
 let O:¬((1:Int)<0):=by omega
 unfold Builtin.Slice.sliceAdjust;simp only[O,if_false];apply Prod.ext ?_ ?_
 .cases lo with
  |none=>rfl
  |some v=>show clip_eq v n 0
 .cases hi with
  |none=>rfl
  |some v=>show clip_eq v n n
theorem zpp(i j:Nat):Builtin.Slice.slicePlaces (i:Int) (j:Int) 1=j-i:=by
 unfold Builtin.Slice.slicePlaces;let O:(1:Int)>0:=by omega
 simp only[O,if_true,Int.ediv_one];split<;>omega
theorem zhp(p:lw v o)(h:Q o s):wpAny 88 A (Builtin.Slice.slicePartIndex v) Q E s:=by
 cases p with
 |none=>show slicePart_none h
 |int i t=>show slicePart_int h
theorem zfg{y:Ad}{g vu:Va}{lo hi:Option Int}{n:Nat}{Q:Int×Int×Nat->ig->Prop}(hs:s.heap.IsSliceOf y g vu .none)(c:lw g lo)(C:lw vu hi)
  (h:Q (((sIx n 0 lo:Nat):Int),1,sIx n n hi-sIx n 0 lo) s):wpAny 88 A (Builtin.Slice.sliceApplied (.ref y)<|pure (n:Int)) Q E s:=by
 let(os,f,e,i):=id hs;unfold Builtin.Slice.sliceApplied Builtin.Slice.sliceFields;apply ia<|ia (iA f i (x:=g) R<|ia (iA f i (x:=vu) R<|ia (iA f i (x:=.none) R<|ib ?_)));apply ia<|slicePart_none ?_;change wpAny _ _ (if((1:Int)==0)=N then _ else _) _ _ s;rw[Xp 07];apply ia<|zhp c (ia<|zhp C (ia<|ib ?_));change wpAny _ _ (match Builtin.Slice.sliceAdjust lo hi 1 (n:Int)with|(lo,hi)=>pure (lo,(1:Int),Builtin.Slice.slicePlaces lo hi 1)) _ _ s;rw[zqv lo hi n];change wpAny _ _ (pure (((sIx n 0 lo:Nat):Int),(1:Int),Builtin.Slice.slicePlaces ((sIx n 0 lo:Nat):Int) ((sIx n n hi:Nat):Int) 1)) _ _ s;rw[zpp];show ib h
theorem zv1(xs:Array Va)(i k:Nat):((List.range k).filterMap λ(m:Nat)=>xs[((i:Int)+(m:Int)*1).toNat]?).toArray=((xs.toList.drop i).take k).toArray:=by
 let e:(λ(m:Nat)=>xs[((i:Int)+(m:Int)*1).toNat]?)=λm=>xs[i+m]?:=by
  funext m;let:((i:Int)+(m:Int)*1).toNat=i+m:=by omega
  rw[this]
 rw[e];let:=pick_run xs i k;rw[List.filterMap_map]at this;let g:((λx=>xs[x]?)∘λx=>i+x)=λm=>xs[i+m]?:=rfl;rw[g]at this;rw[this]
theorem getItem_tuple_cut{t y:Ad}{items:Array Va}{g vu:Va}{lo hi:Option Int}{Q:Y0}(p:IsTup s.heap t items)(hs:s.heap.IsSliceOf y g vu .none)(c:lw g lo)(C:lw vu hi)
  (L:¬(sIx items.size 0 lo=0/\sIx items.size items.size hi=items.size))
  (h:Q 018 {s with heap:=s.heap.push {cls:=.type "tuple",data:=.seq ((items.toList.drop<|sIx items.size 0 lo).take<|sIx items.size items.size hi-sIx items.size 0 lo).toArray} })
  (hsz:items.size<=ii):wpAny 88 A (jJ (.ref t)<|.ref y) Q E s:=by
 let d:sizeOk (.seq ((items.toList.drop<|sIx items.size 0 lo).take 084).toArray):=by
  change((items.toList.drop<|sIx items.size 0 lo).take 084).toArray.size<=ii;rw[y09,y0w,y1h,y16];omega
 let U:sIx items.size items.size hi<=items.size:=sIx_le _ _ 08 hi;let(os,f,e,i):=id hs;let j:s.TypeIs (.ref y) "slice":=⟨os,f,e⟩;unfold jJ
 try with_reducible apply ir ?_
 first|apply ia (ib ?_)|skip
 apply ia<|wpAny_sequenceKey p.typeIs 07 ?_;apply ia (iB (name:=Str.ofString "__getitem__") p.typeIs PyProof.Rows.slot_tuple_getitem
  (i5 PyProof.Rows.slot_tuple_getitem p.typeIs entry_tuple_getitem ?_<|args_tuple_getitem _ _))
 change wpAny _ _ (Builtin.Tuple.tupleItemsOf (.ref t)>>=_) _ _ s;apply ia<|tupleItemsOf_ p ?_;apply ia<|jq j ?_;rw[Xq 07];apply ia<|zfg hs c C ?_;let a:¬((((sIx items.size 0 lo:Nat):Int)==0&&(1:Int)==1&&084==items.size)=N):=by
  intro q;rw[y07,y07]at q;let l:((sIx items.size 0 lo:Nat):Int)=0:=eq_of_beq q.1.1;let M:sIx items.size items.size hi-sIx items.size 0 lo=items.size:=eq_of_beq q.2;show L ⟨by omega,by omega⟩
 change wpAny _ _ (if(((sIx items.size 0 lo:Nat):Int)==0&&(1:Int)==1&&084==items.size)=N then _ else _) _ _ s;rw[Xp a,zv1]
 first
  |show ia (m:=Builtin.Tuple.tupleExact _) (i7 (ib ⟨_,rfl,ib h⟩) d)
  |show ia (m:=Builtin.Tuple.tupleExact _) (i7 (ia<|ib (ib ⟨_,rfl,ib h⟩)) d)
  |show ia (ia (m:=Builtin.Tuple.tupleExact _)<|i7 (ib<|ib ⟨_,rfl,ib h⟩) d)
  |show ia (ia (m:=Builtin.Tuple.tupleExact _)<|i7 (ib ⟨_,rfl,ib h⟩) d)
end
end HT
namespace L2
abbrev TO:=St->Hp->(Option Int->Hp->Prop)->Prop
def PO(X:Cx)(e:Option Expr)(t:TO):Prop :=
 ∀(pins:Y2) (s:ig) (σ:St) (H:Hp) (Q:Option Int->Hp->Prop),02 H s->t σ H Q->
  wpAny 36 X.A (evalPart e X.env) (λu s'=>∃o H',02 H' s'/\lw u o/\Q o H') X.xe s
def tNoPart:TO:=λ_ H Q=>Q B H
def tPart(t:TE):TO:=λσ H Q=>t σ H λx H1=>∃i,x=.int i/\Q (G i) H1
theorem ze3:∀{us:List Va},Vals 034 us->jK us ns:=by
 induction ns with
 |nil=>intro us r;rw[y31]at r;cases r;show .nil
 |cons n ns f =>
  intro us r;rw[y0t]at r;cases r with
  |cons r1 E =>
   let(t,e):=r1;subst e;show .cons n t<|f E
section
variable {X:Cx}{e:Expr}{te:TE}{lo hi:Option Expr}{tl th:TO}{pos p2:Pos}
theorem zd4:PO X B tNoPart:=by
 intro pins s σ H Q I h;rw[evalPart_none];show ib ⟨B,H,I,.none,h⟩
theorem zb8(h:PE X e te):PO X (G e) (tPart te):=by
 intro pins s σ H Q I L;rw[evalPart_some];apply thn (h pins s σ H _ I L) λu s1 zz=>ex5 zz λx H1 I1 r1 A=>?_;let(i,rfl,q):=A;let(t,rfl):=r1;show⟨G i,H1,I1,.int i t,q⟩
def SlR(X:Cx)(r:V->Option Int->Option Int->Hp->VK->Prop):Prop :=
 ∀(pins:Y2) (s:ig) (σ:St) (H:Hp) (x:V) (v g vu:Va) (lo hi:Option Int) (y:Ad) (Q:VK),02 H s->RelV x v->s.heap.IsSliceOf y g vu .none->lw g lo->lw vu hi->r x lo hi H Q->
  ∃T id,jl (.type T) "__getitem__"=pure (G<|.builtin id)/\s.TypeIs v T/\wpAny 36 X.A (jJ v<|.ref y) 037 X.xe s
def tSl(r:V->Option Int->Option Int->Hp->VK->Prop)(te:TE)(tl th:TO):TE:=λσ H Q=>te σ H λx H1=>tl σ H1 λl H2=>th σ H2 λu H3=>r x l u H3 Q
theorem zb3(D:SlR X r)(f:PE X e te)(Y:PO X lo tl)(U:PO X hi th):PE X (.Subscript e (.Slice lo hi B p2) pos) (tSl r te tl th):=by
 intro pins s σ H Q I h;apply Subscript_<|thn (f pins s σ H _ I h) λv s1 zz=>ex5 zz λx H1 I1 r1 A=>?_;apply wpAny_Slice<|thn (Y pins s1 σ H1 _ I1 A) λg s2 zz=>ex5 zz λl H2 o c w=>thn (U pins s2 σ H2 _ o w) λvu J zz=>ex5 zz λu H3 d C i=>?_;rw[evalPart_none];apply ib ?_;let L:02 H3 {J with heap:=J.heap.push {cls:=.type "slice",data:=.fields #[g,vu,.none]} }:=d.kept (t':=J.toks) λb ob q=>y04 _ q;let(T,id,a,p,j):=D pins {J with heap:=J.heap.push {cls:=.type "slice",data:=.fields #[g,vu,.none]} } σ H3 x v g vu l u J.heap.objs.size Q L r1 (Heap.IsSliceOf.new ..) c C i;change wpAny 36 X.A (subscriptTail e (.Slice lo hi B p2) v<|.ref J.heap.objs.size) 037 X.xe {J with heap:=J.heap.push {cls:=.type "slice",data:=.fields #[g,vu,.none]} };show tail_any (ops:=[.ref J.heap.objs.size,v]) p a j (by with_unfolding_all rfl)
noncomputable def cutV(xs:List V)(lo hi:Option Int):List V:=(xs.drop<|HT.sIx xs.length 0 lo).take 082
theorem zgu(xs:List V)(lo hi:Option Int):(cutV xs lo hi).length<=xs.length:=by
 unfold cutV;rw[y0w,y1h];omega
def rSlT(K:Frag):V->Option Int->Option Int->Hp->VK->Prop:=λx lo hi H Q=>∃a xs,x=.ref a/\SqT K H a xs/\
 ¬(HT.sIx xs.length 0 lo=0/\HT.sIx xs.length xs.length hi=xs.length)/\∀p,H p=B->Q 22 (upd H p<|.tup (cutV xs lo hi))
theorem sl_tup:SlR X (rSlT X.K):=by
 intro pins s σ H x v g vu lo hi y Q I T hs c C h;let(a,xs,rfl,J,L,q):=h;cases T;let(its,r,p,hz):=I.tuple J;let M:its.toArray.size=xs.length:=by rw[y09];show r.length.symm
 apply⟨"tuple",_,PyProof.Rows.slot_tuple_getitem.lookup,p.typeIs,?_⟩;apply HT.getItem_tuple_cut p hs c C (by rw[M];show L) ?_ (by rw[M];show hz);rw[M];apply⟨.ref s.heap.objs.size,_,I.laid (t':=s.toks) (o:=.tup<|cutV xs lo hi) (λb ob q=>y04 _ q) 08 ?_,R,q _<|I.hok.fresh 08⟩;show⟨y1a (zgu xs lo hi) hz,_,(r.drop<|HT.sIx xs.length 0 lo).take 082,IsTup.new _ _⟩
def rCatT(K:Frag):R2:=λx y H Q=>∃a b xs ys,x=.ref a/\y=.ref b/\SqT K H a xs/\SqT K H b ys/\xs≠[]/\xs.length+ys.length<=ii/\
 (ys=[]->Q 04 H)/\(ys≠[]->∀p,H p=B->Q 22 (upd H p<|.tup (xs++ys)))
theorem Vals.nil_iff(r:Vals xs us):us=[]↔xs=[]:=by
 cases r with
 |nil=>simp
 |cons _ _=>simp
theorem op_catT:OpR X (iQ .Add) (rCatT X.K):=by
 intro pins s σ H x y v u Q I T f h;let(a,b,xs,ys,rfl,rfl,d,U,J,hz,A,M):=h;cases T;cases f;let(its,r1,r,_):=I.tuple d;let(i,E,p2,_):=I.tuple U;apply HT.cat_tup r p2 (λz=>J<|r1.nil_iff.mp z) (λz=>⟨.ref a,H,I,R,A<|E.nil_iff.mp z⟩) (λz=>?_) (by rw[←r1.length,←E.length];show hz);apply⟨.ref s.heap.objs.size,_,I.laid (t':=s.toks) (o:=.tup<|xs++ys) (λb ob q=>y04 _ q) 08 ?_,R,M (λw=>z<|E.nil_iff.mpr w) _<|I.hok.fresh 08⟩;show⟨by rw[y0e];show hz,_,r1.append E,IsTup.new _ _⟩
end
noncomputable def ixN(n:Nat)(i:Int):Option Nat:=if 0<=i then(if i<n then G i.toNat else B)else if -(n:Int)<=i then G (i+n).toNat else B
def atI{D:Type}(xs:List D)(i:Int):Option D:=(ixN xs.length i).bind λj=>xs[j]?
theorem ixN_seq(h:ixN n i=G j):seqIndex? i n=G j/\j<n/\-(n:Int)<=i/\i<n:=by
 unfold ixN at h;by_cases C:0<=i
 .rw[Xq C]at h;by_cases O:i<n
  .rw[Xq O]at h;let e:i.toNat=j:=Option.some.inj h;show⟨by rw[seqIndex_of C O,e],by omega,by omega,O⟩
  .rw[Xp O]at h;cases h
 .rw[Xp C]at h;by_cases O:-(n:Int)<=i
  .rw[Xq O]at h;let e:(i+n).toNat=j:=Option.some.inj h;show⟨by rw[seqIndex_neg 01 O,e],by omega,O,by omega⟩
  .rw[Xp O]at h;cases h
theorem zna{D:Type}{xs:List D}{i:Int}{v:D}(h:atI xs i=G v):∃j,seqIndex? i xs.length=G j/\xs[j]?=G v/\j<xs.length/\-(xs.length:Int)<=i/\i<xs.length:=by
 unfold atI at h;cases e:ixN xs.length i with
 |none=>rw[e]at h;cases h
 |some j =>
  rw[e]at h;let(O,M,A,L):=ixN_seq e;show⟨j,O,h,M,A,L⟩
theorem zaf{D:Type}{xs:List D}{j:Nat}{v:D}(h:xs[j]?=G v):atI xs (j:Int)=G v:=by
 let U:j<xs.length:=(y0f.mp h).1;let e:ixN xs.length (j:Int)=G j:=by
  unfold ixN;rw[Xq 01,Xq 01];simp
 unfold atI;rw[e];show h
theorem zfy(xs:List D)(v:D):atI (xs++[v]) (-1)=G v:=by
 let Y:(xs++[v]).length=xs.length+1:=by simp
 let e:ixN (xs++[v]).length (-1)=G xs.length:=by
  unfold ixN;rw[Y,Xp 07,Xq 01];congr 1;omega
 unfold atI;rw[e];change(xs++[v])[xs.length]?=G v;simp
def PlainIx(b:Expr):Prop:=∀o i,jY b Fa o i=operate [o,i] (jJ o i)
def IxR(X:Cx)(r:R2):Prop :=
 ∀(e J:Expr) (pins:Y2) (s:ig) (σ:St) (H:Hp) (x y:V) (v u:Va) (Q:VK),02 H s->RelV x v->RelV y u->r x y H Q->
  jY J Fa v u=operate [v,u] (jJ v u)->wpAny 36 X.A (subscriptTail e J v u) 037 X.xe s
def MtR(X:Cx)(id:String)(r:V->List V->Hp->VK->Prop):Prop :=
 ∀(pins:Y2) (s:ig) (σ:St) (H:Hp) (x:V) (xs:List V) (v:Va) (us:List Va) (Q:VK),02 H s->RelV x v->Vals xs us->r x xs H Q->
  wpAny 36 X.A (call (.builtin id) (v::us)) 037 X.xe s
section
variable {X:Cx}{a b:Expr}{ta tb:TE}{pos:Pos}
theorem zam(D:IxR X r)(d:PE X a ta)(U:PE X b tb)(hs:PlainIx b):PE X (.Subscript a b pos) (tOp r ta tb):=by
 intro pins s σ H Q I h;show Subscript_<|binT d U I h λv u s2 x y H2 l T f q=>D a b pins s2 σ H2 x y v u Q l T f q<|hs _ _
def rIxL(K:Frag):R2:=λx y H Q=>asR x λp=>∃xs,asI y λi=>SqL K H p xs/\∃v,atI xs i=G v/\Q v H
def rIxT(K:Frag):R2:=λx y H Q=>asR x λp=>∃xs,asI y λi=>SqT K H p xs/\∃v,atI xs i=G v/\Q v H
def rIxS:R2:=λx y H Q=>asS x λz=>asI y λi=>z.length<=ii/\∃c,atI z.cps.toList i=G c/\Q (.str ⟨#[c]⟩) H
theorem ix_list:IxR X (rIxL X.K):=by
 intro e J pins s σ H x y v u Q I T d h hs;let(p,rfl,xs,h'):=zc0 h;let(i,rfl,D,z,f,q):=zdx h';cases T;let(t,rfl):=d;let(its,r,c,hz):=I.list D;let(j,O,M,A,L,E):=zna f;let(w,g,l):=r.get M;let Y:=r.length;let o:=line63;let fin:EP X pins σ Q w s:=⟨z,H,I,l,q⟩;by_cases C:0<=i
 .let U:i.toNat=j:=by
   rw[seqIndex_of C E]at O;show Option.some.inj O
  show item_listR c.isList C 01 (by rw[U];simpa using g) fin hs
 .let U:(i+(its.toArray.size:Int)).toNat=j:=by
   rw[seqIndex_neg 01 L]at O;rw[y09,←Y];show Option.some.inj O
  show subscriptTail_builtinR (x:=w) c.isList.typeIs slot_list_getitem.lookup
   (wpAny_getItem_list_neg (Q:=λr s'=>r=w/\EP X pins σ Q r s') c.isList 01 (by rw[y09]<;>omega) 01 (by rw[U];simpa using g) ⟨R,fin⟩) hs
theorem ix_tup:IxR X (rIxT X.K):=by
 intro e J pins s σ H x y v u Q I T d h hs;let(p,rfl,xs,h'):=zc0 h;let(i,rfl,D,z,f,q):=zdx h';cases T;let(t,rfl):=d;let(its,r,c,hz):=I.tuple D;let(j,O,M,A,L,E):=zna f;let(w,g,C):=r.get M;let Y:=r.length;let U:=line63;let fin:EP X pins σ Q w s:=⟨z,H,I,C,q⟩;show subscriptTail_builtinR (x:=w) c.typeIs slot_tuple_getitem.lookup
  (getItem_tuple (j:=j) (Q:=λr s'=>r=w/\EP X pins σ Q r s') c 01 01 (by rw[y09,←Y];show O) (by simpa using g) ⟨R,fin⟩) hs
theorem ix_str:IxR X rIxS:=by
 intro e J pins s σ H x y v u Q I T d h hs;let(z,rfl,h'):=asS_ex h;let(i,rfl,hz,c,f,q):=zdx h';let(t,rfl):=T;let(t',rfl):=d;let(j,O,M,A,p,E):=zna f;let Y:z.cps.toList.length=z.length:=by simp[Str.length]
 rw[Y]at O p E;let U:=line63;show tail_any (typeIs_str s z t) slot_str_getitem.lookup (getItem_str (c:=c) (by
  let L:decide (i < -(2^63:Int))=Fa:=Xf 01;let g:decide (i>=2^63)=Fa:=Xf 01;rw[L,g,y44]) (by rw[O];simpa using M) ⟨.str ⟨#[c]⟩,H,I.tok _,⟨_,R⟩,q⟩) hs
def rSetL:V->V->V->Hp->(Hp->Prop)->Prop:=λo i v H Q=>∃p xs k j,o=.ref p/\i=.int k/\H p=G 016/\ixN xs.length k=G j/\Q (upd H p<|.lst (xs.set j v))
theorem zj3(lo hi:Option Int)(n:Nat):(jt lo hi B n).1=((HT.sIx n 0 lo:Nat):Int)/\(jt lo hi B n).2.1=((HT.sIx n n hi:Nat):Int)/\(jt lo hi B n).2.2=1:=by
 apply⟨?_,?_,R⟩
 .cases lo with
  |none=>simp[jt,HT.sIx]
  |some i =>
   simp only[jt,HT.sIx,Option.getD_none,show(1:Int)>0 by decide,if_true];by_cases h:i<0
   .simp only[h,if_true]<;>omega
   .simp only[h,if_false]<;>omega
 .cases hi with
  |none=>simp[jt,HT.sIx]
  |some i =>
   simp only[jt,HT.sIx,Option.getD_none,show(1:Int)>0 by decide,if_true];by_cases h:i<0
   .simp only[h,if_true]<;>omega
   .simp only[h,if_false]<;>omega
theorem zik(its:List Va)(lo hi:Option Int):slicePick its.toArray lo hi B=((its.drop<|HT.sIx its.length 0 lo).take<|HT.sIx its.length its.length hi-HT.sIx its.length 0 lo).toArray:=by
 let(O,M,A):=zj3 lo hi its.toArray.size;unfold slicePick;rw[O,M,A];simp only[sliceRange_one,pick_run,y09]<;>rfl
def rSlL(K:Frag):V->Option Int->Option Int->Hp->VK->Prop:=λx lo hi H Q=>∃a xs,x=.ref a/\SqL K H a xs/\∀p,H p=B->Q 22 (upd H p<|.lst (cutV xs lo hi))
theorem zy1:SlR X (rSlL X.K):=by
 intro pins s σ H x v g vu lo hi y Q I T hs c C h;let(a,xs,rfl,J,q):=h;cases T;let(its,r,p,hz):=I.list J;let M:=r.length;apply⟨"list",_,slot_list_getitem.lookup,p.isList.typeIs,?_⟩;apply wpAny_getItem_list_slice p.isList hs c C .none 05 ?_ (by rw[y09]<;>omega);rw[zik,←M];apply⟨.ref s.heap.objs.size,_,I.laid (t':=s.toks) (o:=.lst<|cutV xs lo hi) (λb ob q=>y04 _ q) 08 ?_,R,q _<|I.hok.fresh 08⟩;show⟨y1a (zgu xs lo hi) hz,_,0,(r.drop<|HT.sIx xs.length 0 lo).take 082,y0d _ R⟩
noncomputable def flatV:V->Bool
 |.non=>N
 |.bl _=>N
 |.int _=>N
 |.str _=>N
 |_=>Fa
noncomputable def eqV:V->V->Bool
 |.non,.non=>N
 |.bl a,.bl b=>a==b
 |.bl a,.int b=>(if a then 1 else 0)==b
 |.int a,.bl b=>a==(if b then 1 else 0)
 |.int a,.int b=>a==b
 |.str a,.str b=>a==b
 |_,_=>Fa
theorem ztw(d:RelV y u)(T:RelV x v)(c:flatV y=N)(l:flatV x=N):SeqAt.EqAt A s u v (eqV y x):=by
 cases y with
 |non =>
  cases d;cases x with
  |non=>cases T;show SeqAt.EqAt.same _
  |bl b=>cases T;show SeqAt.EqAt.none_bool b
  |int b=>let(t,rfl):=T;show SeqAt.EqAt.none_int b t
  |str b=>let(t,rfl):=T;show SeqAt.EqAt.none_str b t
  |_=>show Xa (show Fa=N from l) y0i
 |bl a =>
  cases d;cases x with
  |non=>cases T;show SeqAt.EqAt.bool_none a
  |bl b=>cases T;show SeqAt.EqAt.bool_bool a b
  |int b=>let(t,rfl):=T;show SeqAt.EqAt.bool_int a b t
  |str b=>let(t,rfl):=T;show SeqAt.EqAt.bool_str a b t
  |_=>show Xa (show Fa=N from l) y0i
 |int a =>
  let(t',rfl):=d;cases x with
  |non=>cases T;show SeqAt.EqAt.int_none a t'
  |bl b=>cases T;show SeqAt.EqAt.int_bool a t' b
  |int b=>let(t,rfl):=T;show SeqAt.EqAt.int_int a t' b t
  |str b=>let(t,rfl):=T;show SeqAt.EqAt.int_str a t' b t
  |_=>show Xa (show Fa=N from l) y0i
 |str a =>
  let(t',rfl):=d;cases x with
  |non=>cases T;show SeqAt.EqAt.str_none a t'
  |bl b=>cases T;show SeqAt.EqAt.str_bool a t' b
  |int b=>let(t,rfl):=T;show SeqAt.EqAt.str_int a t' b t
  |str b=>let(t,rfl):=T;show SeqAt.EqAt.str_str a t' b t
  |_=>show Xa (show Fa=N from l) y0i
 |_=>show Xa (show Fa=N from c) y0i
def eqU(x:V)(u:Va):Bool:=match u with
 |.none=>eqV .non x
 |.bool b=>eqV (.bl b) x
 |.int i _=>eqV (.int i) x
 |.str z _=>eqV (.str z) x
 |_=>Fa
theorem zyh(r:RelV y u)(f:flatV y=N):eqU x u=eqV y x:=by
 cases y with
 |non=>cases r;rfl
 |bl b=>cases r;rfl
 |int i=>let(t,rfl):=r;rfl
 |str z=>let(t,rfl):=r;rfl
 |_=>show Xa (show Fa=N from f) y0i
theorem zg2:∀{xs:List V} {us:List Va},Vals xs us->xs.all flatV=N->us.any (eqU x)=xs.any λy=>eqV y x
 |_,_,.nil,_=>rfl
 |y::xs,u::us,.cons r t,f=>by
  rw[y26,y07]at f;rw[y37,y37,zyh r f.1,zg2 t f.2]
theorem zeh(T:RelV x v)(l:flatV x=N):∀{xs:List V} {us:List Va},Vals xs us->xs.all flatV=N->∀u∈us,SeqAt.EqAt A s u v (eqU x u)
 |_,_,.nil,_=>λu U=>by cases U
 |y::xs,u::us,.cons r t,f=>λc U=>by
  rw[y26,y07]at f;rcases y08.mp U with rfl|U
  .rw[zyh r f.1];show ztw r T f.1 l
  .exact zeh T l t f.2 c U
def inV(x:V)(xs:List V):Bool:=xs.any λy=>eqV y x
def rIn(K:Frag)(neg:Bool):R2:=λx y H Q=>∃p xs,y=.ref p/\(SqL K H p xs\/SqT K H p xs)/\flatV x=N/\xs.all flatV=N/\Q (.bl<|if neg then !inV x xs else inV x xs) H
theorem zsd:OpR X (i4 .In) (rIn X.K Fa):=by
 intro pins s σ H x y v u Q I T d h;let(p,xs,rfl,O,l,fs,q):=h;cases d;rcases O with O|O
 .let(its,r,c,hz):=I.list O;apply SeqAt.in_listAt (eqU x) c.isList (λw L=>zeh T l r fs w<|by simpa using L) ⟨.bl _,H,I,R,?_⟩;rw[show its.toArray.any (eqU x)=its.any (eqU x) by simp,zg2 r fs];show q
 .let(its,r,c,hz):=I.tuple O;apply SeqAt.in_tupleAt (eqU x) c (λw L=>zeh T l r fs w<|by simpa using L) ⟨.bl _,H,I,R,?_⟩;rw[show its.toArray.any (eqU x)=its.any (eqU x) by simp,zg2 r fs];show q
theorem zkm:OpR X (i4 .NotIn) (rIn X.K N):=by
 intro pins s σ H x y v u Q I T d h;let(p,xs,rfl,O,l,fs,q):=h;cases d;rcases O with O|O
 .let(its,r,c,hz):=I.list O;apply SeqAt.notIn_listAt (eqU x) c.isList (λw L=>zeh T l r fs w<|by simpa using L) ⟨.bl _,H,I,R,?_⟩;rw[show its.toArray.any (eqU x)=its.any (eqU x) by simp,zg2 r fs];show q
 .let(its,r,c,hz):=I.tuple O;apply SeqAt.notIn_tupleAt (eqU x) c (λw L=>zeh T l r fs w<|by simpa using L) ⟨.bl _,H,I,R,?_⟩;rw[show its.toArray.any (eqU x)=its.any (eqU x) by simp,zg2 r fs];show q
theorem zld:CallR X (.builtin "len") (λxs H Q=>∃p ys,xs=[.ref p]/\(SqL X.K H p ys\/SqT X.K H p ys)/\Q (.int ys.length) H):=by
 intro pins s σ H xs us Q I r h;let(p,ys,rfl,O,q):=h;let(u,rfl,T):=vals1 r;cases T;let U:=line63;rcases O with O|O
 .let(its,r',c,hz):=I.list O;let M:=r'.length;show Calls.call_len_list c.isList (by simp only[y09]<;>omega) ⟨.int ys.length,H,I.tok _,⟨s.toks+1,by rw[y09,M]⟩,q⟩
 .let(its,r',c,hz):=I.tuple O;let M:=r'.length;show len_tuple c (by simp only[y09]<;>omega) ⟨.int ys.length,H,I.tok _,⟨s.toks+1,by rw[y09,M]⟩,q⟩
theorem zlc:CallR X (.builtin "len") (λxs H Q=>∃z,xs=[.str z]/\z.length<=ii/\Q (.int z.length) H):=by
 intro pins s σ H xs us Q I r h;let(z,rfl,hz,q):=h;let(u,rfl,t,rfl):=vals1 r;let U:=line63;show len_str 01 ⟨.int z.length,H,I.tok _,⟨_,R⟩,q⟩
theorem zlb:CallR X (.type "list") (λxs H Q=>∃p ys,xs=[.ref p]/\(SqL X.K H p ys\/SqT X.K H p ys)/\∀l,H l=B->Q (.ref l) (upd H l 50)):=by
 intro pins s σ H xs us Q I r h;let(p,ys,rfl,O,q):=h;let(u,rfl,T):=vals1 r;cases T;let fin:∀(its:List Va),Vals ys its->ys.length<=ii->∀(h':Heap) (c':Nat),(∀b f,s.heap.get? b=G f->h'.get? b=G f)->
   h'.get? s.heap.objs.size=G {cls:=.type "list",dict:=B,data:=.seq its.toArray c',slots:=#[]}->EP X pins σ Q 018 {s with heap:=h'}:=λits r' hz h' c' kp e =>
  ⟨.ref s.heap.objs.size,_,I.laid (t':=s.toks) kp 08<|show ObjOk X.prog X.w _ h' _ (50)from⟨hz,its,c',r',e⟩,R,q _<|I.hok.fresh 08⟩
 rcases O with O|O
 .let(its,r',c,hz):=I.list O;let M:=r'.length;let(o,D,C,n,hd):=c.isList;show call_list_seq p 028 D C hd (λh' c' kp e=>fin its r' hz h' c' kp e) (by simp only[y09]<;>omega)
 .let(its,r',c,hz):=I.tuple O;let M:=r'.length;let(o,D,C,n,hd):=c;show call_list_seq p (.inr R) D C hd (λh' c' kp e=>fin its r' hz h' c' kp e) (by simp only[y09]<;>omega)
theorem zjd:CallR X (.type "tuple") (λxs H Q=>∃p ys,xs=[.ref p]/\((SqL X.K H p ys/\∀l,H l=B->Q (.ref l) (upd H l<|.tup ys))\/(SqT X.K H p ys/\Q 22 H))):=by
 intro pins s σ H xs us Q I r h;let(p,ys,rfl,h):=h;let(u,rfl,T):=vals1 r;cases T;rcases h with⟨O,q⟩|⟨O,q⟩
 .let(its,r',c,hz):=I.list O;let M:=r'.length;apply call_tuple_list c.isList (λh' kp=>?_) (by simp only[y09]<;>omega);let I1:02 H {s with heap:=h'}:=I.kept (t':=s.toks) kp;let x:02 (upd H h'.objs.size<|.tup ys) {s with heap:=h'.push {cls:=.type "tuple",data:=.seq its.toArray} } :=
   I1.laid (t':=s.toks) (λb o e=>y04 _ e) 08 (show ObjOk X.prog X.w _ _ _ (.tup ys)from⟨hz,its,r',IsTup.new _ _⟩)
  show⟨.ref h'.objs.size,_,x,R,q _<|I1.hok.fresh 08⟩
 .let(its,r',c,hz):=I.tuple O;show call_tuple_same c ⟨.ref p,H,I,R,q⟩
def tyV(K:Frag)(T:String)(x:V)(H:Hp):Prop:=match x with
 |.str _=>T="str"
 |.int _=>T="int"
 |.ref p=>(T="list"/\∃xs,SqL K H p xs)\/(T="tuple"/\∃o,K.lookup p=G o/\o.cls=.type "tuple"/\o.dict=B)\/
   (T="dict"/\((∃kvs,H p=G (.dK kvs))\/∃kvs,H p=G (.dT kvs)))\/(T="set"/\∃S n,H p=G (.set S n))
 |_=>False
theorem zxv{pins:Y2}{σ:St}{H:Hp}{s:ig}{T:String}{x:V}{v:Va}(I:02 H s)(r:RelV x v)(ty:tyV X.K T x H):
  s.TypeIs v T/\∀a,v=.ref a->∃ob,s.heap.get? a=G ob/\ob.dict=B:=by
 cases x with
 |str z =>
  let(t,rfl):=r;cases(show T="str" from ty);show⟨typeIs_str s z t,λ_ e=>nomatch e⟩
 |int i =>
  let(t,rfl):=r;cases(show T="int" from ty);show⟨typeIs_int s i t,λ_ e=>nomatch e⟩
 |ref p =>
  cases r;rcases ty with⟨rfl,xs,O⟩|⟨rfl,o,j,C,hd⟩|⟨rfl,j⟩|⟨rfl,S,n,j⟩
  .let(its,_,A,_):=I.list O;apply⟨A.isList.typeIs,λa e=>?_⟩;cases e;let(o,n,e,c,hd,_):=A;show⟨o,e,hd⟩
  .refine⟨⟨o,I.kIn p o j,C⟩,λa e=>?_⟩;cases e;show⟨o,I.kIn _ o j,hd⟩
  .let z:∃o,s.heap.get? p=G o/\o.ExactDict:=by
    rcases j with⟨kvs,j⟩|⟨kvs,j⟩
    .let(_,_,_,_,o,_,_,e,ex,_):=I.hok p _ j;show⟨o,e,ex⟩
    .let(_,_,_,_,o,_,_,e,ex,_):=I.hok p _ j;show⟨o,e,ex⟩
   let(o,e,ex):=z;apply⟨⟨o,e,ex.1⟩,λa g=>?_⟩;cases g;show⟨o,e,ex.2.1⟩
  .let(o,_,_,_,e,ex,_):=I.hok p _ j;apply⟨⟨o,e,ex.1⟩,λa g=>?_⟩;cases g;show⟨o,e,ex.2.1⟩
 |_=>show False.elim ty
def tBM0(K:Frag)(T:String)(r:V->List V->Hp->VK->Prop)(c:TE):TE:=λσ H Q=>c σ H λx H1=>tyV K T x H1/\r x [] H1 Q
def tBM(K:Frag)(T:String)(r:V->List V->Hp->VK->Prop)(c:TE)(t:TA):TE:=λσ H Q=>c σ H λx H1=>tyV K T x H1/\t σ H1 λxs H2=>r x xs H2 Q
variable {o e:Expr}{es:List Expr}{to:TE}{t:TA}{name:Str}{apos cpos:Pos}{T id:String}{r:V->List V->Hp->VK->Prop}
theorem pe_bm0(pa:PlainAttrs T)(slot:Slot T name id)(C:typeOf (.builtin id)=pure (.type "method_descriptor"))(Y:MtR X id r)(D:PE X o to)
  (g:attributeBase o name X.env (eval o X.env)=eval o X.env:=by rfl) (f:(apos.endLine==cpos.line)=N:=by rfl):PE X (.Call (.Attribute o name apos) [] [] cpos) (tBM0 X.K T r to):=by
 intro pins s σ H Q I h;apply wpAny_Call_method0_late g f<|thn (D pins s σ H _ I h) λv s1 zz=>ex5 zz λx H1 I1 r1 zq=>?_;let(ty,A):=zq;let(O,M):=zxv I1 r1 ty;show⟨T,id,pa,slot,C,O,M,Calls.callWith_builtin R<|PySem.evalArgs_none (Y pins s1 σ H1 x [] v [] Q I1 r1 .nil A)⟩
theorem pe_bm(pa:PlainAttrs T)(slot:Slot T name id)(C:typeOf (.builtin id)=pure (.type "method_descriptor"))(Y:MtR X id r)(D:PE X o to)(d:PA X (e::es) t)
  (g:attributeBase o name X.env (eval o X.env)=eval o X.env:=by rfl)
  (j:((iT cpos<|im (e::es) X.env).all (λx=>!x.1)&&(backToKw cpos<|keywordEach [] X.env).all (λx=>x.1.isSome)
   && decide ((e::es).length+([]:List jW).length+(if([]:List jW).isEmpty then 0 else 1)<30))=N:=by rfl)
  (f:(apos.endLine==cpos.line)=N:=by rfl) (hs:im (e::es) X.env=041::im es X.env:=by rfl) (i:(iT cpos<|im es X.env).any (·.1)=Fa:=by rfl) :
  PE X (.Call (.Attribute o name apos) (e::es) [] cpos) (tBM X.K T r to t):=by
 intro pins s σ H Q I h;apply wpAny_Call_method_late g j f R<|thn (D pins s σ H _ I h) λv s1 zz=>ex5 zz λx H1 I1 r1 zq=>?_;let(ty,A):=zq;let(O,M):=zxv I1 r1 ty;apply⟨T,id,pa,slot,C,O,M,?_⟩;let c:=d cpos pins s1 σ H1 _ I1 A;rw[hs]at c ⊢;apply Calls.callWith_builtin (by change(Fa||(iT cpos<|im es X.env).any (·.1))=Fa;rw[i]<;>rfl)<|Calls.evalArgs_plain ?_;show thn c λus s2 zz=>ex5 zz λvs H2 l E w=>Y pins s2 σ H2 x vs v us Q l r1 E w
end
def MtM(X:Cx)(id:String)(r:V->List V->Hp->VK->Prop):Prop :=
 ∀(pins:Y2) (s:ig) (σ:St) (H:Hp) (x:V) (xs:List V) (v:Va) (us:List Va) (Q:VK),02 H s->RelV x v->Vals xs us->r x xs H Q->
  wpAny 36 X.A (call (.builtin id) (v::us)) 037 X.xe s
theorem Vals.one:∀{x:V} {us:List Va},Vals [x] us->∃u,us=[u]/\RelV x u:=λh=>vals1 h
theorem Vals.zero:∀{us:List Va},Vals [] us->us=[]
 |_,.nil=>rfl
theorem Vals.dropLast(h:Vals xs us):Vals xs.dropLast us.dropLast:=by
 induction h with
 |nil=>show .nil
 |cons r t f =>
  cases t with
  |nil=>show .nil
  |cons q t'=>show .cons r f
theorem Vals.reverse(h:Vals xs us):Vals xs.reverse us.reverse:=by
 induction h with
 |nil=>show .nil
 |cons r t f=>rw[y3n,y3n];show Vals.append f<|.cons r .nil
theorem zqk{D:Type}(l:List D):l.eraseIdx (l.length-1)=l.dropLast:=by
 induction l with
 |nil=>rfl
 |cons a r f =>
  cases r with
  |nil=>rfl
  |cons b r =>
   let e:(a::b::r).length-1=((b::r).length-1)+1:=by
    let O:(a::b::r).length=r.length+2:=rfl;let M:(b::r).length=r.length+1:=rfl;omega
   rw[e,List.eraseIdx_cons_succ,f]
   all_goals rfl
section
variable {X:Cx}{pins:Y2}{σ:St}{H:Hp}{s:ig}{l b:Ad}{xs ys zs:List V}
theorem Inv.lset{its its':List Va}(I:02 H s)(A:H l=G 016)
  (e:s.heap.get? l=G {cls:=.type "list",data:=.seq its.toArray n}) (T:f its.toArray=its'.toArray) (hv:Vals ys its') (hz:ys.length<=ii) :
  02 (upd H l 50) {s with heap:=s.heap.update l<|Obj.mapSeq f,toks:=t'}:=by
 let q:=PySem.IsL.update e f;rw[T]at q;apply I.write (x:=l) (e:=l) (by rw[A];show trivial) 028 (λi u U r=>(y18 s.heap (Obj.mapSeq f)<|Ne.symm U).trans r) ⟨_,q⟩ ?_;show⟨hz,its',_,hv,q⟩
theorem Inv.lnew(I:02 H s)(hv:Vals ys its)(hz:ys.length<=ii):
  02 (upd H s.heap.objs.size 50) {s with heap:=s.heap.push {cls:=.type "list",data:=.seq its.toArray},toks:=t'} :=
 I.laid (λ_ _ q=>y04 _ q) 08 ⟨hz,its,0,hv,y0d _ R⟩
theorem Inv.fresh(I:02 H s):H s.heap.objs.size=B:=I.hok.fresh 08
theorem Inv.lstM(I:02 H s)(A:H l=G 016):xs.length<=ii/\∃(its:List Va) (n:Nat),Vals xs its/\xs.length=its.length/\s.heap.get? l=G {cls:=.type "list",data:=.seq its.toArray n}:=by
 let(z,its,n,r,e):=I.hok l _ A;show⟨z,its,n,r,r.length,e⟩
theorem notLongL(h:n<=ii):Builtin.List.listTooLong n=Fa:=by
 unfold Builtin.List.listTooLong;show Xf 01
end
section
variable {X:Cx}
def rAppend:V->List V->Hp->VK->Prop:=λx vs H Q=>∃l xs y,x=.ref l/\vs=[y]/\H l=G 016/\xs.length<ii/\Q .non (upd H l<|.lst (xs++[y]))
theorem zks:MtM X "list.append" rAppend:=by
 intro pins s σ H x vs v us Q I T f h;let(l,xs,y,rfl,rfl,A,hz,q):=h;cases T;let(u,rfl,g):=f.one;let(z,its,n,r,Y,e):=I.lstM A;apply jm F.slot_list_append ⟨_,e,R⟩ F.entry_list_append (F.args_list_append_2 _ _) (PySem.list_append l its.toArray n u<|by rw[y09];omega) ⟨e,?_⟩;apply⟨.non,_,I.lset (its':=its++[u]) A e 05 (r.append<|.cons g .nil) ?_,R,q⟩;rw[y0e,y0s];omega
def rExtend:V->List V->Hp->VK->Prop:=λx vs H Q=>∃l b xs w,x=.ref l/\vs=[.ref b]/\H l=G 016/\H b=G (.lst w)/\xs.length+w.length<=ii/\Q .non (upd H l<|.lst (xs++w))
theorem zs1:MtM X "list.extend" rExtend:=by
 intro pins s σ H x vs v us Q I T f h;let(l,b,xs,w,rfl,rfl,A,j,hz,q):=h;cases T;let(u,rfl,J):=f.one;cases J;let(z,its,n,r,Y,e):=I.lstM A;let(p,i,o,E,C,g):=I.lstM j;let hsz:its.toArray.size+i.toArray.size<=ii:=by rw[y09,y09];omega
 let a:¬(!its.toArray.isEmpty&&Builtin.List.listTooLong (its.toArray.size+i.toArray.size))=N:=by
  rw[notLongL hsz,y2h];show y0i
 apply jm F.slot_list_extend ⟨_,e,R⟩ F.entry_list_extend (F.args_list_extend_2 _ _)
  (AutoSeq1.list_extend_list_list_0 l its.toArray n b i.toArray o a (by rw[y09];omega) 01) ⟨e,g,?_⟩
 apply⟨.non,_,I.lset (its':=its++i) A e 05 (r.append E) ?_,R,q⟩;rw[y0e];omega
def rPop:V->List V->Hp->VK->Prop:=λx vs H Q=>∃l xs y,x=.ref l/\vs=[]/\H l=G 016/\xs[xs.length-1]?=G y/\Q y (upd H l<|.lst xs.dropLast)
theorem mt_pop:MtM X "list.pop" rPop:=by
 intro pins s σ H x vs v us Q I T f h;let(l,xs,y,rfl,rfl,A,C,q):=h;cases T;let c:=f.zero;subst c;let(z,its,n,r,Y,e):=I.lstM A;let(u,U,g):=r.get C;let a:its.toArray[its.toArray.size-1]?=G u:=by
  change its.toArray[its.length-1]?=G u;rw[←y2c,←Y];show U
 apply jm F.slot_list_pop ⟨_,e,R⟩ F.entry_list_pop (F.args_list_pop_1 _) (MeetsSeq.list_pop_last l its.toArray n u a<|by rw[y09];omega) ⟨e,?_⟩;apply⟨y,_,I.lset (its':=its.dropLast) A e ?_ r.dropLast ?_,g,q⟩
 .change its.toArray.eraseIdxIfInBounds (its.toArray.size-1)=its.dropLast.toArray;rw[y09,List.eraseIdxIfInBounds_toArray,zqk]
 .rw[List.length_dropLast];omega
def rPopAt:V->List V->Hp->VK->Prop:=λx vs H Q=>∃l xs i k y,x=.ref l/\vs=[.int i]/\H l=G 016/\-(2^63)<=i/\i<2^63/\seqIndex? i xs.length=G k/\xs[k]?=G y/\Q y (upd H l<|.lst (xs.eraseIdx k))
def rCat:R2:=λx y H Q=>∃l b xs w,x=.ref l/\y=.ref b/\H l=G 016/\H b=G (.lst w)/\xs.length+w.length<=ii/\∀p,H p=B->Q 22 (upd H p<|.lst (xs++w))
theorem op_cat:OpR X (iQ .Add) rCat:=by
 intro pins s σ H x y v u Q I T d h;let(l,b,xs,w,rfl,rfl,A,j,hz,q):=h;cases T;cases d;let(z,its,n,r,Y,e):=I.lstM A;let(p,i,o,E,C,g):=I.lstM j;apply PySem.P.add_list e g ?_ (by rw[y09,y09];omega);let c:its.toArray++i.toArray=(its++i).toArray:=by simp
 rw[c];show⟨.ref _,_,I.lnew (t':=s.toks) (r.append E) (by rw[y0e];omega),R,q _ I.fresh⟩
end
end L2
namespace Att
open PySem PySem.W PySem.Calls PyProof.Rows
theorem zgo:∀(ns:List Int) (vs:List Va),WellAll P h vs (ns.map WData.int)->jK vs ns:=by
 intro ns
 induction ns with
 |nil =>
  intro vs w;rw[y31]at w;cases w;show .nil
 |cons n ns f =>
  intro vs w;rw[y0t]at w;cases w with
  |cons a b =>
   cases a;show .cons _ _<|f _ b
theorem zrh{l:OpenLaw}(hn:l.most=G n){h:Heap}
  (hpre:l.row.toRowW.claim.pre args=N) (hwl:WellAll P h vals args) :
  ∃a vs ns,vals=[Va.ref a]/\args=[WData.list<|ns.map WData.int]/\h.get? a=G {cls:=.type "list",data:=.seq vs.toArray}/\jK vs ns/\ns.length<=n:=by
 let hsh:WShape.hasAll [] args [.list .int]=N:=(pre_splitW hpre).1;let hc:l.pre.holds [] {args:=args}=N:=(pre_splitW hpre).2;let(d,r,rfl,h1,h2):=hasAllW_cons hsh;obtain rfl:=hasAllW_nil h2;let(xs,rfl,h3):=hasW_list h1;let(ns,rfl):=items_int h3;let hlen:ns.length<=n:=by
  unfold OpenLaw.pre at hc;let h4:(WTm.not<|.lt (.lit<|.int (n:Int)) (.len<|.arg 0)).holds [] {args:=[.list<|ns.map .int]}=N:=by
   let h4:=(holds_andW hc).1;rw[hn]at h4;show h4
  let h5:=condW_of h4<|w_not (w_lt w_lit<|w_len_list (w_arg R));rw[y01]at h5;apply y27 λq=>?_;let q':(n:Int)<((ns.length:Nat):Int):=by omega
  first
   |(rw[Xg q']at h5;show Xa h5<|by decide)
   |(simp at h5;omega)
 cases hwl with
 |cons w1 w2 =>
  cases w2;cases w1 with
  |list ho hall=>show⟨_,_,ns,R,R,ho,zgo ns _ hall,hlen⟩
theorem zrv(l:OpenLaw)(args:List WData):l.row.toRowW.claim.post args (.bool N) args=N :=
 postW_of (r:=l.row.toRowW) (X:=(N==N))
  (show WShape.has [] (.bool N) .bool=N by first|rfl|decide|simp[WShape.has,WShape.arms,WShape.armsAll])
  (show(WTm.eq .res<|.lit (.bool N)).value [] {args:=args,res:=G<|.bool N,after:=args}=G (.bool<|N==N)from w_eq_bool (w_res R) w_lit) R
theorem attach_call{l:OpenLaw}{d:DefRec}
  (I:l.most=G n) (z:d.params.defaults=[])
  (call:∀(w:World) (s₀ s₁:ig) (mg mb:Y1) (Q:Ad) (o:Obj) (p cd doc:Va) (a:Ad) (vs:List Va) (ns:List Int),
   Ground q g [] J w s₀ mg mb s₁.heap->E w s₁.heap->
   s₁.heap.get? Q=G o->o.data=.func (docDef d.name d.params d.body d.scope p cd doc)->s₁.heap.CodeRec cd d.name->mg d.name=G (.ref Q)->
   s₁.heap.get? a=G {cls:=.type "list",data:=.seq vs.toArray}->jK vs ns->ns.length<=n->s₁.gens=#[]->
   jc (model l.prog w) lj (.call (.ref Q) ⟨[.ref a],[]⟩) (λr s'=>r=.ok (.ret<|.bool N)/\OldK s₁.heap s'.heap/\s'.os=s₁.os/\jA s'.gens) s₁) :
  WalkO q g J E l.row.toRowW d [] (λf vs=>PySem.call f vs):=by
 intro w s₀ s₁ mg mb Gq Y Q o p cd doc T kV D hd hcd u y j args H x s v U e C;obtain rfl:T=.none:=Dflts.none u z;obtain rfl:kV=.none:=Dflts.noKw u;let(a,vs,ns,rfl,rfl,i,c,ac):=zrh I s e;apply enter_call<|iH (call w s₀ s₁ mg mb Q o p cd doc a vs ns Gq Y D (fd_plain hd) hcd y i c ac j) λr s' O=>?_;let(rfl,M,A,L):=O;show⟨.inl ⟨.bool N,.bool N,[],R,λ_=>rfl,.bool N,zrv l _,λ_=>⟨List.Pairwise.nil,λ_ hm=>(nomatch hm)⟩⟩,M,A,L⟩
end Att
namespace L2
theorem zjo:∀{vs:List Va} {ns:List Int},jK vs ns->Vals 034 vs
 |_,_,.nil=>.nil
 |_,_,.cons n t h=>.cons ⟨t,R⟩<|zjo h
noncomputable abbrev KOf{K:Frag}{h:Heap}(_:K.In h):Frag:=K
noncomputable def defArgs(s:Stmt):iN:=match s with
 |.FunctionDef _ a _ _ _ _ _ _ _ _=>a
 |_=>{posonlyargs:=[],args:=[],vararg:=B,kwonlyargs:=[],kw_defaults:=[],kwarg:=B,defaults:=[]}
noncomputable def defBody(s:Stmt):List Stmt:=match s with
 |.FunctionDef _ _ b _ _ _ _ _ _ _=>b
 |_=>[]
noncomputable def defScope(s:Stmt):Scope:=match s with
 |.FunctionDef _ _ _ _ _ _ a _ _ _=>a
 |_=>{kind:=.function,names:=[],isGenerator:=Fa,isCoroutine:=Fa}
abbrev CX0:CXT:=λ_ _ _ _ _ _=>False
abbrev E0:XK:=λ_ _ _=>False
theorem pass0:Passes CX0 X E0:=λ_ _ _ _ _ _ _ h=>h.elim
structure Fun(K:Frag)(x qual:Str)(st:Stmt)(f:Ad)(fd:i6):Prop where
 ex:∃(oc:Va) (od:Option Ad) (kV doc pm:Va) (an:Option Ad) (cdv ct:Va) (osl:Y8),
  fd=PySem.W.fnOf x qual (defArgs st) (defBody st) 73 .none kV doc pm an cdv ct/\K.lookup f=G ⟨oc,od,.func fd,osl⟩/\PySem.W.codeIn K cdv qual=N
 kp:PySem.W.keepIn K 52=N
section
variable {P:ik}{w:World}{K:Frag}{mg:Y1}{base:Heap}
theorem Fun.ok{x qual:Str}{st:Stmt}{f:Ad}{fd:i6}{Nq ps:List Str}{k:Nat}{sp:Sp}(F:Fun K x qual st f fd)(S:FnScope Nq ps 73)(len:∀vs H Q E,sp vs H Q E->vs.length=ps.length)
  (i:∀(l:Va) (A:io) (outer:List Env) (s:ig) (H:Hp) (vs:List V) (Q:VK) (E:XK),Room k (A.deeper<|jd qual 73 s.heap.objs.size f l)->sp vs H Q E->
   ∃t,PSs (cxOf CX0 P w K mg base Nq qual 73 f l A outer s H E).nox (defBody st) t/\t {nx:=λ_ H'=>Q .non H',rt:=Q} 036 H):FnOk P w K mg base CX0 (k+1) f fd ps sp:=by
 let(oc,M,kV,doc,p,a,l,ct,z,rfl,lk,hcd):=F.ex;apply fn_of lk hcd S len λA outer s H vs Q E D T=>?_;let(t,h,q):=i l A outer s H vs Q E D T;show⟨t,h.nox,q⟩
theorem Fun.binds{x qual:Str}{st:Stmt}{f:Ad}{fd:i6}{ps:List Str}(F:Fun K x qual st f fd)
  (h:∀(kV doc pm:Va) (an:Option Ad) (cdv ct:Va) (us:List Va),us.length=ps.length->jf 086 025=pure 026):Binds K fd ps []:=by
 let(oc,M,kV,doc,pm,an,cdv,ct,z,rfl,lk,hcd):=F.ex;show .all<|h kV doc pm an cdv ct
theorem zop{x qual:Str}{st:Stmt}{f:Ad}{oc:Va}{M an:Option Ad}{z:Y8}{kV doc pm cdv ct:Va}(l:K.lookup f=G ⟨oc,M,.func 086,z⟩)
  (c:PySem.W.codeIn K cdv qual=N) (k:PySem.W.keepIn K 52=N):Fun K x qual st f 086:=⟨⟨oc,M,kV,doc,pm,an,cdv,ct,z,R,l,c⟩,k⟩
end
theorem small1000(h:n<=1000):n<ii:=y3k h 07
section
variable {X:Cx}
theorem pv(i:Nat){x:Str}{pos:Pos}(hN:X.Nq[i]?=G x:=by rfl)(hv:Vis X.env.scope x:=by first|show Or.inl rfl|show Or.inr (Or.inl R)|show Or.inr (Or.inr R))(hd:(x==("__debug__":Str))=Fa:=by decide)
  (hcd:056=Fa:=by decide):PE X (.Name x pos) (tVar i):=zhs hN hv hd hcd
end
theorem iteF{A Bq:Prop}(h:Bq):if Fa=N then A else Bq:=by
 rw[Xp y0i];show h
theorem iteT{A Bq:Prop}(h:A):if N=N then A else Bq:=by
 rw[Xq rfl];show h
theorem itT{c A Bq:Prop}[Decidable c](e:c)(h:A):if decide c=N then A else Bq:=by
 rw[Xg e];show iteT h
theorem itF{c A Bq:Prop}[Decidable c](e:¬c)(h:Bq):if decide c=N then A else Bq:=by
 rw[Xf e];show iteF h
theorem ite2{c A Bq:Prop}[Decidable c](O:c->A)(M:¬c->Bq):if c then A else Bq:=by
 by_cases h:c
 .rw[Xq h];show O h
 .rw[Xp h];show M h
def Same(H H':Hp):Prop:=∀b o,H b=G o->H' b=G o
theorem Same.refl(H:Hp):Same H H:=λ_ _ h=>h
theorem Same.trans(a:Same H H1)(b:Same H1 H2):Same H H2:=λc o h=>b c o<|a c o h
theorem Same.free(e:Same H H')(h:H' l=Option.none):H l=Option.none:=by
 cases q:H l with
 |none=>rfl
 |some o =>
  rw[e l o q]at h;cases h
theorem Same.seq{K:Frag}{H H':Hp}{a:Ad}{xs:List V}(e:Same H H')(h:SqL K H a xs):SqL K H' a xs:=by
 rcases h with(h|⟨o,h⟩)|h
 .exact .inl<|.inl (e _ _ h)
 .exact .inl<|.inr ⟨o,e _ _ h⟩
 .exact .inr h
theorem ixm{a:Ad}{S:Ad->List V->Prop}{xs:List V}{i:Int}{v:V}{Rq:V->Prop}(e:S a xs)(h:atI xs i=G v)(r:Rq v):asR 04 λp=>∃xs,S p xs/\∃v,atI xs i=G v/\Rq v:=⟨xs,e,v,h,r⟩
theorem mkT{n:Nat}{Rq:Prop}(k:Rq)(h:Nat.ble n ii=N:=by rfl):n<=ii/\Rq:=⟨Nat.le_of_ble_eq_true h,k⟩
theorem atom{A:Prop}(h:∀Gq:Prop,(A->Gq)->Gq):A:=h A id
theorem ze6(env:Env):∀(names:List<|Str×jj) (d:Y4),
  (∀p∈names,p.2=.free->∃c,env.cells.lookup p.1=G c)->(∀x c,d.lookup x=G c->env.cells.lookup x=G c)->
  ∃cl:List<|Str×Ad,(forIn names d λ(p:Str×jj) (r:Y4)=>(if(p.2==NameKind.free)=N then(do let c ←cellOf env p.1;pure (ForInStep.yield ((p.1,c)::r)))else pure (ForInStep.yield r):Sem<|ForInStep (List<|Str×Ad)))=(pure cl:Sem<|List (Str×Ad))/\
   (∀x c,cl.lookup x=G c->env.cells.lookup x=G c)/\(∀x,(d.lookup x).isSome=N->(cl.lookup x).isSome=N)/\(∀p∈names,p.2=.free->(cl.lookup p.1).isSome=N)
 |[],d,_,M=>⟨d,R,M,λ_ h=>h,λ_ h=>nomatch h⟩
 |(n,k)::r,d,O,M=>by
  let a:∀p∈r,p.2=.free->∃c,env.cells.lookup p.1=G c:=λp E=>O p<|y06 _ E;by_cases j:(k==NameKind.free)=N
  .let Y:k=.free:=by simpa using j
   let(c,C):=O (n,k) y0a Y;let i:∀x c',((n,c)::d).lookup x=G c'->env.cells.lookup x=G c':=λx c' e=>by
    rw[y15]at e;cases J:x==n with
    |true =>
     rw[J]at e;let L:x=n:=by simpa using J
     rw[L,C];show e
    |false=>rw[J]at e;show M x c' e
   let(cl,L,g,z,u):=ze6 env r ((n,c)::d) a i;let I:(((n,c)::d).lookup n).isSome=N:=by rw[y15,beq_self_eq_true];rfl
   apply⟨cl,?_,g,λx J=>z x ?_,λp E T=>?_⟩
   .rw[y25];let q:cellOf env n=pure c:=by unfold cellOf;rw[C]
    simp only[j,if_true,q];show L
   .rw[y15];cases x==n with
    |true=>rfl
    |false=>show J
   .rcases y08.mp E with e|E
    .rw[e];show z n I
    .exact u p E T
  .let(cl,L,g,z,u):=ze6 env r d a M;apply⟨cl,?_,g,z,λp E T=>?_⟩
   .rw[y25];let f:(k==NameKind.free)=Fa:=by simpa using j
    simp only[f,y33,if_false];show L
   .rcases y08.mp E with e|E
    .rw[e]at T;show Xa (by simpa using T) j
    .exact u p E T
theorem zh6(h:∀p∈scope.names,p.2=.free->∃c,env.cells.lookup p.1=G c):
  ∃cl,closureFor scope env=pure cl/\(∀x c,cl.lookup x=G c->env.cells.lookup x=G c)/\(∀p∈scope.names,p.2=.free->∃c,cl.lookup p.1=G c):=by
 let(cl,L,g,_,u):=ze6 env scope.names [] h (λx c e=>by simp at e);apply⟨cl,?_,g,λp E T=>y2l.mp<|u p E T⟩;let q:closureFor scope env=(forIn scope.names [] λ(p:Str×jj) (r:Y4)=>(if(p.2==NameKind.free)=N then(do let c ←cellOf env p.1;pure (ForInStep.yield ((p.1,c)::r)))else pure (ForInStep.yield r):Sem<|ForInStep (List<|Str×Ad)))>>=pure:=by
  unfold closureFor;rfl
 rw[q,L];rfl
theorem zfb{env:Env}:∀{names:List (Str×jj)} {x:Str},(∀y∈names,y.2 ≠ .cell)->
  ((names.map λ(n,k)=>if(062)then(n,NameKind.cell)else(n,k)).lookup x=G .cell\/
   (names.map λ(n,k)=>if(062)then(n,NameKind.cell)else(n,k)).lookup x=G .free)->(x,NameKind.free)∈names
 |[],_,_,h=>by simp at h
 |(n,k)::r,x,C,h=>by
  let f:=@zfb env r x λy Y=>C y<|y06 _ Y;simp only[y0t]at h;cases J:x==n with
  |true =>
   let e:x=n:=by simpa using J
   subst e;by_cases M:(k==NameKind.free&&env.scope.kind ==.function&&env.kindOf x==G .cell)=N
   .let:k=.free:=by
     simp only[y07]at M;simpa using M.1.1
    subst this;show y0a
   .rw[Xp M]at h;simp only[y15,J]at h;rcases h with h|h
    .let:k=.cell:=Option.some.inj h;show Xa this<|C (x,k) y0a
    .let:k=.free:=Option.some.inj h;subst this;show y0a
  |false =>
   apply y06 _<|f ?_;by_cases M:062=N
   .rw[Xq M]at h;simpa only[y15,J]using h
   .rw[Xp M]at h;simpa only[y15,J]using h
theorem zfa{env:Env}:∀{names:List (Str×jj)} {x:Str},names.lookup x=G .free->
  ((names.map λ(n,k)=>if(062)then(n,NameKind.cell)else(n,k)).lookup x=G .cell\/
   (names.map λ(n,k)=>if(062)then(n,NameKind.cell)else(n,k)).lookup x=G .free)
 |[],_,h=>by simp at h
 |(n,k)::r,x,h=>by
  let f:=@zfa env r x;simp only[y0t];cases J:x==n with
  |true =>
   simp only[y15,J]at h;let e:k=.free:=Option.some.inj h;subst e;by_cases M:(NameKind.free==NameKind.free&&env.scope.kind ==.function&&env.kindOf n==G .cell)=N
   .rw[Xq M];left;simp only[y15,J]
   .rw[Xp M];right;simp only[y15,J]
  |false =>
   simp only[y15,J]at h;by_cases M:062=N
   .rw[Xq M];simpa only[y15,J]using f h
   .rw[Xp M];simpa only[y15,J]using f h
def cxB(X:Cx)(scope:Scope)(tn:List Str)(cp:Y6)(cl:Y4)(C:Ad)(s:ig)(H:Hp)(fp:List Ad):Cx :=
 {X with Nq:=tn++cp.map (·.2),s₀:=s,H₀:=H,env:=compEnvC scope cl C X.env,outer:=X.stack,ex:=fp,fn:=λ_=>Fa,pn:=[],xe:=λ_ _=>False}
noncomputable def stB(tn:List Str)(cp:Y6)(σ:St):St:=List.replicate tn.length B++cp.map λp=>(σ[p.1]?).getD B
structure CompOk(X:Cx)(scope:Scope)(cp:Y6):Prop where
 kind:scope.kind=.function
 nocell:∀y∈scope.names,y.2 ≠ .cell
 names:∀y∈scope.names,y.2=.local->scope.names.lookup y.1=G .local
 free:∀y∈scope.names,y.2=.free->X.env.kindOf y.1=G .cell\/X.env.kindOf y.1=G .free
 cap:∀p∈cp,X.Nq[p.1]?=G p.2/\scope.names.lookup p.2=G .free
section
variable {X:Cx}{pins:Y2}{σ:St}{H:Hp}{s:ig}{scope:Scope}{tn:List Str}{cp:Y6}{cl:Y4}{fp:List Ad}
theorem mem_of_lookup'{D:Type}:∀{l:List (Str×D)} {x:Str} {v:D},l.lookup x=G v->(x,v)∈l
 |[],_,_,h=>by simp at h
 |(n,k)::r,x,v,h=>by
  rw[y15]at h;cases J:x==n with
  |true =>
   rw[J]at h;let e:x=n:=by simpa using J
   let g:k=v:=Option.some.inj h;subst e g;show y0a
  |false=>rw[J]at h;show y06 _<|mem_of_lookup' h
theorem zm9(I:02 H s)(O:CompOk X scope cp)(A:∀x c,cl.lookup x=G c->X.env.cells.lookup x=G c)(f:∀p∈scope.names,p.2=.free->∃c,cl.lookup p.1=G c)
  (T:∀b∈fp,FpOk X pins H b/\b<s.heap.objs.size) (du:h₁.Ns s.heap.objs.size m0) (j:∀b o,s.heap.get? b=G o->h₁.get? b=G o) :
  Inv (cxB X scope tn cp cl s.heap.objs.size s H fp) [] (stB tn cp σ) H {s with heap:=h₁,toks:=t'}:=by
 let ok:(cxB X scope tn cp cl s.heap.objs.size s H fp).Ok:=by
  apply⟨I.ok.mod,O.kind,I.ok.glob,I.ok.blt,y05 _,λx y c L g=>I.ok.inj x y c (A x c L)<|A y c g,λx J=>?_,λx c J=>(by cases J),I.ok.hd,I.ok.frames,.inl R,λb U=>⟨y0m (T b U).2,λx c e=>?_⟩,
   λb o e=>I.bs b o e,y1a I.ok.bsz I.sz,λb o e U=>?_,λb U hb'=>?_,I.stack,I.stkFree⟩
  .exact f (x,.free) (zfb O.nocell J) R
  .exact(T b U).1.2.2.2.2.1 x c<|A x c e
  .rcases(T b U).1.2.2.2.1 with z|z
   .exact I.ok.noex b o e z
   .exact Xa (y0q (y0g e)<|y1a I.ok.bsz z)<|y1m _
  .rcases y08.mp (I.stkSub b hb')with z|z
   .exact(T b U).1.2.1 z
   .exact(T b U).1.2.2.1 z
 apply⟨ok,R,I.bare,Un.kept j,⟨m0,du,λi x v L g M=>?_⟩,λx c e=>?_,I.hok.fresh 08,λx c e=>I.freeC x c<|A x c e,λp E=>by simp[cxB]at E,I.hok.kept j,?_⟩
 ·-- a rl name
  let w:(tn++cp.map (·.2))[i]?=G x:=L;let Q:(List.replicate tn.length B++cp.map λp=>(σ[p.1]?).getD B)[i]?=G (G v):=g;by_cases hi:i<tn.length
  .rw[y1c<|by simpa using hi]at Q;rw[y36,Xq hi]at Q;cases Q
  .rw[y11 (by simpa using y27 hi),y2w,y03]at Q;rw[y11<|y27 hi,y03]at w;cases E:cp[i-tn.length]? with
   |none=>rw[E]at w;cases w
   |some p =>
    rw[E]at w Q;let e1'':p.2=x:=Option.some.inj w;let ky:(σ[p.1]?).getD B=G v:=Option.some.inj Q;let(c1,c2):=O.cap p<|y0k E;rw[e1'']at c1 c2;let hs:σ[p.1]?=G (G v):=by
     cases q:σ[p.1]? with
     |none=>rw[q]at ky;cases ky
     |some z=>rw[q]at ky;show congrArg G ky
    let hk':=O.free (x,.free) (mem_of_lookup' c2) rfl;let hvis:Vis X.env.scope x:=by
     rcases hk' with z|z
     .exact .inr<|.inl z
     .exact .inr<|.inr z
    let(m,hn,Y):=I.loc;let(u,r,l):=Y p.1 x v c1 hs hvis;apply⟨u,r,.inr ?_⟩;rcases l with⟨z,_⟩|⟨_,c,C,o,D,hd⟩
    .rcases hk' with y|y<;>(rw[z]at y;cases y)
    .let(c',d):=f (x,.free) (mem_of_lookup' c2) rfl;let:c'=c:=Option.some.inj<|(A x c' d).symm.trans C;subst this;show⟨zfa c2,c',d,o,j c' o D,hd⟩
 .let(v,o,D,hd):=I.cell x c<|A x c e;show⟨v,o,j c o D,hd⟩
 .change(stB tn cp σ).length=(tn++cp.map (·.2)).length;unfold stB;simp
theorem zuw{l:St}{H':Hp}{s':ig}{h':Heap}{a:Y2}(I:02 H s)(T:∀b∈fp,FpOk X pins H b)
  (J:Inv (cxB X scope tn cp cl s.heap.objs.size s H fp) a l H' s') (hs:Heap.SameBut s.heap.objs.size s'.heap h'):02 H' {s' with heap:=h'}:=by
 let ne:∀b o,s.heap.get? b=G o->b≠s.heap.objs.size:=λb o e=>y0m<|y0g e;let U:Un (frs X.stack) fp H H' s.heap h':=by
  let u:Un (frs X.stack) fp H H' s.heap s'.heap:=J.base;apply⟨λb o e n O M=>(hs.2 b<|ne b o e).trans<|u.keep b o e n O M,λb o e n O M=>?_,u.free,λb o e M=>?_,u.tups,u.frzs,u.tbls⟩
  .let(y,q):=u.slot b o e n O M;show⟨y,(hs.2 b<|ne b o e).trans q⟩
  .let(f,q):=u.there b o e M;show⟨f,(hs.2 b<|ne b o e).trans q⟩
 let fr:H' s.heap.objs.size=B:=J.free;let hok:HOk X.prog X.w H' h':=λb ob e=>by
  apply(J.hok b ob e).stay (λc v C q=>(hs.2 c ?_).trans q) (λ_ q=>q) (λ_ _ _ _ _ q=>q) λ_ _ q=>q;rintro rfl;rcases C with z|z
  .rw[←z,fr]at e;cases e
  .rw[fr]at z;cases z
 apply I.call' (s':={s' with heap:=h'}) (ch:=fp) J.os U hok J.bare λb d=>?_;let(_,f1,_,g,Q,A):=T b d;show⟨g,f1,Q,A⟩
end
def PIfs(X:Cx)(e:List Expr)(t:TT):Prop :=
 ∀(pins:Y2) (s:ig) (σ:St) (H:Hp) (Q:Bool->Hp->Prop),02 H s->t σ H Q->
  wpAny 36 X.A (forIn e N λc r=>if r=N then do let ok ←isTrue c X.env (eval c X.env);pure (ForInStep.yield ok)else pure (ForInStep.yield r)) (TP X pins σ Q) X.xe s
def tYes:TT:=λ_ H Q=>Q N H
theorem za2:PIfs X [] tYes:=λ_ _ _ H _ I h=>wpAny_tests_nil ⟨H,I,h⟩
theorem zx3(h:PT X c t):PIfs X [c] t:=λpins s σ H Q I L=>wpAny_tests_one<|h pins s σ H Q I L
theorem zk6(I:Nat->ig->Prop)
  (turn:∀n s,I n s->wpAny 88 A (j8 it) (λr s₁=>match r with
   |none=>Rq (.ok .next) s₁
   |some v=>wpAny 88 A (iY a it v) (λ_ s₂=>wpAny 88 A (assign a env v) (λ_ s₃ =>
     wpAny 88 A (forIn e N λc r=>if r=N then do let ok ←isTrue c env (eval c env);pure (ForInStep.yield ok)else pure (ForInStep.yield r)) (λok d =>
      if ok=N then wpAny 88 A (eval q env) (λx i =>
       wpAny 88 A (call (.builtin "list.append") [acc,x]) (λ_ o=>∃m,m<n/\I m o) (λ_ _=>False) i) (λ_ _=>False) d
      else∃m,m<n/\I m d) (λ_ _=>False) s₃) (λ_ _=>False) s₂) (λ_ _=>False) s₁) (λ_ _=>False) s)
  (n:Nat) (h:I n s) :
  jc 88 A (.compLoop (.ListComp q [⟨a,iter,e,0⟩] scope pos) 0 it acc env) Rq s:=by
 apply codeAny_loop R I (λn s y=>?_) n h;change wpAny _ A ((compTurn (.ListComp q [⟨a,iter,e,0⟩] scope pos) 0 it acc env).onRaise λx=>do noteFrame x env;theTreesLotGoes x) _ _ s;apply wpAny_noted ?_;rw[compTurn_list];apply ia<|je (ia<|iq (turn n s y) (λr s₁ h₁=>?_) λ_ _ f=>f.elim);cases r with
 |none=>show ib h₁
 |some v =>
  apply ia<|iq h₁ (λ_ s₂ l=>?_) λ_ _ f=>f.elim;apply ia<|iq l (λ_ s₃ g=>ia<|iq g (λok d j=>?_) λ_ _ f=>f.elim) λ_ _ f=>f.elim;cases ok with
  |false=>show ib ⟨R,j⟩
  |true =>
   show ia<|ia (iq j (λx i p=>ia<|iq p (λ_ o u=>ib<|ib ⟨R,u⟩) λ_ _ f=>f.elim) λ_ _ f=>f.elim)
def tComp(tn:List Str)(cp:Y6)(w:TI)(g:TG)(tif:TT)(te:TE):TE:=λσ H Q=>w σ H λJ H1=>∀D,H1 D=B->∃W:Nat->Nat->St->Hp->Prop,
 (∃m,W 0 m (stB tn cp σ) 045)/\∀i m A Hb,W i m A Hb->
  (J.stop i Hb/\Q 65 Hb)\/(J.go i Hb/\∀x H',J.yld i Hb x H'->g x A H' λd H2=>tif d H2 λc H3 =>
   if c=N then te d H3 λy H4=>∃ys,H4 D=G 50/\ys.length<ii/\∃O,O<m/\W (i+1) O d 059
   else∃O,O<m/\W (i+1) O d H3)
theorem zh3{X:Cx}{elt tg iter:Expr}{ifs:List Expr}{scope:Scope}{pos w:Pos}{wi:TI}{g:TG}{tif:TT}{te:TE}(tn:List Str)(cp:Y6)(O:CompOk X scope cp)(hc:X.calm=N)(hi:PI X tg iter wi)
  (j:∀cl C s H fp,PG 051 tg g) (hif:∀cl C s H fp,PIfs 051 ifs tif) (f:∀cl C s H fp,PE 051 elt te)
  (hs:∀x,jv iter X.env x=pure x) {pins:Y2} {s:ig} {σ:St} {H:Hp} {Q:VK} {Rq:Y0} {use:Option (Va->Sem Unit)} (I:02 H s) (h:tComp tn cp wi g tif te σ H Q)
  (fin:∀(D C:Ad) (H5:Hp) (s5:ig) (m:Y1),02 H5 s5->FpOk X pins H5 C->s5.heap.Ns C m->Q 65 H5->compPost 36 X.A X.xe use Rq 65 C (.ok .next) s5) :
  wpAny 36 X.A (comprehension 074 scope X.env w (newList []) Fa (eval iter X.env) use) Rq X.xe s:=by
 let(cl,a6,bo,dw):=zh6 (scope:=scope) (env:=X.env) λp E hf=>I.ok.has p.1<|O.free p E hf;apply wpAny_comprehension_free (use:=use) R hs a6 O.kind O.names<|thn (hi pins s σ H _ I h) λv s1 h1=>thn h1 λitv s2 M=>?_;let(it,fp,tn',J,H2,rfl,l,T,st2,q,rest):=M;apply i7 ?_;let I3:02 (upd H2 s2.heap.objs.size<|.lst []) {s2 with heap:=s2.heap.push {cls:=.type "list",data:=.seq ([]:List Va).toArray} }:=l.lnew (its:=[]) (t':=s2.toks) .nil<|y13 _;let(W,(m0,w0),turn):=rest s2.heap.objs.size l.fresh;let fpl:∀b∈fp,b<s2.heap.objs.size:=λb U=>by
  let(o,e,_):=T.obj _ _ st2 b U;show y0g e
 let f3:∀b∈fp,FpOk X pins (upd H2 s2.heap.objs.size<|.lst []) b:=λb U=>⟨by rw[zak<|y0m (fpl b U)];show(q b U).1,(q b U).2⟩;let sz3:(054).objs.size=s2.heap.objs.size+1:=y19 ..;apply wpAny_newFunctionEnv O.nocell (by intro y hy;simp at hy) (λh₁ du hsb=>?_) O.kind;let hk1:∀b o,(054).get? b=G o->h₁.get? b=G o:=λb o e =>
  hsb.extBut b o (y0m<|y0g e) (y04 _ e)
 let J3:=zm9 (tn:=tn) (cp:=cp) (t':=s2.toks+([]:List<|Str×Va).length) I3 O bo dw (λb U=>⟨f3 b U,by rw[sz3];show y2u<|fpl b U⟩) du hk1;let nb:tn' 0 h₁:=T.keep _ _ _ st2 λb U o e=>hk1 b o<|y04 _ e;change jc _ _ (.compStart _ 0 014 (.ref s2.heap.objs.size)<|compEnvC scope cl (054).objs.size X.env) _ _;generalize bx:cxB X scope tn cp cl (054).objs.size {s2 with heap:=s2.heap.push {cls:=.type "list",data:=.seq ([]:List Va).toArray} } (upd H2 s2.heap.objs.size<|.lst []) fp=XB at J3;let cu:XB.prog=X.prog:=by rw[←bx];rfl
 let L:XB.w=X.w:=by rw[←bx];rfl
 let hK:XB.K=X.K:=by rw[←bx];rfl
 let hA:XB.A=X.A:=by rw[←bx];rfl
 let fq:XB.env=compEnvC scope cl (054).objs.size X.env:=by rw[←bx];rfl
 let ng:XB.calm=N:=by rw[←bx];show hc
 let hxe:XB.xe=λ_ _=>False:=by rw[←bx];rfl
 let hgB:PG XB tg g:=by rw[←bx];show j _ _ _ _ _
 let hifB:PIfs XB ifs tif:=by rw[←bx];show hif _ _ _ _ _
 let heB:PE XB elt te:=by rw[←bx];show f _ _ _ _ _
 let fB:∀(pb:Y2) (Hb:Hp),(∀b∈fp,Hb b=B)->(∀b∈fp,∀p∈XB.pn++pb,p.1≠b)->∀b∈fp,FpOk XB pb Hb b:=λpb Hb hn E b U=>by
  apply⟨hn b U,?_,?_,.inl (by rw[←bx];show U),λx c e=>?_,E b U⟩
  .rw[fq];change b≠(054).objs.size;rw[sz3];show y0m<|y2u (fpl b U)
  .rw[←bx];change b∉frs X.stack;intro z;rcases y08.mp (l.stkSub b z)with y|y
   .exact(q b U).2.1 y
   .exact(q b U).2.2.1 y
  .rw[fq]at e;show(q b U).2.2.2.2.1 x c<|bo x c e
 let pn0:XB.pn=[]:=by rw[←bx];rfl
 let nh:∀s₃:ig,s₃={s2 with heap:=h₁,toks:=s2.toks+([]:List<|Str×Va).length}->
   jc 36 X.A (.compLoop 074 0 014 (.ref s2.heap.objs.size) XB.env)
    (compPost 36 X.A X.xe use Rq (.ref s2.heap.objs.size) (054).objs.size) s₃:=by
  rintro s₃ rfl;apply zk6 (λn s'=>∃i A Hb,Inv XB [] A Hb s'/\tn' i s'.heap/\(∀b∈fp,Hb b=B)/\W i n A Hb) ?_ m0 ⟨0,stB tn cp σ,_,J3,nb,λb U=>(f3 b U).1,w0⟩;rintro n s4 ⟨i,σ4,H4,I4,st4,fr4,w4⟩;rcases turn i n σ4 H4 w4 with⟨stop,qn⟩|⟨go,step⟩
  .let d:=T.done XB cu L hK ng i [] s4 σ4 H4 (λ_ _=>False) I4 (fB [] H4 fr4 λb U p E=>by rw[pn0]at E;simp at E) st4 stop;rw[hA]at d;apply thn d λr s5 ⟨hr,I5⟩=>?_;subst hr;let(mm,hn5,_):=id I5.loc;let fr5:H4 (054).objs.size=B:=by
    let z:=I5.free;rw[fq]at z;show z
   let J5:02 H4 s5:=by
    rw[←bx]at I5;show zuw (h':=s5.heap) I3 f3 I5 ⟨R,λ_ _=>rfl⟩
   show fin _ _ H4 s5 mm J5 (I3.fpOk 08 fr5) (by rw[fq]at hn5;show hn5) qn
  .let d:=T.item XB cu L hK ng i [] s4 σ4 H4 (λ_ _=>False) I4 (fB [] H4 fr4 λb U p E=>by rw[pn0]at E;simp at E) st4 go;rw[hA]at d;apply thn d λr s5 ⟨u,hr,h5⟩=>?_;subst hr;apply thn h5 λ_ s6 zz=>ex5 zz λx H6 I6 r6 zq=>?_;let(y6,st6,fr6):=zq;let I6':=I6.pinned (fB [] H6 fr6 λb U p E=>by rw[pn0]at E;simp at E)<|T.obj _ _ st6;let q6:=step x H6 y6;let a1:=hgB _ s6 σ4 H6 x u _ I6' r6 q6;rw[hxe,cu,L,hA]at a1;apply thn a1 λ_ s7 ⟨a,H7,I7,q7⟩=>?_;let a2:=hifB _ s7 a H7 _ I7 q7;rw[hxe,cu,L,hA]at a2;apply thn a2 λok s8 ⟨H8,I8,q8⟩=>?_;let again:∀{l0:St} {H9:Hp} {s9:ig},Inv XB ([]++pinsAt fp s6.heap) l0 H9 s9->(∃m',m'<n/\W (i+1) m' l0 H9)->∃m,m<n/\∃i A Hb,Inv XB [] A Hb s9/\tn' i s9.heap/\(∀b∈fp,Hb b=B)/\W i m A Hb:=λ{l0 H9 s9} I9 n9=>by
    let(m',Y,w9):=n9;apply⟨m',Y,i+1,l0,H9,I9.unpinned,T.keep _ _ _ st6 λb U o e=>(I9.pin (b,o)<|y10 _ (y10 _<|zdp U e)).1,λb U=>?_,w9⟩;let(o,e,d):=T.obj _ _ st6 b U;show(I9.pin (b,o)<|y10 _ (y10 _<|zdp U e)).2.1
   cases ok with
   |false=>show again I8 q8
   |true =>
    change wpAny _ _ _ _ _ _;let a3:=heB _ s8 a H8 _ I8 q8;rw[hxe,cu,L,hA]at a3;apply thn a3 λyv s9 zz=>ex5 zz λy H9 I9 r9 zq=>?_;let(ys,hD,ac,n9):=zq;let a4:=zks (X:=XB) _ s9 a H9 (.ref s2.heap.objs.size) [y] (.ref s2.heap.objs.size) [yv] (λ_ H'=>∃m',m'<n/\W (i+1) m' a H') I9 R (.cons r9 .nil) ⟨_,ys,y,R,R,hD,ac,n9⟩;rw[hxe,cu,L,hA]at a4;show thn a4 λ_ s10 zz=>ex5 zz λ_ H10 I10 _ q10=>again I10 q10
 rw[fq]at nh;apply codeAny_compStart_list (nh _ R)<|T.self _ 0 _ _ _ nb (nh _ R)
theorem zau(tn:List Str)(cp:Y6)(O:CompOk X scope cp)(z:X.calm=N)(hi:PI X tg iter w)
  (j:∀cl C s H fp,PG 051 tg g) (L:∀cl C s H fp,PIfs 051 ifs tif) (f:∀cl C s H fp,PE 051 elt te)
  (hs:∀x,jv iter X.env x=pure x:=by intro _;rfl) :
  PE X 074 (tComp tn cp w g tif te):=by
 intro pins s σ H Q I h;rw[eval_ListComp];apply zh3 tn cp O z hi j L f hs I h λD C H5 s5 m l A c a=>⟨m,c,λh' p=>⟨.ref D,H5,?_,R,a⟩⟩;let(y,f1,q,M,Y,A):=A;show l.turned (t':=s5.toks) (λb o U e=>(p.2 b U).trans e) y f1 M Y A
theorem ze0{X:Cx}{i:Nat}{x:Str}{elt tg iter:Expr}{ifs:List Expr}{scope:Scope}{pos Q qv:Pos}{w:TI}{g:TG}{tif:TT}{te:TE}(hN:X.Nq.Nodup)(J:X.Nq[i]?=G x)(Y:Loc X.env.scope x)(tn:List Str)(cp:Y6)(O:CompOk X scope cp)(hc:X.calm=N)(hi:PI X tg iter w)
  (j:∀cl C s H fp,PG 051 tg g) (L:∀cl C s H fp,PIfs 051 ifs tif) (f:∀cl C s H fp,PE 051 elt te)
  (hsw:jp 074 (G<|.Name x Q) qv.line X.env=pure N:=by rfl) (hs:∀x,jv iter X.env x=pure x:=by intro _;rfl)
  (T:X.fn x=N\/X.env.scope.names.lookup x=G .local:=by first|show .inl rfl|show .inr rfl|assumption) :
  PS X (.Assign [.Name x Q] 074 qv) (tAsg (tComp tn cp w g tif te)<|gName i):=by
 intro pins s σ H D I h;rw[exec_Assign_Name_used _ _ _ _ hsw];apply ia<|je (ia ?_);change wpAny _ X.A (do let _ ←comprehension (.ListComp elt [⟨tg,iter,ifs,0⟩] scope pos) scope X.env _ (newList []) Fa (eval iter X.env) (G<|assign (.Name x Q) X.env)) _ _ s;apply ia<|iq (zh3 tn cp O hc hi j L f hs (Rq:=λ_ s'=>SP X pins D .next s') I h λE C H5 s5 m l A c q5=>?_) (λ_ _ q=>ib<|ib q) λ_ _ e=>e;let(y,f1,f2,M,f4,A):=A;change wpAny _ X.A (assign (.Name x Q) X.env<|.ref E) _ _ _;apply wpAny_assign_Name<|zjt l hN J Y (v:=.ref E) R (λs6 u ⟨a,r,d⟩=>?_) T;let ne:C≠a:=by
  rcases d with e|e
  .rw[e];show f1
  .exactλz=>f4 x a e z.symm
 apply⟨m,c.sameBut r ne,λh' p=>⟨_,H5,u.turned (t':=s6.toks) (λb o U e=>(p.2 b U).trans e) y f1 M f4 A,q5⟩⟩
noncomputable def Its(z:Str):It:=⟨λi _=>i<z.cps.size,λi H x H'=>H'=H/\∃c,z.cps[i]?=G c/\x=.str ⟨#[c]⟩,λi _=>z.cps.size<=i⟩
theorem znh{P:ik}{w:World}{K:Frag}{a:Expr}(z:Str)(t:Tok)(it:Ad)(ty:String)(C:ty="str_ascii_iterator"\/ty="str_iterator"):
  Turn P w K a (Its z) [it] it (λi h=>h.IsStrIter it ty z t i) where
 mem:=by simp
 obj:=λi h st b U=>by
  let e:b=it:=by simpa using U
  subst e;let(o,e,c,d):=st;show⟨o,e,λv z=>by rw[d]at z;cases z⟩
 keep:=λi h h' st k=>by
  let(o,e,r):=st;show⟨o,k it 05 o e,r⟩
 item:=by
  intro X l L p hc i pins s σ H E I T st j;subst l L p;let(y,f1,q,M,Y,g):=T it 05;let hi:i<z.cps.size:=j;let J:z.cps[i]?=G z.cps[i]:=by simp[hi]
  let f:(["enumerate","zip","dict_itemiterator","dict_reverseitemiterator","odict_iterator","itertools.zip_longest","itertools.pairwise"].contains ty)=Fa:=by
   rcases C with e|e<;>(rw[e];decide)
  let fin:∀h',h'.IsStrIter it ty z t (i+1)->Heap.SameBut it s.heap h'->∃u,G (Va.str ⟨#[z.cps[i]]⟩ s.toks)=G u/\
    wpAny 36 X.A (iY a 014 u) (λ_ s2=>∃x H',02 H' s2/\RelV x u/\(Its z).yld i H x H'/\s2.heap.IsStrIter it ty z t (i+1)/\∀b∈[it],H' b=B) E {s with heap:=h',toks:=s.toks+1}:=λh' D sb=>by
   let I1:02 H {s with heap:=h',toks:=s.toks+1}:=I.turned (t':=s.toks+1) (λb o U e=>(sb.2 b U).trans e) y f1 M Y g;let(o,e,c,d):=id D;show⟨_,R,zw9 (s:={s with heap:=h',toks:=s.toks+1}) e c d f ⟨.str ⟨#[z.cps[i]]⟩,H,I1,⟨_,R⟩,⟨R,_,J,R⟩,D,λb U=>(T b U).1⟩⟩
  rcases C with e|e
  .subst e;show wpAny_pyNext_ascii_item st J fin
  .subst e;show wpAny_pyNext_wide_item st J fin
 done:=by
  intro X l L p hc i pins s σ H E I T st j;subst l L p;let(y,f1,q,M,Y,g):=T it 05;let hi:z.cps.size<=i:=j;let J:z.cps[i]?=B:=by simp[hi]
  rcases C with e|e
  .subst e;show wpAny_pyNext_ascii_end 024 st J λh' O=>⟨R,I.turned (t':=s.toks) (λb o U e=>O b o U e) y f1 M Y g⟩
  .subst e;show wpAny_pyNext_wide_end 024 st J λh' O=>⟨R,I.turned (t':=s.toks) (λb o U e=>O b o U e) y f1 M Y g⟩
 self:=by
  intro A i s Q E st h;rcases C with e|e
  .subst e;show wpAny_pyIter_striter_ascii st h
  .subst e;show wpAny_pyIter_striter_wide st h
def iStr(tl:TE):TI:=λσ H Rq=>tl σ H λx H1=>∃z,x=.str z/\Rq (Its z) H1
theorem pi_str{X:Cx}{a l:Expr}{tl:TE}(Y:PE X l tl):PI X a l (iStr tl):=by
 intro pins s σ H Rq I h;apply thn (Y pins s σ H _ I h) λv s1 zz=>ex5 zz λx H1 I1 r1 A=>?_;let(z,e,q):=A;subst e;let(t,rfl):=r1;let c:∀b∈[s1.heap.objs.size],FpOk X pins H1 b:=λb U=>by
  let e:b=s1.heap.objs.size:=by simpa using U
  subst e;show I1.fpOk 08<|I1.hok.fresh 08
 cases d:z.cps.all (· < 128)
 .exact wpAny_pyIter_wide d ⟨s1.heap.objs.size,[s1.heap.objs.size],_,_,H1,R,I1.kept (t':=s1.toks) λb o e=>y04 _ e,znh z t _ "str_iterator"<|.inr R,⟨_,y0d _ R,R,R⟩,c,q⟩
 .exact wpAny_pyIter_ascii d ⟨s1.heap.objs.size,[s1.heap.objs.size],_,_,H1,R,I1.kept (t':=s1.toks) λb o e=>y04 _ e,znh z t _ "str_ascii_iterator" 028,⟨_,y0d _ R,R,R⟩,c,q⟩
def rSlS:V->Option Int->Option Int->Hp->VK->Prop:=λx lo hi H Q=>∃z,x=.str z/\z.length<=ii/\Q (.str<|Txt.slice z lo hi) H
theorem sl_str:SlR X rSlS:=by
 intro pins s σ H x v g vu lo hi y Q I T hs A C h;let(z,rfl,hz,q):=h;let(t,rfl):=T;apply⟨"str",_,F.slot_str_getitem.lookup,typeIs_str _ _ _,?_⟩;let go:∀(l u:Option<|Int×Tok),g=partValue l->vu=partValue u->lo=l.map (·.1)->hi=u.map (·.1)->wpAny 36 X.A (jJ (.str z t)<|.ref y) 037 X.xe s:=by
  rintro l u rfl rfl rfl rfl;apply wpAny_getItem_str_slice (l:=l) (u:=u) (st:=B) ?_ R ?_
  .let(o,e,c,d):=hs;show⟨o,e,c,d⟩
  .exact post_val_or_str ⟨y1a (Txt.slice_le z _ _) hz,λt' k=>⟨.str _,H,I.tok _,⟨_,R⟩,q⟩⟩
 cases A with
 |none =>
  cases C with
  |none=>show go B B R R R R
  |int j u=>show go B (G (j,u)) R R R R
 |int i t' =>
  cases C with
  |none=>show go (G (i,t')) B R R R R
  |int j u=>show go (G (i,t')) (G (j,u)) R R R R
theorem zm6:CallR X (.builtin "isinstance") (λxs H Q=>∃x T t b,xs=[x,.ty T]/\TyOf X.K H x t/\PySem.W.kitOne X.K t (.type T)=G b/\Q (.bl b) H):=by
 intro pins s σ H xs us Q I r h;let(x,T,t,b,rfl,ty,e,q):=h;let(u,w',rfl,c,d):=vals2 r;cases(show w'=Va.type T from d);show zte I c ty e λE=>⟨.bl b,H,I.tok _,R,q⟩
section
open PyProof.Rows.LSm
theorem zo5:∀{us:List Va},Vals (bs.map V.bl) us->BoolsAre us bs:=by
 induction bs with
 |nil=>intro us r;rw[y31]at r;cases r;show .nil
 |cons b bs f =>
  intro us r;rw[y0t]at r;cases r with
  |cons r1 E =>
   cases(show _=Va.bool b from r1);show .cons b<|f E
theorem zm8(hc:X.calm=N):CallR X (.builtin "all") (λxs H Q=>∃(p:Ad) (bs:List Bool),xs=[.ref p]/\SqL X.K H p (bs.map V.bl)/\Q (.bl<|bs.all id) H):=by
 intro pins s σ H xs us Q I r h;let(p,bs,rfl,J,q):=h;let(u,rfl,T):=vals1 r;cases(show u=Va.ref p from T);let(vs,f,c,hz):=I.list J;let Y:=c.isList;let U:=zo5 f;let o:p<s.heap.objs.size:=by let(_,e,_):=Y;show y0g e
 apply call_all_walk<|jb Y ?_;apply⟨s.heap.objs.size,[s.heap.objs.size,p],[s.heap.objs.size],vs.toArray.size,_,_,λi=>(bs[i]?).getD N,R,Walks.list (A:=X.A.in1) 024 _ p (y0m o) vs.toArray,
  ⟨⟨_,y0d _ R,R,R⟩,Y.push _⟩,λi v s' d E' l g=>?_,λh' E j=>?_⟩
 .let(b,e,rfl):=U.get i v (by simpa using l);simp only[e,y17]at g;show iC g
 .let e:((List.range vs.toArray.size).all λi=>(bs[i]?).getD N)=bs.all id:=by
   rw[y09,U.length];show range_all bs
  rw[e];show⟨.bl _,H,I.kept<|kept_iter j,R,q⟩
theorem zm7(hc:X.calm=N):CallR X (.builtin "any") (λxs H Q=>∃(p:Ad) (bs:List Bool),xs=[.ref p]/\SqL X.K H p (bs.map V.bl)/\Q (.bl<|bs.any id) H):=by
 intro pins s σ H xs us Q I r h;let(p,bs,rfl,J,q):=h;let(u,rfl,T):=vals1 r;cases(show u=Va.ref p from T);let(vs,f,c,hz):=I.list J;let Y:=c.isList;let U:=zo5 f;let o:p<s.heap.objs.size:=by let(_,e,_):=Y;show y0g e
 apply call_any_walk<|jb Y ?_;apply⟨s.heap.objs.size,[s.heap.objs.size,p],[s.heap.objs.size],vs.toArray.size,_,_,λi=>(bs[i]?).getD Fa,R,Walks.list (A:=X.A.in1) 024 _ p (y0m o) vs.toArray,
  ⟨⟨_,y0d _ R,R,R⟩,Y.push _⟩,λi v s' d E' l g=>?_,λh' E j=>?_⟩
 .let(b,e,rfl):=U.get i v (by simpa using l);simp only[e,y17]at g;show iC g
 .let e:((List.range vs.toArray.size).any λi=>(bs[i]?).getD Fa)=bs.any id:=by
   rw[y09,U.length];show range_any bs
  rw[e];show⟨.bl _,H,I.kept<|kept_iter j,R,q⟩
theorem zk7(hc:X.calm=N):CallR X (.builtin "sum") (λxs H Q=>∃(p:Ad) (ns:List Int),xs=[.ref p]/\SqL X.K H p 034/\Q (.int ns.sum) H):=by
 intro pins s σ H xs us Q I r h;let(p,ns,rfl,J,q):=h;let(u,rfl,T):=vals1 r;cases(show u=Va.ref p from T);let(vs,f,c,hz):=I.list J;let hi:=ze3 f;let(ys,C):=hi.allInts.items;let w:s.heap.IsList p (intItems ys):=C▸c.isList;apply sum_intListG 024 w λh' E t' j=>?_;let L:ns=ys.toList.map (·.1):=by
  rw[←nums_intItems,←C];show(show numsOf vs.toArray.toList=ns from hi.numsOf).symm
 let g:preSum (numAt ys) ys.size=ns.sum:=by
  rw[preSum_eq,y0l 05,L]
 rw[g];show⟨.int _,H,I.kept j,⟨_,R⟩,q⟩
end
def rZfill:V->List V->Hp->VK->Prop:=λx vs H Q=>∃z i,x=.str z/\vs=[.int i]/\PadOk i=N/\Q (.str<|Txt.zfill z i) H
def EqOk(X:Cx)(k:Nat)(H:Hp)(x y:V)(b:Bool):Prop:=∀(pins:Y2) (σ:St) (s:ig) (A:io) (u v:Va),A.units+k<cLine->02 H s->RelV x u->RelV y v->SeqAt.EqAt A s u v b
def RcOk(X:Cx)(k:Nat)(H:Hp)(x y:V)(b:Bool):Prop:=∀(pins:Y2) (σ:St) (s:ig) (A:io) (u v:Va),A.units+k<cLine->02 H s->RelV x u->RelV y v->SeqAt.RcAt A s u v b
section
variable {X:Cx}{k:Nat}{H:Hp}{x y:V}{a b:Ad}{xs ys:List V}
theorem zgs(l:flatV x=N)(c:flatV y=N):EqOk X k H x y (eqV x y):=λ_ _ _ _ _ _ _ _ T d=>ztw T d l c
theorem Vals.at(r:Vals xs us)(h:j<us.length):∃(h':j<xs.length),RelV xs[j] us[j]:=by
 let Y:=r.length;let h':j<xs.length:=by omega
 let(u,e,q):=r.get (i:=j) (x:=xs[j]) (by simp[h']);rw[y00 h]at e;cases e;show⟨h',q⟩
theorem zpn(J:SqL X.K H a xs)(C:SqL X.K H b ys)(Y:xs.length=ys.length)(e:Nat->Bool)(f:∀j (O:j<xs.length) (M:j<ys.length),EqOk X k H xs[j] ys[j]<|e j):
  RcOk X (k+1) H 04 49 ((List.range xs.length).all e):=λpins σ s A u v U I T d=>by
 cases(show u=Va.ref a from T);cases(show v=Va.ref b from d);let(us,r1,r,_):=I.list J;let(vs,E,p2,_):=I.list C;let l1:=r1.length;let l2:=E.length;let q:=SeqAt.RcAt.lists (A:=A) (e:=e) r.isList p2.isList (by rw[y09,y09];omega) 01 λj O M=>by
  rw[y09]at O M;let(g1,l):=r1.at O;let(L,w):=E.at M;show f j g1 L pins σ s A.in1 _ _ (by change A.units+1+k<cLine;omega) I (by simpa using l) (by simpa using w)
 rw[y09,←l1]at q;show q
theorem zrq(J:SqL X.K H a xs)(C:SqL X.K H b ys)(Y:xs.length≠ys.length):RcOk X k H 04 49 Fa:=λpins σ s A u v U I T d=>by
 cases(show u=Va.ref a from T);cases(show v=Va.ref b from d);let(us,r1,r,_):=I.list J;let(vs,E,p2,_):=I.list C;let l1:=r1.length;let l2:=E.length;show SeqAt.RcAt.lists_lengths r.isList p2.isList (by rw[y09,y09];simp;omega) 01
theorem zrp(J:SqT X.K H a xs)(C:SqT X.K H b ys)(e:Nat->Bool)(f:∀j (O:j<xs.length) (M:j<ys.length),EqOk X k H xs[j] ys[j]<|e j):
  RcOk X (k+1) H 04 49 ((List.range<|min xs.length ys.length).all e&&xs.length==ys.length):=λpins σ s A u v U I T d=>by
 cases(show u=Va.ref a from T);cases(show v=Va.ref b from d);let(us,r1,r,_):=I.tuple J;let(vs,E,p2,_):=I.tuple C;let l1:=r1.length;let l2:=E.length;let q:=SeqAt.RcAt.tuples (A:=A) (e:=e) r p2 01 λj O M=>by
  rw[y09]at O M;let(g1,l):=r1.at O;let(L,w):=E.at M;show f j g1 L pins σ s A.in1 _ _ (by change A.units+1+k<cLine;omega) I (by simpa using l) (by simpa using w)
 rw[y09,y09,←l1,←l2]at q;show q
end
def rEqD(X:Cx)(k:Nat):R2:=λx y H Q=>∃c,RcOk X k H x y c/\Q (.bl c) H
theorem zx5(U:X.A.units+k<cLine):OpR X (i4 .Eq) (rEqD X k):=by
 intro pins s σ H x y v u Q I T d h;let(c,r,q):=h;show r pins σ s X.A v u U I T d _ _ _ _ ⟨.bl c,H,I,R,q⟩
def CW(D:Ad)(n:Nat)(Pv:Nat->List V->St->Hp->Prop)(i m:Nat)(σ:St)(H:Hp):Prop:=m=n-i/\i<=n/\∃ys,H D=G 50/\ys.length<=i/\Pv i ys σ H
def CStep(D:Ad)(n i:Nat)(Pv:Nat->List V->St->Hp->Prop)(d:St)(y:V)(H4:Hp):Prop :=
 ∃ys,H4 D=G 50/\ys.length<ii/\∃O,O<n-i/\CW D n Pv (i+1) O d 059
def CSkip(D:Ad)(n i:Nat)(Pv:Nat->List V->St->Hp->Prop)(d:St)(H3:Hp):Prop:=∃O,O<n-i/\CW D n Pv (i+1) O d H3
section
variable {D:Ad}{Q:VK}{g:TG}{tif:TT}{te:TE}{σ0:St}{H1:Hp}{n i:Nat}{Pv:Nat->List V->St->Hp->Prop}
theorem cstep(I:n<=ii)(hi:i<n)(u:H4 D=G 50)(Y:ys.length<=i)(h:Pv (i+1) (ys++[y]) d 059):CStep D n i Pv d y H4 :=
 ⟨ys,u,by omega,n-(i+1),by omega,R,hi,ys++[y],zao,by rw[y0e,y0s];omega,h⟩
theorem cskip(hi:i<n)(u:H3 D=G 50)(Y:ys.length<=i)(h:Pv (i+1) ys d H3):CSkip D n i Pv d H3 :=
 ⟨n-(i+1),by omega,R,hi,ys,u,by omega,h⟩
theorem zmy{J:It}(Pv:Nat->List V->St->Hp->Prop)(I:n<=ii)(C:Pv 0 [] σ0 045)
  (f:∀i ys σ H,i<n->H D=G 50->Pv i ys σ H->J.go i H) (a:∀ys σ H,H D=G 50->Pv n ys σ H->J.stop n H)
  (hs:∀i ys σ H,i<n->H D=G 50->ys.length<=i->Pv i ys σ H->∀x H',J.yld i H x H'->g x σ H' λd H2=>tif d H2 λc H3 =>
   if c=N then te d H3 λy H4=>CStep D n i Pv d y H4 else CSkip D n i Pv d H3)
  (hd:∀ys σ H,H D=G 50->ys.length<=n->Pv n ys σ H->Q 65 H) :
  ∃W:Nat->Nat->St->Hp->Prop,(∃m,W 0 m σ0 045)/\∀i m A Hb,W i m A Hb->
   (J.stop i Hb/\Q 65 Hb)\/(J.go i Hb/\∀x H',J.yld i Hb x H'->g x A H' λd H2=>tif d H2 λc H3 =>
    if c=N then te d H3 λy H4=>∃ys,H4 D=G 50/\ys.length<ii/\∃O,O<m/\W (i+1) O d 059
    else∃O,O<m/\W (i+1) O d H3):=by
 apply⟨CW D n Pv,⟨n,by omega,y13 _,[],zao,y05 _,C⟩,?_⟩;rintro i m σ H ⟨rfl,hi,ys,u,Y,p⟩;by_cases o:i<n
 .exact .inr ⟨f i ys σ H o u p,hs i ys σ H o u Y p⟩
 .let e:i=n:=by omega
  subst e;show .inl ⟨a ys σ H u p,hd ys σ H u Y p⟩
theorem zxl(Pv:Nat->List V->St->Hp->Prop)(I:z.cps.size<=ii)(o:Pv 0 [] σ0 045)
  (hs:∀i ys σ H c,i<z.cps.size->z.cps[i]?=G c->H D=G 50->ys.length<=i->Pv i ys σ H->g (.str ⟨#[c]⟩) σ H λd H2=>tif d H2 λc H3 =>
   if c=N then te d H3 λy H4=>CStep D z.cps.size i Pv d y H4 else CSkip D z.cps.size i Pv d H3)
  (hd:∀ys σ H,H D=G 50->ys.length<=z.cps.size->Pv z.cps.size ys σ H->Q 65 H) :
  ∃W:Nat->Nat->St->Hp->Prop,(∃m,W 0 m σ0 045)/\∀i m A Hb,W i m A Hb->
   ((Its z).stop i Hb/\Q 65 Hb)\/((Its z).go i Hb/\∀x H',(Its z).yld i Hb x H'->g x A H' λd H2=>tif d H2 λc H3 =>
    if c=N then te d H3 λy H4=>∃ys,H4 D=G 50/\ys.length<ii/\∃O,O<m/\W (i+1) O d 059
    else∃O,O<m/\W (i+1) O d H3) :=
 zmy Pv I o (λi _ _ _ hi _ _=>hi) (λ_ _ _ _ _=>y05 _) (λi ys σ H hi u Y p x H' y=>by
  let(e,c,C,ex):=y;subst e ex;show hs i ys σ _ c hi C u Y p) hd
theorem zug{K:Frag}{a:Ad}{xs:List V}(Pv:Nat->List V->St->Hp->Prop)(I:xs.length<=ii)(C:Pv 0 [] σ0 045)
  (Y:∀i ys σ H,i<=xs.length->H D=G 50->Pv i ys σ H->SqL K H a xs)
  (hs:∀i ys σ H x,i<xs.length->xs[i]?=G x->H D=G 50->ys.length<=i->Pv i ys σ H->g x σ H λd H2=>tif d H2 λc H3 =>
   if c=N then te d H3 λy H4=>CStep D xs.length i Pv d y H4 else CSkip D xs.length i Pv d H3)
  (hd:∀ys σ H,H D=G 50->ys.length<=xs.length->Pv xs.length ys σ H->Q 65 H) :
  ∃W:Nat->Nat->St->Hp->Prop,(∃m,W 0 m σ0 045)/\∀i m A Hb,W i m A Hb->
   ((Itl K a).stop i Hb/\Q 65 Hb)\/((Itl K a).go i Hb/\∀x H',(Itl K a).yld i Hb x H'->g x A H' λd H2=>tif d H2 λc H3 =>
    if c=N then te d H3 λy H4=>∃ys,H4 D=G 50/\ys.length<ii/\∃O,O<m/\W (i+1) O d 059
    else∃O,O<m/\W (i+1) O d H3) :=
 zmy Pv I C (λi ys σ H hi u p=>⟨xs,xs[i],Y i ys σ H (y1o hi) u p,by simp[hi]⟩) (λys σ H u p=>⟨xs,Y _ ys σ H 08 u p,y05 _⟩) (λi ys σ H hi u w p x H' y=>by
  let(e,y):=y;subst e;show hs i ys σ _ x hi (y xs<|Y i ys σ _ (y1o hi) u p) u w p) hd
end
section
variable {κ:Type}[DecidableEq κ]
noncomputable def valV(kvs:List<|κ×V)(k:κ):Option V:=(kvs.find? λC=>decide (C.1=k)).map (·.2)
noncomputable def putK(kvs:List<|κ×V)(k:κ)(v:V):List (κ×V) :=
 if(kvs.any λC=>decide (C.1=k))=N then kvs.map (λC=>if C.1=k then(C.1,v)else C)else kvs++[(k,v)]
theorem znf:valV ([]:List<|κ×V) k=B:=rfl
theorem zbg{p:κ×V}(e:p.1=k):valV (p::r) k=G p.2:=by simp[valV,y2b,e]
theorem zbh{p:κ×V}(e:¬p.1=k):valV (p::r) k=valV r k:=by simp[valV,y2b,e]
theorem zd8(k:κ):∀kvs:List<|κ×V,(kvs.any λC=>decide (C.1=k))=(valV kvs k).isSome
 |[]=>rfl
 |p::r=>by
  rw[y37];by_cases e:p.1=k
  .simp only[zbg e,Xg e,Bool.true_or,Option.isSome_some]
  .rw[zbh e,Xf e,y45];show zd8 k r
theorem zng(k j:κ)(y:V):∀kvs:List<|κ×V,valV (kvs.map λC=>if C.1=k then(C.1,y)else C) j=(valV kvs j).map λx=>if j=k then y else x
 |[]=>rfl
 |p::r=>by
  let f:=zng k j y r;rw[y0t];by_cases h:p.1=k
  .rw[Xq h];by_cases e:p.1=j
   .rw[zbg (p:=(p.1,y)) e,zbg e,y20,Xq<|e.symm.trans h]
   .rw[zbh (p:=(p.1,y)) e,zbh e,f]
  .rw[Xp h];by_cases e:p.1=j
   .rw[zbg (p:=p) e,zbg e,y20,Xp λz=>h<|e.trans z]
   .rw[zbh (p:=p) e,zbh e,f]
theorem zjp(k j:κ)(y:V):∀kvs:List<|κ×V,valV kvs k=B->valV (kvs++[(k,y)]) j=if j=k then G y else valV kvs j
 |[],_=>by
  by_cases e:k=j
  .rw[Xq e.symm];show zbg (p:=(k,y)) e
  .rw[Xp λz=>e z.symm];show zbh (p:=(k,y)) e
 |p::r,I=>by
  rw[y1u];let E:¬p.1=k:=λz=>by rw[zbg z]at I;cases I
  rw[zbh E]at I;let f:=zjp k j y r I;by_cases e:p.1=j
  .rw[zbg e,zbg e,Xp λz=>E<|e.trans z]
  .rw[zbh e,zbh e,f]
theorem zne(kvs:List<|κ×V)(k j:κ)(y:V):valV (putK kvs k y) j=if j=k then G y else valV kvs j:=by
 unfold putK;by_cases a:(kvs.any λC=>decide (C.1=k))=N
 .rw[Xq a,zng];rw[zd8]at a;by_cases e:j=k
  .let(x,J):=y2l.mp a;rw[Xq e,e,J,y20,Xq rfl]
  .rw[Xp e];cases valV kvs j with
   |none=>rfl
   |some x=>rw[y20,Xp e]
 .rw[Xp a];apply zjp k j y kvs ?_;rw[zd8]at a;cases q:valV kvs k with
  |none=>rfl
  |some x=>rw[q]at a;show(a R).elim
theorem zd6(kvs:List<|κ×V)(k:κ)(v:V):(putK kvs k v).length<=kvs.length+1:=by
 unfold putK;split
 .rw[y01];omega
 .rw[y0e,y0j,y1e];omega
theorem zn1{kvs:List (κ×V)}{k:κ}(v:V)(h:valV kvs k=B):putK kvs k v=kvs++[(k,v)]:=by
 unfold putK;rw[zd8,h];show Xp 07
theorem RelO.isSome_eq(r:RelO o u):o.isSome=u.isSome:=by
 cases o with
 |none=>cases u with
  |none=>rfl
  |some _=>show(show False from r).elim
 |some _=>cases u with
  |none=>show(show False from r).elim
  |some _=>rfl
theorem KV.val(r:KV kvs vs)(k:κ):RelO (valV kvs k) (lm vs k):=by
 unfold KV at r
 induction r with
 |nil=>show True.intro
 |@cons p q ps qs h t f =>
  let(O,M):=h;by_cases e:p.1=k
  .let l:q.1=k:=O.symm.trans e;let b:lm (q::qs) k=G q.2:=by simp[lm,y2b,l]
   rw[zbg e,b];show M
  .let l:¬q.1=k:=λz=>e<|O.trans z;let b:lm (q::qs) k=lm qs k:=by simp[lm,y2b,l]
   rw[zbh e,b];show f
theorem KV.any(r:KV kvs vs)(k:κ):(kvs.any λC=>decide (C.1=k))=vs.any λC=>decide (C.1=k):=by
 unfold KV at r
 induction r with
 |nil=>rfl
 |cons h t f=>rw[y37,y37,f,h.1]
theorem KV.repl(r:KV kvs vs)(k:κ)(d:RelV y u):
  KV (kvs.map λC=>if C.1=k then(C.1,y)else C) (vs.map λC=>if C.1=k then(C.1,u)else C):=by
 unfold KV at r ⊢
 induction r with
 |nil=>show .nil
 |@cons p q ps qs h t f =>
  rw[y0t,y0t];apply .cons ?_ f;let(O,M):=h;by_cases e:p.1=k
  .rw[Xq e,Xq<|O.symm.trans e];show⟨O,d⟩
  .rw[Xp e,Xp λz=>e<|O.trans z];show⟨O,M⟩
theorem KV.put(r:KV kvs vs)(k:κ)(d:RelV y u):KV (putK kvs k y) (stored vs k u):=by
 unfold putK stored;rw[r.any k];by_cases e:(vs.any λC=>decide (C.1=k))=N
 .rw[Xq e,Xq e];show r.repl k d
 .rw[Xp e,Xp e];show Paired.snoc r ⟨R,d⟩
theorem KV.length{kvs:List (κ×V)}{vs:List (κ×Va)}(r:KV kvs vs):kvs.length=vs.length:=Paired.length r
end
theorem ztb(r:RelV (kV k) u):(035).is k u=N:=by
 cases k with
 |inl i=>let(t,e):=(show∃t,u=Va.int i t from r);subst e;show zmq P w i t
 |inr x=>let(t,e):=(show∃t,u=Va.str x t from r);subst e;show zmp P w x t
theorem kV_inj(e:kV a=kV b):a=b:=by
 cases a with
 |inl i=>cases b with
  |inl j=>have l:V.int i=V.int j:=e;injection l with l;rw[l]
  |inr y=>show nomatch(show V.int i=V.str y from e)
 |inr x=>cases b with
  |inl j=>show nomatch(show V.str x=V.int j from e)
  |inr y=>have l:V.str x=V.str y:=e;injection l with l;rw[l]
theorem zky:∀{ks:List Key} {us:List Va},Vals (ks.map kV) us->ItemsAre 035 ks us
 |[],_,r=>by rw[y31]at r;cases r;show .nil
 |k::ks,_,r=>by
  rw[y0t]at r;cases r with
  |cons h t=>show .cons (ztb h)<|zky t
abbrev KT(H:Hp):List (List Key×V)->List (List Key×Ad×Va)->Prop:=i8 λp q=>p.1=q.1/\H q.2.1=G (.tup<|p.1.map kV)/\RelV p.2 q.2.2
theorem KT.val(r:KT H kvs xs)(k:List Key):RelO (valV kvs k) ((atKey xs k).map (·.2)):=by
 induction r with
 |nil=>show True.intro
 |@cons p q ps qs h t f =>
  let(O,_,M):=h;by_cases e:p.1=k
  .let l:q.1=k:=O.symm.trans e;let b:atKey (q::qs) k=G q.2:=by simp[atKey,y2b,l]
   rw[zbg e,b];show M
  .let l:¬q.1=k:=λz=>e<|O.trans z;let b:atKey (q::qs) k=atKey qs k:=by simp[atKey,y2b,l]
   rw[zbh e,b];show f
theorem KT.repl(r:KT H kvs xs)(k:List Key)(d:RelV y u):
  KT H (kvs.map λC=>if C.1=k then(C.1,y)else C) (xs.map<|putAt k u):=by
 induction r with
 |nil=>show .nil
 |@cons p q ps qs h t f =>
  rw[y0t,y0t];apply .cons ?_ f;let(O,M,A):=h;unfold putAt;by_cases e:p.1=k
  .rw[Xq e,Xq<|O.symm.trans e];show⟨O,M,d⟩
  .rw[Xp e,Xp λz=>e<|O.trans z];show⟨O,M,A⟩
theorem KT.put(r:KT H kvs xs)(k:List Key)(U:H b=G (.tup<|k.map kV))(d:RelV y u):
  KT H (putK kvs k y) (storedH xs k b u):=by
 let e:(kvs.any λC=>decide (C.1=k))=(atKey xs k).isSome:=by
  rw[zd8,(r.val k).isSome_eq,Option.isSome_map]
 unfold putK storedH;rw[e];by_cases q:(atKey xs k).isSome=N
 .rw[Xq q,Xq q];show r.repl k d
 .rw[Xp q,Xp q];show Paired.snoc r ⟨R,U,d⟩
theorem KT.keeps(r:KT H kvs xs)(p:∀b ys,H b=G (.tup ys)->H' b=G (.tup ys)):KT H' kvs xs :=
 Paired.mapP r λ_ _ z=>⟨z.1,p _ _ z.2.1,z.2.2⟩
section
variable {P:ik}{w:World}{H:Hp}{h:Heap}{a:Ad}
theorem rd_of(ok:HOk P w H h)(e:Rd H a u):ObjOk P w H h a u:=e.ok ok
theorem ztz(ok:HOk P w H h)(e:Rd H a<|.dK kvs):kvs.length<=ii/\(a==iM)=Fa/\∃vs,KV kvs vs/\h.DictOf 035 a vs :=
 show ObjOk P w H h a (.dK kvs)from rd_of ok e
theorem dk_of(ok:HOk P w H h)(e:H a=G (.dK kvs)):kvs.length<=ii/\(a==iM)=Fa/\∃vs,KV kvs vs/\h.DictOf 035 a vs:=ztz ok<|.inl e
theorem zkw(ok:HOk P w H h)(e:H a=G (.tup<|ks.map kV)):(jR 035).is h ks a:=by
 let(_,its,r,o,O,M,n,A):=(show ObjOk P w H h a (.tup<|ks.map kV)from ok a _ e);show⟨o,its.toArray,n,O,M,A,by simpa using zky r⟩
theorem zxh(ok:HOk P w H h)(e:Rd H a<|.dT kvs):kvs.length<=ii/\(a==iM)=Fa/\
  ∃xs,KT H kvs xs/\h.DictOfH (jR 035) a xs:=by
 let(z,y,xs,r,o,C,ep,O,M,A,L,E):=(show ObjOk P w H h a (.dT kvs)from rd_of ok e);apply⟨z,y,xs,r,o,C,ep,O,M,A,L,λx J=>?_,E⟩;let all:∀{l:List (List Key×V)} {m:List (List Key×Ad×Va)},KT H l m->∀x∈m,(jR 035).is h x.1 x.2.1:=by
  intro l m q
  induction q with
  |nil=>intro x J;show nomatch J
  |@cons p q ps qs v t f =>
   intro x J;rcases y08.mp J with e|J
   .subst e;show zkw ok (by rw[←v.1];show v.2.1)
   .exact f x J
 show all r x J
theorem dt_of(ok:HOk P w H h)(e:H a=G (.dT kvs)):kvs.length<=ii/\(a==iM)=Fa/\
  ∃xs,KT H kvs xs/\h.DictOfH (jR 035) a xs:=zxh ok<|.inl e
end
def KeyV(k:Key)(y:V):Prop:=y=kV k\/∃b,y=.bl b/\k=.inl (blI b)
theorem KeyV.is(h:KeyV k y)(r:RelV y u):(035).is k u=N:=by
 rcases h with rfl|⟨b,rfl,rfl⟩
 .exact ztb r
 .cases(show u=Va.bool b from r);show zw3 b
def DGet(H:Hp)(a:Ad)(y:V)(r:Option V):Prop :=
 (∃kvs k,Rd H a (.dK kvs)/\KeyV k y/\r=valV kvs k)\/∃kvs k b,Rd H a (.dT kvs)/\y=.ref b/\H b=G (.tup<|k.map kV)/\r=valV kvs k
def DPut(H:Hp)(a:Ad)(y v:V)(H':Hp):Prop :=
 (∃kvs k,H a=G (.dK kvs)/\KeyV k y/\kvs.length<ii/\H'=upd H a (.dK<|putK kvs k v))\/
 ∃kvs k b,H a=G (.dT kvs)/\y=.ref b/\H b=G (.tup<|k.map kV)/\kvs.length<ii/\H'=upd H a (.dT<|putK kvs k v)
theorem DGet.k{H:Hp}{a:Ad}{kvs:List (Key×V)}{k:Key}(e:H a=G (.dK kvs)):DGet H a (kV k) (valV kvs k):=.inl ⟨kvs,k,.inl e,.inl R,R⟩
theorem DGet.t{k:List Key}(e:H a=G (.dT kvs))(O:H b=G (.tup<|k.map kV)):DGet H a 49 (valV kvs k):=.inr ⟨kvs,k,b,.inl e,R,O,R⟩
theorem DPut.k{H:Hp}{a:Ad}{kvs:List (Key×V)}{k:Key}{v:V}(e:H a=G (.dK kvs))(Y:kvs.length<ii):DPut H a (kV k) v (upd H a<|.dK (putK kvs k v)):=.inl ⟨kvs,k,e,.inl R,Y,R⟩
theorem DPut.t{kvs:List (List Key×V)}{k:List Key}(e:H a=G (.dT kvs))(O:H b=G (.tup<|k.map kV))(Y:kvs.length<ii):
  DPut H a 49 v (upd H a<|.dT (putK kvs k v)):=.inr ⟨kvs,k,b,e,R,O,Y,R⟩
section
variable {X:Cx}{pins:Y2}{σ:St}{H:Hp}{s:ig}{a:Ad}{y v:V}{u r:Va}{o:Option V}{A:io}{E:Y0}
theorem Inv.big(I:02 H s):iM<s.heap.objs.size:=by
 let h:iu<s.heap.objs.size:=(I.mod.glob.keeps I.bk).lt;show y1j 07 h
theorem zt9(U:A.units+1<cLine)(I:02 H s)(g:DGet H a y<|G v)(d:RelV y u)(h:∀w' s',02 H s'->RelV v w'->Q w' s'):
  wpAny 36 A (jJ 04 u) Q E s:=by
 rcases g with⟨kvs,k,e,T,l⟩|⟨kvs,k,b,e,T,O,l⟩
 .let(z,hd,vs,rel,dd):=ztz I.hok e;let(w',L,C):=RelO.some_of (v:=v) (o:=lm vs k) (by rw[l];show rel.val k);show wpAny_getItem_of (T.is d) dd.mapOf L<|h w' _ (I.tok _) C
 .subst T;cases(show u=Va.ref b from d);let(z,hd,xs,rel,dd):=zxh I.hok e;let(w',L,C):=RelO.some_of (v:=v) (o:=(atKey xs k).map (·.2)) (by rw[l];show rel.val k);let(p,M,c):=y0z.mp L;apply wpAny_getItem_heap (jD U) (zkw I.hok O) dd M ?_;rw[c];show h w' _ (I.tok _) C
theorem Qbp(U:A.units+1<cLine)(I:02 H s)(g:DGet H a y o)(d:RelV y u)(h:∀s',02 H s'->Q (.bool<|!o.isSome) s'):
  wpAny 36 A (i4 .NotIn u 04) Q E s:=by
 rcases g with⟨kvs,k,e,T,l⟩|⟨kvs,k,b,e,T,O,l⟩
 .let(z,hd,vs,rel,dd):=ztz I.hok e;apply wpAny_notIn_of (T.is d) hd dd.mapOf ?_;rw[←(rel.val k).isSome_eq,←l];show h _<|I.tok _
 .subst T;cases(show u=Va.ref b from d);let(z,hd,xs,rel,dd):=zxh I.hok e;apply wpAny_notIn_heap (jD U) (zkw I.hok O) hd dd ?_;let q:=(rel.val k).isSome_eq;rw[Option.isSome_map]at q;rw[←q,←l];show h _<|I.tok _
theorem zi8(I:02 H s)(j:Mut<|H a)(hs:Heap.SameBut a s.heap h')(f:∃q,h'.get? a=G q)(new:ObjOk X.prog X.w (upd H a ob) h' a ob):
  02 (upd H a ob) {s with heap:=h',toks:=t'} :=
 I.write (x:=a) (e:=a) j 028 (λb q U z=>(hs.2 b U).trans z) f new
theorem zt0(z:kvs.length<=ii)(hd:(a==iM)=Fa)(rel:KV kvs vs)(dd:h'.DictOf 035 a vs):
  ObjOk P w H' h' a (.dK kvs):=⟨z,hd,vs,rel,dd⟩
theorem zt8(U:A.units+1<cLine)(I:02 H s)(g:DPut H a y v H')(d:RelV y u)(x:RelV v r)(h:∀s',02 H' s'->Q () s'):
  wpAny 36 A (setItem 04 u r) Q E s:=by
 rcases g with⟨kvs,k,e,T,l,i⟩|⟨kvs,k,b,e,T,j,l,i⟩
 .subst i;let(z,hd,vs,rel,dd):=dk_of I.hok e;let hz:vs.length<=ii:=by rw[←rel.length];show z
  let Y:(putK kvs k v).length<=ii:=by have:=zd6 kvs k v;omega
  apply wpAny_setItem_pairs (hsz:=hz) (T.is d) dd λh' D hs=>h _ ?_;let f:∃q,h'.get? a=G q:=let⟨q,_,_,O,_⟩:=D;⟨q,O⟩;show zi8 I (by rw[e];show True.intro) hs f<|zt0 Y hd (rel.put k x) D
 .subst T i;cases(show u=Va.ref b from d);let(z,hd,xs,rel,dd):=dt_of I.hok e;let hz:xs.length<=ii:=by rw[←Paired.length rel];show z
  let Y:(putK kvs k v).length<=ii:=by have:=zd6 kvs k v;omega
  apply wpAny_setItem_heap (hsz:=hz) (jD U) (zkw I.hok j) dd λh' D hs=>h _ ?_;let(q,C,ep,O,M,p,L,_,w):=D;apply zi8 I (by rw[e];show True.intro) hs ⟨q,O⟩ ⟨Y,hd,_,(rel.put k j x).keeps λc ys J=>?_,q,C,ep,O,M,p,L,w⟩;rw[zak<|zsx J e (λz=>nomatch z)];show J
end
section
variable {X:Cx}{pins:Y2}{σ:St}{H:Hp}{s:ig}{a:Ad}{kvs:List (Key×V)}{k:Key}{u:Va}{A:io}{E:Y0}
theorem Qb3(I:02 H s)(e:Rd H a<|.dK kvs)(h:∀t s',02 H s'->Q (.int kvs.length t) s'):wpAny 36 A (call (.builtin "len") [.ref a]) Q E s:=by
 let(z,hd,vs,rel,dd):=ztz I.hok e;apply call_len_dict hd dd (by rw[←rel.length];rw[j6]at z;omega) ?_;rw[←rel.length];show h _ _<|I.tok _
end
def NoSl(i:Expr):Prop:=∀a iv,jY i Fa a iv=operate [a,iv] (jJ a iv)
theorem zyu{prog:ik}{w:World}{A:io}{E:Y0}{s:ig}{env:Env}{e J:Expr}{pos:Pos}{T id:String}{Q:Y0}
  (Y:jl (.type T) "__getitem__"=pure (G<|.builtin id)) (hs:NoSl J)
  (h:wpAny 88 A (eval e env) (λo s₁=>wpAny 88 A (eval J env) (λi s₂=>s₂.TypeIs o T/\wpAny 88 A (jJ o i) Q E s₂) E s₁) E s) :
  wpAny 88 A (eval (.Subscript e J pos) env) Q E s:=by
 apply Subscript_<|iq h (λo s₁ h₁=>iq h₁ (λi s₂ l=>?_) λ_ _ x=>x) λ_ _ x=>x;let(v,l):=l;unfold subscriptTail;apply ia ?_;rw[getitemInPython_of_ne v.not_modules];apply ia<|iS v Y ?_;let fin:wpAny 88 A (jY J Fa o i) (λr s₃=>wpAny 88 A (letTemporaryGo e o r>>=λ_=>pure r) Q E s₃) E s₂:=by
  rw[hs o i];show wpAny_operating<|iq l (λr s₃ g=>ia<|wpAny_letTemporaryGo (ib g)) λ_ _ x=>x
 first
  |show ib (ia fin)
  |show ia (ib<|ia fin)
  |show ia fin
theorem zmw{X:Cx}{pins:Y2}{σ:St}{H:Hp}{s:ig}{a:Ad}{y:V}{o:Option V}(I:02 H s)(g:DGet H a y o):s.TypeIs 04 "dict":=by
 rcases g with⟨kvs,k,e,_,_⟩|⟨kvs,k,b,e,_,_,_⟩
 .let(_,_,vs,_,dd):=ztz I.hok e;show dd.typeIs
 .let(_,_,xs,_,dd):=zxh I.hok e;show dd.typeIs
def tDGet(d ty:TE):TE:=λσ H Q=>d σ H λx H1=>ty σ H1 λy H2=>∃a v,x=.ref a/\DGet H2 a y (G v)/\Q v H2
def sDPut(d ty c:TE):TS:=λD σ H=>c σ H λv H1=>d σ H1 λx H2=>ty σ H2 λy H3=>∃a H4,x=.ref a/\DPut H3 a y v H4/\D.nx σ H4
section
variable {X:Cx}{o i e value:Expr}{pos pos' tpos:Pos}{td ty tv:TE}
theorem pe_dget(U:X.A.units+1<cLine)(D:PE X o td)(hi:PE X i ty)(hs:NoSl i):PE X (.Subscript o i pos) (tDGet td ty):=by
 intro pins s σ H Q I h;apply zyu PySem.F.slot_dict_getitem.lookup hs<|thn (D pins s σ H _ I h) λu s1 zz=>ex5 zz λx H1 I1 T A=>thn (hi pins s1 σ H1 _ I1 A) λiv s2 zz=>ex5 zz λy H2 l d zq=>?_;let(a,v,ex,g,w):=zq;subst ex;obtain rfl:u=Va.ref a:=T;show⟨zmw l g,zt9 U l g d λw' J p C=>⟨v,H2,p,C,w⟩⟩
theorem zzb(U:X.A.units+1<cLine)(q:PE X o td)(hi:PE X i ty)(hv:PE X value tv)(hs:jp value (G<|.Subscript o i pos') pos.line X.env=pure Fa):
  PS X (.Assign [.Subscript o i pos'] value pos) (sDPut td ty tv):=by
 intro pins s σ H D I h;apply wpAny_Assign_Subscript (thn (hv pins s σ H _ I h) λr s1 zz=>ex5 zz λv H1 I1 f A=>thn (q pins s1 σ H1 _ I1 A) λu s2 zz=>ex5 zz λx H2 l T w=>thn (hi pins s2 σ H2 _ l w) λiv J ⟨y,H3,p,d,a,H4,ex,g,c⟩=>?_) hs;subst ex;obtain rfl:u=Va.ref a:=T;show zt8 U p g d f λj L=>⟨σ,H4,L,c⟩
end
theorem zox(h:Heap)(U:iM<h.objs.size):ObjOk P w H (h.push {cls:=.type "dict",data:=.dict #[]}) h.objs.size (.dK []) :=
 ⟨y13 _,beq_eq_false_iff_ne.mpr<|Ne.symm (y0m U),[],.nil,Heap.DictOf.new h⟩
theorem zow(h:Heap)(U:iM<h.objs.size):ObjOk P w H (h.push {cls:=.type "dict",data:=.dict #[]}) h.objs.size (.dT []) :=
 ⟨y13 _,beq_eq_false_iff_ne.mpr<|Ne.symm (y0m U),[],.nil,_,#[],0,y0d _ R,⟨R,R,R⟩,R,R,y3h⟩
def tDNewK:TE:=λ_ H Q=>∀p,H p=B->Q 22 (upd H p<|.dK [])
def tDNewT:TE:=λ_ H Q=>∀p,H p=B->Q 22 (upd H p<|.dT [])
section
variable {X:Cx}{pos:Pos}
theorem zv6:PE X (.Dict [] [] pos) tDNewK:=λpins s σ H Q I h =>
 wpAny_Dict_empty ⟨.ref s.heap.objs.size,_,I.laid (a:=s.heap.objs.size) (o:=.dK []) (t':=s.toks) (λ_ _ q=>y04 _ q) 08<|zox s.heap I.big,R,h _<|I.hok.fresh 08⟩
theorem zv4:PE X (.Dict [] [] pos) tDNewT:=λpins s σ H Q I h =>
 wpAny_Dict_empty ⟨.ref s.heap.objs.size,_,I.laid (a:=s.heap.objs.size) (o:=.dT []) (t':=s.toks) (λ_ _ q=>y04 _ q) 08<|zow s.heap I.big,R,h _<|I.hok.fresh 08⟩
end
def tPairs:List (TE×TE)->St->Hp->(List (V×V)->Hp->Prop)->Prop
 |[],_,H,Q=>Q [] H
 |(E,c)::r,σ,H,Q=>E σ H λx H1=>c σ H1 λy H2=>tPairs r σ H2 λps H3=>Q ((x,y)::ps) H3
abbrev VV:List (V×V)->List (Va×Va)->Prop:=i8 λp q=>RelV p.1 q.1/\RelV p.2 q.2
def PPs(X:Cx)(pos:Pos)(g:List<|Option Expr)(d:List Expr)(E:List<|TE×TE):Prop :=
 ∀(pins:Y2) (s:ig) (σ:St) (H:Hp) (Q:List (V×V)->Hp->Prop),02 H s->tPairs E σ H Q->
  wpAny 36 X.A (evalPairs<|pairTrees g d X.env pos) (λvs s'=>∃ps H',02 H' s'/\VV ps vs/\Q ps H') X.xe s
theorem zzg:PPs X pos [] [] []:=λpins s σ H Q I h=>pairTrees_nil_walk ⟨[],H,I,.nil,h⟩
theorem zv0{r c:TE}(j:PE X k r)(hv:PE X v c)(D:PPs X pos ks vs E):
  PPs X pos (G k::ks) (v::vs) ((r,c)::E):=λpins s σ H Q I h =>
 pairTrees_cons_walk (thn (j pins s σ H _ I h) λu s1 zz=>ex5 zz λx H1 I1 T A=>thn (hv pins s1 σ H1 _ I1 A) λf s2 zz=>ex5 zz λy H2 l d w =>
  thn (D pins s2 σ H2 _ l w) λa J zz=>ex5 zz λps H3 p rel i=>⟨(x,y)::ps,H3,p,.cons ⟨T,d⟩ rel,i⟩)
def mergeK(kvs i:List<|Key×V):List (Key×V):=i.foldl (λacc C=>putK acc C.1 C.2) kvs
theorem KV.merge:∀{i:List (Key×V)} {rs:List (Key×Va)} {kvs:List (Key×V)} {vs:List (Key×Va)},KV i rs->KV kvs vs->KV (mergeK kvs i) (merged vs rs):=by
 intro i rs kvs vs r;unfold KV at r
 induction r generalizing kvs vs with
 |nil=>intro q;show q
 |@cons p q ps qs h t f =>
  intro r0;let e:KV (putK kvs p.1 p.2) (stored vs q.1 q.2):=by
   let:=r0.put p.1 h.2;rw[←h.1];show this
  show f e
theorem zcu:∀(i kvs:List<|Key×V),(mergeK kvs i).length<=kvs.length+i.length
 |[],kvs=>by change kvs.length<=kvs.length+0;omega
 |p::r,kvs=>by
  let O:=zcu r<|putK kvs p.1 p.2;let M:=zd6 kvs p.1 p.2;change(mergeK (putK kvs p.1 p.2) r).length<=_;rw[y0j];omega
theorem zh9:∀{kvs:List (Key×V)} {j:List (Va×Va)},VV (kvs.map λC=>(kV C.1,C.2)) j->∃rs,Carries 035 j rs/\KV kvs rs
 |[],_,r=>by rw[y31]at r;cases r;show⟨[],True.intro,.nil⟩
 |p::kvs,_,r=>by
  rw[y0t]at r;cases r with
  |@cons a b x bs h t =>
   let(rs,c,q):=zh9 (P:=P) (w:=w) t;let(I,d):=b;show⟨(p.1,d)::rs,⟨ztb h.1,R,c⟩,.cons ⟨R,h.2⟩ q⟩
def tDisp(E:List<|TE×TE):TE:=λσ H Q=>∀p,H p=B->tPairs E σ (upd H p<|.dK []) λps H2=>H2 p=G (.dK [])/\∃kvs:List<|Key×V,ps=kvs.map (λC=>(kV C.1,C.2))/\kvs.length<=15/\Q 22 (upd H2 p<|.dK (mergeK [] kvs))
theorem pe_disp(h:PPs X pos g d E)(i:g.all (·.isSome)=N)(Y:g.length=d.length)(C:g≠[])
  (p:g.length<=15):PE X (.Dict g d pos) (tDisp E):=by
 intro pins s σ H Q I q;let U:=I.hok.fresh<|y05 s.heap.objs.size;let I1:=I.laid (a:=s.heap.objs.size) (o:=.dK []) (h':=s.heap.push {cls:=.type "dict",data:=.dict #[]}) (t':=s.toks) (λ_ _ q=>y04 _ q) 08<|zox s.heap I.big;apply wpAny_Dict_walk (knd:=mixKind X.prog X.w) i Y C p<|thn (h pins _ σ _ _ I1<|q _ U) λj s2 zz=>ex5 zz λps H2 l rel zq=>?_;let(e,kvs,ep,lk,M):=zq;subst ep;let(rs,c,u):=zh9 (P:=X.prog) (w:=X.w) rel;let(z,hd,r,r0,dd):=dk_of l.hok e;cases r0;apply⟨rs,c,dd,λh' D hs=>⟨.ref s.heap.objs.size,_,?_,R,M⟩⟩;let hz:(mergeK [] kvs).length<=ii:=by
  let O:=zcu kvs [];rw[y1e]at O;rw[j6];omega
 let f:∃q,h'.get? s.heap.objs.size=G q:=let⟨q,_,_,v,_⟩:=D;⟨q,v⟩;show zi8 l (by rw[e];show True.intro) hs f<|zt0 hz hd (u.merge .nil) D
structure M1(X:Cx)(o:Expr)(m:Str)(apos:Pos)(e:Expr)(cpos:Pos):Prop where
 base:attributeBase o m X.env (eval o X.env)=eval o X.env
 few:((iT cpos<|im [e] X.env).all (λx=>!x.1)&&(backToKw cpos<|keywordEach [] X.env).all (λx=>x.1.isSome)
  && decide (([e]:List Expr).length+([]:List jW).length+(if([]:List jW).isEmpty then 0 else 1)<30))=N
 line:(apos.endLine==cpos.line)=N
 trees:iT cpos (im [e] X.env)=[041]
def IsD(H:Hp)(a:Ad):Prop:=(∃kvs,Rd H a<|.dK kvs)\/∃kvs,Rd H a<|.dT kvs
def tDGet2(d ty c:TE):TE:=λσ H Q=>d σ H λx H1=>∃a,x=.ref a/\IsD H1 a/\ty σ H1 λy H2=>c σ H2 λz H3=>∃o,DGet H3 a y o/\Q (o.getD z) H3
section
variable {X:Cx}
theorem zuu:CallR X (.builtin "len") (λxs H Q=>∃a kvs,xs=[V.ref a]/\H a=G (.dK kvs)/\Q (.int kvs.length) H):=by
 intro pins s σ H xs us Q I r h;let(a,kvs,rfl,d,q):=h;let(u,rfl,g):=vals1 r;cases g;show Qb3 I (.inl d) λt s' y=>⟨.int kvs.length,H,y,⟨t,R⟩,q⟩
end
section
variable {κ:Type}[DecidableEq κ]
theorem zsy:∀{l:List κ} {k:κ},l.Nodup->¬k∈l->(l++[k]).Nodup
 |[],k,_,_=>by simp
 |a::r,k,h,j=>by
  let(O,M):=y1k.mp h;change(a::(r++[k])).Nodup;apply y1k.mpr ⟨λm=>?_,zsy M λm=>j<|y08.mpr (Or.inr m)⟩;rcases y0x.mp m with q|q
  .exact O q
  .exact j<|y08.mpr (Or.inl (y0b.mp q).symm)
end
noncomputable def notStar:Expr->Bool
 |.Starred _ _=>Fa
 |_=>N
theorem zap(h:notStar e=N):im (e::l) env=(Fa,eval e env)::im l env:=by
 cases e with
 |Starred v q=>show Xa (show Fa=N from h) y0i
 |_=>rw[starEach.eq_def]
theorem zbb:∀{l:List Expr} {env:Env} {pos:Pos},l.all notStar=N->(iT pos<|im l env).any (·.1)=Fa
 |[],env,pos,_=>by rw[starEach.eq_def];rfl
 |e::r,env,pos,h=>by
  rw[y26,y07]at h;rw[zap h.1];show zbb h.2
section
variable {X:Cx}{x:Str}{p pos:Pos}{e:Expr}{es:List Expr}{te:TE}{t:TA}{T id:String}{r:List V->Hp->VK->Prop}
theorem pa_c(d:PE X e te)(D:PA X es t)(h:notStar e=N:=by rfl):PA X (e::es) (tCons te t):=pa_cons d D<|zap h
theorem zay(C:CallR X (.builtin id) r)(j:Gl X x)(Y:X.mg x=B)(hv:ja x=G (.builtin id))(d:PA X (e::es) t)(I:x≠"__name__":=by decide)(w:012=Fa:=by decide)
  (O:notStar e=N:=by rfl) (M:es.all notStar=N:=by rfl):PE X 029 (tCB r t):=zv8 C j Y hv d I w (zap O)<|zbb M
theorem zbo(C:CallR X (.type T) r)(j:Gl X x)(Y:X.mg x=B)(hv:ja x=G (.type T))(d:PA X (e::es) t)(I:x≠"__name__":=by decide)(w:012=Fa:=by decide)
  (O:notStar e=N:=by rfl) (M:es.all notStar=N:=by rfl):PE X 029 (tCB r t):=zr6 C j Y hv d I w (zap O)<|zbb M
end
structure Dfn(K:Frag)(mg:Y1)(x:Str)(st:Stmt)(ps:List Str):Prop where
 ex:∃f fd,Fun K x x st f fd/\Binds K fd ps []/\mg x=G 52
structure Cal(P:ik)(w:World)(K:Frag)(mg:Y1)(base:Heap)(n:Nat)(x:Str)(ps:List Str)(sp:Sp):Prop where
 ex:∃f fd,FnOk P w K mg base CX0 n f fd ps sp/\Binds K fd ps []/\PySem.W.keepIn K 52=N/\mg x=G 52
section
variable {P:ik}{w:World}{K:Frag}{mg:Y1}{base:Heap}
theorem Dfn.cal{x:Str}{st:Stmt}{Nq ps:List Str}{k:Nat}{sp:Sp}(d:Dfn K mg x st ps)(S:FnScope Nq ps 73)(len:∀vs H Q E,sp vs H Q E->vs.length=ps.length)
  (i:∀(f:Ad) (l:Va) (A:io) (outer:List Env) (s:ig) (H:Hp) (vs:List V) (Q:VK) (E:XK),Room k (A.deeper<|jd x 73 s.heap.objs.size f l)->sp vs H Q E->
   ∃t,PSs (cxOf CX0 P w K mg base Nq x 73 f l A outer s H E).nox (defBody st) t/\t {nx:=λ_ H'=>Q .non H',rt:=Q} 036 H):03 (k+1) x ps sp:=by
 let(f,fd,F,b,m):=d.ex;show⟨f,fd,F.ok S len<|i f,b,F.kp,m⟩
theorem Cal.mono(c:03 j x ps sp)(h:j<=k):03 k x ps sp:=by
 let(f,fd,F,r):=c.ex;show⟨f,fd,F.mono h,r⟩
theorem Dfn.never{x:Str}{st:Stmt}{ps:List Str}{sp:Sp}(d:Dfn K mg x st ps)(g:∀vs H Q E,¬sp vs H Q E):03 0 x ps sp:=by
 let(f,fd,F,b,m):=d.ex;show⟨f,fd,⟨λvs H Q E h=>Xa h<|g vs H Q E,λA outer s H args us vs Q E _ _ _ _ h=>Xa h<|g vs H Q E⟩,b,F.kp,m⟩
end
section
variable {X:Cx}{n k:Nat}{x:Str}{ps:List Str}{sp:Sp}{p pos:Pos}{e:Expr}{es:List Expr}{t:TA}
theorem zae(C:Cal X.prog X.w X.K X.mg X.base n x ps sp)(D:Room k X.A)(v:n<=k)(j:Gl X x)(d:PA X (e::es) t)(w:012=Fa:=by decide)
  (O:notStar e=N:=by rfl) (M:es.all notStar=N:=by rfl):PE X 029 (tCall sp [] E0 t):=by
 let(f,fd,F,b,kp,m):=C.ex;show zmd F (D.mono v) j m kp b .nil pass0 d w (zap O)<|zbb M
def GlV(mg:Y1)(x:Str)(v:V):Prop:=∃u,mg x=G u/\RelV v u
theorem zbs(j:Gl X x)(h:GlV X.mg x v)(hd:012=Fa:=by decide):PE X (.Name x pos) (tC v):=by
 let(u,m,r):=h;show zr1 j m r hd
end
theorem CompOk.of(kind:scope.kind=.function)
  (O:(scope.names.all λy=>y.2 !=.cell&&(y.2 !=.local||scope.names.lookup y.1==G .local)&&(y.2 !=.free||(X.env.scope.names.lookup y.1==G .cell||X.env.scope.names.lookup y.1==G .free)))=N)
  (M:(cp.all λp=>X.Nq[p.1]? ==G p.2&&scope.names.lookup p.2==G .free)=N):CompOk X scope cp:=by
 let g:=y12.mp O;apply⟨kind,λy C e=>?_,λy C e=>?_,λy C e=>?_,λp E=>?_⟩
 .let q:=g y C;rw[y07,y07]at q;rw[e]at q;show Xa q.1.1 07
 .let q:=g y C;rw[y07,y07]at q;let q:=q.1.2;rw[e]at q;simpa using q
 .let q:=g y C;rw[y07,y07]at q;let q:=q.2;rw[e]at q;let q:X.env.scope.names.lookup y.1=G .cell\/X.env.scope.names.lookup y.1=G .free:=by simpa using q
  show q
 .let q:=y12.mp M p E;rw[y07]at q;show⟨by simpa using q.1,by simpa using q.2⟩
inductive Kd(H:Hp):V->String->Prop where
 |non:Kd H .non "NoneType"
 |bl (b:Bool):Kd H (.bl b) "bool"
 |int (i:Int):Kd H (.int i) "int"
 |str (z:Str):Kd H (.str z) "str"
 |lst {a:Ad} {xs:List V} (e:H a=G (.lst xs)):Kd H (.ref a) "list"
 |tup {a:Ad} {xs:List V} (e:H a=G (.tup xs)):Kd H (.ref a) "tuple"
 |dK {a:Ad} {kvs:List (Key×V)} (e:H a=G (.dK kvs)):Kd H (.ref a) "dict"
def kinds:List String:=["NoneType","bool","int","str","list","tuple","dict"]
noncomputable def subT(k T:String):Bool:=k==T||(k=="bool"&&T=="int")
theorem kit_ok(K:Frag):∀k∈kinds,∀T∈["str","list","tuple","bool","int","dict"],PySem.W.kitOne K (.type k) (.type T)=G (subT k T):=by
 intro k hk T hT;simp only[kinds,y08,y0n,or_false]at hk hT;rcases hk with rfl|rfl|rfl|rfl|rfl|rfl|rfl<;>rcases hT with rfl|rfl|rfl|rfl|rfl|rfl<;>first|rfl|kernel_rfl
theorem Kd.ty{K:Frag}{H:Hp}{x:V}{k:String}(h:Kd H x k):TyOf K H x (.type k)/\k∈kinds:=by
 cases h with
 |non=>show⟨.non,by decide⟩
 |bl b=>show⟨.bl b,by decide⟩
 |int i=>show⟨.int i,by decide⟩
 |str z=>show⟨.str z,by decide⟩
 |lst e=>show⟨.lst e,by decide⟩
 |tup e=>show⟨.tup e,by decide⟩
 |dK e=>show⟨.dK e,by decide⟩
theorem Kd.same(h:Kd H x k)(g:Same H H'):Kd H' x k:=by
 cases h with
 |non=>show .non
 |bl b=>show .bl b
 |int i=>show .int i
 |str z=>show .str z
 |lst e=>show .lst<|g _ _ e
 |tup e=>show .tup<|g _ _ e
 |dK e=>show .dK<|g _ _ e
theorem Kd.inj(h:Kd H x k)(h':Kd H x k'):k=k':=by
 cases h with
 |lst e=>cases h' with|lst _=>rfl|tup l=>rw[e]at l;cases l|dK l=>rw[e]at l;cases l
 |tup e=>cases h' with|lst l=>rw[e]at l;cases l|tup _=>rfl|dK l=>rw[e]at l;cases l
 |dK e=>cases h' with|lst l=>rw[e]at l;cases l|tup l=>rw[e]at l;cases l|dK _=>rfl
 |non=>cases h';rfl
 |bl _=>cases h';rfl
 |int _=>cases h';rfl
 |str _=>cases h';rfl
theorem call_isk{X:Cx}:CallR X (.builtin "isinstance") (λxs H Q=>∃x T k,xs=[x,.ty T]/\Kd H x k/\T∈["str","list","tuple","bool","int","dict"]/\Q (.bl<|subT k T) H):=by
 intro pins s σ H xs us Q I r h;let(x,T,k,e,hk,hT,q):=h;let(h1,h2):=hk.ty (K:=X.K);show zm6 pins s σ H xs us Q I r ⟨x,T,.type k,_,e,h1,kit_ok X.K k h2 T hT,q⟩
theorem za0(h:H p=B)(o:HO):Same H (upd H p o):=λb u q=>by rw[zak<|zax q h];show q
theorem Same.seqT{K:Frag}{H H':Hp}{a:Ad}{xs:List V}(e:Same H H')(h:SqT K H a xs):SqT K H' a xs:=by
 rcases h with(h|⟨o,h⟩)|h
 .exact .inl<|.inl (e _ _ h)
 .exact .inl<|.inr ⟨o,e _ _ h⟩
 .exact .inr h
section
variable {H:Hp}{Q:VK}{v:V}{a:Option V}{r:St}{i:Nat}
theorem zaw{t:TS}{D:Ends}{σ:St}(l:St)(e:σ=l)(h:t D l H):t D σ H:=by rw[e];show h
theorem rd_v0:tVar 0 (G v::r) H Q=Q v H:=rfl
theorem rd_vS:tVar (i+1) (a::r) H Q=tVar i r H Q:=rfl
theorem znz{A Bq:Prop}:(if N=N then A else Bq)=A:=rfl
theorem zn0{A Bq:Prop}:(if Fa=N then A else Bq)=Bq:=rfl
theorem rd_ss{a b:Str}:(scal (.str a) (.str b)=N)=True:=eq_true R
theorem rd_si{a:Str}{b:Int}:(scal (.str a) (.int b)=N)=True:=eq_true R
theorem rd_is{b:Str}{a:Int}:(scal (.int a) (.str b)=N)=True:=eq_true R
theorem rd_ii{a b:Int}:(scal (.int a) (.int b)=N)=True:=eq_true R
theorem rd_bb{a b:Bool}:(scal (.bl a) (.bl b)=N)=True:=eq_true R
def cBody(tn:List Str)(cp:Y6)(g:TG)(tif:TT)(te:TE)(σ:St)(Q:VK)(J:It)(H1:Hp):Prop:=∀D,H1 D=B->∃W:Nat->Nat->St->Hp->Prop,
 (∃m,W 0 m (stB tn cp σ) 045)/\∀i m A Hb,W i m A Hb->
  (J.stop i Hb/\Q 65 Hb)\/(J.go i Hb/\∀x H',J.yld i Hb x H'->g x A H' λd H2=>tif d H2 λc H3 =>
   if c=N then te d H3 λy H4=>∃ys,H4 D=G 50/\ys.length<ii/\∃O,O<m/\W (i+1) O d 059
   else∃O,O<m/\W (i+1) O d H3)
theorem zro:tComp tn cp w g tif te σ H Q=w σ H λJ H1=>cBody tn cp g tif te σ Q J H1:=rfl
def fBody(g:TG)(I:TS)(D:Ends)(σ:St)(J:It)(H1:Hp):Prop:=∃W:Nat->Nat->St->Hp->Prop,(∃m,W 0 m σ H1)/\∀i m σ H,W i m σ H->
 (J.stop i H/\D.nx σ H)\/(J.go i H/\∃Nq:St->Hp->Prop,073/\∀x H',J.yld i H x H'->g x σ H' λd H2=>I {D with nx:=Nq,ct:=Nq,bk:=D.nx} d H2)
theorem zx0:tFor w g I D σ H=w σ H λJ H1=>fBody g I D σ J H1:=rfl
end
section
variable {tn:List Str}{cp:Y6}{g:TG}{tif:TT}{te:TE}{σ0:St}{Q:VK}{H1:Hp}
theorem zuq(n:Nat)(Pv:Ad->Nat->List V->St->Hp->Prop)(I:n<=ii)(C:∀D,H1 D=B->Pv D 0 [] 044 045)
  (f:∀D i ys σ H,H1 D=B->i<n->H D=G 50->Pv D i ys σ H->J.go i H) (a:∀D ys σ H,H1 D=B->H D=G 50->Pv D n ys σ H->J.stop n H)
  (hs:∀D i ys σ H x H',H1 D=B->i<n->H D=G 50->ys.length<=i->Pv D i ys σ H->J.yld i H x H'->g x σ H' λd H2=>tif d H2 λc H3 =>
   if c=N then te d H3 λy H4=>CStep D n i (Pv D) d y H4 else CSkip D n i (Pv D) d H3)
  (hd:∀D ys σ H,H1 D=B->H D=G 50->ys.length<=n->Pv D n ys σ H->Q 65 H):cBody tn cp g tif te σ0 Q J H1:=λD u =>
 zmy (Pv D) I (C D u) (λi ys σ H=>f D i ys σ H u) (λys σ H=>a D ys σ H u) (λi ys σ H hi A Y p x H' y=>hs D i ys σ H x H' u hi A Y p y) (λys σ H=>hd D ys σ H u)
theorem cb_str(Pv:Ad->Nat->List V->St->Hp->Prop)(I:z.cps.size<=ii)(C:∀D,H1 D=B->Pv D 0 [] 044 045)
  (hs:∀D i ys σ H c,H1 D=B->i<z.cps.size->z.cps[i]?=G c->H D=G 50->ys.length<=i->Pv D i ys σ H->g (.str ⟨#[c]⟩) σ H λd H2=>tif d H2 λc H3 =>
   if c=N then te d H3 λy H4=>CStep D z.cps.size i (Pv D) d y H4 else CSkip D z.cps.size i (Pv D) d H3)
  (hd:∀D ys σ H,H1 D=B->H D=G 50->ys.length<=z.cps.size->Pv D z.cps.size ys σ H->Q 65 H):cBody tn cp g tif te σ0 Q (Its z) H1:=λD u =>
 zxl (Pv D) I (C D u) (λi ys σ H c=>hs D i ys σ H c u) (λys σ H=>hd D ys σ H u)
theorem zjc{K:Frag}{a:Ad}{xs:List V}(Pv:Ad->Nat->List V->St->Hp->Prop)(I:xs.length<=ii)(C:∀D,H1 D=B->Pv D 0 [] 044 045)
  (Y:∀D i ys σ H,H1 D=B->i<=xs.length->H D=G 50->Pv D i ys σ H->SqL K H a xs)
  (hs:∀D i ys σ H x,H1 D=B->i<xs.length->xs[i]?=G x->H D=G 50->ys.length<=i->Pv D i ys σ H->g x σ H λd H2=>tif d H2 λc H3 =>
   if c=N then te d H3 λy H4=>CStep D xs.length i (Pv D) d y H4 else CSkip D xs.length i (Pv D) d H3)
  (hd:∀D ys σ H,H1 D=B->H D=G 50->ys.length<=xs.length->Pv D xs.length ys σ H->Q 65 H):cBody tn cp g tif te σ0 Q (Itl K a) H1:=λD u =>
 zug (Pv D) I (C D u) (λi ys σ H=>Y D i ys σ H u) (λi ys σ H x=>hs D i ys σ H x u) (λys σ H=>hd D ys σ H u)
theorem zyl{K:Frag}{a:Ad}{xs:List V}(Pv:Ad->Nat->List V->St->Hp->Prop)(I:xs.length<=ii)(C:∀D,H1 D=B->Pv D 0 [] 044 045)
  (Y:∀D i ys σ H,H1 D=B->i<=xs.length->H D=G 50->Pv D i ys σ H->SqT K H a xs)
  (hs:∀D i ys σ H x,H1 D=B->i<xs.length->xs[i]?=G x->H D=G 50->ys.length<=i->Pv D i ys σ H->g x σ H λd H2=>tif d H2 λc H3 =>
   if c=N then te d H3 λy H4=>CStep D xs.length i (Pv D) d y H4 else CSkip D xs.length i (Pv D) d H3)
  (hd:∀D ys σ H,H1 D=B->H D=G 50->ys.length<=xs.length->Pv D xs.length ys σ H->Q 65 H):cBody tn cp g tif te σ0 Q (Itt K a) H1 :=
 zuq xs.length Pv I C (λD i ys σ H u hi A p=>⟨xs,xs[i],Y D i ys σ H u (y1o hi) A p,by simp[hi]⟩) (λD ys σ H u A p=>⟨xs,Y D _ ys σ H u 08 A p,y05 _⟩) (λD i ys σ H x H' u hi A w p y=>by
  let(e,y):=y;subst e;show hs D i ys σ _ x u hi (y xs<|Y D i ys σ _ u (y1o hi) A p) A w p) hd
variable {tb:TS}{D:Ends}
theorem ze5{K:Frag}{a:Ad}{xs:List V}(Pv:Nat->St->Hp->Prop)(C:Pv 0 σ0 H1)(Y:∀i σ H,i<=xs.length->Pv i σ H->SqL K H a xs)
  (hs:∀i x σ H,xs[i]?=G x->Pv i σ H->g x σ H λd H2=>tb {D with nx:=Pv<|i+1,ct:=Pv<|i+1,bk:=D.nx} d H2) (hd:∀σ H,Pv xs.length σ H->D.nx σ H):fBody g tb D σ0 (Itl K a) H1:=zxb Pv C Y hs hd
theorem zot{K:Frag}{a:Ad}{xs:List V}(Pv:Nat->St->Hp->Prop)(C:Pv 0 σ0 H1)(Y:∀i σ H,i<=xs.length->Pv i σ H->SqT K H a xs)
  (hs:∀i x σ H,xs[i]?=G x->Pv i σ H->g x σ H λd H2=>tb {D with nx:=Pv<|i+1,ct:=Pv<|i+1,bk:=D.nx} d H2) (hd:∀σ H,Pv xs.length σ H->D.nx σ H):fBody g tb D σ0 (Itt K a) H1:=for_tup Pv C Y hs hd
theorem zel{lo:Int}{n:Nat}(Pv:Nat->St->Hp->Prop)(C:Pv 0 σ0 H1)
  (hs:∀i σ H,i<n->Pv i σ H->g (.int<|lo+i) σ H λd H2=>tb {D with nx:=Pv<|i+1,ct:=Pv<|i+1,bk:=D.nx} d H2) (hd:∀σ H,Pv n σ H->D.nx σ H):fBody g tb D σ0 (Itr lo n) H1:=ztk Pv C hs hd
end
theorem zn5{D:Type}(xs:List D):∀(i k:Nat),((List.range k).map λm=>i+m).filterMap (λj=>xs[j]?)=(xs.drop i).take k
 |i,0=>by simp
 |i,k+1=>by
  let f:=zn5 xs (i+1) k;rw[y2s,y0t,y0o,y22];let e:((λm=>i+m)∘Nat.succ)=λm=>i+1+m:=by funext m;simp[Function.comp];omega
  rw[e];by_cases h:i<xs.length
  .rw[show i+0=i from rfl,y00 h,f,y34 h,List.take_succ_cons]
  .rw[show i+0=i from rfl,y0r 01,f,y2t 01,y2t 01];simp
noncomputable def cutL{D:Type}(xs:List D)(lo hi:Option Int):List D:=(xs.drop<|HT.sIx xs.length 0 lo).take 082
theorem idx_go{a b:Nat}{A Bq:Int}(c:A=a)(j:Bq=b):PySem.sliceRange A Bq 1=(List.range<|b-a).map λm=>a+m:=by
 subst c j;unfold PySem.sliceRange;simp only[show(1:Int)>0 by decide,if_true];let M:(if(a:Int)<(b:Int)then((b:Int)-(a:Int)+1-1)/1 else 0).toNat=b-a:=by
  split<;>omega
 rw[M];apply y1w λm _=>?_;omega
theorem zrb(lo hi:Option Int)(n:Nat):Builtin.Str.strSliceIndices lo hi 1 n=(List.range<|HT.sIx n n hi-HT.sIx n 0 lo).map λm=>HT.sIx n 0 lo+m:=by
 unfold Builtin.Str.strSliceIndices;apply idx_go ?_ ?_
 .cases lo with
  |none=>rfl
  |some v =>
   rw[←HT.clip_eq v n 0];simp only[show(1:Int)>0 by decide,if_true];split<;>omega
 .cases hi with
  |none=>rfl
  |some v =>
   rw[←HT.clip_eq v n n];simp only[show(1:Int)>0 by decide,if_true];split<;>omega
theorem zrc(z:Str)(lo hi:Option Int):(Txt.slice z lo hi).cps.toList=cutL z.cps.toList lo hi:=by
 let Y:z.cps.toList.length=z.length:=by simp[Str.length]
 unfold Txt.slice cutL;rw[Y,zrb];let p:=zn5 z.cps.toList (HT.sIx z.length 0 lo)<|HT.sIx z.length z.length hi-HT.sIx z.length 0 lo;let e:(λ(j:Nat)=>z.cps.toList[j]?)=λ(j:Nat)=>z.cps[j]?:=by funext j;simp
 rw[e]at p;split
 .rename_i h;simp only[y01,y0y,beq_self_eq_true,y1s,beq_iff_eq]at h;let O:=HT.sIx_le z.length z.length 08 hi;let A:=HT.sIx_le z.length 0 (y13 _) lo;let C:HT.sIx z.length 0 lo=0:=by omega
  let M:HT.sIx z.length z.length hi-HT.sIx z.length 0 lo=z.length:=h;rw[M,C,y40,y0l<|by rw[Y];show y05 _]
 .rw[←p]
theorem zxk(xs:List D)(lo hi:Option Int):(cutL xs lo hi).length<=xs.length:=by
 unfold cutL;rw[y0w,y1h];omega
theorem zem(xs:List D)(k:Nat):cutL xs (G (k:Int)) B=xs.drop k:=by
 unfold cutL;rw[HT.sIx_nat,HT.sIx_none,y0l<|by rw[y1h];show y05 _];by_cases h:k<=xs.length
 .rw[y3c h]
 .rw[Nat.min_eq_right 01,y2t 08,y2t 01]
theorem cutL_to(xs:List D)(k:Nat):cutL xs B (G (k:Int))=xs.take k:=by
 unfold cutL;rw[HT.sIx_nat,HT.sIx_none,y40,Nat.sub_zero];by_cases h:k<=xs.length
 .rw[y3c h]
 .rw[Nat.min_eq_right 01,y0l 08,y0l 01]
theorem zlq(z:Str):z.length=z.cps.toList.length:=by simp[Str.length]
theorem zb1{D:Type}{c:D}{r:List D}:atI (c::r) 0=G c:=zaf (j:=0) R
theorem RcOk.up(h:RcOk X j H x y b)(a:j<=k):RcOk X k H x y b:=λpins σ s A u v U=>h pins σ s A u v 01
theorem zah(h:n<=1000):n<=ii:=y1o<|small1000 h
theorem atI_mod{D:Type}{xs:List D}{i:Int}{n:Nat}(I:xs.length=n)(C:0<n):∃v,atI xs (i%(n:Int))=G v/\v∈xs:=by
 let O:0<=i%(n:Int):=y2q _ 01;let M:i%(n:Int)<n:=y2r _ 01;let A:(i%(n:Int)).toNat<xs.length:=by omega
 apply⟨xs[(i%(n:Int)).toNat],?_,y0c A⟩;let e:i%(n:Int)=(((i%(n:Int)).toNat:Nat):Int):=by omega
 let q:atI xs (((i%(n:Int)).toNat:Nat):Int)=G xs[(i%(n:Int)).toNat]:=zaf 05;rw[←e]at q;show q
theorem zi5(D:Room k A)(j:Nat)(h:j<=64):A.units+j<cLine:=by have:=D.units;omega
section
variable {K:Frag}{h:Heap}{mg:Y1}
theorem dfn_mk{x:Str}{st:Stmt}{ps:List Str}{f:Ad}{oc:Va}{M an:Option Ad}{z:Y8}{kV doc pm cdv ct:Va}(X:K.In h)(Gq:h.Ns iu mg)
  (a:PySem.W.nsIn K iu x=G (G 52)) (l:K.lookup f=G ⟨oc,M,.func 072,z⟩)
  (c:PySem.W.codeIn K cdv x=N) (k:PySem.W.keepIn K 52=N)
  (U:∀(kV doc pm:Va) (an:Option Ad) (cdv ct:Va) (us:List Va),us.length=ps.length->jf 072 025=pure 026):Dfn K mg x st ps :=
 ⟨f,_,zop l c k,(zop l c k).binds U,PySem.W.mg_of X Gq a⟩
theorem law_mk{x y:Str}{st:Stmt}{f Q:Ad}{oc:Va}{M an:Option Ad}{z:Y8}{kV doc pm cdv ct:Va}(X:K.In h)(Gq:h.Ns iu mg)(d:mg x=G (.ref Q))
  (a:PySem.W.nsIn K iu x=G (G 52)) (l:K.lookup f=G ⟨oc,M,.func 072,z⟩)
  (c:PySem.W.codeIn K cdv x=N) (k:PySem.W.keepIn K 52=N) (U:∀(s:ig) (v:Va),lh s 072 ⟨[v],[]⟩ [(y,v)]) :
  ∃fd:i6,(∀(s:ig) (v:Va),lh s fd ⟨[v],[]⟩ [(y,v)])/\Fun K x x st Q fd:=by
 let e:=d.symm.trans<|PySem.W.mg_of X Gq a;cases e;show⟨_,U,zop l c k⟩
theorem glv_mk(X:K.In h)(Gq:h.Ns iu mg)(a:PySem.W.nsIn K iu x=G (G u))(r:RelV v u):GlV mg x v:=⟨u,PySem.W.mg_of X Gq a,r⟩
end
section
variable {CX:CXT}{P:ik}{w:World}{K:Frag}{mg:Y1}{base:Heap}{Nq:List Str}{x:Str}{sc:Scope}{f:Ad}{cdv:Va}{A:io}{outer:List Env}{s:ig}{H:Hp}{E:XK}
theorem cxK:(cxOf CX P w K mg base Nq x sc f cdv A outer s H E).K=K:=rfl
theorem cxP:(cxOf CX P w K mg base Nq x sc f cdv A outer s H E).prog=P:=rfl
theorem cxW:(cxOf CX P w K mg base Nq x sc f cdv A outer s H E).w=w:=rfl
end
section
variable {X:Cx}{st:Stmt}{rest:List Stmt}{t u:TS}{e:Expr}{te:TE}
def tCut(t u:TS):TS:=λD σ H=>∃Pv:St->Hp->Prop,t {D with nx:=Pv} σ H/\∀l H',Pv l H'->u D l H'
theorem zma(O:PS X st t)(M:PSs X rest u):PSs X (st::rest) (tCut t u):=by
 intro pins s σ H D I h;let(Pv,A,w):=h;apply iL<|thn (O pins s σ H {D with nx:=Pv} I A) λf s1 q=>?_;cases f with
 |next =>
  let(l,H',y,q):=q;show M pins s1 l H' D y<|w l H' q
 |ret v=>show q
 |brk=>show q
 |cont=>show q
theorem zud(Pv:St->Hp->Prop)(O:t {D with nx:=Pv} σ H)(M:∀l H',Pv l H'->u D l H'):tCut t u D σ H:=⟨Pv,O,M⟩
end
local instance (priority:=10000):BEq Key:=instBEqOfDecidableEq
local instance (priority:=10000):LawfulBEq Key:=inferInstanceAs (LawfulBEq (Sum Int Str))
noncomputable def onceK:List Key->List Key->List Key
 |acc,[]=>acc
 |acc,k::r=>onceK (if k∈acc then acc else acc++[k]) r
theorem zhv:∀(ks acc:List Key) (k:Key),onceK acc (ks++[k])=if k∈onceK acc ks then onceK acc ks else onceK acc ks++[k]
 |[],acc,k=>rfl
 |j::r,acc,k=>zhv r _ k
theorem zee:∀(ks acc:List Key),(onceK acc ks).length<=acc.length+ks.length
 |[],acc=>y05 _
 |k::r,acc=>by
  let h:=zee r<|if k∈acc then acc else acc++[k];change(onceK (if k∈acc then acc else acc++[k]) r).length<=acc.length+(r.length+1);split at h<;>rename_i c
  .rw[Xq c];omega
  .rw[Xp c];rw[y0e,y0s]at h;omega
theorem zgj:∀(ks acc:List Key),acc.Nodup->((onceK acc ks).length=acc.length+ks.length↔(acc++ks).Nodup)
 |[],acc,h=>by simp[onceK,h]
 |k::r,acc,h=>by
  change(onceK (if k∈acc then acc else acc++[k]) r).length=acc.length+(r.length+1)↔_;by_cases c:k∈acc
  .rw[Xq c];let l:=zee r acc;constructor
   .intro e;omega
   .intro e;let:=(y3o.mp e).2.2 k c k<|y0a;show Xa R this
  .rw[Xp c];let h':(acc++[k]).Nodup:=zsy h c;let f:=zgj r (acc++[k]) h';rw[y0e,y0s,y2e]at f;rw[show acc.length+(r.length+1)=acc.length+1+r.length by omega];show f
theorem zsf(ks:List Key):(onceK [] ks).length=ks.length↔ks.Nodup:=by
 let h:=zgj ks [] y3h;simpa using h
structure SetR{P:ik}{w:World}{T:Type}[DecidableEq T](knd:PySem.KeyKind P w T)(a:Ad)(m:Nat)(Rp:Heap->List T->Prop):Prop where
 kept:∀{h h':Heap} {ks:List T},Rp h ks->(∀o,h.get? a=G o->h'.get? a=G o)->Rp h' ks
 add:∀{A:io} {E:Y0} {s:ig} {ks:List T} {k:T} {v:Va} {Q:Bool->ig->Prop},knd.is k v=N->ks.length+1<m->Rp s.heap ks->(∀h' b,Heap.SameBut a s.heap h'->Rp h' (ks++[k])->Q b {s with heap:=h'})->wpAny (model P w) A (setAddHashed a v<|knd.hash k) Q E s
section
variable {P:ik}{w:World}{A:io}{Rq:Result->ig->Prop}{it:Ad}{fp wr:List Ad}{Gq:Array ju->Array ju->Prop}{n:Nat}{Pv:Nat->Va->Prop}{St:Nat->ig->Prop}
def SetIs(P:ik)(w:World)(h:Heap)(a:Ad)(ks:List Key):Prop:=h.SetOf 035 a (λk=>decide (k∈onceK [] ks)) (onceK [] ks).length
theorem SetIs.kept(x:SetIs P w h a ks)(k:∀o,h.get? a=G o->h'.get? a=G o):SetIs P w h' a ks:=by
 let(o,l,ep,t,D,rest):=x;show⟨o,l,ep,t,k o D,rest⟩
theorem zy6(h:(035).is k v=N):v.scannable=N:=by
 rcases za5 h with⟨i,t,rfl,rfl⟩|⟨x,t,rfl,rfl⟩|⟨c,rfl,rfl⟩<;>rfl
theorem zpg{T:Type}[DecidableEq T]{knd:PySem.KeyKind P w T}{g:Heap->List T->Prop}(W:WalksS P w A.in1 it fp wr Gq n Pv St)(a:Ad)(l:SetR knd a (n+1) g)(d:a∉fp)(ks:List T)(I:ks.length=n)(hv:∀i v,Pv i v->∀k,ks[i]?=G k->knd.is k v=N):
  ∀(m i:Nat) (s:ig),n-i=m->i<=n->St i s->g s.heap (ks.take i)->(∀s',Moved (a::wr) Gq s s'->g s'.heap ks->Rq (.ok<|.ret .none) s')->
   jc 81 A (.builtin "set.update.loop" ⟨[.ref a,.ref it],[]⟩) Rq s:=by
 let c:a∉wr:=λh=>d<|W.sub _ h;let up:∀b∈wr,b∈a::wr:=λb h=>y06 _ h;intro m
 induction m with
 |zero =>
  intro i s Y hi st x q;obtain rfl:i=n:=by omega
  rw[y0l<|y4b I]at x;apply iG F.entry_set_update_loop ?_;rw[Around.under_plainId F.plain_set_update_loop _];apply ia<|W.done s _ _ st λs' H=>ib<|q s' (H.mono up) (l.kept x λo e=>H.heap a _ c e)
 |succ m f =>
  intro i s Y hi st x q;let lt:i<n:=by omega
  let j:ks[i]?=G ks[i]:=by simp[I,lt]
  apply iG F.entry_set_update_loop ?_;rw[Around.under_plainId F.plain_set_update_loop _];apply ia<|W.item i s _ _ lt st λv s' pv D H=>?_;let is:=hv i v pv _ j;let u:=l.kept (h':=s'.heap) x λo e=>H.heap a _ c e;apply ia (m:=holding [v]<|setAdd a v)<|ir ?_;unfold setAdd;apply ir<|ia (knd.pyHash (k:=ks[i]) is ?_);apply l.add (s:={s' with toks:=s'.toks+1}) is (by rw[y0w];omega) u λh' p r J=>?_;let z:g h' (ks.take<|i+1):=by rw[y14,j,y1x];show J
  apply ib ⟨iU F.plain_set_update_loop _,f (i+1) _ 01 lt (W.frame _ s' _ _ D (y3i _) λb U o e=>?_) z λs2 E y=>?_⟩
  .rw[r.2 b λh=>d<|h▸U];show e
  .refine q s2 (Moved.trans W.gtrans ((H.mono up).then_heap (y3i _) λb o U e=>?_) E) y;rw[r.2 b λh=>U<|h▸y0a];show e
theorem zy3(a:Ad)(M:m<iV):SetR 035 a m (λh ks=>SetIs P w h a ks):=⟨λx k=>x.kept k,λ{A E s ks k v Q} is Y x q=>by
 let room:=zee ks [];rw[y1e]at room;apply wpAny_setAddHashed_of (knd:=mixKind P w) is (zy6 is) x 01 λh' r J=>q h' _ r ?_;unfold SetIs;rw[zhv];apply SetOf_congr J (λk'=>?_) ?_
 .by_cases c:k∈onceK [] ks
  .rw[Xq c];by_cases e:k'=k
   .subst e;simp[c]
   .simp[e]
  .rw[Xp c];simp[y0x]
 .by_cases c:k∈onceK [] ks
  .rw[Xq c];simp[c]
  .rw[Xp c];simp[c]⟩
end
section
variable {P:ik}{w:World}{A:io}{E:Y0}{s:ig}
set_option maxHeartbeats 3200000 in
theorem zrg{T:Type}[DecidableEq T]{knd:PySem.KeyKind P w T}{Rp:Heap->List T->Prop}{Lp:Bool->Prop}{l:Ad}{its:Array Va}{ks:List T}{Q:Y0}(hh:A.handled=B)(hl:s.heap.IsList l its)(hk:ks.length=its.size)(hi:∀(i:Nat) v k,its[i]?=G v->ks[i]?=G k->knd.is k v=N)
  (SR:SetR knd s.heap.objs.size (its.size+1) Rp) (fresh:∀(h:Heap) led,Lp led->h.get? s.heap.objs.size=G {cls:=.type "set",dict:=B,data:=.set #[] 0 (.fresh 0 0 led)}->Rp h [])
  (nw:∀{A:io},jc 81 A (.call (.builtin "set.__new__") ⟨[.type "set",.ref l],[]⟩) (wants (λobj s1=>∃led:Bool,Lp led/\obj=.ref s.heap.objs.size/\s1={s with heap:=s.heap.push {cls:=.type "set",dict:=B,data:=.set #[] 0 (.fresh 0 0 led)} }) E) s)
  (h:∀(h':Heap) (tk:Nat),Rp h' ks->076->Q 018 {s with heap:=h',toks:=tk}) :
  wpAny 81 A (call (.type "set") [.ref l]) Q E s:=by
 let(c,tl,hmro):=F.called_set.mro;let made:=F.called_set.made;let sub:=F.called_set.sub;apply ji<|jr (ib ⟨Code.quiet_builtin _ 48,iG F.entry_type_call ?_⟩);rw[Around.under_plain (weight_type_call_type "set" [.ref l] []) rfl];let a1:=F.called_set.notType;let a2:=F.called_set.canCreate;let a3:=F.typeCall_set_1<|.ref l
 repeat (any_goals (first|assumption|wp_step))
 apply iH nw λr s1 hr=>?_;cases r with
 |error e=>show hr
 |ok fl =>
  cases fl with
  |ret obj =>
   let(led,lp,rfl,rfl):=hr;let at0:(071).get? s.heap.objs.size=G {cls:=.type "set",dict:=B,data:=.set #[] 0 (.fresh 0 0 led)}:=y0d _ rfl;let ty:Shared.TypeIs {s with heap:=s.heap.push {cls:=.type "set",dict:=B,data:=.set #[] 0 (.fresh 0 0 led)} } (.ref s.heap.objs.size) "set":=⟨_,at0,R⟩;let i1:=F.called_set.init.lookup;let i2:=F.called_set.init.bind 018
   repeat (any_goals (first|assumption|wp_step))
   apply iH (j7 («R»:=wants (λr s2=>r=.none/\∃h' tk,s2={s with heap:=h',toks:=tk}/\Rp h' ks/\
     076) E) F.called_set.init.plain F.entry_set_init (check_set_init_1 ty ?_)) λr2 s2 hr2=>?_
   .let(ol,ho,hc,nl,hd):=hl;let(oc,od,oda,osl):=ol;simp only at hc hd;subst hc;subst hd;let ho':(071).get? l=G {cls:=.type "list",dict:=od,data:=.seq its nl,slots:=osl}:=y04 _ ho;let b1:=F.sub_list_set;let b2:=F.sub_list_frozenset;let b3:(Va.type "list"==Va.type "dict")=Fa:=by decide
    let hl1:(071).IsList l its:=⟨_,ho',R,nl,R⟩;unfold Builtin.«set.__init__» noKeywords Builtin.Frozenset.updateFrom;generalize hPI:jV=PI
    wp_walk
    subst hPI;apply jb hl1 ?_;apply ia<|wpAny_runValue ?_;let ll:l<s.heap.objs.size:=y0g ho;let h3:A.in1.in1.in1.handled=B:=by simp[hh]
    let ne:l≠(071).objs.size:=by rw[y19];show y0m<|y2u ll
    let nf:s.heap.objs.size∉[(071).objs.size,l]:=by
     rw[y19];intro z;rcases y08.mp z with z|z
     .exact Xa z<|y0m (y2j _)
     .exact Xa (y0b.mp z)<|y24 ll
    apply zpg ((Walks.list h3 _ l ne its).toS) s.heap.objs.size SR nf ks hk (λi v pv k e=>hi i v k pv e) (its.size-0) 0 _ 01 (y13 _) ⟨⟨_,y0d _ R,R,R⟩,(hl1.push _)⟩ ?x0 ?q0
    case x0 =>
     apply SR.kept (h:=s.heap.push {cls:=.type "set",dict:=B,data:=.set #[] 0 (.fresh 0 0 led)}) ?_ λo e=>y04 _ e;rw[List.take_zero];show fresh _ led lp at0
    case q0 =>
     intro s' mv x';let(h',g',d',tk',os'):=s';let eg:g'=s.gens:=mv.gens;let ed:d'=s.drawn:=mv.drawn;let eo:os'=s.os:=mv.os;subst eg;subst ed;subst eo;apply ib<|ib ⟨R,h',tk',R,x',λb o hb e=>mv.heap b o ?_<|y04 _ (y04 _ e)⟩;rw[y19];intro z;rcases y08.mp z with z|z
     .exact Xa z<|y0m hb
     .exact Xa (y0b.mp z)<|y0m (y2u hb)
   .cases r2 with
    |error e=>show hr2
    |ok f2 =>
     cases f2 with
     |ret r =>
      let(rfl,h',tk,rfl,x',k'):=hr2
      repeat (any_goals (first|assumption|wp_step))
      show h _ _ x' k'
     |_=>show hr2.elim
  |_=>show hr.elim
theorem zlx{its:Array Va}{ks:List Key}(M:A.handled=B)(Y:s.heap.IsList l its)(j:ks.length=its.size)(hi:∀(i:Nat) v k,its[i]?=G v->ks[i]?=G k->(035).is k v=N)
  (U:its.size+1<iV)
  (h:∀(h':Heap) (r:Nat),SetIs P w h' s.heap.objs.size ks->076->Q 018 {s with heap:=h',toks:=r}) :
  wpAny 81 A (call (.type "set") [.ref l]) Q E s :=
 zrg (Lp:=λ_=>True) M Y j hi (zy3 _ U) (λh led _ a=>SetOf_congr ((setObjOf_fresh (knd:=mixKind P w) led).setOf a<|by unfold iV;omega) (λ_=>rfl) R) (code_set_new_1 (.ref l) λled=>⟨led,trivial,R,R⟩) h
end
noncomputable def setK(P:ik)(w:World)(a:Ad)(ks:List Key):HO:=.ext λh=>SetIs P w h a ks
theorem zm4(hc:X.calm=N):CallR X (.type "set") (λxs H Q=>∃(p:Ad) (ks:List Key),xs=[.ref p]/\SqL X.K H p (ks.map kV)/\ks.length<=1000/\∀a,H a=B->Q 04 (upd H a<|setK X.prog X.w a ks)):=by
 intro pins s σ H xs us Q I r h;let(p,ks,rfl,J,hz,q):=h;let(u,rfl,T):=vals1 r;cases(show u=Va.ref p from T);let(vs,f,c,_):=I.list J;let d:=f.length;rw[y01]at d;apply zlx (ks:=ks) 024 c.isList (by rw[y09];show d) (λi v k L g=>?_) (by rw[y09];unfold iV;omega) λh' E x k=>?_
 .let w:vs[i]?=G v:=by simpa using L
  let(u,e,q):=f.get (i:=i) (x:=kV k) (by rw[y03,g];rfl);rw[w]at e;cases e;show ztb q
 .refine⟨.ref s.heap.objs.size,_,I.laid (t':=E) (λb u e=>k b u (y0g e) e) 08 ?_,R,q _ I.fresh⟩;let(o,l,ep,t,D,rest):=id x;show⟨x,⟨o,D⟩,λO M C k1=>C.kept k1⟩
theorem zji:CallR X (.builtin "len") (λxs H Q=>∃(p:Ad) (ks:List Key),xs=[.ref p]/\H p=G (setK X.prog X.w p ks)/\ks.length<=1000/\Q (.int ((onceK [] ks).length:Int)) H):=by
 intro pins s σ H xs us Q I r h;let(p,ks,rfl,J,hz,q):=h;let(u,rfl,c):=vals1 r;cases(show u=Va.ref p from c);let(x,_):=I.hok p _ J;let(o,l,ep,t,D,a,hd,_,_,_,T,U):=x;let room:=zee ks [];rw[y1e]at room;apply call_len_set D a hd T (by rw[U];omega) ?_;rw[U];show⟨.int _,H,I.tok _,⟨_,R⟩,q⟩
structure New(H:Hp)(p:Ad)(o:HO)(H':Hp):Prop where
 nil:H p=B
 g:Same H H'
 at':H' p=G o
 eq:H'=upd H p o
theorem New.mk'(h:H p=B)(o:HO):New H p o (upd H p o):=⟨h,za0 h o,zao,R⟩
theorem New.lst{K:Frag}{H H':Hp}{p:Ad}{xs:List V}(n:New H p 016 H'):SqL K H' p xs:=.of n.at'
theorem Same.wr(g:Same H H')(h:H p=B)(o:HO):Same H (upd H' p o):=λb u e=>by rw[zak<|zax e h];show g b u e
section
variable {X:Cx}{e:Expr}{es:List Expr}{t:TA}{pos:Pos}
def tTupN(t:TA):TE:=λσ H Q=>t σ H λxs H1=>xs.length<=ii/\∀p H',New H1 p 015 H'->Q 22 H'
def tLstN(t:TA):TE:=λσ H Q=>t σ H λxs H1=>xs.length<=ii/\∀p H',New H1 p 016 H'->Q 22 H'
theorem za4(h:PA X es t):PE X (.Tuple es C pos) (tTupN t):=by
 intro pins s σ H Q I O;apply wpAny_Tuple_spliced<|thn (h pos pins s σ H _ I O) λus s1 ⟨xs,H1,I1,r,z,q⟩=>⟨by rw[←r.length];show z,?_⟩;apply⟨.ref s1.heap.objs.size,upd H1 s1.heap.objs.size 015,I1.laid (t':=s1.toks) (λb u e=>y04 _ e) 08 ?_,R,q _ _<|.mk' I1.fresh _⟩;show⟨z,us,r,⟨_,y0d _ R,R,_,R⟩⟩
theorem za1(h:PA X es t):PE X (.List es pos) (tLstN t):=by
 intro pins s σ H Q I O;apply wpAny_List_spliced<|thn (h pos pins s σ H _ I O) λus s1 ⟨xs,H1,I1,r,z,q⟩=>⟨by rw[←r.length];show z,?_⟩;apply⟨.ref s1.heap.objs.size,upd H1 s1.heap.objs.size 016,I1.laid (t':=s1.toks) (λb u e=>y04 _ e) 08 ?_,R,q _ _<|.mk' I1.fresh _⟩;show⟨z,us,0,r,y0d _ R⟩
def rSlLN(K:Frag):V->Option Int->Option Int->Hp->VK->Prop:=λx lo hi H Q=>∃a xs,x=.ref a/\SqL K H a xs/\∀p H',New H p (.lst<|cutL xs lo hi) H'->Q 22 H'
theorem zvh:SlR X (rSlLN X.K):=λpins s σ H x v g vu lo hi y Q I T hs c C h=>by
 let(a,xs,e,J,q):=h;show zy1 pins s σ H x v g vu lo hi y Q I T hs c C ⟨a,xs,e,J,λp r=>q p _<|.mk' r _⟩
def rCatN:R2:=λx y H Q=>∃l b xs w,x=.ref l/\y=.ref b/\H l=G 016/\H b=G (.lst w)/\xs.length+w.length<=ii/\∀p H',New H p (.lst<|xs++w) H'->Q 22 H'
theorem op_catN:OpR X (iQ .Add) rCatN:=λpins s σ H x y v u Q I T d h=>by
 let(l,b,xs,w,L,g,O,M,hz,q):=h;show op_cat pins s σ H x y v u Q I T d ⟨l,b,xs,w,L,g,O,M,hz,λp r=>q p _<|.mk' r _⟩
theorem zjh:CallR X (.type "list") (λxs H Q=>∃p ys,xs=[.ref p]/\(SqL X.K H p ys\/SqT X.K H p ys)/\∀l H',New H l 50 H'->Q (.ref l) H'):=λpins s σ H xs us Q I r h=>by
 let(p,ys,e,O,q):=h;show zlb pins s σ H xs us Q I r ⟨p,ys,e,O,λl j=>q l _<|.mk' j _⟩
theorem zas:CallR X (.type "tuple") (λxs H Q=>∃p ys,xs=[.ref p]/\((SqL X.K H p ys/\∀l H',New H l (.tup ys) H'->Q (.ref l) H')\/(SqT X.K H p ys/\Q 22 H))):=λpins s σ H xs us Q I r h=>by
 let(p,ys,e,v):=h;apply zjd pins s σ H xs us Q I r ⟨p,ys,e,?_⟩;rcases v with⟨O,q⟩|O
 .exact .inl ⟨O,λl j=>q l _<|.mk' j _⟩
 .exact .inr O
theorem zk9(C:X.calm=N):CallR X (.type "set") (λxs H Q=>∃(p:Ad) (ks:List Key),xs=[.ref p]/\SqL X.K H p (ks.map kV)/\ks.length<=1000/\∀a H',New H a (setK X.prog X.w a ks) H'->Q 04 H'):=λpins s σ H xs us Q I r h=>by
 let(p,ks,e,J,hz,q):=h;show zm4 C pins s σ H xs us Q I r ⟨p,ks,e,J,hz,λa c=>q a _<|.mk' c _⟩
end
section
variable {tn:List Str}{cp:Y6}{g:TG}{tif:TT}{te:TE}{σ0:St}{Q:VK}{H1:Hp}{K:Frag}{a:Ad}{xs:List V}
def PMap(S:St->Prop)(f:V->V)(xs:List V)(H1:Hp)(i:Nat)(ys:List V)(σ:St)(H:Hp):Prop:=Same H1 H/\S σ/\ys=(xs.take i).map f
theorem zm0(S:St->Prop)(f:V->V)(I:xs.length<=1000)(O:SqL K H1 a xs)(C:S 044)
  (hs:∀D i σ H x,i<xs.length->x∈xs->xs[i]?=G x->Same H1 H->H1 D=B->H D=G (.lst<|(xs.take i).map f)->S σ->g x σ H λd H2=>tif d H2 λc H3 =>
   if c=N then te d H3 λy H4=>CStep D xs.length i (PMap S f xs H1) d y H4 else CSkip D xs.length i (PMap S f xs H1) d H3)
  (hd:∀D H,H1 D=B->Same H1 H->H D=G (.lst<|xs.map f)->Q 65 H):cBody tn cp g tif te σ0 Q (Itl K a) H1:=by
 apply zjc (K:=K) (a:=a) (xs:=xs) (λD i ys σ H=>PMap S f xs H1 i ys σ H) (zah I) (λD u=>⟨za0 u _,C,R⟩) (λD i ys σ H _ _ _ p=>p.1.seq O) ?_ ?_
 .rintro D i ys σ H x u hi J A Y ⟨r,p2,rfl⟩;show hs D i σ H x hi (y0k J) J r u A p2
 .rintro D ys σ H u A Y ⟨r,p2,rfl⟩;rw[y0l 08]at A;show hd D H u r A
theorem zcl(S:St->Prop)(f:V->V)(I:xs.length<=1000)(O:SqT K H1 a xs)(C:S 044)
  (hs:∀D i σ H x,i<xs.length->x∈xs->xs[i]?=G x->Same H1 H->H1 D=B->H D=G (.lst<|(xs.take i).map f)->S σ->g x σ H λd H2=>tif d H2 λc H3 =>
   if c=N then te d H3 λy H4=>CStep D xs.length i (PMap S f xs H1) d y H4 else CSkip D xs.length i (PMap S f xs H1) d H3)
  (hd:∀D H,H1 D=B->Same H1 H->H D=G (.lst<|xs.map f)->Q 65 H):cBody tn cp g tif te σ0 Q (Itt K a) H1:=by
 apply zyl (K:=K) (a:=a) (xs:=xs) (λD i ys σ H=>PMap S f xs H1 i ys σ H) (zah I) (λD u=>⟨za0 u _,C,R⟩) (λD i ys σ H _ _ _ p=>p.1.seqT O) ?_ ?_
 .rintro D i ys σ H x u hi J A Y ⟨r,p2,rfl⟩;show hs D i σ H x hi (y0k J) J r u A p2
 .rintro D ys σ H u A Y ⟨r,p2,rfl⟩;rw[y0l 08]at A;show hd D H u r A
theorem zbi(I:xs.length<=1000)(J:xs[i]?=G x)(u:H1 D=B)(L:H4 D=G (.lst<|(xs.take i).map f))(l:Same H1 H4)(s2:S d)(e:y=f x):
  CStep D xs.length i (PMap S f xs H1) d y H4:=by
 let hi:i<xs.length:=(y0f.mp J).1;apply cstep (zah I) hi L (by rw[y01,y0w];omega) ⟨l.wr u _,s2,?_⟩;rw[y14,J,y0u,e];rfl
def PFil(S:St->Prop)(p:V->Bool)(f:V->V)(xs:List V)(H1:Hp)(i:Nat)(ys:List V)(σ:St)(H:Hp):Prop:=Same H1 H/\S σ/\ys=((xs.take i).filter p).map f
theorem cf_tup(S:St->Prop)(p:V->Bool)(f:V->V)(I:xs.length<=1000)(O:SqT K H1 a xs)(C:S 044)
  (hs:∀D i σ H x,i<xs.length->x∈xs->xs[i]?=G x->Same H1 H->H1 D=B->H D=G (.lst<|((xs.take i).filter p).map f)->S σ->g x σ H λd H2=>tif d H2 λc H3 =>
   if c=N then te d H3 λy H4=>CStep D xs.length i (PFil S p f xs H1) d y H4 else CSkip D xs.length i (PFil S p f xs H1) d H3)
  (hd:∀D H,H1 D=B->Same H1 H->H D=G (.lst<|(xs.filter p).map f)->Q 65 H):cBody tn cp g tif te σ0 Q (Itt K a) H1:=by
 apply zyl (K:=K) (a:=a) (xs:=xs) (λD i ys σ H=>PFil S p f xs H1 i ys σ H) (zah I) (λD u=>⟨za0 u _,C,R⟩) (λD i ys σ H _ _ _ p=>p.1.seqT O) ?_ ?_
 .rintro D i ys σ H x u hi J A Y ⟨r,p2,rfl⟩;show hs D i σ H x hi (y0k J) J r u A p2
 .rintro D ys σ H u A Y ⟨r,p2,rfl⟩;rw[y0l 08]at A;show hd D H u r A
theorem cf_step(I:xs.length<=1000)(J:xs[i]?=G x)(E:p x=N)(u:H1 D=B)(L:H4 D=G (.lst<|((xs.take i).filter p).map f))(l:Same H1 H4)(s2:S d)(e:y=f x):
  CStep D xs.length i (PFil S p f xs H1) d y H4:=by
 let hi:i<xs.length:=(y0f.mp J).1;apply cstep (zah I) hi L ?_ ⟨l.wr u _,s2,?_⟩
 .rw[y01];let:=y2a p<|xs.take i;rw[y0w]at this;omega
 .rw[y14,J,y2p,y0u,e];simp[E]
theorem zup(J:xs[i]?=G x)(E:p x=Fa)(A:H3 D=G (.lst<|((xs.take i).filter p).map f))(o:Same H1 H3)(s2:S d):
  CSkip D xs.length i (PFil S p f xs H1) d H3:=by
 let hi:i<xs.length:=(y0f.mp J).1;apply cskip hi A ?_ ⟨o,s2,?_⟩
 .rw[y01];let:=y2a p<|xs.take i;rw[y0w]at this;omega
 .rw[y14,J,y2p];simp[E]
end
section
variable {X:Cx}{k:Nat}{H:Hp}{a b:Ad}{xs ys:List V}
theorem eqV_str(a b:Str):eqV (.str a) (.str b)=decide (a=b):=by
 by_cases h:a=b
 .subst h;simp[eqV]
 .simp[eqV,h]
theorem zgr(xs:List Str):(xs.map V.str).all flatV=N:=by
 rw[y12];intro x J;let(z,_,rfl):=y0h.mp J;rfl
def rEqS(K:Frag):R2:=λx y H Q=>∃(a b:Ad) (xs ys:List Str),x=.ref a/\y=.ref b/\SqL K H a (xs.map V.str)/\SqL K H b (ys.map V.str)/\Q (.bl<|decide (xs=ys)) H
def rNeS(K:Frag):R2:=λx y H Q=>∃(a b:Ad) (xs ys:List Str),x=.ref a/\y=.ref b/\SqL K H a (xs.map V.str)/\SqL K H b (ys.map V.str)/\Q (.bl<|!decide (xs=ys)) H
theorem zvs(d:SqL X.K H a xs)(U:SqL X.K H b []):RcOk X (k+1) H 04 49 (decide (xs=[])):=by
 cases xs with
 |nil =>
  let r:=zpn (k:=k) d U R (λ_=>N) λj O _=>by simp at O
  show r
 |cons x r=>show zrq d U 05
def rSlTN(K:Frag):V->Option Int->Option Int->Hp->VK->Prop:=λx lo hi H Q=>∃a xs,x=.ref a/\SqT K H a xs/\
 ¬(HT.sIx xs.length 0 lo=0/\HT.sIx xs.length xs.length hi=xs.length)/\∀p H',New H p (.tup<|cutL xs lo hi) H'->Q 22 H'
theorem zy0:SlR X (rSlTN X.K):=λpins s σ H x v g vu lo hi y Q I T hs c C h=>by
 let(a,xs,e,J,L,q):=h;show sl_tup pins s σ H x v g vu lo hi y Q I T hs c C ⟨a,xs,e,J,L,λp r=>q p _<|.mk' r _⟩
def rStrB(f:Str->Bool):V->List V->Hp->VK->Prop:=λx vs H Q=>∃z,x=.str z/\vs=[]/\Q (.bl<|f z) H
end
section
variable {K:Frag}{h:Heap}{mg:Y1}
theorem glt_mk(X:K.In h)(Gq:h.Ns iu mg)(a:PySem.W.nsIn K iu x=G (G 22))
  (l:K.lookup p=G ⟨.type "tuple",M,.seq its n,y⟩) (z:its.size<=ii) (r:Vals xs its.toList):∃q,GlV mg x (.ref q)/\∀H,SqT K H q xs :=
 ⟨p,⟨_,PySem.W.mg_of X Gq a,R⟩,λH=>.inr ⟨_,its,n,l,R,R,z,r⟩⟩
end
section
variable {X:Cx}(K:Frag)
theorem zps(h:X.K=K:=by rfl):OpR X (i4 .In) (rIn K Fa):=h▸zsd
theorem ziv(h:X.K=K:=by rfl):OpR X (i4 .NotIn) (rIn K N):=h▸zkm
theorem zav(h:X.K=K:=by rfl):IxR X (rIxL K):=h▸ix_list
theorem zag(h:X.K=K:=by rfl):IxR X (rIxT K):=h▸ix_tup
theorem zrd(h:X.K=K:=by rfl):SlR X (rSlLN K):=h▸zvh
theorem zvg(h:X.K=K:=by rfl):SlR X (rSlTN K):=h▸zy0
def rLen:List V->Hp->VK->Prop:=λxs H Q=>∃p ys,xs=[.ref p]/\(SqL K H p ys\/SqT K H p ys)/\Q (.int<|List.length ys) H
theorem zeq(h:X.K=K:=by rfl):CallR X (.builtin "len") (rLen K):=h▸zld
def rAll:List V->Hp->VK->Prop:=λxs H Q=>∃(p:Ad) (bs:List Bool),xs=[.ref p]/\SqL K H p (bs.map V.bl)/\Q (.bl<|bs.all id) H
theorem zli(C:X.calm=N)(h:X.K=K:=by rfl):CallR X (.builtin "all") (rAll K):=h▸zm8 C
def rAny:List V->Hp->VK->Prop:=λxs H Q=>∃(p:Ad) (bs:List Bool),xs=[.ref p]/\SqL K H p (bs.map V.bl)/\Q (.bl<|bs.any id) H
theorem zlh(C:X.calm=N)(h:X.K=K:=by rfl):CallR X (.builtin "any") (rAny K):=h▸zm7 C
def rSum:List V->Hp->VK->Prop:=λxs H Q=>∃(p:Ad) (ns:List Int),xs=[.ref p]/\SqL K H p 034/\Q (.int ns.sum) H
theorem zbr(C:X.calm=N)(h:X.K=K:=by rfl):CallR X (.builtin "sum") (rSum K):=h▸zk7 C
def rListOf:List V->Hp->VK->Prop:=λxs H Q=>∃p ys,xs=[.ref p]/\(SqL K H p ys\/SqT K H p ys)/\∀l H',New H l 50 H'->Q (.ref l) H'
theorem zhb(h:X.K=K:=by rfl):CallR X (.type "list") (rListOf K):=h▸zjh
theorem zba(Y:PE X l tl)(h:X.K=K:=by rfl):PI X a l (iList K tl):=h▸pi_list Y
theorem zbd(Y:PE X l tl)(h:X.K=K:=by rfl):PI X a l (iTup K tl):=h▸pi_tup Y
variable {o e:Expr}{es:List Expr}{to:TE}{t:TA}{name:Str}{apos cpos:Pos}{T id:String}{r:V->List V->Hp->VK->Prop}
theorem pe_bm0K(pa:PlainAttrs T)(slot:Slot T name id)(C:typeOf (.builtin id)=pure (.type "method_descriptor"))(Y:MtR X id r)(D:PE X o to)(h:X.K=K:=by rfl)
  (g:attributeBase o name X.env (eval o X.env)=eval o X.env:=by rfl) (f:(apos.endLine==cpos.line)=N:=by rfl):PE X (.Call (.Attribute o name apos) [] [] cpos) (tBM0 K T r to):=h▸pe_bm0 pa slot C Y D g f
theorem zcc(pa:PlainAttrs T)(slot:Slot T name id)(C:typeOf (.builtin id)=pure (.type "method_descriptor"))(Y:MtR X id r)(D:PE X o to)(d:PA X (e::es) t)(h:X.K=K:=by rfl)
  (g:attributeBase o name X.env (eval o X.env)=eval o X.env:=by rfl)
  (j:((iT cpos<|im (e::es) X.env).all (λx=>!x.1)&&(backToKw cpos<|keywordEach [] X.env).all (λx=>x.1.isSome)
   && decide ((e::es).length+([]:List jW).length+(if([]:List jW).isEmpty then 0 else 1)<30))=N:=by rfl)
  (f:(apos.endLine==cpos.line)=N:=by rfl) (O:notStar e=N:=by rfl) (M:es.all notStar=N:=by rfl) :
  PE X (.Call (.Attribute o name apos) (e::es) [] cpos) (tBM K T r to t):=h▸pe_bm pa slot C Y D d g j f (zap O) (zbb M)
end
section
variable {P:ik}{w:World}{A:io}{E:Y0}{s:ig}
theorem zmn(st:s.heap.IsTupleIter j t k)(c:s.heap.IsTuple t its)(C:its[k]?=G y)
  (q:∀h',h'.IsTupleIter j t (k+1)->Heap.SameBut j s.heap h'->Q y {s with heap:=h'}):wpAny (model P w) A (Builtin.SmallTypes.nextOf<|.ref j) Q E s:=by
 let(l,f,u,d):=id st;let(i,g,_,r,O):=c;unfold Builtin.SmallTypes.nextOf;apply ia<|iB (name:=Str.ofString "__next__") st.typeIs F.slot_tuple_iterator_next (i5 F.slot_tuple_iterator_next st.typeIs F.entry_tuple_iterator_next ?_<|F.args_tuple_iterator_next_1 _);change wpAny _ _ (field (.ref j) 0>>=_) _ _ s;apply ia<|iA f d (x:=.ref t) R ?_;change wpAny _ _ (if(Va.ref t==Va.none)=N then _ else _) _ _ s;rw[Xp<|show¬(Va.ref t==Va.none)=N from y0i];change wpAny _ _ (field (.ref j) 1>>=_) _ _ s;apply ia<|iA f d (x:=.int k 0) R ?_;change wpAny _ _ (seqItems? (.ref t)>>=_) _ _ s;apply ia<|iF g O ?_;simp only[y1d,C];apply ia<|iD f d 05 (ib ⟨y,R,ib<|q _ ?_ (Heap.SameBut.update ..)⟩);show⟨_,y1b _ f<|Obj.isFreed_of_fields (Obj.data_mapFields d _),(Obj.cls_mapFields ..).trans u,by rw[Obj.data_mapFields d];simp[i9]⟩
theorem zp5(M:A.handled=B)(st:s.heap.IsTupleIter j t k)(c:s.heap.IsTuple t its)(C:its[k]?=B)
  (q:∀h' e,Heap.ExtBut j s.heap h'->(∃o,h'.get? e=G o/\o.cls=.type "StopIteration")->E (.ref e) {s with heap:=h'}):wpAny (model P w) A (Builtin.SmallTypes.nextOf<|.ref j) Q E s:=by
 let(l,f,u,d):=id st;let(i,g,_,r,O):=c;unfold Builtin.SmallTypes.nextOf;apply ia<|iB (name:=Str.ofString "__next__") st.typeIs F.slot_tuple_iterator_next (i5 F.slot_tuple_iterator_next st.typeIs F.entry_tuple_iterator_next ?_<|F.args_tuple_iterator_next_1 _);change wpAny _ _ (field (.ref j) 0>>=_) _ _ s;apply ia<|iA f d (x:=.ref t) R ?_;change wpAny _ _ (if(Va.ref t==Va.none)=N then _ else _) _ _ s;rw[Xp<|show¬(Va.ref t==Va.none)=N from y0i];change wpAny _ _ (field (.ref j) 1>>=_) _ _ s;apply ia<|iA f d (x:=.int k 0) R ?_;change wpAny _ _ (seqItems? (.ref t)>>=_) _ _ s;apply ia<|iF g O ?_;simp only[y1d,C];apply ia<|jn (ia<|iD f d 05 ?_);change wpAny _ _ (newExc (.type "StopIteration") []>>=_) _ _ _;apply ia ?_;simp only[newExc,newTuple];apply ia<|i7 ?_ (by size_fits);apply ia (m:=jE _ _)<|wpAny_of_eq (a:=Va.none) (by simp only[jE];rfl) ?_;apply i7 ?_ (by size_fits);simp only[raiseNew];apply ia<|wpAny_handled ?_;rw[show A.in1.handled=B from M];apply ia<|ib (wpAny_throw<|q _ _ (((Heap.SameBut.update ..).extBut.push _).push _) ⟨_,y0d _ R,R⟩)
end
def IsSq(h:Heap)(l:Bool)(t:Ad)(its:Array Va):Prop:=cond l (h.IsList t its)<|h.IsTuple t its
noncomputable abbrev itn(l:Bool):String:=cond l "list_iterator" "tuple_iterator"
def IsSi(h:Heap)(l:Bool)(j t:Ad)(k:Nat):Prop:=∃o,h.get? j=G o/\o.cls=.type (itn l)/\o.data=.fields #[.ref t,.int k 0]
def SqB(K:Frag)(l:Bool)(H:Hp)(a:Ad)(xs:List V):Prop:=cond l (SqL K H a xs)<|SqT K H a xs
abbrev IsZipF(h:Heap)(z ti ro:Ad)(y f1:Va):Prop:=h.get? z=G {cls:=.type "zip",dict:=B,data:=.fields #[y,f1,.bool Fa,.ref ti,.ref ro],slots:=#[]}
theorem zp8(h:Q (s.heap.get? a) s):wpAny M A (loadIfAlive a) Q E s:=λ_ _ _=>h
structure ZipG(l1 l2:Bool)(h:Heap)(z ti ro j1 j2 t1 t2:Ad)(i:Nat):Prop where
 z:∃f0 f1,IsZipF h z ti ro f0 f1/\(f0=Va.none\/∃a:Ad,f0=i9 a)
 ti:jO h ti (.ref j1)<|.ref j2
 ro:∃a b,jO h ro a b
 j1:IsSi h l1 j1 t1 i
 j2:IsSi h l2 j2 t2 i
section
variable {P:ik}{w:World}{A:io}{E:Y0}{s:ig}{h h':Heap}{l l1 l2:Bool}{z ti ro j1 j2 t1 t2:Ad}{i:Nat}{its its1 its2:Array Va}{a b j t:Ad}
theorem IsSq.at(x:IsSq h l t its)(k:∀o,h.get? t=G o->h'.get? t=G o):IsSq h' l t its:=by cases l<;>show let⟨o,e,r⟩:=x;⟨o,k o e,r⟩
theorem IsSq.ext(x:IsSq h l t its)(k:Heap.ExtBut b h h')(n:t≠b):IsSq h' l t its:=x.at λo e=>k t o n e
theorem IsSq.lt(x:IsSq h l t its):t<h.objs.size:=by cases l<;>show let⟨_,e,_⟩:=x;y0g e
theorem IsSi.at(x:IsSi h l j t i)(k:∀o,h.get? j=G o->h'.get? j=G o):IsSi h' l j t i:=let⟨o,e,r⟩:=x;⟨o,k o e,r⟩
theorem IsSi.ext(x:IsSi h l j t i)(k:Heap.ExtBut b h h')(n:j≠b):IsSi h' l j t i:=x.at λo e=>k j o n e
theorem zix(st:IsSi s.heap l j t i)(c:IsSq s.heap l t its)(C:its[i]?=G y)
  (q:∀h',IsSi h' l j t (i+1)->Heap.SameBut j s.heap h'->Q y {s with heap:=h'}):wpAny (model P w) A (Builtin.SmallTypes.nextOf<|.ref j) Q E s:=by
 cases l
 .exact zmn st c C q
 .exact wpAny_nextOf_list_item st c C q
theorem zx6(M:A.handled=B)(st:IsSi s.heap l j t i)(c:IsSq s.heap l t its)(C:its[i]?=B)
  (q:∀h' e,Heap.ExtBut j s.heap h'->(∃o,h'.get? e=G o/\o.cls=.type "StopIteration")->E (.ref e) {s with heap:=h'}):wpAny (model P w) A (Builtin.SmallTypes.nextOf<|.ref j) Q E s:=by
 cases l
 .exact zp5 M st c C q
 .exact wpAny_nextOf_list_end M st c C q
theorem it_sq(x:IsSq s.heap l t its)(q:Q 018 {s with heap:=s.heap.push {cls:=.type<|itn l,data:=.fields #[.ref t,.int 0 0]} }):wpAny (model P w) A (jV<|.ref t) Q E s:=by
 cases l
 .exact wpAny_pyIter_tuple x q
 .exact jb x q
theorem ZipG.move(Z:ZipG l1 l2 h z ti ro j1 j2 t1 t2 i)(k:∀c∈[z,ti,ro,j1,j2],∀o,h.get? c=G o->h'.get? c=G o):ZipG l1 l2 h' z ti ro j1 j2 t1 t2 i :=
 let⟨y,f1,L,T⟩:=Z.z;let⟨u,v,d⟩:=Z.ro
 ⟨⟨y,f1,k z 05 _ L,T⟩,k ti 05 _ Z.ti,⟨u,v,k ro 05 _ d⟩,Z.j1.at λo e=>k j1 05 o e,Z.j2.at λo e=>k j2 05 o e⟩
theorem ZipG.there(Z:ZipG l1 l2 h z ti ro j1 j2 t1 t2 i):∀c∈[z,ti,ro,j1,j2],∃o,h.get? c=G o/\∀v,o.data ≠ .cell v:=λc C=>by
 let(y,f1,f,T):=Z.z;let(u,v,d):=Z.ro;let(H,L,_,p):=Z.j1;let(e,g,_,Y):=Z.j2;simp only[y08,y0n,or_false]at C;rcases C with rfl|rfl|rfl|rfl|rfl
 .exact⟨_,f,λv q=>nomatch q⟩
 .exact⟨_,Z.ti,λv q=>nomatch q⟩
 .exact⟨_,d,λv q=>nomatch q⟩
 .exact⟨_,L,λv q=>by rw[p]at q;cases q⟩
 .exact⟨_,g,λv q=>by rw[Y]at q;cases q⟩
theorem ZipG.lt(Z:ZipG l1 l2 h z ti ro j1 j2 t1 t2 i)(C:c∈[z,ti,ro,j1,j2]):c<h.objs.size:=let⟨_,e,_⟩:=Z.there c C;y0g e
theorem zhu(hz:IsZipF s.heap z ti ro y f1)(T:y=Va.none\/∃a:Ad,y=i9 a)(q:∀b h' g1,IsZipF h' z ti ro y g1->Heap.SameBut z s.heap h'->Q b {s with heap:=h'}):
  wpAny 81 A (Builtin.SmallTypes.ownedTupleIsFree<|.ref z) Q E s:=by
 unfold Builtin.SmallTypes.ownedTupleIsFree;apply ia<|iA hz R (x:=y) R ?_;rcases T with rfl|⟨a,rfl⟩
 .exact ib<|q N s.heap f1 hz (Heap.SameBut.refl _ _)
 .change wpAny _ _ (loadIfAlive _>>=_) _ _ _;apply ia<|zp8 ?_;cases s.heap.get? (Int.toNat (a:Int))with
  |none =>
   rw[Xq<|show(B:Option Obj).isNone=N from rfl];show ib<|q N s.heap f1 hz (Heap.SameBut.refl _ _)
  |some o =>
   rw[Xp<|show¬(G o:Option Obj).isNone=N from y0i];apply ia<|iA hz R (x:=f1) R ?_;by_cases c:(f1 !=Va.bool N)=N
   .rw[Xq c];show ia<|iP hz 05 λh' M p=>ib<|q Fa h' (.bool N) M p
   .rw[Xp c];show ib<|q Fa s.heap f1 hz (Heap.SameBut.refl _ _)
theorem zyo{x y:Va}{Q:Y0}(D:jG z ti ro j1 j2 t1 t2)(Z:ZipG l1 l2 s.heap z ti ro j1 j2 t1 t2 i)(r:IsSq s.heap l1 t1 its1)(p2:IsSq s.heap l2 t2 its2)(J:its1[i]?=G x)(hy:its2[i]?=G y)
  (q:∀h',ZipG l1 l2 h' z ti ro j1 j2 t1 t2 (i+1)->jO h' s.heap.objs.size x y->h'.objs.size=s.heap.objs.size+1->075->
   Q 018 {s with heap:=h'}):wpAny (model P w) A (Builtin.«zip.__next__» ⟨[.ref z],[]⟩) (λfin s'=>∃v,fin=.done (.ret v)/\Q v s') E s:=by
 let(f0,f1,L,T):=Z.z;let(a,b,hro):=Z.ro;let off:∀{c},c∉[z,ti,ro,j1,j2]->c≠z/\c≠ro/\c≠j1/\c≠j2:=λh=>⟨λe=>h (by simp[e]),λe=>h (by simp[e]),λe=>h (by simp[e]),λe=>h<|by simp[e]⟩;change wpAny _ _ (field (.ref z) 2>>=_) _ _ _;apply ia<|iA L R (x:=.bool Fa) R ?_;change wpAny _ _ (field (.ref z) 3>>=_) _ _ _;apply ia<|iA L R (x:=.ref ti) R ?_;apply ia<|iF Z.ti R ?_;change wpAny _ _ (Builtin.SmallTypes.ownedTupleIsFree (.ref z)>>=_) _ _ _;apply ia<|zhu L T λfree h0 g1 z0 u=>?_;cases free with
 |true =>
  rw[Xq rfl];apply ia<|jn ?_;apply ia<|iA z0 R (x:=.ref ro) R ?_;apply ia<|iP z0 05 λd hza H=>?_;replace hza:IsZipF d z ti ro .ellipsis g1:=hza;let H:=u.trans H;apply ia ?_;simp only[List.zipIdx_cons,List.zipIdx_nil,y25,y2v];apply ia<|ia (jP ?_);change wpAny _ _ (Builtin.SmallTypes.nextOf (.ref j1)>>=_) _ _ _;apply ia<|zix (Z.j1.ext H.extBut D.i1z) (r.ext H.extBut D.l1z) J λU I p=>ib ?_;let rob:jO U ro a b:=p.extBut _ _ D.TOi1<|H.extBut _ _ D.TOz hro;apply ia<|iF rob R ?_;apply ia<|wpAny_updateSeq_pair rob λC roc O=>?_;replace roc:jO C ro x b:=roc;apply ia<|jL (ib ?_);apply ia<|ia (jP ?_);change wpAny _ _ (Builtin.SmallTypes.nextOf (.ref j2)>>=_) _ _ _;apply ia<|zix (((Z.j2.ext H.extBut D.i2z).ext p.extBut D.i12.symm).ext O.extBut D.TOi2.symm) (((p2.ext H.extBut D.l2z).ext p.extBut D.l2i1).ext O.extBut D.l2TO) hy λhd Y M=>ib ?_;let rod:jO hd ro x b:=M.extBut _ _ D.TOi2 roc;apply ia<|iF rod R ?_;apply ia<|wpAny_updateSeq_pair rod λf roe nj=>?_;replace roe:jO f ro x y:=roe;apply ia<|jL (ib<|ib ?_);apply ia<|iF roe R ?_;apply ia<|jZ ?_;let sz:f.objs.size=s.heap.objs.size:=by rw[nj.1,M.1,O.1,p.1,H.1]
  let ze:IsZipF f z ti ro .ellipsis g1:=nj.extBut _ _ D.TOz.symm<|M.extBut _ _ D.i2z.symm (O.extBut _ _ D.TOz.symm<|p.extBut _ _ D.i1z.symm hza);let ke:∀c o,c≠z/\c≠ro/\c≠j1/\c≠j2->s.heap.get? c=G o->f.get? c=G o:=λc o ⟨g,c2,c3,c4⟩ e =>
   nj.extBut _ _ c2 (M.extBut _ _ c4<|O.extBut _ _ c2 (p.extBut _ _ c3<|H.extBut _ _ g e))
  let zlt:z<f.objs.size:=y0g ze;change wpAny _ _ (Builtin.SmallTypes.ownedTupleHandOut (.ref z) (.ref f.objs.size)>>=_) _ _ _;apply ia ?_;unfold Builtin.SmallTypes.ownedTupleHandOut;apply ia<|iP (y04 _ ze) 05 λhg zg hsg=>?_;replace zg:IsZipF hg z ti ro (i9 f.objs.size) g1:=zg;apply iP zg 05 λhk zk hsk=>?_;let up:∀c o,c≠z->f.get? c=G o->hk.get? c=G o:=λc o g e=>hsk.extBut _ _ g<|hsg.extBut _ _ g (y04 _ e);let tk:jO hk f.objs.size x y:=hsk.extBut _ _ (y24 zlt)<|hsg.extBut _ _ (y24 zlt) (y0d _ R);let ni:hk.objs.size=f.objs.size+1:=by rw[hsk.1,hsg.1,y19]
  rw[sz]at tk ni;apply ib ⟨_,R,?_⟩;change Q (.ref f.objs.size) _;rw[sz];show q hk ⟨⟨_,_,zk,.inr ⟨_,R⟩⟩,up _ _ D.TIz<|ke _ _ ⟨D.TIz,D.TITO,D.TIi1,D.TIi2⟩ Z.ti,⟨_,_,up _ _ D.TOz roe⟩,(((I.ext O.extBut D.TOi1.symm).ext M.extBut D.i12).ext nj.extBut D.TOi1.symm).at λo e=>up _ o D.i1z e,(Y.ext nj.extBut D.TOi2.symm).at λo e=>up _ o D.i2z e⟩ tk ni
   λc o n e=>up c o (off n).1<|ke c o (off n) e
 |false =>
  rw[Xp y0i];apply ia ?_;rw[←Array.forIn_toList];simp only[y25,y2v];apply ia<|ia (ir ?_);change wpAny _ _ (Builtin.SmallTypes.nextOf (.ref j1)>>=_) _ _ _;apply ia<|zix (Z.j1.ext u.extBut D.i1z) (r.ext u.extBut D.l1z) J λU I p=>ib ?_;apply ib ?_;apply ia<|ia (ir ?_);change wpAny _ _ (Builtin.SmallTypes.nextOf (.ref j2)>>=_) _ _ _;apply ia<|zix ((Z.j2.ext u.extBut D.i2z).ext p.extBut D.i12.symm) ((p2.ext u.extBut D.l2z).ext p.extBut D.l2i1) hy λhd Y M=>ib ?_;apply ib<|ib ?_;apply ia<|jZ ?_ (show(2:Nat)<=ii by decide);let sz:hd.objs.size=s.heap.objs.size:=by rw[M.1,p.1,u.1]
  let tk:jO (hd.push {cls:=.type "tuple",data:=.seq #[x,y]}) hd.objs.size x y:=y0d _ rfl;let ni:(hd.push {cls:=.type "tuple",data:=.seq #[x,y]}).objs.size=hd.objs.size+1:=y19 ..;rw[sz]at tk ni;apply ib ⟨_,R,?_⟩;change Q (.ref hd.objs.size) _;rw[sz];let ke:∀c o,c≠z/\c≠j1/\c≠j2->s.heap.get? c=G o->(hd.push {cls:=.type "tuple",data:=.seq #[x,y]}).get? c=G o:=λc o n e =>
   y04 _ (M.extBut _ _ n.2.2<|p.extBut _ _ n.2.1 (u.extBut _ _ n.1 e))
  show q _ ⟨⟨_,_,y04 _<|M.extBut _ _ D.i2z.symm (p.extBut _ _ D.i1z.symm z0),T⟩,ke _ _ ⟨D.TIz,D.TIi1,D.TIi2⟩ Z.ti,⟨_,_,ke _ _ ⟨D.TOz,D.TOi1,D.TOi2⟩ hro⟩,(I.ext M.extBut D.i12).at λo e=>y04 _ e,Y.at λo e=>y04 _ e⟩ tk ni
   λc o n e=>ke c o ⟨(off n).1,(off n).2.2⟩ e
theorem zn_end(M:A.handled=B)(D:jG z ti ro j1 j2 t1 t2)(Z:ZipG l1 l2 s.heap z ti ro j1 j2 t1 t2 i)(r:IsSq s.heap l1 t1 its1)(J:its1[i]?=B)
  (q:∀h' e,075->(∃o,h'.get? e=G o/\o.cls=.type "StopIteration")->E (.ref e) {s with heap:=h'}):wpAny (model P w) A (Builtin.«zip.__next__» ⟨[.ref z],[]⟩) Q E s:=by
 let(y,f1,L,T):=Z.z;change wpAny _ _ (field (.ref z) 2>>=_) _ _ _;apply ia<|iA L R (x:=.bool Fa) R ?_;change wpAny _ _ (field (.ref z) 3>>=_) _ _ _;apply ia<|iA L R (x:=.ref ti) R ?_;apply ia<|iF Z.ti R ?_;change wpAny _ _ (Builtin.SmallTypes.ownedTupleIsFree (.ref z)>>=_) _ _ _;apply ia<|zhu L T λfree h0 g1 v u=>?_;cases free with
 |true =>
  rw[Xq rfl];apply ia<|jn ?_;apply ia<|iA v R (x:=.ref ro) R ?_;apply ia<|iP v 05 λd g H=>?_;replace g:IsZipF d z ti ro .ellipsis g1:=g;let H:=u.trans H;apply ia ?_;simp only[List.zipIdx_cons,List.zipIdx_nil,y25,y2v];apply ia<|ia (jP ?_);change wpAny _ _ (Builtin.SmallTypes.nextOf (.ref j1)>>=_) _ _ _;apply ia<|zx6 M (Z.j1.ext H.extBut D.i1z) (r.ext H.extBut D.l1z) J λU e p ⟨Y,ge,I⟩=>?_;let zb:IsZipF U z ti ro .ellipsis g1:=p _ _ D.i1z.symm g;let nez:e≠z:=λf=>by
   subst f;rw[zb]at ge;cases ge;simp at I
  apply iP zb 05 λC _ O=>?_;show q _ _ (λc o n x=>O.extBut _ _ (λe=>n<|by simp[e])<|p _ _ (λe=>n<|by simp[e]) (H.extBut _ _ (λe=>n<|by simp[e]) x)) ⟨Y,O.extBut _ _ nez ge,I⟩
 |false =>
  rw[Xp y0i];apply ia ?_;rw[←Array.forIn_toList];simp only[y25,y2v];apply ia<|ia (ir ?_);change wpAny _ _ (Builtin.SmallTypes.nextOf (.ref j1)>>=_) _ _ _;apply ia<|zx6 M (Z.j1.ext u.extBut D.i1z) (r.ext u.extBut D.l1z) J λU e p ex=>?_;show q _ _ (λc o n x=>p _ _ (λe=>n<|by simp[e])<|u.extBut _ _ (λe=>n<|by simp[e]) x) ex
theorem zqx(D:jG z ti ro j1 j2 t1 t2)(Z:ZipG l1 l2 s.heap z ti ro j1 j2 t1 t2 i)(r:IsSq s.heap l1 t1 its1)(p2:IsSq s.heap l2 t2 its2)(J:its1[i]?=G x)(C:its2[i]?=G y)
  (q:∀h',ZipG l1 l2 h' z ti ro j1 j2 t1 t2 (i+1)->jO h' s.heap.objs.size x y->h'.objs.size=s.heap.objs.size+1->075->
   Q (G 018) {s with heap:=h'}):wpAny (model P w) A (j8<|.ref z) Q E s:=by
 let v:s.TypeIs (.ref z) "zip":=let⟨_,_,L,_⟩:=Z.z;⟨_,L,R⟩;unfold j8;show ia<|jQ (iB (name:=Str.ofString "__next__") v F.slot_zip_next<|i5 F.slot_zip_next v F.entry_zip_next (zyo D Z r p2 J C λh' a b c d=>ib<|q h' a b c d) (F.args_zip_next_1 _))
theorem zxu(M:A.handled=B)(D:jG z ti ro j1 j2 t1 t2)(Z:ZipG l1 l2 s.heap z ti ro j1 j2 t1 t2 i)(r:IsSq s.heap l1 t1 its1)(J:its1[i]?=B)
  (q:∀h',075->Q B {s with heap:=h'}):wpAny (model P w) A (j8<|.ref z) Q E s:=by
 let v:s.TypeIs (.ref z) "zip":=let⟨_,_,L,_⟩:=Z.z;⟨_,L,R⟩;unfold j8;apply ia<|jQ (iB (name:=Str.ofString "__next__") v F.slot_zip_next<|i5 F.slot_zip_next v F.entry_zip_next (zn_end M D Z r J λh' e k ⟨Y,d,I⟩=>?_) (F.args_zip_next_1 _));show ia<|jz (T:="StopIteration") (b:=N) ⟨Y,d,I⟩ isSubtype_stop (ib<|q _ k)
theorem go_zip(Z:ZipG l1 l2 s.heap z ti ro j1 j2 t1 t2 i)(D:jG z ti ro j1 j2 t1 t2)
  (q:∀h',ZipG l1 l2 h' z ti ro j1 j2 t1 t2 i->Heap.SameBut z s.heap h'->Q () {s with heap:=h'}):wpAny (model P w) A (iY (.Tuple c C pos) (.ref z)<|.ref T) Q E s:=by
 let(y,f1,L,x):=Z.z;unfold iY;apply ia<|lq L ?_;change wpAny _ _ (if _=N then _ else _) Q E s;split
 .refine ia<|jn ?_;change wpAny _ _ (setField (.ref z) 0 .none) Q E s;show iP L 05 λh' M p=>q h' ⟨⟨_,_,M,.inl R⟩,p.extBut _ _ D.TIz Z.ti,let⟨u,v,e⟩:=Z.ro;⟨u,v,p.extBut _ _ D.TOz e⟩,Z.j1.ext p.extBut D.i1z,Z.j2.ext p.extBut D.i2z⟩ p
 .exact ib<|q _ Z (Heap.SameBut.refl _ _)
theorem zom(Z:ZipG l1 l2 s.heap z ti ro j1 j2 t1 t2 i)(h:Q (.ref z) s):wpAny 81 A (jV<|.ref z) Q E s:=by
 let v:s.TypeIs (.ref z) "zip":=let⟨_,_,L,_⟩:=Z.z;⟨_,L,R⟩;apply jw v F.slot_zip_iter<|i5 F.slot_zip_iter v F.entry_zip_iter ?_ (F.args_zip_iter_1 _);change wpAny _ _ (ret<|.ref z) _ _ s;show ib ⟨_,R,"zip",_,v,F.slot_zip_next.lookup,h⟩
end
abbrev zt1(l:Bool)(h:Heap)(a:Ad):Heap:=h.push {cls:=.type<|itn l,data:=.fields #[.ref a,.int 0 0]}
abbrev zt3(l1 l2:Bool)(h:Heap)(a b:Ad):Heap:=(zt1 l2 (zt1 l1 h a) b).push {cls:=.type "tuple",data:=.seq #[.ref h.objs.size,.ref (zt1 l1 h a).objs.size]}
abbrev zt4(l1 l2:Bool)(h:Heap)(a b:Ad):Heap:=(zt3 l1 l2 h a b).push {cls:=.type "tuple",data:=.seq #[.none,.none]}
abbrev zt5(l1 l2:Bool)(h:Heap)(a b:Ad):Heap:=(zt4 l1 l2 h a b).push {cls:=.type "zip",data:=.fields #[.none,.bool Fa,.bool Fa,.ref (zt1 l2 (zt1 l1 h a) b).objs.size,.ref (zt3 l1 l2 h a b).objs.size]}
theorem zt_new(l1 l2:Bool)(a b:Ad)(xs ys:Array Va):Meets (Builtin.«zip.__new__» ⟨[.type "zip",.ref a,.ref b],[]⟩) (λ_ Rq s=>IsSq s.heap l1 a xs/\IsSq s.heap l2 b ys/\Rq (.ok<|.ret (.ref (zt4 l1 l2 s.heap a b).objs.size)) {s with heap:=zt5 l1 l2 s.heap a b}) :=
 .of_wp λprog w A Rq s h=>by
  let(hp,g,d,tk,os):=s;let(ha,hb,h):=h;let hsub:=sub_zip;let hA:IsSq (Shared.heap ⟨hp,g,d,tk,os⟩) l1 a xs:=ha;let hB:IsSq (Shared.heap ⟨hp.push {cls:=.type<|itn l1,data:=.fields #[.ref a,.int 0 0]},g,d,tk,os⟩) l2 b ys:=hb.at λo e=>y04 _ e
  wp_walk using it_sq hA,it_sq hB
  show⟨_,R,h⟩
theorem zqw(d:IsSq s.heap l1 a xs)(U:IsSq s.heap l2 b ys)
  (q:∀h',IsZip h' (s.heap.objs.size+4) (s.heap.objs.size+2) (s.heap.objs.size+3) .none->ZipG l1 l2 h' (s.heap.objs.size+4) (s.heap.objs.size+2) (s.heap.objs.size+3) s.heap.objs.size 061 a b 0->h'.objs.size=s.heap.objs.size+5->(∀c o,s.heap.get? c=G o->h'.get? c=G o)->Q (.ref<|s.heap.objs.size+4) {s with heap:=h'}) :
  wpAny 81 A (call (.type "zip") [.ref a,.ref b]) Q E s:=by
 apply callType_new F.called_zip 07 (F.typeCall_zip_2 _ _) (F.newCall_zip_2 _ _) (λobj=>F.args_object_init_3 obj _ _) F.entry_zip_new (zt_new l1 l2 a b xs ys) ⟨d,U,?_⟩;let s1:(zt1 l1 s.heap a).objs.size=s.heap.objs.size+1:=y19 ..;let s2:(zt1 l2 (zt1 l1 s.heap a) b).objs.size=s.heap.objs.size+2:=by rw[y19,s1]
 let J:(zt3 l1 l2 s.heap a b).objs.size=s.heap.objs.size+3:=by rw[y19,s2]
 let j:(zt4 l1 l2 s.heap a b).objs.size=s.heap.objs.size+4:=by rw[y19,J]
 let s5:(zt5 l1 l2 s.heap a b).objs.size=s.heap.objs.size+5:=by rw[y19,j]
 let k5:(zt5 l1 l2 s.heap a b).get? (zt4 l1 l2 s.heap a b).objs.size=G _:=y0d _ rfl;let up:∀c o,(zt3 l1 l2 s.heap a b).get? c=G o->(zt5 l1 l2 s.heap a b).get? c=G o:=λc o e=>y04 _<|y04 _ e;let f:(zt5 l1 l2 s.heap a b).get? (zt3 l1 l2 s.heap a b).objs.size=G _:=y04 _<|y0d _ R;let k3:=up _ _<|y0d _ R;let k2:=up (zt1 l1 s.heap a).objs.size _<|y04 _ (y0d _ R);let k1:=up s.heap.objs.size _<|y04 _ (y04 _<|y0d _ R);rw[s2,J,j]at k5;rw[s1,s2]at k3;rw[J]at f;rw[s1]at k2;change _/\_;rw[j];show⟨⟨_,k5,R⟩,q _ k5 ⟨⟨_,_,k5,.inl R⟩,k3,⟨_,_,f⟩,⟨_,k1,R,R⟩,⟨_,k2,R,R⟩⟩ s5 λc o x=>up _ _<|y04 _ (y04 _<|y04 _ x)⟩
section
variable {X:Cx}{pins:Y2}{σ:St}{H:Hp}{s:ig}{h':Heap}
theorem Inv.turnedL{t':Nat}{L:List Ad}(I:02 H s)(k:∀b o,b∉L->s.heap.get? b=G o->h'.get? b=G o)(i:∀b∈L,FpOk X pins H b):02 H {s with heap:=h',toks:=t'}:=by
 let g:∀b u,H b=G u->b∉L:=λb u e z=>by rw[(i b z).1]at e;cases e
 apply I.step (g':=s.gens) (d':=s.drawn) (ch:=L) (λb U=>?_) (λb o _ _ C e _=>k b o C e) (λb o _ _ C e _=>⟨o.slots,k b o C e⟩) (λ_ _ _ _ n=>n)
  (λb o C e=>⟨o,k b o C e⟩) (λ_ _ e=>e) (λ_ _ _ e=>e) (λ_ _ _ e=>e) (λm Y=>?_) (λb u e=>?_) I.bare
 .let(_,f1,_,M,Q,A):=i b U;show⟨M,f1,Q,A⟩
 .let(o,l,ep,D,r):=Y;show⟨o,l,ep,k _ o (λz=>(i _ z).2.1 R) D,r⟩
 .refine(I.hok b u e).stay (λc v C q=>k c v ?_ q) (λ_ q=>q) (λ_ _ _ _ _ q=>q) λ_ _ q=>q;rcases C with z|z
  .rw[z];show g b u e
  .exact g c _ z
theorem Inv.turnedNew{t':Nat}{L:List Ad}{p:Ad}{o:HO}(I:02 H s)(k:∀b u,b∉L->s.heap.get? b=G u->h'.get? b=G u)(i:∀b∈L,FpOk X pins H b)(E:s.heap.objs.size<=p)(new:ObjOk X.prog X.w (upd H p o) h' p o)
  (Y:∀b∈L,∃u,h'.get? b=G u):02 (upd H p o) {s with heap:=h',toks:=t'}:=by
 let d:H p=B:=I.hok.fresh E;let g:∀b u,H b=G u->b∉L:=λb u e z=>by rw[(i b z).1]at e;cases e
 let ne:∀b u,H b=G u->upd H p o b=G u:=λb u e=>by rw[zak<|zax e d];show e
 apply I.step (g':=s.gens) (d':=s.drawn) (ch:=L) (λb U=>?_) (λb u _ _ C e _=>k b u C e) (λb u _ _ C e _=>⟨u.slots,k b u C e⟩) (λb u _ e z=>?_)
  (λb u C e=>⟨u,k b u C e⟩) (λb xs e=>ne b _ e) (λb ob u e=>ne b _ e) (λb _ _ e=>ne b _ e) (λm j=>?_) (λb u e=>?_) I.bare
 .let(_,f1,_,M,Q,A):=i b U;show⟨M,f1,Q,A⟩
 .rw[zak<|y0m (y0q (y0g e) E)];show z
 .let(ob,l,ep,D,r):=j;show⟨ob,l,ep,k _ ob (λz=>(i _ z).2.1 R) D,r⟩
 .by_cases U:b=p
  .subst U;rw[zao]at e;cases e;show new
  .rw[zak U]at e;apply(I.hok b u e).stay (λc v C q=>k c v ?_ q) (λc q=>ne c _ q) (λc _ _ _ _ q=>ne c _ q) λc xs q=>ne c _ q;rcases C with z|z
   .rw[z];show g b u e
   .exact g c _ z
end
section
variable {X:Cx}{pins:Y2}{σ:St}{H H':Hp}{s:ig}{l:Bool}{a:Ad}{xs ys:List V}
theorem Inv.sq(I:02 H s)(h:SqB X.K l H a xs):∃its:List Va,Vals xs its/\IsSq s.heap l a its.toArray:=by
 cases l
 .exact let⟨its,r,p,_⟩:=I.tuple h;⟨its,r,p⟩
 .exact let⟨its,r,p,_⟩:=I.list h;⟨its,r,p.isList⟩
theorem Inv.sq_inj(I:02 H s)(h:SqB X.K l H a xs)(h':SqB X.K l H a ys):xs=ys:=by
 cases l
 .exact I.tuple_inj h h'
 .exact I.list_inj h h'
theorem zle(C:c∈[n+4,n+2,n+3,n,n+1]):n<=c:=by
 simp only[y08,y0n,or_false]at C;omega
theorem star2{a b:Expr}{env:Env}(O:notStar a=N)(M:notStar b=N):im [a,b] env=[(Fa,eval a env),(Fa,eval b env)]:=by rw[zap O,zap M,starEach.eq_def]
end
noncomputable def ItB(K:Frag)(l1 l2:Bool)(a b:Ad):It :=
 ⟨λi H=>∃xs ys x y,SqB K l1 H a xs/\SqB K l2 H b ys/\xs[i]?=G x/\ys[i]?=G y,
  λi H v H'=>∃p x y,v=.ref p/\New H p (.tup [x,y]) H'/\(∀xs,SqB K l1 H a xs->xs[i]?=G x)/\∀ys,SqB K l2 H b ys->ys[i]?=G y,
  λi H=>∃xs ys,SqB K l1 H a xs/\SqB K l2 H b ys/\xs.length<=i⟩
theorem zu7{P:ik}{w:World}{K:Frag}{l1 l2:Bool}{elts:List Expr}{x1}{tpos:Pos}(z ti ro j1 j2 a b:Ad)(D:jG z ti ro j1 j2 a b):
  Turn P w K 053 (ItB K l1 l2 a b) [z,ti,ro,j1,j2] z (λi h=>ZipG l1 l2 h z ti ro j1 j2 a b i) where
 mem:=by simp
 obj:=λi h st=>st.there
 keep:=λi h h' st k=>st.move k
 item:=by
  intro X hP L p hc i pins s σ H E I T st j;subst hP L p;let(xs,ys,x,y,J,C,ex,ey):=j;let(d,r1,r):=I.sq J;let(bc,r2,p2):=I.sq C;let(u,U,g):=r1.get ex;let(v,hv,f):=r2.get ey;apply zqx D st r p2 (x:=u) (y:=v) (by simpa using U) (by simpa using hv) λO Z1 A sz1 k1=>⟨_,R,?_⟩;apply go_zip Z1 D λM Q sb2=>?_;let a8:∀c∈[z,ti,ro,j1,j2],c≠s.heap.objs.size:=λc hc=>y0m<|st.lt hc;let l:02 (upd H s.heap.objs.size<|.tup [x,y]) {s with heap:=M,toks:=s.toks}:=I.turnedNew (λc o hc e=>sb2.extBut _ _ (λq=>hc<|by simp[q])<|k1 c o hc e) T 08
   ⟨zah 05,[u,v],.cons g<|.cons f .nil,⟨_,sb2.extBut _ _ (Ne.symm<|a8 z 05) A,R,_,R⟩⟩ λc hc=>let⟨o,e,_⟩:=Q.there c hc;⟨o,e⟩
  apply⟨.ref s.heap.objs.size,_,l,R,⟨_,x,y,R,.mk' I.fresh _,λws L=>by rw[I.sq_inj L J];show ex,λws L=>by rw[I.sq_inj L C];show ey⟩,Q,λc hc=>?_⟩;rw[zak<|a8 c hc];show(T c hc).1
 done:=by
  intro X hP L p hc i pins s σ H E I T st j;subst hP L p;let(xs,ys,J,C,Y):=j;let(d,r1,r):=I.sq J;show zxu 024 D st r (by simpa[←r1.length]using Y) λh' k=>⟨R,I.turnedL (t':=s.toks) k T⟩
 self:=λ_ _ _ _ _ st h=>zom st h
def iZB(K:Frag)(l1 l2:Bool)(y:TA):TI:=λσ H Rq=>y σ H λvs H1=>∃a b,vs=[.ref a,.ref b]/\(∃xs,SqB K l1 H1 a xs)/\(∃ys,SqB K l2 H1 b ys)/\Rq (ItB K l1 l2 a b) H1
theorem zrz{X:Cx}{l1 l2:Bool}{elts:List Expr}{x1}{tpos:Pos}{a b:Expr}{y:TA}{p pos:Pos}(j:Gl X "zip")(Y:X.mg "zip"=B)(ha:PA X [a,b] y)(O:notStar a=N)(M:notStar b=N):PI X 053 (.Call (.Name "zip" p) [a,b] [] pos) (iZB X.K l1 l2 y):=by
 intro pins s σ H Rq I h;let z:im [b] X.env=[(Fa,eval b X.env)]:=by rw[zap M,starEach.eq_def]
 apply Call_<|zdw I j Y boot_zip (PyProof.Rows.callWith_type1 (thn 060 λus s1 zz=>ex5 zz λvs H1 I1 r1 A=>?_) (by rw[star2 O M,z])<|by rw[z];rfl);let(r,p2,e,(xs,J),(ys,L),q):=A;subst e;let(u,v,rfl,g,f):=vals2 r1;cases(show u=Va.ref r from g);cases(show v=Va.ref p2 from f);let(d,_,x):=I1.sq J;let(i,_,D):=I1.sq L;apply zqw x D λh' _ Z sz k=>zom Z ?_;show⟨_,[s1.heap.objs.size+4,s1.heap.objs.size+2,s1.heap.objs.size+3,s1.heap.objs.size,s1.heap.objs.size+1],_,_,H1,R,I1.kept (t':=s1.toks) k,zu7 _ _ _ _ _ r p2<|zipApart_new x.lt D.lt,Z,λc C=>I1.fpOk (zle C)<|I1.hok.fresh (zle C),q⟩
noncomputable def Itz(K:Frag)(a b:Ad):It :=
 ⟨λi H=>∃xs ys x y,SqT K H a xs/\SqT K H b ys/\xs[i]?=G x/\ys[i]?=G y,
  λi H v H'=>∃p x y,v=.ref p/\New H p (.tup [x,y]) H'/\(∀xs,SqT K H a xs->xs[i]?=G x)/\∀ys,SqT K H b ys->ys[i]?=G y,
  λi H=>∃xs ys,SqT K H a xs/\SqT K H b ys/\xs.length<=i⟩
def iZip(K:Frag)(y:TA):TI:=λσ H Rq=>y σ H λvs H1=>∃a b,vs=[.ref a,.ref b]/\(∃xs,SqT K H1 a xs)/\(∃ys,SqT K H1 b ys)/\Rq (Itz K a b) H1
theorem pi_zip{X:Cx}{elts:List Expr}{x1}{tpos:Pos}{a b:Expr}{y:TA}{p pos:Pos}(j:Gl X "zip")(Y:X.mg "zip"=B)(d:PA X [a,b] y)(O:notStar a=N:=by rfl)(M:notStar b=N:=by rfl):PI X 053 (.Call (.Name "zip" p) [a,b] [] pos) (iZip X.K y):=zrz (l1:=Fa) (l2:=Fa) j Y d O M
theorem pi_zipK{X:Cx}(K:Frag){elts:List Expr}{x1}{tpos:Pos}{a b:Expr}{y:TA}{p pos:Pos}(j:Gl X "zip")(Y:X.mg "zip"=B)(d:PA X [a,b] y)(h:X.K=K:=by rfl)(O:notStar a=N:=by rfl)(M:notStar b=N:=by rfl):
  PI X 053 (.Call (.Name "zip" p) [a,b] [] pos) (iZip K y):=h▸pi_zip j Y d O M
theorem zc6{X:Cx}(K:Frag){l:List Expr}{k:Nat}{t:TGs}{n:Nat}{pos:Pos}(C:X.calm=N)(h:PGs X l t)(p:X.K=K:=by rfl)
  (I:(js l X.env).length=n:=by rfl) (Q:(js l X.env).findIdx? (·.1)=B:=by rfl):PG X (.Tuple l k pos) (gTup K n t):=p▸pg_tup C h I Q
section
variable {tn:List Str}{cp:Y6}{g:TG}{tif:TT}{te:TE}{σ0:St}{Q:VK}{H1:Hp}{K:Frag}{a b:Ad}{xs ys:List V}
theorem cz_map(S:St->Prop)(f:Nat->V)(I:xs.length<=1000)(Y:xs.length=ys.length)(q:SqT K H1 a xs)(U:SqT K H1 b ys)(C:S 044)
  (hs:∀D i σ H H' p x y,xs[i]?=G x->ys[i]?=G y->Same H1 H->H1 D=B->H D=G (.lst<|(List.range i).map f)->S σ->New H p (.tup [x,y]) H'->g 22 σ H' λd H2=>tif d H2 λc H3 =>
   if c=N then te d H3 λv H4=>CStep D xs.length i (λi j σ H=>Same H1 H/\S σ/\j=(List.range i).map f) d v H4 else CSkip D xs.length i (λi j σ H=>Same H1 H/\S σ/\j=(List.range i).map f) d H3)
  (hd:∀D H,H1 D=B->Same H1 H->H D=G (.lst<|(List.range xs.length).map f)->Q 65 H):cBody tn cp g tif te σ0 Q (Itz K a b) H1:=by
 apply zuq xs.length (λD i j σ H=>Same H1 H/\S σ/\j=(List.range i).map f) (zah I) (λD u=>⟨za0 u _,C,R⟩) (λD i j σ H u hi A p=>⟨xs,ys,xs[i],ys[i],p.1.seqT q,p.1.seqT U,by simp[hi],by simp[Y▸hi]⟩)
  (λD j σ H u A p=>⟨xs,ys,p.1.seqT q,p.1.seqT U,y05 _⟩) ?_ ?_
 .rintro D i j σ H v H' u hi A l ⟨r,p2,rfl⟩ ⟨p,x,y,rfl,e,ex,T⟩;show hs D i σ H H' p x y (ex _<|r.seqT q) (T _<|r.seqT U) r u A p2 e
 .rintro D j σ H u A l ⟨r,p2,rfl⟩;show hd D H u r A
theorem zmx{S:St->Prop}{f:Nat->V}{D:Ad}{i:Nat}{v:V}{d:St}{H4:Hp}(I:xs.length<=1000)(hi:i<xs.length)(u:H1 D=B)(L:H4 D=G (.lst<|(List.range i).map f))(l:Same H1 H4)(s2:S d)(e:v=f i):
  CStep D xs.length i (λi j σ H=>Same H1 H/\S σ/\j=(List.range i).map f) d v H4:=by
 apply cstep (zah I) hi L (by rw[y01,y0y];show y05 _) ⟨l.wr u _,s2,?_⟩;rw[y28,y0u,e];rfl
end
def DctK(K:Frag)(w:World)(a:Ad)(f:Str->Option V):Prop:=(a==iM)=Fa/\∃(l:Array DictEntry) (n:Nat),K.lookup a=G ⟨.type "dict",B,.dict l n,#[]⟩/\PySem.W.KeysLit w.params l.toList/\∀x,RelO (f x)<|lu Va.isStrOf l x
section
variable {X:Cx}(K:Frag)(w:World)
def rInD(neg:Bool):R2:=λx y H Q=>∃z a f,x=.str z/\y=.ref a/\DctK K w a f/\Q (.bl<|if neg then !(f z).isSome else(f z).isSome) H
theorem zkl(p:X.K=K:=by rfl)(L:X.w=w:=by rfl):OpR X (i4 .NotIn) (rInD K w N):=by
 subst p L;intro pins s σ H x y v u Q I T d h;let(z,a,f,rfl,rfl,(lo,l,n,Y,j,D),q):=h;let(t,rfl):=T;cases(show u=Va.ref a from d);apply wpAny_notIn_of (strKind_is X.prog X.w z t) lo (PySem.W.mapOf_K (prog:=X.prog) I.kIn Y j) ?_;rw[←(D z).isSome_eq];show⟨.bl _,H,I.tok _,R,q⟩
def rIxD:R2:=λx y H Q=>∃a z f v,x=.ref a/\y=.str z/\DctK K w a f/\f z=G v/\Q v H
theorem ix_dct(p:X.K=K:=by rfl)(L:X.w=w:=by rfl):IxR X (rIxD K w):=by
 subst p L;intro c J pins s σ H x y v u Q I T d h hs;let(a,z,f,r,rfl,rfl,(lo,l,n,Y,j,D),e,q):=h;cases(show v=Va.ref a from T);let(t,rfl):=d;let M:=PySem.W.mapOf_K (prog:=X.prog) I.kIn Y j;let(w',i,C):=RelO.some_of (v:=r) (o:=lu Va.isStrOf l z) (by rw[←e];show D z);show tail_any M.typeIs slot_dict_getitem.lookup (wpAny_getItem_of (strKind_is X.prog X.w z t) M i ⟨r,H,I.tok _,C,q⟩) hs
end
section
variable {tn:List Str}{cp:Y6}{g:TG}{tif:TT}{te:TE}{σ0:St}{Q:VK}{H1:Hp}{K:Frag}{a:Ad}{xs:List V}
theorem zm1(S:St->Prop)(f:Nat->V)(I:xs.length<=1000)(O:SqL K H1 a xs)(C:S 044)
  (hs:∀D i σ H x,i<xs.length->xs[i]?=G x->Same H1 H->H1 D=B->H D=G (.lst<|(List.range i).map f)->S σ->g x σ H λd H2=>tif d H2 λc H3 =>
   if c=N then te d H3 λv H4=>CStep D xs.length i (λi j σ H=>Same H1 H/\S σ/\j=(List.range i).map f) d v H4 else CSkip D xs.length i (λi j σ H=>Same H1 H/\S σ/\j=(List.range i).map f) d H3)
  (hd:∀D H,H1 D=B->Same H1 H->H D=G (.lst<|(List.range xs.length).map f)->Q 65 H):cBody tn cp g tif te σ0 Q (Itl K a) H1:=by
 apply zjc (K:=K) (a:=a) (xs:=xs) (λD i j σ H=>Same H1 H/\S σ/\j=(List.range i).map f) (zah I) (λD u=>⟨za0 u _,C,R⟩) (λD i ys σ H _ _ _ p=>p.1.seq O) ?_ ?_
 .rintro D i ys σ H x u hi J A Y ⟨r,p2,rfl⟩;show hs D i σ H x hi J r u A p2
 .rintro D ys σ H u A Y ⟨r,p2,rfl⟩;show hd D H u r A
end
variable {X:Cx}
section
variable {X:Cx}{k:Nat}{H:Hp}{a b:Ad}{xs ys:List V}
theorem eqV_int(a b:Int):eqV (.int a) (.int b)=decide (a=b):=by
 by_cases h:a=b
 .subst h;simp[eqV]
 .simp[eqV,h]
theorem zu3:∀(xs ys:List Int),(xs.length==ys.length&&(List.range xs.length).all λj=>eqV ((xs.map V.int).getD j .non)<|(ys.map V.int).getD j .non)=decide (xs=ys)
 |[],[]=>rfl
 |[],y::ys=>by simp
 |x::xs,[]=>by simp
 |x::xs,y::ys=>by
  let f:=zu3 xs ys;let e:(List.range (x::xs).length).all (λj=>eqV (((x::xs).map V.int).getD j .non)<|((y::ys).map V.int).getD j .non) =
    (decide (x=y)&&(List.range xs.length).all λj=>eqV ((xs.map V.int).getD j .non)<|(ys.map V.int).getD j .non):=by
   rw[y0j,y2s,y26,y32];show congrArg (· && _)<|eqV_int x y
  rw[e];let g:((x::xs).length==(y::ys).length)=(xs.length==ys.length):=by simp
  rw[g];by_cases J:x=y
  .subst J;rw[Xg R,y1s,f];simp
  .rw[Xf J,y1q,y2h];simp[J]
theorem zk1(xs:List Int):(xs.map V.int).all flatV=N:=by
 rw[y12];intro x J;let(z,_,rfl):=y0h.mp J;rfl
def rEqI(K:Frag):R2:=λx y H Q=>∃(a b:Ad) (xs ys:List Int),x=.ref a/\y=.ref b/\SqL K H a (xs.map V.int)/\SqL K H b (ys.map V.int)/\Q (.bl<|decide (xs=ys)) H
def rNeI(K:Frag):R2:=λx y H Q=>∃(a b:Ad) (xs ys:List Int),x=.ref a/\y=.ref b/\SqL K H a (xs.map V.int)/\SqL K H b (ys.map V.int)/\Q (.bl<|!decide (xs=ys)) H
theorem op_neI(U:X.A.units+8<cLine):OpR X (i4 .NotEq) (rNeI X.K):=by
 intro pins s σ H x y v u Q I T d h;let(a,b,xs,ys,rfl,rfl,O,M,q):=h;cases(show v=Va.ref a from T);cases(show u=Va.ref b from d);let(us,r1,r,_):=I.list O;let(vs,E,p2,_):=I.list M;let l1:=r1.length;let l2:=E.length;let c:X.A.units<cLine:=by omega
 by_cases Y:us.length=vs.length
 .let z:=SeqAt.RcNeAt.lists (A:=X.A) (s:=s) (e:=λj=>eqV ((xs.map V.int).getD j .non)<|(ys.map V.int).getD j .non) r.isList p2.isList (by rw[y09,y09];show Y) c λj O M=>by
   rw[y09]at O M;let(g1,l):=r1.at O;let(J,w):=E.at M;let L:(xs.map V.int).getD j .non=(xs.map V.int)[j]:=by rw[y02,y00 g1];rfl
   let g:(ys.map V.int).getD j .non=(ys.map V.int)[j]:=by rw[y02,y00 J];rfl
   rw[L,g];apply ztw (by simpa using l) (by simpa using w) ?_ ?_
   .exact y12.mp (zk1 xs) _<|y0c g1
   .exact y12.mp (zk1 ys) _<|y0c J
  let e:=zu3 xs ys;rw[y01]at l1 l2;rw[show(xs.length==ys.length)=N by simp;omega,y1s]at e;rw[y09,←l1,e]at z;show z _ _ _ _ ⟨.bl<|!decide (xs=ys),H,I,R,q⟩
 .let z:=SeqAt.RcNeAt.lists_lengths (A:=X.A) (s:=s) r.isList p2.isList (by rw[y09,y09];simpa using Y) c;let e:decide (xs=ys)=Fa:=Xf λh=>by rw[h,y01]at l1;rw[y01]at l2;omega
  rw[e]at q;show z _ _ _ _ ⟨.bl N,H,I,R,q⟩
variable (K:Frag)
theorem op_neIK(U:X.A.units+8<cLine)(h:X.K=K:=by rfl):OpR X (i4 .NotEq) (rNeI K):=h▸op_neI U
end
section
variable {tn:List Str}{cp:Y6}{g:TG}{tif:TT}{te:TE}{σ0:St}{Q:VK}{H1:Hp}{lo:Int}{n:Nat}
def PRng(S:St->Prop)(f:Nat->V)(H1:Hp)(i:Nat)(ys:List V)(σ:St)(H:Hp):Prop:=Same H1 H/\S σ/\ys=(List.range i).map f
theorem zyj(S:St->Prop)(f:Nat->V)(I:n<=1000)(C:S 044)
  (hs:∀D i σ H,i<n->Same H1 H->H1 D=B->H D=G (.lst<|(List.range i).map f)->S σ->g (.int<|lo+i) σ H λd H2=>tif d H2 λc H3 =>
   if c=N then te d H3 λv H4=>CStep D n i (PRng S f H1) d v H4 else CSkip D n i (PRng S f H1) d H3)
  (hd:∀D H,H1 D=B->Same H1 H->H D=G (.lst<|(List.range n).map f)->Q 65 H):cBody tn cp g tif te σ0 Q (Itr lo n) H1:=by
 apply zuq n (λD=>PRng S f H1) (zah I) (λD u=>⟨za0 u _,C,R⟩) (λD i ys σ H _ hi _ _=>hi) (λD ys σ H _ _ _=>y05 _) ?_ ?_
 .rintro D i ys σ H x H' u hi A Y ⟨r,p2,rfl⟩ ⟨rfl,rfl⟩;show hs D i σ _ hi r u A p2
 .rintro D ys σ H u A Y ⟨r,p2,rfl⟩;show hd D H u r A
theorem zuf(I:n<=1000)(hi:i<n)(u:H1 D=B)(L:H4 D=G (.lst<|(List.range i).map f))(l:Same H1 H4)(s2:S d)(e:v=f i):CStep D n i (PRng S f H1) d v H4:=by
 subst e;apply cstep (zah I) hi L 05 ⟨l.wr u _,s2,?_⟩;rw[y28,y0u];rfl
theorem zxt(S:St->Prop)(Gq:V->Prop)(I:n<=1000)(C:S 044)
  (hs:∀D i ys σ H,i<n->Same H1 H->H1 D=B->H D=G 50->ys.length=i->(∀y∈ys,Gq y)->S σ->g (.int<|lo+i) σ H λd H2=>tif d H2 λc H3 =>
   if c=N then te d H3 λv H4=>CStep D n i (λi ys σ H=>Same H1 H/\S σ/\ys.length=i/\∀y∈ys,Gq y) d v H4 else CSkip D n i (λi ys σ H=>Same H1 H/\S σ/\ys.length=i/\∀y∈ys,Gq y) d H3)
  (hd:∀D ys H,H1 D=B->Same H1 H->H D=G 50->ys.length=n->(∀y∈ys,Gq y)->Q 65 H):cBody tn cp g tif te σ0 Q (Itr lo n) H1:=by
 apply zuq n (λD i ys σ H=>Same H1 H/\S σ/\ys.length=i/\∀y∈ys,Gq y) (zah I) (λD u=>⟨za0 u _,C,R,λ_ h=>(nomatch h)⟩) (λD i ys σ H _ hi _ _=>hi) (λD ys σ H _ _ _=>y05 _) ?_ ?_
 .rintro D i ys σ H x H' u hi A Y ⟨r,p2,l,q⟩ ⟨rfl,rfl⟩;show hs D i ys σ _ hi r u A l q p2
 .rintro D ys σ H u A Y ⟨r,p2,l,q⟩;show hd D ys H u r A l q
theorem ca_step{S:St->Prop}{Gq:V->Prop}{D:Ad}{i:Nat}{ys:List V}{v:V}{d:St}{H4:Hp}(I:n<=1000)(hi:i<n)(u:H1 D=B)(L:H4 D=G 50)(Y:ys.length=i)(C:∀y∈ys,Gq y)(l:Same H1 H4)(s2:S d)(e:Gq v):
  CStep D n i (λi ys σ H=>Same H1 H/\S σ/\ys.length=i/\∀y∈ys,Gq y) d v H4:=by
 apply cstep (zah I) hi L 01 ⟨l.wr u _,s2,by simp[Y],λy o=>?_⟩;rcases y0x.mp o with h|h
 .exact C y h
 .rw[y0b.mp h];show e
end
def TupS(H H':Hp):Prop:=∀b xs,H b=G 015->H' b=G 015
theorem Same.tups(g:Same H H'):TupS H H':=λb xs e=>g b _ e
theorem TupS.refl(H:Hp):TupS H H:=λ_ _ e=>e
theorem TupS.trans(a:TupS H H1)(b:TupS H1 H2):TupS H H2:=λc xs e=>b c xs<|a c xs e
theorem TupS.wr(h:H p=G 016)(o:HO):TupS H (upd H p o):=λb ys e=>by rw[zak<|zsx e h (by intro z;cases z)];show e
theorem li_at{h h':Heap}(x:h.IsListIter j a i)(k:∀o,h.get? j=G o->h'.get? j=G o):h'.IsListIter j a i:=by
 let(o,e,r):=x;show⟨o,k o e,r⟩
theorem li_ext{h h':Heap}(x:h.IsListIter j a i)(k:Heap.ExtBut b h h')(n:j≠b):h'.IsListIter j a i:=li_at x λo e=>k j o n e
noncomputable def ItzL(K:Frag)(a b:Ad):It :=
 ⟨λi H=>∃xs ys x y,SqL K H a xs/\SqT K H b ys/\xs[i]?=G x/\ys[i]?=G y,
  λi H v H'=>∃p x y,v=.ref p/\New H p (.tup [x,y]) H'/\(∀xs,SqL K H a xs->xs[i]?=G x)/\∀ys,SqT K H b ys->ys[i]?=G y,
  λi H=>∃xs ys,SqL K H a xs/\SqT K H b ys/\xs.length<=i⟩
def iZipL(K:Frag)(y:TA):TI:=λσ H Rq=>y σ H λvs H1=>∃a b,vs=[.ref a,.ref b]/\(∃xs,SqL K H1 a xs)/\(∃ys,SqT K H1 b ys)/\Rq (ItzL K a b) H1
theorem pi_zipL{X:Cx}{elts:List Expr}{x1}{tpos:Pos}{a b:Expr}{y:TA}{p pos:Pos}(j:Gl X "zip")(Y:X.mg "zip"=B)(d:PA X [a,b] y)(O:notStar a=N:=by rfl)(M:notStar b=N:=by rfl):PI X 053 (.Call (.Name "zip" p) [a,b] [] pos) (iZipL X.K y):=zrz (l1:=N) (l2:=Fa) j Y d O M
theorem zv2{X:Cx}(K:Frag){elts:List Expr}{x1}{tpos:Pos}{a b:Expr}{y:TA}{p pos:Pos}(j:Gl X "zip")(Y:X.mg "zip"=B)(d:PA X [a,b] y)(h:X.K=K:=by rfl)(O:notStar a=N:=by rfl)(M:notStar b=N:=by rfl):
  PI X 053 (.Call (.Name "zip" p) [a,b] [] pos) (iZipL K y):=h▸pi_zipL j Y d O M
noncomputable def Ite(K:Frag)(a:Ad):It :=
 ⟨λi H=>∃xs x,SqL K H a xs/\xs[i]?=G x,λi H v H'=>∃p x,v=.ref p/\New H p (.tup [.int (i:Int),x]) H'/\∀xs,SqL K H a xs->xs[i]?=G x,λi H=>∃xs,SqL K H a xs/\xs.length<=i⟩
theorem zq2{P:ik}{w:World}{K:Frag}{elts:List Expr}{x1}{tpos:Pos}(e it a:Ad)(D:e≠it):
  Turn P w K 053 (Ite K a) [e,it] e (λi h=>(∃old,IsEnum h e it (i:Int) old)/\h.IsListIter it a i) where
 mem:=by simp
 obj:=λi h st c hc=>by
  let((old,d),o1,L,c1,p):=st;simp only[y08,y0n,or_false]at hc;rcases hc with rfl|rfl
  .exact⟨_,d,λv q=>nomatch q⟩
  .exact⟨_,L,λv q=>by rw[p]at q;cases q⟩
 keep:=λi h h' st k=>⟨let⟨old,d⟩:=st.1;⟨old,k e 05 _ d⟩,li_at st.2 λo z=>k it 05 o z⟩
 item:=by
  intro X hP hw hK hc i pins s σ H E I T st j;subst hP hw hK;let(xs,x,J,ex):=j;let(its,r,pl,_):=I.list J;let(u,U,ru):=r.get ex;let((old,d),C):=st;apply wpAny_pyNext_enum_item d C pl.isList (x:=u) (by simpa using U) D λO eo1 si1 A sz1 k1=>⟨_,R,?_⟩;apply wpAny_letOwnedTupleGo_enum eo1 λM g f=>?_;let a8:∀c∈[e,it],c≠s.heap.objs.size:=λc hc=>by
   simp only[y08,y0n,or_false]at hc;rcases hc with rfl|rfl
   .exact y0m<|y0g d
   .let(o,z,_):=C;show y0m<|y0g z
  let k2:∀c o,c∉[e,it]->s.heap.get? c=G o->M.get? c=G o:=λc o hc z =>
   f.extBut _ _ (λq=>hc<|by simp[q]) (k1 c o (λq=>hc<|by simp[q]) (λq=>hc<|by simp[q]) z)
  let y:=f.extBut _ _ (Ne.symm<|a8 e 05) A;let si2:M.IsListIter it a (i+1):=li_ext si1 f.extBut<|Ne.symm D;let Q:IsEnum M e it ((i+1:Nat):Int) u:=by rw[show((i+1:Nat):Int)=(i:Int)+1 by omega];show g
  let there:∀c∈[e,it],∃o,M.get? c=G o:=λc hc=>by
   simp only[y08,y0n,or_false]at hc;rcases hc with rfl|rfl
   .exact⟨_,g⟩
   .let(o,z,_):=si2;show⟨o,z⟩
  let l:02 (upd H s.heap.objs.size<|.tup [.int (i:Int),x]) {s with heap:=M,toks:=s.toks+1}:=I.turnedNew k2 T (y05 _) ⟨zah (by simp),[.int i s.toks,u],.cons ⟨_,R⟩<|.cons ru .nil,⟨_,y,R,_,R⟩⟩ there;apply⟨.ref s.heap.objs.size,_,l,R,⟨_,x,R,.mk' I.fresh _,λws hw=>by rw[I.list_inj hw J];show ex⟩,⟨⟨_,Q⟩,si2⟩,λc hc=>?_⟩;rw[zak<|a8 c hc];show(T c hc).1
 done:=by
  intro X hP hw hK hc i pins s σ H E I T st j;subst hP hw hK;let(xs,J,Y):=j;let(its,r,pl,_):=I.list J;let l1:=r.length;let((old,d),C):=st;show wpAny_pyNext_enum_end 024 d C pl.isList (by simp;omega) λh' k=>⟨R,I.turnedL (t':=s.toks) (λc o hc z=>k c o (λq=>hc<|by simp[q]) z) T⟩
 self:=λ_ _ _ _ _ st h=>let⟨_,d⟩:=st.1;wpAny_pyIter_enum d h
def iEnum(K:Frag)(y:TA):TI:=λσ H Rq=>y σ H λvs H1=>∃a,vs=[.ref a]/\(∃xs,SqL K H1 a xs)/\Rq (Ite K a) H1
theorem pi_enum{X:Cx}{elts:List Expr}{x1}{tpos:Pos}{a:Expr}{y:TA}{p pos:Pos}(j:Gl X "enumerate")(Y:X.mg "enumerate"=B)(ha:PA X [a] y)(O:notStar a=N:=by rfl):PI X 053 (.Call (.Name "enumerate" p) [a] [] pos) (iEnum X.K y):=by
 intro pins s σ H Rq I h;let hs:im [a] X.env=[(Fa,eval a X.env)]:=by rw[zap O,starEach.eq_def]
 apply Call_<|zdw I j Y boot_enumerate (PyProof.Rows.callWith_type1 (thn 060 λus s1 zz=>ex5 zz λvs H1 I1 r1 A=>?_) hs R);let(r,e,(xs,J),q):=A;subst e;let(u,rfl,g):=vals1 r1;cases(show u=Va.ref r from g);let(its,_,x,_):=I1.list J;apply call_enumerate_list x.isList λh' d f sz k=>wpAny_pyIter_enum d ?_;apply⟨_,[s1.heap.objs.size+1,s1.heap.objs.size],_,_,H1,R,I1.kept (t':=s1.toks) k,zq2 _ _ r<|Nat.succ_ne_self _,⟨⟨_,d⟩,f⟩,λc C=>?_,q⟩;let v:s1.heap.objs.size<=c:=by
  simp only[y08,y0n,or_false]at C;rcases C with rfl|rfl
  .exact Nat.le_add_right _ _
  .exact y05 _
 show I1.fpOk v<|I1.hok.fresh v
theorem zfs{X:Cx}(K:Frag){elts:List Expr}{x1}{tpos:Pos}{a:Expr}{y:TA}{p pos:Pos}(j:Gl X "enumerate")(Y:X.mg "enumerate"=B)(d:PA X [a] y)(h:X.K=K:=by rfl)(O:notStar a=N:=by rfl):
  PI X 053 (.Call (.Name "enumerate" p) [a] [] pos) (iEnum K y):=h▸pi_enum j Y d O
theorem zkv:jl (.type "list") "keys"=pure B:=am_miss_of_fast 48
theorem no_keys
  (hx:s.heap.get? a=G {cls:=.type "list",dict:=B,data:=.seq xs k,slots:=sl}) (hA:A.handled=B)
  (h:∀h' tk,(∀b o,s.heap.get? b=G o->h'.get? b=G o)->Q B {s with heap:=h',toks:=tk}):wpAny (model prog w) A (getAttr? (.ref a) "keys") Q E s:=by
 let(hp,g,d,tk,os):=s;let hT:∀tk',(⟨hp,g,d,tk',os⟩:ig).TypeIs 04 "list":=λ_=>⟨_,hx,R⟩;let f1:=sub_AttributeError;let f3:=F.slot_list_getattribute.lookup;let f4:=F.slot_list_getattribute.bind 04;let f5:=am_list_getattr_none;unfold getAttr? getAttrBy? getAttrBy
 repeat (any_goals (first|assumption|show hT _|((with_reducible show wpAny _ _ (call (Va.builtin "list.__getattribute__") _ _) _ _ _);apply jm F.slot_list_getattribute (hT _) am_entry_list_getattribute (F.args_list_getattribute_2 _ _) (meets_getattribute_miss_list a xs k sl "keys" _ zkv 48 07) ⟨hx,hA,λh' tk' e hx'=>?_⟩)|wp_step))
 let(t',u',he):=hx'.there;change wpAny _ _ (getattributeRaised _ _ _ _ _ _ _) _ _ _;unfold getattributeRaised
 repeat (any_goals (first|assumption|wp_step))
 show h _ _ hx'.keeps
theorem zbu:entryFor table "dict.update.loop"=G Builtin.«dict.update.loop»:=entryFor_of_tree (by kernel_rfl)
theorem za9:plainId "dict.update.loop"=N:=by decide+kernel
section
variable {P:ik}{w:World}{κ:Type}[DecidableEq κ]{knd:KeyKind P w κ}{A:io}{Rq:Result->ig->Prop}{it:Ad}{fp wr:List Ad}{Gq:Array ju->Array ju->Prop}{n:Nat}{Pv:Nat->Va->Prop}{St:Nat->ig->Prop}
def PairsAt(knd:KeyKind P w κ)(h:Heap)(a:List Ad)(Pv:Nat->Va->Prop)(kvs:List<|κ×Va):Prop:=∀i v k u,Pv i v->kvs[i]?=G (k,u)->∃p J,v=.ref p/\p∉a/\knd.is k J=N/\h.IsTuple p #[J,u]
theorem PairsAt.kept(x:PairsAt knd h a Pv kvs)(k:∀b o,b∉a->h.get? b=G o->h'.get? b=G o):PairsAt knd h' a Pv kvs:=λi v k' u pv e=>by
 let(p,J,L,g,M,o,D,r):=x i v k' u pv e;show⟨p,J,L,g,M,o,k p o g D,r⟩
theorem zql(W:WalksS P w A.in1 it fp wr Gq n Pv St)(a:Ad)(d:a∉fp)(kvs:List<|κ×Va)(I:kvs.length=n)(hz:n<=ii):
  ∀(m i:Nat) (j:Int) (tk:Tok) (s:ig),n-i=m->i<=n->St i s->PairsAt knd s.heap (a::wr) Pv kvs->s.heap.DictOf knd a (merged []<|kvs.take i)->(∀s',Moved (a::wr) Gq s s'->s'.heap.DictOf knd a (merged [] kvs)->Rq (.ok<|.ret .none) s')->
   jc 81 A (.builtin "dict.update.loop" ⟨[.ref a,.ref it,.int j tk,.none],[]⟩) Rq s:=by
 let c:a∉wr:=λh=>d<|W.sub _ h;let up:∀b∈wr,b∈a::wr:=λb h=>y06 _ h;let g:∀{h h':Heap} {l:List (κ×Va)},h.DictOf knd a l->(∀o,h.get? a=G o->h'.get? a=G o)->h'.DictOf knd a l:=λx k=>let⟨o,es,ep,D,r⟩:=x;⟨o,es,ep,k o D,r⟩;intro m
 induction m with
 |zero =>
  intro i j tk s Y hi st pa x q;obtain rfl:i=n:=by omega
  rw[y0l<|y4b I]at x;apply iG zbu ?_;rw[Around.under_plainId za9 _];apply ia<|W.done s _ _ st λs' H=>?_;change wpAny _ _ (Builtin.Dict.addKeywords a []>>=_) _ _ _;show ia<|ib (ib<|q s' (H.mono up) (g x λo e=>H.heap a _ c e))
 |succ m f =>
  intro i j tk s Y hi st pa x q;let lt:i<n:=by omega
  let hk:kvs[i]?=G (kvs[i].1,kvs[i].2):=by simp[I,lt]
  apply iG zbu ?_;rw[Around.under_plainId za9 _];apply ia<|W.item i s _ _ lt st λv s' pv M H=>?_;let u:=g (h':=s'.heap) x λo e=>H.heap a _ c e;let L:PairsAt knd s'.heap (a::wr) Pv kvs:=pa.kept λb o U e=>H.heap b o (λz=>U<|up b z) e;let(p,J,rfl,np,is,o,D,C,z,hd):=L i v _ _ pv hk;apply ia<|ir (ia ?_);apply wpAny_tryCatch (m:=Builtin.Dict.pairItems<|Va.ref p) ?_;unfold Builtin.Dict.pairItems;apply ia<|jq (T:="tuple") ⟨o,D,C⟩ ?_;rw[Xq<|show(Va.type "tuple"==Va.type "list"||Va.type "tuple"==Va.type "tuple")=N from rfl];apply ia<|iF D hd (ib ?_);change wpAny _ _ (holding [J,kvs[i].2]<|dictSet a J kvs[i].2) _ _ _;let len:=merged_length_le ([]:List<|κ×Va)<|kvs.take i;rw[y0w,y1e]at len;apply ir<|wpAny_dictSet_pairs (hsz:=by omega) is u λh' Q O=>?_;rw[←merged_take_succ [] kvs i _ hk]at Q;let k2:∀b o,b∉a::wr->s'.heap.get? b=G o->h'.get? b=G o:=λb o U e=>by rw[O.2 b λh=>U<|h▸y0a];show e
  apply ib ⟨iU za9 _,f (i+1) (j+1) _ _ 01 lt (W.frame _ s' _ _ M (y3i _) λb U o e=>?_) (L.kept k2) Q λs2 E y=>?_⟩
  .rw[O.2 b λh=>d<|h▸U];show e
  .exact q s2 (Moved.trans W.gtrans ((H.mono up).then_heap (y3i _) λb o U e=>k2 b o U e) E) y
end
section
variable {P:ik}{w:World}{κ:Type}[DecidableEq κ]{knd:KeyKind P w κ}{A:io}{E:Y0}{s:ig}
theorem zk3(M:A.handled=B)(Y:s.heap.get? l=G {cls:=.type "list",dict:=B,data:=.seq its n,slots:=y})(j:kvs.length=its.size)(hz:its.size<=ii)
  (hi:∀(i:Nat) v k u,its[i]?=G v->kvs[i]?=G (k,u)->∃p J,v=.ref p/\knd.is k J=N/\s.heap.IsTuple p #[J,u])
  (h:∀(h':Heap) (tk:Nat),h'.DictOf knd s.heap.objs.size (merged [] kvs)->(∀b o,s.heap.get? b=G o->h'.get? b=G o)->Q 018 {s with heap:=h',toks:=tk}) :
  wpAny 81 A (call (.type "dict") [.ref l]) Q E s:=by
 apply callType_codes (Q₁:=λobj s₁=>obj=.ref s.heap.objs.size/\s₁={s with heap:=s.heap.push {cls:=.type "dict",data:=.dict #[]} }) F.kt_called_dict (F.kt_typeCall_dict_1 _) F.entry_dict_init (kt_code_dict_new _ ⟨R,R⟩) ?_;rintro obj s₁ ⟨rfl,rfl⟩;let a:(s.heap.push {cls:=.type "dict",data:=.dict #[]}).DictOf knd s.heap.objs.size []:=Heap.DictOf.new s.heap;let hl':(s.heap.push {cls:=.type "dict",data:=.dict #[]}).get? l=G {cls:=.type "list",dict:=B,data:=.seq its n,slots:=y}:=y04 _ Y;apply⟨a.typeIs,F.args_dict_init_2 _ _,?_⟩;unfold Builtin.«dict.__init__»;apply ia ?_;unfold Builtin.Dict.selfAndRest;apply ia<|wpAny_notOrdered_dict a.typeIs ?_;change wpAny _ _ (pure (s.heap.objs.size,[Va.ref l])) _ _ _;apply ib ?_;change wpAny _ _ (Builtin.Dict.updateFrom "dict.__init__" s.heap.objs.size (.ref l) [] .none) _ _ _;unfold Builtin.Dict.updateFrom;apply ia<|jq (T:="list") ⟨_,hl',R⟩ ?_;rw[Xq 07];apply ia<|no_keys hl' (by simp[M]) λO tk1 k1=>?_;rw[Xq<|show(B:Option Va).isNone=N from rfl];apply ia<|jn (ia ?_);let c:O.IsList l its:=⟨_,k1 _ _ hl',R,n,R⟩;apply jb c ?_;let C:l<s.heap.objs.size:=y0g Y;let q:s.heap.objs.size<O.objs.size:=by
  let(o,_,_,D,_):=a;show y0g<|k1 _ _ D
 let h3:A.in1.in1.handled=B:=by simp[M]
 let lt1:l<O.objs.size:=y1j C q;let nf:s.heap.objs.size∉[O.objs.size,l]:=λz=>by
  rcases y08.mp z with z|z
  .exact Xa z<|y0m q
  .exact Xa (y0b.mp z)<|y24 C
 let up:∀b o,s.heap.get? b=G o->(O.push {cls:=.type "list_iterator",data:=.fields #[.ref l,.int 0 0]}).get? b=G o:=λb o e=>y04 _<|k1 _ _ (y04 _ e);apply ib ⟨iU za9 _,zql (knd:=knd) (A:=A.in1) ((Walks.list h3 _ l (y0m lt1) its).toS) s.heap.objs.size nf kvs j hz (its.size-0) 0 0 _ _ R (y13 _) ⟨⟨_,y0d _ R,R,R⟩,c.push _⟩ ?pa ?x0 ?q0⟩
 case pa =>
  intro i v k u pv e;let(p,J,L,g,o,D,r):=hi i v k u pv e;let f:=y0g D;apply⟨p,J,L,λz=>?_,g,o,up p o D,r⟩;rcases y08.mp z with z|z
  .exact Xa z<|y0m f
  .exact Xa (y0b.mp z)<|y0m (y1j f q)
 case x0 =>
  let(o,es,ep,D,r):=a;show⟨o,es,ep,y04 _<|k1 _ _ D,r⟩
 case q0 =>
  intro s' H x';let(h',g',d',tk',x):=s';let d:g'=s.gens:=H.gens;let U:d'=s.drawn:=H.drawn;let eo:x=s.os:=H.os;subst d;subst U;subst eo;apply⟨R,h h' tk' x' λb o e=>H.heap b o (λz=>?_)<|up b o e⟩;let I:=y0g e;rcases y08.mp z with z|z
  .exact Xa z<|y0m I
  .exact Xa (y0b.mp z)<|y0m (y1j I q)
end
theorem DGet.b{H:Hp}{a:Ad}{kvs:List (Key×V)}{b:Bool}(e:H a=G (.dK kvs)):DGet H a (.bl b) (valV kvs<|.inl (blI b)):=.inl ⟨kvs,_,.inl e,.inr ⟨b,R,R⟩,R⟩
theorem DPut.b{H:Hp}{a:Ad}{kvs:List (Key×V)}{b:Bool}{v:V}(e:H a=G (.dK kvs))(Y:kvs.length<ii):DPut H a (.bl b) v (upd H a<|.dK (putK kvs (.inl<|blI b) v)):=.inl ⟨kvs,_,e,.inr ⟨b,R,R⟩,Y,R⟩
theorem DGet.n{H:Hp}{a:Ad}{kvs:List (Key×V)}{n:Int}(e:H a=G (.dK kvs)):DGet H a (.int n) (valV kvs<|.inl n):=DGet.k (k:=.inl n) e
theorem DPut.n{H:Hp}{a:Ad}{kvs:List (Key×V)}{n:Int}{v:V}(e:H a=G (.dK kvs))(Y:kvs.length<ii):DPut H a (.int n) v (upd H a<|.dK (putK kvs (.inl n) v)):=DPut.k (k:=.inl n) e Y
def rInDc(neg:Bool):R2:=λy x H Q=>∃a o,x=.ref a/\DGet H a y o/\Q (.bl<|if neg then !o.isSome else o.isSome) H
section
variable {X:Cx}{o i value:Expr}{pos pos':Pos}{td ty tv:TE}
theorem zdl(U:X.A.units+8<cLine):OpR X (i4 .NotIn) (rInDc N):=by
 intro pins s σ H y x v u Q I d T h;let(a,o,rfl,g,q):=h;obtain rfl:u=Va.ref a:=T;show Qbp 01 I g d λJ p=>⟨.bl<|!o.isSome,H,p,R,q⟩
theorem zft(U:X.A.units+8<cLine)(D:PE X o td)(hi:PE X i ty)(hs:NoSl i):PE X (.Subscript o i pos) (tDGet td ty):=pe_dget 01 D hi hs
theorem zfr(U:X.A.units+8<cLine)(D:PE X o td)(hi:PE X i ty)(hv:PE X value tv)(hs:jp value (G<|.Subscript o i pos') pos.line X.env=pure Fa):
  PS X (.Assign [.Subscript o i pos'] value pos) (sDPut td ty tv):=zzb 01 D hi hv hs
def tDNewN:TE:=λ_ H Q=>∀p H',New H p (.dK []) H'->Q 22 H'
def tDNewTN:TE:=λ_ H Q=>∀p H',New H p (.dT []) H'->Q 22 H'
theorem zv5:PE X (.Dict [] [] pos) tDNewN:=λpins s σ H Q I h=>zv6 pins s σ H Q I λp r=>h p _<|.mk' r _
theorem zr2:PE X (.Dict [] [] pos) tDNewTN:=λpins s σ H Q I h=>zv4 pins s σ H Q I λp r=>h p _<|.mk' r _
def rLenD:List V->Hp->VK->Prop:=λxs H Q=>∃a kvs,xs=[V.ref a]/\H a=G (.dK kvs)/\Q (.int kvs.length) H
theorem zqs:CallR X (.builtin "len") rLenD:=zuu
end
section
variable {prog:ik}{w:World}{κ:Type}[DecidableEq κ]{knd:HeapKind prog w κ}{A:io}{E:Y0}{s:ig}
theorem zmr(d:Ad)(hd:(d==iM)=Fa):
  MeetsIn prog w (Builtin.«dict.__len__» ⟨[.ref d],[]⟩) (λ_ Rq s=>∃xs,s.heap.DictOfH knd d xs/\Rq (.ok<|.ret (.int xs.length s.toks)) {s with toks:=s.toks+1}) :=
 .of_wp λA Rq s ⟨xs,Y,h⟩=>by
  let(o,l,ep,D,C,a,f,_):=Y;change wpAny _ _ (dictSize d>>=_) _ _ s;unfold dictSize;apply ia<|ia (wpAny_dictEntries D a<|ib ?_);change wpAny _ _ (Builtin.Dict.pendingCount d>>=_) _ _ s;apply ia<|wpAny_pendingCount_other hd (wpAny_ret_mkInt ?_);let e:l.size=xs.length:=by rw[←y16,f,y01]
  rw[Nat.add_zero,e];show h
theorem zqa(hd:(d==iM)=Fa)(Y:s.heap.DictOfH knd d xs)(a:(xs.length:Int)<2^63)(v:s.TypeIs (.ref d) "dict")
  (h:Q (.int xs.length<|s.toks+1) {s with toks:=s.toks+1+1}):wpAny (model prog w) A (call (.builtin "len") [.ref d]) Q E s:=by
 apply Calls.call_function_entry kind_len plain_len entry_len (args_len1 _) ?_;unfold Builtin.«len»;apply ia (m:=oneArg "len" _)<|ib ?_;apply ia (m:=callSpecial? (.ref d) (Str.ofString "__len__"))<|iB (name:=Str.ofString "__len__") v PySem.F.slot_dict_len (call_meetsIn PySem.F.slot_dict_len v PySem.F.entry_dict_len (PySem.F.args_dict_len_1 _) (zmr d hd) ⟨xs,Y,?_⟩);change wpAny _ _ _ _ _ {s with toks:=s.toks+1};apply ia<|ir (ib<|ia (jL ?_));change wpAny _ _ (if((xs.length:Nat):Int)<0 then _ else _) _ _ _;rw[Xp 01];change wpAny _ _ (if((xs.length:Nat):Int)>=2^63 then _ else _) _ _ _;rw[Xp 01];show ia<|wpAny_mkInt (ib ⟨_,R,h⟩)
end
def rLenT:List V->Hp->VK->Prop:=λxs H Q=>∃a kvs,xs=[V.ref a]/\H a=G (.dT kvs)/\Q (.int kvs.length) H
theorem zut:CallR X (.builtin "len") rLenT:=by
 intro pins s σ H xs us Q I r h;let(a,kvs,rfl,d,q):=h;let(u,rfl,g):=vals1 r;cases g;let(z,hd,ys,rel,dd):=dt_of I.hok d;let p:=Paired.length rel;let v:s.TypeIs 04 "dict":=by let(o,_,_,D,C,_):=id dd;show⟨o,D,C.1⟩
 apply zqa hd dd (by rw[j6]at z;omega) v ?_;rw[←p];show⟨.int kvs.length,H,I.tok _,⟨_,R⟩,q⟩
def PairV(H:Hp)(r:V)(C:Key×V):Prop:=∃t,r=.ref t/\H t=G (.tup [kV C.1,C.2])
theorem zkk(ok:HOk P w H h):∀{rs:List V} {kvs:List (Key×V)} {us:List Va},i8 (PairV H) rs kvs->Vals rs us->
  ∃j:List<|Key×Va,KV kvs j/\∀(i:Nat) v k u,us[i]?=G v->j[i]?=G (k,u)->∃p J,v=.ref p/\(035).is k J=N/\h.IsTuple p #[J,u]
 |_,_,_,.nil,.nil=>⟨[],.nil,λi v k u e _=>by simp at e⟩
 |_,_,_,.cons (b:=C) ⟨t,y,l⟩ s,.cons f vs=>by
  let(j,O,M):=zkk ok s vs;subst y;cases(show _=Va.ref t from f);let(_,its,a,c):=ok t _ l;cases a with
  |cons r1 d =>
   cases d with
   |cons E d =>
    cases d;rename_i J T;apply⟨(C.1,T)::j,.cons ⟨R,E⟩ O,λi v k u L g=>?_⟩;cases i with
    |zero =>
     simp only[y43,Option.some.injEq,Prod.mk.injEq]at L g;let(rfl,rfl):=g;show⟨t,J,L.symm,ztb r1,c⟩
    |succ i =>
     simp only[y1r]at L g;show M i v k u L g
def rDictOf(K:Frag):List V->Hp->VK->Prop:=λxs H Q=>∃(p:Ad) (rs:List V) (kvs:List<|Key×V),xs=[.ref p]/\SqL K H p rs/\i8 (PairV H) rs kvs/\kvs.length<=1000/\∀d H',New H d (.dK<|mergeK [] kvs) H'->Q (.ref d) H'
theorem zlg(hc:X.calm=N):CallR X (.type "dict") (rDictOf X.K):=by
 intro pins s σ H xs us Q I r h;let(p,rs,kvs,rfl,J,e,hz,q):=h;let(u,rfl,T):=vals1 r;cases(show u=Va.ref p from T);let(vs,f,(o,n,D,U,a,c),_):=I.list J;let(j,d,w):=zkk I.hok e f;let l1:=f.length;let l2:=Paired.length e;let y:=d.length;let(oc,M,l,z):=o;simp only at U a c;subst U;subst a;subst c;apply zk3 (knd:=mixKind X.prog X.w) (kvs:=j) 024 D (by rw[y09];omega) (by rw[y09];show zah 01) (λi v k u L g=>w i v k u (by simpa using L) g) λh' E x k=>?_;let A:KV (mergeK [] kvs) (merged [] j):=KV.merge d .nil;let Y:=zcu kvs [];rw[y1e]at Y;show⟨.ref s.heap.objs.size,_,I.laid (t':=E) k 08<|zt0 (zah 01) (beq_eq_false_iff_ne.mpr<|Ne.symm (y0m I.big)) A x,R,q _ _<|.mk' I.fresh _⟩
theorem zjj(K:Frag)(C:X.calm=N)(h:X.K=K:=by rfl):CallR X (.type "dict") (rDictOf K):=h▸zlg C
theorem zgl:∀(i acc:List<|Key×V) (k:Key),k∉i.map (·.1)->valV (mergeK acc i) k=valV acc k
 |[],_,_,_=>rfl
 |C::i,acc,k,h=>by
  rw[y0t,y08,not_or]at h;change valV (mergeK (putK acc C.1 C.2) i) k=_;rw[zgl i _ k h.2,zne,Xp h.1]
theorem zog:∀(i acc:List<|Key×V) (k:Key) (v:V),(i.map (·.1)).Nodup->(k,v)∈i->valV (mergeK acc i) k=G v
 |[],_,_,_,_,h=>nomatch h
 |C::i,acc,k,v,I,h=>by
  rw[y0t,y1k]at I;change valV (mergeK (putK acc C.1 C.2) i) k=_;rcases y08.mp h with rfl|h
  .rw[zgl i _ _ I.1,zne,Xq rfl]
  .exact zog i _ k v I.2 h
def rMaxL(K:Frag):List V->Hp->VK->Prop:=λxs H Q=>∃(p:Ad) (ns:List Int),xs=[.ref p]/\SqL K H p 034/\0<ns.length/\∀M,M∈ns->(∀a∈ns,a<=M)->Q (.int M) H
theorem zqq(hc:X.calm=N):CallR X (.builtin "max") (rMaxL X.K):=by
 intro pins s σ H xs us Q I r h;let(p,ns,rfl,J,D,q):=h;let(u,rfl,T):=vals1 r;cases(show u=Va.ref p from T);let(vs,f,c,_):=I.list J;let hi:=ze3 f;let(xs,e):=hi.allInts.items;let w:s.heap.IsList p (intItems xs):=e▸c.isList;let g:ns=xs.toList.map (·.1):=by
  rw[←nums_intItems,←e];show(show numsOf vs.toArray.toList=ns from hi.numsOf).symm
 let hsz:0<xs.size:=by rw[g,y01,y16]at D;show D
 apply max_intList 024 w hsz λv h' i hv E=>?_;let(t,rfl):=intItems_at hv;let(O,M):=argBest_gt (numAt xs)<|xs.size-1;apply⟨.int _,H,I.kept E,⟨_,R⟩,q _ ?_ λa d=>?_⟩
 .rw[g,numAt_eq];show getD_mem (by rw[y01,y16];omega)
 .rw[g]at d;let(j,U,rfl):=mem_getD d;rw[y01,y16]at U;rw[←numAt_eq];show M j 01
theorem zm5(K:Frag)(C:X.calm=N)(h:X.K=K:=by rfl):CallR X (.builtin "max") (rMaxL K):=h▸zqq C
def rIndex(K:Frag):V->List V->Hp->VK->Prop:=λx vs H Q=>∃(p:Ad) (ns:List Int) (k:Int),x=.ref p/\vs=[.int k]/\SqL K H p 034/\k∈ns/\ns.length<=1000/\Q (.int (ns.idxOf k:Nat)) H
theorem zw2:MtR X "list.index" (rIndex X.K):=by
 intro pins s σ H x xs v us Q I T rs h;let(p,ns,k,rfl,rfl,J,E,hz,q):=h;cases T;let(u,rfl,t,rfl):=vals1 rs;let(vs,f,c,_):=I.list J;let hi:=ze3 f;let((cls,dd,data,g),D,C,n,hd):=c.isList;simp only at C hd;subst C hd;let M:=hi.length;let U:ns.idxOf k<ns.length:=y1f.mpr E;apply jm PySem.F.slot_list_index ⟨_,D,R⟩ PySem.F.entry_list_index (PySem.F.args_list_index_2 _ _)
  (SeqAt.list_indexAt p vs.toArray n dd g (.int k t) (isInt k) (ns.idxOf k) (by simpa[M]using U) 01 ?_ ?_) ⟨D,λy Y=>(eq_isInt k t hi y<|by simpa using Y).at _ _,?_⟩
 .change isInt k vs[ns.idxOf k]=N;rw[isInt_at k hi _ 01 U];simpa using y2o U
 .intro j a o;change isInt k vs[j]=Fa;rw[isInt_at k hi j (by simpa using a) 01];show ne_of_lt_idxOf o _
 .exact⟨.int _,H,I.tok _,⟨_,R⟩,q⟩
theorem zs0(K:Frag)(h:X.K=K:=by rfl):MtR X "list.index" (rIndex K):=h▸zw2
def rCatTN(K:Frag):R2:=λx y H Q=>∃a b xs ys,x=.ref a/\y=.ref b/\SqT K H a xs/\SqT K H b ys/\xs≠[]/\ys≠[]/\xs.length+ys.length<=ii/\∀p H',New H p (.tup<|xs++ys) H'->Q 22 H'
theorem zwe:OpR X (iQ .Add) (rCatTN X.K):=λpins s σ H x y v u Q I T f h=>by
 let(a,b,xs,ys,L,g,d,U,J,C,hz,q):=h;show op_catT pins s σ H x y v u Q I T f ⟨a,b,xs,ys,L,g,d,U,J,hz,λz=>Xa z C,λ_ p r=>q p _<|.mk' r _⟩
theorem zse(K:Frag)(h:X.K=K:=by rfl):OpR X (iQ .Add) (rCatTN K):=h▸zwe
section
variable {tn:List Str}{cp:Y6}{g:TG}{tif:TT}{te:TE}{σ0:St}{Q:VK}{H1:Hp}{n:Nat}
def PGen(S:St->Prop)(Gq:Nat->V->Hp->Prop)(H1:Hp)(i:Nat)(ys:List V)(σ:St)(H:Hp):Prop:=Same H1 H/\S σ/\ys.length=i/\∀j y,ys[j]?=G y->Gq j y H
theorem zg9(S:St->Prop)(Gq:Nat->V->Hp->Prop)(I:n<=1000)(o:S 044)(f:∀i H,i<n->Same H1 H->J.go i H)(a:∀H,Same H1 H->J.stop n H)
  (hs:∀D i ys σ H x H',i<n->Same H1 H->H1 D=B->H D=G 50->ys.length=i->(∀j y,ys[j]?=G y->Gq j y H)->S σ->J.yld i H x H'->g x σ H' λd H2=>tif d H2 λc H3 =>
   if c=N then te d H3 λv H4=>CStep D n i (PGen S Gq H1) d v H4 else CSkip D n i (PGen S Gq H1) d H3)
  (hd:∀D ys H,H1 D=B->Same H1 H->H D=G 50->ys.length=n->(∀j y,ys[j]?=G y->Gq j y H)->Q 65 H):cBody tn cp g tif te σ0 Q J H1:=by
 apply zuq n (λD=>PGen S Gq H1) (zah I) (λD u=>⟨za0 u _,o,R,λj y e=>by simp at e⟩) (λD i ys σ H _ hi _ p=>f i H hi p.1) (λD ys σ H _ _ p=>a H p.1) ?_ ?_
 .rintro D i ys σ H x H' u hi A Y ⟨r,p2,l,q⟩ C;show hs D i ys σ H x H' hi r u A l q p2 C
 .rintro D ys σ H u A Y ⟨r,p2,l,q⟩;show hd D ys H u r A l q
theorem zcf(a:∀j y H H',TupS H H'->Gq j y H->Gq j y H')(I:n<=1000)(hi:i<n)(u:H1 D=B)(L:H4 D=G 50)(Y:ys.length=i)
  (C:∀j y,ys[j]?=G y->Gq j y H) (ts:TupS H H4) (l:Same H1 H4) (s2:S d) (e:Gq i v H4):CStep D n i (PGen S Gq H1) d v H4:=by
 apply cstep (zah I) hi L 01 ⟨l.wr u _,s2,by simp[Y],λj y w=>?_⟩;by_cases h:j<ys.length
 .rw[y1c h]at w;show a j y _ _ (ts.trans<|TupS.wr L _)<|C j y w
 .rw[y11 01]at w;let J:j-ys.length=0:=by
   cases U:j-ys.length with
   |zero=>rfl
   |succ k=>rw[U]at w;simp at w
  rw[J]at w;simp at w;subst w;rw[show j=i by omega];show a i _ _ _ (TupS.wr L _) e
end
theorem znd{K:Frag}{a:Ad}{xs:List V}{i:Nat}{H H':Hp}{v:V}(J:SqL K H a xs)(y:(Ite K a).yld i H v H'):∃p x,v=.ref p/\New H p (.tup [.int (i:Int),x]) H'/\xs[i]?=G x:=by
 let(p,x,e,n,h):=y;show⟨p,x,e,n,h xs J⟩
theorem zu5{K:Frag}{a b:Ad}{xs ys:List V}{i:Nat}{H H':Hp}{v:V}(J:SqL K H a xs)(C:SqT K H b ys)(z:(ItzL K a b).yld i H v H'):∃p x y,v=.ref p/\New H p (.tup [x,y]) H'/\xs[i]?=G x/\ys[i]?=G y:=by
 let(p,x,y,e,n,O,M):=z;show⟨p,x,y,e,n,O xs J,M ys C⟩
def tDisp1T(r c:TE):TE:=λσ H Q=>∀p H1,New H p (.dT []) H1->r σ H1 λy H2=>c σ H2 λz H3=>H3 p=G (.dT [])/\∃b ks,y=.ref b/\H3 b=G (.tup<|ks.map kV)/\Q 22 (upd H3 p<|.dT [(ks,z)])
theorem zr3{r c:TE}(U:X.A.units+8<cLine)(j:PE X k r)(hv:PE X v c):PE X (.Dict [G k] [v] pos) (tDisp1T r c):=by
 intro pins s σ H Q I q;let I1:=I.laid (a:=s.heap.objs.size) (o:=.dT []) (h':=s.heap.push {cls:=.type "dict",data:=.dict #[]}) (t':=s.toks) (λ_ _ q=>y04 _ q) 08<|zow s.heap I.big;let e:(evalEachOpt [G k] X.env).zip ((evalEach [v] X.env).map λv=>do let x ←v;standAt pos;pure x)=[(eval k X.env,do let x ←eval v X.env;standAt pos;pure x)].map λp=>(G p.1,p.2):=rfl;rw[arm_eval_Dict,e,dictDisplay_pairs _ 05 05];apply ia<|je (ia ?_);unfold subDict;apply ia<|wpAny_alloc (ia<|ir ?_);rw[Xq 05];apply ia<|evalPairs_cons ?_;apply thn (j pins _ σ _ _ I1<|q _ _ (.mk' I.fresh _)) λC s2 zz=>ex5 zz λy H2 I2 d w=>?_;apply ia<|thn (hv pins s2 σ H2 _ I2 w) λY J zz=>ex5 zz λz H3 I3 f zq=>?_;let(ep,b,ks,T,eb,i):=zq;subst T;obtain rfl:C=Va.ref b:=d;apply ia<|je (ib<|evalPairs_nil (ir ?_));rw[y25];let(zz,hd,xs,rel,dd):=dt_of I3.hok ep;cases rel;apply ia<|ia ?_;change wpAny _ _ (dictSet s.heap.objs.size (Va.ref b) Y>>=_) _ _ _;apply ia<|wpAny_dictSet_heap (knd:=jR<|mixKind X.prog X.w) (hsz:=by rw[y1e];show y13 _) (show X.A.units<cLine by omega) (zkw I3.hok eb) dd λh' D hs=>ib ?_;dsimp only;rw[y2v];apply ib<|ib (ib<|ib ?_);let(o,l,g,O,M,A,L,u,E):=D;apply⟨.ref s.heap.objs.size,_,zi8 I3 (by rw[ep];show True.intro) hs ⟨o,O⟩ ?_,R,i⟩;apply⟨zah 05,hd,storedH [] ks b Y,?_,o,l,g,O,M,A,L,E⟩;change i8 _ [(ks,z)] [(ks,b,Y)];apply .cons ⟨R,?_,f⟩ .nil;rw[zak<|zsx eb ep (λz=>nomatch z)];show eb
def NeOk(X:Cx)(k:Nat)(H:Hp)(x y:V)(b:Bool):Prop:=∀(pins:Y2) (σ:St) (s:ig) (A:io) (u v:Va),A.units+k<cLine->02 H s->RelV x u->RelV y v->SeqAt.RcNeAt A s u v b
def rNeM(X:Cx):R2:=λx y H Q=>∃c,NeOk X 8 H x y c/\Q (.bl c) H
def rRange2:List V->Hp->VK->Prop:=λxs H Q=>∃i j:Int,xs=[.int i,.int j]/\∀p H',New H p (.rng i j) H'->Q 22 H'
def rListRng:List V->Hp->VK->Prop:=λxs H Q=>∃(p:Ad) (i j:Int),xs=[.ref p]/\H p=G (.rng i j)/\(0<=i/\i<=j/\j<=1000)/\∀l H',New H l (.lst<|(List.range (j-i).toNat).map λ(k:Nat)=>V.int<|i+k) H'->Q (.ref l) H'
def rRepN:R2:=λx y H Q=>∃l k xs,x=.ref l/\y=.int k/\H l=G 016/\-(2^63)<=k/\k<2^63/\xs.length*k.toNat<=ii/\∀p H',New H p (.lst (List.replicate k.toNat xs).flatten) H'->Q 22 H'
noncomputable def Itez(K:Frag)(a b:Ad):It :=
 ⟨λi H=>∃xs ys x y,SqT K H a xs/\SqT K H b ys/\xs[i]?=G x/\ys[i]?=G y,
  λi H v H'=>∃p r H1 x y,v=.ref r/\New H p (.tup [x,y]) H1/\New H1 r (.tup [.int (i:Int),.ref p]) H'/\(∀xs,SqT K H a xs->xs[i]?=G x)/\∀ys,SqT K H b ys->ys[i]?=G y,
  λi H=>∃xs ys,SqT K H a xs/\SqT K H b ys/\xs.length<=i⟩
def iEZ(K:Frag)(y:TA):TI:=λσ H Rq=>y σ H λvs H1=>∃a b,vs=[.ref a,.ref b]/\(∃xs,SqT K H1 a xs)/\(∃ys,SqT K H1 b ys)/\Rq (Itez K a b) H1
def rCatTE:R2:=λx y H Q=>∃a b xs ys,x=.ref a/\y=.ref b/\H a=G 015/\H b=G (.tup ys)/\xs.length+ys.length<=ii/\∀p H',Same H H'->H' p=G (.tup<|xs++ys)->Q 22 H'
noncomputable def without(h:Heap):List Ad->Heap
 |[]=>h
 |b::L=>without (h.update b λ_=>{cls:=.none,data:=.freed}) L
theorem zqe(h:Heap)(a:Ad):(h.update a λ_=>{cls:=.none,data:=.freed}).get? a=B:=by
 let(objs,l):=h;change(match(objs.modify a λ_=>({cls:=.none,data:=.freed}:Obj))[a]? with
  |some ⟨_,_,.freed,_⟩=>B
  |o=>o)=B
 by_cases h:a<objs.size
 .rw[y1l (by simpa using h),Array.getElem_modify];simp
 .rw[y3a<|by simpa using h]
theorem zdy(b:Ad):∀(L:List Ad) (h:Heap),(without h L).get? b=if b∈L then B else h.get? b
 |[],h=>by simp[without]
 |c::L,h=>by
  rw[without,zdy b L];by_cases U:b∈L
  .rw[Xq U,Xq<|y06 _ U]
  .rw[Xp U];by_cases C:b=c
   .subst C;rw[Xq y0a,zqe]
   .rw[Xp (by simp[C,U]),y18 _ _<|Ne.symm C]
theorem zbn(U:b∈L):(without h L).get? b=B:=by rw[zdy,Xq U]
theorem zbv(U:b∉L):(without h L).get? b=h.get? b:=by rw[zdy,Xp U]
theorem zcm(h:Heap)(L:List Ad):(without h L).StaysIn h:=λb o e=>by
 by_cases U:b∈L
 .rw[zbn U]at e;cases e
 .rw[zbv U]at e;show e
theorem zcx{h base a:Heap}:∀{l:List Env},h.FunFrames base l->(∀b∈frs l,a.get? b=B)->h.FunFrames a l
 |[],_,_=>trivial
 |env::rest,⟨j,⟨L,o,T,I,q,hd⟩,D⟩,k=>by
  let e:frs (env::rest)=L::frs rest:=by change List.filterMap _ (env::rest)=_;rw[y22,T];rfl
  rw[e]at k;show⟨j,⟨L,o,T,k L y0a,q,hd⟩,zcx D λb U=>k b<|y06 _ U⟩
def Flown(C:Heap)(H:Hp)(h:Heap)(a:Ad)(cls:Va):Prop :=
 ∃(Y:Obj) (vs:Array Va) (T:Ad) (g:Obj) (ts:Array Va),h.get? a=G Y/\Y.cls=cls/\Y.data=.fields vs/\vs[1]?=G (.ref T)/\T≠a/\h.get? T=G g/\g.data=.fields ts/\ts[3]?=G .none/\
  C.get? a=B/\C.get? T=B/\H a=B/\H T=B
def CXE(P:ik)(w:World):CXT:=λouter H s E e s'=>∃(a:Ad) (cls:Va) (H':Hp),e=.ref a/\s'.os=s.os/\jA s'.gens/\Un (frs outer) [] H H' s.heap s'.heap/\HOk P w H' s'.heap/\Flown s.heap H' s'.heap a cls/\E cls (G a) H'
theorem zcb(x:ObjOk P w H h a o):∃ob,h.get? a=G ob:=by
 induction o with
 |lst xs=>let(_,_,_,_,e):=x;show⟨_,e⟩
 |tup xs=>let(_,_,_,ob,e,_):=x;show⟨_,e⟩
 |dK kvs=>let(_,_,_,_,ob,_,_,e,_):=x;show⟨_,e⟩
 |dT kvs=>let(_,_,_,_,ob,_,_,e,_):=x;show⟨_,e⟩
 |set S n=>let(ob,_,_,_,e,_):=x;show⟨_,e⟩
 |ins C dx fs=>let(_,_,_,e,_):=x;show⟨_,e⟩
 |own _=>show x
 |xd fs=>let(_,(ob,l,ep,e,_),_):=x;show⟨_,e⟩
 |rng lo hi=>let(_,_,_,e):=x;show⟨_,e⟩
 |frz ob u=>show⟨_,x.1⟩
 |tbl qs ps=>let(_,e,_):=x;show⟨_,e⟩
 |met f y=>show⟨_,x⟩
 |ext j=>show x.2.1
section
variable {X:Cx}{pins:Y2}{σ:St}{H:Hp}{s:ig}{Ex:Y0}
theorem zoi(I:02 H s)(J:X.ex=[])(i:∀b∈L,X.s₀.heap.get? b=B/\H b=B)
  (l1:(without s.heap<|frs X.stack++L).StaysIn A) (l2:A.FunFrames (without s.heap<|frs X.stack++L) X.stack) (r:A.Traced (without s.heap<|frs X.stack++L) a cls)
  (l4:∀b o,s.heap.get? b=G o->(∀vs,o.data ≠ .fields vs)->∃y,A.get? b=G {o with slots:=y}) (d:a∈L) (q:E cls (G a) H) :
  CXE X.prog X.w X.outer X.H₀ X.s₀ E 04 {s with heap:=A}:=by
 let(Y,p,T,oT,ts,x,D,j,t4,t5,Q,t7,t8,t9):=r;let hTf:T∉frs X.stack:=λz=>by
  let(_,o,e1,g):=l2.mem z;rw[t7]at e1;cases e1;show g _ t8
 let nx:∀b,b∉X.ex:=λb z=>by rw[J]at z;cases z
 let st:∀b o,b∉frs X.stack->b∉L->s.heap.get? b=G o->A.get? b=G o:=λb o O M e=>l1 b o (by rw[zbv λz=>(y0x.mp z).elim O M];show e);let out:∀b o,X.s₀.heap.get? b=G o->b∉frs X.outer->b∉frs X.stack:=λb o e h z=>by
  rcases y08.mp (I.stkSub b z)with w|w
  .exact y0m (y0q (y0g e) I.ok.above) w
  .exact h w
 let nL:∀b o,X.s₀.heap.get? b=G o->b∉L:=λb o e z=>by rw[(i b z).1]at e;cases e
 let T0:X.s₀.heap.get? T=B:=by
  cases e:X.s₀.heap.get? T with
  |none=>rfl
  |some o =>
   let(f,l):=I.base.there T o e<|nx T;rw[zbv λz=>(y0x.mp z).elim hTf<|nL T o e]at t5;rw[t5]at l;cases l
 let HT:H T=B:=by
  cases e:H T with
  |none=>rfl
  |some o =>
   let(f,l):=zcb<|I.hok T o e;by_cases hTL:T∈L
   .rw[(i T hTL).2]at e;cases e
   .rw[zbv λz=>(y0x.mp z).elim hTf hTL]at t5;rw[t5]at l;cases l
 apply⟨a,cls,H,R,I.os,I.bare,⟨λb o e n U _=>?_,λb o e n U _=>?_,λb o e n _=>I.base.free b o e n<|nx b,λb o e _=>?_,I.base.tups,I.base.frzs,I.base.tbls⟩,λb o e=>?_,⟨Y,p,T,oT,ts,x,D,j,t4,Q,t7,t8,t9,(i a d).1,T0,(i a d).2,HT⟩,q⟩
 .exact st b o (out b o e U) (nL b o e)<|I.base.keep b o e n U (nx b)
 .let(y,e1):=I.base.slot b o e n U<|nx b;let(_,f,g,nf):=I.ok.funs.mem U;rw[e]at g;cases g;let(sl',e3):=l4 b _ e1 nf;show⟨sl',e3⟩
 .let(f,e1):=I.base.there b o e<|nx b;by_cases U:b∈frs X.stack
  .let(_,v,g,_):=l2.mem U;show⟨v,g⟩
  .exact⟨f,st b f U (nL b o e) e1⟩
 .refine(I.hok b o e).stay (λc u C ec=>st c u (λz=>?_) (λz=>?_) ec) (λ_ z=>z) (λ_ _ _ _ _ z=>z) λ_ _ z=>z
  .let:=I.stkFree c z;rcases C with rfl|C
   .rw[this]at e;cases e
   .rw[this]at C;cases C
  .let:=(i c z).2;rcases C with rfl|C
   .rw[this]at e;cases e
   .rw[this]at C;cases C
theorem zmt(I:02 H s)(J:X.ex=[])(hs:X.stack=X.env::X.outer)(T:X.env.frame=G X.env.locals)(M:Heap.MadeExcOf s.heap h' a cls vs)(q:E cls (G a) H):
  wpAny 36 X.A (li X.env 04) (λ_ d=>CXE X.prog X.w X.outer X.H₀ X.s₀ E 04 d) Ex {s with heap:=h'}:=by
 let(t,f,_,_):=M.there;let y:02 H {s with heap:=h',toks:=s.toks}:=I.kept M.keeps;let c:H a=B:=by
  cases e:H a with
  |none=>rfl
  |some o =>
   let(g,l):=zcb<|I.hok a o e;rw[M.new]at l;cases l
 let u:X.s₀.heap.get? a=B:=by
  cases e:X.s₀.heap.get? a with
  |none=>rfl
  |some o =>
   let(g,l):=I.base.there a o e (λz=>by rw[J]at z;cases z);rw[M.new]at l;cases l
 apply wpAny_leaving_first (base:=without h'<|frs X.stack++[a]) (outer:=X.outer) (L:=X.env.locals) (by rw[←hs];show I.ok.frames) (by rw[←hs];show zcx y.stack λb U=>zbn<|y2g _ U) T f (zcm _ _)
  (zbn<|y10 _ (y0b.mpr R)) R R λA ⟨l1,l2,r,w⟩=>?_
 rw[←hs]at l2;show zoi (L:=[a]) y J (λb U=>by rw[y0b.mp U];show⟨u,c⟩) l1 l2 r w (y0b.mpr R) q
theorem ze1(I:02 H s)(J:X.ex=[])(hs:X.stack=X.env::X.outer)(hf:X.env.frame=G X.env.locals)(c:CXE X.prog X.w X.stack H s E' e s')(q:∀a cls H',E' cls (G a) H'->E cls (G a) H'):
  wpAny 36 X.A (li X.env e) (λ_ d=>CXE X.prog X.w X.outer X.H₀ X.s₀ E e d) Ex s':=by
 let(a,cls,H',rfl,os,bare,un,hok,(Y,vs,T,g,ts,x,D,j,v,Q,t7,p,i,u,n2,O,M),C):=c;let y:02 H' s':=I.call' os un hok bare λb z=>nomatch z;let s0:∀b,s.heap.get? b=B->X.s₀.heap.get? b=B:=λb z=>by
  cases e:X.s₀.heap.get? b with
  |none=>rfl
  |some o =>
   let(f,l):=I.base.there b o e (λz=>by rw[J]at z;cases z);rw[z]at l;cases l
 apply wpAny_leaving_next (base:=without s'.heap<|frs X.stack++[a,T]) (outer:=X.outer) (L:=X.env.locals) (cls:=cls) (by rw[←hs];show I.ok.frames) (by rw[←hs];show zcx y.stack λb U=>zbn<|y2g _ U) hf
  ⟨Y,vs,T,g,ts,x,D,j,v,zbn<|y10 _ 05,Q,t7,p,i⟩ (zcm _ _) (zbn<|y10 _ 05) λA ⟨l1,l2,r,w⟩=>?_
 rw[←hs]at l2;show zoi (L:=[a,T]) y J (λb U=>by
  simp only[y08,y0n,or_false]at U;rcases U with rfl|rfl
  .exact⟨s0 _ u,O⟩
  .exact⟨s0 _ n2,M⟩) l1 l2 r w 05 (q _ _ _ C)
theorem zs3(I:02 H s)(M:Heap.MadeExcOf s.heap h' a cls vs):H a=B:=by
 cases e:H a with
 |none=>rfl
 |some o =>
  let(f,l):=zcb<|I.hok a o e;rw[M.new]at l;cases l
end
structure Rs(X:Cx)(E:XK):Prop where
 ex:X.ex=[]
 st:X.stack=X.env::X.outer
 fr:X.env.frame=G X.env.locals
 xe:∀e s',wpAny 36 X.A (li X.env e) (λ_ s''=>CXE X.prog X.w X.outer X.H₀ X.s₀ E e s'') (λe' s''=>CXE X.prog X.w X.outer X.H₀ X.s₀ E e' s'') s'->X.xe e s'
theorem Rs.passes(Rq:Rs X E)(q:∀a cls H',E' cls (G a) H'->E cls (G a) H'):Passes (CXE X.prog X.w) X E':=λpins σ H s e s' I c=>Rq.xe e s'<|ze1 I Rq.ex Rq.st Rq.fr c q
def tRaise(E:XK)(cls:Va)(t:TA):TS:=λD σ H=>t σ H λvs H1=>vs.length<=ii/\∀a,H1 a=B->E cls (G a) H1
theorem zvx{X:Cx}{E:XK}{x:Str}{C:Ad}{Bq c i:String}{bm:List Va}{r w pos:Pos}{e:Expr}{rest:List Expr}{t:TA}(Rq:Rs X E)(hc:X.calm=N)(j:Gl X x)(O:OwnCls x C bm c X.mg X.base)(FB:ExcBaseFacts Bq c i bm)(d:PA X (e::rest) t)
  (f:im (e::rest) X.env=(Fa,eval e X.env)::im rest X.env:=by rfl) (Q:(iT w<|im rest X.env).any (·.1)=Fa:=by rfl) (hd:012=Fa:=by decide) :
  PS X (.Raise (G<|.Call (.Name x r) (e::rest) [] w) B pos) (tRaise E (.ref C) t):=by
 intro pins s σ H D I h;let(tl,Nq,nm,q,bs,hdct,sn,sub,ab,col,dd,k0,k1,k2,k3,k5,mN,p,hN,o,T):=O.obj;apply wpAny_Raise_call_subT (C:=C) (nm:=nm) (q:=q) («N»:=Nq) (bs:=bs) (bm:=tl) (hdct:=hdct) (sn:=sn) (sub:=sub) (ab:=ab) (col:=col) (dd:=dd) (k0:=k0) (k1:=k1) (k2:=k2) (k3:=k3) (k5:=k5)
  FB (mN:=mN) (T.hasType FB.hasBase) 024 (by rw[f];change(Fa||(iT w<|im rest X.env).any (·.1))=Fa;rw[Q];rfl) o ?_
 apply thn (zr1 (v:=.ref C) (pos:=r) j O.bound R hd pins s σ H (λv H'=>v=.ref C/\H'=H) I ⟨R,R⟩) λu s1 zz=>ex5 zz λv H1 I1 r1 zq=>?_;let(L,g):=zq;subst L g;apply⟨r1,?_⟩;let y:=d w pins s1 σ H1 _ I1 h;rw[f]at y ⊢;apply Calls.evalArgs_plain<|thn y λus s2 ⟨vs,H2,l,A,z,q⟩=>⟨R,by rw[←A.length];show z,l.bk _ _ p,hN.keeps l.bk,T.keeps l.bk,λh' a M=>Rq.xe _ _<|zmt l Rq.ex Rq.st Rq.fr M (q a<|zs3 l M)⟩
theorem Fun.okE{P:ik}{w:World}{K:Frag}{mg:Y1}{base:Heap}{x qual:Str}{st:Stmt}{f:Ad}{fd:i6}{Nq ps:List Str}{k:Nat}{sp:Sp}(F:Fun K x qual st f fd)(S:FnScope Nq ps 73)(len:∀vs H Q E,sp vs H Q E->vs.length=ps.length)
  (i:∀(l:Va) (A:io) (outer:List Env) (s:ig) (H:Hp) (vs:List V) (Q:VK) (E:XK),Room k (A.deeper<|jd qual 73 s.heap.objs.size f l)->sp vs H Q E->Rs (cxOf (CXE P w) P w K mg base Nq qual 73 f l A outer s H E) E->
   ∃t,PSs (cxOf (CXE P w) P w K mg base Nq qual 73 f l A outer s H E) (defBody st) t/\t {nx:=λ_ H'=>Q .non H',rt:=Q} 036 H):FnOk P w K mg base (CXE P w) (k+1) f fd ps sp:=by
 let(oc,M,kV,doc,p,a,l,ct,z,rfl,lk,hcd):=F.ex;show fn_of lk hcd S len λA outer s H vs Q E D T=>i l A outer s H vs Q E D T ⟨R,R,R,λ_ _ h=>h⟩
open PySem PySem.Spec PyProof.Rows PySem.Calls
section
variable {X:Cx}{pins:Y2}{σ:St}{H:Hp}{s:ig}
noncomputable def Cx.held(X:Cx)(a:Ad):Cx:={X with A:=X.A.mark<|G (.ref a),calm:=Fa,xe:=λ_ _=>False}
theorem Cx.Ok.held(ok:X.Ok):(X.held a).Ok:=⟨ok.mod,ok.kind,ok.glob,ok.blt,ok.above,ok.inj,ok.has,ok.cab,(λh=>nomatch h),ok.frames,ok.stk,ok.exf,ok.bs,ok.bsz,ok.noex,ok.exfs,ok.funs,ok.frf⟩
theorem Inv.held(I:02 H s):Inv (X.held a) pins σ H s:=⟨I.ok.held,I.os,I.bare,I.base,I.loc,I.cell,I.free,I.freeC,I.pin,I.hok,I.len⟩
theorem Inv.unheld(ok:X.Ok)(I:Inv (X.held a) pins σ H s):02 H s:=⟨ok,I.os,I.bare,I.base,I.loc,I.cell,I.free,I.freeC,I.pin,I.hok,I.len⟩
theorem Inv.adopt(I:02 H s)(d:H a=B)(C:X.s₀.heap.get? a=B)(f:s.heap.get? a=G Y)(hd:Y.data=.fields vs)(E:∀p∈X.pn++pins,p.1≠a)(new:ObjOk X.prog X.w (upd H a o) s.heap a o):
  02 (upd H a o) s:=by
 let i:X.env.locals≠a:=λz=>by
  let(m,(ob,l,ep,e,dd,_),_):=I.loc;rw[z,f]at e;cases e;rw[hd]at dd;cases dd
 let j:∀x c,X.env.cells.lookup x=G c->c≠a:=λx c e z=>by
  let(v,ob,L,dd):=I.cell x c e;rw[z,f]at L;cases L;rw[hd]at dd;cases dd
 let up:∀b u,H b=G u->upd H a o b=G u:=λb u e=>by rw[zak λz=>by rw[z,d]at e;cases e];show e
 apply⟨I.ok,I.os,I.bare,⟨I.base.keep,I.base.slot,λb ob e k J=>?_,I.base.there,λb xs e=>up _ _<|I.base.tups b xs e,λb ob u e=>up _ _<|I.base.frzs b ob u e,λb qs ps e=>up _ _<|I.base.tbls b qs ps e⟩,I.loc,I.cell,by rw[zak i];show I.free,λx c e=>by rw[zak<|j x c e];show I.freeC x c e,λp g=>?_,λb u e=>?_,I.len⟩
 .rw[zak λz=>by rw[z,C]at e;cases e];show I.base.free b ob e k J
 .let(e,k,r):=I.pin p g;show⟨e,by rw[zak<|E p g];show k,r⟩
 .by_cases U:b=a
  .subst U;rw[zao]at e;cases e;show new
  .rw[zak U]at e;show(I.hok b u e).stay (λ_ _ _ q=>q) (λc q=>up c _ q) (λc _ _ _ _ q=>up c _ q) λc xs q=>up c _ q
theorem Inv.touch{h':Heap}{L:List Ad}{t':Nat}(I:02 H s)(k:∀b o,b∉frs X.stack->b∉L->s.heap.get? b=G o->h'.get? b=G o)(y:∀b o,b∈frs X.stack->s.heap.get? b=G o->∃y,h'.get? b=G {o with slots:=y})
  (i:∀b∈L,∃j,H b=G (.ext j)/\j h'/\∃o,h'.get? b=G o):02 H {s with heap:=h',toks:=t'}:=by
 let fr:∀b∈frs X.stack,H b=B:=I.stkFree;apply I.call' (ch:=[]) R ⟨λb o e n U _=>k b o U (λz=>?_) e,λb o e n U _=>y b o U e,λ_ _ _ n _=>n,λb o e _=>?_,λ_ _ e=>e,λ_ _ _ e=>e,λ_ _ _ e=>e⟩ (λb u e=>?_) I.bare λb z=>nomatch z
 .let(j,l,_):=i b z;rw[n]at l;cases l
 .by_cases U:b∈frs X.stack
  .let(q,l):=y b o U e;show⟨_,l⟩
  .by_cases Y:b∈L
   .let(_,_,_,f,l):=i b Y;show⟨f,l⟩
   .exact⟨o,k b o U Y e⟩
 .by_cases Y:b∈L
  .let(j,l,p,f,a):=i b Y;rw[e]at l;cases l;show⟨p,⟨f,a⟩,(I.hok b _ e).2.2⟩
  .refine(I.hok b u e).stay (λc w C J=>k c w (λz=>?_) (λz=>?_) J) (λ_ z=>z) (λ_ _ _ _ _ z=>z) λ_ _ z=>z
   .let:=fr c z;rcases C with rfl|C
    .rw[this]at e;cases e
    .rw[this]at C;cases C
   .rcases C with rfl|C
    .exact Y z
    .let(j,l,_):=i c z;rw[C]at l;cases l
def ExcIs(a:Ad)(cls:Va)(h:Heap):Prop:=∃(o:Obj) (vs:Array Va),h.get? a=G o/\o.cls=cls/\o.data=.fields vs
def TbIs(T:Ad)(h:Heap):Prop:=∃(o:Obj) (vs:Array Va),h.get? T=G o/\o.data=.fields vs
noncomputable def excO(a:Ad)(cls:Va):HO:=.ext<|ExcIs a cls
noncomputable def tbO(T:Ad):HO:=.ext<|TbIs T
theorem zyg(x:ExcIs a cls h):ObjOk P w H h a (excO a cls) :=
 ⟨x,let⟨o,_,e,_⟩:=x;⟨o,e⟩,λO M ⟨o,vs,e,r⟩ k=>⟨o,vs,k o e,r⟩⟩
theorem zvb(x:TbIs T h):ObjOk P w H h T (tbO T) :=
 ⟨x,let⟨o,_,e,_⟩:=x;⟨o,e⟩,λO M ⟨o,vs,e,r⟩ k=>⟨o,vs,k o e,r⟩⟩
end
section
variable {prog:ik}{w:World}{A:io}{E:Y0}{s:ig}{env:Env}
theorem zoc(af:A.frames=G (env::outer))(Y:s.heap.FunFrames base (env::outer))(hf:env.frame=G L)(f:s.heap.get? e=G oe)(hd:oe.data=.fields vs)(O:vs[1]?=G (.ref T))
  (hTe:T≠e) (v:s.heap.get? T=G oT) (r:oT.data=.fields ts) (h3:ts[3]?=G .none)
  (h:∀h',(∀b o,b∉frs (env::outer)->b≠e->b≠T->s.heap.get? b=G o->h'.get? b=G o)->(∀b o,b∈frs (env::outer)->s.heap.get? b=G o->∃y,h'.get? b=G {o with slots:=y})->TbIs T h'->
   (∃(i:Obj) (p:Array Va) (a:Ad) (H:Obj) (fw:Array Va),h'.get? e=G i/\i.cls=oe.cls/\i.data=.fields p/\p[1]?=G (.ref a)/\a≠e/\h'.get? a=G H/\H.data=.fields fw/\fw[3]?=G .none/\s.heap.get? a=B)->Q () {s with heap:=h'}) :
  wpAny 88 A (noteFrame (.ref e) env) (λ_ s'=>wpAny 88 A (setFlight (.ref e) B) Q E s') E s:=by
 unfold noteFrame;simp only[hf];apply ia<|iA f hd O ?_;rw[Xq<|show(Va.ref T !=Va.none)=N from by simp];apply ia<|iA v r h3 ?_;rw[Xp<|show¬((Va.none==i9 L)=N)from by simp[i9]];apply ia<|iD v r (y23.mp h3).1 ?_;let c:∀b,b≠T->(s.heap.update T (Obj.mapFields (·.setIfInBounds 3 Va.none))).get? b=s.heap.get? b:=λb U=>y18 _ _<|Ne.symm U;let fu:=Obj.data_mapFields r (·.setIfInBounds 3 Va.none);let hT':=y1b (Obj.mapFields (·.setIfInBounds 3 Va.none)) v<|Obj.isFreed_of_fields fu;generalize s.heap.update T (Obj.mapFields (·.setIfInBounds 3 Va.none))=M at c hT';let nr:∀b o,s.heap.get? b=G o->(∀vs,o.data ≠ .fields vs)->b≠T:=λb o U hnf q=>by
  rw[q,v]at U;injection U with U;subst U;show hnf ts r
 let C:M.FunFrames base (env::outer):=Y.of_keeps λb o U hnf=>⟨o,(c b<|nr b o U hnf).trans U,R⟩;let fT:T∉frs (env::outer):=λz=>by
  let(_,o,e1,g):=Y.mem z;rw[v]at e1;cases e1;show g _ r
 let fe:e∉frs (env::outer):=λz=>by
  let(_,o,e1,g):=Y.mem z;rw[f]at e1;cases e1;show g _ hd
 apply wpAny_newEntry (base:=without M<|frs (env::outer)++[e]) af (zcx C λb U=>zbn<|y2g _ U) hf ((c e<|Ne.symm hTe).trans f) (zcm _ _) (zbn<|y10 _ (y0b.mpr R)) hd (y23.mp O).1
  λh' ⟨x1,J,x3,x4⟩=>?_
 let st:∀b o,b∉frs (env::outer)->b≠e->M.get? b=G o->h'.get? b=G o:=λb o u n2 q=>x1 b o (by rw[zbv λz=>(y0x.mp z).elim u λz=>n2<|y0b.mp z];show q);let(i,p,a,H,fw,x,D,j,t4,t5,t6,l,t8,t9):=x3;let f2:a∉frs (env::outer):=λz=>by
  let(_,o,e1,g):=J.mem z;rw[l]at e1;cases e1;show g _ t8
 let n2:M.get? a=B:=by rw[zbv λz=>(y0x.mp z).elim f2 λz=>t6<|y0b.mp z]at t5;show t5
 let n2T:a≠T:=λz=>by rw[z,hT']at n2;cases n2
 apply h h' (λb o I d b3 q=>st b o I d<|(c b b3).trans q) (λb o U q=>?_) ⟨_,_,st T _ fT hTe hT',fu⟩ ⟨i,p,a,H,fw,x,D,j,t4,t6,l,t8,t9,by rw[←c a n2T];show n2⟩;let(_,o',e1,g):=Y.mem U;rw[q]at e1;cases e1;show x4 b o ((c b<|nr b o q g).trans q) g
end
section
variable {X:Cx}{pins:Y2}{σ:St}{H:Hp}{s:ig}{k:Nat}{fa:Ad}{fd:i6}{ps:List Str}{sp:Sp}
theorem ztv{c:XK}{Q:VK}{Xe:Y0}{x:Str}{e:Expr}{es:List Expr}{t:TA}{p pos:Pos}(F:FnOk X.prog X.w X.K X.mg X.base (CXE X.prog X.w) k fa fd ps sp)(D:Room k X.A)(i:Gl X x)(M:X.mg x=G (.ref fa))(j:PySem.W.keepIn X.K (.ref fa)=N)(U:Binds X.K fd ps [])
  (d:PA X.nox (e::es) t) (I:02 H s) (h:t σ H λvs H1=>sp vs H1 Q c) (J:∀H1 s1 e s',02 H1 s1->CXE X.prog X.w X.stack H1 s1 c e s'->Xe e s')
  (w:012=Fa:=by decide) (f:im (e::es) X.env=041::im es X.env:=by rfl) (o:(052).any (·.1)=Fa:=by rfl) :
  wpAny 36 X.A (eval 029 X.env) 037 Xe s:=by
 apply iE<|zcv I i M ?_ w;apply PySem.W.callWith_K (h₀:=X.base) I.ok.mod.kin j (iq (d pos pins s σ H _ (I.wish _) h) (λus s1 zz=>ex5 zz λvs H1 I1 r q=>⟨I1.unwish.kIn,?_⟩) λ_ _ z=>False.elim z) f o;let a:=I1.unwish;let Y:us.length=ps.length:=by rw[←r.length];show F.len _ _ _ _ q
 apply ji<|iH (F.run X.A X.stack s1 H1 025 us vs Q c D a.env0 (by have:=U s1 us a.kIn (by rw[y1g];show Y);rw[y1g]at this;show this) r q) λr s' O=>?_;cases r with
 |error e=>show J H1 s1 e s' a O
 |ok g =>
  cases g with
  |ret u=>show a.after O
  |next=>show False.elim O
  |brk=>show False.elim O
  |cont=>show False.elim O
theorem zk0{M:Model}{A:io}{E:Y0}{a T:Ad}{Y g:Obj}{vs ts:Array Va}{Q:Unit->ig->Prop}(I:02 H s)(j:s.heap.get? a=G Y)(hd:Y.data=.fields vs)(O:vs[1]?=G (.ref T))(v:s.heap.get? T=G g)(i:g.data=.fields ts)(p:3<ts.size)
  (r:H T=G (tbO T)) (h:∀h',02 H {s with heap:=h'}->Q () {s with heap:=h'}):wpAny M A (setFlight (.ref a) B) Q E s:=by
 unfold setFlight;apply ia<|iA j hd O ?_;rw[Xq<|show(Va.ref T !=Va.none)=N from by simp];apply iD v i p ?_;let c:∀b,b≠T->(s.heap.update T (Obj.mapFields (·.setIfInBounds 3 ((B:Option Ad).elim Va.none λf=>i9 f)))).get? b=s.heap.get? b:=λb U=>y18 _ _<|Ne.symm U;let d:=Obj.data_mapFields i (·.setIfInBounds 3 ((B:Option Ad).elim Va.none λf=>i9 f));let e:=y1b (Obj.mapFields (·.setIfInBounds 3 ((B:Option Ad).elim Va.none λf=>i9 f))) v<|Obj.isFreed_of_fields d;apply h _<|I.touch (L:=[T]) (t':=s.toks) (λb o _ n q=>(c b λz=>n<|y0b.mpr z).trans q) (λb o U q=>⟨o.slots,(c b λz=>?_).trans q⟩) λb U=>?_
 .let:=I.stkFree b U;rw[z,r]at this;cases this
 .rw[y0b.mp U];show⟨_,r,⟨_,_,e,d⟩,_,e⟩
end
open PySem PySem.Spec PyProof.Rows PySem.W
structure KExc(K:Frag)(C:Ad):Prop where
 ga:findIn K (.ref C) "__getattribute__"=G (G<|.builtin "BaseException.__getattribute__")
 gn:findIn K (.ref C) "__getattr__"=G B
 cl:findIn K (.ref C) "__class__"=G (G<|.builtin "object.__class__")
 mb:mroIn K C (.type "BaseException")=G N
 mo:mroIn K C (.type "object")=G N
 ic:hasDictIn K C=N
section
variable {prog:ik}{w:World}{A:io}{E:Y0}{K:Frag}{h:Heap}{g:Array ju}{d:Drawn}{t:Nat}{os:OsState}{a C:Ad}{o:Obj}
theorem zxx(X:K.In h)(e:mroIn K C base=G r)(O:Q r ⟨h,g,d,t,os⟩):wpAny M A (isSubtype (.ref C) base) Q E ⟨h,g,d,t,os⟩:=looks_mroIn X e A Q E _ (λ_ _ e=>e) O
end
def rIsX(K:Frag):List V->Hp->VK->Prop:=λxs H Q=>∃a C S b,xs=[.ref a,.ref S]/\H a=G 042/\KExc K C/\kitOne K (.ref C) (.ref S)=G b/\Q (.bl b) H
def rIsXT(K:Frag):List V->Hp->VK->Prop:=λxs H Q=>∃a C T b,xs=[.ref a,.ty T]/\H a=G 042/\KExc K C/\kitOne K (.ref C) (.type T)=G b/\Q (.bl b) H
open PySem PySem.Spec PyProof.Rows PySem.W PySem.Calls
section
variable {M:Model}{A:io}{E:Y0}{K:Frag}{h:Heap}{g:Array ju}{d:Drawn}{t:Nat}{os:OsState}
theorem zys(X:K.In h)(e:typeIn K v=G c)(O:Q c ⟨h,g,d,t,os⟩):wpAny M A (typeOf v) Q E ⟨h,g,d,t,os⟩:=looks_typeIn X e A Q E _ (λ_ _ e=>e) O
structure KSup(K:Frag)(S:Ad):Prop where
 ty:typeIn K (.ref S)=G (.type "type")
 mb:mroIn K S (.type "BaseException")=G N
 ic:hasDictIn K S=N
theorem zk2(X:K.In h)(k:KSup K S)(he:h.get? e=G oe)(hcls:oe.cls=.ref C)(ms:mroIn K C (.ref S)=G N)(hq:Q N ⟨h,g,d,t,os⟩):wpAny M A (excMatches (.ref e)<|.ref S) Q E ⟨h,g,d,t,os⟩:=by
 let ty:=k.ty;let mb:=k.mb;let f:=tc_notTuple;let(cd,hcd,_):=any_some k.ic;unfold clsIn at hcd;split at hcd
 .rename_i c' d' cd' sl' ho;let hS:=X _ _ ho;unfold excMatches
  repeat (first|(with_reducible apply wpAny_loadPart_at he ?_;rw[hcls])|(with_reducible apply zys X ty ?_)|with_reducible apply wpAny_loadPart_at hS ?_|(with_reducible apply zxx X mb ?_)|(with_reducible apply zxx X ms ?_)|wp_step)
  show hq
 .cases hcd
end
section
variable {X:Cx}{pins:Y2}{σ:St}{H:Hp}{s:ig}{k:Nat}{fa:Ad}{fd:i6}{ps:List Str}{sp:Sp}
def tTry(K:Frag)(S:Ad)(sp:Sp)(i j:Nat)(t:TA)(ts:TS):TS:=λD σ H=>t σ H λvs H1=>sp vs H1 (λv H2=>D.nx (σ.set i<|G v) H2) λcls f H2=>∀a,f=G a->∃C,cls=.ref C/\mroIn K C (.ref S)=G N/\
 ∀H3,Same H2 H3->H3 a=G (excO a cls)->ts {nx:=λl H'=>(∃v,l[j]?=G (G v))/\D.nx (l.set j B) H',rt:=λ_ _=>False} (σ.set j<|G 04) H3
end
theorem own_K{K:Frag}(X:K.In h)(Y:mg x=G (.ref C))(q:excIn K C e c=N):OwnCls x C e c mg h:=by
 apply⟨Y,?_⟩;unfold excIn at q;split at q
 .rename_i dd cd y D;split at q
  .rename_i r bm k0 k1 k2 k3 n k5 L g;simp only[y07,beq_iff_eq,Bool.not_eq_true']at q;let(((((T,I),j),d),f),i):=q;let p:=X _ _ D;let(nm,bs,mro,ns,a,hd,sn,sub,ab,col,o):=cd;simp only at L j f i;subst L T I j;obtain⟨l⟩:=y;simp only at g;subst g;show⟨bm,ns,nm,a,bs,hd,sn,sub,ab,col,dd,k0,k1,k2,k3,k5,_,p,.of_isNs<|isNs_of_in X f,nsMap_none_of_in X f i,tail_of_in X d⟩
  .cases q
 .cases q
theorem zge{X:Cx}{E:XK}{x:Str}{C:Ad}{Bq c i:String}{bm:List Va}{r w pos:Pos}{e:Expr}{rest:List Expr}{t:TA}(Rq:Rs X E)(z:X.calm=N)(j:Gl X x)(Y:X.mg x=G (.ref C))(O:excIn X.K C bm c=N)(FB:ExcBaseFacts Bq c i bm)(d:PA X (e::rest) t)
  (f:im (e::rest) X.env=(Fa,eval e X.env)::im rest X.env:=by rfl) (M:(iT w<|im rest X.env).any (·.1)=Fa:=by rfl) (hd:012=Fa:=by decide) :
  PS X (.Raise (G<|.Call (.Name x r) (e::rest) [] w) B pos) (tRaise E (.ref C) t):=λpins s σ H D I h =>
 zvx Rq z j (own_K I.ok.mod.kin Y O) FB d f M hd pins s σ H D I h
structure CalE(P:ik)(w:World)(K:Frag)(mg:Y1)(base:Heap)(n:Nat)(x:Str)(ps:List Str)(sp:Sp):Prop where
 ex:∃f fd,FnOk P w K mg base (CXE P w) n f fd ps sp/\Binds K fd ps []/\PySem.W.keepIn K 52=N/\mg x=G 52
theorem Dfn.calE{P:ik}{w:World}{K:Frag}{mg:Y1}{base:Heap}{x:Str}{st:Stmt}{Nq ps:List Str}{k:Nat}{sp:Sp}(d:Dfn K mg x st ps)(S:FnScope Nq ps 73)(len:∀vs H Q E,sp vs H Q E->vs.length=ps.length)
  (i:∀(f:Ad) (l:Va) (A:io) (outer:List Env) (s:ig) (H:Hp) (vs:List V) (Q:VK) (E:XK),Room k (A.deeper<|jd x 73 s.heap.objs.size f l)->sp vs H Q E->Rs (cxOf (CXE P w) P w K mg base Nq x 73 f l A outer s H E) E->
   ∃t,PSs (cxOf (CXE P w) P w K mg base Nq x 73 f l A outer s H E) (defBody st) t/\t {nx:=λ_ H'=>Q .non H',rt:=Q} 036 H):CalE P w K mg base (k+1) x ps sp:=by
 let(f,fd,F,b,m):=d.ex;show⟨f,fd,F.okE S len<|i f,b,F.kp,m⟩
theorem PS.nox{X:Cx}{st:Stmt}{t:TS}(h:PS X.nox st t):PS X st t:=λpins s σ H D I L =>
 iq (h pins s σ H D (I.wish _) L) (λ_ _ q=>q.unwish) λ_ _ z=>False.elim z
section
variable {prog:ik}{w:World}{A:io}{E:Y0}{s:ig}{env:Env}
theorem zkz{K:Frag}{a C S:Ad}{t:Expr}{i:Stmt}{p:List Stmt}{pos:Pos}{rest:List ExceptHandler}{Q:Flow->ig->Prop}(k:KSup K S)(ms:mroIn K C (.ref S)=G N)
  (h:wpAny 88 (A.mark<|G 04) (eval t env) (λc s₁=>c=.ref S/\K.In s₁.heap/\(∃Y,s₁.heap.get? a=G Y/\Y.cls=.ref C)/\
   wpAny 88 (A.mark<|G 04) (setFlight 04 B) (λ_ s₂=>wpAny 88 (A.mark<|G 04) (execs (i::p) env) Q (λ_ _=>False) s₂) (λ_ _=>False) s₁) (λ_ _=>False) s) :
  wpAny 88 A (handleBy 04 env (.ExceptHandler (G t) B (i::p) pos::rest)) Q E s:=by
 apply wpAny_handleBy_cons (codeAny_handlers_test<|iq h (λc s₁ h₁=>?_) λ_ _ y=>False.elim y) (by intro q;cases q);let(rfl,o,(Y,f,e),j):=h₁;let(M,g,d,r,os):=s₁;apply zk2 o k f e ms<|codeAny_handlers_suite ?_;show iq j (λ_ s₂ l=>iq l (λ_ _ y=>y) λ_ _ y=>False.elim y) λ_ _ y=>False.elim y
end
section
variable {X:Cx}{pins:Y2}{σ:St}{H:Hp}{s:ig}{k:Nat}{fa:Ad}{fd:i6}{ps:List Str}{sp:Sp}
def tTryN(K:Frag)(S:Ad)(sp:Sp)(t:TA)(ts:TS):TS:=λD σ H=>t σ H λvs H1=>sp vs H1 (λv H2=>D.nx σ H2) λcls f H2=>∀a,f=G a->∃C,cls=.ref C/\mroIn K C (.ref S)=G N/\
 ∀H3,Same H2 H3->ts {nx:=D.nx,rt:=λ_ _=>False} σ H3
theorem zza{f c:Str}{S:Ad}{e:Expr}{es:List Expr}{t:TA}{ts:TS}{np cpos b0 cp de pos:Pos}{i:Stmt}{r:List Stmt}(F:FnOk X.prog X.w X.K X.mg X.base (CXE X.prog X.w) k fa fd ps sp)(hr:Room k X.A)(j:Gl X f)(Y:X.mg f=G (.ref fa))
  (hkp:PySem.W.keepIn X.K (.ref fa)=N) (U:Binds X.K fd ps []) (d:PA X.nox (e::es) t) (hgS:Gl X c) (hmS:X.mg c=G (.ref S)) (kS:KSup X.K S)
  (J:X.ex=[]) (Q:X.stack=X.env::X.outer) (af:X.env.frame=G X.env.locals) (hN:X.Nq.Nodup) (hsu:∀a,PSs (X.held a) (i::r) ts)
  (hs:jp 055 B b0.line X.env=pure Fa:=by rfl) (ah:(f==("__debug__":Str))=Fa:=by decide)
  (hdc:(c==("__debug__":Str))=Fa:=by decide) (he:im (e::es) X.env=041::im es X.env:=by rfl) (ar:(iT cpos<|im es X.env).any (·.1)=Fa:=by rfl) :
  PS X (.Try [.Expr 055 b0] [.ExceptHandler (G<|.Name c cp) B (i::r) de] [] [] pos) (tTryN X.K S sp t ts):=by
 intro pins s σ H D I h;apply wpAny_Try_except<|iL (wpAny_Expr_any (iq (ztv F hr j Y hkp U d I h (Xe:=_) (λH1 s1 ev s' I1 cx=>?_) ah he ar) (λv s1 zz=>ex5 zz λy H1 I1 r1 A=>?_) λ_ _ z=>z) I.quiet hs)
 ·-- an kf
  let(a,cls,H2,rfl,os,bare,un,hok,(oe,vs,T,oT,tts,x,t2,t3,t4,t6,t7,t8,t9,n1,n2,O,M),ee):=cx;let(C,rfl,ms,ht):=ee a rfl;let I2:02 H2 s':=I1.call' (ch:=[]) os un hok bare λb z=>nomatch z;let nex:∀b,b∉X.ex:=λb z=>by rw[J]at z;cases z
  let s0:∀b,s1.heap.get? b=B->X.s₀.heap.get? b=B:=λb z=>by
   cases q:X.s₀.heap.get? b with
   |none=>rfl
   |some o =>
    let(o',l):=I1.base.there b o q<|nex b;rw[z]at l;cases l
  let pn:∀b,s1.heap.get? b=B->∀p∈X.pn++pins,p.1≠b:=λb z p E q=>by
   let:=(I1.pin p E).1;rw[q,z]at this;cases this
  let I3:=I2.adopt (o:=excO a<|.ref C) O (s0 a n1) x t3 (pn a n1)<|zyg ⟨oe,vs,x,t2,t3⟩;let eh:upd H2 a 042 T=B:=by rw[zak t6];show M
  let I4:=I3.adopt (o:=tbO T) eh (s0 T n2) t7 t8 (pn T n2)<|zvb ⟨oT,tts,t7,t8⟩;apply zoc (base:=X.base) (outer:=X.outer) (L:=X.env.locals) (T:=T) (by rw[←Q];show I.ok.frames) (by rw[←Q];show I2.stack) af x t3 t4 t6 t7 t8 t9 λh'' kk sl tb ⟨dc,c9,T2,oT2,fw,u1,u2,u3,u4,u5,u6,u7,u8,u9⟩=>?_;rw[←Q]at kk sl;let nv:upd (upd H2 a 042) T (tbO T) a=G 042:=by rw[zak<|Ne.symm t6,zao]
  let I5:=I4.touch (L:=[a,T]) (t':=s'.toks) (h':=h'') (λb o b1 b2 q=>kk b o b1 (λz=>b2<|by simp[z]) (λz=>b2<|by simp[z]) q) sl λb U=>by
   simp only[y08,y0n,or_false]at U;rcases U with rfl|rfl
   .exact⟨_,nv,⟨dc,c9,u1,u2.trans t2,u3⟩,_,u1⟩
   .let(o,w,e1,g):=id tb;show⟨_,zao,tb,o,e1⟩
  let nu:s1.heap.get? T2=B:=by
   cases q:s1.heap.get? T2 with
   |none=>rfl
   |some o =>
    let(o',l):=un.there T2 o q λz=>nomatch z;rw[u9]at l;cases l
  let T2T:T2≠T:=λz=>by rw[z,t7]at u9;cases u9
  let ny:upd (upd H2 a 042) T (tbO T) T2=B:=by
   rw[zak T2T,zak u5];cases q:H2 T2 with
   |none=>rfl
   |some o =>
    let(o',l):=zcb<|hok T2 o q;rw[u9]at l;cases l
  let I6:=I5.adopt (o:=tbO T2) ny (s0 T2 nu) u6 u7 (pn T2 nu)<|zvb ⟨oT2,fw,u6,u7⟩;generalize eH:upd (upd (upd H2 a 042) T<|tbO T) T2 (tbO T2)=H3 at I6;let g3:Same H2 H3:=by rw[←eH];show(za0 O _).trans<|(za0 eh _).trans (za0 ny _)
  let ea3:H3 a=G 042:=by rw[←eH,zak<|Ne.symm u5];show nv
  let eT3:H3 T2=G (tbO T2):=by rw[←eH];show zao
  apply zkz kS ms<|zcv (X:=X.held a) (I6.held (a:=a)) hgS hmS ⟨R,I6.kIn,⟨dc,u1,u2.trans t2⟩,?_⟩ hdc;apply zk0 I6 u1 u3 u4 u6 u7 (y23.mp u8).1 eT3 λh7 I7=>?_;apply iq (hsu a pins _ _ H3 _ (I7.held (a:=a))<|ht H3 g3) (λfl s9 E=>?_) λ_ _ z=>False.elim z;cases fl with
  |next =>
   let(l0,H9,I9,q9):=E;show⟨_,H9,I9.unheld I.ok,q9⟩
  |brk=>let(_,_,_,z):=E;show False.elim z
  |cont=>let(_,_,_,z):=E;show False.elim z
  |ret u=>let(_,_,_,_,_,z):=E;show False.elim z
 .exact iO<|iO ⟨_,H1,I1,A⟩
end
theorem zvw{X:Cx}{k m:Nat}{f c:Str}{S:Ad}{ps:List Str}{sp:Sp}{e:Expr}{es:List Expr}{t:TA}{ts:TS}{np cpos l cp p pos:Pos}{i:Stmt}{r:List Stmt}(C:CalE X.prog X.w X.K X.mg X.base m f ps sp)(D:Room k X.A)(v:m<=k)(j:Gl X f)
  (d:PA X.nox (e::es) t) (z:Gl X c) (u:X.mg c=G (.ref S)) (A:KSup X.K S) (J:X.ex=[]) (Q:X.stack=X.env::X.outer) (g:X.env.frame=G X.env.locals) (hN:X.Nq.Nodup) (s:∀a,PSs (X.held a) (i::r) ts)
  (hs:jp 055 B l.line X.env=pure Fa:=by rfl) (w:(f==("__debug__":Str))=Fa:=by decide)
  (q:(c==("__debug__":Str))=Fa:=by decide) (O:notStar e=N:=by rfl) (M:es.all notStar=N:=by rfl) :
  PS X (.Try [.Expr 055 l] [.ExceptHandler (G<|.Name c cp) B (i::r) p] [] [] pos) (tTryN X.K S sp t ts):=by
 let(I,fd,F,b,kp,y):=C.ex;show zza F (D.mono v) j y kp b d z u A J Q g hN s hs w q (zap O)<|zbb M
theorem zn8{X:Cx}{E:XK}{n k:Nat}{x:Str}{ps:List Str}{sp:Sp}{p pos:Pos}{e:Expr}{es:List Expr}{t:TA}(Rq:Rs X E)(C:CalE X.prog X.w X.K X.mg X.base n x ps sp)(D:Room k X.A)(v:n<=k)(j:Gl X x)(d:PA X (e::es) t)(w:012=Fa:=by decide)
  (O:notStar e=N:=by rfl) (M:es.all notStar=N:=by rfl):PE X 029 (tCall sp [] E t):=by
 let(f,fd,F,b,kp,m):=C.ex;show zmd F (D.mono v) j m kp b .nil (Rq.passes λ_ _ _ h=>h) d w (zap O)<|zbb M
theorem passE0:Passes (CXE X.prog X.w) X E0:=λpins σ H s e s' I c=>by
 let(a,cls,H2,rfl,os,bare,un,hok,_,C):=c;show False.elim C
theorem zkf{X:Cx}{n k:Nat}{x:Str}{ps:List Str}{sp:Sp}{p pos:Pos}{e:Expr}{es:List Expr}{t:TA}(C:CalE X.prog X.w X.K X.mg X.base n x ps sp)(D:Room k X.A)(v:n<=k)(j:Gl X x)(d:PA X (e::es) t)(w:012=Fa:=by decide)
  (O:notStar e=N:=by rfl) (M:es.all notStar=N:=by rfl):PE X 029 (tCall sp [] E0 t):=by
 let(f,fd,F,b,kp,m):=C.ex;show zmd F (D.mono v) j m kp b .nil passE0 d w (zap O)<|zbb M
section
variable {X:Cx}{pins:Y2}{σ:St}{H:Hp}{s:ig}{k:Nat}{fa:Ad}{fd:i6}{ps:List Str}{sp:Sp}
def tTryX(K:Frag)(S:Ad)(sp:Sp)(i:Nat)(t:TA)(ts:TS):TS:=λD σ H=>t σ H λvs H1=>sp vs H1 (λv H2=>D.nx (σ.set i<|G v) H2) λcls f H2=>∀a,f=G a->∃C,cls=.ref C/\mroIn K C (.ref S)=G N/\
 ∀H3,Same H2 H3->ts {nx:=D.nx,rt:=λ_ _=>False} σ H3
theorem zy9{x f c:Str}{i:Nat}{S:Ad}{e:Expr}{es:List Expr}{t:TA}{ts:TS}{px np cpos b0 cp de pos:Pos}{az:Stmt}{r:List Stmt}(F:FnOk X.prog X.w X.K X.mg X.base (CXE X.prog X.w) k fa fd ps sp)(hr:Room k X.A)(j:Gl X f)(Y:X.mg f=G (.ref fa))
  (hkp:PySem.W.keepIn X.K (.ref fa)=N) (U:Binds X.K fd ps []) (d:PA X.nox (e::es) t) (hgS:Gl X c) (hmS:X.mg c=G (.ref S)) (kS:KSup X.K S)
  (J:X.ex=[]) (Q:X.stack=X.env::X.outer) (af:X.env.frame=G X.env.locals) (hN:X.Nq.Nodup) (hi:X.Nq[i]?=G x) (cw:Loc X.env.scope x) (hsu:∀a,PSs (X.held a) (az::r) ts)
  (hs:jp 055 (G<|.Name x px) b0.line X.env=pure Fa:=by rfl) (hf:X.fn x=N\/X.env.scope.names.lookup x=G .local:=by first|show .inl rfl|show .inr rfl|assumption) (ah:(f==("__debug__":Str))=Fa:=by decide)
  (hdc:(c==("__debug__":Str))=Fa:=by decide) (he:im (e::es) X.env=041::im es X.env:=by rfl) (ar:(iT cpos<|im es X.env).any (·.1)=Fa:=by rfl) :
  PS X (.Try [.Assign [.Name x px] 055 b0] [.ExceptHandler (G<|.Name c cp) B (az::r) de] [] [] pos) (tTryX X.K S sp i t ts):=by
 intro pins s σ H D I h;apply wpAny_Try_except<|iL (wpAny_Assign_Name (iq (ztv F hr j Y hkp U d I h (Xe:=_) (λH1 s1 ev s' I1 cx=>?_) ah he ar) (λv s1 zz=>ex5 zz λy H1 I1 r1 A=>?_) λ_ _ z=>z) hs)
 ·-- an kf
  let(a,cls,H2,rfl,os,bare,un,hok,(oe,vs,T,oT,tts,t1,t2,t3,t4,t6,t7,t8,t9,n1,n2,O,M),ee):=cx;let(C,rfl,ms,ht):=ee a rfl;let I2:02 H2 s':=I1.call' (ch:=[]) os un hok bare λb z=>nomatch z;let nex:∀b,b∉X.ex:=λb z=>by rw[J]at z;cases z
  let s0:∀b,s1.heap.get? b=B->X.s₀.heap.get? b=B:=λb z=>by
   cases q:X.s₀.heap.get? b with
   |none=>rfl
   |some o =>
    let(o',l):=I1.base.there b o q<|nex b;rw[z]at l;cases l
  let pn:∀b,s1.heap.get? b=B->∀p∈X.pn++pins,p.1≠b:=λb z p E q=>by
   let:=(I1.pin p E).1;rw[q,z]at this;cases this
  let I3:=I2.adopt (o:=excO a<|.ref C) O (s0 a n1) t1 t3 (pn a n1)<|zyg ⟨oe,vs,t1,t2,t3⟩;let eh:upd H2 a 042 T=B:=by rw[zak t6];show M
  let I4:=I3.adopt (o:=tbO T) eh (s0 T n2) t7 t8 (pn T n2)<|zvb ⟨oT,tts,t7,t8⟩;apply zoc (base:=X.base) (outer:=X.outer) (L:=X.env.locals) (T:=T) (by rw[←Q];show I.ok.frames) (by rw[←Q];show I2.stack) af t1 t3 t4 t6 t7 t8 t9 λh'' kk sl tb ⟨dc,c9,T2,oT2,fw,u1,u2,u3,u4,u5,u6,u7,u8,u9⟩=>?_;rw[←Q]at kk sl;let nv:upd (upd H2 a 042) T (tbO T) a=G 042:=by rw[zak<|Ne.symm t6,zao]
  let I5:=I4.touch (L:=[a,T]) (t':=s'.toks) (h':=h'') (λb o b1 b2 q=>kk b o b1 (λz=>b2<|by simp[z]) (λz=>b2<|by simp[z]) q) sl λb U=>by
   simp only[y08,y0n,or_false]at U;rcases U with rfl|rfl
   .exact⟨_,nv,⟨dc,c9,u1,u2.trans t2,u3⟩,_,u1⟩
   .let(o,w,e1,g):=id tb;show⟨_,zao,tb,o,e1⟩
  let nu:s1.heap.get? T2=B:=by
   cases q:s1.heap.get? T2 with
   |none=>rfl
   |some o =>
    let(o',l):=un.there T2 o q λz=>nomatch z;rw[u9]at l;cases l
  let T2T:T2≠T:=λz=>by rw[z,t7]at u9;cases u9
  let ny:upd (upd H2 a 042) T (tbO T) T2=B:=by
   rw[zak T2T,zak u5];cases q:H2 T2 with
   |none=>rfl
   |some o =>
    let(o',l):=zcb<|hok T2 o q;rw[u9]at l;cases l
  let I6:=I5.adopt (o:=tbO T2) ny (s0 T2 nu) u6 u7 (pn T2 nu)<|zvb ⟨oT2,fw,u6,u7⟩;generalize eH:upd (upd (upd H2 a 042) T<|tbO T) T2 (tbO T2)=H3 at I6;let g3:Same H2 H3:=by rw[←eH];show(za0 O _).trans<|(za0 eh _).trans (za0 ny _)
  let ea3:H3 a=G 042:=by rw[←eH,zak<|Ne.symm u5];show nv
  let eT3:H3 T2=G (tbO T2):=by rw[←eH];show zao
  apply zkz kS ms<|zcv (X:=X.held a) (I6.held (a:=a)) hgS hmS ⟨R,I6.kIn,⟨dc,u1,u2.trans t2⟩,?_⟩ hdc;apply zk0 I6 u1 u3 u4 u6 u7 (y23.mp u8).1 eT3 λh7 I7=>?_;apply iq (hsu a pins _ _ H3 _ (I7.held (a:=a))<|ht H3 g3) (λfl s9 E=>?_) λ_ _ z=>False.elim z;cases fl with
  |next =>
   let(l0,H9,I9,q9):=E;show⟨_,H9,I9.unheld I.ok,q9⟩
  |brk=>let(_,_,_,z):=E;show False.elim z
  |cont=>let(_,_,_,z):=E;show False.elim z
  |ret u=>let(_,_,_,_,_,z):=E;show False.elim z
 .exact zcn I1 hN hi cw r1 (λs2 I2=>iO<|iO ⟨_,H1,I2,A⟩) hf
end
theorem zvv{X:Cx}{k m:Nat}{x f c:Str}{i:Nat}{S:Ad}{ps:List Str}{sp:Sp}{e:Expr}{es:List Expr}{t:TA}{ts:TS}{E np cpos l cp p pos:Pos}{H:Stmt}{r:List Stmt}(C:CalE X.prog X.w X.K X.mg X.base m f ps sp)(D:Room k X.A)(v:m<=k)(j:Gl X f)
  (d:PA X.nox (e::es) t) (z:Gl X c) (u:X.mg c=G (.ref S)) (A:KSup X.K S) (J:X.ex=[]) (Q:X.stack=X.env::X.outer) (g:X.env.frame=G X.env.locals) (hN:X.Nq.Nodup) (hi:X.Nq[i]?=G x) (o:Loc X.env.scope x) (s:∀a,PSs (X.held a) (H::r) ts)
  (hs:jp 055 (G<|.Name x E) l.line X.env=pure Fa:=by rfl) (T:X.fn x=N\/X.env.scope.names.lookup x=G .local:=by first|show .inl rfl|show .inr rfl|assumption) (w:(f==("__debug__":Str))=Fa:=by decide)
  (q:(c==("__debug__":Str))=Fa:=by decide) (O:notStar e=N:=by rfl) (M:es.all notStar=N:=by rfl) :
  PS X (.Try [.Assign [.Name x E] 055 l] [.ExceptHandler (G<|.Name c cp) B (H::r) p] [] [] pos) (tTryX X.K S sp i t ts):=by
 let(I,fd,F,b,kp,y):=C.ex;show zy9 F (D.mono v) j y kp b d z u A J Q g hN hi o s hs T w q (zap O)<|zbb M
end L2
namespace SS
open PySem PySem.Spec PyProof.Rows L2
noncomputable def SMALL:Str:="abcdefghijklmnopqrstuvwxyz"
noncomputable def GREAT:Str:="ABCDEFGHIJKLMNOPQRSTUVWXYZ"
noncomputable def FIGS:Str:="0123456789"
noncomputable def signIn(c:Nat)(z:Str):Bool:=!(Builtin.Str.occurrences z ⟨#[c]⟩ 0 z.length 1).isEmpty
def nameB(z a:Str):Bool:=match z.cps.toList with
 |[]=>Fa
 |c::r=>decide (r.length<=3)&&signIn c a&&r.all λd=>signIn d FIGS
def isNm(x:V)(a:Str):Bool:=match x with
 |.str z=>nameB z a
 |_=>Fa
def zyx:Sp:=λvs H Q _=>∃x a k,vs=[x,.str a]/\Kd H x k/\(∀z,x=.str z->z.length<=1000)/\∀H',Same H H'->Q (.bl<|isNm x a) H'
def zif(a:Str):Sp:=λvs H Q _=>∃x k,vs=[x]/\Kd H x k/\(∀z,x=.str z->z.length<=1000)/\∀H',Same H H'->Q (.bl<|isNm x a) H'
structure Nam(z letters:Str):Prop where
 ex:∃d ds,z.cps.toList=d::ds/\d∈letters.cps.toList/\ds.length<=3/\∀x∈ds,x∈FIGS.cps.toList
theorem zre(c:Nat)(z:Str):signIn c z=decide (c∈z.cps.toList):=PySem.StrLaws.found_one z c
def Thing(H:Hp)(y:V):Prop:=(∃k,Kd H y k)/\∀z,y=.str z->z.length<=1000
theorem Thing.same(h:Thing H y)(g:Same H H'):Thing H' y:=⟨let⟨k,q⟩:=h.1;⟨k,q.same g⟩,h.2⟩
theorem Thing.str(h:z.length<=1000):Thing H (.str z):=⟨⟨_,.str z⟩,λf e=>by cases e;show h⟩
theorem Thing.tup(e:H a=G 015):Thing H 04:=⟨⟨_,.tup e⟩,λf e=>by cases e⟩
def isName(x:V):Bool:=isNm x SMALL||isNm x GREAT
def zvf:Sp:=λvs H Q _=>∃x,vs=[x]/\Thing H x/\∀H',Same H H'->Q (.bl<|isName x) H'
theorem ze2(h:isName x=N):∃z,x=.str z:=by
 cases x with
 |str z=>show⟨z,R⟩
 |_=>show Xa h (by simp[isName,isNm])
def frameB(xs:List V):Bool:=decide (xs.length<=4)&&xs.all isName&&decide xs.Nodup
def frB(H:Hp)(x:V):Bool:=match x with
 |.ref a=>match H a with
  |some (.lst xs)=>frameB xs
  |_=>Fa
 |_=>Fa
def Things(H:Hp)(xs:List V):Prop:=xs.length<=1000/\∀y∈xs,Thing H y
def zyz:Sp:=λvs H Q _=>∃x,vs=[x]/\Thing H x/\(∀a xs,x=.ref a->H a=G 016->Things H xs)/\∀H',Same H H'->Q (.bl<|frB H x) H'
theorem zhz:∀{xs:List V},xs.all isName=N->∃ks:List Key,xs=ks.map kV/\(xs.Nodup↔ks.Nodup)
 |[],_=>⟨[],R,by simp⟩
 |x::r,h=>by
  rw[y26,y07]at h;let(z,rfl):=ze2 h.1;let(ks,e,n):=zhz h.2;apply⟨Sum.inr z::ks,by rw[y0t,←e];rfl,?_⟩;rw[y1k,y1k,n];apply and_congr_left λ_=>not_congr ?_;rw[e,y0h];constructor
  .rintro⟨k,j,e⟩;let:k=Sum.inr z:=kV_inj<|e.trans R;show this▸j
  .exactλj=>⟨_,j,R⟩
inductive zlv(K:Frag)(vs:List V)(H:Hp)(Q:VK)(_E:XK):Prop
 |mk (a:Ad) (ns:List Int) (k:Int):(vs=[.ref a,.int k])->(SqL K H a<|ns.map V.int)->(0<=k)->(∀c,Q (.int c) H)->zlv K vs H Q _E
theorem zo0(f:D->p)(xs:List D)(lo hi:Option Int):cutL (xs.map f) lo hi=(cutL xs lo hi).map f:=by
 unfold cutL;rw[y01,y3m,List.map_drop]
inductive Sy where
 |bare (w n m:Str)
 |neg (s:Sy)
 |two (w:Str) (s t:Sy)
 |qu (w n:Str) (s:Sy)
noncomputable def rowWords:List Str:=["ahead","next"]
def treeWords:List Str:=["left","right","above"]
def bareWords:List Str:=["in","same","within","ahead","next","left","right","above"]
noncomputable def Sy.depth:Sy->Nat
 |.bare _ _ _=>1
 |.neg s=>s.depth+1
 |.two _ s t=>max s.depth t.depth+1
 |.qu _ _ s=>s.depth+1
noncomputable def Sy.parts:Sy->Nat
 |.bare _ _ _=>1
 |.neg s=>s.parts+1
 |.two _ s t=>s.parts+t.parts+1
 |.qu _ _ s=>s.parts+1
theorem Sy.depth_pos:∀s:Sy,1<=s.depth
 |.bare _ _ _=>y05 _
 |.neg s=>by unfold Sy.depth;omega
 |.two _ s t=>by unfold Sy.depth;omega
 |.qu _ _ s=>by unfold Sy.depth;omega
inductive Rep(H:Hp):V->Sy->Prop where
 |bare {a:Ad} {w n m:Str} (hw:w∈bareWords) (e:H a=G (.tup [.str w,.str n,.str m])):Rep H (.ref a)<|.bare w n m
 |neg {a:Ad} {x:V} {s:Sy} (e:H a=G (.tup [.str "not",x])) (h:Rep H x s):Rep H (.ref a)<|.neg s
 |two {a:Ad} {w:Str} {x y:V} {s t:Sy} (hw:w∈(["and","or"]:List Str)) (e:H a=G (.tup [.str w,x,y])) (h1:Rep H x s) (h2:Rep H y t):Rep H (.ref a)<|.two w s t
 |qu {a:Ad} {w n:Str} {x:V} {s:Sy} (hw:w∈(["some","all"]:List Str)) (e:H a=G (.tup [.str w,.str n,x])) (h:Rep H x s):Rep H (.ref a)<|.qu w n s
theorem Rep.same(r:Rep H v s)(g:Same H H'):Rep H' v s:=by
 induction r with
 |bare L e=>show .bare L<|g _ _ e
 |neg e _ f=>show .neg (g _ _ e) f
 |two L e _ _ y p=>show .two L (g _ _ e) y p
 |qu L e _ f=>show .qu L (g _ _ e) f
theorem Rep.tup(r:Rep H v s):∃a xs,v=.ref a/\H a=G 015:=by
 cases r with
 |bare L e=>show⟨_,_,R,e⟩
 |neg e _=>show⟨_,_,R,e⟩
 |two L e _ _=>show⟨_,_,R,e⟩
 |qu L e _=>show⟨_,_,R,e⟩
theorem zuy:∀w∈bareWords,inV (.str w) [.str "some",.str "all"]=Fa:=by decide+kernel
theorem ztc:∀w∈(["and","or"]:List Str),inV (.str w) [.str "some",.str "all"]=Fa:=by decide+kernel
theorem zu8:∀w∈(["some","all"]:List Str),¬w=("not":Str):=by decide+kernel
theorem zjq:∀w∈(["some","all"]:List Str),inV (.str w) [.str "some",.str "all"]=N:=by decide+kernel
theorem zwv:inV (.str "not") [.str "some",.str "all"]=Fa:=by decide+kernel
theorem zek(z:Str)(l:List Str):inV (.str z) (l.map V.str)=decide (z∈l):=by
 induction l with
 |nil=>rfl
 |cons y r f =>
  let e:inV (.str z) ((y::r).map V.str)=(eqV (.str y) (.str z)||inV (.str z) (r.map V.str)):=rfl;rw[e,f,eqV_str];by_cases h:z=y
  .subst h;simp
  .let h':¬y=z:=λq=>h q.symm;simp[h,h']
noncomputable def isT(H:Hp)(x:V):Bool:=match x with
 |.ref a=>match H a with
  |some (.tup _)=>N
  |_=>Fa
 |_=>Fa
theorem Kd.isT(h:Kd H x k):subT k "tuple"=isT H x:=by
 cases h with
 |lst e=>simp only[SS.isT,e];decide
 |tup e=>simp only[SS.isT,e];decide
 |dK e=>simp only[SS.isT,e];decide
 |_=>rfl
def zcp:Sp:=λvs H Q _=>∃a xs,vs=[.ref a]/\H a=G 015/\xs.length<=1000/\(∀y∈xs,∃k,Kd H y k)/\∀D H',H D=B->Same H H'->H' D=G (.lst<|xs.filter (isT H))->Q 65 H'
noncomputable def Sy.inner:Sy->List Sy
 |.bare _ _ _=>[]
 |.neg s=>[s]
 |.two _ s t=>[s,t]
 |.qu _ _ s=>[s]
theorem Rep.kd(r:Rep H v s):Kd H v "tuple":=by
 let(a,xs,rfl,e):=r.tup;show .tup e
theorem Rep.isT(r:Rep H v s):isT H v=N:=by
 let(a,xs,rfl,e):=r.tup;simp only[SS.isT,e]
theorem Rep.items(r:Rep H v s):∃a xs,v=.ref a/\H a=G 015/\xs.length<=3/\(∀y∈xs,∃k,Kd H y k)/\i8 (Rep H) (xs.filter<|SS.isT H) s.inner:=by
 cases r with
 |bare L e =>
  apply⟨_,_,R,e,y05 _,λy C=>?_,.nil⟩;simp only[y08,y0n,or_false]at C;rcases C with rfl|rfl|rfl<;>show⟨_,.str _⟩
 |neg e h =>
  apply⟨_,_,R,e,by simp,λy C=>?_,?_⟩
  .simp only[y08,y0n,or_false]at C;rcases C with rfl|rfl
   .exact⟨_,.str _⟩
   .exact⟨_,h.kd⟩
  .rw[y1z (by simp[SS.isT]),y1y h.isT];show .cons h .nil
 |two L e O M =>
  apply⟨_,_,R,e,by simp,λy C=>?_,?_⟩
  .simp only[y08,y0n,or_false]at C;rcases C with rfl|rfl|rfl
   .exact⟨_,.str _⟩
   .exact⟨_,O.kd⟩
   .exact⟨_,M.kd⟩
  .rw[y1z (by simp[SS.isT]),y1y O.isT,y1y M.isT];show .cons O<|.cons M .nil
 |qu L e h =>
  apply⟨_,_,R,e,by simp,λy C=>?_,?_⟩
  .simp only[y08,y0n,or_false]at C;rcases C with rfl|rfl|rfl
   .exact⟨_,.str _⟩
   .exact⟨_,.str _⟩
   .exact⟨_,h.kd⟩
  .rw[y1z (by simp[SS.isT]),y1z (by simp[SS.isT]),y1y h.isT];show .cons h .nil
noncomputable def Sy.isBare:Sy->Bool
 |.bare _ _ _=>N
 |_=>Fa
def zf6:Sp:=λvs H Q _=>∃v s,vs=[v]/\Rep H v s/\∀H',Same H H'->Q (.bl s.isBare) H'
theorem Paired.at:∀{xs:List D} {ys:List p} {i:Nat} {x:D},i8 Rq xs ys->xs[i]?=G x->∃y,ys[i]?=G y/\Rq x y
 |_,_,_,_,.nil,h=>by simp at h
 |_,_,0,_,.cons h _,e=>by simp at e;subst e;show⟨_,R,h⟩
 |_,_,i+1,_,.cons _ h,e=>by simp only[y1r]at e ⊢;show Paired.at h e
theorem Paired.len:∀{xs:List D} {ys:List p},i8 Rq xs ys->xs.length=ys.length
 |_,_,.nil=>rfl
 |_,_,.cons _ h=>by rw[y0j,y0j,Paired.len h]
theorem zgp{s t:Sy}(h:t∈s.inner):t.depth<s.depth/\t.parts<s.parts:=by
 cases s with
 |bare w n m=>show nomatch h
 |neg s=>rw[y0b.mp h];show⟨y2j _,y2j _⟩
 |two w s1 s2 =>
  let h:t=s1\/t=s2:=by simpa[Sy.inner]using h
  let L:(Sy.two w s1 s2).depth=max s1.depth s2.depth+1:=rfl;let g:(Sy.two w s1 s2).parts=s1.parts+s2.parts+1:=rfl;rcases h with rfl|rfl<;>(rw[L,g];omega)
 |qu w n s=>rw[y0b.mp h];show⟨y2j _,y2j _⟩
theorem zgc{D:Type}{xs:List D}(h:1<=xs.length):¬(HT.sIx xs.length 0 (G 1)=0/\HT.sIx xs.length xs.length B=xs.length):=λz=>by
 let e:HT.sIx xs.length 0 (G ((1:Nat):Int))=min 1 xs.length:=HT.sIx_nat ..;let l:HT.sIx xs.length 0 (G 1)=min 1 xs.length:=e;rw[l]at z;omega
def isPl(z:Str):Bool:=isNm (.str z) SMALL
def isSt(z:Str):Bool:=isNm (.str z) GREAT
theorem nm_ex(h:isNm (.str z) l=N):∃c r,z.cps.toList=c::r/\r.length<=3/\c∈l.cps.toList/\∀d∈r,d∈FIGS.cps.toList:=by
 simp only[isNm,nameB]at h;split at h
 .cases h
 .rename_i c r e;rw[y07,y07,zre,decide_eq_true_eq,decide_eq_true_eq,y12]at h;show⟨c,r,e,h.1.1,h.1.2,λd hd=>by have:=h.2 d hd;rw[zre,decide_eq_true_eq]at this;show this⟩
theorem zp6(h:isName (.str z)=N):isPl z=N\/isSt z=N:=by
 unfold isName at h;rw[y3e]at h;show h
theorem zk5(s:Sy):(Sy.neg s).depth=s.depth+1/\(Sy.neg s).parts=s.parts+1:=⟨R,R⟩
theorem zk4(w:Str)(s t:Sy):(Sy.two w s t).depth=max s.depth t.depth+1/\(Sy.two w s t).parts=s.parts+t.parts+1:=⟨R,R⟩
theorem zi7(w n:Str)(s:Sy):(Sy.qu w n s).depth=s.depth+1/\(Sy.qu w n s).parts=s.parts+1:=⟨R,R⟩
def forms:List (Str×List Str):=[("in",["place","set"]),("same",["place","place"]),("within",["set","set"]),("ahead",["place","place"]),("next",["place","place"]),("left",["place","place"]),("right",["place","place"]),("above",["place","place"]),
 ("not",["saying"]),("and",["saying","saying"]),("or",["saying","saying"]),("some",["name","saying"]),("all",["name","saying"])]
def sortB(a:V->Bool)(x:V)(s:Str):Bool:=if s="place" then isNm x SMALL else if s="set" then isNm x GREAT else if s="name" then isName x else a x
def zipB(a:V->Bool):List V->List Str->Bool
 |[],[]=>N
 |x::xs,s::c=>sortB a x s&&zipB a xs c
 |_,_=>Fa
def formH(H:Hp):Nat->V->Bool
 |0,_=>Fa
 |n+1,.ref a=>match H a with
  |some (.tup (.str w::r))=>match forms.lookup w with
   |some c=>zipB (formH H n) r c
   |none=>Fa
  |_=>Fa
 |_+1,_=>Fa
def Exp(H:Hp):Nat->V->Prop
 |0,v=>Thing H v
 |n+1,v=>Thing H v/\∀a xs,v=.ref a->H a=G 015->xs.length<=1000/\∀x∈xs,Exp H n x
theorem Exp.thing:∀{n:Nat} {v:V},Exp H n v->Thing H v
 |0,_,h=>h
 |_+1,_,h=>h.1
theorem Thing.same_tup(h:Thing H 04)(g:Same H H')(e:H' a=G 015):H a=G 015:=by
 let((k,j),_):=h;cases j with
 |lst z=>rw[g _ _ z]at e;cases e
 |tup z=>rw[g _ _ z]at e;cases e;show z
 |dK z=>rw[g _ _ z]at e;cases e
theorem Exp.same(g:Same H H'):∀{n:Nat} {v:V},Exp H n v->Exp H' n v
 |0,_,h=>Thing.same h g
 |n+1,v,h=>⟨h.1.same g,λa xs o e=>by
  subst o;let(O,M):=h.2 a xs R<|h.1.same_tup g e;show⟨O,λx J=>(M x J).same g⟩⟩
theorem zhe:∀{xs:List V} {c:List Str},(∀x∈xs,f x=g x)->zipB f xs c=zipB g xs c
 |[],[],_=>rfl
 |[],_::_,_=>rfl
 |_::_,[],_=>rfl
 |x::xs,s::c,h=>by
  change(sortB f x s&&zipB f xs c)=(sortB g x s&&zipB g xs c);rw[zhe λy C=>h y<|y06 _ C];unfold sortB;rw[h x y0a]
theorem ze4(g:Same H H'):∀{n:Nat} {v:V},Exp H n v->formH H' n v=formH H n v
 |0,_,_=>rfl
 |n+1,v,h=>by
  cases v with
  |ref a =>
   let((k,j),_):=h.1;cases j with
   |lst z=>simp only[formH,z,g _ _ z]
   |dK z=>simp only[formH,z,g _ _ z]
   |tup z =>
    rename_i xs;let J:=(h.2 a xs R z).2;simp only[formH,z,g _ _ z];cases xs with
    |nil=>rfl
    |cons x r =>
     cases x with
     |str wd =>
      simp only[];cases forms.lookup wd with
      |none=>rfl
      |some c=>show zhe λy C=>ze4 g<|J y (y06 _ C)
     |_=>rfl
  |_=>rfl
theorem znc:∀{xs:List V} {c:List Str},xs.length≠c.length->zipB f xs c=Fa
 |[],[],h=>Xa R h
 |[],_::_,_=>rfl
 |_::_,[],_=>rfl
 |x::xs,s::c,h=>by
  change(sortB f x s&&zipB f xs c)=Fa;rw[znc λz=>h (congrArg (· + 1) z),y2h]
theorem zhd:∀{xs:List V} {c:List Str},xs.length=c.length->zipB f xs c=(List.range xs.length).all λi=>sortB f (xs.getD i .non) (c.getD i "")
 |[],[],_=>rfl
 |[],_::_,h=>nomatch h
 |_::_,[],h=>nomatch h
 |x::xs,s::c,h=>by
  change(sortB f x s&&zipB f xs c)=_;rw[zhd<|Nat.succ.inj h,y0j,y2s,y26,y32];rfl
def zii(n:Nat):Sp:=λvs H Q _=>∃v,vs=[v,.int n]/\Exp H n v/\∀H',Same H H'->Q (.bl<|formH H n v) H'
def zls(n:Nat):Sp:=λvs H Q _=>∃v s,vs=[v,.str s,.int n]/\Exp H n v/\∀H',Same H H'->Q (.bl<|sortB (formH H n) v s) H'
def sp_sort':Nat->Sp
 |0=>λ_ _ _ _=>False
 |n+1=>zls n
def wfB:Sy->Bool
 |.bare w n m=>if w="in" then isPl n&&isSt m else if w="within" then isSt n&&isSt m else isPl n&&isPl m
 |.neg s=>wfB s
 |.two _ s t=>wfB s&&wfB t
 |.qu _ n s=>isName (.str n)&&wfB s
noncomputable def letB(c:List Str)(d:Nat):List Str->Sy->Bool
 |a,.bare w n m=>decide (a.length<=d)&&decide (w∉c)&&(decide (n∈a)&&decide (m∈a))
 |a,.neg s=>decide (a.length<=d)&&decide (("not":Str)∉c)&&letB c d a s
 |a,.two w s t=>decide (a.length<=d)&&decide (w∉c)&&(letB c d a s&&letB c d a t)
 |a,.qu w n s=>decide (a.length<=d)&&decide (w∉c)&&(decide (n∉a)&&letB c d (a++[n]) s)
theorem Rep.det(r:Rep H v s)(q:Rep H v t):s=t:=by
 induction r generalizing t with
 |bare L e =>
  cases q with
  |bare i l=>rw[e]at l;cases l;rfl
  |neg l _=>rw[e]at l;cases l
  |two i l O _=>rw[e]at l;cases l;cases O
  |qu i l O=>rw[e]at l;cases l;cases O
 |neg e _ f =>
  cases q with
  |bare i l=>rw[e]at l;cases l
  |neg l h'=>rw[e]at l;cases l;rw[f h']
  |two i l _ _=>rw[e]at l;cases l
  |qu i l _=>rw[e]at l;cases l
 |two L e O M y p =>
  cases q with
  |bare i l=>rw[e]at l;cases l;cases O
  |neg l _=>rw[e]at l;cases l
  |two i l a b=>rw[e]at l;cases l;rw[y a,p b]
  |qu i l b=>rw[e]at l;cases l;cases O
 |qu L e h f =>
  cases q with
  |bare i l=>rw[e]at l;cases l;cases h
  |neg l _=>rw[e]at l;cases l
  |two i l a b=>rw[e]at l;cases l;cases a
  |qu i l b=>rw[e]at l;cases l;rw[f b]
end SS
set_option maxHeartbeats 1000000
namespace SS
open PySem PySem.Spec PyProof.Rows L2
section
variable {f:V->Bool}{x y:V}{r:List V}{s1 s2:Str}
theorem zgb:sortB f x "place"=isNm x SMALL:=Xq R
theorem zga:sortB f x "set"=isNm x GREAT:=by unfold sortB;rw[Xp 48,Xq rfl]
theorem zq9:sortB f x "name"=isName x:=by unfold sortB;rw[Xp 48,Xp 48,Xq rfl]
theorem zd2:sortB f x "saying"=f x:=by unfold sortB;rw[Xp 48,Xp 48,Xp 48]
theorem zip_one:zipB f r [s1]=N↔∃x,r=[x]/\sortB f x s1=N:=by
 cases r with
 |nil=>simp[zipB]
 |cons x r =>
  cases r with
  |nil=>simp[zipB]
  |cons y r=>simp[zipB]
theorem zip_two:zipB f r [s1,s2]=N↔∃x y,r=[x,y]/\sortB f x s1=N/\sortB f y s2=N:=by
 cases r with
 |nil=>simp[zipB]
 |cons x r =>
  cases r with
  |nil=>simp[zipB]
  |cons y r =>
   cases r with
   |nil =>
    rw[show zipB f [x,y] [s1,s2]=(sortB f x s1&&(sortB f y s2&&N))from rfl,Bool.and_true,y07];show⟨λh=>⟨x,y,R,h⟩,λ⟨u,p,e,h⟩=>by cases e;show h⟩
   |cons z r=>simp[zipB]
theorem zhw(h:isNm x l=N):∃z,x=.str z:=by
 cases x with
 |str z=>show⟨z,R⟩
 |_=>cases h
end
theorem zxa(h:forms.lookup wd=G c):(wd="in"/\c=(["place","set"]:List Str))\/(wd="within"/\c=(["set","set"]:List Str))\/(wd∈bareWords/\¬wd=("in":Str)/\¬wd=("within":Str)/\c=(["place","place"]:List Str))\/
  (wd="not"/\c=(["saying"]:List Str))\/(wd∈(["and","or"]:List Str)/\c=(["saying","saying"]:List Str))\/(wd∈(["some","all"]:List Str)/\c=(["name","saying"]:List Str)):=by
 let m:=mem_of_lookup' h;simp only[forms,y08,y0n,or_false,Prod.mk.injEq]at m;rcases m with⟨rfl,rfl⟩|⟨rfl,rfl⟩|⟨rfl,rfl⟩|⟨rfl,rfl⟩|⟨rfl,rfl⟩|⟨rfl,rfl⟩|⟨rfl,rfl⟩|⟨rfl,rfl⟩|⟨rfl,rfl⟩|⟨rfl,rfl⟩|⟨rfl,rfl⟩|⟨rfl,rfl⟩|⟨rfl,rfl⟩
 .exact .inl ⟨R,R⟩
 .exact .inr<|.inr (.inl ⟨by decide+kernel,by decide+kernel,by decide+kernel,R⟩)
 .exact .inr<|.inl ⟨R,R⟩
 .exact .inr<|.inr (.inl ⟨by decide+kernel,by decide+kernel,by decide+kernel,R⟩)
 .exact .inr<|.inr (.inl ⟨by decide+kernel,by decide+kernel,by decide+kernel,R⟩)
 .exact .inr<|.inr (.inl ⟨by decide+kernel,by decide+kernel,by decide+kernel,R⟩)
 .exact .inr<|.inr (.inl ⟨by decide+kernel,by decide+kernel,by decide+kernel,R⟩)
 .exact .inr<|.inr (.inl ⟨by decide+kernel,by decide+kernel,by decide+kernel,R⟩)
 .exact .inr<|.inr (.inr<|.inl ⟨R,R⟩)
 .exact .inr<|.inr (.inr<|.inr (.inl ⟨by decide+kernel,R⟩))
 .exact .inr<|.inr (.inr<|.inr (.inl ⟨by decide+kernel,R⟩))
 .exact .inr<|.inr (.inr<|.inr (.inr ⟨by decide+kernel,R⟩))
 .exact .inr<|.inr (.inr<|.inr (.inr ⟨by decide+kernel,R⟩))
theorem zqh:∀wd∈bareWords,forms.lookup wd=G (if wd=("in":Str)then(["place","set"]:List Str)else if wd=("within":Str)then(["set","set"]:List Str)else(["place","place"]:List Str)):=by decide+kernel
theorem zqg:∀wd∈(["and","or"]:List Str),forms.lookup wd=G (["saying","saying"]:List Str):=by decide+kernel
theorem zqf:∀wd∈(["some","all"]:List Str),forms.lookup wd=G (["name","saying"]:List Str):=by decide+kernel
theorem ztj:forms.lookup ("not":Str)=G (["saying"]:List Str):=by decide+kernel
theorem zds:∀{n:Nat} {v:V},formH H n v=N->∃s,Rep H v s/\wfB s=N/\s.depth<=n
 |0,_,h=>by cases h
 |n+1,v,h=>by
  cases v with
  |ref a =>
   simp only[formH]at h;split at h
   .rename_i wd r e;split at h
    .rename_i c hs;rcases zxa hs with⟨rfl,rfl⟩|⟨rfl,rfl⟩|⟨L,u,o,rfl⟩|⟨rfl,rfl⟩|⟨L,rfl⟩|⟨L,rfl⟩
     .let(x,y,rfl,O,M):=zip_two.mp h;rw[zgb]at O;rw[zga]at M;let(T,rfl):=zhw O;let(I,rfl):=zhw M;apply⟨.bare "in" T I,.bare 48 e,?_,y2i<|y13 _⟩;change(if _ then _ else _)=N;rw[Xq R,y07];show⟨O,M⟩
     .let(x,y,rfl,O,M):=zip_two.mp h;rw[zga]at O M;let(T,rfl):=zhw O;let(I,rfl):=zhw M;apply⟨.bare "within" T I,.bare 48 e,?_,y2i<|y13 _⟩;change(if _ then _ else if _ then _ else _)=N;rw[Xp 48,Xq R,y07];show⟨O,M⟩
     .let(x,y,rfl,O,M):=zip_two.mp h;rw[zgb]at O M;let(T,rfl):=zhw O;let(I,rfl):=zhw M;apply⟨.bare wd T I,.bare L e,?_,y2i<|y13 _⟩;change(if _ then _ else if _ then _ else _)=N;rw[Xp u,Xp o,y07];show⟨O,M⟩
     .let(x,rfl,O):=zip_one.mp h;rw[zd2]at O;let(s,r,d,p):=zds O;show⟨.neg s,.neg e r,d,y2i p⟩
     .let(x,y,rfl,O,M):=zip_two.mp h;rw[zd2]at O M;let(s,r,d,p):=zds O;let(t,q,f,Y):=zds M;apply⟨.two wd s t,.two L e r q,?_,y2i<|Nat.max_le.mpr ⟨p,Y⟩⟩;change(wfB s&&wfB t)=N;rw[d,f];rfl
     .let(x,y,rfl,O,M):=zip_two.mp h;rw[zq9]at O;rw[zd2]at M;let(T,rfl):=ze2 O;let(t,q,f,Y):=zds M;apply⟨.qu wd T t,.qu L e q,?_,y2i Y⟩;change(isName _&&wfB t)=N;rw[O,f];rfl
    .cases h
   .cases h
  |_=>cases h
theorem znx(r:Rep H v s):∀{n:Nat},wfB s=N->s.depth<=n->formH H n v=N:=by
 induction r with
 |bare L e =>
  rename_i a wd u i;intro n h d;cases n with
  |zero=>show Xa d (by change¬1<=0;decide)
  |succ n =>
   simp only[formH,e,zqh wd L];by_cases g:wd=("in":Str)
   .rw[Xq g];let h':(isPl u&&isSt i)=N:=by have z:(if _ then _ else _)=N:=h;rw[Xq g]at z;show z
    rw[y07]at h';show zip_two.mpr ⟨_,_,R,by rw[zgb];show h'.1,by rw[zga];show h'.2⟩
   .rw[Xp g];by_cases U:wd=("within":Str)
    .rw[Xq U];let h':(isSt u&&isSt i)=N:=by have z:(if _ then _ else if _ then _ else _)=N:=h;rw[Xp g,Xq U]at z;show z
     rw[y07]at h';show zip_two.mpr ⟨_,_,R,by rw[zga];show h'.1,by rw[zga];show h'.2⟩
    .rw[Xp U];let h':(isPl u&&isPl i)=N:=by have z:(if _ then _ else if _ then _ else _)=N:=h;rw[Xp g,Xp U]at z;show z
     rw[y07]at h';show zip_two.mpr ⟨_,_,R,by rw[zgb];show h'.1,by rw[zgb];show h'.2⟩
 |neg e _ f =>
  intro n h d;cases n with
  |zero=>show Xa d<|y3f _
  |succ n =>
   simp only[formH,e,ztj];show zip_one.mpr ⟨_,R,by rw[zd2];show f h<|y38 d⟩
 |two L e _ _ y p =>
  rename_i s t _ _;intro n h d;cases n with
  |zero=>show Xa d<|y3f _
  |succ n =>
   let d':=Nat.max_le.mp<|y38 d;let h':(wfB s&&wfB t)=N:=h;rw[y07]at h';simp only[formH,e,zqg _ L];show zip_two.mpr ⟨_,_,R,by rw[zd2];show y h'.1 d'.1,by rw[zd2];show p h'.2 d'.2⟩
 |qu L e _ f =>
  rename_i nm _ s _;intro n h d;cases n with
  |zero=>show Xa d<|y3f _
  |succ n =>
   let h':(isName (.str nm)&&wfB s)=N:=h;rw[y07]at h';simp only[formH,e,zqf _ L];show zip_two.mpr ⟨_,_,R,by rw[zq9];show h'.1,by rw[zd2];show f h'.2<|y38 d⟩
def zfo(n:Nat):Sp:=λvs H Q _=>∃v s,vs=[v]/\Rep H v s/\s.depth<n/\∀H',Same H H'->Q (.int s.parts) H'
def AnySay(H:Hp)(v:V)(s:Sy):Prop:=Rep H v s/\wfB s=N/\s.depth<=12/\s.parts<=60
def zf9:Sp:=λvs H Q _=>∃v,vs=[v]/\Exp H 12 v/\∀b H',Same H H'->(b=N↔∃s,AnySay H v s)->Q (.bl b) H'
def zj2(K:Frag)(bw:List Str)(n:Nat):Sp:=λvs H Q _=>∃v a c s tl mo,vs=[v,.ref a,.ref c,.int (mo:Nat)]/\Rep H v s/\s.depth<n/\H a=G (.lst<|List.map V.str tl)/\tl.length+s.depth<=300/\(∀H,SqT K H c<|bw.map V.str)/\∀H',Same H H'->Q (.bl<|letB bw mo tl s) H'
def SayOk(H:Hp)(bw:List Str)(mo:Nat)(v u:V):Prop:=∃a tl s,u=.ref a/\H a=G (.lst<|List.map V.str tl)/\frameB (List.map V.str tl)=N/\AnySay H v s/\letB bw mo tl s=N
def znr(bw:List Str)(mo:Nat):Sp:=λvs H Q _=>∃v u,vs=[v,u]/\Exp H 12 v/\Thing H u/\(∀a xs,u=.ref a->H a=G 016->Things H xs)/\∀b H',Same H H'->(b=N↔SayOk H bw mo v u)->Q (.bl b) H'
structure Forms(K:Frag)(w:World)(fa:Ad):Prop where
 ex:∃f,DctK K w fa f/\∀x,(∃ss b,forms.lookup x=G ss/\f x=G 49/\∀H,SqT K H b<|List.map V.str ss)\/(forms.lookup x=B/\f x=B)
noncomputable def wordOf:Sy->Str
 |.bare w _ _=>w
 |.neg _=>"not"
 |.two w _ _=>w
 |.qu w _ _=>w
def letR(c:List Str)(d:Nat)(a:List Str):Sy->Bool
 |.bare _ n m=>decide (n∈a)&&decide (m∈a)
 |.neg s=>letB c d a s
 |.two _ s t=>letB c d a s&&letB c d a t
 |.qu _ n s=>decide (n∉a)&&letB c d (a++[n]) s
theorem letB_eq(bw:List Str)(mo:Nat)(tl:List Str)(s:Sy):letB bw mo tl s=(decide (tl.length<=mo)&&decide (wordOf s∉bw)&&letR bw mo tl s):=by cases s<;>rfl
theorem zp9(a:∀w n t,s ≠ .qu w n t)(U:s.isBare=Fa):letR bw mo tl s=s.inner.all (letB bw mo tl):=by
 cases s with
 |bare w n m=>cases U
 |neg s=>simp[Sy.inner,letR]
 |two w s t=>simp[Sy.inner,letR]
 |qu w n t=>show Xa R<|a w n t
theorem zde:∀(l:List Sy),((List.range l.length).map λi=>((l[i]?).map f).getD N).all id=l.all f
 |[]=>rfl
 |x::r=>by
  rw[y0j,y2s,y0t,y0o,y26,y26,←zde r];rfl
theorem zhy:∀{xs:List V},xs.all isName=N->∃tl:List Str,xs=tl.map V.str
 |[],_=>⟨[],R⟩
 |x::r,h=>by
  rw[y26,y07]at h;let(z,rfl):=ze2 h.1;let(tl,e):=zhy h.2;show⟨z::tl,by rw[y0t,←e]⟩
theorem frB_ex(h:frB H x=N):∃a tl,x=.ref a/\H a=G (.lst<|List.map V.str tl)/\frameB (List.map V.str tl)=N/\tl.length<=4:=by
 cases x with
 |ref a =>
  simp only[frB]at h;split at h
  .rename_i xs e;let h':=h;unfold frameB at h';rw[y07,y07,decide_eq_true_eq]at h';let(tl,rfl):=zhy h'.1.2;show⟨a,tl,R,e,h,by have:=h'.1.1;rw[y01]at this;show this⟩
  .cases h
 |_=>cases h
open L2
theorem znj:∀{a b:List PySem.Str},a.map V.str=b.map V.str->a=b
 |[],[],_=>rfl
 |[],_::_,h=>by cases h
 |_::_,[],h=>by cases h
 |x::a,y::b,h=>by
  rw[y0t,y0t,List.cons.injEq]at h;rw[V.str.inj h.1,znj h.2]
inductive Lit where
 |str (z:Str)
 |oth
 |tnil
 |tcons (x r:Lit)
 deriving DecidableEq
def Oth(H:Hp)(v:V):Prop:=∃k,Kd H v k/\k≠"str"/\k≠"tuple"
def LitAt(H:Hp):Lit->V->Prop
 |.str z,v=>v=.str z/\z.length<=1000
 |.oth,v=>Oth H v
 |.tnil,v=>∃a,v=.ref a/\H a=G (.tup [])
 |.tcons x r,v=>∃a y ys,v=.ref a/\H a=G (.tup (y::ys))/\ys.length<=100/\LitAt H x y/\Items H r ys
where Items (H:Hp):Lit->List V->Prop
 |.tcons x r,ys=>∃z w,ys=z::w/\LitAt H x z/\Items H r w
 |.tnil,ys=>ys=[]
 |_,_=>False
abbrev Items:=LitAt.Items
theorem Oth.same(g:Same H H')(h:Oth H v):Oth H' v:=let⟨k,z,r⟩:=h;⟨k,z.same g,r⟩
mutual
theorem LitAt.same(g:Same H H'):∀{l:Lit} {v:V},LitAt H l v->LitAt H' l v
 |.str z,_,h=>h
 |.oth,_,h=>Oth.same g h
 |.tnil,_,⟨a,e,h⟩=>⟨a,e,g _ _ h⟩
 |.tcons x r,_,⟨a,y,ys,e,h,Y,O,M⟩=>⟨a,y,ys,e,g _ _ h,Y,LitAt.same g O,Items.same g M⟩
theorem Items.same(g:Same H H'):∀{l:Lit} {ys:List V},Items H l ys->Items H' l ys
 |.tcons x r,_,⟨z,w,e,O,M⟩=>⟨z,w,e,LitAt.same g O,Items.same g M⟩
 |.tnil,_,h=>h
 |.str _,_,h=>h
 |.oth,_,h=>h
end
theorem LitAt.thing:∀{l:Lit} {v:V},LitAt H l v->Thing H v
 |.str z,_,⟨e,h⟩=>by subst e;show .str h
 |.oth,v,⟨k,h,O,_⟩=>⟨⟨k,h⟩,λz e=>by subst e;cases h;show Xa R O⟩
 |.tnil,_,⟨a,e,h⟩=>by subst e;show .tup h
 |.tcons x r,_,⟨a,y,ys,e,h,_,_,_⟩=>by subst e;show .tup h
mutual
theorem LitAt.exp:∀(n:Nat) {l:Lit} {v:V},LitAt H l v->Exp H n v
 |0,_,_,h=>h.thing
 |n+1,.str z,_,h=>⟨h.thing,λa xs e _=>by rw[h.1]at e;cases e⟩
 |n+1,.oth,v,h=>⟨h.thing,λa xs e c=>by
  subst e;let(k,j,_,M):=h;show Xa (j.inj<|.tup c) M⟩
 |n+1,.tnil,_,h=>⟨h.thing,λa xs e c=>by
  let(I,L,g):=h;rw[e]at L;cases L;rw[g]at c;cases c;show⟨y13 _,λx J=>nomatch J⟩⟩
 |n+1,.tcons x r,_,h=>⟨h.thing,λa xs e c=>by
  let(I,y,ys,L,g,Y,O,M):=h;rw[e]at L;cases L;rw[g]at c;cases c;apply⟨by rw[y0j];omega,λu J=>?_⟩;rcases y08.mp J with rfl|J
  .exact LitAt.exp n O
  .exact Items.exp n M u J⟩
theorem Items.exp:∀(n:Nat) {l:Lit} {ys:List V},Items H l ys->∀y∈ys,Exp H n y
 |n,.tcons x r,_,⟨z,w,e,O,M⟩,y,C=>by
  subst e;rcases y08.mp C with rfl|C
  .exact LitAt.exp n O
  .exact Items.exp n M y C
 |n,.tnil,_,h,y,C=>by rw[show _=[]from h]at C;show nomatch C
 |n,.str _,_,h,y,C=>False.elim h
 |n,.oth,_,h,y,C=>False.elim h
end
theorem zef(h:isNm (.str z) l=N):z.length<=4:=by
 let(c,r,e,Y,_):=nm_ex h;rw[zlq,e,y0j];omega
theorem zwz(h:isName (.str z)=N):z.length<=4:=(zp6 h).elim zef zef
theorem zlp:∀w∈bareWords,w.length<=1000:=by decide+kernel
theorem zu6(h:wfB (.bare w n m)=N):n.length<=4/\m.length<=4:=by
 let h':(if w=("in":Str)then isPl n&&isSt m else if w=("within":Str)then isSt n&&isSt m else isPl n&&isPl m)=N:=h;split at h'
 .rw[y07]at h';show⟨zef h'.1,zef h'.2⟩
 .split at h'
  .rw[y07]at h';show⟨zef h'.1,zef h'.2⟩
  .rw[y07]at h';show⟨zef h'.1,zef h'.2⟩
theorem Exp.str(h:z.length<=1000):∀n,Exp H n (.str z)
 |0=>Thing.str h
 |n+1=>⟨Thing.str h,λa xs e=>by cases e⟩
theorem Exp.tup(e:H a=G 015)(Y:xs.length<=1000)(h:∀x∈xs,Exp H n x):Exp H (n+1) 04 :=
 ⟨Thing.tup e,λI c o l=>by cases o;rw[e]at l;cases l;show⟨Y,h⟩⟩
theorem Rep.exp(r:Rep H v s):wfB s=N->∀n,Exp H n v:=by
 induction r with
 |bare L e =>
  intro h n;let(l1,l2):=zu6 h;cases n with
  |zero=>show Thing.tup e
  |succ n =>
   apply Exp.tup e 05 λx J=>?_;simp only[y08,y0n,or_false]at J;rcases J with rfl|rfl|rfl
   .exact Exp.str (zlp _ L) n
   .exact Exp.str 01 n
   .exact Exp.str 01 n
 |neg e _ f =>
  intro h n;cases n with
  |zero=>show Thing.tup e
  |succ n =>
   apply Exp.tup e 05 λx J=>?_;simp only[y08,y0n,or_false]at J;rcases J with rfl|rfl
   .exact Exp.str 48 n
   .exact f h n
 |two L e _ _ y p =>
  rename_i w _ _ s t _ _;intro h n;let h':(wfB s&&wfB t)=N:=h;rw[y07]at h';cases n with
  |zero=>show Thing.tup e
  |succ n =>
   apply Exp.tup e 05 λx J=>?_;simp only[y08,y0n,or_false]at J;rcases J with rfl|rfl|rfl
   .refine Exp.str ?_ n;let:∀w∈(["and","or"]:List Str),w.length<=1000:=by decide+kernel
    show this w L
   .exact y h'.1 n
   .exact p h'.2 n
 |qu L e _ f =>
  rename_i w nm _ s _;intro h n;let h':(isName (.str nm)&&wfB s)=N:=h;rw[y07]at h';cases n with
  |zero=>show Thing.tup e
  |succ n =>
   apply Exp.tup e 05 λx J=>?_;simp only[y08,y0n,or_false]at J;rcases J with rfl|rfl|rfl
   .refine Exp.str ?_ n;let:∀w∈(["some","all"]:List Str),w.length<=1000:=by decide+kernel
    show this w L
   .exact Exp.str (by have:=zwz h'.1;omega) n
   .exact f h'.2 n
theorem zf0{tl:List Str}(Y:tl.length<=1000)(h:∀z∈tl,z.length<=1000):Things H (tl.map V.str):=by
 apply⟨by rw[y01];show Y,λy C=>?_⟩;let(z,e,rfl):=y0h.mp C;show .str<|h z e
section
variable {K:Frag}{w:World}{h:Heap}{mg:Y1}
theorem sqt_mk(l:K.lookup p=G ⟨.type "tuple",M,.seq its n,y⟩)(z:its.size<=ii)(r:Vals xs its.toList):∀H,SqT K H p xs :=
 λH=>.inr ⟨_,its,n,l,R,R,z,r⟩
def Entry(K:Frag)(e:DictEntry)(p:Str×List Str):Prop:=(∃t,e.key=.str p.1 t)/\∃b,e.val=.ref b/\∀H,SqT K H b<|List.map V.str p.2
theorem zc9:∀{l:List DictEntry} {ps:List (Str×List Str)},i8 (Entry K) l ps->∀x,(∃c b,ps.lookup x=G c/\lu Va.isStrOf l.toArray x=G 49/\∀H,SqT K H b<|List.map V.str c)\/(ps.lookup x=B/\lu Va.isStrOf l.toArray x=B)
 |_,_,.nil,x=>.inr ⟨R,by simp[lu]⟩
 |e::l,p::ps,.cons ⟨⟨t,M⟩,b,o,U⟩ r,x=>by
  let f:=zc9 r x;unfold lu at f ⊢;rw[List.find?_toArray]at f ⊢;rw[y15,y2b];by_cases h:x=p.1
  .subst h;let L:Va.isStrOf p.1 e.key=N:=by rw[M];simp[Va.isStrOf]
   rw[L,beq_self_eq_true];show .inl ⟨_,b,R,congrArg G o,U⟩
  .let h':¬p.1=x:=λq=>h q.symm;let L:Va.isStrOf x e.key=Fa:=by rw[M];simp[Va.isStrOf,h']
   let g:(x==p.1)=Fa:=by simp[h]
   rw[L,g];show f
theorem forms_mk(X:K.In h)(Gq:h.Ns iu mg)(a:PySem.W.nsIn K iu "FORMS"=G (G 22))(lo:(p==iM)=Fa)(l:K.lookup p=G ⟨.type "dict",B,.dict C n,#[]⟩)
  (j:PySem.W.KeysLit w.params C.toList) (f:i8 (Entry K) C.toList forms):∃q,GlV mg "FORMS" (.ref q)/\Forms K w q:=by
 apply⟨p,⟨_,PySem.W.mg_of X Gq a,R⟩,⟨λx=>match lu Va.isStrOf C x with|some (.ref b)=>G 49|_=>B,⟨lo,C,n,l,j,λx=>?_⟩,λx=>?_⟩⟩
 .rcases zc9 f x with⟨c,b,L,g,_⟩|⟨L,g⟩
  .simp only[g];show R
  .simp only[g];show trivial
 .rcases zc9 f x with⟨c,b,L,g,U⟩|⟨L,g⟩
  .exact .inl ⟨c,b,L,by simp only[g],U⟩
  .exact .inr ⟨L,by simp only[g]⟩
end
end SS
namespace SM
structure Mc where
 w:Nat
 ways:List (List Nat)
 ends:List Bool
noncomputable abbrev mM:=Mc.mk
structure Mc.Ok(m:Mc):Prop where
 wid:m.w<=4
 pos:0<m.ends.length
 few:m.ends.length<=100
 len:m.ways.length=m.ends.length
 line:∀l∈m.ways,l.length=2^m.w
 room:∀l∈m.ways,∀r∈l,r<m.ends.length
abbrev Mc.n(m:Mc):Nat:=m.ends.length
def Mc.go(m:Mc)(r l:Nat):Nat:=(m.ways.getD r []).getD l 0
noncomputable def Mc.fin(m:Mc)(r:Nat):Bool:=m.ends.getD r Fa
theorem Mc.Ok.at{m:Mc}(ok:m.Ok)(D:r<m.ends.length)(Y:l<2^m.w):∃line,m.ways[r]?=G line/\line[l]?=G (m.go r l)/\m.go r l<m.ends.length:=by
 let O:r<m.ways.length:=by rw[ok.len];show D
 let L:m.ways[r]?=G m.ways[r]:=y00 O;let M:l<m.ways[r].length:=by rw[ok.line _<|y0c O];show Y
 let g:m.ways[r][l]?=G m.ways[r][l]:=y00 M;let d:m.go r l=m.ways[r][l]:=by
  simp only[Mc.go,y02,L,y17,g]
 show⟨_,L,by rw[d];show g,by rw[d];show ok.room _ (y0c O) _<|y0c M⟩
theorem Mc.Ok.go_lt{m:Mc}(ok:m.Ok)(D:r<m.n)(Y:l<2^m.w):m.go r l<m.n:=let⟨_,_,_,h⟩:=ok.at D Y;h
theorem Mc.fin_at{m:Mc}(D:r<m.ends.length):m.ends[r]?=G (m.fin r):=by
 unfold Mc.fin;rw[y02,y00 D,y17]
def Mc.run(m:Mc)(r:Nat)(row:List Nat):Nat:=row.foldl m.go r
def Mc.path(m:Mc):Nat->List Nat->List Nat
 |r,[]=>[r]
 |r,l::ls=>r::m.path (m.go r l) ls
theorem Mc.run_snoc(m:Mc)(r:Nat)(row:List Nat)(l:Nat):m.run r (row++[l])=m.go (m.run r row) l:=by unfold Mc.run;rw[y35];rfl
theorem Mc.run_cons(m:Mc)(r l:Nat)(row:List Nat):m.run r (l::row)=m.run (m.go r l) row:=rfl
theorem Mc.path_snoc(m:Mc):∀(row:List Nat) (r l:Nat),m.path r (row++[l])=m.path r row++[m.go (m.run r row) l]
 |[],r,l=>rfl
 |x::row,r,l=>by
  change r::m.path (m.go r x) (row++[l])=r::m.path (m.go r x) row++_;rw[path_snoc m row];rfl
theorem Mc.path_last(m:Mc):∀(row:List Nat) (r:Nat),∃y,m.path r row=y++[m.run r row]
 |[],r=>⟨[],R⟩
 |x::row,r=>by
  let(y,e):=path_last m row<|m.go r x;show⟨r::y,by change r::m.path (m.go r x) row=_;rw[e];rfl⟩
theorem Mc.path_len(m:Mc):∀(row:List Nat) (r:Nat),(m.path r row).length=row.length+1
 |[],r=>rfl
 |x::row,r=>by change(m.path (m.go r x) row).length+1=_;rw[path_len m row];rfl
theorem Mc.Ok.run_lt{m:Mc}(ok:m.Ok):∀(row:List Nat) (r:Nat),r<m.ends.length->(∀l∈row,l<2^m.w)->m.run r row<m.ends.length
 |[],r,h,_=>h
 |x::row,r,h,Y=>by
  let(_,_,_,M):=ok.at h<|Y x y0a;show run_lt ok row (m.go r x) M λl z=>Y l<|y06 _ z
theorem zmb(n:Nat):(2:Int)^n=((2^n:Nat):Int):=by
 induction n with
 |zero=>rfl
 |succ n f=>rw[Int.pow_succ,Nat.pow_succ,f];omega
theorem za6(h:w<=4):1<=2^w/\2^w<=16:=by
 let:w=0\/w=1\/w=2\/w=3\/w=4:=by omega
 rcases this with rfl|rfl|rfl|rfl|rfl<;>decide
theorem zrf{i wd:Int}(C:0<=i)(O:i<=1000)(L:wd<=4):0<=i*2^wd.toNat/\i*2^wd.toNat<=16000:=by
 let:wd.toNat=0\/wd.toNat=1\/wd.toNat=2\/wd.toNat=3\/wd.toNat=4:=by omega
 rcases this with e|e|e|e|e<;>rw[e]<;>constructor<;>omega
def Mc.Row(m:Mc)(row:List Nat):Prop:=∀l∈row,l<2^m.w
def Par(m:Mc)(r:Nat)(O:Mc)(r':Nat):Prop:=∀row,m.Row row->m.fin (m.run r row)=O.fin (O.run r' row)
theorem Mc.Row.cons{m:Mc}(Y:l<2^m.w)(h:m.Row row):m.Row (l::row):=λx J=>by
 rcases y08.mp J with rfl|J
 .exact Y
 .exact h x J
theorem Mc.Row.nil(m:Mc):m.Row []:=λ_ h=>nomatch h
theorem Par.go{m O:Mc}(h:Par m r O r')(Y:l<2^m.w):Par m (m.go r l) O (O.go r' l):=λrow D=>h (l::row)<|D.cons Y
theorem Par.symm(h:Par m r O r')(L:m.w=O.w):Par O r' m r:=λrow D=>(h row λl Y=>by rw[L];show D l Y).symm
theorem Par.trans(h:Par m r O r')(h':Par O r' a r'')(L:m.w=O.w):Par m r a r'':=λrow D=>(h row D).trans (h' row λl Y=>by rw[←L];show D l Y)
theorem Par.fin(h:Par m r O r'):m.fin r=O.fin r':=h []<|Mc.Row.nil m
theorem Par.of(Rq:Nat->Nat->Prop)(T:∀r r',Rq r r'->m.fin r=O.fin r')(j:∀r r' l,Rq r r'->l<2^m.w->Rq (m.go r l) (O.go r' l))(h:Rq r r'):Par m r O r':=λrow=>by
 induction row generalizing r r' with
 |nil=>showλ_=>T r r' h
 |cons l row f=>showλD=>f (j r r' l h<|D l y0a) λx J=>D x<|y06 _ J
def Lex(r' l' r l:Nat):Prop:=r'<r\/(r'=r/\l'<l)
structure Mc.Ord(m:Mc):Prop where
 grow:∀r l b,r<m.n->l<2^m.w->0<b->b<m.go r l->∃r' l',l'<2^m.w/\Lex r' l' r l/\m.go r' l'=b
 par:∀b,0<b->b<m.n->∃r' l',r'<b/\l'<2^m.w/\m.go r' l'=b
structure Canon(m:Mc):Prop where
 ord:m.Ord
 dist:∀i j,i<m.n->j<m.n->Par m i m j->i=j
theorem zia{i m2:Mc}(L:i.w=m2.w)(g:Canon m2)(a:Par i 0 m2 0)(c:r<m2.n)(M:m2.Ok)(Y:l<2^i.w)(s:Par i r m2 r)
  (d:∀r',r'<r->Par i r' m2 r'/\∀l,l<2^i.w->i.go r' l=m2.go r' l) (j:∀l',l'<l->i.go r l'=m2.go r l') (h:i.go r l<m2.go r l):False:=by
 let v:l<2^m2.w:=by rw[←L];show Y
 let U:=M.go_lt c v;let f:=s.go Y;let fin:Par i (i.go r l) m2 (i.go r l)->False:=λp=>by
  let q:=(p.symm L).trans f L.symm;let:=g.dist _ _ 01 U q;omega
 by_cases C:i.go r l=0
 .rw[C]at fin;show fin a
 .let(r',l',w,u,e):=g.ord.grow r l (i.go r l) c v 01 h;rw[←L]at w;rcases u with o|⟨rfl,o⟩
  .let(p,q):=d r' o;let z:=p.go w;rw[q l' w,e]at z;show fin z
  .let z:=s.go w;rw[j l' o,e]at z;show fin z
theorem zd7(L:i.w=m2.w)(H:i.Ok)(v:m2.Ok)(g:Canon i)(U:Canon m2)(a:Par i 0 m2 0)(r:Nat)(O:r<i.n)(M:r<m2.n):Par i r m2 r/\∀l,l<2^i.w->i.go r l=m2.go r l:=by
 induction r using Nat.strongRecOn with
 |_ r f =>
  let d:∀r',r'<r->Par i r' m2 r'/\∀l,l<2^i.w->i.go r' l=m2.go r' l:=λr' h=>f r' h 01 01;let s:Par i r m2 r:=by
   by_cases C:r=0
   .subst C;show a
   .let(r',l',I,w,e):=g.ord.par r 01 O;let(p,q):=d r' I;let z:=p.go w;rw[←q l' w,e]at z;show z
  apply⟨s,λl=>?_⟩
  induction l using Nat.strongRecOn with
  |_ l j =>
   intro Y;let c:∀l',l'<l->i.go r l'=m2.go r l':=λl' h=>j l' h 01;rcases Nat.lt_trichotomy (i.go r l) (m2.go r l)with h|h|h
   .exact(zia L U a M v Y s d c h).elim
   .exact h
   .refine(zia L.symm g (a.symm L) O H (by rw[←L];show Y) (s.symm L) (λr' I=>?_) (λl' w=>(c l' w).symm) h).elim;let(p,q):=d r' I;show⟨p.symm L,λl Y=>(q l<|by rw[L];show Y).symm⟩
theorem Mc.ext_go{i m2:Mc}(H:i.Ok)(v:m2.Ok)(w:i.w=m2.w)(I:i.n=m2.n)(j:∀r l,r<i.n->l<2^i.w->i.go r l=m2.go r l)(T:∀r,r<i.n->i.fin r=m2.fin r):i=m2:=by
 let L:i.ways=m2.ways:=by
  apply y2k (by rw[H.len,v.len];show I) λr O M=>?_;apply y2k (by rw[H.line _<|y0c O,v.line _<|y0c M,w]) λl A p=>?_;let D:r<i.n:=by rw[H.len]at O;show O
  let Y:l<2^i.w:=by rw[H.line _<|y0c O]at A;show A
  let:=j r l D Y;unfold Mc.go at this;simpa[y02,y00 O,y00 M,y00 A,y00 p]using this
 let g:i.ends=m2.ends:=by
  apply y2k I λr O M=>?_;let:=T r O;unfold Mc.fin at this;simpa[y02,y00 O,y00 M]using this
 cases i;cases m2
 simp_all
theorem zo3{i m2:Mc}(L:i.w=m2.w)(H:i.Ok)(v:m2.Ok)(g:Canon i)(U:Canon m2)(a:Par i 0 m2 0):m2.n<=i.n:=by
 apply y27 λh=>?_;let r:0<i.n:=H.pos;let(r',l',I,w,e):=U.ord.par i.n r h;let c:l'<2^i.w:=by rw[L];show w
 let z:=(zd7 L H v g U a r' I 01).2 l' c;let:=H.go_lt I c;omega
theorem zdb(L:i.w=m2.w)(H:i.Ok)(v:m2.Ok)(g:Canon i)(U:Canon m2)(a:Par i 0 m2 0):i=m2:=by
 let I:i.n=m2.n:=Nat.le_antisymm (zo3 L.symm v H U g<|a.symm L)<|zo3 L H v g U a;apply Mc.ext_go H v L I (λr l D Y=>(zd7 L H v g U a r D 01).2 l Y) λr D=>(zd7 L H v g U a r D 01).1.fin
def ix(xs:List Nat)(i:Nat):Nat:=xs.getD i 0
theorem zcw(h:i<xs.length):xs[i]?=G (ix xs i):=by
 unfold ix;rw[y02,y00 h,y17]
theorem zw5(h:xs[i]?=G v):ix xs i=v:=by unfold ix;rw[y02,h];rfl
theorem zej(h:i<xs.length):ix xs i∈xs:=y0k<|zcw h
theorem zi1(h:v∈xs):∃i,i<xs.length/\ix xs i=v:=by
 let(i,hi,e):=y1n h;show⟨i,hi,zw5<|by rw[y00 hi,e]⟩
theorem zyf(h:i<xs.length):ix (xs++ys) i=ix xs i:=by
 unfold ix;rw[y02,y02,y1c h]
theorem ztd(xs:List Nat)(v:Nat):ix (xs++[v]) xs.length=v:=by simp[ix]
theorem zye(I:xs.Nodup)(hi:i<xs.length)(U:j<xs.length)(e:ix xs i=ix xs j):i=j:=by
 let O:=zcw hi;rw[e,←zcw U]at O;show(List.getElem?_inj hi I).mp O
structure Come(m:Mc)(rooms:List Nat)(at' l:Nat):Prop where
 nd:rooms.Nodup
 zero:ix rooms 0=0
 pos:0<rooms.length
 lt:∀r∈rooms,r<m.n
 disc:∀b,0<b->b<rooms.length->∃r' l',r'<b/\l'<2^m.w/\Lex r' l' at' l/\m.go (ix rooms r') l'=ix rooms b
 clos:∀r l',r<rooms.length->l'<2^m.w->Lex r l' at' l->∃t,t<rooms.length/\ix rooms t=m.go (ix rooms r) l'/\
  ∀b,0<b->b<t->∃r'' l'',l''<2^m.w/\Lex r'' l'' r l'/\r''<rooms.length/\m.go (ix rooms r'') l''=ix rooms b
theorem Come.start(h:0<m.n):Come m [0] 0 0 :=
 ⟨by simp,R,by simp,λr D=>by rw[y0b.mp D];show h,λb C O=>by simp at O;omega,λr l' _ _ u=>by rcases u with z|⟨_,z⟩<;>omega⟩
theorem zoh(h:Lex r l' a<|l+1):Lex r l' a l\/(r=a/\l'=l):=by
 rcases h with h|⟨h,h'⟩
 .exact .inl<|.inl h
 .by_cases e:l'=l
  .exact .inr ⟨h,e⟩
  .exact .inl<|.inr ⟨h,by omega⟩
theorem zyb(h:Lex r l' a l):Lex r l' a (l+1):=h.imp id λ⟨h,h'⟩=>⟨h,by omega⟩
theorem Come.old(c:Come m rooms a l)(d:a<rooms.length)(j:m.go (ix rooms a) l∈rooms):Come m rooms a (l+1):=by
 apply⟨c.nd,c.zero,c.pos,c.lt,λb C O=>?_,λr l' D w u=>?_⟩
 .let(r',l',M,A,L,E):=c.disc b C O;show⟨r',l',M,A,zyb L,E⟩
 .rcases zoh u with u|⟨rfl,rfl⟩
  .exact c.clos r l' D w u
  .let(t,p,y):=zi1 j;apply⟨t,p,y,λb C O=>?_⟩;let(r',f,M,A,L,E):=c.disc b C 01;show⟨r',f,A,L,by omega,E⟩
theorem Come.new(c:Come m rooms a l)(d:a<rooms.length)(Y:l<2^m.w)(I:m.go (ix rooms a) l<m.n)(j:¬m.go (ix rooms a) l∈rooms):Come m (rooms++[m.go (ix rooms a) l]) a (l+1):=by
 let len:(rooms++[m.go (ix rooms a) l]).length=rooms.length+1:=by simp
 let up:∀{r:Nat},r<rooms.length->ix (rooms++[m.go (ix rooms a) l]) r=ix rooms r:=λh=>zyf h;apply⟨?_,by rw[up c.pos];show c.zero,by omega,λr D=>?_,λb o O=>?_,λr l' D w u=>?_⟩
 .refine y3o.mpr ⟨c.nd,by simp,λx J y C=>?_⟩;rw[y0b.mp C];intro e;rw[e]at J;show j J
 .rcases y0x.mp D with h|h
  .exact c.lt r h
  .rw[y0b.mp h];show I
 .by_cases U:b<rooms.length
  .let(r',l',M,A,L,E):=c.disc b o U;show⟨r',l',M,A,zyb L,by rw[up 01,up U];show E⟩
  .let e:b=rooms.length:=by omega
   subst e;show⟨a,l,d,Y,.inr ⟨R,by omega⟩,by rw[up d,ztd]⟩
 .rcases zoh u with u|⟨rfl,rfl⟩
  .let i:r<rooms.length:=by rcases u with z|⟨z,_⟩<;>omega
   let(t,p,q,g):=c.clos r l' i w u;apply⟨t,by omega,by rw[up p,up i];show q,λb o O=>?_⟩;let(r'',f,M,A,L,E):=g b o O;show⟨r'',f,M,A,by omega,by rw[up L,up 01];show E⟩
  .refine⟨rooms.length,by omega,by rw[ztd,up d],λb o O=>?_⟩;let(r',f,M,A,L,E):=c.disc b o O;show⟨r',f,A,L,by omega,by rw[up 01,up O];show E⟩
theorem Come.turn(c:Come m rooms a<|2^m.w):Come m rooms (a+1) 0:=by
 let up:∀{r l:Nat},l<2^m.w->Lex r l (a+1) 0->Lex r l a (2^m.w):=λ{r l} Y u=>by
  rcases u with z|⟨_,z⟩
  .by_cases e:r=a
   .exact .inr ⟨e,Y⟩
   .exact .inl 01
  .omega
 apply⟨c.nd,c.zero,c.pos,c.lt,λb C O=>?_,λr l' D w u=>c.clos r l' D w<|up w u⟩;let(r',l',M,A,L,E):=c.disc b C O;apply⟨r',l',M,A,?_,E⟩;rcases L with z|⟨z,_⟩
 .exact .inl 01
 .exact .inl 01
theorem zdm:∀{xs:List Nat} {n:Nat},xs.Nodup->(∀x∈xs,x<n)->xs.length<=n
 |xs,0,_,h=>by cases xs with|nil=>show y05 _|cons x r=>show Xa (h x y0a)<|y2z _
 |xs,n+1,I,h=>by
  let O:(xs.erase n).length<=n:=zdm (I.erase n) λx J=>by
   let M:=h x<|List.mem_of_mem_erase J;let A:x≠n:=λe=>by rw[e]at J;show(List.Nodup.not_mem_erase I) J
   omega
  by_cases Y:n∈xs
  .let M:=y41 Y;let A:=y46 Y;omega
  .rw[List.erase_of_not_mem Y]at O;omega
def picked(m:Mc)(rooms:List Nat)(g:Nat->Nat):Mc:=⟨m.w,rooms.map λr=>(m.ways.getD r []).map g,rooms.map m.fin⟩
theorem zcs(m:Mc)(rooms:List Nat)(g:Nat->Nat):(047).n=rooms.length:=by simp[picked,Mc.n]
theorem zhr(m:Mc)(g:Nat->Nat)(h:i<rooms.length):(047).fin i=m.fin (ix rooms i):=by
 unfold picked Mc.fin;simp only[y02,y03];rw[zcw h];rfl
theorem zkc{m:Mc}(ok:m.Ok){rooms:List Nat}(g:Nat->Nat)(h:i<rooms.length)(D:ix rooms i<m.n)(Y:l<2^m.w):(047).go i l=g (m.go (ix rooms i) l):=by
 let(line,L,q,M):=ok.at D Y;let w:m.ways.getD (ix rooms i) []=line:=by rw[y02,L];rfl
 unfold picked;rw[Mc.go];simp only[y02,y03];rw[zcw h];simp only[y20,y17];rw[L];simp only[y17,y03];rw[q];rfl
theorem zkb{m:Mc}(ok:m.Ok){rooms:List Nat}(C:0<rooms.length)(T:rooms.length<=100)(D:∀r∈rooms,r<m.n)(j:∀r l,r∈rooms->l<2^m.w->g (m.go r l)<rooms.length):(047).Ok:=by
 apply⟨ok.wid,by simpa[picked]using C,by simpa[picked]using T,by simp[picked],λline Y=>?_,λline Y x J=>?_⟩
 .let(r,L,rfl):=y0h.mp Y;let O:r<m.ways.length:=by rw[ok.len];show D r L
  rw[y01,y02,y00 O,y17];show ok.line _<|y0c O
 .let(r,L,rfl):=y0h.mp Y;let(y,o,rfl):=y0h.mp J;let O:r<m.ways.length:=by rw[ok.len];show D r L
  rw[y02,y00 O,y17]at o;let(l,M,q):=y1n o;rw[ok.line _<|y0c O]at M;let A:=j r l L M;let(line,z,u,_):=ok.at (D r L) M;rw[y00 O]at z;cases z;rw[y00 (by rw[ok.line _<|y0c O];show M),q]at u;cases u;simpa[picked]using A
theorem zgv(ok:m.Ok)(c:Come m rooms rooms.length 0)(j:∀i,i<rooms.length->g (ix rooms i)=i):
  (047).Ok/\(047).Ord/\Par m 0 047 0/\rooms.length<=m.n:=by
 let v:rooms.length<=m.n:=zdm c.nd c.lt;let o:∀{i:Nat},i<rooms.length->ix rooms i<m.n:=λh=>c.lt _<|zej h;let clo:∀r l,r<rooms.length->l<2^m.w->∃t,t<rooms.length/\ix rooms t=m.go (ix rooms r) l/\∀b,0<b->b<t->∃r'' f,f<2^m.w/\Lex r'' f r l/\r''<rooms.length/\m.go (ix rooms r'') f=ix rooms b :=
  λr l D Y=>c.clos r l D Y<|.inl D
 let x:∀{i l:Nat},i<rooms.length->l<2^m.w->∀t,t<rooms.length->m.go (ix rooms i) l=ix rooms t->(047).go i l=t:=λhi Y t p e=>by
  rw[zkc ok g hi (o hi) Y,e];show j t p
 apply⟨zkb ok c.pos (by have:m.n<=100:=ok.few;omega) c.lt λr l d Y=>?_,⟨λr l b D Y C U=>?_,λb C U=>?_⟩,?_,v⟩
 .let(i,hi,rfl):=zi1 d;let(t,p,y,_):=clo i l hi Y;rw[←y,j t p];show p
 .rw[zcs]at D;let(t,p,y,a):=clo r l D Y;rw[x D Y t p y.symm]at U;let(r'',f,O,M,A,L):=a b C U;show⟨r'',f,O,M,x A O b 01 L⟩
 .rw[zcs]at U;let(r',l',O,M,A,L):=c.disc b C U;show⟨r',l',O,M,x 01 M b U L⟩
 .refine Par.of (λr i=>i<rooms.length/\ix rooms i=r) (λr i ⟨hi,e⟩=>?_) (λr i l ⟨hi,e⟩ Y=>?_) ⟨c.pos,c.zero⟩
  .rw[zhr m g hi,e]
  .let(t,p,y,_):=clo i l hi Y;rw[x hi Y t p y.symm,←e];show⟨p,y⟩
structure Srt(ns:List Nat):Prop where
 grow:∀i,i<ns.length->∀b,b<ix ns i->∃j,j<i/\ix ns j=b
theorem Srt.le(h:Srt ns)(i:Nat)(hi:i<ns.length):ix ns i<=i:=by
 induction i using Nat.strongRecOn with
 |_ i f =>
  by_cases C:ix ns i=0
  .omega
  .let(j,U,e):=h.grow i hi (ix ns i-1) 01;let:=f j U 01;omega
theorem zxy(hs:Srt s)(T:Srt f)(Y:s.length=f.length)(ref:∀i j,i<s.length->j<s.length->ix f i=ix f j->ix s i=ix s j):∀v i,i<s.length->ix s i=v->v<=ix f i
 |0,_,_,_=>y13 _
 |v+1,i,hi,e=>by
  let I:=zxy hs T Y ref v;apply y27 λo=>?_;let g:∀j,j<i->ix s j=v->False:=λj=>by
   induction j using Nat.strongRecOn with
   |_ j d =>
    intro U w;let O:=I j 01 w;let M:ix f j≠ix f i:=λz=>by have:=ref j i 01 hi z;omega
    let(k,E,p):=T.grow j 01 (ix f i) 01;let A:=ref k i 01 hi p;let(a,l,c):=hs.grow k 01 v 01;show d a 01 01 c
  let(j,U,w):=hs.grow i hi v 01;show g j U w
theorem zxw:∀{s f:List Nat},s.length=f.length->(∀i,i<s.length->ix s i<=ix f i)->s.sum<=f.sum/\(s.sum=f.sum->s=f)
 |[],[],_,_=>⟨y05 _,λ_=>rfl⟩
 |[],_::_,h,_=>by simp at h
 |_::_,[],h,_=>by simp at h
 |x::s,y::f,h,g=>by
  let O:=g 0 05;let M:x<=y:=O;let(A,L):=zxw (s:=s) (f:=f) (by simpa using h) λi hi=>by
   let:=g (i+1) (by simpa using hi);simpa[ix]using this
  apply⟨by simp only[y2x];omega,λe=>?_⟩;simp only[y2x]at e;rw[show x=y by omega,L 01]
theorem zjs:∀{s:List Nat} {n:Nat},(∀x∈s,x<=n)->s.sum<=s.length*n
 |[],n,_=>by simp
 |x::s,n,h=>by
  let O:=h x y0a;let M:=zjs (s:=s) (n:=n) λy C=>h y<|y06 _ C;simp only[y2x,y0j,Nat.succ_mul];omega
structure Sorts(m:Mc)(ns:List Nat):Prop where
 srt:Srt ns
 len:ns.length=m.n
 fin:∀i j,i<m.n->j<m.n->ix ns i=ix ns j->m.fin i=m.fin j
 sep:∀i j,i<m.n->j<m.n->Par m i m j->ix ns i=ix ns j
def Stable(m:Mc)(ns:List Nat):Prop:=∀i j l,i<m.n->j<m.n->l<2^m.w->ix ns i=ix ns j->ix ns (m.go i l)=ix ns (m.go j l)
structure Firsts(ns fs:List Nat):Prop where
 lt:∀s,s<fs.length->ix fs s<ns.length
 is:∀s,s<fs.length->ix ns (ix fs s)=s
 le:∀s j,s<fs.length->j<ns.length->ix ns j=s->ix fs s<=j
 all:∀i,i<ns.length->ix ns i<fs.length
theorem quotient{m:Mc}(ok:m.Ok)(ord:m.Ord){ns fs:List Nat}(S:Sorts m ns)(st:Stable m ns)(F:Firsts ns fs):
  (picked m fs<|ix ns).Ok/\Canon (picked m fs<|ix ns)/\Par m 0 (picked m fs<|ix ns) 0/\fs.length<=m.n:=by
 let o:∀{s:Nat},s<fs.length->ix fs s<m.n:=λh=>by rw[←S.len];show F.lt _ h
 let C:0<fs.length:=by have:=F.all 0 (by rw[S.len];show ok.pos);omega
 let all:∀{i:Nat},i<m.n->ix ns i<fs.length:=λh=>F.all _ (by rw[S.len];show h);let mono:∀{a b:Nat},a<fs.length->b<fs.length->a<b->ix fs a<ix fs b:=λ{a b} d U hab=>by
  let e:=F.is b U;let(j,hj,ej):=S.srt.grow (ix fs b) (F.lt b U) a 01;let:=F.le a j d (by have:=F.lt b U;omega) ej;omega
 let J:∀{a b:Nat},a<fs.length->b<fs.length->ix fs a<ix fs b->a<b:=λ{a b} d U h=>by
  rcases Nat.lt_trichotomy a b with z|z|z
  .exact z
  .subst z;omega
  .let:=mono U d z;omega
 let v:fs.length<=m.n:=by
  let O:=F.is (fs.length-1) 01;let M:=o (s:=fs.length-1) 01;let A:=S.srt.le _ (by rw[S.len];show M);omega
 let x:∀{s l:Nat},s<fs.length->l<2^m.w->(picked m fs<|ix ns).go s l=ix ns (m.go (ix fs s) l):=λhs Y=>zkc ok _ hs (o hs) Y;let T:∀{i l:Nat},i<m.n->l<2^m.w->(picked m fs<|ix ns).go (ix ns i) l=ix ns (m.go i l):=λ{i l} hi Y=>by
  rw[x (all hi) Y];show st _ _ l (o<|all hi) hi Y<|F.is _ (all hi)
 let hok:(picked m fs<|ix ns).Ok:=zkb ok C (by have:m.n<=100:=ok.few;omega) (λr L=>by let(s,hs,rfl):=zi1 L;show o hs) λr l L Y=>by
  let(s,hs,rfl):=zi1 L;show all<|ok.go_lt (o hs) Y
 let par:∀{i:Nat},i<m.n->Par m i (picked m fs<|ix ns) (ix ns i):=λ{i} hi=>by
  apply Par.of (λr s=>r<m.n/\s=ix ns r) (λr s ⟨D,e⟩=>?_) (λr s l ⟨D,e⟩ Y=>?_) ⟨hi,R⟩
  .rw[e,zhr m _<|all D];show S.fin _ _ D (o<|all D) (F.is _<|all D).symm
  .exact⟨ok.go_lt D Y,by rw[e,T D Y]⟩
 apply⟨hok,⟨⟨λs l b hs Y U g=>?_,λb U y=>?_⟩,λi j hi hj p=>?_⟩,?_,v⟩
 .rw[zcs]at hs;rw[x hs Y]at g;let ht:=ok.go_lt (o hs) Y;let d:=all ht;let H:b<fs.length:=by omega
  let O:ix fs b<m.go (ix fs s) l:=by
   let M:=mono H d g;let A:=F.le _ _ d (by rw[S.len];show ht) rfl;omega
  let Q:0<ix fs b:=by
   let:=F.is b H;by_cases z:ix fs b=0
   .let E:=S.srt.le 0 (by rw[S.len];show ok.pos);rw[z]at this;omega
   .omega
  let(r',l',w,u,e):=ord.grow (ix fs s) l (ix fs b) (o hs) Y Q O;let I:r'<m.n:=by have:=o hs;rcases u with z|⟨z,_⟩<;>omega
  apply⟨ix ns r',l',w,?_,by rw[T I w,e];show F.is b H⟩;rcases u with z|⟨z,f⟩
  .refine .inl<|J (all I) hs ?_;let:=F.le _ r' (all I) (by rw[S.len];show I) rfl;omega
  .exact .inr ⟨by rw[z];show F.is s hs,f⟩
 .rw[zcs]at y;let Q:0<ix fs b:=by
   let:=F.is b y;by_cases z:ix fs b=0
   .let E:=S.srt.le 0 (by rw[S.len];show ok.pos);rw[z]at this;omega
   .omega
  let(r',l',I,w,e):=ord.par (ix fs b) Q<|o y;let c:r'<m.n:=by have:=o y;omega
  apply⟨ix ns r',l',J (all c) y ?_,w,by rw[T c w,e];show F.is b y⟩;let:=F.le _ r' (all c) (by rw[S.len];show c) rfl;omega
 .rw[zcs]at hi hj;let p1:=par<|o hi;let p2:=par<|o hj;rw[F.is i hi]at p1;rw[F.is j hj]at p2;let q:Par m (ix fs i) m (ix fs j):=(p1.trans p R).trans (p2.symm R) rfl;let z:=S.sep _ _ (o hi) (o hj) q;rw[F.is i hi,F.is j hj]at z;show z
 .let p:=par ok.pos;let e:ix ns 0=0:=by have:=S.srt.le 0 (by rw[S.len];show ok.pos);omega
  rw[e]at p;show p
structure Num{α:Type}(marks:List α)(ns:List Nat):Prop where
 len:ns.length=marks.length
 eq:∀i j a b,marks[i]?=G a->marks[j]?=G b->(ix ns i=ix ns j↔a=b)
 srt:Srt ns
theorem zlw{m:Mc}(Nq:Num m.ends ns):Sorts m ns:=by
 apply⟨Nq.srt,Nq.len,λi j hi U e=>?_,λi j hi U p=>?_⟩
 .exact(Nq.eq i j _ _ (Mc.fin_at hi)<|Mc.fin_at U).mp e
 .exact(Nq.eq i j _ _ (Mc.fin_at hi)<|Mc.fin_at U).mpr p.fin
def markOf(m:Mc)(ns:List Nat)(i:Nat):List Nat:=ix ns i::(m.ways.getD i []).map (ix ns)
theorem mark_eq(ok:m.Ok)(hi:i<m.n)(U:j<m.n):markOf m ns i=markOf m ns j↔ix ns i=ix ns j/\∀l,l<2^m.w->ix ns (m.go i l)=ix ns (m.go j l):=by
 let O:i<m.ways.length:=by rw[ok.len];show hi
 let M:j<m.ways.length:=by rw[ok.len];show U
 let a:=ok.line _<|y0c O;let L2:=ok.line _<|y0c M;unfold markOf;rw[List.cons.injEq];apply and_congr_right λ_=>?_;unfold Mc.go;simp only[y02,y00 O,y00 M,y17];apply⟨λe l Y=>?_,λh=>?_⟩
 .let z:=congrArg (λq=>q[l]?) e;simp only[y03]at z;rw[y00 01,y00 01]at z ⊢;simpa using z
 .refine y2k (by rw[y01,y01,a,L2]) λl A L=>?_;rw[y01]at A L;let z:=h l 01;rw[y00 A,y00 L]at z;rw[y3v,y3v];simpa using z
theorem zho{m:Mc}(ok:m.Ok){ns fs:List Nat}(S:Sorts m ns)(Nq:Num ((List.range m.n).map<|markOf m ns) fs):Sorts m fs/\(∀i j,i<ns.length->j<ns.length->ix fs i=ix fs j->ix ns i=ix ns j)/\(fs=ns->Stable m ns):=by
 let at':∀{i:Nat},i<m.n->((List.range m.n).map<|markOf m ns)[i]?=G (markOf m ns i):=λh=>by rw[y03,y0p h];rfl
 let eq:∀{i j:Nat},i<m.n->j<m.n->(ix fs i=ix fs j↔ix ns i=ix ns j/\∀l,l<2^m.w->ix ns (m.go i l)=ix ns (m.go j l)):=λhi U=>(Nq.eq _ _ _ _ (at' hi)<|at' U).trans<|mark_eq ok hi U;apply⟨⟨Nq.srt,by rw[Nq.len];simp,λi j hi U e=>S.fin i j hi U ((eq hi U).mp e).1,λi j hi U p=>(eq hi U).mpr ⟨S.sep i j hi U p,λl Y=>S.sep _ _ (ok.go_lt hi Y) (ok.go_lt U Y)<|p.go Y⟩⟩,λi j hi U e=>?_,λe i j l hi U Y h=>?_⟩
 .rw[S.len]at hi U;show((eq hi U).mp e).1
 .subst e;show((eq hi U).mp h).2 l Y
theorem zpe(S:Sorts m ns)(S':Sorts m fs)(ref:∀i j,i<ns.length->j<ns.length->ix fs i=ix fs j->ix ns i=ix ns j)(ne:fs≠ns):ns.sum<fs.sum/\fs.sum<=m.n*m.n:=by
 let Y:ns.length=fs.length:=by rw[S.len,S'.len]
 let(O,M):=zxw Y λi hi=>zxy S.srt S'.srt Y ref _ i hi rfl;apply⟨Nat.lt_of_le_of_ne O λe=>ne (M e).symm,?_⟩;let A:=zjs (s:=fs) (n:=m.n) λx J=>by
  let(i,hi,rfl):=zi1 J;let:=S'.srt.le i hi;let:=S'.len;omega
 rw[S'.len]at A;show A
section
variable {α:Type}[DecidableEq α]
def news:List α->List α->List α
 |acc,[]=>acc
 |acc,x::r=>news (if x∈acc then acc else acc++[x]) r
theorem zgk:∀(xs acc:List α) (x:α),news acc (xs++[x])=if x∈news acc xs then news acc xs else news acc xs++[x]
 |[],acc,x=>rfl
 |y::r,acc,x=>zgk r _ x
theorem zb4:∀(xs acc:List α) (x:α),x∈news acc xs↔x∈acc\/x∈xs
 |[],acc,x=>by simp[news]
 |y::r,acc,x=>by
  unfold news;rw[zb4 r _ x];by_cases h:y∈acc
  .rw[Xq h];simp only[y08];apply⟨λz=>z.imp id .inr,λz=>z.elim .inl λz=>z.elim (λe=>.inl<|e▸h) .inr⟩
  .rw[Xp h];simp only[y0x,y08,y0n,or_false];show or_assoc
theorem zmo:∀(xs acc:List α),acc.Nodup->(news acc xs).Nodup
 |[],acc,h=>h
 |y::r,acc,h=>by
  unfold news;apply zmo r _ ?_;by_cases C:y∈acc
  .rw[Xq C];show h
  .rw[Xp C];apply y3o.mpr ⟨h,by simp,λa d b U=>?_⟩;rw[y0b.mp U];intro e;show C<|e▸d
theorem zfu:∀(xs acc:List α),(news acc xs).length<=acc.length+xs.length
 |[],acc=>by simp[news]
 |y::r,acc=>by
  unfold news;let:=zfu r<|if y∈acc then acc else acc++[y];by_cases C:y∈acc
  .rw[Xq C]at this ⊢;simp only[y0j];omega
  .rw[Xp C]at this ⊢;simp only[y0e,y0j,y1e]at this ⊢;omega
theorem zdo:∀(xs acc:List α),∃t,news acc xs=acc++t
 |[],acc=>⟨[],by simp[news]⟩
 |y::r,acc=>by
  unfold news;let(t,e):=zdo r<|if y∈acc then acc else acc++[y];by_cases C:y∈acc
  .rw[Xq C]at e ⊢;show⟨t,e⟩
  .rw[Xp C]at e ⊢;show⟨[y]++t,by rw[e,y2e]⟩
theorem zof:∀(xs ys acc:List α),news acc (xs++ys)=news (news acc xs) ys
 |[],ys,acc=>rfl
 |x::r,ys,acc=>zof r ys _
noncomputable def nOf(ds:List α)(x:α):Nat:=ds.idxOf x
noncomputable def nxt(ds:List α)(x:α):List α:=if x∈ds then ds else ds++[x]
theorem zsv{ds:List α}{x:α}(h:x∈ds):nxt ds x=ds:=Xq h
theorem zmm{ds:List α}{x:α}(h:¬x∈ds):nxt ds x=ds++[x]:=Xp h
theorem zwy(xs:List α)(x:α):news [] (xs++[x])=nxt (news [] xs) x:=zgk xs [] x
theorem zkr{xs:List α}(h:xs[i]?=G x):news [] (xs.take<|i+1)=nxt (news []<|xs.take i) x:=by rw[y14,h,y1x,zwy]
theorem zi4{xs ys:List α}(h:x∈xs):(xs++ys).idxOf x=xs.idxOf x:=by rw[List.idxOf_append,Xq h]
theorem zx7(marks:List α):Num marks (marks.map<|nOf (news [] marks)):=by
 change Num marks (marks.map λx=>(news [] marks).idxOf x);let at':∀{i:Nat} {a:α},marks[i]?=G a->ix (marks.map λx=>(news [] marks).idxOf x) i=(news [] marks).idxOf a:=λh=>zw5 (by rw[y03,h];rfl);let mem:∀{a:α},a∈marks->a∈news [] marks:=λh=>(zb4 marks [] _).mpr<|.inr h;apply⟨y01 _,λi j a b d U=>?_,⟨λi hi b U=>?_⟩⟩
 .rw[at' d,at' U];apply⟨λe=>?_,λe=>by rw[e]⟩;let O:=y1f.mpr<|mem (y0k d);let M:=y1f.mpr<|mem (y0k U);let L:=y2o O;let g:=y2o M;rw[←L,←g];congr 1
 .rw[y01]at hi;let J:marks[i]?=G marks[i]:=y00 hi;rw[at' J]at U;let em:marks=marks.take i++marks[i]::marks.drop (i+1):=by rw[←y34 hi,y3d]
  let r:news [] marks=news (if marks[i]∈news [] (marks.take i)then news [] (marks.take i)else news [] (marks.take i)++[marks[i]]) (marks.drop<|i+1):=by
   conv=>lhs;rw[em]
   rw[zof];rfl
  let(t,y):=zdo (marks.drop<|i+1)<|if marks[i]∈news [] (marks.take i)then news [] (marks.take i)else news [] (marks.take i)++[marks[i]];rw[←r]at y;let H:b<(news []<|marks.take i).length:=by
   by_cases c:marks[i]∈news [] (marks.take i)
   .rw[Xq c]at y;rw[y,zi4 c]at U;let:=y1f.mpr c;omega
   .rw[Xp c]at y;rw[y,zi4 05,List.idxOf_append,Xp c]at U;simp at U;omega
  let s:∃t',news [] marks=news [] (marks.take i)++t':=by
   by_cases c:marks[i]∈news [] (marks.take i)
   .rw[Xq c]at y;show⟨t,y⟩
   .rw[Xp c]at y;show⟨[marks[i]]++t,by rw[y,y2e]⟩
  let(t',f):=s;let Y:(news []<|marks.take i)[b]∈marks.take i:=by
   rcases(zb4 (marks.take i) [] _).mp (y0c H)with h|h
   .exact nomatch h
   .exact h
  let(j,u,w):=y1n Y;rw[y0w]at u;rw[List.getElem_take]at w;apply⟨j,by omega,?_⟩;let l:marks[j]?=G (news []<|marks.take i)[b]:=by rw[y00 01,w]
  rw[at' l,f,zi4<|y0c H];show List.Nodup.idxOf_getElem (zmo _ _ y3h) b H
end
theorem idx_le:∀(ns:List Nat) (s j:Nat),ns[j]?=G s->ns.idxOf s<=j
 |[],_,_,h=>by simp at h
 |x::ns,s,0,h=>by
  simp only[y43,Option.some.injEq]at h;subst h;simp
 |x::ns,s,j+1,h=>by
  simp only[y1r]at h;let f:=idx_le ns s j h;rw[y2n];cases J:x==s with
  |true=>simp
  |false=>simp;omega
theorem zon(h:s∈ns):ns.idxOf s<ns.length/\ix ns (ns.idxOf s)=s:=by
 let O:=y1f.mpr h;show⟨O,zw5<|by rw[y00 O,y2o O]⟩
theorem ztq(S:Srt ns)(c:M∈ns)(v:∀a∈ns,a<=M):Firsts ns ((List.range<|M+1).map λs=>ns.idxOf s)/\∀s,s<=M->s∈ns:=by
 let mem:∀s,s<=M->s∈ns:=λs hs=>by
  by_cases e:s=M
  .rw[e];show c
  .let(i,hi,l):=zi1 c;let(j,U,w):=S.grow i hi s 01;rw[←w];show zej 01
 let at':∀{s:Nat},s<M+1->ix ((List.range<|M+1).map λs=>ns.idxOf s) s=ns.idxOf s:=λ{s} h=>zw5 (by rw[y03,y0p h];rfl);let len:((List.range<|M+1).map λs=>ns.idxOf s).length=M+1:=by simp
 apply⟨⟨λs hs=>?_,λs hs=>?_,λs j hs U e=>?_,λi hi=>?_⟩,mem⟩
 .rw[len]at hs;rw[at' hs];show(zon<|mem s 01).1
 .rw[len]at hs;rw[at' hs];show(zon<|mem s 01).2
 .rw[len]at hs;rw[at' hs];show idx_le ns s j (by rw[zcw U,e])
 .rw[len];let:=v _<|zej hi;omega
structure Red(m m':Mc):Prop where
 ok:m'.Ok
 w:m'.w=m.w
 canon:Canon m'
 par:Par m 0 m' 0
 le:m'.n<=m.n
theorem red_of(ok:m.Ok)(c:Come m rooms rooms.length 0)(j:∀i,i<rooms.length->g (ix rooms i)=i)(S:Sorts 047 ns)(st:Stable 047 ns)(F:Firsts ns fs):
  Red m (picked 047 fs<|ix ns):=by
 let(H,a,r,l1):=zgv ok c j;let(v,U,p2,l2):=quotient H a S st F;apply⟨v,R,U,r.trans p2 R,?_⟩;rw[zcs]at l2 ⊢;omega
def turned(m:Mc):Mc:=⟨m.w,m.ways,m.ends.map λb=>!b⟩
theorem zq0(ok:m.Ok):(turned m).Ok:=by
 let e:(turned m).ends.length=m.ends.length:=y01 _;apply⟨ok.wid,?_,?_,?_,ok.line,λl Y r D=>?_⟩
 .rw[e];show ok.pos
 .rw[e];show ok.few
 .rw[e];show ok.len
 .rw[e];show ok.room l Y r D
theorem zpa(m:Mc)(r:Nat)(row:List Nat):(turned m).run r row=m.run r row:=rfl
theorem zpb{m:Mc}{r:Nat}(h:r<m.n):(turned m).fin r=!m.fin r:=by
 let e:=Mc.fin_at h;unfold turned Mc.fin;rw[y02,y03,e];rfl
open PySem PySem.Spec PyProof.Rows L2 SS
noncomputable abbrev nV(n:Nat):V:=.int (n:Int)
def Line(H:Hp)(v:V)(l:List Nat):Prop:=∃a,v=.ref a/\H a=G (.tup<|l.map nV)
def RepM(H:Hp)(a:Ad)(m:Mc):Prop:=∃(b c:Ad) (rs:List V),H a=G (.tup [nV m.w,.ref b,.ref c])/\H b=G (.tup rs)/\i8 (Line H) rs m.ways/\H c=G (.tup<|m.ends.map V.bl)
theorem Line.ts(h:Line H v l)(g:TupS H H'):Line H' v l:=let⟨a,e,z⟩:=h;⟨a,e,g _ _ z⟩
theorem RepM.ts(h:RepM H a m)(g:TupS H H'):RepM H' a m:=by
 let(b,c,rs,O,M,A,L):=h;show⟨b,c,rs,g _ _ O,g _ _ M,L2.Paired.mapP A λ_ _ z=>z.ts g,g _ _ L⟩
theorem RepM.same(h:RepM H a m)(g:Same H H'):RepM H' a m:=h.ts g.tups
theorem Paired.at2:∀{xs:List D} {ys:List p} {i:Nat} {y:p},i8 Rq xs ys->ys[i]?=G y->∃x,xs[i]?=G x/\Rq x y
 |_,_,_,_,.nil,h=>by simp at h
 |_,_,0,_,.cons h _,e=>by simp at e;subst e;show⟨_,R,h⟩
 |_,_,i+1,_,.cons _ h,e=>by simp only[y1r]at e ⊢;show Paired.at2 h e
theorem Paired.snoc:∀{xs:List D} {ys:List p} {x:D} {y:p},i8 Rq xs ys->Rq x y->i8 Rq (xs++[x]) (ys++[y])
 |_,_,_,_,.nil,h=>.cons h .nil
 |_,_,_,_,.cons h t,z=>.cons h<|Paired.snoc t z
theorem zyn:∀{ys:List V},(∀y∈ys,∃b,y=V.bl b)->∃bs:List Bool,ys=bs.map V.bl
 |[],_=>⟨[],R⟩
 |y::ys,h=>by
  let(b,rfl):=h y y0a;let(bs,rfl):=zyn λz hz=>h z<|y06 _ hz;show⟨b::bs,R⟩
def zxz(K:Frag):Sp:=λvs H Q _=>∃(a:Ad) (ns:List Int) (k y:Int),vs=[.ref a,.int k,.int y]/\SqL K H a 034/\0<=k/\k<1000000/\∀r:Int,0<=r->Q (.int r) H
def zhj(K:Frag):Sp:=λvs H Q _=>∃(a:Ad) (ns:List Int) (wd n y:Int),vs=[.ref a,.int wd,.int n,.int y]/\SqL K H a 034/\0<=wd/\wd<=4/\1<=n/\n<=30/\
 ∀p m H',Same H H'->RepM H' p m->m.Ok->(m.w:Int)=wd->(m.ends.length:Int)=n->Q 22 H'
def znm:Sp:=λvs H Q _=>∃(r n:Int),vs=[.int r,.int n]/\0<=r/\r<n/\Q (.bl N) H
def zlu(K:Frag):Sp:=λvs H Q _=>∃(a b:Ad) (m:Mc) (row:List Nat),vs=[.ref a,.ref b]/\RepM H a m/\m.Ok/\SqL K H b (row.map nV)/\(∀l∈row,l<2^m.w)/\row.length<=300/\
 ∀D H',H D=B->Same H H'->H' D=G (.lst<|(m.path 0 row).map nV)->Q 65 H'
def znn(K:Frag):Sp:=λvs H Q _=>∃(a b:Ad) (m:Mc) (row:List Nat),vs=[.ref a,.ref b]/\RepM H a m/\m.Ok/\SqL K H b (row.map nV)/\(∀l∈row,l<2^m.w)/\row.length<=300/\
 ∀H',Same H H'->Q (.bl<|m.fin 032) H'
theorem zgm(l:List Nat):l.map nV=(l.map λ(n:Nat)=>(n:Int)).map V.int:=by rw[y0o];rfl
theorem zb0:∀{xs:List D} {ys:List p},xs.length=ys.length->(∀(j:Nat) x y,xs[j]?=G x->ys[j]?=G y->Rq x y)->i8 Rq xs ys
 |[],[],_,_=>.nil
 |[],_::_,h,_=>by simp at h
 |_::_,[],h,_=>by simp at h
 |x::xs,y::ys,h,f=>.cons (f 0 x y R R)<|zb0 (by simpa using h) λj a b L g=>f (j+1) a b (by simpa using L) (by simpa using g)
theorem nodup_map_on{D p:Type}{f:D->p}:∀{l:List D},(∀a∈l,∀b∈l,f a=f b->a=b)->l.Nodup->(l.map f).Nodup
 |[],_,_=>y3h
 |x::l,h,I=>by
  rw[y1k]at I;rw[y0t,y1k];apply⟨λz=>?_,nodup_map_on (λa d b U=>h a (y06 _ d) b<|y06 _ U) I.2⟩;let(y,o,e):=y0h.mp z;let:=h y (y06 _ o) x y0a e;rw[this]at o;show I.1 o
theorem zfd:∀{a b:List Nat},(a.map λ(n:Nat)=>(n:Int))=(b.map λ(n:Nat)=>(n:Int))->a=b
 |[],[],_=>rfl
 |[],_::_,h=>nomatch h
 |_::_,[],h=>nomatch h
 |x::a,y::b,h=>by
  rw[y0t,y0t,List.cons.injEq]at h;rw[zfd h.2,show x=y by have:=h.1;omega]
theorem zoo(k:Nat):∀ns:List Nat,(ns.map λ(n:Nat)=>(n:Int)).idxOf (k:Int)=ns.idxOf k
 |[]=>rfl
 |x::ns=>by
  rw[y0t,y2n,y2n,zoo k ns];by_cases h:x=k
  .subst h;simp
  .let O:(x==k)=Fa:=by simp[h]
   let M:((x:Int)==(k:Int))=Fa:=by simp;omega
   rw[O,M]
def Lk(H:Hp)(b:Ad)(l:List Nat)(g:Nat->Nat):Prop :=
 (∃kvs:List<|Key×V,H b=G (.dK kvs)/\∀r∈l,valV kvs (.inl (r:Int))=G (nV<|g r))\/∃ns:List Nat,H b=G (.lst<|ns.map nV)/\∀r∈l,ns[r]?=G (g r)
theorem Lk.same(h:Lk H b l g)(s:Same H H'):Lk H' b l g:=by
 rcases h with⟨kvs,e,z⟩|⟨ns,e,z⟩
 .exact .inl ⟨kvs,s _ _ e,z⟩
 .exact .inr ⟨ns,s _ _ e,z⟩
def zhi:Sp:=λvs H Q _=>∃(a:Ad) (m:Mc),vs=[.ref a]/\RepM H a m/\m.Ok/\∀D rooms H',H D=B->Same H H'->H' D=G (.lst<|rooms.map nV)->Come m rooms rooms.length 0->Q 65 H'
def zet:Sp:=λvs H Q _=>∃(a b:Ad) (l:List Nat) (g:Nat->Nat),vs=[.ref a,.ref b]/\H a=G (.tup<|l.map nV)/\l.length<=16/\Lk H b l g/\∀p H',Same H H'->H' p=G (.tup<|(l.map g).map nV)->Q 22 H'
def zjw:Sp:=λvs H Q _=>∃(a b c:Ad) (m:Mc) (rooms:List Nat) (g:Nat->Nat),vs=[.ref a,.ref b,.ref c]/\RepM H a m/\m.Ok/\H b=G (.lst<|rooms.map nV)/\rooms.length<=100/\(∀r∈rooms,r<m.n)/\
 (∀r∈rooms,Lk H c (m.ways.getD r []) g)/\∀p H',Same H H'->RepM H' p 047->Q 22 H'
def zjy:Sp:=λvs H Q _=>∃(a:Ad) (bs:List Bool),vs=[.ref a]/\H a=G (.tup<|bs.map V.bl)/\bs.length<=100/\∀D ns H',H D=B->Same H H'->H' D=G (.lst<|ns.map nV)->Num bs ns->Q 65 H'
def zjx:Sp:=λvs H Q _=>∃(a:Ad) (rs:List V) (ms:List<|List Nat),vs=[.ref a]/\H a=G (.lst rs)/\i8 (Line H) rs ms/\ms.length<=100/\∀D ns H',H D=B->Same H H'->H' D=G (.lst<|ns.map nV)->Num ms ns->Q 65 H'
def zd0:Sp:=λvs H Q E=>zjy vs H Q E\/zjx vs H Q E
def zns:Sp:=λvs H Q _=>∃(a b:Ad) (m:Mc) (ns:List Nat),vs=[.ref a,.ref b]/\RepM H a m/\m.Ok/\H b=G (.lst<|ns.map nV)/\Sorts m ns/\
 ∀D fs H',H D=B->Same H H'->H' D=G (.lst<|fs.map nV)->Num ((List.range m.n).map<|markOf m ns) fs->Q 65 H'
section
variable {α κ:Type}[DecidableEq α][DecidableEq κ]
def tabF(J:α->κ):Nat->List α->List (κ×V)
 |_,[]=>[]
 |n,x::r=>(J x,nV n)::tabF J (n+1) r
theorem zjr(J:α->κ):∀(ds:List α) (n:Nat) (d:α),tabF J n (ds++[d])=tabF J n ds++[(J d,nV<|n+ds.length)]
 |[],n,d=>rfl
 |x::r,n,d=>by
  change(J x,nV n)::tabF J (n+1) (r++[d])=_;rw[zjr J r];change _=(J x,nV n)::(tabF J (n+1) r++[(J d,nV<|n+(r.length+1))]);rw[show n+1+r.length=n+(r.length+1) by omega]
theorem zdh(J:α->κ):∀(ds:List α) (n:Nat),(tabF J n ds).length=ds.length
 |[],_=>rfl
 |x::r,n=>by change(tabF J (n+1) r).length+1=r.length+1;rw[zdh J r]
theorem zid{J:α->κ}(inj:∀a b,J a=J b->a=b)(x:α):∀(ds:List α) (n:Nat),valV (tabF J n ds) (J x)=if x∈ds then G (nV<|n+ds.idxOf x)else B
 |[],n=>by simp[tabF,znf]
 |y::r,n=>by
  change valV ((J y,nV n)::tabF J (n+1) r) (J x)=_;by_cases h:y=x
  .subst h;rw[zbg R,Xq y0a];simp
  .rw[zbh λe=>h<|inj _ _ e,zid inj x r<|n+1];let e:(x∈y::r)↔x∈r:=by simp[y08,Ne.symm h]
   by_cases D:x∈r
   .rw[Xq D,Xq<|e.mpr D,y2n,show(y==x)=Fa by simp[h],cond_false,show n+1+r.idxOf x=n+(r.idxOf x+1) by omega]
   .rw[Xp D,Xp λz=>D<|e.mp z]
theorem zer{J:α->κ}(inj:∀a b,J a=J b->a=b){x:α}{ds:List α}(h:x∈ds):valV (tabF J 0 ds) (J x)=G (nV<|nOf ds x):=by
 rw[zid inj x ds 0,Xq h,y49];rfl
theorem zfl{J:α->κ}(inj:∀a b,J a=J b->a=b){x:α}{ds:List α}(h:¬x∈ds):valV (tabF J 0 ds) (J x)=B:=by
 rw[zid inj x ds 0,Xp h]
theorem zie{J:α->κ}(inj:∀a b,J a=J b->a=b){x:α}{ds:List α}(h:¬x∈ds):putK (tabF J 0 ds) (J x) (V.int ((tabF J 0 ds).length:Int))=tabF J 0 (ds++[x]):=by
 rw[zn1 _<|zfl inj h,zjr,zdh,y49]
end
def keyB(b:Bool):Key:=.inl<|blI b
def keyL(l:List Nat):List Key:=l.map λ(n:Nat)=>(Sum.inl (n:Int):Key)
theorem zfv(a b:Bool)(e:keyB a=keyB b):a=b:=blI_inj<|Sum.inl.inj e
theorem zb6:∀(a b:List Nat),keyL a=keyL b->a=b
 |[],[],_=>rfl
 |[],_::_,h=>nomatch h
 |_::_,[],h=>nomatch h
 |x::a,y::b,h=>by
  rw[keyL,keyL,y0t,y0t,List.cons.injEq]at h;rw[zb6 a b h.2];let e:(x:Int)=(y:Int):=Sum.inl.inj h.1;rw[show x=y by omega]
theorem zkx(l:List Nat):(keyL l).map kV=l.map nV:=by unfold keyL;rw[y0o];rfl
def knT(rooms:List Nat):List (Key×V):=rooms.map λ(r:Nat)=>((Sum.inl (r:Int):Key),V.bl N)
theorem knT_len(rooms:List Nat):(knT rooms).length=rooms.length:=y01 _
theorem zmu(r:Nat):∀rooms:List Nat,valV (knT rooms) (.inl (r:Int))=if r∈rooms then G (V.bl N)else B
 |[]=>by simp[knT,znf]
 |x::rooms=>by
  change valV (((Sum.inl (x:Int):Key),V.bl N)::knT rooms) (.inl (r:Int))=_;by_cases h:x=r
  .subst h;rw[zbg R,Xq y0a]
  .rw[zbh λe=>h (by have:=Sum.inl.inj e;omega),zmu r rooms];let e:(r∈x::rooms)↔r∈rooms:=by simp[y08,Ne.symm h]
   by_cases D:r∈rooms
   .rw[Xq D,Xq<|e.mpr D]
   .rw[Xp D,Xp λz=>D<|e.mp z]
theorem knT_put{r:Nat}{rooms:List Nat}(h:¬r∈rooms):putK (knT rooms) (.inl (r:Int)) (V.bl N)=knT (rooms++[r]):=by
 rw[zn1 _<|by rw[zmu,Xp h]];simp[knT]
theorem TupS.wrT(h:H p=G (.dT kvs))(o:HO):TupS H (upd H p o):=λb ys e=>by rw[zak<|zsx e h (by intro z;cases z)];show e
end SM
namespace L2
theorem zjb{pos Q:Pos}(l:List Va)(h:TriplesOk l):jx Q (l++[i9 pos.line,i9 pos.col,v])=match jx Q l with
  |some x=>G x
  |none=>if((pos.line:Int)==(Q.line:Int)&&(pos.col:Int)==(Q.col:Int))=N then G v else B:=by
 fun_induction TriplesOk l with
 |case1=>simp[jx,i9]
 |case2 a t b u x rest f =>
  simp only[y1u,jx];split
  .rfl
  .exact f h
 |case3 l O M=>show h.elim
def TabOk(H:Hp)(P:Ad)(qs:Y3):Prop:=∃ps:Array Va,H P=G (.tbl qs ps)
theorem TabOk.same(T:TabOk H P qs)(g:Same H H'):TabOk H' P qs:=let⟨ps,h⟩:=T;⟨ps,g _ _ h⟩
def KCode(K:Frag)(c P:Ad):Prop:=∃o vs f p d a j text q,K.lookup c=G o/\o.cls=.type "code"/\o.data=.fields vs/\vs[11]?=G (.ref P)/\vs.getD 11 .none=.ref P/\vs.getD 18 .none=.str f p/\
 vs.getD 7 .none=.int d a/\vs.getD 9 .none=.bool j/\vs.getD 10 .none=.int text q/\c≠P
section
variable {X:Cx}{pins:Y2}{σ:St}{H:Hp}{s:ig}
theorem fn_code(I:02 H s)(C:X.env.code=.ref c)(kc:KCode X.K c P)
  (T:TabOk H P qs) (O:(pos,qual)∈qs) (hone:∀p∈qs,p.1.line=pos.line->p.1.col=pos.col->p.2=qual)
  (h:∀c' o H' s',02 H' s'->H' c'=G (.frz o<|.own c')->CodeObj o qual->Same H H'->Q (.ref c') s') :
  wpAny 36 X.A (functionCode X.env pos line name qual params scope body) Q E s:=by
 let(ps0,l):=T;let(i,hop,htr,hcs):=I.hok P _ l;let(oc,vs,file,tf,dg,tg,inF,text,tt,lk,a6,hd,h11',h11,h18,h7,h9,h10,aq):=kc;let D:s.heap.get? c=G oc:=I.kIn c oc lk;generalize A:ps0++i=ps at hop htr hcs;cases hf:jx pos ps.toList with
 |some v =>
  let(c',o,rfl,d,co):=hcs _ O v hf;unfold functionCode codeAt;rw[C,Xp<|show¬((Va.ref c==Va.none)=N)from y0i];apply ia<|jH D hd ?_;rw[h11];apply ia<|jH hop R ?_;rw[hf];show ib<|h c' o H s I d co λ_ _ e=>e
 |none =>
  let ic:s.heap.IsCode c P ps:=⟨oc,vs,file,tf,dg,tg,inF,text,tt,_,D,hd,h11,h18,h7,h9,h10,hop,R,htr,aq⟩;apply wpAny_functionCodeX C ic ⟨⟨oc,vs,D,a6,hd,h11'⟩,hop⟩ hf λc' h' r J hge a8 hic hrec qw _=>?_;let(c₂,f,c9,t',e,d,j,o0):=hrec;cases e;let nPn:∀b,H b=B->b≠P:=λb e z=>by rw[z,l]at e;cases e
  let hcn:H c'=B:=I.hok.fresh hge;let nc:∀b u,H b=G u->b≠c':=λb u e z=>by rw[z,hcn]at e;cases e
  let nP:∀b u,H b=G u->(∀a b,u ≠ .tbl a b)->b≠P:=λb u e n z=>by rw[z,l]at e;cases e;show n _ _ R
  let up:∀b u,H b=G u->upd H c' (.frz f<|.own c') b=G u:=λb u e=>by rw[zak<|nc b u e];show e
  let co:CodeObj f qual:=⟨c9,t',j,o0⟩;let y:02 (upd H c'<|.frz f (.own c')) {s with heap:=h',toks:=r}:=by
   apply I.un ⟨λb o e n _ _=>J b o (nPn b n) e,λb o e n _ _=>⟨o.slots,J b o (nPn b n) e⟩,λb o e n _=>?_,λb o e _=>?_,λb xs e=>up b _ e,λb o u e=>up b _ e,λb qs ps e=>up b _ e⟩ λb u e=>?_
   .rw[zak<|y0m (y0q (y0g e) hge)];show n
   .by_cases U:b=P
    .subst U;show⟨_,qw.2⟩
    .exact⟨o,J b o U e⟩
   .by_cases U:b=c'
    .subst U;rw[zao]at e;cases e;show⟨d,_,d⟩
    .rw[zak U]at e;by_cases hbP:b=P
     .subst hbP;rw[l]at e;cases e;let Y:(ps++#[i9 pos.line,i9 pos.col,Va.ref c']).toList=ps.toList++[i9 pos.line,i9 pos.col,.ref c']:=by simp
      let g:ps0++(i++#[i9 pos.line,i9 pos.col,Va.ref c'])=ps++#[i9 pos.line,i9 pos.col,Va.ref c']:=by rw[←Array.append_assoc,A]
      apply⟨i++#[i9 pos.line,i9 pos.col,.ref c'],by rw[g];show qw.2,by rw[g,Y];show TriplesOk_snoc _ _ _ _ htr,λp hp v e=>?_⟩;rw[g,Y,zjb _ htr]at e;cases hv:jx p.1 ps.toList with
      |some x =>
       rw[hv]at e;cases e;let(c1,o1,L,g,M):=hcs p hp _ hv;show⟨c1,o1,L,up c1 _ g,M⟩
      |none =>
       rw[hv]at e;simp only at e;split at e
       .rename_i hh;cases e;rw[y07]at hh;let L:pos.line=p.1.line:=by have:=hh.1;simp at this;omega
        let g:pos.col=p.1.col:=by have:=hh.2;simp at this;omega
        show⟨c',f,R,zao,by rw[hone p hp L.symm g.symm];show co⟩
       .cases e
     .refine(I.hok b u e).stay (λc w C q=>J c w ?_ q) (λc q=>up c _ q) (λc _ _ _ _ q=>up c _ q) λc xs q=>up c _ q;rcases C with rfl|C
      .exact hbP
      .exact nP c _ C λ_ _ z=>nomatch z
  show h c' f _ _ y zao co up
def cloFd(name qual:Str)(params:iN)(body:lA)(scope:Scope)(cl:Y4)(ct cd p:Va):i6 :=
 {name,qualname:=qual,params,body,scope,globals:=iu,closure:=cl,closureTuple:=ct,code:=cd,builtins:=jh,defaults:=.none,kwdefaults:=.none,annotations:=B,pyModule:=p,doc:=.none}
def BltK(base:Heap)(mg:Y1):Prop:=∃bm o,mg "__builtins__"=G (.ref bm)/\bm≠jh/\base.get? bm=G o/\o.cls=.type "module"/\o.dict=G jh/\o.data=.plain
def NoDoc:lA->Prop
 |.stmts b=>docOf b=B
 |.expr _=>True
structure Made(X:Cx)(H H':Hp)(name qual:Str)(params:iN)(body:lA)(scope:Scope)(f:Ad):Prop where
 old:Same H H'
 new:H f=B
 ex:∃cl ct c' oc pm,(∀x c,cl.lookup x=G c->X.env.cells.lookup x=G c)/\(∀p∈scope.names,p.2=.free->∃c,cl.lookup p.1=G c)/\H' c'=G (.frz oc<|.own c')/\CodeObj oc qual/\
  H' f=G (.frz {cls:=.type "function",data:=.func (cloFd name qual params body scope cl ct (.ref c') pm)} (.own f))
theorem zms(I:02 H s)(C:X.env.code=.ref c)(r:KCode X.K c P)(q:BltK X.base X.mg)
  (g:∀p∈scope.names,p.2=.free->X.env.kindOf p.1=G .cell\/X.env.kindOf p.1=G .free) (nd:NoDoc body)
  (T:TabOk H P qs) (O:(pos,qual)∈qs) (i:∀p∈qs,p.1.line=pos.line->p.1.col=pos.col->p.2=qual)
  (h:∀f H' s',02 H' s'->Made X H H' name qual params body scope f->Q 52 s') :
  wpAny 36 X.A (makeFunction name qual params body scope X.env [] [] [] pos line) Q E s:=by
 let(cl,U,A,dw):=zh6 (scope:=scope) (env:=X.env) λp hp hf=>I.ok.has p.1<|g p hp hf;let(bm,ob,b1,d,v,x,b5,J):=q;let tail:∀(ct:Va) (s1:ig),02 H s1->wpAny 36 X.A (do
   let fd:i6:={name,qualname:=qual,params,body,scope,globals:=X.env.globals,closure:=cl,closureTuple:=ct,code:=←functionCode X.env pos line name qual params scope body,builtins:=←builtinsFor X.env.globals X.env.builtins,defaults:=.none,kwdefaults:=.none,annotations:=B,pyModule:=(←nsGet X.env.globals "__name__").getD .none,doc:=←match body with|.stmts b=>(match docOf b with|some s=>mkText s|none=>pure .none)|.expr _=>pure .none}
   newObj (.type "function") (.func fd)) Q E s1:=by
  intro ct s1 I1;apply ia<|fn_code I1 C r T O i λc' oc H' s' y L co up=>?_;let j:s'.heap.Ns X.env.globals X.mg:=by rw[y.ok.glob];show y.mod.glob.keeps y.bk
  apply ia<|wpAny_builtinsFor j b1 d (y.bk bm ob v) x b5 J ?_;apply ia<|wpAny_nsGet j ?_;let fin:wpAny 36 X.A (newObj (.type "function")<|.func {name,qualname:=qual,params,body,scope,globals:=X.env.globals,closure:=cl,closureTuple:=ct,code:=.ref c',builtins:=jh,defaults:=.none,kwdefaults:=.none,annotations:=B,pyModule:=(X.mg "__name__").getD .none,doc:=.none}) Q E s':=by
   apply i7 ?_ (by size_fits);rw[y.ok.glob];let w:H' s'.heap.objs.size=B:=y.fresh;let M:H s'.heap.objs.size=B:=by
    cases e:H s'.heap.objs.size with
    |none=>rfl
    |some u=>rw[up _ u e]at w;cases w
   let D:∀b u,H' b=G u->b≠s'.heap.objs.size:=λb u e z=>by rw[z,w]at e;cases e
   let l:=y.laid (a:=s'.heap.objs.size) (o:=.frz {cls:=.type "function",data:=.func (cloFd name qual params body scope cl ct (.ref c')<|(X.mg "__name__").getD .none)} (.own s'.heap.objs.size)) (t':=s'.toks)
    (h':=s'.heap.push {cls:=.type "function",data:=.func (cloFd name qual params body scope cl ct (.ref c')<|(X.mg "__name__").getD .none)}) (λb u e=>y04 _ e) 08 ⟨y0d _ R,_,y0d _ R⟩
   apply h _ _ _ l ⟨λb u e=>by rw[zak<|D b u (up b u e)];show up b u e,M,cl,ct,c',oc,_,A,dw,by rw[zak<|D c' _ L];show L,co,zao⟩
  cases body with
  |expr e=>show ia<|ib fin
  |stmts b =>
   let Y:docOf b=B:=nd;apply ia ?_;change wpAny _ _ (match docOf b with|some s=>mkText s|none=>pure .none) _ _ _;rw[Y];show ib fin
 rw[makeFunction_eq];simp only[List.isEmpty_nil,if_true,List.zip_nil_right,List.filterMap_nil];apply ia<|ib (ia<|ib (ia<|ib ?_));unfold makeTail;rw[U];apply ia<|ib ?_;change wpAny _ _ (if cl.isEmpty=N then _ else _) _ _ _;by_cases he:cl.isEmpty=N
 .rw[Xq he];show ia<|ib (tail .none s I)
 .rw[Xp he];apply ia<|wpAny_newTextTuple ?_;show(tail _ _<|I.kept (t':=s.toks) λb o e=>y04 _ e)
end
noncomputable def fnO(fd:i6)(f:Ad):HO:=.frz {cls:=.type "function",data:=.func fd} (.own f)
def Frz(H H':Hp):Prop:=∀b o u,H b=G (.frz o u)->H' b=G (.frz o u)
theorem Frz.refl(H:Hp):Frz H H:=λ_ _ _ e=>e
theorem Frz.trans(a:Frz H H1)(b:Frz H1 H2):Frz H H2:=λc o u e=>b c o u<|a c o u e
theorem Same.frz(g:Same H H'):Frz H H':=λb o u e=>g _ _ e
def CloH(P:ik)(w:World)(K:Frag)(mg:Y1)(base:Heap)(k:Nat)(H:Hp)(f:Ad)(n:Nat)(sp:Sp):Prop :=
 ∀(A:io) (outer:List Env) (s:ig) (H':Hp) (us:List Va) (vs:List V) (Q:VK),Room k A->Env0 P w K mg base A outer s H'->Frz H H'->Vals vs us->vs.length=n->sp vs H' Q E0->
  jc 81 A (.call 52 025) (CR CX0 outer P w H' s Q E0) s
theorem CloH.mono{P:ik}{w:World}{K:Frag}{mg:Y1}{base:Heap}{k:Nat}{H H1:Hp}{f:Ad}{n:Nat}{sp:Sp}(c:CloH P w K mg base k H f n sp)(g:Frz H H1):CloH P w K mg base k H1 f n sp :=
 λA outer s H' us vs Q D J E=>c A outer s H' us vs Q D J<|g.trans E
def tCallV(P:ik)(w:World)(K:Frag)(mg:Y1)(base:Heap)(k n:Nat)(sp:Sp)(i:Nat)(t:TA):TE:=λσ H Q=>∃f fd,σ[i]?=G (G 52)/\H f=G (fnO fd f)/\
 t σ H λvs H1=>H1 f=G (fnO fd f)/\CloH P w K mg base k H1 f n sp/\vs.length=n/\sp vs H1 Q E0
theorem zi0(f:Ad)(fd:i6):PySem.W.keepIn [068] 52=N:=by
 unfold PySem.W.keepIn;simp[List.lookup]
theorem zv7{X:Cx}{x:Str}{i k n:Nat}{sp:Sp}{p pos:Pos}{e:Expr}{es:List Expr}{t:TA}(hN:X.Nq[i]?=G x)(hv:Vis X.env.scope x)(D:Room k X.A)(d:PA X (e::es) t)
  (hd:012=Fa:=by decide) (hcd:056=Fa:=by decide) (v:im (e::es) X.env=041::im es X.env:=by rfl) (z:(052).any (·.1)=Fa:=by rfl) :
  PE X 029 (tCallV X.prog X.w X.K X.mg X.base k n sp i t):=by
 intro pins s σ H Q I h;let(f,fd,hs,T,h):=h;infer_instance;let(L,g):=zq;subst L g;cases(show u=Va.ref f from r1);let j:∀{H2:Hp} {s2:ig},02 H2 s2->H2 f=G (fnO fd f)->PySem.W.Frag.In [068] s2.heap:=λ{H2 s2} l y a o e=>by
  simp only[List.lookup]at e;split at e
  .rename_i q;cases e;rw[beq_iff_eq.mp q];show(l.hok f _ y).1
  .cases e
 apply PySem.W.callWith_K (K:=[068]) (h₀:=s1.heap) (j I1 T) (zi0 f fd) (thn (d pos pins s1 σ H1 _ I1 h) λus s2 ⟨vs,H2,l,r,y,c,Y,q⟩=>⟨j l y,?_⟩) v z;apply ji<|iH (c X.A X.stack s2 H2 us vs Q D l.env0 (Frz.refl _) r Y q) λr s' O=>?_;cases r with
 |error e=>show False.elim O
 |ok w =>
  cases w with
  |ret u=>show l.after O
  |next=>show False.elim O
  |brk=>show False.elim O
  |cont=>show False.elim O
def tDef(X:Cx)(P:Ad)(qs:Y3)(name qual:Str)(params:iN)(body:lA)(scope:Scope)(j:Nat):TS:=λD σ H=>TabOk H P qs/\∀f H',Made X H H' name qual params body scope f->D.nx (σ.set j<|G 52) H'
def tLam(X:Cx)(P:Ad)(qs:Y3)(name qual:Str)(params:iN)(body:lA)(scope:Scope):TE:=λσ H Q=>TabOk H P qs/\∀f H',Made X H H' name qual params body scope f->Q 52 H'
section
variable {X:Cx}{c P:Ad}{qs:Y3}{pos:Pos}{name qual:Str}{params:iN}{scope:Scope}
theorem zr0(C:X.env.code=.ref c)(r:KCode X.K c P)(q:BltK X.base X.mg)(g:∀p∈scope.names,p.2=.free->X.env.kindOf p.1=G .cell\/X.env.kindOf p.1=G .free)
  (O:(pos,qual)∈qs) (i:∀p∈qs,p.1.line=pos.line->p.1.col=pos.col->p.2=qual) (hd:params.defaults=[]) (j:params.kw_defaults=[]) (a:X.env.qual++"<lambda>"=qual) :
  PE X (.Lambda params body scope pos) (tLam X P qs "<lambda>" qual params (.expr body) scope):=by
 intro pins s σ H Q I h;let(T,h):=h;rw[arm_eval_Lambda];let o:defaultsOf params X.env=([],[]):=by rw[defaultsOf_eq,hd,j];rfl
 simp only[o];apply ia<|ib (ia<|ir (ib ?_));rw[a];show zms I C r q g trivial T O i λf H' s' y M=>⟨.ref f,H',y,R,h f H' M⟩
theorem zzd(C:X.env.code=.ref c)(r:KCode X.K c P)(q:BltK X.base X.mg)(g:∀p∈scope.names,p.2=.free->X.env.kindOf p.1=G .cell\/X.env.kindOf p.1=G .free)(nd:docOf body=B)
  (O:(pos,qual)∈qs) (i:∀p∈qs,p.1.line=pos.line->p.1.col=pos.col->p.2=qual) (hd:params.defaults=[]) (E:params.kw_defaults=[]) (d:∀e,annTrees params B e=[]) (a:ly X.env name name=qual)
  (hN:X.Nq.Nodup) (U:X.Nq[j]?=G name) (J:X.env.scope.names.lookup name=G .local):PS X 079 083:=by
 intro pins s σ H D I h;let(T,h):=h;rw[exec_def];let o:defaultsOf params X.env=([],[]):=by rw[defaultsOf_eq,hd,E];rfl
 simp only[o,d,a];apply ia<|je (ia<|ir (ia<|ib (ia<|ir (ib<|ir (ia<|ib ?_)))));apply zms I C r q g nd T O i λf H' s' y M=>ia<|je (ia<|wpAny_bindName ?_);show zcn y hN U (.inl J) (v:=.ref f) R (λs2 l=>ib ⟨_,H',l,h f H' M⟩)<|.inr J
end
def CellOf(X:Cx)(b:Ad):Prop:=∃x,X.env.cells.lookup x=G b
def Adopted(X:Cx)(σ:St)(H Hq:Hp):Prop:=(∀b,¬CellOf X b->Hq b=H b)/\(∀b,CellOf X b->H b=B)/\(∀x y c,X.env.cells.lookup x=G c->X.env.cells.lookup y=G c->x=y)/\∀x c,X.env.cells.lookup x=G c->∃o v,Hq c=G 020/\o.data=.cell v/\
 ∀(i:Nat) y,X.Nq[i]?=G x->σ[i]?=G (G y)->(X.env.kindOf x=G .cell\/X.env.kindOf x=G .free)->∃u,RelV y u/\v=G u
open Classical in
noncomputable def dropX(X:Cx)(H:Hp):Hp:=λb=>if CellOf X b then B else H b
def tCallA(X:Cx)(sp:Sp)(t:TA):TE:=λσ H Q=>t σ H λvs H1=>∀Hq,Adopted X σ H1 Hq->sp vs Hq (λv H2=>Q v<|dropX X H2) E0
theorem zv9{X:Cx}{k:Nat}{f:Ad}{fd:i6}{ps:List Str}{sp:Sp}{x:Str}{p pos:Pos}{e:Expr}{es:List Expr}{t:TA}(F:FnOk X.prog X.w X.K X.mg X.base CX0 k f fd ps sp)(D:Room k X.A)(hg:Gl X x)(hm:X.mg x=G 52)(j:PySem.W.keepIn X.K 52=N)(U:Binds X.K fd ps [])
  (hfn:∀x,X.fn x=N) (ha:PA X (e::es) t) (w:012=Fa:=by decide) (he:im (e::es) X.env=041::im es X.env:=by rfl) (ar:(052).any (·.1)=Fa:=by rfl) :
  PE X 029 (tCallA X sp t):=by
 classical
 intro pins s σ H Q I h;apply iE<|zcv I hg hm ?_ w;apply PySem.W.callWith_K (h₀:=X.base) I.ok.mod.kin j (thn 060 λus s1 zz=>ex5 zz λvs H1 I1 r q=>⟨I1.kIn,?_⟩) he ar;letI Hq:Hp:=λb=>if CellOf X b then(s1.heap.get? b).map λo=>.frz o (.own b)else H1 b
 let A:∀b,¬CellOf X b->Hq b=H1 b:=λb n=>Xp n;let q2:∀x c,X.env.cells.lookup x=G c->∃o v,s1.heap.get? c=G o/\o.data=.cell v/\Hq c=G 020:=λx c e=>by
  let(v,o,ho,hd):=I1.cell x c e;show⟨o,v,ho,hd,by change(if CellOf X c then _ else _)=_;rw[Xq ⟨x,e⟩,ho];rfl⟩
 let tr:∀b u,H1 b=G u->¬CellOf X b:=λb u e ⟨x,z⟩=>by rw[I1.freeC x b z]at e;cases e
 let ad:Adopted X σ H1 Hq:=⟨A,λb ⟨x,z⟩=>I1.freeC x b z,I1.ok.inj,λx c e=>by
  let(o,v,ho,hd,O):=q2 x c e;apply⟨o,v,O,hd,λi y L g M=>?_⟩;let(m,hn,Y):=I1.loc;let(u,ru,l):=Y i x y L g (by rcases M with z|z;show .inr<|.inl z;show .inr<|.inr z);rcases l with⟨z,_⟩|⟨_,c',av,o',d,b7⟩
  .rcases M with y'|y'<;>(rw[z]at y';cases y')
  .rw[e]at av;cases av;rw[ho]at d;cases d;rw[hd]at b7;cases b7;show⟨u,ru,R⟩⟩
 let low:∀b,CellOf X b->X.s₀.heap.objs.size<=b:=λb ⟨x,e⟩=>I1.ok.cab x b (hfn x) e;let g9:∀b∈frs X.stack,¬CellOf X b:=λb U ⟨x,e⟩=>by
  rcases y08.mp (I1.stkSub b U)with z|z
  .exact I1.cne x b e z
  .let(_,o,ho,_):=I1.ok.funs.mem z;show Xa (y0q (y0g ho)<|low b ⟨x,e⟩)<|y1m _
 let up:∀b u,H1 b=G u->Hq b=G u:=λb u e=>by rw[A b<|tr b u e];show e
 let hokq:HOk X.prog X.w Hq s1.heap:=λb u e=>by
  by_cases C:CellOf X b
  .let(x,ex):=C;let(o,v,ho,hd,O):=q2 x b ex;rw[O]at e;cases e;show⟨ho,o,ho⟩
  .rw[A b C]at e;show(I1.hok b u e).stay (λ_ _ _ z=>z) (λc z=>up c _ z) (λc _ _ _ _ z=>up c _ z) λc xs z=>up c _ z
 let e0:=I1.env0;let e0q:Env0 X.prog X.w X.K X.mg X.base X.A X.stack s1 Hq:=⟨e0.frames,e0.mod,λb o e=>⟨(040).1,by
  rw[A b λC=>Xa (y0q (y0g e)<|y1a I1.ok.bsz (low b C))<|y1m _];show(040).2⟩,e0.bsz,e0.funs,λb U=>by rw[A b<|g9 b U];show e0.frf b U,hokq,e0.bare⟩
 let Y:us.length=ps.length:=by rw[←r.length];show F.len _ _ _ _<|q Hq ad
 apply ji<|iH (F.run X.A X.stack s1 Hq 025 us vs _ E0 D e0q (by have:=U s1 us I1.kIn (by rw[y1g];show Y);rw[y1g]at this;show this) r<|q Hq ad) λr s' O=>?_;cases r with
 |error e=>show False.elim O
 |ok fl =>
  cases fl with
  |next=>show False.elim O
  |brk=>show False.elim O
  |cont=>show False.elim O
  |ret u =>
   let(v,H2,os,bare,un,E,rv,qq):=O;let c2:∀x c,X.env.cells.lookup x=G c->∃o,s1.heap.get? c=G o/\H2 c=G 020/\s'.heap.get? c=G o:=λx c e=>by
    let(o,v,ho,hd,O):=q2 x c e;let z:=un.frzs c o _ O;show⟨o,ho,z,(E c _ z).1⟩
   let d1:∀b,¬CellOf X b->dropX X H2 b=H2 b:=λb n=>Xp n;let nmC:∀b o u q,CodeObj o q->H2 b=G (.frz o u)->¬CellOf X b:=λb o u q ⟨vs,t,hv,_⟩ e ⟨x,z⟩=>by
    let(o',d,z2,_):=c2 x b z;rw[z2]at e;cases e;let(v,o3,ho,hd):=I1.cell x b z;rw[d]at ho;cases ho;rw[hv]at hd;cases hd
   let nm:∀b u,H2 b=G u->(∀o a,u ≠ .frz o a)->¬CellOf X b:=λb u e n ⟨x,z⟩=>by
    let(o,_,z2,_):=c2 x b z;rw[z2]at e;cases e;show n _ _ R
   apply I1.after ⟨v,dropX X H2,os,bare,⟨λb o e n T J=>?_,λb o e n T J=>?_,λb o e n J=>?_,λb o e J=>?_,λb xs e=>?_,λb o a e=>?_,λb qs ps e=>?_⟩,λb u e=>?_,rv,qq⟩
   .by_cases C:CellOf X b
    .let(x,ex):=C;let(o',d,_,z):=c2 x b ex;rw[e]at d;cases d;show z
    .exact un.keep b o e (by rw[A b C];show n) T J
   .exact un.slot b o e (by rw[A b<|g9 b T];show n) T J
   .by_cases C:CellOf X b
    .exact Xq C
    .rw[d1 b C];show un.free b o e (by rw[A b C];show n) J
   .exact un.there b o e J
   .rw[d1 b<|tr b _ e];show un.tups b xs<|up b _ e
   .rw[d1 b<|tr b _ e];show un.frzs b o a<|up b _ e
   .rw[d1 b<|tr b _ e];show un.tbls b qs ps<|up b _ e
   .let C:¬CellOf X b:=λC=>by
     let:dropX X H2 b=B:=Xq C;rw[this]at e;cases e
    rw[d1 b C]at e;show(E b u e).stay (λ_ _ _ z=>z) (λc z=>by rw[d1 c<|nm c _ z λ_ _ y=>nomatch y];show z) (λc o a q co z=>by rw[d1 c<|nmC c o a q co z];show z) λc xs z=>by rw[d1 c<|nm c _ z λ_ _ y=>nomatch y];show z
theorem zht:∀{xs:List D} {ys:List p},i8 Rq xs ys->xs.length=ys.length
 |_,_,.nil=>rfl
 |_,_,.cons _ t=>by rw[y0j,y0j,zht t]
theorem zur:∀{xs:List D} {ys:List p} {i:Nat} {x:D} {y:p},i8 Rq xs ys->xs[i]?=G x->ys[i]?=G y->Rq x y
 |_,_,_,_,_,.nil,e,_=>by simp at e
 |_,_,0,_,_,.cons r _,L,g=>by simp at L g;subst L g;show r
 |_,_,i+1,_,_,.cons _ t,L,g=>zur (i:=i) t (by simpa using L) (by simpa using g)
def envL(qual:Str)(scope:Scope)(cl:Y4)(L f:Ad)(cd:Va):Env :=
 {scope:=scope,locals:=L,globals:=iu,cells:=cl,qual:=qual++".<locals>.",func:=G f,code:=cd,frame:=G L,builtins:=jh}
def InCl(cl:Y4)(b:Ad):Prop:=∃x,cl.lookup x=G b
open Classical in
noncomputable def dropL(cl:Y4)(H:Hp):Hp:=λb=>if InCl cl b then B else H b
open Classical in
noncomputable def mixL(cl:Y4)(H H2:Hp):Hp:=λb=>if InCl cl b then H b else H2 b
noncomputable def cxL(P:ik)(w:World)(K:Frag)(mg:Y1)(base:Heap)(Nq:List Str)(qual:Str)(scope:Scope)(cl:Y4)(f:Ad)(cd:Va)(A:io)(outer:List Env)(s:ig)(H:Hp):Cx where
 prog:=P
 w:=w
 K:=K
 mg:=mg
 base:=base
 A:=A.deeper<|envL qual scope cl s.heap.objs.size f cd
 Nq:=Nq
 s₀:=s
 H₀:=dropL cl H
 env:=envL qual scope cl s.heap.objs.size f cd
 outer:=outer
 stack:=envL qual scope cl s.heap.objs.size f cd::outer
 ex:=[]
 calm:=N
 fn:=λ_=>Fa
 pn:=[]
 xe:=λ_ _=>False
structure CloScope(own ps cap:List Str)(sc:Scope):Prop where
 kind:sc.kind=.function
 co:sc.isCoroutine=Fa
 gen:sc.isGenerator=Fa
 nocell:∀y∈sc.names,y.2 ≠ .cell
 pre:own.take ps.length=ps
 nd:ps.Nodup
 par:∀x∈ps,sc.names.lookup x=G .local
 cap:∀x∈cap,sc.names.lookup x=G .free
def Caps(H:Hp)(cl:Y4)(cap:List Str)(cv:List V):Prop:=i8 (λx v=>∃c o u,cl.lookup x=G c/\H c=G 020/\o.data=.cell (G u)/\RelV v u) cap cv
noncomputable def stL(own:List Str)(vs cv:List V):St:=vs.map G++List.replicate (own.length-vs.length) B++cv.map G
section
variable {P:ik}{w:World}{K:Frag}{mg:Y1}{base:Heap}{A:io}{outer:List Env}{s:ig}{H:Hp}{own ps cap:List Str}{qual:Str}{scope:Scope}{cl:Y4}{f:Ad}{cd:Va}{vs cv:List V}{us:List Va}
theorem zbx(U:∀x c,cl.lookup x=G c->∃o v,H c=G 020/\o.data=.cell v)(e:H b=G u)(n:∀o a,u ≠ .frz o a):¬InCl cl b:=λ⟨x,z⟩=>by
 let(o,v,I,_):=U x b z;rw[I]at e;cases e;show n _ _ R
theorem zty(U:∀x c,cl.lookup x=G c->∃o v,H c=G 020/\o.data=.cell v)(co:CodeObj o q)(e:H b=G (.frz o a)):¬InCl cl b:=λ⟨x,z⟩=>by
 let(o,v,I,j):=U x b z;rw[I]at e;cases e;let(vs,t,hv,_):=co;rw[hv]at j;cases j
end
section
variable {prog:ik}{w:World}{A:io}{Rq:Result->ig->Prop}{s:ig}
theorem zja(h:wpAny 88 (A.deeper env) (eval e env) (λv s'=>Rq (.ok<|.ret v) s') (λe s'=>wpAny 88 (A.deeper env) (li env e) (λ_ d=>Rq (.error e) d) (λl d=>Rq (.error l) d) s') s):
  jc 88 A (.expr e env) Rq s:=by
 apply jr ?_;change wpAny _ (A.deeper env) (do point;ret (←(eval e env).onRaise (li env))) _ _ s;show ia<|wpAny_point (ia<|jP (iq h (λv s' h'=>ib h') λ_ _ h'=>h'))
theorem zeo(d:A.depth<jX)(D:s.heap.get? a=G o)(j:o.data=.func fd)(g:fd.scope.isCoroutine=Fa)(f:fd.scope.isGenerator=Fa)(i:fd.body=.expr body)(hcd:s.heap.CodeRec fd.code fd.qualname)
  (h:wpAny 88 A.in1 (jf fd args) (λbinds s₁ =>
   wpAny 88 A.in1 (jI fd.scope fd.globals fd.closure binds (fd.qualname++".<locals>.") (G a) fd.code B fd.builtins)
    (λenv s₂=>s₂.heap.NoLimit/\jc 88 A (.expr body env) Rq s₂) (λe s'=>Rq (.error e) s') s₁) (λe s'=>Rq (.error e) s') s) :
  jc 88 A (.call 04 args) Rq s:=by
 apply jr ?_;change wpAny _ A.in1 (callAny 04 args) _ _ s;simp only[callAny];apply ia<|lq D ?_;let(c,oc,vs,p,C,r,q,O):=hcd;simp only[j,callFunction,g,f,i,C];rw[C]at h;apply ia (m:=field (.ref c) 1)<|iA r q O (ia<|ib ?_);show ia (iq h (λbinds s₁ h₁=>ia (iq h₁ (λenv s₂ l=>ia (wpAny_enterFrame l.1 d
  (ib<|And.intro R l.2))) λ_ _ h'=>h')) λ_ _ h'=>h')
end
section
variable {P:ik}{w:World}{K:Frag}{mg:Y1}{base:Heap}{H:Hp}{own ps cap:List Str}{name qual:Str}{params:iN}{scope:Scope}{cl:Y4}{f c':Ad}{oc:Obj}{ct pm:Va}{cv:List V}{k:Nat}{sp:Sp}
theorem Caps.frz(g:Frz H H'):∀{cap:List Str} {cv:List V},Caps H cl cap cv->Caps H' cl cap cv
 |_,_,.nil=>.nil
 |_,_,.cons ⟨c,o,u,L,q,M⟩ t=>.cons ⟨c,o,u,L,g _ _ _ q,M⟩<|Caps.frz g t
end
theorem zbq:∀(ns:List<|Str×jj) (n:Nat) (cl:Y4),iw n ns cl=iw n ns []++cl
 |[],_,_=>rfl
 |(x,k)::r,n,cl=>by
  unfold iw;split
  .rw[zbq r (n+1) ((x,n)::cl),zbq r (n+1) [(x,n)]];simp
  .exact zbq r n cl
theorem zcg:∀(ns:List<|Str×jj) (n:Nat) {x:Str} {c:Ad},(x,c)∈iw n ns []->(x,NameKind.cell)∈ns
 |[],_,_,_,h=>nomatch h
 |(y,k)::r,n,x,c,h=>by
  unfold iw at h;split at h
  .rename_i j;rw[zbq]at h;rcases y0x.mp h with z|z
   .exact y06 _<|zcg r (n+1) z
   .cases y0b.mp z;rw[beq_iff_eq.mp j];show y0a
  .exact y06 _<|zcg r n h
theorem zdq{D:Type}{x:Str}:∀{a b:List (Str×D)},(a++b).lookup x=(a.lookup x).or (b.lookup x)
 |[],_=>rfl
 |(y,v)::r,b=>by
  rw[y1u,y15,y15];cases x==y with
  |true=>rfl
  |false=>show zdq
section
variable {M:Model}{A:io}{E:Y0}{s₀ s:ig}{m cm:Y1}{env:Env}{ow:Y4}
theorem putL(x:j0 s₀ env.locals m ow cm s)(j:env.scope.kind=.function)(Y:env.kindOf n=G .local)
  (q:∀t,j0 s₀ env.locals (λy=>if y=n then G v else m y) ow cm t->Q () t):wpAny M A (jS env n v) Q E s:=by
 let(g,t0,f):=x.toInCall.same;apply wpAny_storeName_local Y x.toInCall.ns (λg1 gn i=>q _ {toInCall:=⟨⟨g1,t0+1,by rw[f]⟩,gn,λb o e=>?_,x.toInCall.fresh⟩,cell:=λk c C=>?_,apart:=x.apart,above:=x.above}) (by rw[j];rfl)
 .let lt:=y0g e;let fr:=x.toInCall.fresh;show i.extBut b o (y0m<|y0q lt fr)<|x.toInCall.keep b o e
 .let ab:=x.above k c<|mem_of_lookup' C;show(x.cell k c C).sameBut i<|y24 ab
theorem putC(x:j0 s₀ env.locals m ow cm s)(j:env.scope.kind=.function)(Y:env.kindOf n=G .cell)(D:ow.lookup n=G c)(C:env.cells.lookup n=G c)
  (q:∀t,j0 s₀ env.locals m ow (λy=>if y=n then G v else cm y) t->Q () t):wpAny M A (jS env n v) Q E s:=by
 let ab:=x.above n c<|mem_of_lookup' D;let(g,t0,f):=x.toInCall.same;apply wpAny_storeName_cell j Y C (x.cell n c D) λg1 l i=>q _ {toInCall:=⟨⟨g1,t0,by rw[f]⟩,x.toInCall.ns.sameBut i<|y0m ab,λb o e=>?_,x.toInCall.fresh⟩,cell:=λk d hd=>?_,apart:=x.apart,above:=x.above}
 .let lt:=y0g e;let fr:=x.toInCall.fresh;show i.extBut b o (y0m<|y1j (y0q lt fr) ab)<|x.toInCall.keep b o e
 .by_cases a:k=n
  .rw[a,D]at hd;cases hd;rw[Xq a];show l
  .rw[Xp a];apply(x.cell k d hd).sameBut i λe=>a ?_;rw[e]at hd;show name_of_addr x.apart (mem_of_lookup' hd)<|mem_of_lookup' D
theorem bindM(f:Str×Va->PUnit->Sem (ForInStep PUnit))(T:∀n v u,f (n,v) u=(do jS env n v;pure (.yield ⟨⟩)))(j:env.scope.kind=.function)(d:∀n c,ow.lookup n=G c->env.cells.lookup n=G c):
  ∀(bs:List<|Str×Va) (m cm:Y1) (s:ig) (Q:PUnit->ig->Prop),j0 s₀ env.locals m ow cm s->(∀y∈bs,env.kindOf y.1=G .local\/(env.kindOf y.1=G .cell/\∃c,ow.lookup y.1=G c))->
   (∀t,j0 s₀ env.locals (bindL env.kindOf bs m) ow (bindC env.kindOf bs cm) t->Q ⟨⟩ t)->wpAny M A (forIn bs ⟨⟩ f) Q E s
 |[],m,cm,s,Q,x,_,q=>by rw[y2v];show ib<|q s x
 |(n,v)::r,m,cm,s,Q,x,U,q=>by
  rw[y25,T];let a:=λy Y=>U y<|y06 _ Y;rcases U (n,v) y0a with z|⟨z,c,C⟩
  .refine ia<|ia (putL x j z λt g=>ib<|bindM f T j d r _ _ t Q g a λD J=>q D ?_);rw[bindL,bindC,Xq z,Xq z];show J
  .let e:¬env.kindOf n=G .local:=by rw[z];decide
   apply ia<|ia (putC x j z C (d n c C) λt g=>ib<|bindM f T j d r _ _ t Q g a λD J=>q D ?_);rw[bindL,bindC,Xp e,Xp e];show J
theorem newEnvM{cl:Y4}{code:Va}(j:scope.kind=.function)
  (U:∀y∈bs,scope.names.lookup y.1=G .local\/scope.names.lookup y.1=G .cell)
  (q:∀t,j0 s s.heap.objs.size (bindL (λx=>scope.names.lookup x) bs λ_=>B) 049 (bindC (λx=>scope.names.lookup x) bs λ_=>B) t->
   Q (newEnv scope s.heap.objs.size globals 057 qual func code B builtins) t):wpAny M A (jI scope globals cl bs qual func code B builtins) Q E s:=by
 simp only[jI,Option.isSome_none,y33,if_false];apply ia<|wpAny_alloc (ia<|wpAny_layCells _ (λname kind cells=>by cases a:kind==NameKind.cell<;>simp[a]) _ _ _ _ ?_);let g:=cellsFrom_ok scope.names (s.heap.push {cls:=.type "frame",data:=.dict #[]}) 061 [] ⟨λ_ _ z=>(nomatch z),.nil⟩ (by rw[y19];show y05 _);rw[y19]at g;rw[show({s with heap:=s.heap.push {cls:=.type "frame",data:=.dict #[]} }:ig).heap.objs.size=s.heap.objs.size+1 from y19 ..,zbq];apply ia<|bindM (s₀:=s) (ow:=iw 061 scope.names []) (env:=newEnv scope s.heap.objs.size globals 057 qual func code B builtins) _ (λ_ _ _=>rfl) j (λn c e=>?_) bs (λ_=>B) (λ_=>B) _ _ ?_ (λy C=>?_) λt x=>ib<|q t x
 .change(057).lookup n=G c;rw[zdq,e];rfl
 .refine {toInCall:=⟨⟨_,_,R⟩,(Heap.Ns.new s.heap<|.type "frame").keeps<|pushCells_keeps _ _,λb o e=>pushCells_keeps _ _ b o<|y04 _ e,y05 _⟩,cell:=λn c e=>(g.empty n c<|mem_of_lookup' e).1,apart:=g.apart,above:=λn c e=>?_};let:=(g.empty n c e).2;show this
 .rcases U y C with z|z
  .exact .inl z
  .exact .inr ⟨z,zdt z⟩
end
def envM(qual:Str)(scope:Scope)(cl:Y4)(L f:Ad)(cd:Va):Env :=
 {scope:=scope,locals:=L,globals:=iu,cells:=iw (L+1) scope.names []++cl,qual:=qual++".<locals>.",func:=G f,code:=cd,frame:=G L,builtins:=jh}
noncomputable def cxM(P:ik)(w:World)(K:Frag)(mg:Y1)(base:Heap)(Nq:List Str)(qual:Str)(scope:Scope)(cl:Y4)(f:Ad)(cd:Va)(A:io)(outer:List Env)(s:ig)(H:Hp):Cx where
 prog:=P
 w:=w
 K:=K
 mg:=mg
 base:=base
 A:=A.deeper<|envM qual scope cl s.heap.objs.size f cd
 Nq:=Nq
 s₀:=s
 H₀:=dropL cl H
 env:=envM qual scope cl s.heap.objs.size f cd
 outer:=outer
 stack:=envM qual scope cl s.heap.objs.size f cd::outer
 ex:=[]
 calm:=N
 fn:=λx=>scope.names.lookup x==G .cell
 pn:=[]
 xe:=λ_ _=>False
structure CloScopeM(own ps cap:List Str)(sc:Scope):Prop where
 kind:sc.kind=.function
 co:sc.isCoroutine=Fa
 gen:sc.isGenerator=Fa
 pre:own.take ps.length=ps
 nd:ps.Nodup
 par:∀x∈ps,sc.names.lookup x=G .local\/sc.names.lookup x=G .cell
 cap:∀x∈cap,sc.names.lookup x=G .free
 one:∀y∈sc.names,y.2=.cell->sc.names.lookup y.1=G .cell
section
variable {P:ik}{w:World}{K:Frag}{mg:Y1}{base:Heap}{A:io}{outer:List Env}{s s1:ig}{H:Hp}{own ps cap:List Str}{qual:Str}{scope:Scope}{cl:Y4}{f:Ad}{cd:Va}{vs cv:List V}{us:List Va}
theorem zi2(S:CloScopeM own ps cap scope)(hd:A.handled=B)(e0:Env0 P w K mg base A outer s H)(Y:vs.length=ps.length)(bh:ps.length<=own.length)(r:Vals vs us)
  (a6:∀x c,cl.lookup x=G c->∃o v,H c=G 020/\o.data=.cell v) (af:∀p∈scope.names,p.2=.free->∃c,cl.lookup p.1=G c) (inj:∀x y c,cl.lookup x=G c->cl.lookup y=G c->x=y) (am:Caps H cl cap cv)
  (xc:j0 s s.heap.objs.size (bindL (λx=>scope.names.lookup x) 026 λ_=>B) 049 (bindC (λx=>scope.names.lookup x) 026 λ_=>B) s1) :
  Inv (cxM P w K mg base (own++cap) qual scope cl f cd A outer s H) [] (stL own vs cv) (dropL cl H) s1:=by
 classical
 let(O,tk,rfl,j):=xc.done;let d1:∀b,¬InCl cl b->dropL cl H b=H b:=λb n=>Xp n;let dn:∀b,H b=B->dropL cl H b=B:=λb e=>by
  by_cases C:InCl cl b
  .exact Xq C
  .rw[d1 b C];show e
 let e8:∀b:Ad,b∉(cxM P w K mg base (own++cap) qual scope cl f cd A outer s H).ex:=λb z=>Xa (show b∈([]:List Ad)from z) 05;let at':∀x c,cl.lookup x=G c->∃o v,s.heap.get? c=G o/\o.data=.cell v:=λx c e=>by
  let(o,v,z,zd):=a6 x c e;show⟨o,v,(e0.hok c _ z).1,zd⟩
 let o5:HOk P w (dropL cl H) s.heap:=λb u e=>by
  let C:¬InCl cl b:=λC=>by
   let:dropL cl H b=B:=Xq C;rw[this]at e;cases e
  rw[d1 b C]at e;show(e0.hok b u e).stay (λ_ _ _ z=>z) (λc z=>by rw[d1 c<|zbx a6 z λ_ _ y=>nomatch y];show z) (λc o a q co z=>by rw[d1 c<|zty a6 co z];show z) λc xs z=>by rw[d1 c<|zbx a6 z λ_ _ y=>nomatch y];show z
 let two:∀x c,(057).lookup x=G c->((049).lookup x=G c/\s.heap.objs.size<c)\/((049).lookup x=B/\cl.lookup x=G c/\c<s.heap.objs.size):=λx c e=>by
  rw[zdq]at e;cases z:(iw (s.heap.objs.size+1) scope.names []).lookup x with
  |some y =>
   rw[z]at e;cases e;show .inl ⟨R,xc.above x c<|mem_of_lookup' z⟩
  |none =>
   rw[z]at e;let l:cl.lookup x=G c:=e;let(o,v,D,_):=at' x c l;show .inr ⟨R,l,y0g D⟩
 let o4:∀x,scope.names.lookup x=G .free->(049).lookup x=B:=λx J=>by
  cases z:(iw (s.heap.objs.size+1) scope.names []).lookup x with
  |none=>rfl
  |some y =>
   let:=S.one (x,.cell) (zcg _ _<|mem_of_lookup' z) rfl;rw[J]at this;cases this
 apply⟨⟨e0.mod,S.kind,R,R,y05 _,λx y c J hy=>?_,λx J=>?_,λx c J C=>?_,λ_=>hd,Around.frames_deeper e0.frames,.inr ⟨R,R⟩,λb z=>Xa z<|e8 b,λb o e=>⟨(040).1,dn b (040).2⟩,e0.bsz,λb _ _=>e8 b,λb z=>Xa z<|e8 b,e0.funs,λb U=>dn b<|e0.frf b U⟩,
  rfl,e0.bare,Un.kept j,⟨_,xc.toInCall.ns,λi x v L g M=>?_⟩,λx c e=>?_,o5.fresh 08,λx c e=>?_,λp E=>Xa (show p∈([]:Y2)from E) 05,o5.kept j,?_⟩
 .rcases two x c J with⟨T,I⟩|⟨_,T,I⟩<;>rcases two y c hy with⟨z3,z4⟩|⟨_,z3,z4⟩
  .exact name_of_addr xc.apart (mem_of_lookup' T)<|mem_of_lookup' z3
  .exact Xa (y1j I z4)<|y1m _
  .exact Xa (y1j z4 I)<|y1m _
  .exact inj x y c T z3
 .let J:scope.names.lookup x=G .cell\/scope.names.lookup x=G .free:=J;change∃c,(057).lookup x=G c;rw[zdq];rcases J with z|z
  .let(c,e):=zdt (n:=s.heap.objs.size+1) z;show⟨c,by rw[e];rfl⟩
  .let(c,e):=af (x,.free) (mem_of_lookup' z) rfl;show⟨c,by rw[o4 x z];show e⟩
 .let hx':scope.names.lookup x=G .cell:=beq_iff_eq.mp J;let(c',e):=zdt (n:=s.heap.objs.size+1) hx';rcases two x c C with⟨T,I⟩|⟨T,_⟩
  .exact y1o I
  .rw[e]at T;cases T
 .let bi:(own++cap)[i]?=G x:=L;let Q:(vs.map G++List.replicate (own.length-vs.length) B++cv.map G)[i]?=G (G v):=g;let lo:(vs.map G++List.replicate (own.length-vs.length) (B:Option V)).length=own.length:=by rw[y0e,y01,y2w];omega
  by_cases hi:i<own.length
  .rw[y1c 01]at Q;by_cases hv:i<vs.length
   .rw[y1c (by simpa using hv),y03]at Q;rw[y1c hi]at bi;let d:vs[i]?=G v:=by
     cases q:vs[i]? with
     |none=>rw[q]at Q;cases Q
     |some z=>rw[q]at Q;show congrArg G<|Option.some.inj (Option.some.inj Q)
    let(u,hu,ru):=r.get d;let E:ps[i]?=G x:=by rw[←S.pre,y42 01];show bi
    apply⟨u,ru,?_⟩;rcases S.par x (y0k E)with k|k
    .exact .inl ⟨k,zgz S.nd E hu k⟩
    .let(c,e):=zdt (n:=s.heap.objs.size+1) k;let qc:=xc.cell x c e;rw[zg0 S.nd E hu<|by change scope.names.lookup x≠_;rw[k];decide]at qc;apply .inr ⟨.inl k,c,?_,qc⟩;change(057).lookup x=G c;rw[zdq,e];rfl
   .rw[y11 (by simpa using y27 hv),y36]at Q;split at Q<;>cases Q
  .rw[y11 01,lo,y03]at Q;rw[y11 01]at bi;let d:cv[i-own.length]?=G v:=by
    cases q:cv[i-own.length]? with
    |none=>rw[q]at Q;cases Q
    |some z=>rw[q]at Q;show congrArg G<|Option.some.inj (Option.some.inj Q)
   let(c,o,u,C,hz,b7,ru):=zur am bi d;let hf':=S.cap x<|y0k bi;apply⟨u,ru,.inr ⟨.inr hf',c,?_,o,j c o (e0.hok c _ hz).1,b7⟩⟩;change(057).lookup x=G c;rw[zdq,o4 x hf'];show C
 .rcases two x c e with⟨T,I⟩|⟨_,T,I⟩
  .exact⟨_,xc.cell x c T⟩
  .let(o,v,D,b7):=at' x c T;show⟨v,o,j c o D,b7⟩
 .rcases two x c e with⟨T,I⟩|⟨_,T,I⟩
  .exact o5.fresh<|y1o I
  .exact Xq ⟨x,T⟩
 .let:=zht am;change(vs.map G++List.replicate (own.length-vs.length) B++cv.map G).length=(own++cap).length;rw[y0e,y0e,y01,y2w,y01,y0e];omega
theorem zep{Nq:List Str}{pins:Y2}{r:St}{H2:Hp}{s':ig}{v:V}{u:Va}{Q:VK}(M:Env0 P w K mg base A outer s H)(E:∀x c,cl.lookup x=G c->∃o v,H c=G 020/\o.data=.cell v)
  (J:Inv (cxM P w K mg base Nq qual scope cl f cd A outer s H) pins r H2 s') (L:RelV v u) (q:033->Q v (mixL cl H H2)):CE outer P w H s Q u s':=by
 classical
 let p:∀b,¬InCl cl b->dropL cl H b=H b:=λb n=>Xp n;let i:∀b,¬InCl cl b->mixL cl H H2 b=H2 b:=λb n=>Xp n;let d:∀b,H b=B->¬InCl cl b:=λb e ⟨x,z⟩=>by
  let(o,v,I,_):=E x b z;rw[I]at e;cases e
 let un:Un (frs outer) [] (dropL cl H) H2 s.heap s'.heap:=J.base;let O:∀x c,cl.lookup x=G c->∃o,H c=G 020/\s'.heap.get? c=G o/\H2 c=B:=λx c e=>by
  let(o,v,z,_):=E x c e;let D:=(M.hok c _ z).1;let j:dropL cl H c=B:=Xq ⟨x,e⟩;let nf:c∉frs outer:=λU=>by rw[M.frf c U]at z;cases z
  show⟨o,z,un.keep c o D j nf 05,un.free c o D j 05⟩
 let nm:∀b u,H2 b=G u->¬InCl cl b:=λb u e ⟨x,z⟩=>by
  let(_,_,_,I):=O x b z;rw[I]at e;cases e
 apply⟨v,mixL cl H H2,J.os,J.bare,⟨λb o e n T g=>un.keep b o e (by rw[p b<|d b n];show n) T g,λb o e n T g=>un.slot b o e (by rw[p b<|d b n];show n) T g,λb o e n g=>by rw[i b<|d b n];show un.free b o e (by rw[p b<|d b n];show n) g,un.there,λb xs e=>?_,λb o a e=>?_,λb qs ps e=>?_⟩,λb u e=>?_,L,q λb ⟨x,z⟩=>let⟨_,_,_,I⟩:=O x b z;I⟩
 .let C:=zbx E e λ_ _ y=>nomatch y;rw[i b C];show un.tups b xs (by rw[p b C];show e)
 .by_cases C:InCl cl b
  .change(if InCl cl b then H b else H2 b)=_;rw[Xq C];show e
  .rw[i b C];show un.frzs b o a (by rw[p b C];show e)
 .let C:=zbx E e λ_ _ y=>nomatch y;rw[i b C];show un.tbls b qs ps (by rw[p b C];show e)
 .by_cases C:InCl cl b
  .let l:H b=G u:=by rw[←e];show(Xq C).symm
   let(x,z):=C;let(o,Y,I,_):=O x b z;rw[Y]at l;cases l;show⟨I,o,I⟩
  .rw[i b C]at e;show(J.hok b u e).stay (λ_ _ _ z=>z) (λc z=>by rw[i c<|nm c _ z];show z) (λc _ _ _ _ z=>by rw[i c<|nm c _ z];show z) λc xs z=>by rw[i c<|nm c _ z];show z
end
section
variable {P:ik}{w:World}{K:Frag}{mg:Y1}{base:Heap}{H:Hp}{own ps cap:List Str}{name qual:Str}{params:iN}{scope:Scope}{cl:Y4}{f c':Ad}{oc:Obj}{ct pm:Va}{cv:List V}{k:Nat}{sp:Sp}
theorem zul(S:CloScopeM own ps cap scope)(bh:ps.length<=own.length)(T:H f=G (fnO 078 f))(M:H c'=G (.frz oc<|.own c'))(co:CodeObj oc qual)
  (U:∀x c,cl.lookup x=G c->∃o v,H c=G 020/\o.data=.cell v) (g:∀p∈scope.names,p.2=.free->∃c,cl.lookup p.1=G c) (inj:∀x y c,cl.lookup x=G c->cl.lookup y=G c->x=y) (l:Caps H cl cap cv)
  (a:∀us:List Va,us.length=ps.length->jf 078 025=pure 026)
  (i:∀(A:io) (outer:List Env) (s:ig) (H':Hp) (vs:List V) (Q:VK),Room k (A.deeper<|envM qual scope cl s.heap.objs.size f (.ref c'))->Frz H H'->vs.length=ps.length->sp vs H' Q E0->
   ∃t,PE (cxM P w K mg base (own++cap) qual scope cl f (.ref c') A outer s H') body t/\t (stL own vs cv) (dropL cl H') (λv H2=>033->Q v 039)):CloH P w K mg base (k+1) H f ps.length sp:=by
 intro A outer s H' us vs Q D e0 E r Y aj;let d8:s.heap.NoLimit:=e0.mod.nolimit.keeps λb o e=>(040).1;let ho:=(e0.hok f _<|E _ _ _ T).1;let dr:=(e0.hok c' _<|E _ _ _ M).1;let(j,t',o6,o8):=co;let o7:us.length=ps.length:=by rw[←r.length];show Y
 let L:∀x c,cl.lookup x=G c->∃o v,H' c=G 020/\o.data=.cell v:=λx c e=>let⟨o,v,z,d⟩:=U x c e;⟨o,v,E _ _ _ z,d⟩;apply zeo D.depth ho R S.co S.gen R ⟨c',oc,j,t',R,dr,o6,o8⟩ ?_;rw[a us o7];apply ib<|newEnvM S.kind (λy C=>S.par y.1 (y21<|show(y.1,y.2)∈ps.zip us from C).1) λs1 x=>?_;apply⟨d8.keeps x.toInCall.keep,zja ?_⟩;let(t,ht,O):=i A outer s H' vs Q (D.deeper _) E Y aj;let I:=zi2 (qual:=qual) (f:=f) (cd:=.ref c') S D.hd e0 Y bh r L g inj (l.frz E) x;show iq (ht [] _ _ _ _ I O) (λu s' ⟨v,H2,J,rv,q⟩=>zep e0 L J rv q) λ_ _ z=>z.elim
theorem zh7(S:CloScopeM own ps cap scope)(bh:ps.length<=own.length)(T:H f=G (fnO 063 f))(M:H c'=G (.frz oc<|.own c'))(co:CodeObj oc qual)
  (U:∀x c,cl.lookup x=G c->∃o v,H c=G 020/\o.data=.cell v) (g:∀p∈scope.names,p.2=.free->∃c,cl.lookup p.1=G c) (inj:∀x y c,cl.lookup x=G c->cl.lookup y=G c->x=y) (am:Caps H cl cap cv)
  (a:∀us:List Va,us.length=ps.length->jf 063 025=pure 026)
  (i:∀(A:io) (outer:List Env) (s:ig) (H':Hp) (vs:List V) (Q:VK),Room k (A.deeper<|envM qual scope cl s.heap.objs.size f (.ref c'))->Frz H H'->vs.length=ps.length->sp vs H' Q E0->
   ∃t,PSs (cxM P w K mg base (own++cap) qual scope cl f (.ref c') A outer s H') body t/\t {nx:=λ_ H2=>033->Q .non 039,rt:=λv H2=>033->Q v 039} (stL own vs cv) (dropL cl H')):CloH P w K mg base (k+1) H f ps.length sp:=by
 intro A outer s H' us vs Q D e0 E r Y aj;let d8:s.heap.NoLimit:=e0.mod.nolimit.keeps λb o e=>(040).1;let ho:=(e0.hok f _<|E _ _ _ T).1;let dr:=(e0.hok c' _<|E _ _ _ M).1;let(j,t',o6,o8):=co;let o7:us.length=ps.length:=by rw[←r.length];show Y
 let L:∀x c,cl.lookup x=G c->∃o v,H' c=G 020/\o.data=.cell v:=λx c e=>let⟨o,v,z,d⟩:=U x c e;⟨o,v,E _ _ _ z,d⟩;apply iW D.depth ho R S.co S.gen R ⟨c',oc,j,t',R,dr,o6,o8⟩ ?_;rw[a us o7];apply ib<|newEnvM S.kind (λy C=>S.par y.1 (y21<|show(y.1,y.2)∈ps.zip us from C).1) λs1 x=>?_;apply⟨d8.keeps x.toInCall.keep,jB ?_⟩;let(t,ht,O):=i A outer s H' vs Q (D.deeper _) E Y aj;let I:=zi2 (qual:=qual) (f:=f) (cd:=.ref c') S D.hd e0 Y bh r L g inj (am.frz E) x;apply iq (ht [] _ _ _ _ I O) (λfl s' hs=>?_) λ_ _ z=>z.elim;cases fl with
 |ret u =>
  let(v,l,H2,J,rv,q):=hs;show zep e0 L J rv q
 |next =>
  let(l,H2,J,q):=hs;show zep (v:=V.non) (u:=Va.none) e0 L J R q
 |brk =>
  let(_,_,_,q):=hs;show False.elim q
 |cont =>
  let(_,_,_,q):=hs;show False.elim q
end
theorem zff:∀{ns:List (Str×jj)} (n:Nat),(∀y∈ns,y.2 ≠ .cell)->iw n ns []=[]
 |[],_,_=>rfl
 |(x,k)::r,n,h=>by
  unfold iw;rw[Xp λz=>h (x,k) y0a<|beq_iff_eq.mp z];show zff n λy C=>h y<|y06 _ C
section
variable {P:ik}{w:World}{K:Frag}{mg:Y1}{base:Heap}{A:io}{outer:List Env}{s:ig}{H:Hp}{Nq own ps cap:List Str}{name qual:Str}{params:iN}{scope:Scope}{cl:Y4}{f c' L:Ad}{cd ct pm:Va}{cv:List V}{k:Nat}{sp:Sp}{oc:Obj}
theorem CloScope.m(S:CloScope own ps cap scope):CloScopeM own ps cap scope:=⟨S.kind,S.co,S.gen,S.pre,S.nd,λx h=>.inl<|S.par x h,S.cap,λy C e=>Xa e<|S.nocell y C⟩
theorem zov(n:∀y∈scope.names,y.2 ≠ .cell):envM qual scope cl L f cd=envL qual scope cl L f cd:=by unfold envM envL;rw[zff _ n];rfl
theorem zub(n:∀y∈scope.names,y.2 ≠ .cell):cxM P w K mg base Nq qual scope cl f cd A outer s H=cxL P w K mg base Nq qual scope cl f cd A outer s H:=by
 let e:(λx=>scope.names.lookup x==G .cell)=λ_=>Fa:=funext λx=>by
  cases z:scope.names.lookup x==G NameKind.cell with
  |false=>rfl
  |true=>show Xa R<|n _ (mem_of_lookup'<|beq_iff_eq.mp z)
 unfold cxM cxL;rw[zov n,e]
theorem newEnvL(S:CloScope own ps cap scope)(U:∀y∈bs,scope.names.lookup y.1=G .local)
  (q:∀t,j0 s s.heap.objs.size (bindL (λx=>scope.names.lookup x) bs λ_=>B) 049 (bindC (λx=>scope.names.lookup x) bs λ_=>B) t->Q (envL qual scope cl s.heap.objs.size f cd) t):wpAny M A (jI scope iu cl bs (qual++".<locals>.") (G f) cd B jh) Q E s :=
 newEnvM S.kind (λy C=>.inl<|U y C) λt x=>by have z:=q t x;rw[←zov S.nocell]at z;show z
theorem zxq(S:CloScope own ps cap scope)(C:ps.length<=own.length)(T:H f=G (fnO 078 f))(M:H c'=G (.frz oc<|.own c'))(co:CodeObj oc qual)
  (U:∀x c,cl.lookup x=G c->∃o v,H c=G 020/\o.data=.cell v) (g:∀p∈scope.names,p.2=.free->∃c,cl.lookup p.1=G c) (inj:∀x y c,cl.lookup x=G c->cl.lookup y=G c->x=y) (l:Caps H cl cap cv)
  (a:∀us:List Va,us.length=ps.length->jf 078 025=pure 026)
  (i:∀(A:io) (outer:List Env) (s:ig) (H':Hp) (vs:List V) (Q:VK),Room k 064->Frz H H'->vs.length=ps.length->sp vs H' Q E0->
   ∃t,PE (cxL P w K mg base (own++cap) qual scope cl f (.ref c') A outer s H') body t/\t (stL own vs cv) (dropL cl H') (λv H2=>033->Q v 039)):CloH P w K mg base (k+1) H f ps.length sp :=
 zul S.m C T M co U g inj l a λA outer s H' vs Q D=>by rw[zub S.nocell];rw[zov S.nocell]at D;show i A outer s H' vs Q D
theorem zuk(S:CloScope own ps cap scope)(C:ps.length<=own.length)(T:H f=G (fnO 063 f))(M:H c'=G (.frz oc<|.own c'))(co:CodeObj oc qual)
  (U:∀x c,cl.lookup x=G c->∃o v,H c=G 020/\o.data=.cell v) (g:∀p∈scope.names,p.2=.free->∃c,cl.lookup p.1=G c) (inj:∀x y c,cl.lookup x=G c->cl.lookup y=G c->x=y) (l:Caps H cl cap cv)
  (a:∀us:List Va,us.length=ps.length->jf 063 025=pure 026)
  (i:∀(A:io) (outer:List Env) (s:ig) (H':Hp) (vs:List V) (Q:VK),Room k 064->Frz H H'->vs.length=ps.length->sp vs H' Q E0->
   ∃t,PSs (cxL P w K mg base (own++cap) qual scope cl f (.ref c') A outer s H') body t/\t {nx:=λ_ H2=>033->Q .non 039,rt:=λv H2=>033->Q v 039} (stL own vs cv) (dropL cl H')):CloH P w K mg base (k+1) H f ps.length sp :=
 zh7 S.m C T M co U g inj l a λA outer s H' vs Q D=>by rw[zub S.nocell];rw[zov S.nocell]at D;show i A outer s H' vs Q D
end
structure FunC(K:Frag)(x:Str)(st:Stmt)(f:Ad)(fd:i6)(c:Ad):Prop where
 ex:∃(oc:Va) (od:Option Ad) (kV doc pm:Va) (an:Option Ad) (ct:Va) (osl:Y8),
  fd=PySem.W.fnOf x x (defArgs st) (defBody st) 73 .none kV doc pm an (.ref c) ct/\K.lookup f=G ⟨oc,od,.func fd,osl⟩/\PySem.W.codeIn K (.ref c) x=N
 kp:PySem.W.keepIn K 52=N
structure DfnC(K:Frag)(mg:Y1)(x:Str)(st:Stmt)(ps:List Str)(c P:Ad):Prop where
 ex:∃f fd,FunC K x st f fd c/\Binds K fd ps []/\mg x=G 52
 code:KCode K c P
theorem kcode_mk{K:Frag}(l:K.lookup c=G ⟨.type "code",M,.fields vs,y⟩)
  (o:vs[11]?=G (.ref P)) (r:vs[18]?=G (.str f p)) (w:vs[7]?=G (.int d a)) (u:vs[9]?=G (.bool j)) (s:vs[10]?=G (.int text q)) (ne:c≠P):KCode K c P:=by
 let g:∀{i:Nat} {v:Va},vs[i]?=G v->vs.getD i .none=v:=λ{i v} e=>by rw[Array.getD_eq_getD_getElem?,e];rfl
 show⟨_,vs,f,p,d,a,j,text,q,l,R,R,o,g o,g r,g w,g u,g s,ne⟩
theorem dfnc_mk{K:Frag}{h:Heap}{mg:Y1}{x:Str}{st:Stmt}{ps:List Str}{f c P:Ad}{oc:Va}{M an:Option Ad}{z:Y8}{kV doc pm ct:Va}(X:K.In h)(Gq:h.Ns iu mg)
  (a:PySem.W.nsIn K iu x=G (G 52)) (l:K.lookup f=G ⟨oc,M,.func<|PySem.W.fnOf x x (defArgs st) (defBody st) 73 .none kV doc pm an (.ref c) ct,z⟩)
  (cd:PySem.W.codeIn K (.ref c) x=N) (k:PySem.W.keepIn K 52=N) (r:KCode K c P)
  (U:∀(kV doc pm:Va) (an:Option Ad) (cdv ct:Va) (us:List Va),us.length=ps.length->jf 072 025=pure 026):DfnC K mg x st ps c P :=
 ⟨⟨f,_,⟨⟨oc,M,kV,doc,pm,an,ct,z,R,l,cd⟩,k⟩,(zop l cd k).binds U,PySem.W.mg_of X Gq a⟩,r⟩
section
variable {P:ik}{w:World}{K:Frag}{mg:Y1}{base:Heap}
theorem DfnC.cal{x:Str}{st:Stmt}{Nq ps:List Str}{k:Nat}{sp:Sp}{c I:Ad}(d:DfnC K mg x st ps c I)(S:FnScope Nq ps 73)(len:∀vs H Q E,sp vs H Q E->vs.length=ps.length)
  (i:∀(f:Ad) (A:io) (outer:List Env) (s:ig) (H:Hp) (vs:List V) (Q:VK) (E:XK),Room k (A.deeper<|jd x 73 s.heap.objs.size f (.ref c))->sp vs H Q E->
   ∃t,PSs (065).nox (defBody st) t/\t {nx:=λ_ H'=>Q .non H',rt:=Q} 036 H):03 (k+1) x ps sp:=by
 let(f,fd,F,b,m):=d.ex;let(oc,M,kV,doc,p,a,ct,z,rfl,lk,hcd):=F.ex;apply⟨f,_,fn_of lk hcd S len λA outer s H vs Q E D T=>?_,b,F.kp,m⟩;let(t,h,q):=i f A outer s H vs Q E D T;show⟨t,h.nox,q⟩
end
def TabFor(q:ik)(K:Frag)(mg:Y1)(b:Ad):Prop:=∃d∈recsOf q,∃f oc M fd z c,mg d.name=G 52/\K.lookup f=G ⟨oc,M,.func fd,z⟩/\fd.code=.ref c/\KCode K c b
theorem DfnC.tab{q:ik}{K:Frag}{mg:Y1}{x:Str}{st:Stmt}{ps:List Str}{c b:Ad}(d:DfnC K mg x st ps c b)(J:((recsOf q).any λr=>r.name==x)=N):TabFor q K mg b:=by
 let(r,D,e):=y1v.mp J;let(f,fd,F,_,m):=d.ex;let(oc,M,kV,doc,p,a,ct,z,rfl,lk,hcd):=F.ex;show⟨r,D,f,oc,M,_,z,c,by rw[beq_iff_eq.mp e];show m,lk,R,d.code⟩
def TabsOf(q:ik)(mg:Y1)(h:Heap):Prop:=∀d∈recsOf q,∃a o fd c P,mg d.name=G 04/\h.get? a=G o/\o.data=.func fd/\fd.code=.ref c/\h.IsCode c P #[]/\h.TableAt c P #[]
theorem TabFor.at{K:Frag}{h:Heap}(t:TabFor q K mg b)(X:K.In h)(T:TabsOf q mg h):∃c,h.TableAt c b #[]:=by
 let(d,hd,f,oc,A,fd,z,c,m,lk,J,r):=t;let(a,o,i,c',w,O,D,x,C,_,y):=T d hd;rw[m]at O;cases O;rw[X f _ lk]at D;cases D;cases x;rw[J]at C;cases C;let(o,vs,_,_,_,_,_,_,_,l,_,j,e,_):=r;let((v,p,L,g,M,u),s):=id y;rw[X c o l]at L;cases L;rw[j]at M;cases M;rw[e]at u;cases u;show⟨c,y⟩
def OnlyT(ts:List<|Ad×List (Pos×Str))(H:Hp):Prop:=(∀b,H b=B\/(∃o xs,H b=G (.frz o 016))\/∃qs,ts.lookup b=G qs/\H b=G (.tbl qs #[]))/\∀b qs,ts.lookup b=G qs->H b=G (.tbl qs #[])
theorem OnlyT.tab(h:OnlyT ts H)(e:ts.lookup b=G qs):TabOk H b qs:=⟨#[],h.2 b qs e⟩
theorem zs7{K:Frag}{s₁:ig}{vs:List Va}{ns:List Int}{ts:List (Ad×List (Pos×Str))}
  (KX:K.In s₁.heap) (du:s₁.heap.Ns iu mg) (U:s₁.heap.Ns jh mb) (hbb:∀x:Str,x≠"__name__"->mb x=ja x) (hlim:s₁.heap.NoLimit) (hg:s₁.gens=#[])
  (ha:s₁.heap.get? a=G {cls:=.type "list",data:=.seq vs.toArray}) (hi:jK vs ns) (Y:ns.length<=ii) (D:Room k lj)
  (hbm:BltK s₁.heap mg) (hts:∀b qs,ts.lookup b=G qs->∃c,s₁.heap.TableAt c b #[]) (hKt:∀b qs,ts.lookup b=G qs->K.lookup b=B)
  (F:∀base:Heap,K.In base->base.Ns iu mg->BltK base mg->FnOk P w K mg base CX k Q fd [x] sp) (ag:∀(s:ig) (u:Va),lh s fd ⟨[u],[]⟩ [(x,u)])
  (T:∀H:Hp,OnlyT ts H->SqL K H a 034->sp [.ref a] H (λv _=>v=.bl N) λ_ _ _=>False)
  (hCX:∀H e s',CX [] H s₁ (λ_ _ _=>False) e s'->False) :
  jc 81 lj (.call (.ref Q) ⟨[.ref a],[]⟩) (λr s'=>r=.ok (.ret<|.bool N)/\OldK s₁.heap s'.heap/\s'.os=s₁.os/\jA s'.gens) s₁:=by
 let f:=zjo hi;let lenV:=hi.length;let qx:∀H:Hp,OnlyT ts H->SqL K H a 034->HOk P w H s₁.heap->(∀b,H b≠B->b=a\/∃qs,ts.lookup b=G qs)->(H a≠B->K.lookup a=B)->
   jc 81 lj (.call (.ref Q) ⟨[.ref a],[]⟩) (λr s'=>r=.ok (.ret<|.bool N)/\OldK s₁.heap s'.heap/\s'.os=s₁.os/\jA s'.gens) s₁:=by
  intro H hO hS hok hA hK;let A:∀{b:Ad} {o:Obj},s₁.heap.get? b=G o->H b=B->(hidT s₁.heap H).get? b=G o:=λe n=>zw8 e n;let noT:∀{b:Ad} {o:Obj},s₁.heap.get? b=G o->(∀q n,o.data ≠ .seq q n)->(∀ps,o.data ≠ .fields ps\/o.cls ≠ .none)->H b=B:=λ{b o} e n1 n2=>by
   cases q:H b with
   |none=>rfl
   |some u =>
    rcases hA b (by rw[q];simp)with e'|⟨qs,e'⟩
    .subst e';rw[ha]at e;cases e;show Xa R<|n1 _ _
    .let(c,_,e5):=hts b qs e';rw[e5]at e;cases e;rcases n2 #[]with z|z
     .exact Xa R z
     .exact Xa R z
  let e8:∀{b:Ad} {o:Obj} {es:Array DictEntry} {ep:Nat},s₁.heap.get? b=G o->o.data=.dict es ep->H b=B:=λ{b o es ep} e d=>noT e (λq n z=>by rw[d]at z;cases z) λps=>.inl λz=>by rw[d]at z;cases z
  let nsK:∀{b:Ad} {m:Y1},s₁.heap.Ns b m->(hidT s₁.heap H).Ns b m:=λ{b m} ⟨o,es,ep,e,d,r⟩=>⟨o,es,ep,A e<|e8 e d,d,r⟩;let hKb:K.In (hidT s₁.heap H):=λb o e=>A (KX b o e) (by
   cases q:H b with
   |none=>rfl
   |some u =>
    rcases hA b (by rw[q];simp)with e'|⟨qs,e'⟩
    .subst e';rw[hK<|by rw[q];simp]at e;cases e
    .rw[hKt b qs e']at e;cases e)
  let hBb:BltK (hidT s₁.heap H) mg:=by
   let(bm,o,b1,b2,b3,b4,b5,b6):=hbm;show⟨bm,o,b1,b2,A b3 (noT b3 (λq n z=>by rw[b6]at z;cases z) λps=>.inl λz=>by rw[b6]at z;cases z),b4,b5,b6⟩
  let hM:Mod K mg (hidT s₁.heap H):=⟨hKb,nsK du,⟨mb,nsK U,hbb⟩,let⟨mc,O,M⟩:=hlim;⟨mc,nsK O,M⟩⟩;let J:Env0 P w K mg (hidT s₁.heap H) lj [] s₁ H:=⟨R,hM,λb o e=>of_hidT e,y4b<|zth _ _,trivial,λb U=>Xa (show b∈([]:List Ad)from U) 05,hok,.of_eq hg⟩;apply iH ((F _ hKb (nsK du) hBb).run lj [] s₁ H ⟨[.ref a],[]⟩ [.ref a] [.ref a] _ _ D J (ag s₁ 04) (.cons R .nil)<|T H hO hS) λr s' h=>?_;cases r with
  |error e=>show(hCX H e s' h).elim
  |ok fl =>
   cases fl with
   |next=>show False.elim h
   |brk=>show False.elim h
   |cont=>show False.elim h
   |ret u =>
    let(v,H',os,bare,un,qy,r',q):=h;let C:v=.bl N:=q;subst C;obtain rfl:u=Va.bool N:=r';let was:∀b o,s₁.heap.get? b=G o->asItWas s₁.heap s'.heap b o:=λb o e=>by
     rcases hO.1 b with z|⟨ob,xs,z⟩|⟨qs,l,z⟩
     .exact .inl<|un.keep b o e z (by intro z;show Xa (show b∈([]:List Ad)from z) 05) 05
     .let I:=un.frzs b ob _ z;let(L,_):=hok b _ z;let(g,_):=qy b _ I;rw[e]at L;cases L;show .inl g
     .let I:=un.tbls b qs _ z;let(i,g,_):=qy b _ I;let(c,y):=hts b qs l;let e5:=y.2;rw[e5]at e;cases e;show .inr<|.inl ⟨y.isCodeTable,R,#[],i,R,g⟩
    show⟨R,⟨was,λb o e=>un.there b o e 05⟩,os,bare⟩
 let neA:∀qs,ts.lookup a=G qs->False:=λqs e=>by
  let(c,_,e5):=hts a qs e;rw[e5]at ha;cases ha
 let o9:∀(H:Hp) b qs,ts.lookup b=G qs->ObjOk P w H s₁.heap b (.tbl qs #[]):=λH b qs e=>by
  let(c,_,e5):=hts b qs e;show⟨#[],by simpa using e5,trivial,λp E v z=>by simp[jx]at z⟩
 letI HT:Hp:=λb=>(ts.lookup b).map λqs=>.tbl qs #[];let la:∀b qs,ts.lookup b=G qs->HT b=G (.tbl qs #[]):=λb qs e=>by change(ts.lookup b).map _=_;rw[e];rfl
 let kg:∀b,ts.lookup b=B->HT b=B:=λb e=>by change(ts.lookup b).map _=_;rw[e];rfl
 cases j:K.lookup a with
 |some o =>
  let e:=KX a o j;rw[ha]at e;cases e;apply qx HT ⟨λb=>?_,la⟩ (.inr ⟨_,vs.toArray,_,j,R,R,R,by rw[y09,lenV];show Y,by simpa using f⟩) (λb u z=>?_) (λb z=>?_) λz=>?_
  .cases e:ts.lookup b with
   |none=>show .inl<|kg b e
   |some qs=>show .inr<|.inr ⟨qs,R,la b qs e⟩
  .cases e:ts.lookup b with
   |none=>rw[kg b e]at z;cases z
   |some qs=>rw[la b qs e]at z;cases z;show o9 _ b qs e
  .cases e:ts.lookup b with
   |none=>show Xa (kg b e) z
   |some qs=>show .inr ⟨qs,R⟩
  .cases e:ts.lookup a with
   |none=>show Xa (kg a e) z
   |some qs=>show(neA qs e).elim
 |none =>
  letI H1:Hp:=λb=>if b=a then G (.frz {cls:=.type "list",data:=.seq vs.toArray} (.lst 034))else HT b
  let h1a:H1 a=G (.frz {cls:=.type "list",data:=.seq vs.toArray} (.lst 034)):=Xq rfl;let h1b:∀b,b≠a->H1 b=HT b:=λb e=>Xp e;apply qx H1 ⟨λb=>?_,λb qs e=>?_⟩ (.inl<|.inr ⟨{cls:=.type "list",data:=.seq vs.toArray},h1a⟩) (λb u z=>?_) (λb z=>?_) λ_=>j
  .by_cases U:b=a
   .subst U;show .inr<|.inl ⟨_,_,h1a⟩
   .rw[h1b b U];cases e:ts.lookup b with
    |none=>show .inl<|kg b e
    |some qs=>show .inr<|.inr ⟨qs,R,la b qs e⟩
  .rw[h1b b λz=>neA qs<|z▸e];show la b qs e
  .by_cases U:b=a
   .subst U;rw[h1a]at z;cases z;show⟨ha,by rw[y01];show Y,vs,_,f,ha⟩
   .rw[h1b b U]at z;cases e:ts.lookup b with
    |none=>rw[kg b e]at z;cases z
    |some qs=>rw[la b qs e]at z;cases z;show o9 _ b qs e
  .by_cases U:b=a
   .exact .inl U
   .rw[h1b b U]at z;cases e:ts.lookup b with
    |none=>show Xa (kg b e) z
    |some qs=>show .inr ⟨qs,R⟩
theorem walk_ofT{l:PySem.W.OpenLaw}{n k:Nat}{q:ik}{g:List Str}{J:(Str->Option Va)->Heap->Prop}{E:World->Heap->Prop}{d:DefRec}{K:Params->Frag}{CX:CXT}{sp:Frag->List (Ad×List (Pos×Str))->Sp}{x:Str}
  (I:l.most=G n) (L:n<=ii) (z:d.params.defaults=[]) (D:Room k lj)
  (hY:∀(w:World) (h:Heap),E w h->(K w.params).In h)
  (F:∀(w:World) (mg:Y1) (Q:Ad) (h:Heap),(K w.params).In h->h.Ns iu mg->mg d.name=G (.ref Q)->
   ∃(fd:i6) (ts:List<|Ad×List (Pos×Str)),(∀(s:ig) (u:Va),lh s fd ⟨[u],[]⟩ [(x,u)])/\(∀b qs,ts.lookup b=G qs->TabFor q (K w.params) mg b/\(K w.params).lookup b=B)/\
    ∀base:Heap,(K w.params).In base->base.Ns iu mg->BltK base mg->FnOk l.prog w (K w.params) mg base CX k Q fd [x] (sp (K w.params) ts))
  (T:∀(K:Frag) (ts:List<|Ad×List (Pos×Str)) (H:Hp) (a:Ad) (ns:List Int),ns.length<=n->OnlyT ts H->SqL K H a 034->sp K ts [.ref a] H (λv _=>v=.bl N) λ_ _ _=>False)
  (A:∀(H:Hp) (s:ig) (e:Va) (s':ig),CX [] H s (λ_ _ _=>False) e s'->False) :
  PySem.W.WalkO q g J E l.row.toRowW d [] (λf vs=>PySem.call f vs):=by
 apply Att.attach_call I z λw s₀ s₁ mg mb Q o pm cd doc a vs ns Gq Y ho hd hcd y i c M j=>?_;let KX:=hY w _ Y;let(fd,ts,U,p,C):=F w mg Q _ KX Gq.T.g y;show zs7 KX Gq.T.g Gq.T.b Gq.T.builtins Gq.T.nolimit j i c (y1a M L) D Gq.T.bmain (λb qs e=>(p b qs e).1.at KX Gq.T.tab) (λb qs e=>(p b qs e).2) C U (λH r O=>T (K w.params) ts H a ns M r O) λH e s'=>A H s₁ e s'
theorem zya:∀{ts:List (Ad×List (Pos×Str))} {b:Ad} {qs:Y3},ts.lookup b=G qs->(b,qs)∈ts
 |[],_,_,e=>by simp at e
 |(a,q)::ts,b,qs,e=>by
  rw[y15]at e;split at e
  .rename_i z;cases e;rw[show b=a from beq_iff_eq.mp z];show y0a
  .exact y06 _<|zya e
theorem ts_all{ts:List (Ad×List (Pos×Str))}{Rq:Ad->Prop}(h:∀p∈ts,Rq p.1):∀b qs,ts.lookup b=G qs->Rq b:=λb qs e=>h (b,qs)<|zya e
theorem zc8{X:Cx}{n k:Nat}{x:Str}{ps:List Str}{sp:Sp}{p pos:Pos}{e:Expr}{es:List Expr}{t:TA}(C:Cal X.prog X.w X.K X.mg X.base n x ps sp)(D:Room k X.A)(v:n<=k)(j:Gl X x)(E:∀x,X.fn x=N)(d:PA X (e::es) t)(w:012=Fa:=by decide)
  (O:notStar e=N:=by rfl) (M:es.all notStar=N:=by rfl):PE X 029 (tCallA X sp t):=by
 let(f,fd,F,b,kp,m):=C.ex;show zv9 F (D.mono v) j m kp b E d w (zap O)<|zbb M
theorem zr5{X:Cx}{x:Str}(i k n:Nat)(sp:Sp){m:Nat}{p pos:Pos}{e:Expr}{es:List Expr}{t:TA}(D:Room m X.A)(v:k<=m)(d:PA X (e::es) t)(hN:X.Nq[i]?=G x:=by rfl)(hv:Vis X.env.scope x:=by first|show Or.inl rfl|show Or.inr (Or.inl R)|show Or.inr (Or.inr R))
  (hd:012=Fa:=by decide) (hcd:056=Fa:=by decide) (O:notStar e=N:=by rfl) (M:es.all notStar=N:=by rfl) :
  PE X 029 (tCallV X.prog X.w X.K X.mg X.base k n sp i t):=zv7 hN hv (D.mono v) d hd hcd (zap O)<|zbb M
noncomputable def freeOk(env:Env)(a:Scope):Bool:=a.names.all λp=>p.2 !=.free||(env.kindOf p.1==G .cell||env.kindOf p.1==G .free)
theorem freeOk.of(h:freeOk env a=N):∀p∈a.names,p.2=.free->env.kindOf p.1=G .cell\/env.kindOf p.1=G .free:=λp E e=>by
 let q:=y12.mp h p E;rw[e]at q;simpa using q
noncomputable def oneOk(qs:Y3)(pos:Pos)(qual:Str):Bool:=qs.any (λp=>p.1.line==pos.line&&p.1.col==pos.col&&p.1.endLine==pos.endLine&&p.1.endCol==pos.endCol&&p.2==qual)&&qs.all λp=>p.1.line !=pos.line||p.1.col !=pos.col||p.2==qual
theorem oneOk.one(h:oneOk qs pos qual=N):∀p∈qs,p.1.line=pos.line->p.1.col=pos.col->p.2=qual:=λp E L g=>by
 let q:=y12.mp (y07 _ _▸h:_/\_).2 p E;rw[L,g]at q;simpa using q
theorem oneOk.mem(h:oneOk qs pos qual=N):(pos,qual)∈qs:=by
 let(p,E,e):=y1v.mp (y07 _ _▸h:_/\_).1;simp only[y07,beq_iff_eq]at e;let((((L,g),M),u),s):=e;let:p=(pos,qual):=by
  let((a,b,c,d),z):=p;let(I,i,c',d'):=pos;simp only at L g M u s;subst L g M u s;rfl
 rw[←this];show E
section
variable {X:Cx}{c P:Ad}{qs:Y3}{pos:Pos}{params:iN}{scope:Scope}
theorem zke(qual:Str){body:Expr}(C:X.env.code=.ref c)(r:KCode X.K c P)(q:BltK X.base X.mg)(g:freeOk X.env scope=N)(O:oneOk qs pos qual=N)(hd:params.defaults=[]:=by rfl)(j:params.kw_defaults=[]:=by rfl)(a:X.env.qual++"<lambda>"=qual:=by rfl):
  PE X (.Lambda params body scope pos) (tLam X P qs "<lambda>" qual params (.expr body) scope):=zr0 C r q (freeOk.of g) (oneOk.mem O) (oneOk.one O) hd j a
theorem zx1(qual:Str)(C:X.env.code=.ref c)(r:KCode X.K c P)(q:BltK X.base X.mg)(g:freeOk X.env scope=N)(O:oneOk qs pos qual=N)(hN:X.Nq.Nodup)(U:X.Nq[j]?=G name)(J:X.env.scope.names.lookup name=G .local)(nd:docOf body=B:=by rfl)
  (hd:params.defaults=[]:=by rfl) (E:params.kw_defaults=[]:=by rfl) (d:∀e,annTrees params B e=[]:=by intro e;rfl) (a:ly X.env name name=qual:=by rfl) :
  PS X 079 083:=zzd C r q (freeOk.of g) nd (oneOk.mem O) (oneOk.one O) hd E d a hN U J
end
open Classical
theorem Adopted.same(ad:Adopted X σ H1 Hq)(g:Same Hq H2):Same H1 (dropX X H2):=λb u e=>by
 let C:¬CellOf X b:=λC=>by rw[ad.2.1 b C]at e;cases e
 change(if CellOf X b then B else H2 b)=G u;rw[Xp C];show g b u (by rw[ad.1 b C];show e)
theorem Adopted.up(ad:Adopted X σ H1 Hq):Same H1 Hq:=λb u e=>by
 let C:¬CellOf X b:=λC=>by rw[ad.2.1 b C]at e;cases e
 rw[ad.1 b C];show e
theorem Adopted.keep(ad:Adopted X σ H1 Hq)(g:Same Hq H2)(e:H2 b=G u)(n:∀o a,u ≠ .frz o a):dropX X H2 b=G u:=by
 let C:¬CellOf X b:=λ⟨x,z⟩=>by
  let(o,v,O,_):=ad.2.2.2 x b z;rw[g _ _ O]at e;cases e;show n _ _ R
 change(if CellOf X b then B else H2 b)=G u;rw[Xp C];show e
def SameN(H H':Hp):Prop:=∀b u,H b=G u->(∀o a,u ≠ .frz o a)->H' b=G u
section
variable {cl:Y4}{H:Hp}
def ClOk(cl:Y4)(H:Hp):Prop:=∀x c,cl.lookup x=G c->∃o v,H c=G 020/\o.data=.cell v
theorem ClOk.n(U:ClOk cl H):SameN H (dropL cl H):=λb u e n=>by
 change(if InCl cl b then B else H b)=G u;rw[Xp<|zbx U e n];show e
theorem ClOk.tab(U:ClOk cl H)(T:TabOk H P qs):TabOk (dropL cl H) P qs:=let⟨ps,e⟩:=T;⟨ps,U.n _ _ e λ_ _ z=>nomatch z⟩
theorem zb5(g:Same (dropL cl H) H2):Same H (mixL cl H H2):=λb u e=>by
 change(if InCl cl b then H b else H2 b)=G u;by_cases C:InCl cl b
 .rw[Xq C];show e
 .rw[Xp C];show g b u (by change(if InCl cl b then B else H b)=G u;rw[Xp C];show e)
theorem zfc(g:∀b,InCl cl b->H2 b=B):Same H2 (mixL cl H H2):=λb u e=>by
 change(if InCl cl b then H b else H2 b)=G u;rw[Xp λC=>by rw[g b C]at e;cases e];show e
end
def CapAt(X:Cx)(σ:St)(cap:List Str)(cv:List V):Prop:=i8 (λx v=>∃i:Nat,X.Nq[i]?=G x/\σ[i]?=G (G v)/\(X.env.kindOf x=G .cell\/X.env.kindOf x=G .free)) cap cv
theorem zgw(ad:Adopted X σ H1 Hq){cl:Y4}(O:∀x c,cl.lookup x=G c->X.env.cells.lookup x=G c):∀{cap:List Str} {cv:List V},(∀x∈cap,∃c,cl.lookup x=G c)->CapAt X σ cap cv->Caps Hq cl cap cv
 |_,_,_,.nil=>.nil
 |x::_,_::_,C,.cons ⟨i,L,g,M⟩ t=>by
  let(c,a):=C x y0a;let(o,v,T,I,j):=ad.2.2.2 x c<|O x c a;let(u,J,rfl):=j i _ L g M;show .cons ⟨c,o,u,a,T,I,J⟩<|zgw ad O (λy Y=>C y<|y06 _ Y) t
section
variable {X:Cx}{H H1 H1' Hq:Hp}{σ:St}{name qual:Str}{params:iN}{scope:Scope}{f:Ad}{own ps cap:List Str}{cv:List V}{k:Nat}{sp:Sp}
theorem Made.fn(M:Made X H H1 name qual params body scope f):∃fd,H1 f=G (fnO fd f):=by
 let(cl,ct,c',oc,p,_,_,_,_,h):=M.ex;show⟨_,h⟩
theorem zfw{cl:Y4}(ad:Adopted X σ H1' Hq)(l1:∀x c,cl.lookup x=G c->X.env.cells.lookup x=G c)(E:Frz Hq H'):Frz H1' (dropL cl H'):=λb o u e=>by
 let d:¬InCl cl b:=λ⟨x,z⟩=>by rw[ad.2.1 b ⟨x,l1 x b z⟩]at e;cases e
 change(if InCl cl b then B else H' b)=_;rw[Xp d];show E _ _ _<|ad.up _ _ e
theorem Made.clo_e(M:Made X H H1 name qual params (.expr body) scope f)(g:Same H1 H1')(ad:Adopted X σ H1' Hq)(S:CloScope own ps cap scope)(C:ps.length<=own.length)(l:CapAt X σ cap cv)
  (a:∀(cl:Y4) (ct cd p:Va) (us:List Va),us.length=ps.length->jf (cloFd name qual params (.expr body) scope cl ct cd p) 025=pure 026)
  (i:∀(cl:Y4) (c':Ad) (A:io) (outer:List Env) (s:ig) (H':Hp) (vs:List V) (Q:VK),Room k 064->ClOk cl H'->Frz Hq H'->Frz H1' (dropL cl H')->vs.length=ps.length->sp vs H' Q E0->
   ∃t,PE (cxL X.prog X.w X.K X.mg X.base (own++cap) qual scope cl f (.ref c') A outer s H') body t/\t (stL own vs cv) (dropL cl H') (λv H2=>033->Q v 039)):CloH X.prog X.w X.K X.mg X.base (k+1) Hq f ps.length sp:=by
 let(cl,ct,c',oc,p,l1,l2,r,w,j):=M.ex;let U:ClOk cl Hq:=λx c e=>let⟨o,v,O,I,_⟩:=ad.2.2.2 x c<|l1 x c e;⟨o,v,O,I⟩;let up:=ad.up;apply zxq S C (up _ _<|g _ _ j) (up _ _<|g _ _ r) w U l2 (λx y c L q=>ad.2.2.1 x y c (l1 x c L)<|l1 y c q) (zgw ad l1 (λx J=>l2 (x,.free) (mem_of_lookup'<|S.cap x J) R) l) (a cl ct _ p) λA outer s H' vs Q D E Y T=>?_;show i cl c' A outer s H' vs Q D (λx c e=>let⟨o,v,z,d⟩:=U x c e;⟨o,v,E _ _ _ z,d⟩) E (zfw ad l1 E) Y T
theorem Made.clo_s(M:Made X H H1 name qual params (.stmts body) scope f)(g:Same H1 H1')(ad:Adopted X σ H1' Hq)(S:CloScope own ps cap scope)(C:ps.length<=own.length)(l:CapAt X σ cap cv)
  (a:∀(cl:Y4) (ct cd p:Va) (us:List Va),us.length=ps.length->jf (cloFd name qual params (.stmts body) scope cl ct cd p) 025=pure 026)
  (i:∀(cl:Y4) (c':Ad) (A:io) (outer:List Env) (s:ig) (H':Hp) (vs:List V) (Q:VK),Room k 064->ClOk cl H'->Frz Hq H'->Frz H1' (dropL cl H')->vs.length=ps.length->sp vs H' Q E0->
   ∃t,PSs (cxL X.prog X.w X.K X.mg X.base (own++cap) qual scope cl f (.ref c') A outer s H') body t/\t {nx:=λ_ H2=>033->Q .non 039,rt:=λv H2=>033->Q v 039} (stL own vs cv) (dropL cl H')):CloH X.prog X.w X.K X.mg X.base (k+1) Hq f ps.length sp:=by
 let(cl,ct,c',oc,p,l1,l2,r,w,j):=M.ex;let U:ClOk cl Hq:=λx c e=>let⟨o,v,O,I,_⟩:=ad.2.2.2 x c<|l1 x c e;⟨o,v,O,I⟩;let up:=ad.up;apply zuk S C (up _ _<|g _ _ j) (up _ _<|g _ _ r) w U l2 (λx y c L q=>ad.2.2.1 x y c (l1 x c L)<|l1 y c q) (zgw ad l1 (λx J=>l2 (x,.free) (mem_of_lookup'<|S.cap x J) R) l) (a cl ct _ p) λA outer s H' vs Q D E Y T=>?_;show i cl c' A outer s H' vs Q D (λx c e=>let⟨o,v,z,d⟩:=U x c e;⟨o,v,E _ _ _ z,d⟩) E (zfw ad l1 E) Y T
end
end L2
namespace SM
open PySem PySem.Spec PyProof.Rows L2 SS
theorem SameN.tups(g:SameN H H'):TupS H H':=λb xs e=>g b _ e λ_ _ z=>nomatch z
theorem zrn{t:TE}{Q:VK}{H:Hp}{σ:L2.St}(l:L2.St)(e:σ=l)(h:t l H Q):t σ H Q:=by rw[e];show h
theorem zgt{cl:Y4}{H H2:Hp}{D:Ad}{u:HO}(h:dropL cl H D=B)(e:H2 D=G u)(n:∀b,InCl cl b->H2 b=B):H D=B:=by
 classical
 let d:¬InCl cl D:=λz=>by rw[n D z]at e;cases e
 unfold dropL at h;rw[Xp d]at h;show h
def zig(Rq:Hp->Prop)(J:List Nat->Prop)(a:List Nat->List Nat->Prop):Sp:=λvs H Q _=>∃(b:Ad) (ns:List Nat),vs=[.ref b]/\Rq H/\H b=G (.lst<|ns.map nV)/\J ns/\
 ∀D fs H',H D=B->Same H H'->H' D=G (.lst<|fs.map nV)->a ns fs->Q 65 H'
def zhh(P:ik)(w:World)(K:Frag)(mg:Y1)(base:Heap):Sp:=λvs H Q _=>∃(e f:Ad) (fd:i6) (bs:List Bool) (Rq:Hp->Prop) (J:List Nat->Prop) (a:List Nat->List Nat->Prop) (j:List Nat->Nat),
 vs=[.ref e,.ref f]/\H e=G (.tup<|bs.map V.bl)/\bs.length<=100/\H f=G (fnO fd f)/\CloH P w K mg base 3 H f 1 (zig Rq J a)/\Rq H/\(∀H1 H2,Same H1 H2->Rq H1->Rq H2)/\(∀ns,Num bs ns->J ns)/\
 (∀ns,J ns->ns.length<=100)/\(∀ns fs,J ns->a ns fs->J fs/\(fs≠ns->j fs<j ns))/\∀D ns H',Same H H'->H' D=G (.lst<|ns.map nV)->J ns->a ns ns->Q 65 H'
def zdz(I:Ad)(qs:Y3):Sp:=λvs H Q _=>∃(a:Ad) (m:Mc),vs=[.ref a]/\TabOk H I qs/\RepM H a m/\m.Ok/\∀p O H',Same H H'->RepM H' p O->Red m O->Q 22 H'
def zyy(K:Frag)(ts:List<|Ad×List (Pos×Str)):Sp:=λvs H Q _=>∃(a:Ad) (ns:List Int),vs=[.ref a]/\SqL K H a 034/\ns.length<=63/\OnlyT ts H/\∀H',Q (.bl N) H'
def zhl(I:Ad)(qs:Y3):Sp:=λvs H Q _=>∃(a:Ad) (m:Mc),vs=[.ref a]/\TabOk H I qs/\RepM H a m/\m.Ok/\∀p O H',Same H H'->RepM H' p O->Red (turned m) O->Q 22 H'
def sprd(m:Mc)(f:Nat->Nat)(W:Nat):Mc:=⟨W,m.ways.map λline=>(List.range<|2^W).map λl=>line.getD (f l) 0,m.ends⟩
theorem zyv(ok:m.Ok)(D:r<m.n)(Y:l<2^W):(sprd m f W).go r l=m.go r (f l):=by
 let O:r<m.ways.length:=by rw[ok.len];show D
 simp only[Mc.go,sprd,y02,y03,y00 O,y20,y17,y0p Y]
theorem zlr(ok:m.Ok)(a:W<=4)(T:∀l,l<2^W->f l<2^m.w):(sprd m f W).Ok:=by
 apply⟨a,ok.pos,ok.few,?_,λc Y=>?_,λc Y r D=>?_⟩
 .change(m.ways.map _).length=m.ends.length;rw[y01];show ok.len
 .let(line,_,rfl):=y0h.mp Y;rw[y01,y0y];rfl
 .let(line,u,rfl):=y0h.mp Y;let(l,h,rfl):=y0h.mp D;let O:=T l<|y0v.mp h;let M:f l<line.length:=by rw[ok.line line u];show O
  change line.getD (f l) 0<m.ends.length;rw[y02,y00 M,y17];show ok.room line u _<|y0c M
theorem zfm(ok:m.Ok)(T:∀l,l<2^W->f l<2^m.w):∀(row:List Nat) (r:Nat),r<m.n->(∀l∈row,l<2^W)->(sprd m f W).run r row=m.run r (row.map f)
 |[],_,_,_=>rfl
 |l::row,r,D,h=>by
  let Y:=h l y0a;rw[Mc.run_cons,y0t,Mc.run_cons,zyv ok D Y];show zfm ok T row _ (ok.go_lt D<|T l Y) λx J=>h x<|y06 _ J
theorem zvd(m:Mc)(f:Nat->Nat)(W r:Nat):(sprd m f W).fin r=m.fin r:=rfl
def loI(l:Int):List Nat->Nat->Int
 |[],_=>0
 |t::ts,i=>Builtin.bitAnd (l/2^t) 1*2^i+loI l ts (i+1)
def loL(l:Int):List Nat->Nat->List Int
 |[],_=>[]
 |t::ts,i=>Builtin.bitAnd (l/2^t) 1*2^i::loL l ts (i+1)
theorem zs5(l:Int):∀(ts:List Nat) (i:Nat),(loL l ts i).sum=loI l ts i
 |[],_=>rfl
 |t::ts,i=>by rw[loL,loI,y2x,zs5 l ts]
theorem zx9(l:Int):∀(ts:List Nat) (i j:Nat),(loL l ts i)[j]?=ts[j]?.map λt=>Builtin.bitAnd (l/2^t) 1*2^(i+j)
 |[],_,_=>by simp[loL]
 |t::ts,i,0=>by simp[loL]
 |t::ts,i,j+1=>by
  rw[loL,y1r,zx9 l ts,y1r];congr 1;funext t;rw[show i+1+j=i+(j+1) by omega]
noncomputable def back(bs:List Nat):Nat:=bs.reverse.foldl (λf b=>2*f+b) 0
theorem zux:∀l,l<32->∀t,t<5->(Builtin.bitAnd ((l:Nat):Int) 1).natAbs<2/\(Builtin.bitAnd (((l:Nat):Int)/2^t) 1).natAbs<2:=by decide+kernel
def zf4:Sp:=λvs H Q _=>∃(l:Nat) (a:Ad) (ts:List Nat),vs=[nV l,.ref a]/\l<32/\H a=G (.lst<|ts.map nV)/\ts.length<=5/\(∀t∈ts,t<=4)/\∀H',Same H H'->Q (.int<|loI l ts 0) H'
noncomputable def cnt(m:Mc):Nat->Nat->Nat
 |0,r=>if m.fin r=N then 1 else 0
 |k+1,r=>((m.ways.getD r []).map<|cnt m k).sum
def cl(m:Mc)(k:Nat):List Nat:=(List.range m.ends.length).map<|cnt m k
theorem zo2(m:Mc)(k:Nat):(cl m k).length=m.ends.length:=by rw[cl,y01,y0y]
theorem zfk(h:r<m.ends.length):(cl m k)[r]?=G (cnt m k r):=by
 rw[cl,y03,y0p h];rfl
theorem zum(m:Mc):cl m 0=m.ends.map λb=>if b=N then 1 else 0:=by
 apply y1p λi=>?_;by_cases h:i<m.ends.length
 .rw[zfk h,y03,y00 h];change G (if m.ends.getD i Fa=N then 1 else 0)=G _;rw[y02,y00 h];rfl
 .rw[y0r (by rw[zo2];omega),y0r<|by rw[y01];omega]
theorem cl_succ(ok:m.Ok)(k:Nat):cl m (k+1)=m.ways.map λline=>(line.map<|cnt m k).sum:=by
 apply y1p λi=>?_;by_cases h:i<m.ends.length
 .let h':i<m.ways.length:=by rw[ok.len];show h
  rw[zfk h,y03,y00 h'];change G (((m.ways.getD i []).map<|cnt m k).sum)=G _;rw[y02,y00 h'];rfl
 .rw[y0r (by rw[zo2];omega),y0r<|by rw[y01,ok.len];omega]
theorem zs6{m:Mc}(ok:m.Ok)(h:r<m.ends.length):m.ways.getD r []=(List.range<|2^m.w).map (m.go r):=by
 let h':r<m.ways.length:=by rw[ok.len];show h
 let e:m.ways.getD r []=m.ways[r]:=by rw[y02,y00 h'];rfl
 let Y:(m.ways.getD r []).length=2^m.w:=by rw[e];show ok.line _<|y0c h'
 apply y1p λi=>?_;by_cases hi:i<2^m.w
 .rw[y03,y0p hi];change _=G ((m.ways.getD r []).getD i 0);rw[y02 (l:=m.ways.getD r []),y00<|by rw[Y];show hi];rfl
 .rw[y0r (by rw[Y];omega),y0r<|by rw[y01,y0y];omega]
theorem zxp{m:Mc}(ok:m.Ok)(h:r<m.ends.length)(k:Nat):cnt m (k+1) r=((List.range<|2^m.w).map λl=>cnt m k<|m.go r l).sum:=by
 change((m.ways.getD r []).map<|cnt m k).sum=_;rw[zs6 ok h,y0o];rfl
theorem go_lt{m:Mc}(ok:m.Ok)(D:r<m.ends.length)(Y:l<2^m.w):m.go r l<m.ends.length:=by
 let(_,_,_,h):=ok.at D Y;show h
abbrev veM:List Va:=[.type "ValueError",.type "Exception",.type "BaseException",.type "object"]
def NoLen(H:Hp)(v:V)(n:Int):Prop:=(∃r:Int,v=.int r/\¬(0<=r/\r<n))\/∃k,Kd H v k/\k≠"int"
def zjv:Sp:=λvs H Q _=>∃v,vs=[v]/\((∃r:Int,v=.int r/\Q (.bl N) H)\/∃k,Kd H v k/\k≠"int"/\Q (.bl Fa) H)
inductive zc1(vs:List V)(H:Hp)(Q:VK)(_E:XK):Prop
 |mk (v:V) (n:Int):(vs=[v,.int n])->(((∃r:Int,v=.int r/\0<=r/\r<n/\Q (.bl N) H)\/(NoLen H v n/\Q (.bl Fa) H)))->zc1 vs H Q _E
def CntL(m:Mc)(H:Hp)(v:V)(k:Nat):Prop:=∃c,v=.ref c/\H c=G (.lst<|(cl m k).map nV)
theorem CntL.same(h:CntL m H v k)(g:Same H H'):CntL m H' v k:=let⟨c,e,z⟩:=h;⟨c,e,g _ _ z⟩
def zq7:Sp:=λvs H Q _=>∃(a c:Ad) (m:Mc) (k:Nat),vs=[.ref a,.ref c]/\RepM H a m/\m.Ok/\H c=G (.lst<|(cl m k).map nV)/\∀D H',H D=B->Same H H'->H' D=G (.lst<|(cl m<|k+1).map nV)->Q 65 H'
def FromQ(m:Mc)(L:Nat)(H:Hp)(Q:VK):Prop:=∀D rs H',H D=B->Same H H'->H' D=G (.lst rs)->i8 (CntL m H') rs (List.range<|L+1)->Q 65 H'
def zih:Sp:=λvs H Q _=>∃(a:Ad) (m:Mc) (L:Nat),vs=[.ref a,nV L]/\RepM H a m/\m.Ok/\L<=100/\FromQ m L H Q
def zf8(C:Ad):Sp:=λvs H Q E=>∃(v:V),vs=[v]/\((∃L:Nat,v=nV L/\L<=100/\Q .non H)\/(NoLen H v 101/\∀e,H e=B->E (.ref C) (G e) H))
def sp_many(C:Ad):Sp:=λvs H Q E=>∃(a:Ad) (m:Mc) (v:V),vs=[.ref a,v]/\RepM H a m/\m.Ok/\((∃L:Nat,v=nV L/\L<=100/\∀H',Same H H'->Q (nV<|cnt m L 0) H')\/(NoLen H v 101/\∀e,H e=B->E (.ref C) (G e) H))
def fC(m:Mc)(k:Nat):V->V:=λv=>match v with|.int i=>nV (cnt m k i.toNat)|_=>.non
theorem fC_n(m:Mc)(k r:Nat):fC m k (nV r)=nV (cnt m k r):=by change nV (cnt m k ((r:Int)).toNat)=_;rw[y1d]
theorem zni:∀(l:List Nat),(l.map λ(n:Nat)=>(n:Int)).sum=((l.sum:Nat):Int)
 |[]=>rfl
 |x::l=>by rw[y0t,y2x,y2x,zni l,Int.natCast_add]
end SM
namespace L2
open PySem PySem.Spec PyProof.Rows PySem.W PySem.Calls
section
variable {X:Cx}{pins:Y2}{σ:St}{H:Hp}{s:ig}{k:Nat}{fa:Ad}{fd:i6}{ps:List Str}{sp:Sp}
def tTryA(K:Frag)(S:Ad)(sp:Sp)(j:Nat)(t:TA)(ts:TS):TS:=λD σ H=>t σ H λvs H1=>sp vs H1 (λv H2=>D.nx σ H2) λcls f H2=>∀a,f=G a->∃C,cls=.ref C/\mroIn K C (.ref S)=G N/\
 ∀H3,Same H2 H3->H3 a=G (excO a cls)->ts {nx:=λl H'=>(∃v,l[j]?=G (G v))/\D.nx (l.set j B) H',rt:=λ_ _=>False} (σ.set j<|G 04) H3
end
end L2
namespace SM
open PySem PySem.Spec PyProof.Rows L2 SS
def isP(z:Str):Bool:=isNm (.str z) SMALL
def NmOk(z:Str):Prop:=Nam z SMALL\/Nam z GREAT
def FrOk(names:List Str):Prop:=names.length<=4/\∀z∈names,NmOk z
theorem zww(h:NmOk z):z.length<=1000:=by
 let J:∀l,Nam z l->z.length<=1000:=λl Y=>by
  let(d,ds,e,_,A,_):=Y.ex;let:z.length=z.cps.toList.length:=by simp[Str.length]
  rw[this,e,y0j];omega
 rcases h with h|h
 .exact J _ h
 .exact J _ h
theorem zh0(e:z.cps.toList=d::ds)(O:d∈l.cps.toList)(M:ds.length<=3)(A:∀x∈ds,x∈FIGS.cps.toList):Nam z l:=⟨d,ds,e,O,M,A⟩
open PySem
noncomputable def rowWords:List Str:=["in","same","within","ahead","next"]
noncomputable def bst(wd:Str)(l:Nat)(one c:Bool):Nat :=
 if l<=1 then l else if l=2 then
  (if wd="within" then(if one && !c then 0 else 2)
  else if !one&&(!c||decide (wd="in"))then 2
  else if decide (wd="in")||decide (wd="same")then(if one&&c then 1 else 0)
  else if c then 0 else if wd="ahead" then 1 else 3)
 else if one then 1 else 0
noncomputable def bit(c k:Nat):Bool:=c/2^k%2==1
def bstep(wd:Str)(i j:Nat)(l c:Nat):Nat:=if l<=1 then l else if l=2 then bst wd 2 (bit c i) (bit c j)else bst wd 3 (bit c j) (bit c j)
def brun(wd:Str)(i j:Nat)(l:Nat)(row:List Nat):Nat:=row.foldl (bstep wd i j) l
noncomputable def aend(wd:Str)(l:Nat):Bool:=decide (l=1)||(decide (l=2)&&decide (wd="within"))
theorem zuv:brun wd i j l (c::r)=brun wd i j (bstep wd i j l c) r:=rfl
end SM
namespace L2
theorem zc7{X:Cx}{x:Str}(P:ik)(w:World)(K:Frag)(mg:Y1)(base:Heap)(i k n:Nat)(sp:Sp){m:Nat}{p pos:Pos}{e:Expr}{es:List Expr}{t:TA}(D:Room m X.A)(v:k<=m)(d:PA X (e::es) t)(L:X.prog=P:=by rfl)(g:X.w=w:=by rfl)(z:X.K=K:=by rfl)(u:X.mg=mg:=by rfl)(s:X.base=base:=by rfl)
  (hN:X.Nq[i]?=G x:=by rfl) (hv:Vis X.env.scope x:=by first|show Or.inl rfl|show Or.inr (Or.inl R)|show Or.inr (Or.inr R))
  (hd:012=Fa:=by decide) (hcd:056=Fa:=by decide) (O:notStar e=N:=by rfl) (M:es.all notStar=N:=by rfl) :
  PE X 029 (tCallV P w K mg base k n sp i t):=by
 subst L g z u s;show zr5 i k n sp D v d hN hv hd hcd O M
section
variable {X:Cx}
def rRepT:R2:=λx y H Q=>∃l k v,x=.ref l/\y=.int k/\H l=G (.tup [v])/\1<=k/\k<=64/\(k=1->Q (.ref l) H)/\(2<=k->∀p H',New H p (.tup<|List.replicate k.toNat v) H'->Q 22 H')
end
noncomputable def Itr3(lo c:Int)(n:Nat):It:=⟨λi _=>i<n,λi H x H'=>H'=H/\x=.int (lo+i*c),λi _=>n<=i⟩
def iRng3(y:TA):TI:=λσ H Rq=>y σ H λvs H1=>∃i j c:Int,vs=[.int i,.int j,.int c]/\c≠0/\Builtin.Range.small i j c=N/\(j-i).natAbs<1000/\c.natAbs<1000/\0<=Builtin.Range.rangeSize i j c/\Rq (Itr3 i c (Builtin.Range.rangeSize i j c).toNat) H1
section
variable {X:Cx}{k:Nat}{H:Hp}{x y:V}{a b:Ad}{xs ys:List V}
def rLeL(X:Cx):R2:=λx y H Q=>∃(a b:Ad) (xs ys:List Int) (j:Nat) (p q:Int),x=.ref a/\y=.ref b/\SqL X.K H a (xs.map V.int)/\SqL X.K H b (ys.map V.int)/\xs.take j=ys.take j/\xs[j]?=G p/\ys[j]?=G q/\p≠q/\Q (.bl<|decide (p<=q)) H
def rNotInD(X:Cx):R2:=λx y H Q=>∃(p:Ad) (xs:List V) (e:Nat->Bool),y=.ref p/\SqL X.K H p xs/\(∀j (h:j<xs.length),EqOk X 7 H xs[j] x<|e j)/\Q (.bl<|!(List.range xs.length).any e) H
end
theorem ztu{K:Frag}{a:Ad}{xs:List V}{g:TG}{I:TS}{D:Ends}{c:St}{H1:Hp}(Pv:Nat->St->Hp->Prop)(C:Pv 0 c H1)(Y:∀i σ H,i<=xs.length->Pv i σ H->SqL K H a xs)
  (hs:∀i x σ H p H2,xs[i]?=G x->Pv i σ H->New H p (.tup [.int (i:Int),x]) H2->g 22 σ H2 λd H2=>I {D with nx:=Pv<|i+1,ct:=Pv<|i+1,bk:=D.nx} d H2)
  (hd:∀σ H,Pv xs.length σ H->D.nx σ H):fBody g I D c (Ite K a) H1:=by
 apply⟨λi m σ H=>m=xs.length-i/\i<=xs.length/\Pv i σ H,⟨xs.length,by simp,y13 _,C⟩,?_⟩;rintro i m σ H ⟨rfl,hi,p⟩;let A:=Y i σ H hi p;by_cases o:i<xs.length
 .refine .inr ⟨⟨xs,xs[i],A,y00 o⟩,Pv<|i+1,λl H' j=>⟨xs.length-(i+1),by omega,R,o,j⟩,λx H' y=>?_⟩;let(r,u,e,O,ex):=y;subst e;show hs i u σ H r H' (ex xs A) p O
 .let e:i=xs.length:=by omega
  subst e;show .inl ⟨⟨xs,A,y05 _⟩,hd σ H p⟩
section
variable {X:Cx}{H H1 H1' Hq:Hp}{σ:St}{name qual:Str}{params:iN}{scope:Scope}{f:Ad}{own ps cap:List Str}{cv:List V}{k:Nat}{sp:Sp}
theorem Made.clo_sM(M:Made X H H1 name qual params (.stmts body) scope f)(g:Same H1 H1')(ad:Adopted X σ H1' Hq)(S:CloScopeM own ps cap scope)(C:ps.length<=own.length)(l:CapAt X σ cap cv)
  (a:∀(cl:Y4) (ct cd p:Va) (us:List Va),us.length=ps.length->jf (cloFd name qual params (.stmts body) scope cl ct cd p) 025=pure 026)
  (i:∀(cl:Y4) (c':Ad) (A:io) (outer:List Env) (s:ig) (H':Hp) (vs:List V) (Q:VK),Room k (A.deeper<|envM qual scope cl s.heap.objs.size f (.ref c'))->ClOk cl H'->Frz Hq H'->Frz H1' (dropL cl H')->vs.length=ps.length->sp vs H' Q E0->
   ∃t,PSs (cxM X.prog X.w X.K X.mg X.base (own++cap) qual scope cl f (.ref c') A outer s H') body t/\t {nx:=λ_ H2=>033->Q .non 039,rt:=λv H2=>033->Q v 039} (stL own vs cv) (dropL cl H')):CloH X.prog X.w X.K X.mg X.base (k+1) Hq f ps.length sp:=by
 let(cl,ct,c',oc,p,l1,l2,r,w,j):=M.ex;let U:ClOk cl Hq:=λx c e=>let⟨o,v,O,I,_⟩:=ad.2.2.2 x c<|l1 x c e;⟨o,v,O,I⟩;let up:=ad.up;apply zh7 S C (up _ _<|g _ _ j) (up _ _<|g _ _ r) w U l2 (λx y c L q=>ad.2.2.1 x y c (l1 x c L)<|l1 y c q) (zgw ad l1 (λx J=>l2 (x,.free) (mem_of_lookup'<|S.cap x J) R) l) (a cl ct _ p) λA outer s H' vs Q D E Y T=>?_;show i cl c' A outer s H' vs Q D (λx c e=>let⟨o,v,z,d⟩:=U x c e;⟨o,v,E _ _ _ z,d⟩) E (zfw ad l1 E) Y T
end
theorem idx_le:∀(w:List Str) (m:Nat) (h:m<w.length),w.idxOf w[m]<=m
 |y::r,0,h=>by simp
 |y::r,m+1,h=>by
  rw[y2n];let:=idx_le r m (by simpa using h);cases(y==(y::r)[m+1])
  .simp only[cond_false,List.getElem_cons_succ];omega
  .simp
def rIndexT(K:Frag):V->List V->Hp->VK->Prop:=λx vs H Q=>∃(p:Ad) (w:List Str) (z:Str),x=.ref p/\vs=[.str z]/\SqL K H p (w.map V.str)/\z∈w/\w.length<=1000/\Q (.int ((w.idxOf z:Nat):Int)) H
theorem zsz(r:X.A.units+8<cLine):MtR X "list.index" (rIndexT X.K):=by
 intro pins s σ H x xs v us Q I T rs h;let(p,w,z,rfl,rfl,J,E,hz,q):=h;cases T;let(u,rfl,t,rfl):=vals1 rs;let(vs,f,A,_):=I.list J;let d:=f.length;rw[y01]at d;let hv:∀(i:Nat) (hi:i<w.length),∃(h:i<vs.length) (t:Tok),vs[i]=.str w[i] t:=λi hi=>by
  let(h',y):=f.at (j:=i) 01;rw[y3v]at y;let(t,e):=(show∃t,vs[i]=Va.str w[i] t from y);show⟨by omega,t,e⟩
 let((cls,dd,data,g),D,C,n,hd):=A.isList;simp only at C hd;subst C hd;let U:w.idxOf z<w.length:=y1f.mpr E;letI l:Va->Bool:=λ|.str b _=>decide (b=z)|_=>Fa
 apply jm PySem.F.slot_list_index ⟨_,D,R⟩ PySem.F.entry_list_index (PySem.F.args_list_index_2 _ _)
  (SeqAt.list_indexAt p vs.toArray n dd g (.str z t) l (w.idxOf z) (by simp;omega) 01 ?_ ?_) ⟨D,λy L=>?_,?_⟩
 .let(h,t',e):=hv _ U;change l vs[w.idxOf z]=N;rw[e];show Xg<|y2o U
 .intro m Y o;let a:m<w.length:=by simp at Y;omega
  let(h,t',e):=hv m a;change l vs[m]=Fa;rw[e];apply Xf λc=>?_;let M:w.idxOf z<=m:=by
   rw[←c];show idx_le w m a
  omega
 .let(i,hi,rfl):=y1n (show y∈vs by simpa using L);let(h,t',e):=hv i 01;rw[e];show zgs (X:=X) (k:=0) (H:=H) (x:=.str w[i]) (y:=.str z) R R pins σ s X.A.in1 _ _ (by change X.A.units+1+0<cLine;omega) I ⟨t',R⟩ ⟨t,R⟩
 .exact⟨.int _,H,I.tok _,⟨_,R⟩,q⟩
theorem zp7(K:Frag)(U:X.A.units+8<cLine)(h:X.K=K:=by rfl):MtR X "list.index" (rIndexT K):=h▸zsz U
def gLst(K:Frag)(n:Nat)(t:TGs):TG:=λv σ H Q=>∃a xs,v=.ref a/\SqL K H a xs/\xs.length=n/\t xs σ H Q
end L2
namespace SM
structure Thg where
 w:Nat
 step:List Nat->List (List Nat)
 fin:List Nat->Bool
def Thg.run(T:Thg)(t:List Nat)(row:List Nat):List Nat:=row.foldl (λt l=>(021).getD l []) t
theorem Thg.run_cons(T:Thg)(t:List Nat)(l:Nat)(row:List Nat):T.run t (l::row)=T.run ((021).getD l []) row:=rfl
structure Fnd(T:Thg)(Gq:List Nat->Prop)(first:List Nat)(fs:List<|List Nat)(at':Nat):Prop where
 nd:fs.Nodup
 hd:fs[0]?=G first
 good:∀t∈fs,Gq t
 le:at'<=fs.length
 clo:∀t∈fs.take at',∀u∈T.step t,u∈fs
def expl(T:Thg)(fs:List<|List Nat):Mc:=⟨T.w,fs.map λt=>(021).map<|nOf fs,fs.map T.fin⟩
theorem Fnd.start(h:Gq first):Fnd T Gq first [first] 0 :=
 ⟨by simp,R,λt p=>by rw[y0b.mp p];show h,y13 _,λt p=>by simp at p⟩
theorem news_hd{D:Type}[DecidableEq D]{acc xs:List D}{i:Nat}{x:D}(h:acc[i]?=G x):(news acc xs)[i]?=G x:=by
 let(t,e):=zdo xs acc;rw[e,y1c (y0f.mp h).1];show h
theorem Fnd.next(h:Fnd T Gq first fs at')(e:fs[at']?=G t)(j:∀u∈T.step t,Gq u):Fnd T Gq first (news fs 021) (at'+1):=by
 let o:=(y0f.mp e).1;let(tl,ep):=zdo 021 fs;apply⟨zmo _ _ h.nd,news_hd h.hd,λu U=>?_,by rw[ep,y0e];omega,λu U v hv=>?_⟩
 .rcases(zb4 _ _ _).mp U with z|z
  .exact h.good u z
  .exact j u z
 .rw[ep,y3s 01,y14,e,y1x]at U;rcases y0x.mp U with z|z
  .exact(zb4 _ _ _).mpr<|.inl (h.clo u z v hv)
  .rw[y0b.mp z]at hv;show(zb4 _ _ _).mpr<|.inr hv
theorem zw0{D:Type}[DecidableEq D]{fs xs:List D}{u:D}(h:u∈fs):nOf (news fs xs) u=nOf fs u:=by
 let(t,e):=zdo xs fs;change List.idxOf u (news fs xs)=List.idxOf u fs;rw[e];show zi4 h
theorem zqy(h:Fnd T Gq first fs at')(e:fs[at']?=G t):
  (((news fs 021).take<|at'+1).map λu=>(T.step u).map<|nOf (news fs 021))=((fs.take at').map λu=>(T.step u).map<|nOf fs)++[(021).map<|nOf (news fs 021)]:=by
 let o:=(y0f.mp e).1;let(tl,ep):=zdo 021 fs;let L:(news fs 021).take (at'+1)=fs.take at'++[t]:=by rw[ep,y3s 01,y14,e,y1x]
 rw[L,y0u,y0t,y31];congr 1;apply y1w λu U=>y1w λv hv=>zw0<|h.clo u U v hv
section
variable {T:Thg}{Gq:List Nat->Prop}{first:List Nat}{fs:List (List Nat)}
theorem zdr{D:Type}[DecidableEq D]:∀{xs:List D} {x:D},x∈xs->xs[nOf xs x]?=G x
 |y::ys,x,h=>by
  by_cases e:y=x
  .subst e;simp[nOf]
  .let h':x∈ys:=by
    rcases y08.mp h with z|z
    .exact Xa z.symm e
    .exact z
   change(y::ys)[List.idxOf x (y::ys)]?=G x;rw[y2n,show(y==x)=Fa by simp[e],cond_false,y1r];show zdr h'
theorem expl_ok(L:T.w<=4)(h:Fnd T Gq first fs fs.length)(Y:fs.length<=100)(hs:∀t,Gq t->(021).length=2^T.w):(expl T fs).Ok:=by
 let o:0<fs.length:=(y0f.mp h.hd).1;let C:∀t∈fs,∀u∈T.step t,u∈fs:=λt p u U=>h.clo t (by rw[y0l 08];show p) u U;apply {pos:=?_,wid:=L,few:=?_,len:=?_,line:=?_,room:=?_}
 .simpa[expl]using o
 .simpa[expl]using Y
 .simp[expl]
 .intro line M;let(t,p,rfl):=y0h.mp M;rw[y01];show hs t<|h.good t p
 .intro line M r D;let(t,p,rfl):=y0h.mp M;let(u,U,rfl):=y0h.mp D;change nOf fs u<(fs.map T.fin).length;rw[y01];show(y0f.mp<|zdr (C t p u U)).1
theorem zxe(p:t∈fs):(expl T fs).fin (nOf fs t)=T.fin t:=by
 change(fs.map T.fin).getD (nOf fs t) Fa=_;rw[y02,y03,zdr p];rfl
theorem expl_go(h:Fnd T Gq first fs fs.length)(hs:∀t,Gq t->(021).length=2^T.w)(p:t∈fs)(Y:l<2^T.w):(021).getD l []∈fs/\(expl T fs).go (nOf fs t) l=nOf fs ((021).getD l []):=by
 let D:l<(021).length:=by rw[hs t<|h.good t p];show Y
 let d:(021).getD l []=021[l]:=by rw[y02,y00 D];rfl
 apply⟨?_,?_⟩
 .rw[d];show h.clo t (by rw[y0l 08];show p) _<|y0c D
 .change((fs.map λt=>(021).map<|nOf fs).getD (nOf fs t) []).getD l 0=_;rw[y02,y02,y03,zdr p,y20,y17,y03,y00 D,d];rfl
theorem zou(h:Fnd T Gq first fs fs.length)(hs:∀t,Gq t->(021).length=2^T.w):∀(row:List Nat) {t:List Nat},t∈fs->(∀l∈row,l<2^T.w)->T.run t row∈fs/\(expl T fs).run (nOf fs t) row=nOf fs (T.run t row)
 |[],t,p,_=>⟨p,R⟩
 |l::row,t,p,D=>by
  let(O,M):=expl_go h hs p<|D l y0a;rw[Mc.run_cons,Thg.run_cons,M];show zou h hs row O λx J=>D x<|y06 _ J
theorem zqj(h:Fnd T Gq first fs fs.length)(hs:∀t,Gq t->(021).length=2^T.w)(row:List Nat)(D:∀l∈row,l<2^T.w):(expl T fs).fin ((expl T fs).run 0 row)=T.fin (T.run first row):=by
 let Y:first∈fs:=y0k h.hd
 let C:nOf fs first=0:=by
  let e:=h.hd;cases fs with
  |nil=>simp at e
  |cons x r=>simp at e;subst e;simp[nOf]
 let(O,M):=zou h hs row Y D;rw[C]at M;rw[M,zxe O]
end
theorem news_snoc'{D:Type}[DecidableEq D](acc xs:List D)(x:D):news acc (xs++[x])=nxt (news acc xs) x:=zgk xs acc x
theorem zhx{D:Type}[DecidableEq D]{acc xs:List D}{i:Nat}{x:D}(h:xs[i]?=G x):news acc (xs.take<|i+1)=nxt (news acc<|xs.take i) x:=by rw[y14,h,y1x,news_snoc']
theorem zdn{D:Type}[DecidableEq D]:∀{xs ys:List D},xs.Nodup->(∀x∈xs,x∈ys)->xs.length<=ys.length
 |[],_,_,_=>y13 _
 |x::xs,ys,I,h=>by
  rw[y1k]at I;let J:=h x y0a;let:=zdn (ys:=ys.erase x) I.2 λy C=>(List.mem_erase_of_ne λe=>I.1<|by rw[←e];show C).mpr<|h y (y06 _ C);rw[y41 J]at this;let:=y46 J;rw[y0j];omega
def pairT(i m2:Mc)(o:Bool->Bool->Bool):Thg:=⟨i.w,λt=>((i.ways.getD (ix t 0) []).zip<|m2.ways.getD (ix t 1) []).map λp=>[p.1,p.2],λt=>o (i.fin<|ix t 0)<|m2.fin (ix t 1)⟩
def PairG(i m2:Mc)(t:List Nat):Prop:=∃a b,t=[a,b]/\a<i.n/\b<m2.n
def pairsL(i m2:Mc):List (List Nat):=(List.range i.n).flatMap λa=>(List.range m2.n).map λb=>[a,b]
theorem zpq(h:PairG i m2 t):t∈pairsL i m2:=by
 let(a,b,rfl,d,U):=h;show y3u.mpr ⟨a,y0v.mpr d,y0h.mpr ⟨b,y0v.mpr U,R⟩⟩
theorem zpr(i m2:Mc):(pairsL i m2).length=i.n*m2.n:=by
 unfold pairsL
 induction i.n with
 |zero=>simp
 |succ n f=>rw[y28,List.flatMap_append,y0e,f];simp[Nat.succ_mul]
theorem zwa(h:Fnd (pairT i m2 o) (PairG i m2) first fs k):fs.length<=i.n*m2.n:=by
 rw[←zpr];show zdn h.nd λt p=>zpq<|h.good t p
section
variable {m1 m2:Mc}{op:Bool->Bool->Bool}
theorem zdf{m:Mc}(ok:m.Ok)(D:r<m.n):∃line,m.ways[r]?=G line/\m.ways.getD r []=line/\line.length=2^m.w/\∀x∈line,x<m.n:=by
 let h:r<m.ways.length:=by rw[ok.len];show D
 show⟨m.ways[r],y00 h,by rw[y02,y00 h];rfl,ok.line _<|y0c h,ok.room _<|y0c h⟩
theorem zr8(H:m1.Ok)(v:m2.Ok)(w:m1.w=m2.w)(h:PairG m1 m2 t):((pairT m1 m2 op).step t).length=2^m1.w/\∀u∈(pairT m1 m2 op).step t,PairG m1 m2 u:=by
 let(a,b,rfl,d,U):=h;let(l1,_,L,O,r1):=zdf H d;let(l2,_,g,o,A):=zdf v U;change(((m1.ways.getD a []).zip<|m2.ways.getD b []).map λp=>[p.1,p.2]).length=_/\∀u∈((m1.ways.getD a []).zip<|m2.ways.getD b []).map λp=>[p.1,p.2],_;rw[L,g];apply⟨by rw[y01,List.length_zip,O,o,w,Nat.min_self],λu r=>?_⟩;let((x,y),E,rfl):=y0h.mp r;let:=y21 E;show⟨x,y,R,r1 x this.1,A y this.2⟩
theorem zn9(H:m1.Ok)(v:m2.Ok)(w:m1.w=m2.w):∀(row:List Nat) {a b:Nat},a<m1.n->b<m2.n->(∀l∈row,l<2^m1.w)->(pairT m1 m2 op).run [a,b] row=[m1.run a row,m2.run b row]
 |[],a,b,_,_,_=>rfl
 |l::row,a,b,d,U,D=>by
  let Y:=D l y0a;let(l1,f1,L,u,r1):=zdf H d;let(l2,q,g,o,E):=zdf v U;let O:l<l1.length:=by rw[u];show Y
  let M:l<l2.length:=by rw[o,←w];show Y
  let C:((pairT m1 m2 op).step [a,b]).getD l []=[m1.go a l,m2.go b l]:=by
   change(((m1.ways.getD a []).zip<|m2.ways.getD b []).map λp=>[p.1,p.2]).getD l []=[(m1.ways.getD a []).getD l 0,(m2.ways.getD b []).getD l 0];rw[L,g,y02,y03,show(l1.zip l2)[l]?=G (l1[l],l2[l])from y3z.mpr ⟨y00 O,y00 M⟩];rw[y02,y02,y00 O,y00 M];rfl
  rw[Thg.run_cons,C,Mc.run_cons,Mc.run_cons];show zn9 H v w row (H.go_lt d Y) (v.go_lt U<|by rw[←w];show Y) λx J=>D x<|y06 _ J
end
open PySem PySem.Spec PyProof.Rows L2 SS
inductive zev(vs:List V)(H:Hp)(Q:VK)(_E:XK):Prop
 |mk (b:Ad) (tl:List Str):(vs=[.ref b])->(H b=G (.lst<|tl.map V.str))->(tl.length<=4)->((∀z∈tl,z.length<=4))->(frameB (tl.map V.str)=N)->(∀H',Same H H'->Q .non H')->zev vs H Q _E
def fcnt(row:List Nat)(k:Nat):Nat:=(row.filter λl=>l/2^k%2==1).length
def fitP(ps:List Nat)(row:List Nat):Bool:=ps.all λk=>fcnt row k==1
theorem ztt(row:List Nat)(l k:Nat):fcnt (row++[l]) k=fcnt row k+if l/2^k%2==1 then 1 else 0:=by
 unfold fcnt;rw[y2p,y0e];by_cases h:(l/2^k%2==1)=N
 .rw[y1y (p:=λl=>l/2^k%2==1) h,Xq h];rfl
 .rw[y1z (p:=λl=>l/2^k%2==1) h,Xp h];rfl
def psOf(bs:List Bool):List Nat:=(List.range bs.length).filter λk=>bs.getD k Fa
def bools:Nat->List (List Bool)
 |0=>[[]]
 |n+1=>(bools n).flatMap λl=>[Fa::l,N::l]
theorem zgy:∀(bs:List Bool),bs∈bools bs.length
 |[]=>by simp[bools]
 |b::bs=>by
  let f:=zgy bs;change b::bs∈(bools bs.length).flatMap λl=>[Fa::l,N::l];apply y3u.mpr ⟨bs,f,?_⟩;cases b<;>simp
theorem ps_lt(bs:List Bool):∀k∈psOf bs,k<bs.length:=λk j=>y0v.mp (y29.mp j).1
def justM:Mc:=mM 1 [[0,1],[1,2],[2,2]] [Fa,N,Fa]
def anyM:Mc:=mM 0 [[0]] [N]
theorem zmv:justM.Ok:=by
 apply⟨by decide,by decide,by decide,by decide,?_,?_⟩
 .intro l Y;simp only[justM,y08,y0n,or_false]at Y;rcases Y with rfl|rfl|rfl<;>rfl
 .intro l Y r D;simp only[justM,y08,y0n,or_false]at Y;rcases Y with rfl|rfl|rfl<;>(simp only[y08,y0n,or_false]at D;change r<3;omega)
theorem zu1:anyM.Ok:=by
 apply⟨by decide,by decide,by decide,by decide,?_,?_⟩
 .intro l Y;simp only[anyM,y08,y0n,or_false]at Y;rw[Y];rfl
 .intro l Y r D;simp only[anyM,y08,y0n,or_false]at Y;rw[Y]at D;rw[y0b.mp D];decide
def bitN(t l:Nat):Nat:=l/2^t%2
theorem just_go:∀r,r<3->∀b,b<2->justM.go r b=min 2 (r+b):=by decide
theorem zok(t:Nat):∀(row:List Nat) (r:Nat),r<=2->justM.run r (row.map<|bitN t)=min 2 (r+fcnt row t)
 |[],r,D=>by change r=min 2 (r+0);omega
 |l::row,r,D=>by
  let U:bitN t l<2:=y2y _ 07;rw[y0t,Mc.run_cons,just_go r 01 _ U,zok t row _ 01];let e:fcnt (l::row) t=bitN t l+fcnt row t:=by
   unfold fcnt bitN;by_cases h:(l/2^t%2==1)=N
   .rw[y1y (p:=λl=>l/2^t%2==1) h,y0j];let:=beq_iff_eq.mp h;omega
   .rw[y1z (p:=λl=>l/2^t%2==1) h];let O:¬l/2^t%2=1:=λz=>h<|beq_iff_eq.mpr z;let:l/2^t%2<2:=y2y _ 07;omega
  rw[e];omega
theorem zw4:∀r,r<=2->justM.fin r=(r==1):=by decide
theorem zqb(t:Nat)(row:List Nat):justM.fin (justM.run 0<|row.map (bitN t))=(fcnt row t==1):=by
 rw[zok t row 0 07,zw4 _ 01];by_cases h:fcnt row t=1
 .rw[h];rfl
 .rw[show(fcnt row t==1)=Fa by simp[h],show(min 2 (0+fcnt row t)==1)=Fa by rw[beq_eq_false_iff_ne];omega]
theorem zu0:∀row:List Nat,(∀l∈row,l=0)->anyM.run 0 row=0
 |[],_=>rfl
 |l::row,h=>by
  rw[Mc.run_cons,h l y0a];show zu0 row λx J=>h x<|y06 _ J
def sofar(bs:List Bool)(i:Nat):List Bool:=(List.range bs.length).map λk=>decide (k<i)&&bs.getD k Fa
theorem zc2(bs:List Bool)(i:Nat):(sofar bs i).length=bs.length:=by simp[sofar]
theorem zcq(bs:List Bool)(i k:Nat)(j:k<bs.length):(sofar bs i).getD k Fa=(decide (k<i)&&bs.getD k Fa):=by
 unfold sofar;rw[y02,y03,y0p j];rfl
theorem zra(bs:List Bool):sofar bs bs.length=bs:=by
 apply y2k (zc2 bs _) λk O M=>?_;let:=zcq bs bs.length k M;rw[Xg M,y1s,y02,y00 O,y02,y00 M]at this;show this
theorem zi6(bs:List Bool)(row:List Nat):fitP (psOf bs) row=N↔∀k,k<bs.length->bs.getD k Fa=N->fcnt row k=1:=by
 unfold fitP psOf;rw[y12];constructor
 .intro h k j U;show beq_iff_eq.mp<|h k (y29.mpr ⟨y0v.mpr j,U⟩)
 .intro h k j;let(O,M):=y29.mp j;show beq_iff_eq.mpr<|h k (y0v.mp O) M
theorem zto(bs:List Bool)(row:List Nat):fitP (psOf<|sofar bs 0) row=N:=(zi6 _ _).mpr λk j U=>by
 rw[zc2]at j;rw[zcq bs 0 k j]at U;simp at U
theorem ztp(hi:i<bs.length)(U:bs.getD i Fa=N)(row:List Nat):fitP (psOf<|sofar bs (i+1)) row=(fitP (psOf<|sofar bs i) row&&(fcnt row i==1)):=by
 rw[y1t,y07,zi6,zi6,zc2,zc2,beq_iff_eq];constructor
 .intro h;apply⟨λk j z=>h k j ?_,h i hi ?_⟩
  .rw[zcq bs i k j,y07,decide_eq_true_eq]at z;rw[zcq bs _ k j,y07,decide_eq_true_eq];show⟨by omega,z.2⟩
  .rw[zcq bs _ i hi,y07,decide_eq_true_eq];show⟨by omega,U⟩
 .rintro⟨O,M⟩ k j z;rw[zcq bs _ k j,y07,decide_eq_true_eq]at z;by_cases c:k=i
  .rw[c];show M
  .exact O k j (by rw[zcq bs _ k j,y07,decide_eq_true_eq];show⟨by omega,z.2⟩)
theorem ztn(hi:i<bs.length)(U:bs.getD i Fa=Fa):sofar bs (i+1)=sofar bs i:=by
 apply y1w λk j=>?_;by_cases c:k=i
 .rw[c,U,y2h,y2h]
 .congr 1;show decide_eq_decide.mpr ⟨λz=>by omega,λz=>by omega⟩
theorem zha(ok:m.Ok)(h:m.n=1):Canon m:=by
 apply⟨⟨λr l b D Y U o=>?_,λb U I=>?_⟩,λi j hi u _=>?_⟩
 .let:=ok.go_lt D Y;omega
 .omega
 .omega
theorem zby(u x:List Nat)(k:Nat):fcnt (u++x) k=fcnt u k+fcnt x k:=by unfold fcnt;rw[y2p,y0e]
def codeF(ps u:List Nat):Option (List Bool):=if ps.any (λk=>decide (2<=fcnt u k))=N then B else G ((List.range 4).map λk=>decide (k∈ps)&&(fcnt u k==1))
theorem zxn(ps u:List Nat):codeF ps u∈B::(bools 4).map G:=by
 unfold codeF;split
 .exact y0a
 .exact y06 _<|List.mem_map_of_mem (by simpa using zgy ((List.range 4).map λk=>decide (k∈ps)&&(fcnt u k==1)))
theorem zen(h:ps.any (λk=>decide (2<=fcnt u k))=N)(x:List Nat):fitP ps (u++x)=Fa:=by
 let(k,j,e):=y1v.mp h;let e:=of_decide_eq_true e;apply y3q.mpr ⟨k,j,λz=>?_⟩;let z:=eq_of_beq z;rw[zby]at z;omega
theorem zxo(E:∀k∈ps,k<4)(e:codeF ps u=codeF ps v)(x:List Nat):fitP ps (u++x)=fitP ps (v++x):=by
 unfold codeF at e;split at e
 .rename_i h;split at e
  .rename_i h';rw[zen h,zen h']
  .cases e
 .rename_i h;split at e
  .cases e
  .rename_i h';let e:=List.map_inj_left.mp<|Option.some.inj e;let f:∀{u:List Nat},¬ps.any (λk=>decide (2<=fcnt u k))=N->∀k∈ps,fcnt u k<2:=λh k j=>Nat.lt_of_not_le λz=>h<|y1v.mpr ⟨k,j,Xg z⟩;unfold fitP;rw[y1t,y12,y12];let J:∀k∈ps,fcnt u k=fcnt v k:=λk j=>by
    let z:=e k<|y0v.mpr (E k j);rw[Xg j,y1s,y1s,y1t,beq_iff_eq,beq_iff_eq]at z;let a:=f h k j;let b:=f h' k j;omega
   show⟨λg k j=>by rw[zby,←J k j,←zby];show g k j,λg k j=>by rw[zby,J k j,←zby];show g k j⟩
theorem zny{m:Mc}(o:m.Ord):∀r,r<m.n->∃u,m.Row u/\m.run 0 u=r:=λr=>by
 induction r using Nat.strongRecOn with
 |_ r f =>
  intro D;by_cases h:r=0
  .exact⟨[],.nil m,h.symm⟩
  .let(r',l,I,Y,e):=o.par r (Nat.pos_of_ne_zero h) D;let(u,g,a):=f r' I<|y1j I D;apply⟨u++[l],λx J=>?_,by rw[m.run_snoc,a,e]⟩;rcases y0x.mp J with J|J
   .exact g x J
   .rw[y0b.mp J];show Y
theorem ztm{bs:List Bool}(h:bs.length<=4){m:Mc}(c:Canon m)(t:∀row,m.Row row->m.fin 032=fitP (psOf bs) row):m.n<=17:=by
 let Rq:=zny c.ord;let E:∀k∈psOf bs,k<4:=λk j=>y0q (ps_lt bs k j) h;letI f:=λr=>if h:r<m.n then Classical.choose (Rq r h)else[]
 let nd:((List.range m.n).map λr=>codeF (psOf bs)<|f r).Nodup:=nodup_map_on (λa d b U e=>by
  let d:=y0v.mp d;let U:=y0v.mp U;let k:∀r (D:r<m.n),m.Row (f r)/\m.run 0 (f r)=r:=λr D=>by
   change m.Row (dite _ _ _)/\m.run 0 (dite _ _ _)=r;rw[dif_pos D];show Classical.choose_spec<|Rq r D
  let w:∀r (D:r<m.n) x,m.Row x->m.fin (m.run r x)=fitP (psOf bs) (f r++x):=λr D x J=>by
   rw[←t _ λl Y=>(y0x.mp Y).elim ((k r D).1 l)<|J l];unfold Mc.run;rw[y35];show congrArg (λz=>m.fin<|List.foldl m.go z x) (k r D).2.symm
  show c.dist a b d U λx J=>by rw[w a d x J,w b U x J,zxo E e]) y3t
 let:=zdn nd (ys:=B::(bools 4).map G) λx J=>by
  let(r,_,rfl):=y0h.mp J;show zxn _ _
 simpa[bools]using this
end SM
namespace L2
section
variable {X:Cx}{pins:Y2}{σ:St}
theorem Same.sqB{K:Frag}{H H':Hp}{l:Bool}{a:Ad}{xs:List V}(g:Same H H')(h:SqB K l H a xs):SqB K l H' a xs:=by
 cases l
 .exact g.seqT h
 .exact g.seq h
def PairsL(H:Hp)(xs ys:List V)(ps:List Ad):Prop:=∀(j:Nat) p,ps[j]?=G p->∃x y,xs[j]?=G x/\ys[j]?=G y/\H p=G (.tup [x,y])
abbrev LstAt(h:Heap)(S:Ad)(ps:List Ad)(c:Nat):Prop:=h.get? S=G {cls:=.type "list",dict:=B,data:=.seq (ps.map Va.ref).toArray c,slots:=#[]}
theorem zyp(aq:xs.length=ys.length)(hn:xs.length<=1000)(D:jG z ti ro j1 j2 a b)(A:io)(hh:A.in1.handled=B)(hS:S∉[z,ti,ro,j1,j2])(res:Va)(H0:Hp):
  ∀(k i:Nat) (s:ig) (H:Hp) (c:Nat) (ps:List Ad),xs.length-i=k->i<=xs.length->02 H s->Same H0 H->(∀c∈[S,z,ti,ro,j1,j2],FpOk X pins H c)->SqB X.K l1 H a xs->SqB X.K l2 H b ys->ZipG l1 l2 s.heap z ti ro j1 j2 a b i->LstAt s.heap S ps c->ps.length=i->PairsL H xs ys ps->
  (∀s' H' ps' c',02 H' s'->Same H0 H'->FpOk X pins H' S->LstAt s'.heap S ps' c'->ps'.length=xs.length->PairsL H' xs ys ps'->Rq (.ok<|.ret res) s')->
  jc 36 A (.builtin "list.extend.loop" ⟨[.ref S,.ref z,res],[]⟩) Rq s:=by
 intro k
 induction k with
 |zero =>
  intro i s H c ps hk hi I g T d U Z hL Y E hR;let dh:i=xs.length:=by omega
  let(ft,r1,r):=I.sq d;let(bc,r2,p2):=I.sq U;let l1:=r1.length;apply iG F.entry_extend_loop ?_;rw[Around.under_plainId F.plain_extend_loop _];change wpAny _ A.in1 (j8 (.ref z)>>=_) _ _ s;apply ia<|zxu hh D Z r (by simp;omega) λh' kk=>?_;show ib<|hR _ H ps c (I.turnedL (t':=s.toks) kk λb U=>T b<|y06 _ U) g (T S<|y0a ..) (kk _ _ hS hL) 01 E
 |succ k f =>
  intro i s H c ps hk hi I g T d U Z hL Y E hR;let a8:i<xs.length:=by omega
  let gb:i<ys.length:=by omega
  let(ft,r1,r):=I.sq d;let(bc,r2,p2):=I.sq U;let(u,hu,ru):=r1.get<|y00 a8;let(v,hv,rv):=r2.get<|y00 gb;apply iG F.entry_extend_loop ?_;rw[Around.under_plainId F.plain_extend_loop _];change wpAny _ A.in1 (j8 (.ref z)>>=_) _ _ s;apply ia<|zqx D Z r p2 (x:=u) (y:=v) (by simpa using hu) (by simpa using hv) λO Z1 q1 sz1 kk=>?_;let hS':=kk _ _ hS hL;let Slt:S<s.heap.objs.size:=y0g hL;change wpAny _ A.in1 (jC S (·.push 018)>>=_) _ _ _;apply ia ?_;apply iZ hS' R (ib ⟨iU F.plain_extend_loop _,?_⟩) (by have:=small1000 (n:=ps.length) 01;simp;show y1o this) (by have:=small1000 (n:=ps.length) 01;simp;show y1o this);let oth:∀c o,c≠S->O.get? c=G o->(O.update S (Obj.mapSeq (·.push 018))).get? c=G o:=λc o C e=>(y18 _ _<|Ne.symm C).trans e;let hSn:=y1b (Obj.mapSeq (·.push 018)) hS' rfl;generalize O.update S (Obj.mapSeq (·.push 018))=M at oth hSn;let zS:∀c∈[z,ti,ro,j1,j2],c≠S:=λc C e=>hS<|e▸C;let tup2:jO M s.heap.objs.size u v:=oth _ _ (y24 Slt) q1;let Z2:ZipG l1 l2 M z ti ro j1 j2 a b (i+1):=Z1.move λc C o e=>oth c o (zS c C) e;let k2:∀c o,c∉[S,z,ti,ro,j1,j2]->s.heap.get? c=G o->M.get? c=G o:=λc o C e=>oth c o (λq=>C<|by simp[q])<|kk c o (λq=>C<|y06 _ q) e;let there:∀c∈[S,z,ti,ro,j1,j2],∃o,M.get? c=G o:=λc C=>by
   rcases y08.mp C with rfl|C
   .exact⟨_,hSn⟩
   .exact let⟨o,e,_⟩:=Z2.there c C;⟨o,e⟩
  let l:02 (upd H s.heap.objs.size<|.tup [xs[i],ys[i]]) {s with heap:=M,toks:=s.toks}:=I.turnedNew k2 T (y05 _) ⟨zah (by simp),[u,v],.cons ru<|.cons rv .nil,⟨_,tup2,R,_,R⟩⟩ there;let af:H s.heap.objs.size=B:=I.hok.fresh 08;let J:Same H (upd H s.heap.objs.size<|.tup [xs[i],ys[i]]):=za0 af _;let hlt':∀c∈[S,z,ti,ro,j1,j2],c≠s.heap.objs.size:=λc C=>by
   rcases y08.mp C with rfl|C
   .exact y0m Slt
   .exact y0m<|Z.lt C
  apply f (i+1) _ _ (c+1) (ps++[s.heap.objs.size]) 01 01 l (g.trans J) (λc C=>?_) (J.sqB d) (J.sqB U) Z2 (by change M.get? S=_;rw[hSn];simp[Obj.mapSeq]) (by simp[Y]) (λj p w=>?_) hR
  .let(f0,f1,f2,f3,Q,f5):=T c C;show⟨by rw[zak<|hlt' c C];show f0,f1,f2,f3,Q,f5⟩
  .by_cases hj:j<ps.length
   .rw[y1c hj]at w;let(x,y,L,e2,e3):=E j p w;show⟨x,y,L,e2,J _ _ e3⟩
   .let hj2:j<(ps++[s.heap.objs.size]).length:=(y0f.mp w).1;rw[y0e,y0s]at hj2;let e:j=ps.length:=by omega
    subst e;rw[y11 08,y3b]at w;injection w with w
    subst w;rw[Y];show⟨_,_,y00 a8,y00 gb,zao⟩
theorem Inv.take(I:02 H s)(f:FpOk X pins H a)(C:X.s₀.heap.get? a=B)(new:ObjOk X.prog X.w (upd H a o) s.heap a o):02 (upd H a o) s:=by
 let(d,i,_,_,j,E):=f;let up:∀b u,H b=G u->upd H a o b=G u:=λb u e=>by rw[zak λz=>by rw[z,d]at e;cases e];show e
 apply⟨I.ok,I.os,I.bare,⟨I.base.keep,I.base.slot,λb ob e k J=>?_,I.base.there,λb xs e=>up _ _<|I.base.tups b xs e,λb ob u e=>up _ _<|I.base.frzs b ob u e,λb qs ps e=>up _ _<|I.base.tbls b qs ps e⟩,I.loc,I.cell,by rw[zak<|Ne.symm i];show I.free,λx c e=>by rw[zak<|j x c e];show I.freeC x c e,λp g=>?_,λb u e=>?_,I.len⟩
 .rw[zak λz=>by rw[z,C]at e;cases e];show I.base.free b ob e k J
 .let(e,k,r):=I.pin p g;show⟨e,by rw[zak<|E p g];show k,r⟩
 .by_cases U:b=a
  .subst U;rw[zao]at e;cases e;show new
  .rw[zak U]at e;show(I.hok b u e).stay (λ_ _ _ q=>q) (λc q=>up c _ q) (λc _ _ _ _ q=>up c _ q) λc xs q=>up c _ q
theorem zo8:jl (.type "zip") "__len__"=pure B:=by rw[iJ,i0];kernel_rfl
theorem zlo:jl (.type "zip") "__length_hint__"=pure B:=by rw[iJ,i0];kernel_rfl
theorem zka:∀(ps:List Ad),Vals (ps.map V.ref) (ps.map Va.ref)
 |[]=>.nil
 |_::ps=>.cons R<|zka ps
theorem zjf(hc:X.calm=N)(aq:xs.length=ys.length)(hn:xs.length<=1000)(D:jG z ti ro j1 j2 a b)(I:02 H s)(T:∀c∈[z,ti,ro,j1,j2],FpOk X pins H c)(d:SqB X.K l1 H a xs)(U:SqB X.K l2 H b ys)
  (zf:IsZip s.heap z ti ro .none) (Z:ZipG l1 l2 s.heap z ti ro j1 j2 a b 0) (q:∀L ps H',H L=B->Same H H'->H' L=G (.lst<|ps.map V.ref)->ps.length=xs.length->PairsL H' xs ys ps->Q (.ref L) H') :
  wpAny 36 X.A (call (.type "list") [.ref z]) 037 X.xe s:=by
 let r:s.heap.objs.size∉[z,ti,ro,j1,j2]:=λhm=>y1m _<|Z.lt hm;apply callType_codes (Q₁:=λobj s₁=>obj=.ref s.heap.objs.size/\s₁={s with heap:=s.heap.push {cls:=.type "list",data:=.seq #[]} }) F.called_list (F.typeCall_list_1 _) F.entry_list_init
  (code_list_new _ ⟨R,R⟩) λobj s₁ h₁=>?_
 let(rfl,rfl):=h₁;let O:(s.heap.push {cls:=.type "list",data:=.seq #[]}).get? s.heap.objs.size=G {cls:=.type "list",data:=.seq #[]}:=y0d _ rfl;let kp:∀c o,s.heap.get? c=G o->(s.heap.push {cls:=.type "list",data:=.seq #[]}).get? c=G o:=λc o e=>y04 _ e;let C:X.s₀.heap.get? s.heap.objs.size=B:=by
  cases e:X.s₀.heap.get? s.heap.objs.size with
  |none=>rfl
  |some o=>show Xa (y0g e)<|Nat.not_lt.mpr I.sz
 let fS:FpOk X pins H s.heap.objs.size:=I.fpOk 08<|I.hok.fresh 08;generalize s.heap.objs.size=S at *;generalize s.heap.push {cls:=.type "list",data:=.seq #[]}=E at O kp;let I1:02 H {s with heap:=E,toks:=s.toks}:=I.kept kp;apply⟨⟨_,O,R⟩,F.args_list_init_2 _ _,?_⟩;change wpAny _ X.A.in1.in1 (do let old ←Builtin.List.listItems (.ref S);Builtin.List.listUpdate (.ref S) (λ_=>#[]);letGo old.toList.reverse;Builtin.List.listExtendWith (.ref S) (.ref z) .none) _ _ _;let zS:z≠S:=λe=>r (by simp[e]);apply ia ?_;unfold Builtin.List.listItems;apply ia<|iF O R (ib ?_);change wpAny _ X.A.in1.in1 (jC S (λ_=>#[])>>=λ_=>letGo (#[]:Array Va).toList.reverse>>=λ_=>Builtin.List.listExtendWith (.ref S) (.ref z) .none) _ _ _;apply ia<|iZ O R ?_;let u:=y1b (Obj.mapSeq λ_=>(#[]:Array Va)) O rfl;let oth:∀b o,b≠S->E.get? b=G o->(E.update S<|Obj.mapSeq (λ_=>(#[]:Array Va))).get? b=G o:=λb o U e=>(y18 _ _<|Ne.symm U).trans e;apply ia<|jL ?_;generalize E.update S (Obj.mapSeq λ_=>(#[]:Array Va))=M at u oth;let z2:IsZip M z ti ro .none:=oth _ _ zS<|kp _ _ zf;let v:Shared.TypeIs {s with heap:=M} (.ref z) "zip":=⟨_,z2,R⟩;unfold Builtin.List.listExtendWith;apply ia<|jq v ?_;let e1:Builtin.List.listSameRef (.ref S) (.ref z)=Fa:=by simp[Builtin.List.listSameRef,Ne.symm zS]
 let g:(Va.type "zip"==Va.type "list")=Fa:=by decide
 let e3:(Va.type "zip"==Va.type "tuple")=Fa:=by decide
 simp only[e1,g,e3,y44,y33,if_false];apply ia<|wpAny_pyIter_zip z2 ?_;apply ia<|ir ?_;unfold Builtin.List.listLengthHint;apply ia<|iS v zo8 ?_;change wpAny _ X.A.in1.in1 (specialOf (Va.ref z) (Str.ofString "__length_hint__")>>=_) _ _ _;apply ia<|iS v zlo ?_;apply ib ?_;change wpAny _ X.A.in1.in1 (rule "list.extend.makes-room">>=λ_=>Builtin.List.listTouch (.ref S)>>=λ_ =>
  again (.builtin "list.extend.loop" ⟨[.ref S,.ref z,.none],[]⟩)) _ _ _
 apply ia<|jn ?_;apply ia ?_;change wpAny _ X.A.in1.in1 (jC S (·.push .none)>>=λ_=>jC S (·.pop)) _ _ _;apply ia<|iZ u R ?_;let og:=y1b (Obj.mapSeq (·.push Va.none)) u rfl;apply iZ (hz:=by seq_fits) og R ?_;let w:=y1b (Obj.mapSeq (·.pop)) og rfl;let qz:∀b o,b≠S->M.get? b=G o->((M.update S (Obj.mapSeq (·.push Va.none))).update S (Obj.mapSeq (·.pop))).get? b=G o :=
  λb o U e=>(y18 _ _<|Ne.symm U).trans<|(y18 _ _<|Ne.symm U).trans e
 generalize(M.update S (Obj.mapSeq (·.push Va.none))).update S (Obj.mapSeq (·.pop))=A at w qz;let keep:∀b o,b≠S->s.heap.get? b=G o->A.get? b=G o:=λb o U e=>qz b o U<|oth b o U (kp b o e);let I3:02 H {s with heap:=A,toks:=s.toks}:=I.turnedL (L:=[S]) (λb o U e=>keep b o (λz=>U<|by simp[z]) e) λb U=>by rw[y0b.mp U];show fS
 let Z3:ZipG l1 l2 A z ti ro j1 j2 a b 0:=Z.move λc hc o e=>keep c o (λq=>r<|q▸hc) e;apply ib ⟨iU F.plain_extend_loop _,zyp aq hn D X.A.in1 024 r .none H xs.length 0 _ H _ [] R (y13 _) I3 (Same.refl _) (λc hc=>?_) d U Z3 w R (λj p e=>by simp at e) λs' H' f c' I' g' f' i Y hp'=>?_⟩
 .rcases y08.mp hc with rfl|hc
  .exact fS
  .exact T c hc
 .refine⟨R,.ref S,upd H' S<|.lst (f.map V.ref),I'.take f' C ⟨by rw[y01];show zah 01,_,c',zka f,i⟩,R,?_⟩;let J:Same H' (upd H' S<|.lst (f.map V.ref)):=za0 f'.1 _;show q S f _ fS.1 (g'.trans J) zao Y λj p e=>by
   let(x,y,a1,l,a3):=hp' j p e;show⟨x,y,a1,l,J _ _ a3⟩
end
def tListZipB(K:Frag)(l1 l2:Bool)(y:TA):TE:=λσ H Q=>y σ H λvs H1=>∃a b xs ys,vs=[.ref a,.ref b]/\SqB K l1 H1 a xs/\SqB K l2 H1 b ys/\xs.length=ys.length/\xs.length<=1000/\
 ∀L ps H',H1 L=B->Same H1 H'->H' L=G (.lst<|ps.map V.ref)->ps.length=xs.length->PairsL H' xs ys ps->Q (.ref L) H'
theorem zkd(C:X.calm=N)(w:Gl X "list")(o:X.mg "list"=B)(E:Gl X "zip")(T:X.mg "zip"=B)(d:PA X [a,b] y)(O:notStar a=N)(M:notStar b=N):
  PE X (.Call (.Name "list" p) [.Call (.Name "zip" p2) [a,b] [] j] [] pos) (tListZipB X.K l1 l2 y):=by
 intro pins s σ H Q I h;let z:im [b] X.env=[(Fa,eval b X.env)]:=by rw[zap M,starEach.eq_def]
 let hz:im [.Call (.Name "zip" p2) [a,b] [] j] X.env=[(Fa,eval (.Call (.Name "zip" p2) [a,b] [] j) X.env)]:=by rw[zap R,starEach.eq_def]
 apply Call_<|zdw I w o boot_list (PyProof.Rows.callWith_type1 ?_ hz R);rw[hz];apply Calls.spliced_cons<|iq (Call_<|zdw I E T boot_zip (PyProof.Rows.callWith_type1 (thn (d j pins s σ H _ I h) λus s1 zz=>ex5 zz λvs H1 I1 r1 A=>?_) (by rw[star2 O M,z])<|by rw[z];rfl)) (λv s2 hq=>Calls.spliced_nil hq) λ_ _ e=>e;let(r,l,xs,ys,e,J,Y,D,U,q):=A;subst e;let(u,v,rfl,g,f):=vals2 r1;cases(show u=Va.ref r from g);cases(show v=Va.ref l from f);let(ft,_,x):=I1.sq J;let(i,_,t2):=I1.sq Y;show zqw x t2 λh' L Z sz k=>zjf C D U (zipApart_new x.lt t2.lt) (I1.kept (t':=s1.toks) k) (λc C=>I1.fpOk (zle C)<|I1.hok.fresh (zle C)) J Y L Z q
def tListZip(K:Frag)(y:TA):TE:=λσ H Q=>y σ H λvs H1=>∃a b xs ys,vs=[.ref a,.ref b]/\SqT K H1 a xs/\SqT K H1 b ys/\xs.length=ys.length/\xs.length<=1000/\
 ∀L ps H',H1 L=B->Same H1 H'->H' L=G (.lst<|ps.map V.ref)->ps.length=xs.length->PairsL H' xs ys ps->Q (.ref L) H'
theorem zmc{X:Cx}{a b:Expr}{y:TA}{p p2 pos j:Pos}(C:X.calm=N)(w:Gl X "list")(o:X.mg "list"=B)(E:Gl X "zip")(T:X.mg "zip"=B)(d:PA X [a,b] y)(O:notStar a=N:=by rfl)(M:notStar b=N:=by rfl):
  PE X (.Call (.Name "list" p) [.Call (.Name "zip" p2) [a,b] [] j] [] pos) (tListZip X.K y):=zkd (l1:=Fa) (l2:=Fa) C w o E T d O M
end L2
namespace SM
open PySem PySem.Spec PyProof.Rows L2 SS
def zf3:Sp:=λvs H Q _=>∃(a b:Ad) (rs:List V) (ls fs:List<|List Nat),vs=[.ref a,.ref b]/\H a=G (.lst rs)/\i8 (Line H) rs ls/\ls.length<=16/\H b=G (.dT<|tabF keyL 0 fs)/\(∀l∈ls,l∈fs)/\∀p H',Same H H'->H' p=G (.tup<|(ls.map<|nOf fs).map nV)->Q 22 H'
def zdi(Rq:Hp->Prop)(T:Thg)(Gq:List Nat->Prop):Sp:=λvs H Q _=>∃(a:Ad) (t:List Nat),vs=[.ref a]/\Rq H/\H a=G (.tup<|t.map nV)/\Gq t/\∀D rs H',H D=B->Same H H'->H' D=G (.lst rs)->i8 (Line H') rs 021->Q 65 H'
def zfn(Rq:Hp->Prop)(T:Thg)(Gq:List Nat->Prop):Sp:=λvs H Q _=>∃(a:Ad) (t:List Nat),vs=[.ref a]/\Rq H/\H a=G (.tup<|t.map nV)/\Gq t/\∀H',Same H H'->Q (.bl<|T.fin t) H'
def zfp(o:Bool->Bool->Bool):Sp:=λvs H Q _=>∃a b:Bool,vs=[.bl a,.bl b]/\Q (.bl<|o a b) H
def ExQ(T:Thg)(t0:List Nat)(H:Hp)(Q:VK):Prop:=∀p O H',Same H H'->RepM H' p O->O.Ok->O.w=T.w->Canon O->(∀row,(∀l∈row,l<2^T.w)->O.fin (O.run 0 row)=T.fin (T.run t0 row))->Q 22 H'
def zd1(P:ik)(w:World)(K:Frag)(mg:Y1)(base:Heap)(I:Ad)(qs:Y3):Sp:=λvs H Q _=>∃(a d c:Ad) (fd i:i6) (T:Thg) (Gq:List Nat->Prop) (Rq:Hp->Prop) (t0:List Nat),
 vs=[nV T.w,.ref a,.ref d,.ref c]/\TabOk H I qs/\H a=G (.tup<|t0.map nV)/\H d=G (fnO fd d)/\H c=G (fnO i c)/\CloH P w K mg base 4 H d 1 (zdi Rq T Gq)/\CloH P w K mg base 4 H c 1 (zfn Rq T Gq)/\Rq H/\(∀H1 H2,Same H1 H2->Rq H1->Rq H2)/\T.w<=4/\Gq t0/\
 (∀t,Gq t->(021).length=2^T.w/\∀u∈T.step t,Gq u)/\(∀fs k,Fnd T Gq t0 fs k->fs.length<=100)/\ExQ T t0 H Q
def EndsK(K:Frag)(H:Hp)(c:Ad)(bs:List Bool):Prop:=H c=G (.tup<|bs.map V.bl)\/∀H',SqT K H' c<|bs.map V.bl
theorem EndsK.sq{K:Frag}{H:Hp}{c:Ad}{bs:List Bool}(h:EndsK K H c bs):SqT K H c (bs.map V.bl):=h.elim .of λz=>z H
theorem EndsK.ts{K:Frag}{H H':Hp}{c:Ad}{bs:List Bool}(h:EndsK K H c bs)(g:TupS H H'):EndsK K H' c bs:=h.imp (g _ _) id
def RepMK(K:Frag)(H:Hp)(a:Ad)(m:Mc):Prop:=∃(b c:Ad) (rs:List V),H a=G (.tup [nV m.w,.ref b,.ref c])/\H b=G (.tup rs)/\i8 (Line H) rs m.ways/\EndsK K H c m.ends
theorem RepM.k{K:Frag}{H:Hp}{a:Ad}{m:Mc}(h:RepM H a m):RepMK K H a m:=let⟨b,c,rs,O,M,A,L⟩:=h;⟨b,c,rs,O,M,A,.inl L⟩
theorem RepMK.ts{K:Frag}{H H':Hp}{a:Ad}{m:Mc}(h:RepMK K H a m)(g:TupS H H'):RepMK K H' a m:=by
 let(b,c,rs,O,M,A,L):=h;show⟨b,c,rs,g _ _ O,g _ _ M,L2.Paired.mapP A λ_ _ z=>z.ts g,L.ts g⟩
theorem RepMK.same{K:Frag}{H H':Hp}{a:Ad}{m:Mc}(h:RepMK K H a m)(g:Same H H'):RepMK K H' a m:=h.ts g.tups
def CMach(K:Frag)(a:Ad)(m:Mc):Prop:=∃(b c:Ad) (ls:List Ad),(∀H,SqT K H a [nV m.w,.ref b,.ref c])/\(∀H,SqT K H b<|ls.map V.ref)/\i8 (λl line=>∀H,SqT K H l<|line.map nV) ls m.ways/\∀H,SqT K H c<|m.ends.map V.bl
theorem cm_mk{K:Frag}{h:Heap}{m:Mc}{ls:List Ad}(X:K.In h)(Gq:h.Ns iu mg)(a:PySem.W.nsIn K iu x=G (G 22))(E:∀H,SqT K H p [nV m.w,.ref b,.ref c])(U:∀H,SqT K H b<|ls.map V.ref)(Y:i8 (λl line=>∀H,SqT K H l<|line.map nV) ls m.ways)(C:∀H,SqT K H c<|m.ends.map V.bl):∃q,GlV mg x (.ref q)/\CMach K q m :=
 ⟨p,⟨.ref p,PySem.W.mg_of X Gq a,R⟩,b,c,ls,E,U,Y,C⟩
def ze8(K:Frag):Sp:=λvs H Q _=>∃(a b:Ad) (l line:List Nat),vs=[.ref a,.ref b]/\H a=G (.lst<|l.map nV)/\l.length<=32/\(∀H',SqT K H' b<|line.map nV)/\(∀x∈l,x<line.length)/\
 ∀p H',Same H H'->H' p=G (.tup<|(l.map λx=>line.getD x 0).map nV)->Q 22 H'
def zes(K:Frag):Sp:=λvs H Q _=>∃(a b:Ad) (m:Mc) (ts:List Nat) (W:Nat) (f:Nat->Nat),vs=[.ref a,.ref b,nV W]/\CMach K a m/\m.Ok/\H b=G (.lst<|ts.map nV)/\ts.length<=5/\(∀t∈ts,t<=4)/\W<=4/\
 (∀l:Nat,l<2^W->loI (l:Int) ts 0=(f l:Int)/\f l<2^m.w)/\∀p H',Same H H'->RepMK K H' p (sprd m f W)->Q 22 H'
def zeu(P:ik)(w:World)(K:Frag)(mg:Y1)(base:Heap)(Y:Ad)(c:Y3)(j:Ad)(e:Y3):Sp:=λvs H Q _=>∃(a b f:Ad) (fd:i6) (i m2:Mc) (o:Bool->Bool->Bool),
 vs=[.ref a,.ref b,.ref f]/\TabOk H Y c/\TabOk H j e/\RepMK K H a i/\RepMK K H b m2/\i.Ok/\m2.Ok/\i.w=m2.w/\i.n*m2.n<=100/\H f=G (fnO fd f)/\CloH P w K mg base 2 H f 2 (zfp o)/\
 ∀p O H',Same H H'->RepM H' p O->O.Ok->O.w=i.w->Canon O->(∀row,i.Row row->O.fin (O.run 0 row)=o (i.fin<|i.run 0 row) (m2.fin<|m2.run 0 row))->Q 22 H'
def zew(K:Frag)(Y:Ad)(c:Y3)(j:Ad)(e:Y3)(L:Ad)(f:Y3)(o:Bool->Bool->Bool):Sp:=λvs H Q _=>∃(a b:Ad) (i m2:Mc),
 vs=[.ref a,.ref b]/\TabOk H Y c/\TabOk H j e/\TabOk H L f/\RepMK K H a i/\RepMK K H b m2/\i.Ok/\m2.Ok/\i.w=m2.w/\i.n*m2.n<=100/\
 ∀p O H',Same H H'->RepM H' p O->O.Ok->O.w=i.w->Canon O->(∀row,i.Row row->O.fin (O.run 0 row)=o (i.fin<|i.run 0 row) (m2.fin<|m2.run 0 row))->Q 22 H'
def bsOf(names:List Str):List Bool:=names.map isP
structure FitR(names:List Str)(m:Mc):Prop where
 ok:m.Ok
 canon:Canon m
 w:m.w=names.length
 takes:∀row,m.Row row->m.fin 032=fitP (psOf<|bsOf names) row
def zij(K:Frag)(Y:Ad)(c:Y3)(j:Ad)(e:Y3)(L:Ad)(f:Y3):Sp:=λvs H Q _=>∃(a:Ad) (names:List Str),vs=[.ref a]/\TabOk H Y c/\TabOk H j e/\TabOk H L f/\H a=G (.lst<|names.map V.str)/\FrOk names/\
 ∀p m H',Same H H'->RepMK K H' p m->FitR names m->Q 22 H'
theorem bit_lo:∀t,t<4->∀l:Nat,l<16->loI (l:Int) [t] 0=(bitN t l:Int):=by decide+kernel
theorem bsOf_at(h:names[i]?=G z):(bsOf names).getD i Fa=isP z:=by
 unfold bsOf;rw[y02,y03,h];rfl
theorem zo4(names:List Str):(bsOf names).length=names.length:=y01 _
def eachM:Mc:=mM 2 [[0,1,0,0],[1,1,1,1]] [N,Fa]
def aheadM:Mc:=mM 2 [[0,1,2,2],[1,1,1,1],[2,2,2,2]] [Fa,N,Fa]
def nextM:Mc:=mM 2 [[0,1,3,3],[3,3,2,2],[2,2,2,2],[3,3,3,3]] [Fa,Fa,N,Fa]
def ruleM(wd:Str):Mc:=if wd="ahead" then aheadM else if wd="next" then nextM else eachM
def ruleW(wd:Str):Str:=if wd="ahead" then "ahead" else if wd="next" then "next" else "within"
def seen2(i j c:Nat):Nat:=(bit c i).toNat+2*(bit c j).toNat
theorem zxg:eachM.Ok:=⟨by decide,by decide,by decide,by decide,by decide,by decide⟩
theorem zu4:aheadM.Ok:=⟨by decide,by decide,by decide,by decide,by decide,by decide⟩
theorem zwx:nextM.Ok:=⟨by decide,by decide,by decide,by decide,by decide,by decide⟩
theorem zvq(wd:Str):(ruleM wd).Ok/\(ruleM wd).w=2/\(ruleM wd).n<=4:=by
 unfold ruleM;split
 .exact⟨zu4,R,by decide⟩
 .split
  .exact⟨zwx,R,by decide⟩
  .exact⟨zxg,R,by decide⟩
theorem zvj(i j c:Nat):seen2 i j c<4:=by unfold seen2;cases bit c i<;>cases bit c j<;>decide
theorem zvk{i j c:Nat}(hi:i<4)(U:j<4)(C:c<16):loI (c:Int) [i,j] 0=(seen2 i j c:Int):=by
 let h:∀(i j:Fin 4) (c:Fin 16),loI ((c.val:Nat):Int) [i.val,j.val] 0=((seen2 i.val j.val c.val:Nat):Int):=by decide+kernel
 show h ⟨i,hi⟩ ⟨j,U⟩ ⟨c,C⟩
def bstB(wd:Str)(l:Nat)(I d:Bool):Nat:=if l<=1 then l else if l=2 then bst wd 2 I d else bst wd 3 d d
theorem sim{m:Mc}{wd:Str}{rel:List (Nat×Nat)}(hs:∀p∈rel,∀I d:Bool,(m.go p.1<|I.toNat+2*d.toNat,bstB wd p.2 I d)∈rel){i j:Nat}:∀(row:List Nat) (s l:Nat),(s,l)∈rel->(m.run s<|row.map (seen2 i j),brun wd i j l row)∈rel
 |[],s,l,h=>h
 |c::r,s,l,h=>by
  rw[y0t,Mc.run_cons,zuv];show sim hs r _ _<|hs (s,l) h (bit c i) (bit c j)
theorem zvp(wd:Str)(i j:Nat)(row:List Nat):(ruleM wd).fin ((ruleM wd).run 0<|row.map (seen2 i j))=aend (ruleW wd) (brun (ruleW wd) i j 2 row):=by
 unfold ruleM ruleW;split
 .let z:=sim (m:=aheadM) (wd:="ahead") (rel:=[(0,2),(1,1),(2,0)]) 48 (i:=i) (j:=j) row 0 2 07;let f:∀p∈([(0,2),(1,1),(2,0)]:List<|Nat×Nat),aheadM.fin p.1=aend "ahead" p.2:=by decide+kernel
  show f _ z
 .split
  .let z:=sim (m:=nextM) (wd:="next") (rel:=[(0,2),(1,3),(2,1),(3,0)]) 48 (i:=i) (j:=j) row 0 2 07;let f:∀p∈([(0,2),(1,3),(2,1),(3,0)]:List<|Nat×Nat),nextM.fin p.1=aend "next" p.2:=by decide+kernel
   show f _ z
  .let z:=sim (m:=eachM) (wd:="within") (rel:=[(0,2),(1,0)]) 48 (i:=i) (j:=j) row 0 2 07;let f:∀p∈([(0,2),(1,0)]:List<|Nat×Nat),eachM.fin p.1=aend "within" p.2:=by decide+kernel
   show f _ z
structure BareM(tl:List Str)(wd:Str)(i j:Nat)(m:Mc):Prop where
 ok:m.Ok
 canon:Canon m
 w:m.w=tl.length
 fin:∀row,m.Row row->m.fin 032=(aend (ruleW wd) (brun (ruleW wd) i j 2 row)&&fitP (psOf<|bsOf tl) row)
def zq5(K:Frag):Sp:=λvs H Q _=>∃wd:Str,vs=[.str wd]/\∀p,CMach K p (ruleM wd)->Q 22 H
theorem zuz(Bq:BareM tl wd i j M)(a:BareM tl wd i j M'):M=M':=by
 apply zdb (by rw[Bq.w,a.w]) Bq.ok a.ok Bq.canon a.canon λrow D=>?_;rw[Bq.fin row D,a.fin row λc C=>by rw[a.w,←Bq.w];show D c C]
end SM
namespace PySem.F
theorem slot_revit_next:Slot "list_reverseiterator" "__next__" "list_reverseiterator.__next__" :=
 .of (owner:="list_reverseiterator") (n:="__next__") (by rw[iJ,i0];kernel_rfl) 48 48 48
  (by first|show .inl (by decide+kernel)|show .inr (by decide+kernel)) (by rw[iI];kernel_rfl)
theorem slot_revit_iter:Slot "list_reverseiterator" "__iter__" "list_reverseiterator.__iter__" :=
 .of (owner:="list_reverseiterator") (n:="__iter__") (by rw[iJ,i0];kernel_rfl) 48 48 48
  (by first|show .inl (by decide+kernel)|show .inr (by decide+kernel)) (by rw[iI];kernel_rfl)
theorem entry_revit_iter:entryFor table "list_reverseiterator.__iter__"=G Builtin.«dict_keyiterator.__iter__» :=
 entryFor_alias (id':="dict_keyiterator.__iter__") (by kernel_rfl) (by first|rfl|decide+kernel|(unfold String.splitOn;simp+decide [String.splitOnAux])) (by decide+kernel) (by kernel_rfl)
theorem args_revit_iter(a:Va):argsOk "list_reverseiterator.__iter__" ⟨[a],[]⟩:=by unfold argsOk;kernel_rfl
theorem zeg:mroOf (.type "reversed")=pure [.type "reversed",.type "object"]:=by rw[mroOf_type];kernel_rfl
theorem zdu:jl (.type "reversed") "__new__"=pure (G<|.builtin "reversed.__new__"):=by rw[iJ,i0];kernel_rfl
theorem zd3:Slot "reversed" "__init__" "object.__init__" :=
 .of (owner:="object") (n:="__init__") (by rw[iJ,i0];kernel_rfl) 48 48 48
  (by first|show .inl (by decide+kernel)|show .inr (by decide+kernel)) (by rw[iI];kernel_rfl)
theorem called_reversedZ:TypeCalled "reversed" "reversed.__new__" "object.__init__" :=
 ⟨by decide+kernel,by decide+kernel,⟨_,_,zeg⟩,madeBy_type zeg zdu 48,by decide+kernel,by rw[iI];kernel_rfl,zd3⟩
theorem typeCall_reversed_1Z(a:Va):checkTypeCall "reversed" ⟨[a],[]⟩=pure ():=by kernel_rfl
theorem newCall_reversed_1Z(a:Va):jT "reversed.__new__" ⟨[.type "reversed",a],[]⟩=pure ():=by kernel_rfl
theorem entry_reversed_newZ:entryFor table "reversed.__new__"=G Builtin.«reversed.__new__»:=entryFor_of_tree (by kernel_rfl)
theorem sub_reversedZ:isSubtype (.type "reversed") (.type "reversed")=pure N:=by rw[iI];kernel_rfl
theorem sub_revit_reversedZ:isSubtype (.type "list_reverseiterator") (.type "reversed")=pure Fa:=by rw[iI];kernel_rfl
end PySem.F
namespace L2
section
variable {prog:ik}{w:World}{A:io}{E:Y0}{s:ig}
def IsRev(h:Heap)(it a:Ad)(i:Int):Prop:=h.get? it=G {cls:=.type "list_reverseiterator",data:=.fields #[.ref a,i9 i]}
theorem IsRev.typeIs(x:IsRev s.heap it a i):s.TypeIs 014 "list_reverseiterator":=⟨_,x,R⟩
theorem zw6(x:IsRev s.heap it a i)(h:Q 014 s):wpAny 88 A (jV 014) Q E s:=by
 apply jw x.typeIs F.slot_revit_iter<|i5 F.slot_revit_iter x.typeIs F.entry_revit_iter ?_ (F.args_revit_iter _);change wpAny _ _ (ret 014) _ _ s;show ib ⟨_,R,"list_reverseiterator",_,x.typeIs,F.slot_revit_next.lookup,h⟩
theorem zei(l:Ad)(items:Array Va)(n:Nat)(dct:Option Ad)(sl:Y8):
  Meets (Builtin.«reversed.__new__» ⟨[.type "reversed",.ref l],[]⟩) (λ_ Rq s=>s.heap.get? l=G {cls:=.type "list",dict:=dct,data:=.seq items n,slots:=sl}/\
   Rq (.ok<|.ret 018) {s with heap:=s.heap.push {cls:=.type "list_reverseiterator",data:=.fields #[.ref l,i9<|(items.size:Int)-1]} }) :=
 .of_wp λprog w A Rq s h=>by
  let(hp,g,d,tk,os):=s;let(hl,h):=h;let hsub:=F.sub_reversedZ;let hL:Heap.IsList (Shared.heap ⟨hp,g,d,tk,os⟩) l items:=⟨_,hl,R,n,R⟩;let hT:Shared.TypeIs ⟨hp,g,d,tk,os⟩ (.ref l) "list":=⟨_,hl,R⟩;let hlk:=F.slot_list_reversed.lookup;let hbd:=F.slot_list_reversed.bind<|.ref l
  wp_walk using AutoSeq1.wpAny_loadPart' hl
  apply j7 F.slot_list_reversed.plain F.entry_list_reversed<|F.slot_list_reversed.check _ _ _ _ _ _ _ _ hT (F.args_list_reversed_1 _) ?_
  wp_walk using AutoSeq1.wpAny_loadPart' hl
  show⟨_,R,h⟩
theorem zhc(ft:TypeCalled T newId initId)
  (hct:checkTypeCall T ⟨args,[]⟩=pure ()) (hcn:jT newId ⟨.type T::args,[]⟩=pure ())
  (entryN:entryFor table newId=G Bn) (g:Meets (Bn ⟨.type T::args,[]⟩) S) (hno:isSubtype (.type T') (.type T)=pure Fa)
  (h:S A.in1 (wants Q₁ E) s) (hnext:∀obj s₁,Q₁ obj s₁->s₁.TypeIs obj T'/\Q obj s₁) :
  wpAny 88 A (call (.type T) args) Q E s:=by
 let(c,tl,hmro):=ft.mro;let hmade:=ft.made;let hsub:=ft.sub;apply ji<|jr ?_;change wpAny _ _ (callAny (.type T) _) _ _ _;apply ib ⟨Code.quiet_builtin _ 48,iG F.entry_type_call ?_⟩;rw[Around.under_plain (weight_type_call_type T args [])<|units_type_call_type T args []];let h1:=ft.notType;let h2:=ft.canCreate
 repeat (any_goals (first|assumption|wp_step))
 apply iH (j7 ft.plain entryN<|wpAny_of_eq hcn (g prog w A.in1 _ s h)) λr s₁ hr=>?_;cases r with
 |error e=>show hr
 |ok fl =>
  cases fl with
  |ret obj =>
   let(hT,hq):=hnext _ _ hr
   repeat (any_goals (first|assumption|wp_step))
  |_=>show hr.elim
theorem zje(i:s.heap.IsList l items)
  (h:∀h',IsRev h' s.heap.objs.size l ((items.size:Int)-1)->(∀b o,s.heap.get? b=G o->h'.get? b=G o)->Q 018 {s with heap:=h'}) :
  wpAny 88 A (call (.type "reversed") [.ref l]) Q E s:=by
 let((c,a,O,y),Y,C,n,hd):=i;replace C:c=.type "list":=C;replace hd:O=.seq items n:=hd;subst C hd;apply zhc (Q₁:=λv s₁=>v=.ref s.heap.objs.size/\s₁={s with heap:=s.heap.push {cls:=.type "list_reverseiterator",data:=.fields #[.ref l,i9<|(items.size:Int)-1]} }) F.called_reversedZ (F.typeCall_reversed_1Z _) (F.newCall_reversed_1Z _) F.entry_reversed_newZ (zei l items n a y) F.sub_revit_reversedZ ⟨Y,R,R⟩ ?_;rintro obj s₁ ⟨rfl,rfl⟩;show⟨⟨_,y0d _ R,R⟩,h _ (y0d _ R) λb o e=>y04 _ e⟩
end
def Itv(K:Frag)(a:Ad)(n:Nat):It :=
 ⟨λi H=>i<n/\∃xs x,SqL K H a xs/\xs[n-1-i]?=G x,λi H x H'=>H'=H/\∀xs,SqL K H a xs->xs[n-1-i]?=G x,λi H=>n=i⟩
def iRev(K:Frag)(y:TA):TI:=λσ H Rq=>y σ H λvs H1=>∃a,vs=[.ref a]/\∃xs,SqL K H1 a xs/\Rq (Itv K a xs.length) H1
theorem zjk:ja "reversed"=G (.type "reversed"):=by rfl
open PySem
abbrev Rise(xs:Array Nat):Prop:=xs.toList.Pairwise (· < ·)
theorem zio(h:Rise xs)(a:i<j)(U:j<xs.size):xs.getD i 0<xs.getD j 0:=by
 let:=List.pairwise_iff_getElem.mp h i j (by simpa using y1j a U) (by simpa using U) a;simp only[Array.getElem_toList]at this;rw[Array.getD,Array.getD,dif_pos<|y1j a U,dif_pos U];show this
theorem zjl(h:Rise xs)(j:Nat):∀(a lo hi:Nat),lo<=hi->hi<=xs.size->hi-lo<=a->(∀i,i<lo->xs.getD i 0<j)->(∀i,hi<=i->i<xs.size->j<=xs.getD i 0)->
  SetTable.below.go xs j a lo hi<=xs.size/\(∀i,i<SetTable.below.go xs j a lo hi->xs.getD i 0<j)/\∀i,SetTable.below.go xs j a lo hi<=i->i<xs.size->j<=xs.getD i 0
 |0,lo,hi,O,M,A,L,E=>by
  let e:lo=hi:=by omega
  unfold SetTable.below.go;show⟨by omega,L,λi z=>E i 01⟩
 |a+1,lo,hi,O,M,A,L,E=>by
  unfold SetTable.below.go;by_cases c:lo<hi
  .rw[Xq c];let Y:(lo+hi)/2<xs.size:=by omega
   let e:xs.getD ((lo+hi)/2) j=xs.getD ((lo+hi)/2) 0:=by rw[Array.getD,Array.getD,dif_pos Y,dif_pos Y]
   change _/\_/\_;simp only;by_cases U:xs.getD ((lo+hi)/2) j<j
   .rw[Xq U];apply zjl h j a ((lo+hi)/2+1) hi 01 M 01 (λi z=>?_) E;by_cases d:i=(lo+hi)/2
    .rw[d,←e];show U
    .exact y1j (zio h (j:=(lo+hi)/2) 01 Y) (by rw[←e];show U)
   .rw[Xp U];apply zjl h j a lo ((lo+hi)/2) 01 01 01 L λi z hs=>?_;by_cases d:i=(lo+hi)/2
    .rw[d,←e];omega
    .let:=zio h (i:=(lo+hi)/2) (j:=i) 01 hs;rw[e]at U;omega
  .rw[Xp c];show⟨by omega,L,λi z=>E i 01⟩
theorem ze7(h:Rise xs)(j:Nat):SetTable.below xs j<=xs.size/\(∀i,i<SetTable.below xs j->xs.getD i 0<j)/\∀i,SetTable.below xs j<=i->i<xs.size->j<=xs.getD i 0 :=
 zjl h j xs.size 0 xs.size (y13 _) 08 01 (λi hi=>Xa hi<|y2z _) λi O M=>by omega
theorem zqu(h:Rise xs)(hi:i<xs.size):SetTable.below xs (xs.getD i 0+1)=i+1:=by
 let(O,M,A):=ze7 h<|xs.getD i 0+1;by_cases c:SetTable.below xs (xs.getD i 0+1)<=i
 .let:=A i c hi;omega
 .by_cases U:SetTable.below xs (xs.getD i 0+1)=i+1
  .exact U
  .let:=M (i+1) 01;let:=zio h (i:=i) (j:=i+1) 01 01;omega
theorem zqt(h:Rise xs):SetTable.below xs 0=0:=by
 let(O,M,A):=ze7 h 0;by_cases c:SetTable.below xs 0=0
 .exact c
 .let:=M 0 01;omega
theorem zi3(xs:Array D)(p:Nat)(x:D):(SetTable.insertAt xs p x).toList=xs.toList.take p++x::xs.toList.drop p:=by
 unfold SetTable.insertAt;rw[Array.toList_append,y3r,Array.toList_extract,Array.toList_extract];simp;show y0l 05
theorem zl5(h:Rise xs)(U:xs[SetTable.below xs j]? ≠ G j):Rise (SetTable.insertAt xs (SetTable.below xs j) j):=by
 let(O,M,A):=ze7 h j;change(SetTable.insertAt xs (SetTable.below xs j) j).toList.Pairwise (· < ·);rw[zi3];generalize SetTable.below xs j=p at *;let at':∀i (hi:i<xs.size),xs.getD i 0=xs.toList[i]'(by simpa using hi):=λi hi=>by rw[Array.getD,dif_pos hi];simp
 let g:∀i,p<=i->i<xs.size->j<xs.getD i 0:=λi E hi=>by
  let v:=A i E hi;by_cases c:i=p
  .subst c;let D:xs.getD i 0≠j:=λe=>U (by rw[y1l hi,←e,Array.getD,dif_pos hi];rfl);omega
  .let L:=A p 08 01;let:=zio h (i:=p) (j:=i) 01 hi;omega
 apply List.pairwise_append.mpr ⟨h.sublist<|List.take_sublist _ _,y3l.mpr ⟨λy C=>?_,h.sublist<|List.drop_sublist _ _⟩,λx J y C=>?_⟩
 .let(i,hi,e):=y1n C;rw[List.getElem_drop]at e;let z:p+i<xs.size:=by rw[y1h]at hi;simp at hi;omega
  rw[←e,←at' _ z];show g _ 01 z
 .let a:x<j:=by
   let(i,hi,e):=y1n J;rw[List.getElem_take]at e;let z:i<p/\i<xs.size:=by rw[y0w]at hi;simp at hi;omega
   rw[←e,←at' _ z.2];show M i z.1
  rcases y08.mp C with rfl|C
  .exact a
  .let(i,hi,e):=y1n C;rw[List.getElem_drop]at e;let z:p+i<xs.size:=by rw[y1h]at hi;simp at hi;omega
   rw[←e,←at' _ z];let:=g (p+i) 01 z;omega
structure Tb(led:Bool)(t:jo):Prop where
 rise:Rise t.place
 led:t.led=led
 dum:t.dummies=#[]
theorem zvc(f m:Nat)(led:Bool):Tb led (.fresh f m led):=⟨List.Pairwise.nil,R,R⟩
theorem zdg(h:Tb led t)(n:Nat):Tb led (t.standIn n):=⟨by
 change(Array.range n).toList.Pairwise (· < ·);rw[Array.toList_range];show y39,h.led,R⟩
theorem tb_or(h:Tb led t)(n:Nat):Tb led (t.orStandIn n):=by
 unfold SetTable.orStandIn;split
 .exact h
 .exact zdg h n
theorem zx8{t:jo}(h:t.dummies=#[])(j:Nat):SetTable.has t.dummies j=Fa:=by
 rw[h];unfold SetTable.has;rfl
theorem zgf{t:jo}(hd:t.dummies=#[])(hashAt:Nat->Int)(h:Int):∀(a:Nat) (p:SetTable.Probe) (j:Nat) (d:Option Nat),p.dummy=B->SetTable.probe.go t hashAt h a p=G (.empty j d)->d=B/\t.slot j=.empty
 |0,p,j,d,_,e=>by unfold SetTable.probe.go at e;cases e
 |a+1,p,j,d,E,e=>by
  unfold SetTable.probe.go at e;let f:∀q:SetTable.Probe,(t.advance q).dummy=q.dummy:=λq=>by unfold SetTable.advance;split<;>rfl
  cases c:t.slot p.j with
  |empty =>
   rw[c]at e;simp only[Option.some.injEq,SetTable.Met.empty.injEq]at e;let(rfl,rfl):=e;show⟨E,c⟩
  |dummy =>
   exfalso;unfold SetTable.slot at c;simp only[zx8 hd]at c;split at c<;>cases c
  |live i =>
   rw[c]at e;simp only at e;split at e
   .cases e
   .exact zgf hd hashAt h a _ j d (by rw[f];show E) e
theorem tb_put{t:jo}(h:Tb led t)(U:t.slot j=.empty):Tb led (t.put j).1:=by
 apply⟨zl5 h.rise λe=>?_,h.led,?_⟩
 .unfold SetTable.slot at U;simp only[e,beq_self_eq_true,if_true]at U;cases U
 .change(if SetTable.has t.dummies j then _ else t.dummies)=#[];rw[zx8 h.dum];show h.dum
theorem zq3(h:Tb led t)(l:Array<|Int×Va)(k:Int)(x:Va):Tb led (layNew t l k x).2.1/\(layNew t l k x).2.2.1=Fa:=by
 unfold layNew;cases c:t.freeSlot k with
 |none=>show⟨zdg h _,R⟩
 |some p =>
  let(slot,wd):=p;unfold SetTable.freeSlot at c;cases U:t.probe (λ_=>k+1) k (t.probeStart k)with
  |none=>rw[U]at c;cases c
  |some m =>
   rw[U]at c;cases m with
   |candidate j i nx=>cases c
   |empty j d =>
    let(rfl,f):=zgf h.dum _ _ _ _ _ _ R U;simp only[Option.some.injEq,Prod.mk.injEq]at c;let(rfl,rfl):=c;show⟨tb_or (tb_put h f) _,R⟩
theorem zs8{led plain:Bool}(e:SetTable.laid g i p led plain hs=G (t,o)):Tb led t:=by
 unfold SetTable.laid at e;cases c:SetTable.layClean g hs with
 |none=>rw[c]at e;cases e
 |some owner =>
  rw[c]at e;simp only[Option.bind_eq_bind,Option.bind_some,Option.pure_def,Option.some.injEq,Prod.mk.injEq]at e;let(rfl,rfl):=e;apply⟨?_,R,R⟩;change List.Pairwise (· < ·) (List.map (λx:Nat×Nat=>x.1) ((List.range<|g+1).filterMap λj=>(owner.getD j B).map (j,·)));let:∀l:List Nat,((l.filterMap λj=>(owner.getD j B).map (j,·)).map (·.1)).Sublist l:=λl=>by
   induction l with
   |nil=>show List.Sublist.refl _
   |cons a l f =>
    rw[y22];cases d:owner.getD a B with
    |none=>show .cons _ f
    |some v=>show .cons_cons _ f
  show y39.sublist<|this _
theorem zu9(h:Tb led t)(l:Array<|Int×Va)(n:Nat):Tb led (lg t l n).2.1:=by
 unfold lg;cases c:t.relaid (l.map (·.1)) n with
 |none=>show zdg h _
 |some p =>
  let(t',o):=p;let:=zs8 c;rw[h.led]at this;simp only;split
  .exact this
  .exact zdg h _
theorem zry(next:Nat->Nat):∀(a k:Nat) (left:List D) (out:Array D),left.length=a->(pickOrder.go next a k left out).toList.Perm (out.toList++left)
 |0,k,left,out,h=>by
  unfold pickOrder.go;rw[List.length_eq_zero_iff.mp h,y1g]
 |a+1,k,left,out,h=>by
  unfold pickOrder.go;let o:next k%left.length<left.length:=y2y _ 01
  rw[y00 o];simp only;apply(zry next a (k+1) (left.eraseIdx (next k%left.length)) (out.push left[next k%left.length])<|by rw[y3x o];omega).trans ?_;rw[y3r,y2e,y4c];apply List.Perm.append_left _ ?_;generalize next k%left.length=i at o
  let e:left=left.take i++left[i]::left.drop (i+1):=by rw[y47,y3d]
  conv=>rhs;rw[e]
  rw[y3p];show(List.perm_middle).symm
theorem zrx(next:Nat->Nat)(xs:Array D):(pickOrder next xs).toList.Perm xs.toList:=by
 let:=zry next xs.size 0 xs.toList #[] (by simp)
 rw[show(#[]:Array D).toList=[]from rfl,y2m]at this;show this
section
variable {P:ik}{w:World}{T:Type}[DecidableEq T]{knd:KeyKind P w T}{A:io}{E:Y0}{s:ig}{led:Bool}
def SetT(knd:KeyKind P w T)(led:Bool)(h:Heap)(a:Ad)(S:T->Bool)(n:Nat):Prop :=
 ∃o l ep t,h.get? a=G o/\o.ExactSet/\o.data=.set l ep t/\(ElemsOf knd l.toList/\∀k,S k=N↔∃e∈l.toList,knd.is k e.2=N)/\(l.size<iV/\t.fits l.size=N/\l.size=n)/\Tb led t/\l.toList.Pairwise λx y=>∀k,knd.is k x.2=N->knd.is k y.2=Fa
theorem SetT.kept(x:SetT knd led h a S n)(k:∀o,h.get? a=G o->h'.get? a=G o):SetT knd led h' a S n :=
 let⟨o,l,ep,t,e,r⟩:=x;⟨o,l,ep,t,k o e,r⟩
theorem SetT.congr(x:SetT knd led h a S n)(e:∀k,S k=S' k)(r:n=n'):SetT knd led h a S' n':=by
 let:S=S':=funext e;subst this;subst r;show x
theorem zva(h:Tb led t):Tb led {t with plain:=Fa}:=⟨h.rise,h.led,h.dum⟩
theorem zib{l l':List (Int×Va)}(h:l.Pairwise λx y=>∀k,knd.is k x.2=N->knd.is k y.2=Fa)(p:l'.Perm l):l'.Pairwise λx y=>∀k,knd.is k x.2=N->knd.is k y.2=Fa :=
 p.symm.pairwise h λ{x y} z k j=>by
  cases c:knd.is k x.2 with
  |false=>rfl
  |true=>rw[z k c]at j;cases j
theorem znw{h:Heap}{o:Obj}(D:h.get? a=G o)(J:o.ExactSet)(hd:o.data=.set l ep t){fs:Array (Int×Va)}{u:jo}
  (O:ElemsOf knd fs.toList) (M:∀k,S k=N↔∃e∈fs.toList,knd.is k e.2=N) (p:fs.size<iV) (L:u.fits fs.size=N) (I:Tb led u) (r:fs.toList.Pairwise λx y=>∀k,knd.is k x.2=N->knd.is k y.2=Fa) :
  (h.update a<|Obj.putSet fs u).get? a=G {o with data:=.set fs (ep+1) u}/\SetT knd led (h.update a<|Obj.putSet fs u) a S fs.size :=
 let z:=(SetOf_store (knd:=knd) (S':=S) D J hd O M p L).1
 ⟨z,_,fs,ep+1,u,z,J,R,⟨O,M⟩,⟨p,L,R⟩,I,r⟩
theorem znv{g:Bool->Sem Unit}(j:∀(b:Bool) (s1:ig) (Rq:Unit->ig->Prop),Rq () s1->wpAny 81 A (g b) Rq E s1){a:Ad}{o:Obj}{l:Array (Int×Va)}{ep:Nat}{t:jo}
  (D:s.heap.get? a=G o) (J:o.ExactSet) (hd:o.data=.set l ep t) {fs:Array (Int×Va)} {u:jo} {S:T->Bool} (O:ElemsOf knd fs.toList) (M:∀k,S k=N↔∃e∈fs.toList,knd.is k e.2=N)
  (Y:fs.size<iV) (L:u.fits fs.size=N) (I:Tb led u) (r:fs.toList.Pairwise λx y=>∀k,knd.is k x.2=N->knd.is k y.2=Fa) {wd:Bool} {Rq:Option Bool->ig->Prop}
  (h:∀h',Heap.SameBut a s.heap h'->SetT knd led h' a S fs.size->Rq (G N) {s with heap:=h'}) :
  wpAny 81 A (do
    storeSet a fs u
    if(!wd&&u.tooFull)=N then do
      g (lg u fs<|SetTable.grown fs.size).2.2
      storeSet a (lg u fs<|SetTable.grown fs.size).1 (lg u fs<|SetTable.grown fs.size).2.1
      pure (G N)
     else pure (G N)) Rq E s:=by
 apply ia<|wpAny_storeSet_of D hd ?_ (fits_of_scanBound Y);let(H,C):=znw (S:=S) D J hd O M Y L I r;let z:=Heap.SameBut.update s.heap a<|Obj.putSet fs u;split
 .let p:=relayAll_perm u fs<|SetTable.grown fs.size;let f:=relayAll_fits u fs<|SetTable.grown fs.size;let c:=zu9 I fs<|SetTable.grown fs.size;generalize lg u fs (SetTable.grown fs.size)=Z at p f c ⊢;let(i,v,U):=Z;dsimp only at p f c ⊢;let sz:i.size=fs.size:=by rw[←y16,p.length_eq,y16]
  let d:i.size<iV:=by rw[sz];show Y
  apply ia<|j _ _ _ (ia<|wpAny_storeSet_of H R ?_ (fits_of_scanBound d));let(_,Q):=znw (knd:=knd) (S:=S) H J R (O.perm p) (λk'=>(M k').trans ⟨λ⟨e,m,q⟩=>⟨e,p.mem_iff.mpr m,q⟩,λ⟨e,m,q⟩=>⟨e,p.mem_iff.mp m,q⟩⟩) d f c<|zib r p;rw[sz]at Q;show ib<|h _ (z.trans<|Heap.SameBut.update _ a _) Q
 .exact ib<|h _ z C
theorem zy5{a:Ad}{S:T->Bool}{n:Nat}{k:T}{x:Va}{Q:Bool->ig->Prop}(hk:knd.is k x=N)(hs:x.scannable=N)(x0:SetT knd led s.heap a S n)(room:n+1<iV)
  (h:∀h',Heap.SameBut a s.heap h'->SetT knd led h' a (λk'=>S k'||decide (k'=k)) (if S k then n else n+1)->Q (!S k) {s with heap:=h'}):wpAny (model P w) A (setAddHashed a x<|knd.hash k) Q E s:=by
 let(o,l,ep,t,D,J,hd,(O,M),(h3,L,I),tb,r):=id x0;unfold setAddHashed setAddHashedIn;apply ir<|ia (iR D hd L ?_);dsimp only;rw[byScan_of hs h3 O];simp only[↓reduceIte];unfold setAddByScan;apply ia<|ia (jn<|ia (wpAny_setScan_of hk D hd L O ?_));cases c:List.findIdx? (λe=>knd.is k e.2) l.toList with
 |some j =>
  dsimp only;let(U,hp,_):=List.findIdx?_eq_some_iff_getElem.mp c;let v:S k=N:=(M k).mpr ⟨_,y0c U,hp⟩;let z:=h s.heap (Heap.SameBut.refl a s.heap) (x0.congr (λk'=>by
   cases e:S k' with
   |true=>rfl
   |false=>rw[y45,eq_comm,decide_eq_false_iff_not];intro q;rw[q,v]at e;cases e) (by rw[v];rfl))
  rw[v]at z;apply ib<|ib ?_;cases s;show z
 |none =>
  dsimp only;let g:=List.findIdx?_eq_none_iff.mp c;let v:S k=Fa:=y1i.mpr λz=>by
   let(e,m,q):=(M k).mp z;rw[g e m]at q;cases q
  let f:=layNew_perm t l (knd.hash k) x;let p:=layNew_fits t l (knd.hash k) x;let(lt,ld):=zq3 tb l (knd.hash k) x;generalize layNew t l (knd.hash k) x=Z at f p lt ld ⊢;let(fs,u,wd,i):=Z;dsimp only at f p lt ld ⊢;rw[y3r]at f;let i1:ElemsOf knd fs.toList:=(O.push hk hs).perm f;let i2:∀k',(S k'||decide (k'=k))=N↔∃e∈fs.toList,knd.is k' e.2=N:=mem_push_iff hk M f;let sz:fs.size=n+1:=by rw[←y16,f.length_eq,y0e,y16,I];rfl
  let d:fs.size<iV:=by rw[sz];show room
  let ip:fs.toList.Pairwise λx y=>∀k,knd.is k x.2=N->knd.is k y.2=Fa:=by
   apply zib (List.pairwise_append.mpr ⟨r,List.pairwise_singleton _ _,λy C z hz k' Y=>?_⟩) f;rw[y0b.mp hz];cases q:knd.is k' x with
   |false=>rfl
   |true =>
    let e:=knd.inj x k' k q hk;rw[e,g y C]at Y;cases Y
  let fin:∀h',Heap.SameBut a s.heap h'->SetT knd led h' a (λk'=>S k'||decide (k'=k)) fs.size->Q N {s with heap:=h'}:=λh' b z=>by
   let:=h h' b;rw[v]at this;rw[sz]at z;show this z
  apply ia ?_;let H:∀(b:Bool) (s1:ig) (Rq:Unit->ig->Prop),Rq () s1->wpAny 81 A (match b with|true=>rule "set.scan.the-table-gave-way"|false=>pure ()) Rq E s1:=λb s1 Rq q=>by cases b<;>first|show ib q|show jn q
  apply H _ _ _ ?_;split
  .refine ia ?_;rw[hashByValue_scannable 8 hs];apply ib<|znv (led:=led) H D J hd i1 i2 d ?_ ?_ ip λh' b z=>?_
   .split
    .exact p
    .exact SetTable.fits_plain_off p
   .split
    .exact lt
    .exact zva lt
   .dsimp only;show ib<|fin h' b z
  .refine ia<|ib ?_;simp only[↓reduceIte];apply znv (led:=led) H D J hd i1 i2 d p lt ip λh' b z=>?_;dsimp only;show ib<|fin h' b z
end
theorem slot_setit_next:Slot "set_iterator" "__next__" "set_iterator.__next__" :=
 .of (owner:="set_iterator") (n:="__next__") (by rw[iJ,i0];kernel_rfl) 48 48 48 (by first|show .inl (by decide+kernel)|show .inr (by decide+kernel)) (by rw[iI];kernel_rfl)
theorem zcz:entryFor table "set_iterator.__next__"=G Builtin.«set_iterator.__next__»:=entryFor_of_fast (by kernel_rfl)
theorem zdd(v:Va):argsOk "set_iterator.__next__" ⟨[v],[]⟩:=by unfold argsOk;kernel_rfl
theorem zg8:entryFor table "set.__iter__"=G Builtin.«frozenset.__iter__»:=entryFor_alias (id':="frozenset.__iter__") (by kernel_rfl) R 48 (by kernel_rfl)
noncomputable def byT(w:World):Bool:=w.params.followText "set-order"
inductive Way where
 |text
 |drawn (pt:Ad) (pl:List Nat)
 |place
noncomputable def ordOf(w:World)(a:Ad)(l:Array<|Int×Va)(ep:Nat):Way->List (Int×Va)
 |.text=>(pickOrder (w.params.setOrder a ep) l).toList
 |.drawn _ c=>c.filterMap λi=>l[i]?
 |.place=>l.toList
def WayOk(w:World)(l:Array<|Int×Va)(t:jo):Way->Prop
 |.text=>byT w=N
 |.drawn _ c=>byT w=Fa/\(!t.plain&&decide (l.size>1))=N/\c.Perm (List.range l.size)
 |.place=>byT w=Fa/\(!t.plain&&decide (l.size>1))=Fa
def FirstIs(h:Heap)(t:jo)(i:Nat)(v:Va):Way->Prop
 |.text=>v=.int 0 0
 |.drawn pt c=>v=.ref pt/\∃o n,h.get? pt=G o/\o.data=.seq (c.map λj:Nat=>i9 j).toArray n
 |.place=>∃j:Nat,v=.int j 0/\SetTable.below t.place j=i
structure SetSt(w:World)(it a:Ad)(es:Array<|Int×Va)(ep:Nat)(t:jo)(y:Way)(i:Nat)(h:Heap):Prop where
 st:∃o,h.get? a=G o/\o.data=.set es ep t
 it:∃o v,h.get? it=G o/\o.cls=.type "set_iterator"/\o.data=.fields #[v,.int i 0,.ref a,.int es.size 0,.int ep 0]/\FirstIs h t i v y
theorem ztl{D p:Type}{f:D->Option p}{g:D->p}:∀(l:List D),(∀x∈l,f x=G (g x))->l.filterMap f=l.map g
 |[],_=>rfl
 |x::l,h=>by rw[y22,h x y0a,y0t,ztl l λy C=>h y<|y06 _ C]
section
variable {P:ik}{w:World}{A:io}{E:Y0}{s:ig}
theorem ziu(h:WayOk w l t y):(ordOf w a l ep y).Perm l.toList:=by
 cases y with
 |text=>show zrx _ _
 |place=>show .refl _
 |drawn pt c =>
  let e:l.toList=(List.range l.size).filterMap λi=>l[i]?:=by
   apply y1p λi=>?_;let:((List.range l.size).filterMap λi=>l[i]?)=(List.range l.size).map λi=>l.getD i default:=by
    apply ztl _ λi hi=>?_;rw[y1l<|y0v.mp hi,Array.getD,dif_pos<|y0v.mp hi];rfl
   rw[this,y03];by_cases hi:i<l.size
   .rw[y0p hi,y2c,y1l hi,y20,Array.getD,dif_pos hi];rfl
   .rw[y0r (by simpa using hi),y0r<|by simpa using hi];rfl
  rw[e];show h.2.2.filterMap _
theorem zqn(I:n≠0)(h:∀i d,i<n->Q i {s with drawn:=d}):wpAny M A (choose c n) Q E s :=
 λe p a=>⟨I,h _ _<|y2y _ (Nat.pos_of_ne_zero I)⟩
theorem zxi(n:Nat):∀(xs:List D) (s:ig) (Q:List D->ig->Prop),xs.length=n->(∀ys d,ys.Perm xs->Q ys {s with drawn:=d})->wpAny M A (drawOrder n xs) Q E s:=by
 induction n with
 |zero =>
  intro xs s Q I h;cases List.eq_nil_of_length_eq_zero I;unfold drawOrder;show ib<|h [] s.drawn (.refl _)
 |succ n f =>
  intro xs s Q I h;cases xs with
  |nil=>cases I
  |cons x xs =>
   unfold drawOrder;apply ia<|zqn 05 λi d hi=>?_;rw[y00 hi];simp only;apply ia<|f _ _ _ (by rw[y3x hi];omega) λys d' p=>?_;apply ib<|h _ d' ?_;generalize Y:x::xs=l at hi p ⊢;let e:l=l.take i++l[i]::l.drop (i+1):=by rw[y47,y3d]
   rw[y3p]at p
   conv=>rhs;rw[e]
   show(List.Perm.cons _ p).trans List.perm_middle.symm
theorem SetSt.ty{it a:Ad}{l:Array (Int×Va)}{ep:Nat}{t:jo}{y:Way}{i:Nat}(x:SetSt w it a l ep t y i s.heap):s.TypeIs 014 "set_iterator":=let⟨o,_,D,C,_⟩:=x.it;⟨o,D,C⟩
theorem zb7{h:Heap}{o:Obj}{vs:Array Va}(D:h.get? a=G o)(hd:o.data=.fields vs)(i:Nat)(x:Va):∃f,(h.update a (Obj.mapFields (·.setIfInBounds i x))).get? a=G f/\f.cls=o.cls/\f.data=.fields (vs.setIfInBounds i x) :=
 ⟨_,y1b _ D<|Obj.isFreed_of_fields (Obj.data_mapFields hd _),Obj.cls_mapFields ..,by rw[Obj.data_mapFields hd]⟩
theorem zyr{M:Model}{D:Type}{c:Prop}[Decidable c]{x y:Sem D}{Q:D->ig->Prop}(C:c)(h:wpAny M A x Q E s):wpAny M A (if c then x else y) Q E s:=by rw[Xq C];show h
theorem zqz{M:Model}{D:Type}{c:Prop}[Decidable c]{x y:Sem D}{Q:D->ig->Prop}(C:¬c)(h:wpAny M A y Q E s):wpAny M A (if c then x else y) Q E s:=by rw[Xp C];show h
theorem ze9(D:s.heap.get? a=G o)(hd:o.data=.set l ep t)(T:t.fits l.size=N)(U:byT w=N)
  (q:Q (((ordOf w a l ep .text)[i]?).map λe=>(e.2,j)) s):wpAny 81 A (setNext a j i ep) Q E s:=by
 unfold setNext;apply ia<|iR D hd T ?_;dsimp only;unfold lz;apply ia<|ia (jg<|ib ?_);apply zyr U<|zqz 05 ?_;unfold setWalk;apply ia<|ia (iR D hd T ?_);dsimp only;unfold lz;apply ia<|ia (jg<|ib ?_);apply zyr U ?_;apply ia<|jg (ib<|ib ?_);let e:(ordOf w a l ep .text)[i]?=(pickOrder (w.params.setOrder a ep) l)[i]?:=by change(pickOrder (w.params.setOrder a ep) l).toList[i]?=_;rw[y2c]
 rw[e]at q;show q
theorem zec(D:s.heap.get? a=G o)(hd:o.data=.set l ep t)(T:t.fits l.size=N)(U:byT w=Fa)(M:(!t.plain&&decide (l.size>1))=Fa)(I:Tb (!byT w) t)
  (q:Q (match l[SetTable.below t.place j]?,t.place[SetTable.below t.place j]? with|some (_,x),G j=>G (x,j+1)|_,_=>B) s):wpAny 81 A (setNext a j i ep) Q E s:=by
 unfold setNext;apply ia<|iR D hd T ?_;dsimp only;unfold lz;apply ia<|ia (jg<|ib ?_);apply zqz (λz=>by rw[show byT w=N from z]at U;cases U)<|zqz (λz=>by rw[show(!t.plain&&decide (l.size>1))=N from z]at M;cases M) ?_;let Y:t.led=N:=by rw[I.led,U];rfl
 apply ia ?_;apply zqz (c:=(!t.led && !l.isEmpty)=N) (by rw[Y];simp)<|ib (ib q)
theorem zvi(C:WayOk w l t y)(I:Tb (!byT w) t)(T:t.fits l.size=N)(st:SetSt w it a l ep t y i s.heap)(D:a≠it)(hpt:∀pt c,y=.drawn pt c->pt≠it)(J:(ordOf w a l ep y)[i]?=G (k,x))
  (q:∀h',SetSt w it a l ep t y (i+1) h'->Heap.SameBut it s.heap h'->Q (G x) {s with heap:=h'}):wpAny (model P w) A (j8<|.ref it) Q E s:=by
 let ty:=st.ty;let((f,d,da),oi,v,hi,ci,L,fi):=st;unfold j8;apply ia<|jQ (iB (name:=Str.ofString "__next__") ty slot_setit_next<|i5 slot_setit_next ty zcz ?_ (zdd _));unfold Builtin.«set_iterator.__next__»;apply ia<|ib ?_;apply ia<|jH hi L ?_;dsimp only;apply ia<|j9 d da T ?_;rw[Xp 05];simp only[y1d];cases y with
 |text =>
  let u:v=.int 0 0:=fi;subst u;dsimp only;apply ia<|ze9 d da T C ?_;rw[J];dsimp only[y20];apply ia<|iD hi L 05 ?_;let(H,O,g,p):=zb7 hi L 0<|i9 ((0:Int).toNat:Int);apply ia<|iD O p 05 ?_;let(o2,M,c2,Y):=zb7 O p 1<|i9 ((i:Int)+1);let r:=(Heap.SameBut.update s.heap it (Obj.mapFields (·.setIfInBounds 0 (i9 ((0:Int).toNat:Int))))).trans (Heap.SameBut.update _ it (Obj.mapFields (·.setIfInBounds 1 (i9<|(i:Int)+1))));apply ib ⟨x,R,ib<|q _ ⟨⟨f,by rw[r.2 a D];show d,da⟩,o2,.int 0 0,M,by rw[c2,g,ci],by rw[Y];rfl,R⟩ r⟩
 |drawn pt c =>
  let(u,op,n,hp,dp):=fi;subst u;dsimp only;apply ia<|iF hp dp ?_;dsimp only;obtain⟨j,U,hjx⟩:∃j,c[i]?=G j/\l[j]?=G (k,x):=by
   let e:ordOf w a l ep (.drawn pt c)=c.map λj=>l.getD j default:=ztl _ λj U=>by
    let:=y0v.mp<|C.2.2.mem_iff.mp U;rw[y1l this,Array.getD,dif_pos this];rfl
   rw[e,y03]at J;let(j,U,ej):=y0z.mp J;let o:=y0v.mp<|C.2.2.mem_iff.mp (y0k U);apply⟨j,U,?_⟩;rw[y1l o];rw[Array.getD,dif_pos o]at ej;show congrArg G ej
  let hj':(c.map λj:Nat=>i9 j).toArray[i]?=G (.int j 0):=by
   rw[List.getElem?_toArray,y03,U];rfl
  rw[hj'];dsimp only;unfold setNextDrawn;apply ia<|ia (iR d da T ?_);dsimp only;apply zqz 05 ?_;simp only[y1d,hjx];apply ib ?_;apply ia<|iD hi L 05 ?_;let(o2,M,c2,Y):=zb7 hi L 1<|i9 ((i:Int)+1);let r:=Heap.SameBut.update s.heap it (Obj.mapFields (·.setIfInBounds 1 (i9<|(i:Int)+1)));apply ib ⟨x,R,ib<|q _ ⟨⟨f,by rw[r.2 a D];show d,da⟩,o2,.ref pt,M,by rw[c2,ci],by rw[Y];rfl,R,op,n,by rw[r.2 pt<|hpt pt c R];show hp,dp⟩ r⟩
 |place =>
  let(j,u,fb):=fi;subst u;dsimp only;apply ia<|zec d da T C.1 C.2 I ?_;let hx':l[i]?=G (k,x):=by
   let:l.toList[i]?=G (k,x):=J;rw[y2c]at this;show this
  let o:i<l.size:=(y23.mp hx').1;let hpz:t.place.size=l.size:=by
   simp only[SetTable.fits,y07,beq_iff_eq]at T;show T.1
  let z:t.place[i]?=G (t.place.getD i 0):=by rw[y1l 01,Array.getD,dif_pos 01];rfl
  rw[y1d,fb,hx',z];dsimp only;apply ia<|iD hi L 05 ?_;let(H,O,g,p):=zb7 hi L 0<|i9 ((t.place.getD i 0+1:Nat):Int);apply ia<|iD O p 05 ?_;let(o2,M,c2,Y):=zb7 O p 1<|i9 ((i:Int)+1);let r:=(Heap.SameBut.update s.heap it (Obj.mapFields (·.setIfInBounds 0 (i9 ((t.place.getD i 0+1:Nat):Int))))).trans (Heap.SameBut.update _ it (Obj.mapFields (·.setIfInBounds 1 (i9<|(i:Int)+1))));apply ib ⟨x,R,ib<|q _ ⟨⟨f,by rw[r.2 a D];show d,da⟩,o2,_,M,by rw[c2,g,ci],by rw[Y];rfl,t.place.getD i 0+1,R,zqu I.rise 01⟩ r⟩
theorem zim{it:Ad}{O:Heap}{Q:Y9}{Rq:Fin->ig->Prop}(M:A.handled=B)(L:Heap.ExtBut it s.heap O)(q:∀h',Heap.ExtBut it s.heap h'->Q B {s with heap:=h'}):
  wpAny 81 A.in1 (newExc (.type "StopIteration") []>>=raiseNew) Rq (λe s'=>wpAny 81 A (isInstance e (.type "StopIteration")>>=λb=>if b=N then pure B else throw e) Q E s') {s with heap:=O}:=by
 apply ia ?_;simp only[newExc,newTuple];apply ia<|i7 (ia (m:=jE _ _)<|wpAny_of_eq (a:=Va.none) (by first|rfl|(simp only[jE];rfl)) (i7 ?_<|by size_fits)) (by size_fits);simp only[raiseNew];apply ia<|wpAny_handled ?_;rw[show A.in1.handled=B from M];apply ia<|ib (wpAny_throw ?_);apply ia<|jz (s:={s with heap:=_}) (T:="StopIteration") (b:=N) ⟨_,y0d _ R,R⟩ isSubtype_stop ?_;show ib<|q _ ((L.push _).push _)
theorem zy4(M:A.handled=B)(C:WayOk w l t y)(I:Tb (!byT w) t)(T:t.fits l.size=N)(st:SetSt w it a l ep t y l.size s.heap)
  (q:∀h',Heap.ExtBut it s.heap h'->Q B {s with heap:=h'}):wpAny (model P w) A (j8<|.ref it) Q E s:=by
 let ty:=st.ty;let((f,d,r),J,v,hi,D,L,z):=st;unfold j8;apply ia<|jQ (iB (name:=Str.ofString "__next__") ty slot_setit_next<|i5 slot_setit_next ty zcz ?_ (zdd _));unfold Builtin.«set_iterator.__next__»;apply ia<|ib ?_;apply ia<|jH hi L ?_;dsimp only;apply ia<|j9 d r T ?_;rw[Xp 05];simp only[y1d];let i:t.place.size=l.size:=by
  simp only[SetTable.fits,y07,beq_iff_eq]at T;show T.1
 cases y with
 |text =>
  let u:v=.int 0 0:=z;subst u;dsimp only;apply ia<|ze9 d r T C ?_;rw[y0r<|by rw[(ziu (a:=a) (ep:=ep) C).length_eq];simp];dsimp only[Option.map_none];show ia<|iD hi L 05 (zim M (Heap.SameBut.update ..).extBut q)
 |drawn pt c =>
  let(u,o,n,x,dp):=z;subst u;dsimp only;apply ia<|iF x dp ?_;dsimp only;rw[y3a<|by rw[y09,y01,C.2.2.length_eq,y0y];show y05 _];dsimp only;change wpAny _ _ (setField 014 0 (i9 0)>>=λ_=>setField 014 2 Va.none>>=λ_=>(newExc (.type "StopIteration") []>>=raiseNew)) _ _ s;let(H,O,g,p):=zb7 hi L 0<|i9 0;apply ia<|iD hi L 05 ?_;apply ia<|iD O p 05 ?_;show zim (s:=s) M ((Heap.SameBut.update s.heap it _).trans<|Heap.SameBut.update _ it _).extBut q
 |place =>
  let(j,u,e):=z;subst u;dsimp only;apply ia<|zec d r T C.1 C.2 I ?_;rw[y1d,e,y3a 08];dsimp only;show ia<|iD hi L 05 (zim M (Heap.SameBut.update ..).extBut q)
theorem SetSt.kept{it a:Ad}{l:Array (Int×Va)}{ep:Nat}{t:jo}{y:Way}{i:Nat}{h h':Heap}(x:SetSt w it a l ep t y i h)(k:∀b o,(b=it\/b=a\/∃c,y=.drawn b c)->h.get? b=G o->h'.get? b=G o):SetSt w it a l ep t y i h':=by
 let((f,d,r),J,v,hi,D,L,z):=x;apply⟨⟨f,k a f (.inr 028) d,r⟩,J,v,k it J 028 hi,D,L,?_⟩;cases y with
 |text=>show z
 |place=>show z
 |drawn pt c =>
  let(u,e,n,M,dp):=z;show⟨u,e,n,k pt e (.inr<|.inr ⟨c,R⟩) M,dp⟩
noncomputable def Way.fp:Way->List Ad
 |.drawn pt _=>[pt]
 |_=>[]
theorem Way.mem_fp{y:Way}:(∃c,y=.drawn b c)↔b∈y.fp:=by
 cases y with
 |text=>show⟨λ⟨_,h⟩=>(nomatch h),λh=>(nomatch h)⟩
 |place=>show⟨λ⟨_,h⟩=>(nomatch h),λh=>(nomatch h)⟩
 |drawn pt c =>
  constructor
  .rintro⟨a,h⟩;cases h;show y0b.mpr R
  .intro h;rw[y0b.mp h];show⟨c,R⟩
theorem Walks.set(M:A.handled=B)(D:a≠it)(H:∀pt c,y=.drawn pt c->pt≠it)(C:WayOk w l t y)(I:Tb (!byT w) t)(T:t.fits l.size=N)(d:∀(s:ig) (Q:Y0) (E:Y0),s.TypeIs 014 "set_iterator"->Q 014 s->wpAny 81 A (jV 014) Q E s):
  Walks P w A it (it::a::y.fp) [it] l.size (λi v=>∃k,(ordOf w a l ep y)[i]?=G (k,v)) (λi h=>SetSt w it a l ep t y i h) where
 sub:=λb U=>by rw[y0b.mp U];show y0a
 frame:=λi h h' x k=>x.kept λb o U e=>k b (by
  rcases U with rfl|rfl|U
  .exact y0a
  .exact y06 _ y0a
  .exact y06 _<|y06 _ (Way.mem_fp.mp U)) o e
 item:=λi s Q E hi x q=>by
  let Y:i<(ordOf w a l ep y).length:=by rw[(ziu (a:=a) (ep:=ep) C).length_eq];simpa using hi
  apply zvi C I T x D H (y00 Y) λh' u r=>q _ h' s.toks ⟨_,y00 Y⟩ u λb o U e=>?_;rw[r.2 b λz=>U<|by rw[z];show y0b.mpr R];show e
 done:=λs Q E x q=>zy4 M C I T x λh' L=>q h' s.toks λb o U e=>L b o (λz=>U<|by rw[z];show y0b.mpr R) e
 self:=λi s Q E x q=>d s Q E x.ty q
end
local instance (priority:=10000):BEq Key:=instBEqOfDecidableEq
section
variable {prog:ik}{w:World}{A:io}{E:Y0}{s:ig}
theorem zly(a:Va)
  (h:Q₁ 018 {s with heap:=s.heap.push {cls:=.type "set",dict:=B,data:=.set #[] 0 (.fresh 0 0<|!byT w)} }) :
  jc 88 A (.call (.builtin "set.__new__") ⟨[.type "set",a],[]⟩) (wants Q₁ E) s:=by
 apply jr ?_;change wpAny _ A.in1 (do jT "set.__new__" ⟨[.type "set",a],[]⟩;again (.builtin "set.__new__" ⟨[.type "set",a],[]⟩)) _ _ s;apply ia<|wpAny_of_eq (F.newCall_set_1 a) (ib ⟨iU F.plain_set_new _,iG F.entry_set_new ?_⟩);rw[Around.under_plainId F.plain_set_new _];unfold Builtin.«set.__new__» Builtin.Frozenset.newClass;let hsub:=sub_set_self;let(hp,g,d,tk,os):=s;dsimp only
 wp_walk
 apply jg<|ib ?_;dsimp only;simp only[newObj];apply ia<|wpAny_alloc (ib ?_);show ib h
end
section
variable {P:ik}{w:World}{A:io}{Rq:Result->ig->Prop}{it:Ad}{fp wr:List Ad}{Gq:Array ju->Array ju->Prop}{n:Nat}{Pv:Nat->Va->Prop}{St:Nat->ig->Prop}
def SetTs(P:ik)(w:World)(h:Heap)(a:Ad)(ks:List Int):Prop:=∃n,n<=ks.length/\SetT (jU P w) (!byT w) h a (λk=>decide (k∈ks)) n
theorem SetTs.kept(x:SetTs P w h a ks)(k:∀o,h.get? a=G o->h'.get? a=G o):SetTs P w h' a ks:=let⟨n,l,x⟩:=x;⟨n,l,SetT.kept x k⟩
theorem zvl(h:(jU P w).is k v=N):v.scannable=N:=by
 let(t,rfl):=Va.isInt_shape h;rfl
theorem zy2(a:Ad)(M:m<iV):SetR (jU P w) a m (λh ks=>SetTs P w h a ks):=⟨λx k=>x.kept k,λ{A E s ks k v Q} is Y ⟨f,c,x⟩ q=>by
 apply zy5 (knd:=jU P w) is (zvl is) x 01 λh' r J=>q h' _ r ⟨_,?_,SetT.congr J (λk'=>?_) R⟩
 .rw[y0e,y0s];split<;>omega
 .rw[y1t];simp only[y3e,decide_eq_true_eq,y0x,y0b]⟩
end
section
variable {P:ik}{w:World}{A:io}{E:Y0}{s:ig}
theorem zj4(y:A.handled=B)(Y:s.heap.IsList l its)(j:ks.length=its.size)(hi:∀(i:Nat) v k,its[i]?=G v->ks[i]?=G k->(jU P w).is k v=N)
  (U:its.size+1<iV)
  (h:∀(h':Heap) (r:Nat),SetTs P w h' s.heap.objs.size ks->076->Q 018 {s with heap:=h',toks:=r}) :
  wpAny 81 A (call (.type "set") [.ref l]) Q E s :=
 zrg (Lp:=λled=>led=!byT w) y Y j hi (zy2 _ U) (λh led e a=>by
  subst e;let(o,C,ep,t,D,J,hd,q,p):=(setObjOf_fresh (knd:=jU P w)<|!byT w).setOf a (by unfold iV;omega);let c:o=_:=(Option.some.inj<|a.symm.trans D).symm;subst c;let d:Data.set #[] 0 (.fresh 0 0<|!byT w)=Data.set C ep t:=hd;injection d with L g M
  subst L;subst g;subst M;show⟨0,y05 _,_,_,_,_,a,J,R,⟨q,λk=>by simp⟩,p.2,zvc _ _ _,.nil⟩) (zly (.ref l) ⟨_,R,R,R⟩) h
end
section
variable {P:ik}{w:World}{A:io}{E:Y0}{s:ig}
theorem zjm(v:Va):argsOk "set.__iter__" ⟨[v],[]⟩:=by unfold argsOk;kernel_rfl
theorem zpo(D:s.heap.get? a=G o)(J:o.ExactSet)(C:o.cls=.type "set")(hd:o.data=.set l ep t)(T:t.fits l.size=N)(tb:Tb (!byT w) t)(I:l.size<=ii)
  (q:∀(it:Ad) (y:Way) (h':Heap) (d:Drawn),WayOk w l t y->a≠it->(∀pt c,y=.drawn pt c->pt≠it/\s.heap.objs.size<=pt)->s.heap.objs.size<=it->SetSt w it a l ep t y 0 h'->(∀b u,s.heap.get? b=G u->h'.get? b=G u)->Q 014 {s with heap:=h',drawn:=d}) :
  wpAny 81 A (jV 04) Q E s:=by
 let hT:s.TypeIs 04 "set":=⟨o,D,C⟩;apply jw hT F.slot_set_iter<|i5 F.slot_set_iter hT zg8 ?_ (zjm _);unfold Builtin.«frozenset.__iter__» Builtin.Frozenset.slot0 slotArgs;apply ia<|ia (ib ?_);unfold Builtin.Frozenset.addrOf;apply ib ?_;unfold Builtin.Frozenset.sizeOf;apply ia<|ia (j9 D hd T<|ib ?_);unfold setDrawn;apply ia<|ia (iR D hd T ?_);dsimp only;unfold lz;apply ia<|ia (jg<|ib (ib ?_));let fin:∀(s2:ig) (v:Va) (y:Way),WayOk w l t y->(∀b u,s.heap.get? b=G u->s2.heap.get? b=G u)->s2={s with heap:=s2.heap,drawn:=s2.drawn}->s.heap.objs.size<=s2.heap.objs.size->FirstIs s2.heap t 0 v y->(∀pt c,y=.drawn pt c->s.heap.objs.size<=pt/\pt<s2.heap.objs.size)->
   wpAny 81 A.in1 (do let e ←setEpoch a;let f ←newFields "set_iterator" [v,i9 0,.ref a,i9 l.size,i9 e];ret f) (λfin s'=>∃v,fin=PySem.Fin.done (.ret v)/\∃T' r,s'.TypeIs v T'/\jl (Va.type T') (Str.ofString "__next__")=pure (G r)/\Q v s') E s2:=by
  intro s2 v y hy j x le hv H;let(M,g2,d2,z,os2):=s2;let L:g2=s.gens:=congrArg Shared.gens x;let g:z=s.toks:=congrArg Shared.toks x;let e3:os2=s.os:=congrArg Shared.os x;subst L;subst g;subst e3;unfold setEpoch;apply ia<|ia (iR (j a o D) hd T<|ib ?_);unfold newFields;apply ia<|i7 (ib ⟨_,R,"set_iterator",_,⟨_,y0d _ R,R⟩,slot_setit_next.lookup,?_⟩);let lt:a<M.objs.size:=y0g<|j a o D;let Y:∀b u,M.get? b=G u->(M.push {cls:=.type "set_iterator",data:=.fields #[v,.int 0 0,.ref a,.int l.size 0,.int ep 0]}).get? b=G u:=λb u e=>y04 _ e;apply q _ y _ d2 hy (y0m lt) (λpt c e=>⟨y0m (H pt c e).2,(H pt c e).1⟩) le ⟨⟨o,Y a o<|j a o D,hd⟩,⟨_,v,y0d _ R,R,R,?_⟩⟩ λb u e=>Y b u<|j b u e;cases y with
  |text=>show hv
  |place=>show hv
  |drawn pt c =>
   let(e,o2,n2,O,i):=hv;show⟨e,o2,n2,Y _ _ O,i⟩
 change wpAny _ _ (if(!byT w&&(!t.plain&&decide (l.size>1)))=N then _ else _) _ _ _;cases U:byT w with
 |true =>
  rw[Xp 05];apply ia<|ib ?_;show fin s _ .text U (λ_ _ e=>e) R 08 R λ_ _ e=>nomatch e
 |false =>
  cases hp:(!t.plain&&decide (l.size>1))with
  |false =>
   rw[Xp 05];apply ia<|ib ?_;show fin s _ .place ⟨U,hp⟩ (λ_ _ e=>e) R 08 ⟨0,R,zqt tb.rise⟩ λ_ _ e=>nomatch e
  |true =>
   rw[Xq 05];apply ia<|zxi l.size (List.range l.size) s _ y0y λys d p=>?_;let yl:ys.length=l.size:=by rw[p.length_eq,y0y]
   apply ia<|jZ ?_ (by rw[y01,yl];show I);apply fin _ _ (.drawn s.heap.objs.size ys) ⟨U,hp,p⟩ (λ_ _ e=>y04 _ e) R ?_ ⟨R,_,_,y0d _ R,R⟩ λpt c e=>?_
   .change _<=(Heap.push _ _).objs.size;rw[y19];show y3i _
   .cases e;apply⟨y05 _,?_⟩;change _<(Heap.push _ _).objs.size;rw[y19];show y2j _
end
section
variable {P:ik}{w:World}{A:io}{E:Y0}{s:ig}
theorem zc3:Slot "set_iterator" "__iter__" "set_iterator.__iter__" :=
 .of (owner:="set_iterator") (n:="__iter__") (by rw[iJ,i0];kernel_rfl) 48 48 48 (by first|show .inl (by decide+kernel)|show .inr (by decide+kernel)) (by rw[iI];kernel_rfl)
theorem zfj:entryFor table "set_iterator.__iter__"=G Builtin.«dict_keyiterator.__iter__» :=
 entryFor_alias (id':="dict_keyiterator.__iter__") (by kernel_rfl) R 48 (by kernel_rfl)
theorem zg1(v:Va):argsOk "set_iterator.__iter__" ⟨[v],[]⟩:=by unfold argsOk;kernel_rfl
theorem zph:jl (.type "set") (Str.ofString "__len__")=pure (G<|.builtin "set.__len__"):=F.slot_set_len.lookup
theorem zmz(hh:A.handled=B)(ho:s.heap.get? a=G o)(hx:o.ExactSet)(hc:o.cls=.type "set")(hd:o.data=.set es ep t)(hf:t.fits es.size=N)(tb:Tb (!byT w) t)(hn:es.size<=ii)
  (q:∀(vs:List Va) (h':Heap) (d:Drawn) (tk:Nat),vs.Perm (es.toList.map (·.2))->s.heap.objs.size<=h'.objs.size->s.toks<=tk->(∀b u,s.heap.get? b=G u->h'.get? b=G u)->Q vs {s with heap:=h',drawn:=d,toks:=tk}) :
  wpAny 81 A (collect 04) Q E s:=by
 let la:a<s.heap.objs.size:=y0g ho;unfold collect;apply ia<|wpAny_runValue (iG F.entry_proto_collect ?_);rw[Around.under_plainId F.plain_proto_collect _];change wpAny _ A.in1 (newList []>>=λl=>again<|.builtin "list.__iadd__" ⟨[l,.ref a],[]⟩) _ _ s;apply ia<|i7 ?_;apply ib ⟨iU F.plain_list_iadd _,iG F.entry_list_iadd ?_⟩;rw[Around.under_plainId F.plain_list_iadd _];let hS₁:(s.heap.push {cls:=.type "list",data:=.seq ([]:List Va).toArray}).get? s.heap.objs.size=G {cls:=.type "list",data:=.seq ([]:List Va).toArray}:=y0d _ rfl;let ha₁:(s.heap.push {cls:=.type "list",data:=.seq ([]:List Va).toArray}).get? a=G o:=y04 _ ho;let h1:Builtin.List.listSameRef 018 04=Fa:=by simp[Builtin.List.listSameRef,y24 la]
 change wpAny _ A.in1 (Builtin.List.listExtendWith 018 04 018) _ _ _;unfold Builtin.List.listExtendWith;let hT:Shared.TypeIs {s with heap:=s.heap.push {cls:=.type "list",data:=.seq ([]:List Va).toArray} } (.ref a) "set":=⟨o,ha₁,hc⟩;apply ia<|jq hT ?_;rw[Xp<|by rw[h1];decide];apply ia<|zpo (s:={s with heap:=s.heap.push {cls:=.type "list",data:=.seq ([]:List Va).toArray} }) ha₁ hx hc hd hf tb hn λit y h2 d wo hne hpt hit st k2=>?_;apply ia<|ir ?_;let hT2:Shared.TypeIs {s with heap:=h2,drawn:=d} (.ref a) "set":=⟨o,k2 a o ha₁,hc⟩;unfold Builtin.List.listLengthHint;apply ia<|iS hT2 zph ?_;generalize hid:("set.__len__":String)=id0
 (fail_if_success (clear hid id0))
 wp_delta
 rw[show splitId id0=G ("set","__len__")from by subst hid;decide+kernel];subst hid;apply ia<|jz (b:=N) hT2 (by rw[iI];kernel_rfl) ?_;rw[Xp 07];apply zyr 48 ?_;apply ia<|jq hT2 (ib ?_);change wpAny _ A.in1 (rule "list.extend.makes-room">>=λ_=>Builtin.List.listTouch 018>>=λ_ =>
  again (.builtin "list.extend.loop" ⟨[.ref s.heap.objs.size,.ref it,.ref s.heap.objs.size],[]⟩)) _ _ _
 apply ia<|jn ?_;let hS2:=k2 _ _ hS₁;apply ia ?_;change wpAny _ A.in1 (jC s.heap.objs.size (·.push .none)>>=λ_=>jC s.heap.objs.size (·.pop)) _ _ _;apply ia<|iZ hS2 R ?_;let hS₂:=y1b (Obj.mapSeq (·.push Va.none)) hS2 rfl;apply iZ hS₂ R ?_;let hS₃:=y1b (Obj.mapSeq (·.pop)) hS₂ rfl;let oth:∀b o,b≠s.heap.objs.size->h2.get? b=G o->((h2.update s.heap.objs.size (Obj.mapSeq (·.push Va.none))).update s.heap.objs.size (Obj.mapSeq (·.pop))).get? b=G o :=
  λb o hb e=>(y18 _ _<|Ne.symm hb).trans<|(y18 _ _<|Ne.symm hb).trans e
 let hself:∀(s:ig) (Q:Y0) (E:Y0),s.TypeIs 014 "set_iterator"->Q 014 s->wpAny 81 A.in1 (jV 014) Q E s:=λs Q E hT q=>by
  apply jw hT zc3<|i5 zc3 hT zfj ?_ (zg1 _);change wpAny _ _ (ret 014) _ _ s;show ib ⟨_,R,"set_iterator",_,hT,slot_setit_next.lookup,q⟩
 let sz1:(s.heap.push {cls:=.type "list",data:=.seq ([]:List Va).toArray}).objs.size=s.heap.objs.size+1:=y19 ..;let hit':s.heap.objs.size+1<=it:=by rw[←sz1];show hit
 let ptne:∀b,b∈y.fp->b≠s.heap.objs.size:=λb hb=>by
  let(pl,e):=Way.mem_fp.mpr hb;let:=(hpt b pl e).2;let z:s.heap.objs.size+1<=b:=by rw[←sz1];show this
  show y24 z
 let W:=(Walks.set (P:=P) (A:=A.in1) (ep:=ep) hh hne (λpt pl e=>(hpt pt pl e).1) wo tb hf hself).toS;let hSf:s.heap.objs.size∉it::a::y.fp:=λhm=>by
  rcases y08.mp hm with z|hm
  .exact y0m hit' z
  rcases y08.mp hm with z|hm
  .exact y24 la z
  .exact ptne _ hm R
 apply ib ⟨iU F.plain_extend_loop _,codeAny_extend_loopS W hn _ hSf _ es.size 0 _ _ _ R (y13 _) ?_ hS₃ (ItemsOf.nil _) λs' acc' c' hm hS' hacc=>?_⟩
 .refine st.kept λb u hb e=>oth b u ?_ e;rcases hb with rfl|rfl|hb
  .exact y24 hit'
  .exact y0m la
  .exact ptne b<|Way.mem_fp.mp hb
 change wpAny _ A (load s.heap.objs.size>>=_) _ _ s';apply ia<|lq hS' (ib ?_);let(h',g',d',tk',os'):=s';let eg:g'=s.gens:=hm.gens;let ed:d'=d:=hm.drawn;let eo:os'=s.os:=hm.os;subst eg;subst ed;subst eo;let op:=ziu (a:=a) (ep:=ep) wo;let ol:(ordOf w a es ep y).length=es.size:=by rw[op.length_eq,y16]
 let hacc':acc'.toList=(ordOf w a es ep y).map (·.2):=by
  apply y1p λj=>?_;rw[y03,y2c];cases e:acc'[j]? with
  |none =>
   let:acc'.size<=j:=Array.getElem?_eq_none_iff.mp e;rw[hacc.1]at this;rw[y0r 01];rfl
  |some v =>
   let(k,hk):=hacc.2 j v e;rw[hk];rfl
 apply q _ h' d' tk' (by rw[hacc'];show op.map _) (y1o<|y0g hS') hm.toks λb u e=>?_;let lb:b<s.heap.objs.size:=y0g e;apply hm.heap b u (λhb=>?_)<|oth b u (y0m lb) (k2 b u<|y04 _ e);rcases y08.mp hb with z|z
 .exact y0m lb z
 .rw[y0b.mp z]at lb;show Xa (y1j lb hit')<|y1m _
end
noncomputable def iv:Va->Int
 |.int i _=>i
 |_=>0
theorem ztg:∀{l:List Va},(∀v∈l,∃i t,v=.int i t)->jK l (l.map iv)
 |[],_=>.nil
 |v::r,h=>by
  let(i,t,rfl):=h v y0a;show .cons i t<|ztg λv hv=>h v<|y06 _ hv
section
variable {P:ik}{w:World}{A:io}{E:Y0}{s:ig}
theorem zg7{l:List Int}(O:l.Pairwise (·<=·))(M:l.Nodup):l.Pairwise (· < ·):=by
 let:=List.Pairwise.and O M;show this.imp λ⟨a,b⟩=>by omega
theorem zpf{ks:List Int}(hh:A.handled=B)(x:SetTs P w s.heap a ks)(h64:ks.length<64)
  (q:∀(L:Ad) (vs:List Va) (ns:List Int) (n:Nat) (h':Heap) (d:Drawn) (r:Nat),jK vs ns->ns.Pairwise (· < ·)->(∀k,k∈ns↔k∈ks)->s.heap.objs.size<=L->h'.get? L=G (seqObj "list" vs.toArray n)->s.toks<=r->(∀b u,s.heap.get? b=G u->h'.get? b=G u)->Q (.ref L) {s with heap:=h',drawn:=d,toks:=r}) :
  wpAny 81 A (call (.builtin "sorted") [.ref a]) Q E s:=by
 let(n,I,o,es,ep,t,D,J,hd,(O,M),(h3,h4,hsz),tb,ap):=x;apply Calls.call_function_entry kind_sorted plain_sorted entry_sorted (args_sorted1 _) ?_;unfold Builtin.«sorted»;apply ia (m:=checkCount "sorted" 1 1 _)<|ib ?_;apply ia<|zmz hh D J J.1 hd h4 tb (show es.size<=ii by unfold ii;omega) λvs h' d r p le htk j=>?_;let hint:∀v∈vs,∃i t,v=.int i t:=λv hv=>by
  let(e,f,rfl):=y0h.mp<|p.mem_iff.mp hv;let((k,j,_),_):=O e f;let(t,e):=Va.isInt_shape j;show⟨k,t,e⟩
 let hI:=ztg hint;let g:vs.length<64:=by
  rw[p.length_eq,y01,y16];omega
 apply ia<|wpAny_newList ?_;let T:(h'.push<|seqObj "list" vs.toArray 0).get? h'.objs.size=G (seqObj "list" vs.toArray 0):=y0d _ rfl;change wpAny _ _ _ _ _ {s with heap:=h'.push<|seqObj "list" vs.toArray 0,drawn:=d,toks:=r};apply ia<|ir (i5 slot_list_sort ⟨_,T,R⟩ entry_list_sort (list_sort_tree T hI g λout ns' Y a2 c=>⟨_,R,?_⟩)<|args_list_sort _);let H:∀e∈es.toList,(jU P w).is (iv e.2) e.2=N:=λe f=>by
  let((k,j,_),_):=O e f;let(t,l):=Va.isInt_shape j;rw[l]at j ⊢;show j
 let pe:ns'.Perm (es.toList.map λe=>iv e.2):=by
  apply a2.trans ?_;let:=p.map iv;rwa[y0o]at this
 let(ne,U):=sortedHeap_at (out:=out) T;apply ib ⟨_,R,q _ out.toList ns' ne _ d r Y (zg7 c ?_) (λk=>?_) le U htk λb u e=>?_⟩
 .refine pe.nodup_iff.mpr ?_;rw[List.Nodup,List.pairwise_map];apply List.Pairwise.imp_of_mem (λ{x y} J C z e=>?_) ap;let h:=z _<|H x J;rw[e,H y C]at h;cases h
 .rw[pe.mem_iff,y0h];let:=M k;rw[decide_eq_true_eq]at this;rw[this];constructor
  .rintro⟨e,f,rfl⟩;show⟨e,f,H e f⟩
  .rintro⟨e,f,j⟩;let(t,l):=Va.isInt_shape j;show⟨e,f,by rw[l];rfl⟩
 .let lb:b<h'.objs.size:=y0q (y0g e) le;apply(sortedHeap_old (y0m lb) ?_).trans<|y04 _ (j b u e);rw[y19];show y2u lb
end
theorem Inv.drew{X:Cx}{pins:Y2}{σ:St}{H:Hp}{s:ig}(I:02 H s)(d:Drawn):02 H {s with drawn:=d}:=by
 let(O,M,A,L,E,v,j,x,o,f,e):=I;show⟨O,M,A,L,E,v,j,x,o,f,e⟩
noncomputable def setI(P:ik)(w:World)(a:Ad)(ns:List Int):HO:=.ext λh=>SetTs P w h a ns
theorem zla(hc:X.calm=N):CallR X (.type "set") (λxs H Q=>∃(p:Ad) (ns:List Int),xs=[.ref p]/\SqL X.K H p 034/\ns.length<=1000/\∀a,H a=B->Q 04 (upd H a<|setI X.prog X.w a ns)):=by
 intro pins s σ H xs us Q I r h;let(p,ks,rfl,J,hz,q):=h;let(u,rfl,T):=vals1 r;cases(show u=Va.ref p from T);let(vs,f,c,_):=I.list J;let d:=f.length;rw[y01]at d;apply zj4 (ks:=ks) 024 c.isList (by rw[y09];show d) (λi v k L g=>?_) (by rw[y09];unfold iV;omega) λh' E x k=>?_
 .let w:vs[i]?=G v:=by simpa using L
  let(u,e,q):=f.get (i:=i) (x:=V.int k) (by rw[y03,g];rfl);rw[w]at e;cases e;let(t,rfl):=q;change Va.isInt k (.int k t)=N;unfold Va.isInt;simp
 .refine⟨.ref s.heap.objs.size,_,I.laid (t':=E) (λb u e=>k b u (y0g e) e) 08 ?_,R,q _ I.fresh⟩;let(n,U,o,l,ep,t,D,rest):=id x;show⟨x,⟨o,D⟩,λO M C k1=>C.kept k1⟩
theorem zhf:∀{vs:List Va} {ns:List Int},jK vs ns->Vals 034 vs
 |_,_,.nil=>.nil
 |_,_,.cons n t h=>.cons ⟨t,R⟩<|zhf h
def rSortS(P:ik)(w:World):List V->Hp->VK->Prop:=λxs H Q=>∃(p:Ad) (ns:List Int),xs=[.ref p]/\H p=G (setI P w p ns)/\ns.length<64/\∀(ms:List Int),ms.Pairwise (· < ·)->(∀k,k∈ms↔k∈ns)->∀L H',New H L (.lst<|ms.map V.int) H'->Q (.ref L) H'
theorem zgx(hc:X.calm=N):CallR X (.builtin "sorted") (rSortS X.prog X.w):=by
 intro pins s σ H xs us Q I r h;let(p,ns,rfl,J,hz,q):=h;let(u,rfl,T):=vals1 r;cases(show u=Va.ref p from T);let(x,_):=I.hok p _ J;apply zpf 024 x hz λL vs ms n h' d E Y l c le U f k=>?_;let g:Vals (ms.map V.int) vs:=zhf Y;let D:H L=B:=I.hok.fresh le;apply⟨.ref L,_,(I.laid (t':=E) (o:=.lst<|ms.map V.int) k le ⟨?_,vs,n,g,U⟩).drew d,R,q ms l c L _<|New.mk' D _⟩;rw[y01];let nd:ms.Nodup:=l.imp λh=>by omega
 let:ms.length<=ns.length:=nd.length_le_of_subset λy C=>(c y).mp C;show zah 01
end L2
namespace SM
open PySem PySem.Spec PyProof.Rows L2 SS
def Rising(l:List Nat):Prop:=l.Pairwise (· < ·)
theorem zey(Y:Rising l)(h:∀x∈l,x<n):l.length<=n:=by
 let nd:l.Nodup:=Y.imp λh=>y0m h;let:=zdn (ys:=List.range n) nd λx J=>y0v.mpr<|h x J;simpa using this
theorem zhq:∀{a b:List Nat},Rising a->Rising b->(∀x,x∈a↔x∈b)->a=b
 |[],[],_,_,_=>rfl
 |[],y::s,_,_,h=>by have:=(h y).mpr y0a;cases this
 |x::r,[],_,_,h=>by have:=(h x).mp y0a;cases this
 |x::r,y::s,d,U,h=>by
  let Y:=y3l.mp d;let I:=y3l.mp U;let e:x=y:=by
   rcases y08.mp ((h x).mp y0a)with z|z
   .exact z
   .rcases y08.mp ((h y).mpr y0a)with f|f
    .exact f.symm
    .let:=Y.1 y f;let:=I.1 x z;omega
  subst e;congr 1;apply zhq Y.2 I.2 λz=>⟨λhz=>?_,λhz=>?_⟩
  .rcases y08.mp ((h z).mp<|y06 _ hz)with q|q
   .let:=Y.1 z hz;omega
   .exact q
  .rcases y08.mp ((h z).mpr<|y06 _ hz)with q|q
   .let:=I.1 z hz;omega
   .exact q
def comeL(m:Mc)(rs ls:List Nat):List Nat:=(List.range m.n).filter λk=>rs.any λr=>ls.any λl=>m.go r l==k
theorem zfe:Rising (comeL m rs ls):=List.Pairwise.filter _ y39
theorem zxm(h:k∈comeL m rs ls):k<m.n:=y0v.mp (y29.mp h).1
theorem zuh(j:∀r∈rs,∀l∈ls,m.go r l<m.n):k∈comeL m rs ls↔∃r∈rs,∃l∈ls,m.go r l=k:=by
 unfold comeL;rw[y29,y1v,y0v];constructor
 .rintro⟨_,r,D,h⟩;let(l,Y,e):=y1v.mp h;show⟨r,D,l,Y,by simpa using e⟩
 .rintro⟨r,D,l,Y,rfl⟩;show⟨j r D l Y,r,D,y1v.mpr ⟨l,Y,by simp⟩⟩
def put0(l t:Nat):Nat:=l+l/2^t*2^t
theorem put_lt:∀w,w<5->∀t,t<w->∀l,l<2^(w-1)->put0 l t+2^t<2^w:=by decide+kernel
def dropT(m:Mc)(t:Nat):Thg:=⟨m.w-1,λrs=>(List.range<|2^(m.w-1)).map λl=>comeL m rs [put0 l t,put0 l t+2^t],λrs=>rs.any m.fin⟩
def DropG(m:Mc)(rs:List Nat):Prop:=Rising rs/\∀r∈rs,r<m.n
theorem drop_step:((dropT m t).step rs).length=2^(dropT m t).w/\∀u∈(dropT m t).step rs,DropG m u:=by
 apply⟨by simp[dropT],λu U=>?_⟩;let(l,_,rfl):=y0h.mp U;show⟨zfe,λk j=>zxm j⟩
def zq8:Sp:=λvs H Q _=>∃(l t:Nat),vs=[nV l,nV t]/\l<16/\t<=4/\∀p H',New H p (.tup [nV<|put0 l t,nV<|put0 l t+2^t]) H'->Q 22 H'
def zf7:Sp:=λvs H Q _=>∃(a b c:Ad) (m:Mc) (rs ls:List Nat),vs=[.ref a,.ref b,.ref c]/\RepM H a m/\m.Ok/\H b=G (.tup<|rs.map nV)/\H c=G (.tup<|ls.map nV)/\(∀r∈rs,r<m.n)/\(∀l∈ls,l<2^m.w)/\rs.length<=12/\ls.length<=2/\
 ∀p (ms:List Nat) H',Same H H'->H' p=G (.tup<|ms.map nV)->ms.Pairwise (· < ·)->(∀k,k∈ms↔∃r∈rs,∃l∈ls,m.go r l=k)->Q 22 H'
section
variable {S:Type}[DecidableEq S]
theorem simG{m:Mc}{step:S->Nat->S}{fin:S->Bool}{rel:List (Nat×S)}(hs:∀p∈rel,∀l,l<2^m.w->(m.go p.1 l,step p.2 l)∈rel)(T:∀p∈rel,m.fin p.1=fin p.2):∀(row:List Nat) (r:Nat) (s:S),(r,s)∈rel->m.Row row->m.fin (m.run r row)=fin (row.foldl step s)
 |[],r,s,h,_=>T _ h
 |l::row,r,s,h,D=>by
  rw[Mc.run_cons,y30];show simG hs T row _ _ (hs _ h l<|D l y0a) λx J=>D x<|y06 _ J
def bfs(step:S->Nat->S)(m:Mc):Nat->List (Nat×S)->List (Nat×S)->List (Nat×S)
 |0,_,done=>done
 |_+1,[],done=>done
 |n+1,p::t,done=>if p∈done then bfs step m n t done else bfs step m n ((List.range<|2^m.w).map (λl=>(m.go p.1 l,step p.2 l))++t) (p::done)
def relS(m:Mc)(step:S->Nat->S)(u:S):List (Nat×S):=bfs step m 1000 [(0,u)] []
def chkS(m:Mc)(step:S->Nat->S)(fin:S->Bool)(u:S):Bool :=
 let rel:=relS m step u;decide ((0,u)∈rel)&&rel.all λp=>((List.range<|2^m.w).all λl=>decide ((m.go p.1 l,step p.2 l)∈rel))&&(m.fin p.1==fin p.2)
theorem zun{m:Mc}{step:S->Nat->S}{fin:S->Bool}{u:S}(h:chkS m step fin u=N):(0,u)∈relS m step u/\(∀p∈relS m step u,∀l,l<2^m.w->(m.go p.1 l,step p.2 l)∈relS m step u)/\∀p∈relS m step u,m.fin p.1=fin p.2:=by
 unfold chkS at h;simp only[y07,decide_eq_true_eq,y12,y0v,beq_iff_eq]at h;show⟨h.1,λp E l Y=>(h.2 p E).1 l Y,λp E=>(h.2 p E).2⟩
theorem zda{m:Mc}{step:S->Nat->S}{fin:S->Bool}{u:S}(h:chkS m step fin u=N)(row:List Nat)(D:m.Row row):m.fin 032=fin (row.foldl step u):=by
 let(C,hs,T):=zun h;show simG hs T row 0 u C D
end
def okMB(m:Mc):Bool:=decide (m.w<=4)&&decide (0<m.ends.length)&&decide (m.ends.length<=100)&&decide (m.ways.length=m.ends.length)&&m.ways.all λl=>decide (l.length=2^m.w)&&l.all λr=>decide (r<m.ends.length)
theorem zst(h:okMB m=N):m.Ok:=by
 unfold okMB at h;simp only[y07,decide_eq_true_eq,y12]at h;let((((a,b),c),d),e):=h;show⟨a,b,c,d,λl Y=>(e l Y).1,λl Y r D=>(e l Y).2 r D⟩
def cstep(ps:List Nat)(d:List Nat)(c:Nat):List Nat:=List.zipWith (λk a=>min 2<|a+if c/2^k%2==1 then 1 else 0) ps d
theorem zic(f:Nat->Nat->Nat)(g:Nat->Nat):∀ps:List Nat,List.zipWith f ps (ps.map g)=ps.map λk=>f k (g k)
 |[]=>rfl
 |p::ps=>by rw[y0t,List.zipWith_cons_cons,zic f g ps];rfl
theorem cfold(ps:List Nat):∀(row pre:List Nat),row.foldl (cstep ps) (ps.map λk=>min 2<|fcnt pre k)=ps.map λk=>min 2 (fcnt (pre++row) k)
 |[],pre=>by rw[y1g];rfl
 |c::row,pre=>by
  rw[y30,show pre++c::row=(pre++[c])++row by simp,←cfold ps row (pre++[c])];congr 1;unfold cstep;rw[zic];apply y1w λk _=>?_;rw[ztt];generalize fcnt pre k=a;split<;>omega
def c0(ps:List Nat):List Nat:=ps.map λ_=>0
def cfin(d:List Nat):Bool:=d.all λa=>a==1
theorem zgq{A Bq:Type}(f:A->Nat->A)(g:Bq->Nat->Bq):∀(row:List Nat) (a:A) (b:Bq),row.foldl (λ(p:A×Bq) l=>(f p.1 l,g p.2 l)) (a,b)=(row.foldl f a,row.foldl g b)
 |[],_,_=>rfl
 |l::row,a,b=>by rw[y30,zgq f g row];rfl
def chkMet(a b m:Mc):Bool:=chkS m (λ(p:Nat×Nat) l=>(a.go p.1 l,b.go p.2 l)) (λp=>a.fin p.1&&b.fin p.2) (0,0)
theorem zuo(h:chkMet a b m=N)(row:List Nat)(D:m.Row row):m.fin 032=(a.fin (a.run 0 row)&&b.fin (b.run 0 row)):=by
 rw[zda h row D,zgq];rfl
def dstep(a:Mc)(t:Nat)(s:List Nat)(l:Nat):List Nat:=((dropT a t).step s).getD l []
def chkDrop(a:Mc)(t:Nat)(m:Mc):Bool:=chkS m (dstep a t) (dropT a t).fin [0]&&decide ((relS m (dstep a t) [0]).length<=100)&&decide (m.w=a.w-1)
structure DropR(a:Mc)(t:Nat)(Rq:List<|List Nat):Prop where
 hd:[0]∈Rq
 clo:∀s∈Rq,∀u∈(dropT a t).step s,u∈Rq
 few:Rq.length<=100
theorem zh8(h:chkDrop a t m=N):m.w=a.w-1/\(∃Rq,DropR a t Rq)/\∀row,m.Row row->m.fin 032=(dropT a t).fin ((dropT a t).run [0] row):=by
 unfold chkDrop at h;simp only[y07,decide_eq_true_eq]at h;let((O,M),A):=h;let(c0,g,_):=zun O;apply⟨A,⟨(relS m (dstep a t) [0]).map Prod.snd,y0h.mpr ⟨_,c0,R⟩,λs hs u U=>?_,by rw[y01];show M⟩,λrow D=>zda O row D⟩;let(p,E,rfl):=y0h.mp hs;let(l,Y,e):=y1n U;let w:l<2^m.w:=by rw[A];let:=(drop_step (m:=a) (t:=t) (rs:=p.2)).1;rw[this]at Y;show Y
 apply y0h.mpr ⟨_,g p E l w,?_⟩;change((dropT a t).step p.2).getD l []=u;rw[y02,y00 Y,e];rfl
structure Frm(tl:List Str):Prop where
 ok:FrOk tl
 four:∀z∈tl,z.length<=4
def mcost:Sy->Nat
 |.bare _ _ _=>1
 |.neg s=>mcost s+1
 |.two _ s t=>max (mcost s) (mcost t)+1
 |.qu w _ s=>if w="all" then mcost s+4 else mcost s+1
end SM
namespace L2
abbrev Key2:=Key ⊕ List Key
def rIskT(K:Frag):List V->Hp->VK->Prop:=λxs H Q=>∃x T k,xs=[x,.ty T]/\T∈["str","list","tuple","bool","int","dict"]/\(Kd H x k\/k="tuple"/\∃a ys,x=.ref a/\SqT K H a ys)/\Q (.bl<|subT k T) H
end L2
namespace SM
open PySem PySem.Spec PyProof.Rows L2 SS
structure LA where
 p:Ad
 dx:Ad
 pf:Ad
 pn:Ad
 ps:Ad
end SM
namespace L2
section
variable {X:Cx}{pins:Y2}{σ:St}{H:Hp}{s:ig}
open Classical in
theorem Inv.froze(I:02 H s)(E:∀x,X.fn x=N):∃Hq,Adopted X σ H Hq/\HOk X.prog X.w Hq s.heap/\(∀b u,H b=G u->Hq b=G u)/\(∀b,¬CellOf X b->Hq b=H b)/\∀b,CellOf X b->X.s₀.heap.objs.size<=b:=by
 letI Hq:Hp:=λb=>if CellOf X b then(s.heap.get? b).map λo=>.frz o (.own b)else H b
 let A:∀b,¬CellOf X b->Hq b=H b:=λb n=>Xp n;let w:∀x c,X.env.cells.lookup x=G c->∃o v,s.heap.get? c=G o/\o.data=.cell v/\Hq c=G 020:=λx c e=>by
  let(v,o,D,hd):=I.cell x c e;show⟨o,v,D,hd,by change(if CellOf X c then _ else _)=_;rw[Xq ⟨x,e⟩,D];rfl⟩
 let r:∀b u,H b=G u->¬CellOf X b:=λb u e ⟨x,z⟩=>by rw[I.freeC x b z]at e;cases e
 let ad:Adopted X σ H Hq:=⟨A,λb ⟨x,z⟩=>I.freeC x b z,I.ok.inj,λx c e=>by
  let(o,v,D,hd,O):=w x c e;apply⟨o,v,O,hd,λi y L g M=>?_⟩;let(m,U,Y):=I.loc;let(u,J,l):=Y i x y L g (by rcases M with z|z;show .inr<|.inl z;show .inr<|.inr z);rcases l with⟨z,_⟩|⟨_,c',q,f,d,j⟩
  .rcases M with p|p<;>(rw[z]at p;cases p)
  .rw[e]at q;cases q;rw[D]at d;cases d;rw[hd]at j;cases j;show⟨u,J,R⟩⟩
 let a:∀b,CellOf X b->X.s₀.heap.objs.size<=b:=λb ⟨x,e⟩=>I.ok.cab x b (E x) e;let up:∀b u,H b=G u->Hq b=G u:=λb u e=>by rw[A b<|r b u e];show e
 apply⟨Hq,ad,λb u e=>?_,up,A,a⟩;by_cases C:CellOf X b
 .let(x,ex):=C;let(o,v,D,hd,O):=w x b ex;rw[O]at e;cases e;show⟨D,o,D⟩
 .rw[A b C]at e;show(I.hok b u e).stay (λ_ _ _ z=>z) (λc z=>up c _ z) (λc _ _ _ _ z=>up c _ z) λc xs z=>up c _ z
end
section
variable {P:ik}{w:World}{K:Frag}{mg:Y1}{base:Heap}
theorem DfnC.calR{x:Str}{st d1:Stmt}{Nq ps:List Str}{k j:Nat}{sp:Sp}{c Pt:Ad}{y:Str}{py pr:Pos}(d:DfnC K mg x st ps c Pt)(S:FnScope Nq ps 73)(len:∀vs H Q E,sp vs H Q E->vs.length=ps.length)
  (U:defBody st=[d1,.Return (G<|.Name y py) pr]) (hj:Nq[j]?=G y) (hv:Vis 73 y) (ah:(y==("__debug__":Str))=Fa) (hcd:(y==("__classdict__":Str))=Fa)
  (i:∀(f:Ad) (A:io) (outer:List Env) (s:ig) (H:Hp) (vs:List V) (Q:VK) (E:XK),Room k (A.deeper<|jd x 73 s.heap.objs.size f (.ref c))->sp vs H Q E->
   ∃t,PS 065 d1 t/\
    t {nx:=λσ H'=>∃v,σ[j]?=G (G v)/\∀Hq,Adopted 065 σ H' Hq->Q v Hq,rt:=λ_ _=>False} 036 H):03 (k+1) x ps sp:=by
 let(f,fd,F,b,m):=d.ex;let(oc,M,kV,doc,pm,an,ct,osl,rfl,lk,hcd'):=F.ex;apply⟨f,_,⟨len,λA outer s H args us vs Q E D e0 hb' r T=>?_⟩,b,F.kp,m⟩;let Y:=len _ _ _ _ T;let KX:K.In s.heap:=e0.mod.kin.keeps λb o e=>(040).1;let d8:s.heap.NoLimit:=e0.mod.nolimit.keeps λb o e=>(040).1;let a:∀y∈ps.zip us,(73).names.lookup y.1=G .local\/((73).names.lookup y.1=G .cell/\((iw 061 (73).names []).lookup y.1).isSome=N):=λ⟨n,v⟩ hy=>by
  rcases S.par n (y21 hy).1 with q|q
  .exact .inl q
  .exact .inr ⟨q,PySem.W.cellsFrom_some _ _ _<|.inl q⟩
 apply iW D.depth (KX _ _ lk) R S.co S.gen R (PySem.W.codeRec_of KX hcd')<|hb' _ _ _ _ ?_;apply jk S.kind a λenv he s1 x1=>?_;subst he;apply⟨d8.keeps x1.toInCall.keep,jB ?_⟩;let(t,p,O):=i f A outer s H vs Q E (D.deeper _) T;let I:Inv 065 [] 036 H s1:=zgn S D.hd e0 Y r x1;let key:wpAny 81 (A.deeper<|jd x 73 s.heap.objs.size f (.ref c)) (execs (defBody st)<|jd x 73 s.heap.objs.size f (.ref c))
   (λfl s'=>∃u,fl=.ret u/\CE outer P w H s Q u s') (065).xe s1:=by
  rw[U];apply iL<|thn (p [] s1 036 H _ I O) λfl s2 hs=>?_;cases fl with
  |ret u=>let(_,_,_,_,_,q):=hs;show False.elim q
  |brk=>let(_,_,_,q):=hs;show False.elim q
  |cont=>let(_,_,_,q):=hs;show False.elim q
  |next =>
   let(l,H',J,v,ev,q):=hs;apply iL<|wpAny_Return_some (thn (zhs (X:=cxOf CX0 P w K mg base Nq x 73 f (.ref c) A outer s H E) (pos:=py) hj hv ah hcd [] s2 l H' (λz Hz=>z=v/\Hz=H') J<|zfz ev ⟨R,R⟩) λu s3 ⟨z,Hz,J3,rz,L,g⟩=>?_);subst L g;let(Hq,ad,hok,up,nc,low):=J3.froze λ_=>rfl;let un:=J3.base;let old:∀b o,s.heap.get? b=G o->¬CellOf 065 b:=λb o e C=>Xa (y0q (y0g e)<|low b C)<|y1m _;show⟨u,R,z,Hq,J3.os,J3.bare,⟨un.keep,un.slot,λb o e n hx=>by rw[nc b<|old b o e];show un.free b o e n hx,un.there,λb xs e=>up _ _<|un.tups b xs e,λb o u e=>up _ _<|un.frzs b o u e,λb qs ps e=>up _ _<|un.tbls b qs ps e⟩,hok,rz,q Hq ad⟩
 apply iq key (λfl s' hs=>?_) λe s' hs=>hs;let(u,rfl,h):=hs;show h
end
section
variable {X:Cx}{c P:Ad}{qs:Y3}{name qual:Str}{params:iN}{scope:Scope}{pos:Pos}
theorem zvy(C:X.env.code=.ref c)(r:KCode X.K c P)(q:BltK X.base X.mg)(g:∀p∈scope.names,p.2=.free->X.env.kindOf p.1=G .cell\/X.env.kindOf p.1=G .free)(nd:docOf body=B)
  (O:(pos,qual)∈qs) (i:∀p∈qs,p.1.line=pos.line->p.1.col=pos.col->p.2=qual) (hd:params.defaults=[]) (E:params.kw_defaults=[]) (d:∀e,annTrees params B e=[]) (a:ly X.env name name=qual)
  (hN:X.Nq.Nodup) (U:X.Nq[j]?=G name) (J:Loc X.env.scope name) (x:X.fn name=N):PS X 079 083:=by
 intro pins s σ H D I h;let(T,h):=h;rw[exec_def];let o:defaultsOf params X.env=([],[]):=by rw[defaultsOf_eq,hd,E];rfl
 simp only[o,d,a];apply ia<|je (ia<|ir (ia<|ib (ia<|ir (ib<|ir (ia<|ib ?_)))));apply zms I C r q g nd T O i λf H' s' y M=>ia<|je (ia<|wpAny_bindName ?_);show zcn y hN U J (v:=.ref f) R (λs2 l=>ib ⟨_,H',l,h f H' M⟩)<|.inl x
theorem zzc(qual:Str)(C:X.env.code=.ref c)(r:KCode X.K c P)(q:BltK X.base X.mg)(g:freeOk X.env scope=N)(O:oneOk qs pos qual=N)(hN:X.Nq.Nodup)(U:X.Nq[j]?=G name)(J:Loc X.env.scope name)(T:X.fn name=N)(nd:docOf body=B:=by rfl)
  (hd:params.defaults=[]:=by rfl) (E:params.kw_defaults=[]:=by rfl) (d:∀e,annTrees params B e=[]:=by intro e;rfl) (a:ly X.env name name=qual:=by rfl) :
  PS X 079 083:=zvy C r q (freeOk.of g) nd (oneOk.mem O) (oneOk.one O) hd E d a hN U J T
end
def FnNd(Nq:List Str):Prop:=Nq.Nodup
instance (Nq:List Str):Decidable (FnNd Nq):=inferInstanceAs<|Decidable Nq.Nodup
theorem FnNd.nd(h:FnNd Nq):Nq.Nodup:=h
structure CalF(P:ik)(w:World)(K:Frag)(mg:Y1)(base:Heap)(n:Nat)(f:Ad)(ps:List Str)(sp:Sp):Prop where
 ex:∃fd,FnOk P w K mg base CX0 n f fd ps sp/\Binds K fd ps []/\PySem.W.keepIn K 52=N
theorem Cal.fn{P:ik}{w:World}{K:Frag}{mg:Y1}{base:Heap}{n:Nat}{x:Str}{ps:List Str}{sp:Sp}(C:03 n x ps sp):∃f,CalF P w K mg base n f ps sp/\mg x=G 52:=by
 let(f,fd,F,b,k,m):=C.ex;show⟨f,⟨fd,F,b,k⟩,m⟩
def tCallG(f:Ad)(sp:Sp)(i:Nat)(t:TA):TE:=λσ H Q=>σ[i]?=G (G 52)/\t σ H λvs H1=>sp vs H1 Q E0
theorem zct{X:Cx}{x:Str}{i k n:Nat}{f:Ad}{ps:List Str}{sp:Sp}{p pos:Pos}{e:Expr}{es:List Expr}{t:TA}(C:CalF X.prog X.w X.K X.mg X.base n f ps sp)(D:Room k X.A)(v:n<=k)(d:PA X (e::es) t)(hN:X.Nq[i]?=G x:=by rfl)(hv:Vis X.env.scope x:=by first|show Or.inl rfl|show Or.inr (Or.inl R)|show Or.inr (Or.inr R))
  (hd:012=Fa:=by decide) (hcd:056=Fa:=by decide) (O:notStar e=N:=by rfl) (M:es.all notStar=N:=by rfl) :
  PE X 029 (tCallG f sp i t):=by
 intro pins s σ H Q I h;let(fd,F,b,j):=C.ex;let(hs,h):=h;infer_instance;let(L,g):=zq;subst L g;cases(show u=Va.ref f from r1);apply PySem.W.callWith_K (h₀:=X.base) I1.ok.mod.kin j (thn (d pos pins s1 σ _ _ I1 h) λus s2 zz=>ex5 zz λvs H2 l r q=>⟨l.kIn,?_⟩) (zap O)<|zbb M;show zrl F (D.mono v) b .nil pass0 l r (by rw[y1g];show q)
def CloHE(P:ik)(w:World)(K:Frag)(mg:Y1)(base:Heap)(k:Nat)(H:Hp)(f:Ad)(n:Nat)(sp:Sp):Prop :=
 ∀(A:io) (outer:List Env) (s:ig) (H':Hp) (us:List Va) (vs:List V) (Q:VK) (E:XK),Room k A->Env0 P w K mg base A outer s H'->Frz H H'->Vals vs us->vs.length=n->sp vs H' Q E->
  jc 81 A (.call 52 025) (CR (CXE P w) outer P w H' s Q E) s
theorem CloHE.mono{P:ik}{w:World}{K:Frag}{mg:Y1}{base:Heap}{k:Nat}{H H1:Hp}{f:Ad}{n:Nat}{sp:Sp}(c:CloHE P w K mg base k H f n sp)(g:Frz H H1):CloHE P w K mg base k H1 f n sp :=
 λA outer s H' us vs Q E D J d=>c A outer s H' us vs Q E D J<|g.trans d
def EL(cl:Y4)(H:Hp)(E:XK):XK:=λc a H2=>033->E c a (mixL cl H H2)
noncomputable def cxLE(P:ik)(w:World)(K:Frag)(mg:Y1)(base:Heap)(Nq:List Str)(qual:Str)(scope:Scope)(cl:Y4)(f:Ad)(cd:Va)(A:io)(outer:List Env)(s:ig)(H:Hp)(E:XK):Cx :=
 (cxL P w K mg base Nq qual scope cl f cd A outer s H).wish λe s'=>wpAny 81 (A.deeper<|envL qual scope cl s.heap.objs.size f cd) (li (envL qual scope cl s.heap.objs.size f cd) e) (λ_ d=>CXE P w outer (dropL cl H) s (EL cl H E) e d) (λl d=>CXE P w outer (dropL cl H) s (EL cl H E) l d) s'
section
variable {P:ik}{w:World}{K:Frag}{mg:Y1}{base:Heap}{A:io}{outer:List Env}{s:ig}{H:Hp}{own ps cap:List Str}{qual:Str}{scope:Scope}{cl:Y4}{f:Ad}{cd:Va}{vs cv:List V}{us:List Va}
theorem zku{s':ig}(M:Env0 P w K mg base A outer s H)(E:ClOk cl H)(un:Un (frs outer) [] (dropL cl H) H2 s.heap s'.heap)(hok:HOk P w H2 s'.heap):
  Un (frs outer) [] H (mixL cl H H2) s.heap s'.heap/\HOk P w (mixL cl H H2) s'.heap/\033/\∀x c,cl.lookup x=G c->∃o,H c=G 020/\s.heap.get? c=G o/\s'.heap.get? c=G o/\∃v,o.data=.cell v:=by
 classical
 let p:∀b,¬InCl cl b->dropL cl H b=H b:=λb n=>Xp n;let i:∀b,¬InCl cl b->mixL cl H H2 b=H2 b:=λb n=>Xp n;let d:∀b,H b=B->¬InCl cl b:=λb e ⟨x,z⟩=>by
  let(o,v,I,_):=E x b z;rw[I]at e;cases e
 let O:∀x c,cl.lookup x=G c->∃o,H c=G 020/\s.heap.get? c=G o/\s'.heap.get? c=G o/\H2 c=B/\∃v,o.data=.cell v:=λx c e=>by
  let(o,v,z,q):=E x c e;let D:=(M.hok c _ z).1;let j:dropL cl H c=B:=Xq ⟨x,e⟩;let L:c∉frs outer:=λU=>by rw[M.frf c U]at z;cases z
  show⟨o,z,D,un.keep c o D j L 05,un.free c o D j 05,v,q⟩
 let nm:∀b u,H2 b=G u->¬InCl cl b:=λb u e ⟨x,z⟩=>by
  let(_,_,_,_,I,_):=O x b z;rw[I]at e;cases e
 apply⟨⟨λb o e n T J=>un.keep b o e (by rw[p b<|d b n];show n) T J,λb o e n T J=>un.slot b o e (by rw[p b<|d b n];show n) T J,λb o e n J=>by rw[i b<|d b n];show un.free b o e (by rw[p b<|d b n];show n) J,un.there,λb xs e=>?_,λb o a e=>?_,λb qs ps e=>?_⟩,λb u e=>?_,λb ⟨x,z⟩=>(let⟨_,_,_,_,I,_⟩:=O x b z;I),λx c e=>let⟨o,Y,r,Q,_,g⟩:=O x c e;⟨o,Y,r,Q,g⟩⟩
 .let C:=zbx E e λ_ _ y=>nomatch y;rw[i b C];show un.tups b xs (by rw[p b C];show e)
 .by_cases C:InCl cl b
  .change(if InCl cl b then H b else H2 b)=_;rw[Xq C];show e
  .rw[i b C];show un.frzs b o a (by rw[p b C];show e)
 .let C:=zbx E e λ_ _ y=>nomatch y;rw[i b C];show un.tbls b qs ps (by rw[p b C];show e)
 .by_cases C:InCl cl b
  .let l:H b=G u:=by rw[←e];show(Xq C).symm
   let(x,z):=C;let(o,z1,_,I,_):=O x b z;rw[z1]at l;cases l;show⟨I,o,I⟩
  .rw[i b C]at e;show(hok b u e).stay (λ_ _ _ z=>z) (λc z=>by rw[i c<|nm c _ z];show z) (λc _ _ _ _ z=>by rw[i c<|nm c _ z];show z) λc xs z=>by rw[i c<|nm c _ z];show z
theorem zua(J:Env0 P w K mg base A outer s H)(U:ClOk cl H)(h:CXE P w outer (dropL cl H) s (EL cl H E) e s'):CXE P w outer H s E e s':=by
 classical
 let(a,cls,H2,rfl,os,bare,un,hok,(Y,vs,T,g,ts,y,D,j,v,c,Q,l,p,u,d,O,M),C):=h;let(r,p2,L,q):=zku J U un hok;let out:∀b,s.heap.get? b=B->¬InCl cl b:=λb e ⟨x,z⟩=>by
  let(o,_,I,_):=q x b z;rw[e]at I;cases I
 let i:∀b,¬InCl cl b->mixL cl H H2 b=H2 b:=λb n=>Xp n;show⟨a,cls,mixL cl H H2,R,os,bare,r,p2,⟨Y,vs,T,g,ts,y,D,j,v,c,Q,l,p,u,d,(i a<|out a u).trans O,(i T<|out T d).trans M⟩,C L⟩
end
section
variable {P:ik}{w:World}{K:Frag}{mg:Y1}{base:Heap}{H:Hp}{own ps cap:List Str}{name qual:Str}{params:iN}{scope:Scope}{cl:Y4}{f c':Ad}{oc:Obj}{ct pm:Va}{cv:List V}{k:Nat}{sp:Sp}
theorem zqm(S:CloScope own ps cap scope)(bh:ps.length<=own.length)(T:H f=G (fnO 063 f))(M:H c'=G (.frz oc<|.own c'))(co:CodeObj oc qual)
  (U:ClOk cl H) (g:∀p∈scope.names,p.2=.free->∃c,cl.lookup p.1=G c) (inj:∀x y c,cl.lookup x=G c->cl.lookup y=G c->x=y) (am:Caps H cl cap cv)
  (a:∀us:List Va,us.length=ps.length->jf 063 025=pure 026)
  (i:∀(A:io) (outer:List Env) (s:ig) (H':Hp) (vs:List V) (Q:VK) (E:XK),Room k 064->Env0 P w K mg base A outer s H'->Frz H H'->ClOk cl H'->vs.length=ps.length->sp vs H' Q E->Rs (cxLE P w K mg base (own++cap) qual scope cl f (.ref c') A outer s H' E) (EL cl H' E)->
   ∃t,PSs (cxLE P w K mg base (own++cap) qual scope cl f (.ref c') A outer s H' E) body t/\t {nx:=λ_ H2=>033->Q .non 039,rt:=λv H2=>033->Q v 039} (stL own vs cv) (dropL cl H')):CloHE P w K mg base (k+1) H f ps.length sp:=by
 intro A outer s H' us vs Q E D e0 fz r Y aj;let KX:K.In s.heap:=e0.mod.kin.keeps λb o e=>(040).1;let d8:s.heap.NoLimit:=e0.mod.nolimit.keeps λb o e=>(040).1;let ho:=(e0.hok f _<|fz _ _ _ T).1;let dr:=(e0.hok c' _<|fz _ _ _ M).1;let(j,t',o6,o8):=co;let o7:us.length=ps.length:=by rw[←r.length];show Y
 let L:ClOk cl H':=λx c e=>let⟨o,v,z,d⟩:=U x c e;⟨o,v,fz _ _ _ z,d⟩;apply iW D.depth ho R S.co S.gen R ⟨c',oc,j,t',R,dr,o6,o8⟩ ?_;rw[a us o7];apply ib<|newEnvL S (λy C=>S.par y.1 (y21<|show(y.1,y.2)∈ps.zip us from C).1) λs1 x=>?_;apply⟨d8.keeps x.toInCall.keep,jB ?_⟩;let(t,ht,O):=i A outer s H' vs Q E (D.deeper _) e0 fz L Y aj ⟨R,R,R,λ_ _ h=>h⟩;let I:=zi2 (qual:=qual) (f:=f) (cd:=.ref c') S.m D.hd e0 Y bh r L g inj (am.frz fz) x;rw[zub S.nocell]at I;apply iq (ht [] _ _ _ _ (I.wish _) O) (λfl s' hs=>?_) λe s' hs=>iq hs (λ_ s'' z=>zua e0 L z) λl s'' z=>zua e0 L z;let hs:=SP.unwish hs;cases fl with
 |ret u =>
  let(v,a0,H2,J,rv,q):=hs;show zep e0 L (by rw[zub S.nocell];show J) rv q
 |next =>
  let(a0,H2,J,q):=hs;show zep (v:=V.non) (u:=Va.none) e0 L (by rw[zub S.nocell];show J) R q
 |brk =>
  let(_,_,_,q):=hs;show False.elim q
 |cont =>
  let(_,_,_,q):=hs;show False.elim q
end
section
variable {X:Cx}{H H1 H1' Hq:Hp}{σ:St}{name qual:Str}{params:iN}{scope:Scope}{f:Ad}{own ps cap:List Str}{cv:List V}{k:Nat}{sp:Sp}
theorem Made.clo_sE(M:Made X H H1 name qual params (.stmts body) scope f)(g:Same H1 H1')(ad:Adopted X σ H1' Hq)(S:CloScope own ps cap scope)(C:ps.length<=own.length)(l:CapAt X σ cap cv)
  (a:∀(cl:Y4) (ct cd p:Va) (us:List Va),us.length=ps.length->jf (cloFd name qual params (.stmts body) scope cl ct cd p) 025=pure 026)
  (i:∀(cl:Y4) (c':Ad) (A:io) (outer:List Env) (s:ig) (H':Hp) (vs:List V) (Q:VK) (E:XK),Room k 064->Env0 X.prog X.w X.K X.mg X.base A outer s H'->ClOk cl H'->Frz Hq H'->Frz H1' (dropL cl H')->vs.length=ps.length->sp vs H' Q E->Rs (cxLE X.prog X.w X.K X.mg X.base (own++cap) qual scope cl f (.ref c') A outer s H' E) (EL cl H' E)->
   ∃t,PSs (cxLE X.prog X.w X.K X.mg X.base (own++cap) qual scope cl f (.ref c') A outer s H' E) body t/\t {nx:=λ_ H2=>033->Q .non 039,rt:=λv H2=>033->Q v 039} (stL own vs cv) (dropL cl H')):CloHE X.prog X.w X.K X.mg X.base (k+1) Hq f ps.length sp:=by
 let(cl,ct,c',oc,p,l1,l2,r,w,j):=M.ex;let U:ClOk cl Hq:=λx c e=>let⟨o,v,O,I,_⟩:=ad.2.2.2 x c<|l1 x c e;⟨o,v,O,I⟩;let up:=ad.up;apply zqm S C (up _ _<|g _ _ j) (up _ _<|g _ _ r) w U l2 (λx y c L q=>ad.2.2.1 x y c (l1 x c L)<|l1 y c q) (zgw ad l1 (λx J=>l2 (x,.free) (mem_of_lookup'<|S.cap x J) R) l) (a cl ct _ p) λA outer s H' vs Q E D z d u Y T Rq=>?_;show i cl c' A outer s H' vs Q E D z u d (zfw ad l1 d) Y T Rq
end
section
variable {X:Cx}
def tCallVE(P:ik)(w:World)(K:Frag)(mg:Y1)(base:Heap)(k n:Nat)(sp:Sp)(E:XK)(i:Nat)(t:TA):TE:=λσ H Q=>∃f fd,σ[i]?=G (G 52)/\H f=G (fnO fd f)/\
 t σ H λvs H1=>H1 f=G (fnO fd f)/\CloHE P w K mg base k H1 f n sp/\vs.length=n/\sp vs H1 Q E
theorem zxc{pins:Y2}{σ:St}{f:Ad}{fd:i6}{H2:Hp}{s2:ig}(l:02 H2 s2)(y:H2 f=G (fnO fd f)):PySem.W.Frag.In [068] s2.heap:=λa o e=>by
 simp only[List.lookup]at e;split at e
 .rename_i q;cases e;rw[beq_iff_eq.mp q];show(l.hok f _ y).1
 .cases e
theorem zr4{x:Str}{i k n:Nat}{sp:Sp}{E:XK}{p pos:Pos}{e:Expr}{es:List Expr}{t:TA}(Rq:Rs X E)(hN:X.Nq[i]?=G x)(hv:Vis X.env.scope x)(D:Room k X.A)(d:PA X (e::es) t)
  (hd:012=Fa:=by decide) (hcd:056=Fa:=by decide) (O:notStar e=N:=by rfl) (M:es.all notStar=N:=by rfl) :
  PE X 029 (tCallVE X.prog X.w X.K X.mg X.base k n sp E i t):=by
 intro pins s σ H Q I h;let(f,fd,hs,T,h):=h;infer_instance;let(L,g):=zq;subst L g;cases(show u=Va.ref f from r1);apply PySem.W.callWith_K (K:=[068]) (h₀:=s1.heap) (zxc I1 T) (zi0 f fd) (thn (d pos pins s1 σ H1 _ I1 h) λus s2 ⟨vs,H2,l,r,y,c,Y,q⟩=>⟨zxc l y,?_⟩) (zap O)<|zbb M;apply ji<|iH (c X.A X.stack s2 H2 us vs Q E D l.env0 (Frz.refl _) r Y q) λr s' v=>?_;cases r with
 |error e=>show Rq.xe e s'<|ze1 l Rq.ex Rq.st Rq.fr v λ_ _ _ z=>z
 |ok w =>
  cases w with
  |ret u=>show l.after v
  |next=>show False.elim v
  |brk=>show False.elim v
  |cont=>show False.elim v
end
section
variable {P:ik}{w:World}{cl:Y4}
theorem zh5{st:List Env}{H1 H2 Hq:Hp}{h h':Heap}(A:∀b,¬InCl cl b->Hq b=H1 b)(q0:∀b,InCl cl b->H1 b=B)(g:∀x c,cl.lookup x=G c->∃o v,h.get? c=G o/\o.data=.cell v/\Hq c=G 020)(i:∀b∈frs st,¬InCl cl b)
  (un:Un (frs st) [] Hq H2 h h') (E:HOk P w H2 h'):Un (frs st) [] H1 (dropL cl H2) h h'/\HOk P w (dropL cl H2) h':=by
 classical
 let U:∀x c,cl.lookup x=G c->∃o v,h.get? c=G o/\o.data=.cell v/\H2 c=G 020/\h'.get? c=G o:=λx c e=>by
  let(o,v,D,hd,O):=g x c e;let z:=un.frzs c o _ O;show⟨o,v,D,hd,z,(E c _ z).1⟩
 let p:∀b,¬InCl cl b->dropL cl H2 b=H2 b:=λb n=>Xp n;let r:∀b u,H1 b=G u->¬InCl cl b:=λb u e C=>by rw[q0 b C]at e;cases e
 let up:∀b u,H1 b=G u->Hq b=G u:=λb u e=>by rw[A b<|r b u e];show e
 let j:∀b o u q,CodeObj o q->H2 b=G (.frz o u)->¬InCl cl b:=λb o u q ⟨vs,t,hv,_⟩ e ⟨x,z⟩=>by
  let(f,v,d,hd,I,_):=U x b z;rw[I]at e;cases e;rw[hv]at hd;cases hd
 let nm:∀b u,H2 b=G u->(∀o a,u ≠ .frz o a)->¬InCl cl b:=λb u e n ⟨x,z⟩=>by
  let(o,_,_,_,I,_):=U x b z;rw[I]at e;cases e;show n _ _ R
 apply⟨⟨λb o e n T J=>?_,λb o e n T J=>?_,λb o e n J=>?_,λb o e J=>?_,λb xs e=>?_,λb o a e=>?_,λb qs ps e=>?_⟩,λb u e=>?_⟩
 .by_cases C:InCl cl b
  .let(x,ex):=C;let(f,_,d,_,_,z):=U x b ex;rw[e]at d;cases d;show z
  .exact un.keep b o e (by rw[A b C];show n) T J
 .exact un.slot b o e (by rw[A b<|i b T];show n) T J
 .by_cases C:InCl cl b
  .exact Xq C
  .rw[p b C];show un.free b o e (by rw[A b C];show n) J
 .exact un.there b o e J
 .rw[p b<|r b _ e];show un.tups b xs<|up b _ e
 .rw[p b<|r b _ e];show un.frzs b o a<|up b _ e
 .rw[p b<|r b _ e];show un.tbls b qs ps<|up b _ e
 .let C:¬InCl cl b:=λC=>by
   let:dropL cl H2 b=B:=Xq C;rw[this]at e;cases e
  rw[p b C]at e;show(E b u e).stay (λ_ _ _ z=>z) (λc z=>by rw[p c<|nm c _ z λ_ _ y=>nomatch y];show z) (λc o a q co z=>by rw[p c<|j c o a q co z];show z) λc xs z=>by rw[p c<|nm c _ z λ_ _ y=>nomatch y];show z
theorem mix_frz(g:Frz (dropL cl H) H1):Frz H (mixL cl H H1):=λb o u e=>by
 classical
 change(if InCl cl b then H b else H1 b)=_;by_cases C:InCl cl b
 .rw[Xq C];show e
 .rw[Xp C];show g b o u (by change(if InCl cl b then B else H b)=_;rw[Xp C];show e)
theorem ztx(q0:∀b,InCl cl b->H1 b=B)(g:Same (mixL cl H H1) H2):Same H1 (dropL cl H2):=λb u e=>by
 classical
 let C:¬InCl cl b:=λC=>by rw[q0 b C]at e;cases e
 change(if InCl cl b then B else H2 b)=G u;rw[Xp C];show g b u (by change(if InCl cl b then H b else H1 b)=G u;rw[Xp C];show e)
end
def tCallVLE(P:ik)(w:World)(K:Frag)(mg:Y1)(base:Heap)(cl:Y4)(O:Hp)(k n:Nat)(sp:Sp)(E:XK)(i:Nat)(t:TA):TE:=λσ H Q=>∃f fd,σ[i]?=G (G 52)/\H f=G (fnO fd f)/\
 t σ H λvs H1=>(∀b,InCl cl b->H1 b=B)->H1 f=G (fnO fd f)/\CloHE P w K mg base k (mixL cl O H1) f n sp/\vs.length=n/\sp vs (mixL cl O H1) (λv H2=>Q v<|dropL cl H2) λc a H2=>EL cl O E c a<|dropL cl H2
theorem zbw{P:ik}{w:World}{K:Frag}{mg:Y1}{base:Heap}{Nq:List Str}{qual:Str}{scope:Scope}{cl:Y4}{f0:Ad}{cd:Va}{A:io}{outer:List Env}{s0:ig}{H0:Hp}{E:XK}
  {x:Str} {i k n:Nat} {sp:Sp} {p pos:Pos} {e:Expr} {es:List Expr} {t:TA} (e0:Env0 P w K mg base A outer s0 H0) (a6:ClOk cl H0) (Rq:Rs 066<|EL cl H0 E) (hN:Nq[i]?=G x) (hv:Vis scope x)
  (D:Room k (066).A) (d:PA 066 (e::es) t)
  (hd:012=Fa:=by decide) (hcd:056=Fa:=by decide) (O:notStar e=N:=by rfl) (M:es.all notStar=N:=by rfl) :
  PE 066 029 (tCallVLE P w K mg base cl H0 k n sp E i t):=by
 classical
 intro pins s σ H Q I h;let(f,fd,hs,hf,h):=h;infer_instance;let(L,g):=zq;subst L g;cases(show u=Va.ref f from r1);apply PySem.W.callWith_K (K:=[068]) (h₀:=s1.heap) (zxc I1 hf) (zi0 f fd) (thn (d pos pins s1 σ H1 _ I1 h) λus s2 zz=>ex5 zz λvs H2 l r q=>?_) (zap O)<|zbb M;let un2:Un (frs outer) [] (dropL cl H0) H2 s0.heap s2.heap:=l.base;let(p1,p2,p3,p4):=zku e0 a6 un2 l.hok;let(y,c,Y,q):=q p3;apply⟨zxc l y,?_⟩;let m1:∀b,¬InCl cl b->mixL cl H0 H2 b=H2 b:=λb n=>Xp n;let mz:∀b,InCl cl b->mixL cl H0 H2 b=H0 b:=λb n=>Xq n;let ie:=l.env0;let g9:∀b∈frs (cxLE P w K mg base Nq qual scope cl f0 cd A outer s0 H0 E).stack,¬InCl cl b:=λb U ⟨x,z⟩=>by
  let(o,a1,a2,_):=p4 x b z;rcases y08.mp (l.stkSub b U)with w'|w'
  .let a8:b<s0.heap.objs.size:=y0g a2;rw[w']at a8;show y1m _<|show s0.heap.objs.size<s0.heap.objs.size from a8
  .rw[e0.frf b w']at a1;cases a1
 let e0q:Env0 P w K mg base (066).A (066).stack s2 (mixL cl H0 H2):=⟨ie.frames,ie.mod,λb o e=>⟨(ie.bs b o e).1,by
  by_cases C:InCl cl b
  .rw[mz b C];show(040).2
  .rw[m1 b C];show(ie.bs b o e).2⟩,ie.bsz,ie.funs,λb U=>by rw[m1 b<|g9 b U];show ie.frf b U,p2,ie.bare⟩
 let c1:∀x c,cl.lookup x=G c->∃o v,s2.heap.get? c=G o/\o.data=.cell v/\mixL cl H0 H2 c=G 020:=λx c e=>by
  let(o,a1,a2,a3,v,a4):=p4 x c e;show⟨o,v,a3,a4,by rw[mz c ⟨x,e⟩];show a1⟩
 apply ji<|iH (c _ _ s2 (mixL cl H0 H2) us vs _ _ D e0q (Frz.refl _) r Y q) λr s' hq=>?_;cases r with
 |error e =>
  let(a,cls,H3,rfl,os,bare,un,oh,(oe,c9,T,oT,ts,t1,t2,j,t4,t5,t6,t7,t8,n1,n2,g1,J),ee):=hq;let(d1,d2):=zh5 m1 p3 c1 g9 un oh;let dn:∀b,H3 b=B->dropL cl H3 b=B:=λb e=>by
   by_cases C:InCl cl b
   .exact Xq C
   .exact(Xp C).trans e
  show Rq.xe _ s'<|ze1 (E':=EL cl H0 E) l Rq.ex Rq.st Rq.fr ⟨a,cls,dropL cl H3,R,os,bare,d1,d2,⟨oe,c9,T,oT,ts,t1,t2,j,t4,t5,t6,t7,t8,n1,n2,dn _ g1,dn _ J⟩,ee⟩ λ_ _ _ z=>z
 |ok fl =>
  cases fl with
  |ret u =>
   let(v,H3,os,bare,un,oh,rv,qq):=hq;let(d1,d2):=zh5 m1 p3 c1 g9 un oh;show l.after ⟨v,dropL cl H3,os,bare,d1,d2,rv,qq⟩
  |next=>show False.elim hq
  |brk=>show False.elim hq
  |cont=>show False.elim hq
def rSortF(P:ik)(w:World):List V->Hp->VK->Prop:=λxs H Q=>∃(p:Ad) (ns F:List Int),xs=[.ref p]/\H p=G (setI P w p ns)/\F.length<64/\(∀k∈ns,k∈F)/\∀(ms:List Int),ms.Pairwise (· < ·)->(∀k,k∈ms↔k∈ns)->∀L H',New H L (.lst<|ms.map V.int) H'->Q (.ref L) H'
open PyProof.Rows.LSm
end L2
namespace SM
open PySem PySem.Spec PyProof.Rows L2 SS
theorem Rep.ts(r:Rep H v s)(g:TupS H H'):Rep H' v s:=by
 induction r with
 |bare L e=>show .bare L<|g _ _ e
 |neg e _ f=>show .neg (g _ _ e) f
 |two L e _ _ y p=>show .two L (g _ _ e) y p
 |qu L e _ f=>show .qu L (g _ _ e) f
theorem ClOk.same{cl:Y4}{H H':Hp}(h:ClOk cl H)(g:Same H H'):ClOk cl H':=λx c e=>let⟨o,v,z,d⟩:=h x c e;⟨o,v,g _ _ z,d⟩
def znu(K:Frag)(Y:Ad)(c:Y3)(j:Ad)(e:Y3)(L:Ad)(f:Y3):Sp:=λvs H Q _=>∃(v:V) (b:Ad) (tl:List Str) (wd n m:Str),vs=[v,.ref b]/\TabOk H Y c/\TabOk H j e/\TabOk H L f/\Rep H v (.bare wd n m)/\H b=G (.lst<|tl.map V.str)/\Frm tl/\n∈tl/\m∈tl/\wd∈SM.rowWords/\
 ∀p M H',Same H H'->RepM H' p M->BareM tl wd (tl.idxOf n) (tl.idxOf m) M->Q 22 H'
def znt(Y:Ad)(c:Y3)(x:Ad)(qd:Y3):Sp:=λvs H Q _=>∃(a:Ad) (m:Mc) (t:Nat),vs=[.ref a,nV t]/\TabOk H Y c/\TabOk H x qd/\RepM H a m/\m.Ok/\m.n<=12/\t<m.w/\(∃Rq,DropR m t Rq)/\ExQ (dropT m t) [0] H Q
end SM
namespace SS
open PySem PySem.Spec PyProof.Rows L2
noncomputable abbrev ch(s:Str):List Nat:=s.cps.toList
theorem zyk(a b:Str):ch (a++b)=ch a++ch b:=by
 change(a++b).cps.toList=_;rw[Str.cps_append,Array.toList_append]
def cutAt(c:Nat):List Nat->List (List Nat)
 |[]=>[[]]
 |x::l=>if x=c then[]::cutAt c l else match cutAt c l with
  |p::r=>(x::p)::r
  |[]=>[[x]]
theorem zo1(c:Nat):∀l,cutAt c l≠[]
 |[]=>by simp[cutAt]
 |x::l=>by
  unfold cutAt;split
  .simp
  .split<;>simp
theorem zck(h:¬x=c):∃p r,cutAt c l=p::r/\cutAt c (x::l)=(x::p)::r:=by
 cases e:cutAt c l with
 |nil=>show Xa e<|zo1 c l
 |cons p r=>show⟨p,r,R,by rw[cutAt,Xp h,e]⟩
def joinAt(z:List Nat):List (List Nat)->List Nat
 |[]=>[]
 |[p]=>p
 |p::q::r=>p++z++joinAt z (q::r)
theorem zm3(z:Str):∀l:List Str,ch (Str.join z l)=joinAt (ch z) (l.map ch)
 |[]=>rfl
 |[p]=>rfl
 |p::q::r=>by
  let f:=zm3 z (q::r);change ch (p++z++Str.join z (q::r))=ch p++ch z++joinAt (ch z) (ch q::r.map ch);rw[zyk,zyk,f];rfl
theorem zue(c:Nat):∀a b:List Nat,cutAt c (a++c::b)=cutAt c a++cutAt c b
 |[],b=>by simp[cutAt]
 |x::a,b=>by
  let f:=zue c a b;by_cases h:x=c
  .rw[y1u,cutAt,Xq h,f,cutAt,Xq h,y1u]
  .let(p,r,L,g):=zck (l:=a) h;let(j,r',d,Q):=zck (l:=a++c::b) h;rw[f,L,y1u]at d;injection d with A w
   rw[y1u,Q,g,←A,←w,y1u]
theorem zi9:∀{a:List Nat},c∉a->cutAt c a=[a]
 |[],_=>rfl
 |x::a,h=>by
  let O:¬x=c:=λe=>h<|e▸y0a;let(p,r,L,g):=zck (l:=a) O;rw[zi9 λm=>h<|y06 _ m]at L;injection L with A w
  rw[g,←A,←w]
theorem zoy(c:Nat):∀parts:List<|List Nat,parts≠[]->(∀p∈parts,c∉p)->cutAt c (joinAt [c] parts)=parts
 |[],h,_=>Xa R h
 |[p],_,h=>zi9<|h p (y0b.mpr R)
 |p::q::r,_,h=>by
  let f:=zoy c (q::r) 05 λa d=>h a<|y06 _ d;change cutAt c (p++[c]++joinAt [c] (q::r))=_;rw[y2e,y4c,zue,f,zi9<|h p y0a];rfl
theorem zve(x y:Str):Txt.split x y≠[]:=by
 unfold Txt.split;split
 .simp
 .split
  .simp
  .rw[StrLaws.partsBetween_eq];let(p,r,e):=StrLaws.partsFrom_ne x y.length 0<|Builtin.Str.occurrences x y 0 x.length (x.length+1);rw[e];simp
theorem zju(x:Str)(c:Nat):(Txt.split x ⟨#[c]⟩).map ch=cutAt c (ch x):=by
 let h:=zm3 ⟨#[c]⟩<|Txt.split x ⟨#[c]⟩;rw[StrLaws.join_split]at h;rw[h];apply(zoy c _ (λe=>zve x ⟨#[c]⟩<|List.map_eq_nil_iff.mp e) λp E=>?_).symm;let(q,a,rfl):=y0h.mp E;show StrLaws.split_free x c q a
theorem split_len(x:Str)(c:Nat):(Txt.split x ⟨#[c]⟩).length=(cutAt c<|ch x).length:=by rw[←zju,y01]
theorem zuc(c:Nat):∀l:List Nat,(cutAt c l).length<=l.length+1
 |[]=>by simp[cutAt]
 |x::l=>by
  let f:=zuc c l;by_cases h:x=c
  .rw[cutAt,Xq h,y0j,y0j];omega
  .let(p,r,L,g):=zck (l:=l) h;rw[L,y0j]at f;rw[g,y0j,y0j];omega
def each(c:Nat)(z:List Nat)(l:List Nat):List Nat:=l.flatMap λk=>if k=c then z else[k]
theorem zol(c:Nat)(z:List Nat):∀l,joinAt z (cutAt c l)=each c z l
 |[]=>rfl
 |x::l=>by
  let f:=zol c z l;by_cases h:x=c
  .rw[cutAt,Xq h];cases e:cutAt c l with
   |nil=>show Xa e<|zo1 c l
   |cons p r =>
    change[]++z++joinAt z (p::r)=_;rw[←e,f,y2m];unfold each;rw[y2d,Xq h]
  .let(p,r,L,g):=zck (l:=l) h;rw[g];let M:joinAt z ((x::p)::r)=x::joinAt z (p::r):=by cases r<;>rfl
   rw[M,←L,f];unfold each;rw[y2d,Xp h];rfl
theorem zc4(x z:Str)(c:Nat):ch (Txt.replace x ⟨#[c]⟩ z)=each c (ch z) (ch x):=by
 rw[StrLaws.replace_one,zm3,zju,zol]
def padOf(k:Nat):List Nat:=if k=40 then[32,40,32]else if k=41 then[32,41,32]else[k]
def padL(l:List Nat):List Nat:=l.flatMap padOf
theorem zwb(l:List Nat):each 41 [32,41,32] (each 40 [32,40,32] l)=padL l:=by
 unfold each padL;rw[List.flatMap_assoc];apply congrArg (λf=>List.flatMap f l)<|funext λk=>?_;unfold padOf;by_cases O:k=40
 .rw[Xq O,Xq O];rfl
 .rw[Xp O,Xp O];by_cases M:k=41
  .rw[Xq M];subst M;rfl
  .rw[Xp M];simp[M]
theorem zwc(l:List Nat):(padL l).length<=3*l.length:=by
 induction l with
 |nil=>simp[padL]
 |cons x l f =>
  let:padL (x::l)=padOf x++padL l:=by unfold padL;rw[y2d]
  rw[this,y0e,y0j];let:(padOf x).length<=3:=by unfold padOf;split<;>(try split)<;>simp
  omega
theorem zxf(hz:z.length<=3)(l:List Nat):(each c z l).length<=3*l.length:=by
 induction l with
 |nil=>simp[each]
 |cons x l f =>
  let:each c z (x::l)=(if x=c then z else[x])++each c z l:=by unfold each;rw[y2d]
  rw[this,y0e,y0j];let:(if x=c then z else[x]).length<=3:=by split<;>simp[*]
  omega
def wordsT(x:Str):List Str:=(Txt.split (Txt.replace (Txt.replace x "(" " ( ") ")" " ) ") " ").filter λp=>decide (p≠"")
theorem ch_lit1:ch ("(":Str)=[40]/\ch (" ( ":Str)=[32,40,32]/\ch (")":Str)=[41]/\ch (" ) ":Str)=[32,41,32]/\ch (" ":Str)=[32]:=by decide+kernel
theorem lit1:("(":Str)=⟨#[40]⟩/\(")":Str)=⟨#[41]⟩/\(" ":Str)=⟨#[32]⟩:=by decide+kernel
theorem pad_str(x:Str):ch (Txt.replace (Txt.replace x "(" " ( ") ")" " ) ")=padL (ch x):=by
 let(_,O,_,M,_):=ch_lit1;rw[lit1.1,lit1.2.1,zc4,zc4,O,M,zwb]
def toksS:Sy->List Str
 |.bare w n m=>[n,w,m]
 |.neg s=>"not"::toksS s
 |.two w s t=>"("::(toksS s++w::(toksS t++[(")":Str)]))
 |.qu w n s=>w::n::toksS s
def wdB:Sy->Bool
 |.bare w _ _=>decide (w∈bareWords)
 |.neg s=>wdB s
 |.two w s t=>decide (w∈(["and","or"]:List Str))&&(wdB s&&wdB t)
 |.qu w _ s=>decide (w∈(["some","all"]:List Str))&&wdB s
structure Plain(z:Str):Prop where
 ne:ch z≠[]
 b:32∉ch z
 o:40∉ch z
 c:41∉ch z
 l:z.length<=6
theorem zoe{z l:Str}(Y:∀c∈ch l,c≠32/\c≠40/\c≠41)(h:isNm (.str z) l=N):Plain z:=by
 let T:∀c∈FIGS.cps.toList,c≠32/\c≠40/\c≠41:=by decide+kernel
 let(c,r,e,A,C,D):=nm_ex h;let all:∀d∈ch z,d≠32/\d≠40/\d≠41:=λd hd=>by
  rw[show ch z=c::r from e]at hd;rcases y08.mp hd with rfl|hd
  .exact Y _ C
  .exact T d<|D d hd
 show⟨by rw[show ch z=c::r from e];simp,λm=>(all _ m).1 R,λm=>(all _ m).2.1 R,λm=>(all _ m).2.2 R,by have:=zef h;omega⟩
theorem zir{z:Str}(h:isPl z=N):Plain z:=zoe 48 h
theorem ziq{z:Str}(h:isSt z=N):Plain z:=zoe 48 h
theorem nm_no{z l:Str}(h:isNm (.str z) l=N):z≠"not"/\z≠"some"/\z≠"all":=by
 let(c,r,e,A,C,D):=nm_ex h;let J:∀y:Str,(match ch y with|_::d::_=>!(FIGS.cps.toList.contains d)|_=>Fa)=N->z≠y:=λy Y a=>by
  subst a;rw[show ch z=c::r from e]at Y;cases r with
  |nil=>cases Y
  |cons d r' =>
   let:=D d y0a;simp only[List.contains_iff_mem.mpr this]at Y;cases Y
 show⟨J _ 48,J _ 48,J _ 48⟩
theorem zyq{w n m:Str}(h:wfB (.bare w n m)=N):(Plain n/\n≠"not"/\n≠"some"/\n≠"all")/\Plain m:=by
 let h':(if w=("in":Str)then isPl n&&isSt m else if w=("within":Str)then isSt n&&isSt m else isPl n&&isPl m)=N:=h;split at h'
 .rw[y07]at h';show⟨⟨zir h'.1,nm_no h'.1⟩,ziq h'.2⟩
 .split at h'
  .rw[y07]at h';show⟨⟨ziq h'.1,nm_no h'.1⟩,ziq h'.2⟩
  .rw[y07]at h';show⟨⟨zir h'.1,nm_no h'.1⟩,zir h'.2⟩
theorem zeb(z:Str):z.length=(ch z).length:=zlq z
theorem zea:∀s:Sy,(toksS s).length<=4*s.parts
 |.bare w n m=>by change 3<=4;omega
 |.neg s=>by have:=zea s;have:=zk5 s;change(_::toksS s).length<=_;rw[y0j];omega
 |.two w s t=>by
  let:=zea s;let:=zea t;let:=zk4 w s t;change(_::(toksS s++w::(toksS t++[(")":Str)]))).length<=_;simp only[y0j,y0e,y1e];omega
 |.qu w n s=>by have:=zea s;have:=zi7 w n s;change(_::_::toksS s).length<=_;rw[y0j,y0j];omega
end SS
namespace L2
theorem upT{D:Type}{M:Model}{A:io}{t:Sem D}{Q:D->ig->Prop}{E:Y0}{s:ig}(p:1<=s.toks)(h:wpAny M A t Q E s):wpAny M A t (λa s'=>1<=s'.toks/\Q a s') E s :=
 iq (wpAny_toks_of p h) (λ_ _ z=>z) λ_ _ z=>z.2
def PET(X:Cx)(e:Expr)(t:TE):Prop:=∀(pins:Y2) (s:ig) (σ:St) (H:Hp) (Q:VK),1<=s.toks->02 H s->t σ H Q->wpAny 36 X.A (eval e X.env) 037 X.xe s
def PAT(X:Cx)(es:List Expr)(t:TA):Prop:=∀(pos:Pos) (pins:Y2) (s:ig) (σ:St) (H:Hp) (Q:List V->Hp->Prop),1<=s.toks->02 H s->t σ H Q->wpAny 36 X.A (spliced 052) (AP X pins σ Q) X.xe s
def PST(X:Cx)(st:Stmt)(t:TS):Prop:=∀(pins:Y2) (s:ig) (σ:St) (H:Hp) (D:Ends),1<=s.toks->02 H s->t D σ H->wpAny 36 X.A (exec st X.env) (SP X pins D) X.xe s
def PSsT(X:Cx)(st:List Stmt)(t:TS):Prop:=∀(pins:Y2) (s:ig) (σ:St) (H:Hp) (D:Ends),1<=s.toks->02 H s->t D σ H->wpAny 36 X.A (execs st X.env) (SP X pins D) X.xe s
section
variable {X:Cx}{a b e:Expr}{es rest:List Expr}{ta tb te:TE}{tA tB':TT}{tu:TA}{pos:Pos}
theorem PE.t(h:PE X e te):PET X e te:=λpins s σ H Q _ I L=>h pins s σ H Q I L
theorem PA.t(h:PA X es tu):PAT X es tu:=λq pins s σ H Q _ I L=>h q pins s σ H Q I L
theorem PS.t{st:Stmt}{t:TS}(h:PS X st t):PST X st t:=λpins s σ H D _ I L=>h pins s σ H D I L
theorem PSs.t{st:List Stmt}{t:TS}(h:PSs X st t):PSsT X st t:=λpins s σ H D _ I L=>h pins s σ H D I L
variable {st:Stmt}{sts:List Stmt}{t u:TS}
theorem zdk(O:PST X st t)(M:PSsT X sts u):PSsT X (st::sts) (tSeq t u):=λpins s σ H D p I L=>by
 apply iL<|thn (upT p<|O pins s σ H {D with nx:=u D} p I L) λg s' z=>?_;let(c,z):=z;cases g with
 |next=>let(l,H',y,f):=z;show M pins s' l H' D c y f
 |ret _=>show z
 |brk=>show z
 |cont=>show z
theorem zru(O:PST X st t):PSsT X [st] t:=λpins s σ H D p I L=>by
 apply iL<|thn (O pins s σ H D p I L) λg s' z=>?_;cases g with
 |next=>show iO z
 |ret _=>show z
 |brk=>show z
 |cont=>show z
theorem zrt(f:PET X e te):PST X (.Return (G e) pos) (tRet te):=λpins s σ H D p I L =>
 wpAny_Return_some (thn (f pins s σ H _ p I L) λv s1 zz=>ex5 zz λx H1 I1 r1 A=>⟨x,σ,H1,I1,r1,A⟩)
theorem zze{i:Nat}{x:Str}{Q:Pos}(hN:X.Nq.Nodup)(hi:X.Nq[i]?=G x)(J:Loc X.env.scope x)(f:PET X e te)(hs:jp e (G<|.Name x Q) pos.line X.env=pure Fa:=by rfl)
  (T:X.fn x=N\/X.env.scope.names.lookup x=G .local:=by first|show .inl rfl|show .inr rfl|assumption):PST X (.Assign [.Name x Q] e pos) (tAsg te<|gName i):=λpins s σ H D p I L =>
 wpAny_Assign_Name (thn (f pins s σ H _ p I L) λv s1 zz=>ex5 zz λy H1 I1 r1 A=>zcn I1 hN hi J r1 (λs2 l=>⟨_,H1,l,A⟩) T) hs
theorem zwd(d:PET X e te)(D:PAT X es tu)(h:notStar e=N:=by rfl):PAT X (e::es) (tCons te tu):=λq pins s σ H Q p I L=>by
 rw[zap h];change wpAny _ _ (spliced (041::iT q (im es X.env))) _ _ s;apply Calls.spliced_cons<|thn (upT p<|d pins s σ H _ p I L) λv s1 ⟨i,x,H1,I1,r1,A⟩=>?_;show thn (D q pins s1 σ H1 _ i I1 A) λus s2 zz=>ex5 zz λxs H2 l E w=>⟨x::xs,H2,l,.cons r1 E,w⟩
end
def PEU(X:Cx)(e:Expr)(t:TE):Prop:=∀(pins:Y2) (s:ig) (σ:St) (H:Hp) (Q:VK),02 H s->t σ H Q->wpAny 36 X.A (eval e X.env) (λv s'=>1<=s'.toks/\EP X pins σ Q v s') X.xe s
def PAU(X:Cx)(es:List Expr)(t:TA):Prop:=∀(pos:Pos) (pins:Y2) (s:ig) (σ:St) (H:Hp) (Q:List V->Hp->Prop),02 H s->t σ H Q->wpAny 36 X.A (spliced 052) (λv s'=>1<=s'.toks/\AP X pins σ Q v s') X.xe s
section
variable {X:Cx}{a b e:Expr}{es:List Expr}{ta tb te:TE}{tu:TA}{pos:Pos}{st:Stmt}{sts:List Stmt}{t u:TS}
theorem peU_int{i:Int}{k:Nat}:PEU X (.Constant (.int i) k pos) (tC<|.int i):=λpins s σ H Q I L=>wpAny_Constant_int ⟨y3w _ _,.int i,H,I.tok _,⟨_,R⟩,L⟩
theorem paU_hd(d:PEU X e te)(D:PA X es tu)(h:notStar e=N:=by rfl):PAU X (e::es) (tCons te tu):=λq pins s σ H Q I L=>by
 rw[zap h];change wpAny _ _ (spliced (041::iT q (im es X.env))) _ _ s;apply Calls.spliced_cons<|thn (d pins s σ H _ I L) λv s1 ⟨i,x,H1,I1,r1,A⟩=>?_;show thn (upT i<|D q pins s1 σ H1 _ I1 A) λus s2 ⟨c,xs,H2,l,E,w⟩=>⟨c,x::xs,H2,l,.cons r1 E,w⟩
end
theorem PSsT.noxT{X:Cx}{st:List Stmt}{t:TS}(h:PSsT X.nox st t):PSsT X st t:=λpins s σ H D p I L=>iq (h pins s σ H D p (I.wish _) L) (λ_ _ q=>q.unwish) λ_ _ z=>False.elim z
structure FnOkT(P:ik)(w:World)(K:Frag)(mg:Y1)(base:Heap)(CX:CXT)(k:Nat)(f:Ad)(fd:i6)(ps:List Str)(sp:Sp):Prop where
 len:∀vs H Q E,sp vs H Q E->vs.length=ps.length
 run:∀(A:io) (outer:List Env) (s:ig) (H:Hp) (args:Args) (us:List Va) (vs:List V) (Q:VK) (E:XK),1<=s.toks->Room k A->Env0 P w K mg base A outer s H->lh s fd args 026->Vals vs us->sp vs H Q E->
  jc 81 A (.call 52 args) (CR CX outer P w H s Q E) s
theorem fn_ofT{CX:CXT}{P:ik}{w:World}{K:Frag}{mg:Y1}{base:Heap}{k:Nat}{f:Ad}{name qual:Str}{params:iN}{body:List Stmt}{scope:Scope}{dV kV doc pm cdv ct oc:Va}{an M:Option Ad}
  {z:Y8} {Nq ps:List Str} {sp:Sp} (lk:K.lookup f=G ⟨oc,M,.func 077,z⟩) (hcd:PySem.W.codeIn K cdv qual=N) (S:FnScope Nq ps scope)
  (len:∀vs H Q E,sp vs H Q E->vs.length=ps.length)
  (i:∀(A:io) (outer:List Env) (s:ig) (H:Hp) (vs:List V) (Q:VK) (E:XK),Room k (A.deeper<|jd qual scope s.heap.objs.size f cdv)->sp vs H Q E->
   ∃t,PSsT 067 body t/\t {nx:=λ_ H'=>Q .non H',rt:=Q} 036 H) :
  FnOkT P w K mg base CX (k+1) f 077 ps sp:=by
 apply⟨len,λA outer s H args us vs Q E p D e0 U r T=>?_⟩;let Y:=len _ _ _ _ T;let KX:K.In s.heap:=e0.mod.kin.keeps λb o e=>(040).1;let c:s.heap.NoLimit:=e0.mod.nolimit.keeps λb o e=>(040).1;let a:∀y∈ps.zip us,scope.names.lookup y.1=G .local\/(scope.names.lookup y.1=G .cell/\((049).lookup y.1).isSome=N):=λ⟨n,v⟩ C=>by
  rcases S.par n (y21 C).1 with q|q
  .exact .inl q
  .exact .inr ⟨q,PySem.W.cellsFrom_some _ _ _<|.inl q⟩
 apply iW D.depth (KX _ _ lk) R S.co S.gen R (PySem.W.codeRec_of KX hcd)<|U _ _ _ _ ?_;apply thn (upT p<|jk (Q:=λenv s1=>env=jd qual scope s.heap.objs.size f cdv/\j0 s s.heap.objs.size (bindL (jd qual scope s.heap.objs.size f cdv).kindOf 026 λ_=>B) 049 (bindC (jd qual scope s.heap.objs.size f cdv).kindOf 026 λ_=>B) s1) S.kind a λenv j s1 x=>⟨j,by subst j;show x⟩) λenv s1 ⟨d,j,x⟩=>?_;subst j;apply⟨c.keeps x.toInCall.keep,jB ?_⟩;let(t,HT,O):=i A outer s H vs Q E (D.deeper _) T;let I:Inv 067 [] 036 H s1:=zgn S D.hd e0 Y r x;apply iq (HT [] s1 036 H _ d I O) (λg s' hs=>?_) λe s' hs=>hs;let fin:∀{l:St} {H':Hp} {v:V} {u:Va},Inv 067 [] l H' s'->RelV v u->Q v H'->CE outer P w H s Q u s' :=
  λ{l H' v u} J L q=>⟨v,H',J.os,J.bare,J.base,J.hok,L,q⟩
 cases g with
 |ret u =>
  let(v,l,H',J,L,q):=hs;show fin J L q
 |next =>
  let(l,H',J,q):=hs;show fin (v:=V.non) (u:=Va.none) J R q
 |brk =>
  let(_,_,_,q):=hs;show False.elim q
 |cont =>
  let(_,_,_,q):=hs;show False.elim q
section
variable {P:ik}{w:World}{K:Frag}{mg:Y1}{base:Heap}
theorem Fun.okT{x qual:Str}{st:Stmt}{f:Ad}{fd:i6}{Nq ps:List Str}{k:Nat}{sp:Sp}(F:Fun K x qual st f fd)(S:FnScope Nq ps 73)(len:∀vs H Q E,sp vs H Q E->vs.length=ps.length)
  (i:∀(l:Va) (A:io) (outer:List Env) (s:ig) (H:Hp) (vs:List V) (Q:VK) (E:XK),Room k (A.deeper<|jd qual 73 s.heap.objs.size f l)->sp vs H Q E->
   ∃t,PSsT (cxOf CX0 P w K mg base Nq qual 73 f l A outer s H E).nox (defBody st) t/\t {nx:=λ_ H'=>Q .non H',rt:=Q} 036 H):FnOkT P w K mg base CX0 (k+1) f fd ps sp:=by
 let(oc,M,kV,doc,p,a,l,ct,z,rfl,lk,hcd):=F.ex;apply fn_ofT lk hcd S len λA outer s H vs Q E D T=>?_;let(t,h,q):=i l A outer s H vs Q E D T;show⟨t,h.noxT,q⟩
structure CalT(P:ik)(w:World)(K:Frag)(mg:Y1)(base:Heap)(n:Nat)(x:Str)(ps:List Str)(sp:Sp):Prop where
 ex:∃f fd,FnOkT P w K mg base CX0 n f fd ps sp/\Binds K fd ps []/\PySem.W.keepIn K 52=N/\mg x=G 52
theorem Dfn.calT{x:Str}{st:Stmt}{Nq ps:List Str}{k:Nat}{sp:Sp}(d:Dfn K mg x st ps)(S:FnScope Nq ps 73)(len:∀vs H Q E,sp vs H Q E->vs.length=ps.length)
  (i:∀(f:Ad) (l:Va) (A:io) (outer:List Env) (s:ig) (H:Hp) (vs:List V) (Q:VK) (E:XK),Room k (A.deeper<|jd x 73 s.heap.objs.size f l)->sp vs H Q E->
   ∃t,PSsT (cxOf CX0 P w K mg base Nq x 73 f l A outer s H E).nox (defBody st) t/\t {nx:=λ_ H'=>Q .non H',rt:=Q} 036 H):CalT P w K mg base (k+1) x ps sp:=by
 let(f,fd,F,b,m):=d.ex;show⟨f,fd,F.okT S len<|i f,b,F.kp,m⟩
end
section
variable {X:Cx}{n k:Nat}{x:Str}{ps:List Str}{sp:Sp}{p pos:Pos}{e:Expr}{es:List Expr}{t:TA}
theorem zki(C:Cal X.prog X.w X.K X.mg X.base n x ps sp)(D:Room k X.A)(v:n<=k)(j:Gl X x)(d:PAT X (e::es) t)(w:012=Fa:=by decide)
  (O:notStar e=N:=by rfl) (M:es.all notStar=N:=by rfl):PET X 029 (tCall sp [] E0 t):=λpins s σ H Q l I L=>by
 let(f,fd,F,b,kp,m):=C.ex;apply iE<|zcv I j m ?_ w;apply PySem.W.callWith_K (h₀:=X.base) I.ok.mod.kin kp (thn (d pos pins s σ H _ l I L) λus s1 zz=>ex5 zz λvs H1 I1 r q=>⟨I1.kIn,?_⟩) (zap O)<|zbb M;show zrl F (D.mono v) b .nil pass0 I1 r q
theorem zkh(C:CalT X.prog X.w X.K X.mg X.base n x ps sp)(D:Room k X.A)(v:n<=k)(j:Gl X x)(d:PAT X (e::es) t)(w:012=Fa:=by decide)
  (O:notStar e=N:=by rfl) (M:es.all notStar=N:=by rfl):PET X 029 (tCall sp [] E0 t):=λpins s σ H Q l I L=>by
 let(f,fd,F,b,kp,m):=C.ex;apply iE<|zcv I j m ?_ w;apply PySem.W.callWith_K (h₀:=X.base) I.ok.mod.kin kp (thn (upT l<|d pos pins s σ H _ l I L) λus s1 ⟨i,vs,H1,I1,r,q⟩=>⟨I1.kIn,?_⟩) (zap O)<|zbb M;let E:Vals (vs++[]) (us++[]):=r.append .nil;let Y:(us++[]).length=ps.length:=by rw[←E.length];show F.len _ _ _ _ q
 apply ji<|iH (F.run X.A X.stack s1 H1 025 (us++[]) (vs++[]) Q E0 i (D.mono v) I1.env0 (b s1 us I1.kIn Y) E q) λres s' z=>?_;cases res with
 |error _=>show z.elim
 |ok g =>
  cases g with
  |ret _=>show I1.after z
  |next=>show z.elim
  |brk=>show z.elim
  |cont=>show z.elim
end
section
variable {X:Cx}{o:Expr}{to:TE}
def tReplace(to:TE)(y z:Str):TE:=λσ H Q=>to σ H λx H1=>∃v,x=.str v/\(y==z)=Fa/\v.length+(v.length+1)*z.length<=16777216/\Q (.str<|Txt.replace v y z) H1
theorem zgg{y z:Str}{k1 k2:Nat}{r p2 l w:Pos}(D:PET X o to)
  (g:attributeBase o "replace" X.env (eval o X.env)=eval o X.env:=by rfl) (f:(l.endLine==w.line)=N:=by rfl)
  (j:((iT w<|im [.Constant (.str y) k1 r,.Constant (.str z) k2 p2] X.env).all (λx=>!x.1)&&(backToKw w<|keywordEach [] X.env).all (λx=>x.1.isSome)
   && decide (([.Constant (.str y) k1 r,.Constant (.str z) k2 p2]:List Expr).length+([]:List jW).length+(if([]:List jW).isEmpty then 0 else 1)<30))=N:=by rfl) :
  PET X (.Call (.Attribute o "replace" l) [.Constant (.str y) k1 r,.Constant (.str z) k2 p2] [] w) (tReplace to y z):=λpins s σ H Q p I L=>by
 apply wpAny_Call_method_late g j f R<|thn (upT p<|D pins s σ H _ p I L) λv s1 ⟨i,x,H1,I1,r1,A⟩=>?_;let(E,rfl,u,U,q):=A;let(t0,rfl):=r1;apply⟨"str","str.replace",PySem.F.plainAttrs_str,PySem.F.slot_str_replace,PySem.F.type_str_replace,typeIs_str _ _ _,?_,?_⟩
 .exactλa c=>nomatch c
 .let hs:im [Expr.Constant (.str y) k1 r,Expr.Constant (.str z) k2 p2] X.env=[(Fa,eval (Expr.Constant (.str y) k1 r) X.env),(Fa,eval (Expr.Constant (.str z) k2 p2) X.env)]:=by rw[zap R,zap R,starEach.eq_def]
  rw[hs];apply Calls.callWith_builtin R<|Calls.evalArgs_plain (Calls.spliced_cons<|wpAny_Constant_str (x:=y) (k:=k1) (pos:=r) (Calls.spliced_cons<|wpAny_Constant_str (x:=z) (k:=k2) (pos:=p2) (Calls.spliced_nil ?_)));let C:s1.toks≠0:=by omega
  let T:s1.toks+1≠0:=by omega
  let e:s1.toks≠s1.toks+1:=by omega
  show SC.replace C T e u U λt' d=>⟨.str _,H1,(I1.tok _:02 H1 {s1 with toks:=d}),⟨_,R⟩,q⟩
def rSplit:V->List V->Hp->VK->Prop:=λx vs H Q=>∃(z y:Str),x=.str z/\vs=[.str y]/\(y.length==0)=Fa/\z.length<=ii/\(Txt.split z y).length<=100000/\∀p H',New H p (.lst<|(Txt.split z y).map V.str) H'->Q 22 H'
theorem zjn:∀(l:List<|Str×Tok),Vals ((l.map (·.1)).map V.str) (strValues l)
 |[]=>.nil
 |p::l=>.cons ⟨p.2,R⟩<|zjn l
theorem zw1:MtR X "str.split" rSplit:=by
 intro pins s σ H x xs v us Q I T rs h;let(z,y,rfl,rfl,C,hz,Y,q):=h;let(t,rfl):=T;let(u,rfl,t',rfl):=vals1 rs;let fin:∀(l:List<|Str×Tok) (d:Nat),l.map (·.1)=Txt.split z y->EP X pins σ Q 018 {s with heap:=s.heap.push {cls:=.type "list",data:=.seq (strValues l).toArray},toks:=d}:=λl d p=>by
  let a:l.length=(Txt.split z y).length:=by rw[←p,y01]
  apply⟨.ref s.heap.objs.size,_,I.laid (o:=.lst<|(Txt.split z y).map V.str) (λb o O=>y04 _ O) 08 ?_,R,q _ _<|.mk' I.fresh _⟩;show⟨by rw[y01];show y1a Y 07,strValues l,0,by rw[←p];show zjn l,y0d _ R⟩
 cases g:(decide (z.length<y.length)||decide (Builtin.Str.strKind z<Builtin.Str.strKind y))
 .cases U:(Builtin.Str.occurrences z y 0 z.length<|z.length+1).isEmpty
  .let M:Txt.split z y=Builtin.Str.partsBetween z (Builtin.Str.occurrences z y 0 z.length<|z.length+1) y.length:=(Xp<|ne_true_of_eq_false g).trans<|Xp (ne_true_of_eq_false U);apply jm PySem.F.slot_str_split (typeIs_str _ _ _) PySem.F.entry_str_split (PySem.F.args_str_split_2 _ _) (meets_str_split_sep z y t t' g C U hz<|by rw[←M];show y1a Y 07) ?_;change EP X pins σ Q _ {s with toks:=_,heap:=s.heap.push {cls:=.type "list",data:=.seq (strsFrom s.toks<|Builtin.Str.partsBetween z (Builtin.Str.occurrences z y 0 z.length<|z.length+1) y.length).toArray} };rw[strsFrom_eq];show fin (numbered s.toks _) _<|(numbered_texts _ _).trans M.symm
  .exact jm PySem.F.slot_str_split (typeIs_str _ _ _) PySem.F.entry_str_split (PySem.F.args_str_split_2 _ _) (meets_str_split_not_found z y t t' g C U)
    (fin [(z,t)] s.toks ((Xp<|ne_true_of_eq_false g).trans<|Xq U).symm)
 .exact jm PySem.F.slot_str_split (typeIs_str _ _ _) PySem.F.entry_str_split (PySem.F.args_str_split_2 _ _) (meets_str_split_cannot_occur z y t t' g)<|fin [(z,t)] s.toks (Xq g).symm
def rJoin(K:Frag):V->List V->Hp->VK->Prop:=λx vs H Q=>∃(z:Str) (p:Ad) (l:List Str),x=.str z/\vs=[.ref p]/\SqL K H p (l.map V.str)/\JoinOk z l=N/\Q (.str<|Txt.join z l) H
end
theorem zpm:jl (.type "list_reverseiterator") "__len__"=pure B:=by rw[iJ,i0];kernel_rfl
theorem slot_rev_hint:Slot "list_reverseiterator" "__length_hint__" "list_reverseiterator.__length_hint__" :=
 .of (owner:="list_reverseiterator") (n:="__length_hint__") (by rw[iJ,i0];kernel_rfl) 48 48 48
  (by first|show .inl (by decide+kernel)|show .inr (by decide+kernel)) (by rw[iI];kernel_rfl)
theorem zfx{n:Nat}(h:n<=100000):n<=ii:=y1a h 07
section
variable {K:Frag}{a:Ad}{xs:List V}{tn:List Str}{cp:Y6}{g:TG}{tif:TT}{te:TE}{σ0:St}{H1:Hp}{Q:VK}
theorem zxs(S:St->Prop)(p:V->Bool)(f:V->V)(I:xs.length<=100000)(O:SqL K H1 a xs)(C:S 044)
  (hs:∀D i σ H x,i<xs.length->x∈xs->xs[i]?=G x->Same H1 H->H1 D=B->H D=G (.lst<|((xs.take i).filter p).map f)->S σ->g x σ H λd H2=>tif d H2 λc H3 =>
   if c=N then te d H3 λy H4=>CStep D xs.length i (PFil S p f xs H1) d y H4 else CSkip D xs.length i (PFil S p f xs H1) d H3)
  (hd:∀D H,H1 D=B->Same H1 H->H D=G (.lst<|(xs.filter p).map f)->Q 65 H):cBody tn cp g tif te σ0 Q (Itl K a) H1:=by
 apply zjc (K:=K) (a:=a) (xs:=xs) (λD i ys σ H=>PFil S p f xs H1 i ys σ H) (zfx I) (λD u=>⟨za0 u _,C,R⟩) (λD i ys σ H _ _ _ p=>p.1.seq O) ?_ ?_
 .rintro D i ys σ H x u hi J A Y ⟨r,p2,rfl⟩;show hs D i σ H x hi (y0k J) J r u A p2
 .rintro D ys σ H u A Y ⟨r,p2,rfl⟩;rw[y0l 08]at A;show hd D H u r A
theorem zxr{S:St->Prop}{p:V->Bool}{f:V->V}{D:Ad}{i:Nat}{x y:V}{d:St}{H4:Hp}(I:xs.length<=100000)(J:xs[i]?=G x)(E:p x=N)(u:H1 D=B)(L:H4 D=G (.lst<|((xs.take i).filter p).map f))(l:Same H1 H4)(s2:S d)(e:y=f x):
  CStep D xs.length i (PFil S p f xs H1) d y H4:=by
 let hi:i<xs.length:=(y0f.mp J).1;apply cstep (zfx I) hi L ?_ ⟨l.wr u _,s2,?_⟩
 .rw[y01];let:=y2a p<|xs.take i;rw[y0w]at this;omega
 .rw[y14,J,y2p,y0u,e];simp[E]
end
section
variable {X:Cx}{pins:Y2}{σ:St}{H:Hp}{s:ig}
theorem zw7{it a:Ad}{i:Int}{A:io}{E:Y0}{prog:ik}{w:World}{Q:Bool->ig->Prop}(x:IsRev s.heap it a i)(h:Q Fa s):wpAny 88 A (Builtin.List.listLengthHint 014) Q E s:=by
 unfold Builtin.List.listLengthHint;apply ia<|iS x.typeIs zpm ?_;change wpAny _ A (specialOf (Va.ref it) (Str.ofString "__length_hint__")>>=_) _ _ _;apply ia<|iS x.typeIs slot_rev_hint.lookup ?_;generalize hid:("list_reverseiterator.__length_hint__":String)=id0
 wp_delta
 rw[show splitId id0=G ("list_reverseiterator","__length_hint__")from by subst hid;decide+kernel];subst hid;apply ia<|jz (T:="list_reverseiterator") (b:=N) x.typeIs (by rw[iI];kernel_rfl) ?_;apply wpAny_ite_split (λno=>Xa no 07) λ_=>?_;apply wpAny_ite_split (λ_=>?_) λno=>Xa 48 no;show wpAny_ite_split (λno=>Xa no 48) λ_=>ib h
theorem zvr{xs:List V}{its acc:List Va}(f:Vals xs its)(Y:acc.length=its.length)(h:∀j v,acc[j]?=G v->its[its.length-1-j]?=G v):Vals xs.reverse acc:=by
 let e:acc=its.reverse:=by
  apply y1p λj=>?_;by_cases U:j<its.length
  .rw[List.getElem?_reverse U,y00 (show j<acc.length by omega),h j _<|y00 _]
  .rw[y0r 01,y0r<|by rw[List.length_reverse];omega]
 rw[e];show f.reverse
theorem zjg{it a:Ad}{xs:List V}{Q:VK}(hc:X.calm=N)(hn:xs.length<=100000)(I:02 H s)(T:FpOk X pins H it)(d:SqL X.K H a xs)(hit:IsRev s.heap it a<|(xs.length:Int)-1)
  (q:∀L H',New H L (.lst xs.reverse) H'->Q (.ref L) H'):wpAny 36 X.A (call (.type "list") [.ref it]) 037 X.xe s:=by
 let(its,f,pl,_):=I.list d;let ac:=f.length;let i:=pl.isList;let ita:a≠it:=λe=>by
  let(o,D,a6,_):=id i;rw[e,show s.heap.get? it=_ from hit]at D;cases D;show Xa a6 05
 let hSf:s.heap.objs.size∉[it,a]:=λY=>by
  let J:∀c o,s.heap.get? c=G o->c≠s.heap.objs.size:=λc o e=>y0m<|y0g e;let(o,D,_):=id i;simp only[y08,y0n,or_false]at Y;rcases Y with e|e
  .exact J _ _ hit e.symm
  .exact J _ _ D e.symm
 apply callType_codes (Q₁:=λobj s₁=>obj=.ref s.heap.objs.size/\s₁={s with heap:=s.heap.push {cls:=.type "list",data:=.seq #[]} }) F.called_list (F.typeCall_list_1 _) F.entry_list_init
  (code_list_new _ ⟨R,R⟩) λobj s₁ h₁=>?_
 let(rfl,rfl):=h₁;let O:(s.heap.push {cls:=.type "list",data:=.seq #[]}).get? s.heap.objs.size=G {cls:=.type "list",data:=.seq #[]}:=y0d _ rfl;let kp:∀c o,s.heap.get? c=G o->(s.heap.push {cls:=.type "list",data:=.seq #[]}).get? c=G o:=λc o e=>y04 _ e;let C:X.s₀.heap.get? s.heap.objs.size=B:=by
  cases e:X.s₀.heap.get? s.heap.objs.size with
  |none=>rfl
  |some o=>show Xa (y0g e)<|Nat.not_lt.mpr I.sz
 let fS:FpOk X pins H s.heap.objs.size:=I.fpOk 08<|I.hok.fresh 08;generalize s.heap.objs.size=S at *;generalize s.heap.push {cls:=.type "list",data:=.seq #[]}=E at O kp;apply⟨⟨_,O,R⟩,F.args_list_init_2 _ _,?_⟩;change wpAny _ X.A.in1.in1 (do let old ←Builtin.List.listItems (.ref S);Builtin.List.listUpdate (.ref S) (λ_=>#[]);letGo old.toList.reverse;Builtin.List.listExtendWith (.ref S) 014 .none) _ _ _;let z:it≠S:=λe=>hSf (by simp[e]);let aS:a≠S:=λe=>hSf (by simp[e]);apply ia ?_;unfold Builtin.List.listItems;apply ia<|iF O R (ib ?_);change wpAny _ X.A.in1.in1 (jC S (λ_=>#[])>>=λ_=>letGo (#[]:Array Va).toList.reverse>>=λ_=>Builtin.List.listExtendWith (.ref S) 014 .none) _ _ _;apply ia<|iZ O R ?_;let u:=y1b (Obj.mapSeq λ_=>(#[]:Array Va)) O rfl;let oth:∀b o,b≠S->E.get? b=G o->(E.update S<|Obj.mapSeq (λ_=>(#[]:Array Va))).get? b=G o:=λb o U e=>(y18 _ _<|Ne.symm U).trans e;apply ia<|jL ?_;generalize E.update S (Obj.mapSeq λ_=>(#[]:Array Va))=M at u oth;let keep:∀b o,b≠S->s.heap.get? b=G o->M.get? b=G o:=λb o U e=>oth b o U<|kp b o e;let z2:IsRev M it a ((xs.length:Int)-1):=keep _ _ z hit;let hT:Shared.TypeIs {s with heap:=M} (.ref it) "list_reverseiterator":=⟨_,z2,R⟩;unfold Builtin.List.listExtendWith;apply ia<|jq hT ?_;let e1:Builtin.List.listSameRef (.ref S) 014=Fa:=by simp[Builtin.List.listSameRef,Ne.symm z]
 let g:(Va.type "list_reverseiterator"==Va.type "list")=Fa:=by decide
 let e3:(Va.type "list_reverseiterator"==Va.type "tuple")=Fa:=by decide
 simp only[e1,g,e3,y44,y33,if_false];apply ia<|zw6 (s:={s with heap:=M}) z2 ?_;apply ia<|ir (zw7 (s:={s with heap:=M}) z2 ?_);apply wpAny_ite_split (λno=>Xa no 48) λ_=>?_;let W:=(Walks.listRev (prog:=X.prog) (w:=X.w) (A:=X.A.in1.in1) 024 it a ita its.toArray).toS;let sz:its.toArray.size=xs.length:=by rw[y09,←ac]
 apply ib ⟨iU F.plain_extend_loop _,codeAny_extend_loopS W (by rw[sz];show zfx hn) S hSf .none its.toArray.size 0 {s with heap:=M} #[] _ R (y13 _) ⟨y13 _,⟨_,z2,R,?_⟩,?_⟩ u (ItemsOf.nil _) λs' acc' c' Y y x=>?_⟩
 .rw[sz];simp
 .let(o,D,r):=id i;show⟨o,keep _ _ aS D,r⟩
 .let fin:∀b o,b∉[S,it]->s.heap.get? b=G o->s'.heap.get? b=G o:=λb o U e=>Y.heap b o U<|keep b o (λq=>U<|by simp[q]) e;let p:02 H {s with heap:=s'.heap,toks:=s'.toks}:=I.turnedL (L:=[S,it]) fin λb U=>by
   simp only[y08,y0n,or_false]at U;rcases U with rfl|rfl
   .exact fS
   .exact T
  let l:s'={s with heap:=s'.heap,toks:=s'.toks}:=Moved.eq_with (s:={s with heap:=M}) Y;let rv2:Vals xs.reverse acc'.toList:=zvr f (by rw[y16,x.1,sz,ac]) λj v e=>by
   let:=x.2 j v (by simpa using e);simpa using this
  rw[l];apply⟨R,.ref S,upd H S<|.lst xs.reverse,p.take fS C ⟨by rw[List.length_reverse];show zfx 01,_,c',rv2,?_⟩,R,q S _<|.mk' fS.1 _⟩;simpa using y
end
def tListRev(K:Frag)(y:TA):TE:=λσ H Q=>y σ H λvs H1=>∃a xs,vs=[.ref a]/\SqL K H1 a xs/\xs.length<=100000/\∀L H',New H1 L (.lst xs.reverse) H'->Q (.ref L) H'
theorem zkg{X:Cx}{a:Expr}{y:TA}{p p2 pos j:Pos}(C:X.calm=N)(w:Gl X "list")(o:X.mg "list"=B)(c:Gl X "reversed")(i:X.mg "reversed"=B)(d:PAT X [a] y)(O:notStar a=N:=by rfl):
  PET X (.Call (.Name "list" p) [.Call (.Name "reversed" p2) [a] [] j] [] pos) (tListRev X.K y):=by
 intro pins s σ H Q l I h;let hs:im [a] X.env=[(Fa,eval a X.env)]:=by rw[zap O,starEach.eq_def]
 let hz:im [.Call (.Name "reversed" p2) [a] [] j] X.env=[(Fa,eval (.Call (.Name "reversed" p2) [a] [] j) X.env)]:=by rw[zap R,starEach.eq_def]
 apply Call_<|zdw I w o boot_list (PyProof.Rows.callWith_type1 ?_ hz R);rw[hz];apply Calls.spliced_cons<|iq (Call_<|zdw I c i zjk (PyProof.Rows.callWith_type1 (thn (d j pins s σ H _ l I h) λus s1 zz=>ex5 zz λvs H1 I1 r1 A=>?_) hs R)) (λv s2 D=>Calls.spliced_nil D) λ_ _ e=>e;let(r,xs,e,J,U,q):=A;subst e;let(u,rfl,g):=vals1 r1;cases(show u=Va.ref r from g);let(its,f,x,_):=I1.list J;let Y:=f.length;apply zje x.isList λh' z k=>?_;apply zjg C U (I1.kept (t':=s1.toks) k) (I1.fpOk 08<|I1.hok.fresh 08) J ?_ q;let L:(its.toArray.size:Int)-1=(xs.length:Int)-1:=by rw[y09,←Y]
 rw[L]at z;show z
theorem zit{X:Cx}(K:Frag){a:Expr}{y:TA}{p p2 pos j:Pos}(C:X.calm=N)(w:Gl X "list")(o:X.mg "list"=B)(c:Gl X "reversed")(i:X.mg "reversed"=B)(d:PAT X [a] y)(h:X.K=K:=by rfl)(O:notStar a=N:=by rfl):
  PET X (.Call (.Name "list" p) [.Call (.Name "reversed" p2) [a] [] j] [] pos) (tListRev K y):=h▸zkg C w o c i d O
end L2
namespace SS
open PySem PySem.Spec PyProof.Rows L2
def SameX(l:Ad)(H H':Hp):Prop:=∀b o,b≠l->H b=G o->H' b=G o
theorem SameX.trans{l:Ad}{H H1 H2:Hp}(a:SameX l H H1)(b:SameX l H1 H2):SameX l H H2:=λc o n h=>b c o n<|a c o n h
theorem SameX.of{l:Ad}{H H':Hp}(g:Same H H'):SameX l H H':=λb o _ h=>g b o h
theorem SameX.upd(l:Ad)(H:Hp)(o:HO):SameX l H (upd H l o):=λb u n h=>by rw[zak n];show h
theorem SameX.same{l:Ad}{O H H':Hp}(g:Same O H)(C:O l=B)(x:SameX l H H'):Same O H':=λb o e=>x b o (λz=>by rw[z,C]at e;cases e)<|g b o e
theorem Rep.sameX{l:Ad}{H H':Hp}{v:V}{s:Sy}{j:List V}(r:Rep H v s)(Y:H l=G (.lst j))(g:SameX l H H'):Rep H' v s:=by
 let J:∀{a xs},H a=G 015->H' a=G 015:=λ{a xs} e=>g a _ (λz=>by rw[z,Y]at e;cases e) e
 induction r with
 |bare L e=>show .bare L<|J e
 |neg e _ f=>show .neg (J e) f
 |two L e _ _ y p=>show .two L (J e) y p
 |qu L e _ f=>show .qu L (J e) f
def revW(j:List Str):List V:=j.reverse.map V.str
theorem zrm(w:Str)(j:List Str):revW (w::j)=revW j++[.str w]:=by unfold revW;rw[y3n,y0u];rfl
def zhn:Sp:=λvs H Q _=>∃z:Str,vs=[.str z]/\z.length<=50000/\∀D H',H D=B->Same H H'->H' D=G (.lst<|((Txt.split z " ").filter λp:Str=>decide (p≠"")).map V.str)->Q 65 H'
def znl:Sp:=λvs H Q _=>∃z:Str,vs=[.str z]/\z.length<=5000/\∀D H',H D=B->Same H H'->H' D=G (.lst<|(wordsT z).map V.str)->Q 65 H'
def zco:Sp:=λvs H Q _=>∃l:Ad,vs=[.ref l]/\((H l=G (.lst [])/\Q (.str "") H)\/∃(w:Str) (j:List Str),H l=G (.lst<|revW (w::j))/\∀H',SameX l H H'->H' l=G (.lst<|revW j)->Q (.str w) H')
def zf2(n:Nat):Sp:=λvs H Q _=>∃(l:Ad) (s:Sy) (rest:List Str) (d:Nat),vs=[.ref l,.int d]/\d<n/\H l=G (.lst<|revW (toksS s++rest))/\wdB s=N/\wfB s=N/\s.depth<=d/\
 ∀v H',SameX l H H'->H' l=G (.lst<|revW rest)->Rep H' v s->Q v H'
def zf1(n:Nat):Sp:=λvs H Q _=>∃(l:Ad) (w:Str) (s t:Sy) (rest:List Str) (d:Nat),vs=[.ref l,.int d]/\d<n/\H l=G (.lst<|revW (toksS s++w::(toksS t++(")":Str)::rest)))/\w∈(["and","or"]:List Str)/\wdB s=N/\wdB t=N/\wfB s=N/\wfB t=N/\s.depth<=d/\t.depth<=d/\
 ∀v H',SameX l H H'->H' l=G (.lst<|revW rest)->Rep H' v (.two w s t)->Q v H'
def zq6:Sp:=λvs H Q _=>∃(z:Str) (s:Sy),vs=[.str z]/\z.length<=5000/\wordsT z=toksS s/\wdB s=N/\wfB s=N/\s.depth<=12/\s.parts<=60/\∀v H',Same H H'->Rep H' v s->Q v H'
end SS
namespace L2
def mulS(x:Str)(n:Nat):Str:=⟨(List.replicate n x.cps).foldl (· ++ ·) #[]⟩
def rMulS:R2:=λx y H Q=>∃(i:Str) (n:Int),x=.str i/\y=.int n/\0<i.length/\0<=n/\n<=100000/\i.length<=100/\Q (.str<|mulS i n.toNat) H
def rNeS2(X:Cx):R2:=λx y H Q=>∃c,NeOk X 16 H x y c/\Q (.bl c) H
end L2
namespace SM
def pre(m:Mc)(k r l:Nat):Nat:=((List.range l).map λl'=>cnt m k<|m.go r l').sum
theorem zn4(m:Mc)(k r l:Nat):pre m k r (l+1)=pre m k r l+cnt m k (m.go r l):=by
 unfold pre;rw[y28,y0u,List.sum_append];simp
theorem zzf{m:Mc}(ok:m.Ok){k r:Nat}(h:r<m.ends.length):pre m k r (2^m.w)=cnt m (k+1) r:=(zxp ok h k).symm
def num(m:Mc):Nat->List Nat->Nat
 |_,[]=>0
 |r,l::u=>pre m u.length r l+num m (m.go r l) u
structure Nth(m:Mc)(L x:Nat)(u:List Nat):Prop where
 row:m.Row u
 len:u.length=L
 acc:m.fin 027=N
 num:SM.num m 0 u=x
structure Find(m:Mc)(L x i:Nat)(u:List Nat)(y:Nat):Prop where
 row:m.Row u
 len:u.length=i
 lt:y<cnt m (L-i) 027
 is:∀v:List Nat,v.length=L-i->num m 0 (u++v)+y=x+num m 027 v
theorem zqi{m:Mc}{L x:Nat}(h:x<cnt m L 0):Find m L x 0 [] x:=⟨(λ_ h=>nomatch h),R,h,λv _=>by change num m 0 v+x=x+num m 0 v;omega⟩
theorem zxd{m:Mc}{L x:Nat}{u:List Nat}{y:Nat}(F:Find m L x L u y):Nth m L x u:=by
 let h:=F.lt;rw[y3b]at h;let T:m.fin 027=N:=by
  cases e:m.fin (m.run 0 u)with
  |true=>rfl
  |false=>simp only[cnt,e]at h;simp at h
 let C:y=0:=by simp only[cnt,T,if_true]at h;omega
 let:=F.is [] 05;rw[y1g]at this;let J:num m 027 []=0:=rfl;show⟨F.row,F.len,T,by omega⟩
theorem ztr{m:Mc}(ok:m.Ok){L x i l y z:Nat}{u:List Nat}(F:Find m L x i u y)(hi:i<L)(Y:l<2^m.w)(hz:z+pre m (L-i-1) 027 l=y)(o:z<cnt m (L-i-1) (m.go 027 l)):Find m L x (i+1) (u++[l]) z:=by
 let j:L-(i+1)=L-i-1:=by omega
 apply⟨λa d=>?_,by rw[y0e,F.len];rfl,by rw[j,Mc.run_snoc];show o,λv hv=>?_⟩
 .rcases y0x.mp d with d|d
  .exact F.row a d
  .rw[y0b.mp d];show Y
 .let:=F.is (l::v) (by rw[y0j];omega);rw[y2e,Mc.run_snoc];change num m 0 (u++l::v)+z=_;let g:num m 027 (l::v)=pre m v.length 027 l+num m (m.go 027 l) v:=rfl;rw[g,hv,j]at this;omega
theorem zts{m:Mc}(ok:m.Ok){L x i l y z:Nat}{u:List Nat}(F:Find m L x i u y)(hi:i<L)(Y:l<=2^m.w)(hz:z+pre m (L-i-1) 027 l=y):l<2^m.w:=by
 rcases Nat.lt_or_ge l (2^m.w)with h|h
 .exact h
 .let e:l=2^m.w:=by omega
  let D:=ok.run_lt u 0 ok.pos F.row;let O:=F.lt;rw[e,zzf ok D,show L-i-1+1=L-i by omega]at hz;omega
theorem zob{m:Mc}{row:List Nat}{i l acc:Nat}(h:row[i]?=G l)(d:acc+num m 013 (row.drop i)=num m 0 row):
  acc+pre m 043 013 l+num m (m.run 0<|row.take (i+1)) (row.drop<|i+1)=num m 0 row:=by
 let(hi,e):=y0f.mp h;let hd:row.drop i=l::row.drop (i+1):=by rw[y34 hi,e]
 let p:row.take (i+1)=row.take i++[l]:=by rw[y14,h];rfl
 rw[hd]at d;let g:num m 013 (l::row.drop (i+1))=pre m (row.drop<|i+1).length 013 l+num m (m.go 013 l) (row.drop<|i+1):=rfl;rw[g,y1h,show row.length-(i+1)=row.length-i-1 by omega]at d;rw[p,Mc.run_snoc];omega
theorem zkj(m:Mc):∀(row:List Nat) (r i:Nat),i<=row.length->(m.path r row)[i]?=G (m.run r 030)
 |[],r,i,h=>by
  let:i=0:=by simpa using h
  subst this;rfl
 |l::row,r,0,_=>rfl
 |l::row,r,i+1,h=>zkj m row (m.go r l) i (by simpa using h)
theorem path_at(m:Mc)(row:List Nat)(i:Nat)(h:i<=row.length):(m.path 0 row)[i]?=G 013:=zkj m row 0 i h
theorem zvz{m:Mc}(ok:m.Ok){k r l:Nat}(D:r<m.ends.length)(Y:l<=2^m.w):(((m.ways.getD r []).take l).map<|cnt m k).sum=pre m k r l:=by
 rw[zs6 ok D,←y3m,List.take_range,y3c Y,y0o];rfl
open PySem PySem.Spec PyProof.Rows L2 SS
def BadNo(m:Mc)(H:Hp)(v x:V):Prop:=NoLen H v 101\/∃L:Nat,v=nV L/\L<=100/\NoLen H x ((cnt m L 0:Nat):Int)
theorem NoLen.same{H H':Hp}{v:V}{n:Int}(h:NoLen H v n)(g:Same H H'):NoLen H' v n:=by
 rcases h with h|⟨k,kd,p⟩
 .exact .inl h
 .refine .inr ⟨k,?_,p⟩;cases kd with
  |non=>show .non
  |bl b=>show .bl b
  |int i=>show .int i
  |str z=>show .str z
  |lst e=>show .lst<|g _ _ e
  |tup e=>show .tup<|g _ _ e
  |dK e=>show .dK<|g _ _ e
def NthQ(m:Mc)(L n:Nat)(H:Hp)(Q:VK):Prop:=∀D u H',H D=B->Same H H'->H' D=G (.lst<|u.map nV)->Nth m L n u->Q 65 H'
def sp_rowby(C:Ad):Sp:=λvs H Q E=>∃(a:Ad) (m:Mc) (v x:V),vs=[.ref a,v,x]/\RepM H a m/\m.Ok/\((∃L n:Nat,v=nV L/\x=nV n/\L<=100/\n<cnt m L 0/\NthQ m L n H Q)\/(BadNo m H v x/\∀e H',Same H H'->H' e=B->E (.ref C) (G e) H'))
def zno(K:Frag)(C:Ad):Sp:=λvs H Q E=>∃(a b:Ad) (m:Mc) (row:List Nat),vs=[.ref a,.ref b]/\RepM H a m/\m.Ok/\SqL K H b (row.map nV)/\(∀l∈row,l<2^m.w)/\row.length<=200/\
 ((row.length<=100/\m.fin 032=N/\∀H',Same H H'->Q (nV<|num m 0 row) H')\/((100<row.length\/m.fin 032=Fa)/\∀e H',Same H H'->H' e=B->E (.ref C) (G e) H'))
end SM
namespace L2
def tLz(t:TS):TS:=t
def tIfZ(c:TT)(t u:TS):TS:=λD σ H=>∀r,r=t->c σ H λb H1=>if b=N then tLz r D σ H1 else u D σ H1
def tIfY(c:TT)(t u:TS):TS:=λD σ H=>∀r,r=u->c σ H λb H1=>if b=N then t D σ H1 else tLz r D σ H1
def tIfX(c:TT)(t u:TS):TS:=λD σ H=>∀r,r=t->∀r',r'=u->c σ H λb H1=>if b=N then tLz r D σ H1 else tLz r' D σ H1
def tSeqZ(t u:TS):TS:=λD σ H=>∀r,r=u->t {D with nx:=tLz r D} σ H
def tCutZ(t u:TS):TS:=λD σ H=>∀r,r=u->∃Pv:St->Hp->Prop,t {D with nx:=Pv} σ H/\∀l H',Pv l H'->tLz r D l H'
theorem itN{A Bq:Prop}(h:Bq):asB (.bl N) λc=>if(!c)=N then A else Bq:=(Xp 07:(if(!N)=N then A else Bq)=Bq)▸h
theorem itM{A Bq:Prop}(h:A):asB (.bl Fa) λc=>if(!c)=N then A else Bq:=(Xq rfl:(if(!Fa)=N then A else Bq)=A)▸h
theorem itO{A Bq:Prop}(h:Bq):asB (.bl Fa) λc=>if c=N then A else Bq:=(Xp 07:(if Fa=N then A else Bq)=Bq)▸h
theorem itB{A Bq:Prop}(h:A):asB (.bl N) λc=>if c=N then A else Bq:=(Xq rfl:(if N=N then A else Bq)=A)▸h
def as1(xs:List V)(k:V->Prop):Prop:=match xs with
 |[x]=>k x
 |_=>False
theorem as1_l{x:V}{k:V->Prop}:as1 [x] k=k x:=rfl
theorem zym{xs:List V}{k:V->Prop}(h:as1 xs k):∃x,xs=[x]/\k x:=by
 match xs,h with
 |[x],h=>show⟨x,R,h⟩
theorem znb{xs:List V}{k:Ad->Prop}(h:as1 xs λx=>asR x k):∃p,xs=[.ref p]/\k p:=by
 let(x,rfl,h):=zym h;let(p,rfl,h):=zc0 h;show⟨p,R,h⟩
section
variable {X:Cx}
theorem CallR.weak{f:Va}{r r':List V->Hp->VK->Prop}(c:CallR X f r)(h:∀xs H Q,r' xs H Q->r xs H Q):CallR X f r':=λpins s σ H xs us Q I v q=>c pins s σ H xs us Q I v<|h _ _ _ q
theorem OpR.weak{f:Va->Va->Sem Va}{r r':R2}(c:OpR X f r)(h:∀x y H Q,r' x y H Q->r x y H Q):OpR X f r':=λpins s σ H x y v u Q I T d q=>c pins s σ H x y v u Q I T d<|h _ _ _ _ q
def rEqZ:R2:=λx y H Q=>match x,y with
 |.int a,.int b=>Q (.bl<|decide (a=b)) H
 |.str a,.str b=>Q (.bl<|decide (a=b)) H
 |x,y=>scal x y=N/\Q (.bl<|decide (x=y)) H
def rNeZ:R2:=λx y H Q=>match x,y with
 |.int a,.int b=>Q (.bl<|!decide (a=b)) H
 |.str a,.str b=>Q (.bl<|!decide (a=b)) H
 |x,y=>scal x y=N/\Q (.bl<|!decide (x=y)) H
theorem dec_i(a b:Int):decide (V.int a=V.int b)=decide (a=b):=decide_eq_decide.mpr ⟨λh=>V.int.inj h,λh=>congrArg _ h⟩
theorem dec_s(a b:Str):decide (V.str a=V.str b)=decide (a=b):=decide_eq_decide.mpr ⟨λh=>V.str.inj h,λh=>congrArg _ h⟩
theorem zl9{a b:Int}{H:Hp}{Q:VK}:rEqZ (.int a) (.int b) H Q=Q (.bl<|decide (a=b)) H:=rfl
theorem zl8{a b:Str}{H:Hp}{Q:VK}:rEqZ (.str a) (.str b) H Q=Q (.bl<|decide (a=b)) H:=rfl
theorem zl7{a b:Int}{H:Hp}{Q:VK}:rNeZ (.int a) (.int b) H Q=Q (.bl<|!decide (a=b)) H:=rfl
theorem zl6{a b:Str}{H:Hp}{Q:VK}:rNeZ (.str a) (.str b) H Q=Q (.bl<|!decide (a=b)) H:=rfl
theorem rEqZ_eq{x y:V}{H:Hp}{Q:VK}:rEqZ x y H Q=(scal x y=N/\Q (.bl<|decide (x=y)) H):=by
 cases x<;>cases y<;>first|rfl|(rw[zl9,dec_i];show propext ⟨λh=>⟨R,h⟩,λh=>h.2⟩)|(rw[zl8,dec_s];show propext ⟨λh=>⟨R,h⟩,λh=>h.2⟩)
theorem rNeZ_eq{x y:V}{H:Hp}{Q:VK}:rNeZ x y H Q=(scal x y=N/\Q (.bl<|!decide (x=y)) H):=by
 cases x<;>cases y<;>first|rfl|(rw[zl7,dec_i];show propext ⟨λh=>⟨R,h⟩,λh=>h.2⟩)|(rw[zl6,dec_s];show propext ⟨λh=>⟨R,h⟩,λh=>h.2⟩)
theorem zcd:OpR X (i4 .Eq) rEqZ:=op_eq.weak λ_ _ _ _ h=>rEqZ_eq.mp h
theorem zsb:OpR X (i4 .NotEq) rNeZ:=op_ne.weak λ_ _ _ _ h=>rNeZ_eq.mp h
variable (K:Frag)
def rLenZ:List V->Hp->VK->Prop:=λxs H Q=>as1 xs λx=>asR x λp=>∃ys,(SqL K H p ys\/SqT K H p ys)/\Q (.int<|List.length ys) H
theorem zar(h:X.K=K:=by rfl):CallR X (.builtin "len") (rLenZ K):=(zeq K h).weak λ_ _ _ h=>let⟨p,e,ys,h⟩:=znb h;⟨p,ys,e,h⟩
def rListOfZ:List V->Hp->VK->Prop:=λxs H Q=>as1 xs λx=>asR x λp=>∃ys,(SqL K H p ys\/SqT K H p ys)/\∀l H',New H l 50 H'->Q (.ref l) H'
theorem zqr(h:X.K=K:=by rfl):CallR X (.type "list") (rListOfZ K):=(zhb K h).weak λ_ _ _ h=>let⟨p,e,ys,h⟩:=znb h;⟨p,ys,e,h⟩
def rAllZ:List V->Hp->VK->Prop:=λxs H Q=>as1 xs λx=>asR x λp=>∃bs:List Bool,SqL K H p (bs.map V.bl)/\Q (.bl<|bs.all id) H
theorem zdc(C:X.calm=N)(h:X.K=K:=by rfl):CallR X (.builtin "all") (rAllZ K):=(zli K C h).weak λ_ _ _ h=>let⟨p,e,ys,h⟩:=znb h;⟨p,ys,e,h⟩
def rInZ(neg:Bool):R2:=λx y H Q=>asR y λp=>∃xs,(SqL K H p xs\/SqT K H p xs)/\flatV x=N/\xs.all flatV=N/\Q (.bl<|if neg then !inV x xs else inV x xs) H
theorem zoa(h:X.K=K:=by rfl):OpR X (i4 .In) (rInZ K Fa):=(zps K h).weak λ_ _ _ _ h=>let⟨p,e,ys,h⟩:=zc0 h;⟨p,ys,e,h⟩
theorem zsa(h:X.K=K:=by rfl):OpR X (i4 .NotIn) (rInZ K N):=(ziv K h).weak λ_ _ _ _ h=>let⟨p,e,ys,h⟩:=zc0 h;⟨p,ys,e,h⟩
def rSlLZ:V->Option Int->Option Int->Hp->VK->Prop:=λx lo hi H Q=>asR x λa=>∃xs,SqL K H a xs/\∀p H',New H p (.lst<|cutL xs lo hi) H'->Q 22 H'
theorem zfq(h:X.K=K:=by rfl):SlR X (rSlLZ K):=λpins s σ H x v g vu lo hi y Q I r hs c C q=>zrd K h pins s σ H x v g vu lo hi y Q I r hs c C (let⟨p,e,ys,h⟩:=zc0 q;⟨p,ys,e,h⟩)
def rSlTZ:V->Option Int->Option Int->Hp->VK->Prop:=λx lo hi H Q=>asR x λa=>∃xs,SqT K H a xs/\¬(HT.sIx xs.length 0 lo=0/\HT.sIx xs.length xs.length hi=xs.length)/\∀p H',New H p (.tup<|cutL xs lo hi) H'->Q 22 H'
theorem zil(h:X.K=K:=by rfl):SlR X (rSlTZ K):=λpins s σ H x v g vu lo hi y Q I r hs c C q=>zvg K h pins s σ H x v g vu lo hi y Q I r hs c C (let⟨p,e,ys,h⟩:=zc0 q;⟨p,ys,e,h⟩)
variable {K}
def rAppZ:V->List V->Hp->VK->Prop:=λx vs H Q=>as1 vs λy=>asR x λl=>∃xs,H l=G 016/\xs.length<ii/\Q .non (upd H l<|.lst (xs++[y]))
theorem zbf:MtM X "list.append" rAppZ:=λpins s σ H x xs v us Q I r rs h=>zks pins s σ H x xs v us Q I r rs (let⟨y,e,h⟩:=zym h;let⟨l,c,xs,h⟩:=zc0 h;⟨l,xs,y,c,e,h⟩)
def rCatZ:R2:=λx y H Q=>asR x λl=>asR y λb=>∃xs,H l=G 016/\∃w,H b=G (.lst w)/\xs.length+w.length<=ii/\∀p H',New H p (.lst<|xs++w) H'->Q 22 H'
theorem zgi:OpR X (iQ .Add) rCatZ:=op_catN.weak λ_ _ _ _ h=>let⟨l,e,h⟩:=zc0 h;let⟨b,c,xs,O,w,h⟩:=zc0 h;⟨l,b,xs,w,e,c,O,h⟩
def rIskZ:List V->Hp->VK->Prop:=λxs H Q=>match xs with
 |[x,.ty T]=>∃k,Kd H x k/\T∈["str","list","tuple","bool","int","dict"]/\Q (.bl<|subT k T) H
 |_=>False
theorem zrr{x:V}{T:String}{H:Hp}{Q:VK}:rIskZ [x,.ty T] H Q=∃k,Kd H x k/\T∈["str","list","tuple","bool","int","dict"]/\Q (.bl<|subT k T) H:=rfl
theorem za8:CallR X (.builtin "isinstance") rIskZ:=call_isk.weak λxs H Q h=>by
 match xs,h with
 |[x,.ty T],⟨k,h⟩=>show⟨x,T,k,R,h⟩
def rLeSZ:R2:=λx y H Q=>asS x λi=>asS y λj=>Q (.bl<|!(decide (j.cps.toList<i.cps.toList))) H
end
end L2
namespace SM
def codeP(ps u:List Nat):Option (List Bool):=if ps.any (λk=>decide (2<=fcnt u k))=N then B else G (ps.map λk=>fcnt u k==1)
theorem zlj:∀n,(bools n).length=2^n
 |0=>rfl
 |n+1=>by
  change((bools n).flatMap λl=>[Fa::l,N::l]).length=_;rw[List.length_flatMap,show(bools n).map (λl=>[Fa::l,N::l].length)=(bools n).map λ_=>2 from rfl,List.map_const',List.sum_replicate_nat,zlj n,Nat.pow_succ]
theorem zui(ps u:List Nat):codeP ps u∈B::(bools ps.length).map G:=by
 unfold codeP;split
 .exact y0a
 .exact y06 _<|List.mem_map_of_mem (by simpa using zgy (ps.map λk=>fcnt u k==1))
theorem zuj{ps u v:List Nat}(e:codeP ps u=codeP ps v)(x:List Nat):fitP ps (u++x)=fitP ps (v++x):=by
 unfold codeP at e;split at e
 .rename_i h;split at e
  .rename_i h';rw[zen h,zen h']
  .cases e
 .rename_i h;split at e
  .cases e
  .rename_i h';let e:=List.map_inj_left.mp<|Option.some.inj e;let f:∀{u:List Nat},¬ps.any (λk=>decide (2<=fcnt u k))=N->∀k∈ps,fcnt u k<2:=λh k j=>Nat.lt_of_not_le λz=>h<|y1v.mpr ⟨k,j,Xg z⟩;unfold fitP;rw[y1t,y12,y12];let J:∀k∈ps,fcnt u k=fcnt v k:=λk j=>by
    let z:=e k j;rw[y1t,beq_iff_eq,beq_iff_eq]at z;let a:=f h k j;let b:=f h' k j;omega
   show⟨λg k j=>by rw[zby,←J k j,←zby];show g k j,λg k j=>by rw[zby,J k j,←zby];show g k j⟩
theorem fit_nP{ps:List Nat}{m:Mc}(c:Canon m)(t:∀row,m.Row row->m.fin 032=fitP ps row):m.n<=2^ps.length+1:=by
 let Rq:=zny c.ord;letI f:=λr=>if h:r<m.n then Classical.choose (Rq r h)else[]
 let nd:((List.range m.n).map λr=>codeP ps<|f r).Nodup:=nodup_map_on (λa d b U e=>by
  let d:=y0v.mp d;let U:=y0v.mp U;let k:∀r (D:r<m.n),m.Row (f r)/\m.run 0 (f r)=r:=λr D=>by
   change m.Row (dite _ _ _)/\m.run 0 (dite _ _ _)=r;rw[dif_pos D];show Classical.choose_spec<|Rq r D
  let w:∀r (D:r<m.n) x,m.Row x->m.fin (m.run r x)=fitP ps (f r++x):=λr D x J=>by
   rw[←t _ λl Y=>(y0x.mp Y).elim ((k r D).1 l)<|J l];unfold Mc.run;rw[y35];show congrArg (λz=>m.fin<|List.foldl m.go z x) (k r D).2.symm
  show c.dist a b d U λx J=>by rw[w a d x J,w b U x J,zuj e]) y3t
 let:=zdn nd (ys:=B::(bools ps.length).map G) λx J=>by
  let(r,_,rfl):=y0h.mp J;show zui _ _
 simpa[zlj]using this
end SM
namespace L2
theorem CalE.n{P:ik}{w:World}{K:Frag}{mg:Y1}{base:Heap}{n:Nat}{x:Str}{ps:List Str}{sp:Sp}(C:CalE P w K mg base n x ps sp)(h:∀vs H Q E,sp vs H Q E->sp vs H Q E0):03 n x ps sp:=by
 let(f,fd,F,b,kp,m):=C.ex;apply⟨f,fd,⟨F.len,λA outer s H args us vs Q E D J a Y q=>iH (F.run A outer s H args us vs Q E0 D J a Y<|h _ _ _ _ q) λr s' z=>?_⟩,b,kp,m⟩
 match r,z with
 |.ok (.ret u),z=>show z
 |.error e,⟨_,_,_,_,_,_,_,_,_,z⟩=>show z.elim
end L2
namespace SM
open PySem PySem.Spec PyProof.Rows L2 SS
theorem zs2:∀s:Sy,1<=mcost s
 |.bare _ _ _=>y05 _
 |.neg s=>y3w _ _
 |.two _ s t=>y3w _ _
 |.qu w _ s=>by unfold mcost;split<;>omega
inductive MOr:Sy->List Str->Mc->Prop where
 |bare {wd n m:Str} {tl:List Str} {M:Mc} (f:Frm tl) (hn:n∈tl) (hm:m∈tl) (hw:wd∈SM.rowWords) (Bq:BareM tl wd (tl.idxOf n) (tl.idxOf m) M):MOr (.bare wd n m) tl M
 |and {s t:Sy} {tl:List Str} {M1 M2 M:Mc} (h1:MOr s tl M1) (h2:MOr t tl M2) (o1:M1.Ok) (o2:M2.Ok) (w1:M1.w=tl.length) (w2:M2.w=tl.length) (few:M1.n*M2.n<=100) (ok:M.Ok) (can:Canon M) (hw:M.w=tl.length) (l:∀row,M.Row row->M.fin (M.run 0 row)=(M1.fin (M1.run 0 row)&&M2.fin (M2.run 0 row))):MOr (.two "and" s t) tl M
 |or {s t:Sy} {tl:List Str} {M1 M2 M:Mc} (h1:MOr s tl M1) (h2:MOr t tl M2) (o1:M1.Ok) (o2:M2.Ok) (w1:M1.w=tl.length) (w2:M2.w=tl.length) (few:M1.n*M2.n<=100) (ok:M.Ok) (can:Canon M) (hw:M.w=tl.length) (l:∀row,M.Row row->M.fin (M.run 0 row)=(M1.fin (M1.run 0 row)||M2.fin (M2.run 0 row))):MOr (.two "or" s t) tl M
 |neg {s:Sy} {tl:List Str} {M1 M:Mc} (f:Frm tl) (h1:MOr s tl M1) (o1:M1.Ok) (w1:M1.w=tl.length) (few:M1.n*(2^(psOf<|bsOf tl).length+1)<=100) (ok:M.Ok) (can:Canon M) (hw:M.w=tl.length) (l:∀row,M.Row row->M.fin (M.run 0 row)=(!M1.fin (M1.run 0 row)&&fitP (psOf<|bsOf tl) row)):MOr (.neg s) tl M
 |some {n:Str} {s:Sy} {tl:List Str} {M1 M:Mc} (h1:MOr s (tl++[n]) M1) (o1:M1.Ok) (w1:M1.w=tl.length+1) (few:M1.n<=12) (Rq:∃Rq,DropR M1 tl.length Rq) (ok:M.Ok) (can:Canon M) (hw:M.w=tl.length) (l:∀row,M.Row row->M.fin (M.run 0 row)=(dropT M1 tl.length).fin ((dropT M1 tl.length).run [0] row)):MOr (.qu "some" n s) tl M
 |all {n:Str} {s:Sy} {tl:List Str} {M:Mc} (h:MOr (.neg<|.qu "some" n (.neg s)) tl M):MOr (.qu "all" n s) tl M
theorem mor_len{s:Sy}{tl:List Str}{M:Mc}(h:MOr s tl M):tl.length<=4:=by
 induction h with
 |bare f=>show f.ok.1
 |and _ _ _ _ _ _ _ ok _ L=>rw[←L];show ok.wid
 |or _ _ _ _ _ _ _ ok _ L=>rw[←L];show ok.wid
 |neg f=>show f.ok.1
 |some _ _ _ _ _ ok _ L=>rw[←L];show ok.wid
 |all _ I=>show I
structure TabJ(H:Hp)(Pr:Ad)(qr:Y3)(Pp:Ad)(qp:Y3)(Pm:Ad)(qm:Y3)(Pj:Ad)(qj:Y3)(Pd:Ad)(qd:Y3):Prop where
 r:TabOk H Pr qr
 p:TabOk H Pp qp
 m:TabOk H Pm qm
 j:TabOk H Pj qj
 d:TabOk H Pd qd
theorem TabJ.same{H H':Hp}{Y:Ad}{c:Y3}{j:Ad}{e:Y3}{L:Ad}{f:Y3}{d:Ad}{a:Y3}{x:Ad}{qd:Y3}(t:TabJ H Y c j e L f d a x qd)(g:Same H H'):TabJ H' Y c j e L f d a x qd:=⟨t.r.same g,t.p.same g,t.m.same g,t.j.same g,t.d.same g⟩
theorem TabJ.drop{cl:Y4}{H:Hp}{Y:Ad}{c:Y3}{j:Ad}{e:Y3}{L:Ad}{f:Y3}{d:Ad}{a:Y3}{x:Ad}{qd:Y3}(t:TabJ H Y c j e L f d a x qd)(U:ClOk cl H):TabJ (dropL cl H) Y c j e L f d a x qd:=⟨U.tab t.r,U.tab t.p,U.tab t.m,U.tab t.j,U.tab t.d⟩
def zyw(Y:Ad)(c:Y3)(j:Ad)(e:Y3)(L:Ad)(f:Y3)(d:Ad)(a:Y3)(x:Ad)(qd:Y3)(n:Nat):Sp:=λvs H Q _=>∃(v:V) (b:Ad) (tl:List Str) (s:Sy) (M:Mc),vs=[v,.ref b]/\TabJ H Y c j e L f d a x qd/\Rep H v s/\H b=G (.lst<|tl.map V.str)/\MOr s tl M/\mcost s<=n/\∀p H',Same H H'->RepM H' p M->Q 22 H'
def zjz(P:ik)(w:World)(K:Frag)(mg:Y1)(base:Heap)(e c a d g fp:Ad)(z:Ad)(i:Y3)(sp:Nat->Sp):Sp:=λvs H Q _=>vs=[.ref e,.ref c,.ref a,.ref d,.ref g,.ref fp]/\TabOk H z i/\
 ∀f fd H',Same H H'->H' f=G (fnO fd f)->(∀n,CloHE P w K mg base (11+n) H' f 2<|sp n)->Q 52 H'
structure LetF(tl:List Str)(s:Sy):Prop where
 few:tl.length<=4
 len:∀z∈tl,z.length<=4
 fr:frameB (tl.map V.str)=N
 wf:wfB s=N
 dp:s.depth<=12
 pt:s.parts<=60
 ok:letB treeWords 4 tl s=N
def znq:Sp:=λvs H Q _=>∃(v:V) (b:Ad) (tl:List Str) (s:Sy),vs=[v,.ref b]/\Rep H v s/\H b=G (.lst<|tl.map V.str)/\LetF tl s/\∀H',Same H H'->Q .non H'
def zhm(Y:Ad)(c:Y3)(j:Ad)(e:Y3)(L:Ad)(f:Y3)(d:Ad)(a:Y3)(x:Ad)(qd:Y3)(z:Ad)(i:Y3):Sp:=λvs H Q _=>∃(v:V) (b:Ad) (tl:List Str) (s:Sy) (M:Mc),vs=[v,.ref b]/\TabJ H Y c j e L f d a x qd/\TabOk H z i/\Rep H v s/\H b=G (.lst<|tl.map V.str)/\LetF tl s/\MOr s tl M/\mcost s<=16/\∀p H',Same H H'->RepM H' p M->Q 22 H'
end SM
set_option maxHeartbeats 4000000
namespace SM
open PySem PySem.Spec PyProof.Rows L2 SS
section
variable {T:Type}[DecidableEq T]
def nubs(l:List T):List T:=l.foldl (λacc x=>if x∈acc then acc else acc++[x]) []
def numb(l:List T):List Nat:=l.map (nubs l).idxOf
theorem zsw{l:List T}{i j:Nat}{a b:T}(d:l[i]?=G a)(U:l[j]?=G b)(h:(numb l).getD i 0≠(numb l).getD j 0):a≠b:=by
 rintro rfl;apply h ?_;unfold numb;rw[y02,y02,y03,y03,d,U]
end
def rfn(m:Mc)(c:List Nat):List Nat:=numb ((List.range m.n).map λr=>c.getD r 0::(List.range<|2^m.w).map λl=>c.getD (m.go r l) 0)
def moo(m:Mc):Nat->List Nat->List Nat
 |0,c=>c
 |f+1,c=>if rfn m c=c then c else moo m f (rfn m c)
def cls(m:Mc):List Nat:=moo m 100<|numb m.ends
def Pts(m:Mc)(c:List Nat):Prop:=∀i j,i<m.n->j<m.n->c.getD i 0≠c.getD j 0->∃row,m.Row row/\m.fin (m.run i row)≠m.fin (m.run j row)
theorem zy7{m:Mc}(ok:m.Ok){c:List Nat}(h:Pts m c):Pts m (rfn m c):=λi j hi U a=>by
 let e:∀i,i<m.n->((List.range m.n).map λr=>c.getD r 0::(List.range<|2^m.w).map λl=>c.getD (m.go r l) 0)[i]?=G (c.getD i 0::(List.range<|2^m.w).map λl=>c.getD (m.go i l) 0):=λi hi=>by
  rw[y03,y0p hi];rfl
 let ne:=zsw (e i hi) (e j U) a;by_cases C:c.getD i 0=c.getD j 0
 .let O:¬∀l∈List.range (2^m.w),c.getD (m.go i l) 0=c.getD (m.go j l) 0:=λz=>ne (by rw[C];congr 1;show y1w z);let(l,z):=Classical.not_forall.mp O;let(Y,z):=Classical.not_imp.mp z;let Y:=y0v.mp Y;let(row,D,I):=h _ _ (go_lt ok hi Y) (go_lt ok U Y) z;apply⟨l::row,λx J=>?_,by rw[Mc.run_cons,Mc.run_cons];show I⟩;rcases y08.mp J with rfl|J
  .exact Y
  .exact D x J
 .exact h i j hi U C
theorem zrs{m:Mc}(ok:m.Ok):∀(f:Nat) {c:List Nat},Pts m c->Pts m (moo m f c)
 |0,_,h=>h
 |f+1,c,h=>by
  unfold moo;split
  .exact h
  .exact zrs ok f<|zy7 ok h
theorem zy8{m:Mc}(ok:m.Ok):Pts m (cls m):=by
 apply zrs ok 100 λi j hi U D=>⟨[],.nil m,?_⟩;let ne:=zsw (y00 hi) (y00 U) D;change m.fin i≠m.fin j;unfold Mc.fin;rw[y02,y02,y00 hi,y00 U];show ne
def pos1(m:Mc)(b:Nat):Nat:=(List.range<|m.n*2^m.w).findIdx λi=>m.go (i/2^m.w) (i%2^m.w)==b
def ordB(m:Mc):Bool:=(List.range m.n).all λb=>decide (b=0)||(decide (pos1 m b<m.n*2^m.w)&&decide (pos1 m b/2^m.w<b)&&(decide (b=1)||decide (pos1 m (b-1)<pos1 m b)))
theorem zrw{m:Mc}{b:Nat}(h:pos1 m b<m.n*2^m.w):m.go (pos1 m b/2^m.w) (pos1 m b%2^m.w)=b:=by
 let:=List.findIdx_getElem (p:=λi=>m.go (i/2^m.w) (i%2^m.w)==b) (xs:=List.range<|m.n*2^m.w) (w:=by rw[y0y];show h);rw[List.getElem_range]at this;show eq_of_beq this
theorem zzh{m:Mc}{i b:Nat}(h:m.go (i/2^m.w) (i%2^m.w)=b)(hi:i<m.n*2^m.w):pos1 m b<=i:=by
 apply y27 λz=>?_;let:=List.not_of_lt_findIdx (p:=λi=>m.go (i/2^m.w) (i%2^m.w)==b) (xs:=List.range<|m.n*2^m.w) (i:=i) z;rw[List.getElem_range]at this;simp[h]at this
theorem ordB_ok{m:Mc}(ok:m.Ok)(h:ordB m=N):m.Ord:=by
 let H:∀b,0<b->b<m.n->pos1 m b<m.n*2^m.w/\pos1 m b/2^m.w<b/\(b=1\/pos1 m (b-1)<pos1 m b):=λb C U=>by
  let z:=y12.mp h b<|y0v.mpr U;simp only[y3e,y07,decide_eq_true_eq]at z;rcases z with z|⟨⟨T,I⟩,j⟩
  .omega
  .exact⟨T,I,j⟩
 let up:∀d b,0<b->b+d+1<m.n->pos1 m b<pos1 m (b+d+1):=λd=>by
  induction d with
  |zero =>
   intro b C U;rcases(H (b+0+1) (by omega) U).2.2 with z|z
   .omega
   .exact z
  |succ d f =>
   intro b C U;let T:=f b C 01;rcases(H (b+(d+1)+1) (by omega) U).2.2 with z|z
   .omega
   .exact y1j T z
 let E:0<2^m.w:=Nat.pow_pos 07;apply⟨λr l b D Y C o=>?_,λb C U=>?_⟩
 .let p:=go_lt ok D Y;let hi:r*2^m.w+l<m.n*2^m.w:=by
   let:=Nat.mul_le_mul_right (2^m.w)<|show r+1<=m.n from D;rw[Nat.add_mul]at this;omega
  let L:(r*2^m.w+l)/2^m.w=r:=by rw[y4a,Nat.mul_add_div E,Nat.div_eq_of_lt Y];rfl
  let g:(r*2^m.w+l)%2^m.w=l:=by rw[y4a,Nat.mul_add_mod,Nat.mod_eq_of_lt Y]
  let a:=zzh (m:=m) (i:=r*2^m.w+l) (b:=m.go r l) (by rw[L,g]) hi;let c:=up (m.go r l-b-1) b C (by rw[show b+(m.go r l-b-1)+1=m.go r l by omega];show p);rw[show b+(m.go r l-b-1)+1=m.go r l by omega]at c;let U:=(H b C<|y1j o p).1;apply⟨pos1 m b/2^m.w,pos1 m b%2^m.w,y2y _ E,?_,zrw U⟩;let u:pos1 m b<r*2^m.w+l:=by omega
  let s:=Nat.div_add_mod (pos1 m b)<|2^m.w;let v:=y2y (pos1 m b) E;let q:pos1 m b/2^m.w<r+1:=by
   rw[Nat.div_lt_iff_lt_mul E,Nat.add_mul];omega
  rcases Nat.lt_or_ge (pos1 m b/2^m.w) r with z|z
  .exact .inl z
  .let e:pos1 m b/2^m.w=r:=by omega
   apply .inr ⟨e,?_⟩;rw[e,y4a]at s;omega
 .let:=H b C U;show⟨_,_,this.2.1,y2y _ E,zrw this.1⟩
def canB(m:Mc):Bool:=ordB m&&decide (cls m=List.range m.n)
theorem canB_ok{m:Mc}(ok:m.Ok)(h:canB m=N):Canon m:=by
 unfold canB at h;let(O,M):=y3g.mp h;let M:=of_decide_eq_true M;apply⟨ordB_ok ok O,λi j hi U E=>Classical.byContradiction λne=>?_⟩;let e:∀i,i<m.n->(cls m).getD i 0=i:=λi hi=>by rw[M,y02,y0p hi];rfl
 let(row,D,z):=zy8 ok i j hi U (by rw[e i hi,e j U];show ne);show z<|E row D
section
variable {S:Type}[DecidableEq S]
def xpl(w:Nat)(step:S->Nat->S):Nat->List S->Nat->List (List Nat)->List S×List (List Nat)
 |0,a,_,j=>(a,j)
 |f+1,a,i,j=>match a[i]? with
  |none=>(a,j)
  |some s=>match(List.range<|2^w).foldl (λ(p:List S×List Nat) l=>(if step s l∈p.1 then p.1 else p.1++[step s l],p.2++[p.1.idxOf<|step s l])) (a,[])with
   |(d,c)=>xpl w step f d (i+1)<|j++[c]
def rawM(w:Nat)(step:S->Nat->S)(fin:S->Bool)(u:S):Mc:=match xpl w step 100 [u] 0 []with
 |(a,j)=>⟨w,j,a.map fin⟩
def quoC(m:Mc)(c:List Nat):Mc:=⟨m.w,(nubs c).map λk=>(m.ways.getD (c.idxOf k) []).map λx=>c.getD x 0,(nubs c).map λk=>m.fin<|c.idxOf k⟩
end
section
variable {α β:Type}
def fN(n:Nat)(k:Nat->α):α:=match n with|0=>k 0|n+1=>k<|n+1
def fB(b:Bool)(k:Bool->α):α:=match b with|true=>k N|false=>k Fa
def frL(f:β->(β->α)->α):List β->(List β->α)->α
 |[],k=>k []
 |x::xs,k=>f x λx=>frL f xs λxs=>k (x::xs)
def frM(m:Mc)(k:Mc->α):α:=fN m.w λw=>frL (frL fN) m.ways λj=>frL fB m.ends λl=>k ⟨w,j,l⟩
theorem fN_is(n:Nat)(k:Nat->α):fN n k=k n:=by cases n<;>rfl
theorem fB_is(b:Bool)(k:Bool->α):fB b k=k b:=by cases b<;>rfl
theorem zor{f:β->(β->α)->α}(h:∀x k,f x k=k x):∀(l:List β) (k:List β->α),frL f l k=k l
 |[],_=>rfl
 |x::xs,k=>by rw[frL,h,zor h xs]
theorem zoq(m:Mc)(k:Mc->α):frM m k=k m:=by
 unfold frM;rw[fN_is,zor<|zor fN_is,zor fB_is]
end
section
variable {S:Type}[DecidableEq S]
def findM(w:Nat)(step:S->Nat->S)(fin:S->Bool)(u:S):Mc:=frM (rawM w step fin u) λr=>frL fN (cls r) λc=>quoC r c
end
def kept(m:Mc)(w:Nat)(b:Bool):Option Mc:=if okMB m&&canB m&&decide (m.w=w)&&b then G m else B
structure Hld(tl:List Str)(m:Mc):Prop where
 ok:m.Ok
 can:Canon m
 w:m.w=tl.length
theorem ziz{m M:Mc}{w:Nat}{b:Bool}(h:kept m w b=G M):m=M/\M.Ok/\Canon M/\M.w=w/\b=N:=by
 unfold kept at h;split at h
 .rename_i z;cases h;simp only[y07,decide_eq_true_eq]at z;let(((a,c),d),e):=z;show⟨R,zst a,canB_ok (zst a) c,d,e⟩
 .cases h
def nms6:List Str:=["x","y","z","X","Y","Z"]
def frmC(tl:List Str):Bool:=decide (tl.length<=4)&&tl.all λz=>decide (z∈nms6)
theorem zti{tl:List Str}(h:frmC tl=N):Frm tl:=by
 unfold frmC at h;let(O,M):=y3g.mp h;let M:∀z∈tl,z∈nms6:=λz hz=>of_decide_eq_true<|y12.mp M z hz;let k:∀z∈nms6,NmOk z/\z.length<=4:=λz hz=>by
  simp only[nms6,y08,y0n,or_false]at hz;rcases hz with rfl|rfl|rfl|rfl|rfl|rfl
  .exact⟨.inl<|zh0 R 48 07 (by intro x J;cases J),by decide⟩
  .exact⟨.inl<|zh0 R 48 07 (by intro x J;cases J),by decide⟩
  .exact⟨.inl<|zh0 R 48 07 (by intro x J;cases J),by decide⟩
  .exact⟨.inr<|zh0 R 48 07 (by intro x J;cases J),by decide⟩
  .exact⟨.inr<|zh0 R 48 07 (by intro x J;cases J),by decide⟩
  .exact⟨.inr<|zh0 R 48 07 (by intro x J;cases J),by decide⟩
 show⟨⟨of_decide_eq_true O,λz hz=>(k z<|M z hz).1⟩,λz hz=>(k z<|M z hz).2⟩
section
variable {S:Type}[DecidableEq S]
def stepD(f:S->Nat->S)(z:S)(ps:List Nat)(p:S×List Nat)(l:Nat):S×List Nat:=if(cstep ps p.2 l).any (λa=>a==2)then(z,ps.map λ_=>2)else(f p.1 l,cstep ps p.2 l)
theorem zhg(f:S->Nat->S)(z u:S)(ps:List Nat):∀(row pre:List Nat) (p:S×List Nat),(p=(pre.foldl f u,ps.map λk=>min 2<|fcnt pre k)\/(p=(z,ps.map λ_=>2)/\∃k∈ps,2<=fcnt pre k))->
  (row.foldl (stepD f z ps) p=((pre++row).foldl f u,ps.map λk=>min 2<|fcnt (pre++row) k)\/(row.foldl (stepD f z ps) p=(z,ps.map λ_=>2)/\∃k∈ps,2<=fcnt (pre++row) k))
 |[],pre,p,h=>by rw[y1g];show h
 |c::row,pre,p,h=>by
  rw[y30,show pre++c::row=(pre++[c])++row by simp];apply zhg f z u ps row (pre++[c]) _ ?_;rcases h with rfl|⟨rfl,k,j,M⟩
  .let e:=cfold ps [c] pre;unfold stepD;simp only[y30,List.foldl_nil]at e;rw[e];split
   .rename_i h;apply .inr ⟨R,?_⟩;let(a,d,g):=y1v.mp h;let(k,j,rfl):=y0h.mp d;show⟨k,j,by have:=eq_of_beq g;omega⟩
   .exact .inl (by rw[y35];rfl)
  .refine .inr ⟨?_,k,j,by rw[zby];omega⟩;unfold stepD;rw[Xq];apply y1v.mpr ⟨2,?_,R⟩;unfold cstep;rw[zic];show y0h.mpr ⟨k,j,by split<;>rfl⟩
theorem znk(f:S->Nat->S)(z u:S)(ps row:List Nat)(fin:S->Bool):(λp:S×List Nat=>fin p.1&&cfin p.2) (row.foldl (stepD f z ps) (u,c0 ps))=(fin (row.foldl f u)&&fitP ps row):=by
 let e:c0 ps=ps.map λk=>min 2 (fcnt [] k):=by
  unfold c0;apply y1w λk _=>?_;simp[fcnt]
 rcases zhg f z u ps row [] (u,c0 ps) (.inl<|by rw[e];rfl)with h|⟨h,k,j,M⟩
 .rw[h,y2m];change(fin _&&cfin _)=_;congr 1;unfold cfin fitP;rw[y32];congr 1;funext k;change(min 2 (fcnt row k)==1)=(fcnt row k==1);generalize fcnt row k=a;rw[y1t,beq_iff_eq,beq_iff_eq];omega
 .rw[h];change(fin z&&cfin _)=_;let O:cfin (ps.map λ_=>2)=Fa:=y3q.mpr ⟨2,y0h.mpr ⟨k,j,R⟩,by decide⟩;let A:fitP ps row=Fa:=y3q.mpr ⟨k,j,λe=>by have:=eq_of_beq e;rw[y2m]at M;omega⟩;rw[O,A,y2h,y2h]
end
def chkBareD(ps:List Nat)(wd:Str)(i j:Nat)(m:Mc):Bool:=chkS m (stepD (bstep (ruleW wd) i j) 0 ps) (λp=>aend (ruleW wd) p.1&&cfin p.2) (2,c0 ps)
theorem zm2{ps:List Nat}{wd:Str}{i j:Nat}{m:Mc}(h:chkBareD ps wd i j m=N)(row:List Nat)(D:m.Row row):m.fin 032=(aend (ruleW wd) (brun (ruleW wd) i j 2 row)&&fitP ps row):=(zda h row D).trans<|znk _ _ _ _ _ _
def chkNegD(ps:List Nat)(a m:Mc):Bool:=chkS m (stepD a.go 0 ps) (λp=>!a.fin p.1&&cfin p.2) (0,c0 ps)
theorem zqo{ps:List Nat}{a m:Mc}(h:chkNegD ps a m=N)(row:List Nat)(D:m.Row row):m.fin 032=(!a.fin (a.run 0 row)&&fitP ps row):=(zda h row D).trans<|znk (fin:=λr=>!a.fin r) _ _ _ _ _
def chkJoin(a b m:Mc):Bool:=chkS m (λ(p:Nat×Nat) l=>(a.go p.1 l,b.go p.2 l)) (λp=>a.fin p.1||b.fin p.2) (0,0)
theorem zqp{a b m:Mc}(h:chkJoin a b m=N)(row:List Nat)(D:m.Row row):m.fin 032=(a.fin (a.run 0 row)||b.fin (b.run 0 row)):=by
 rw[zda h row D,zgq];rfl
def keepB(w:Nat)(ps:List Nat)(wd:Str)(i j:Nat)(m:Mc):Option Mc:=kept m w<|chkBareD ps wd i j m
def fndB(w:Nat)(ps:List Nat)(wd:Str)(i j:Nat):Option Mc:=frM (findM w (stepD (bstep (ruleW wd) i j) 0 ps) (λp=>aend (ruleW wd) p.1&&cfin p.2) (2,c0 ps))<|keepB w ps wd i j
def fndP(o:Bool)(a b:Mc):Mc:=findM a.w (λ(p:Nat×Nat) l=>(a.go p.1 l,b.go p.2 l)) (λp=>if o then a.fin p.1||b.fin p.2 else a.fin p.1&&b.fin p.2) (0,0)
def mkTwo(o:Bool):Option Mc->Option Mc->Option Mc
 |some a,G b=>if a.n*b.n<=100 then frM (fndP o a b) λm=>kept m a.w (if o then chkJoin a b m else chkMet a b m)else B
 |_,_=>B
def mkNeg(ps:List Nat):Option Mc->Option Mc
 |some a=>if a.n*(2^ps.length+1)<=100 then frM (findM a.w (stepD a.go 0 ps) (λp=>!a.fin p.1&&cfin p.2) (0,c0 ps)) λm=>kept m a.w (chkNegD ps a m)else B
 |none=>B
def mkSome(t:Nat):Option Mc->Option Mc
 |some a=>if a.n<=12 then frM (findM t (dstep a t) (dropT a t).fin [0]) λm=>kept m t (chkDrop a t m)else B
 |none=>B
def mkC:Sy->List Str->Option Mc
 |.bare wd n m,tl=>if frmC tl&&decide (n∈tl)&&decide (m∈tl)&&decide (wd∈SM.rowWords)then fndB tl.length (psOf<|bsOf tl) wd (tl.idxOf n) (tl.idxOf m)else B
 |.neg s,tl=>if frmC tl then mkNeg (psOf<|bsOf tl) (mkC s tl)else B
 |.two w s t,tl=>if w="and" then mkTwo Fa (mkC s tl) (mkC t tl)else if w="or" then mkTwo N (mkC s tl) (mkC t tl)else B
 |.qu w n s,tl=>if w="some" then mkSome tl.length (mkC s<|tl++[n])else if w="all" then(if frmC tl&&frmC (tl++[n])then mkNeg (psOf<|bsOf tl) (mkSome tl.length<|mkNeg (psOf<|bsOf (tl++[n])) (mkC s<|tl++[n]))else B)else B
theorem ziy{s:Sy}{tl:List Str}{o:Option Mc}(f:frmC tl=N)(h:∀a,o=G a->MOr s tl a/\Hld tl a){M:Mc}(e:mkNeg (psOf<|bsOf tl) o=G M):MOr (.neg s) tl M/\Hld tl M:=by
 cases o with
 |none=>cases e
 |some a =>
 let(i,O):=h a rfl;simp only[mkNeg,zoq]at e;split at e
 .rename_i few;let(rfl,ok,can,L,b):=ziz e;let L:=L.trans O.w;show⟨.neg (zti f) i O.ok O.w few ok can L λrow D=>zqo b row D,ok,can,L⟩
 .cases e
theorem zkt{n:Str}{s:Sy}{tl:List Str}{o:Option Mc}(h:∀a,o=G a->MOr s (tl++[n]) a/\Hld (tl++[n]) a){M:Mc}(e:mkSome tl.length o=G M):MOr (.qu "some" n s) tl M/\Hld tl M:=by
 cases o with
 |none=>cases e
 |some a =>
 let(i,O):=h a rfl;simp only[mkSome,zoq]at e;split at e
 .rename_i few;let(rfl,ok,can,L,b):=ziz e;show⟨.some i O.ok (by rw[O.w,y0e];rfl) few (zh8 b).2.1 ok can L (zh8 b).2.2,ok,can,L⟩
 .cases e
theorem zh1:∀(s:Sy) (tl:List Str) {M:Mc},mkC s tl=G M->MOr s tl M/\Hld tl M
 |.bare wd n m,tl,M,e=>by
  unfold mkC at e;split at e
  .rename_i c;simp only[y07,decide_eq_true_eq]at c;let(((f,I),j),L):=c;rw[fndB,zoq]at e;let(rfl,ok,can,Y,b):=ziz e;show⟨.bare (zti f) I j L ⟨ok,can,Y,λrow D=>zm2 b row D⟩,ok,can,Y⟩
  .cases e
 |.neg s,tl,M,e=>by
  unfold mkC at e;split at e
  .rename_i f;show ziy f (λa d=>zh1 s tl d) e
  .cases e
 |.two w s t,tl,M,e=>by
  unfold mkC at e;let J:∀(o:Bool),mkTwo o (mkC s tl) (mkC t tl)=G M->(∃a b,MOr s tl a/\MOr t tl b/\Hld tl a/\Hld tl b/\a.n*b.n<=100/\(if o then chkJoin a b M else chkMet a b M)=N)/\Hld tl M:=λo e=>by
   let y:=λa=>@zh1 s tl a;let p:=λa=>@zh1 t tl a;generalize mkC s tl=H at e y;generalize mkC t tl=v at e p
   match H,v,e with
   |some a,G b,e =>
    let(i,O):=y a rfl;let(m2,g):=p b rfl;simp only[mkTwo,zoq]at e;split at e
    .rename_i few;let(rfl,ok,can,L,b):=ziz e;show⟨⟨_,_,i,m2,O,g,few,b⟩,ok,can,L.trans O.w⟩
    .cases e
  split at e
  .rename_i L;subst L;let((a,b,i,m2,O,g,few,c),h):=J _ e;show⟨.and i m2 O.ok g.ok O.w g.w few h.ok h.can h.w λrow D=>zuo c row D,h⟩
  .split at e
   .rename_i L;subst L;let((a,b,i,m2,O,g,few,c),h):=J _ e;show⟨.or i m2 O.ok g.ok O.w g.w few h.ok h.can h.w λrow D=>zqp c row D,h⟩
   .cases e
 |.qu w n s,tl,M,e=>by
  unfold mkC at e;split at e
  .rename_i L;subst L;show zkt (λa d=>zh1 s _ d) e
  .split at e
   .rename_i L;subst L;split at e
    .rename_i f;let(f1,q):=y3g.mp f;let z:=ziy (s:=.qu "some" n<|.neg s) f1 (λa d=>zkt (λb U=>ziy q (λc C=>zh1 s _ C) U) d) e;show⟨.all z.1,z.2⟩
    .cases e
   .cases e
def inXx:Sy:=.bare "in" "x" "X"
def say67:List (Str×List Str×Sy):=[
 ("some x x in X",["X"],.qu "some" "x" inXx),
 ("all x (not x in X or some y (x ahead y and y in Y))",["X","Y"],.qu "all" "x"<|.two "or" (.neg inXx) (.qu "some" "y"<|.two "and" (.bare "ahead" "x" "y") (.bare "in" "y" "Y"))),
 ("x ahead y",["x","y"],.bare "ahead" "x" "y"),
 ("some x (x in X and not some y y ahead x)",["X"],.qu "some" "x"<|.two "and" inXx (.neg<|.qu "some" "y" (.bare "ahead" "y" "x"))),
 ("all x all y (x same y or not x in X)",["X"],.qu "all" "x"<|.qu "all" "y" (.two "or" (.bare "same" "x" "y")<|.neg inXx)),
 ("(X within Y or Y within X)",["X","Y"],.two "or" (.bare "within" "X" "Y")<|.bare "within" "Y" "X")]
theorem zvo:∀p∈say67,(mkC p.2.2 p.2.1).isSome=N/\mcost p.2.2<=16:=by decide+kernel
theorem zvn:∀p∈say67,p.1.length<=5000/\wordsT p.1=toksS p.2.2/\wdB p.2.2=N/\wfB p.2.2=N/\p.2.2.depth<=12/\p.2.2.parts<=60/\p.2.1.length<=4/\(∀z∈p.2.1,z.length<=4)/\frameB (p.2.1.map V.str)=N/\letB treeWords 4 p.2.1 p.2.2=N:=by decide+kernel
def zq4(Y:Ad)(c:Y3)(j:Ad)(e:Y3)(L:Ad)(f:Y3)(d:Ad)(a:Y3)(g:Ad)(qd:Y3)(z:Ad)(i:Y3):Sp:=λvs H Q _=>∃x:Int,vs=[.int x]/\TabJ H Y c j e L f d a g qd/\TabOk H z i/\∀p M H',Same H H'->RepM H' p M->M.Ok->Q 22 H'
end SM
namespace L2
open PySem PySem.Spec PyProof.Rows PySem.W PySem.Calls
section
variable {X:Cx}{a b e:Expr}{es rest:List Expr}{ta tb te:TE}{tA tB':TT}{tu:TA}{pos:Pos}
theorem peU_opR{o:Operator}{r:R2}(D:OpR X (iQ o) r)(d:PE X a ta)(U:PEU X b tb):PEU X (.BinOp a o b pos) (tOp r ta tb):=λpins s σ H Q I L =>
 wpAny_BinOp (thn (d pins s σ H _ I L) λv s1 zz=>ex5 zz λx H1 I1 r1 A=>thn (U pins s1 σ H1 _ I1 A) λu s2 ⟨c,y,H2,l,E,w⟩=>upT c<|D pins s2 σ H2 x y v u Q l r1 E w)
theorem zr7{n k:Nat}{x:Str}{ps:List Str}{sp:Sp}{p:Pos}(C:CalT X.prog X.w X.K X.mg X.base n x ps sp)(D:Room k X.A)(v:n<=k)(j:Gl X x)(d:PAU X (e::es) tu)(w:012=Fa:=by decide)
  (O:notStar e=N:=by rfl) (M:es.all notStar=N:=by rfl):PE X 029 (tCall sp [] E0 tu):=λpins s σ H Q I L=>by
 let(f,fd,F,b,kp,m):=C.ex;apply iE<|zcv I j m ?_ w;apply PySem.W.callWith_K (h₀:=X.base) I.ok.mod.kin kp (thn (d pos pins s σ H _ I L) λus s1 ⟨i,vs,H1,I1,r,q⟩=>⟨I1.kIn,?_⟩) (zap O)<|zbb M;let E:Vals (vs++[]) (us++[]):=r.append .nil;let Y:(us++[]).length=ps.length:=by rw[←E.length];show F.len _ _ _ _ q
 apply ji<|iH (F.run X.A X.stack s1 H1 025 (us++[]) (vs++[]) Q E0 i (D.mono v) I1.env0 (b s1 us I1.kIn Y) E q) λres s' z=>?_;cases res with
 |error _=>show z.elim
 |ok g =>
  cases g with
  |ret _=>show I1.after z
  |next=>show z.elim
  |brk=>show z.elim
  |cont=>show z.elim
end
end L2
namespace SM
open PySem PySem.Spec PyProof.Rows L2 SS
def CtsAt(m:Mc)(L:Nat)(H:Hp)(c:Ad):Prop:=∃d,H c=G (.lst d)/\i8 (CntL m H) d (List.range<|L+1)
theorem CtsAt.same{m:Mc}{L:Nat}{H H':Hp}{c:Ad}(h:CtsAt m L H c)(g:Same H H'):CtsAt m L H' c:=let⟨d,e,p⟩:=h;⟨d,g _ _ e,L2.Paired.mapP p λ_ _ z=>z.same g⟩
def zhk:Sp:=λvs H Q _=>∃(a:Ad) (m:Mc) (L:Nat),vs=[.ref a,nV L]/\RepM H a m/\m.Ok/\L<=100/\FromQ m L H Q
def zf5:Sp:=λvs H Q _=>∃(a c b:Ad) (m:Mc) (L:Nat) (row:List Nat),vs=[.ref a,.ref c,.ref b]/\RepM H a m/\m.Ok/\CtsAt m L H c/\H b=G (.lst<|row.map nV)/\(∀l∈row,l<2^m.w)/\row.length<=L/\L<=100/\∀t H',Same H H'->H' t=G (.tup [nV<|num m 0 row,.bl<|m.fin 032])->Q (.ref t) H'
def zj1:Sp:=λvs H Q _=>∃(a:Ad) (m:Mc) (L:Nat),vs=[.ref a,nV L,nV<|cnt m L 0]/\RepM H a m/\m.Ok/\L<=100/\∀H',Same H H'->Q (.bl N) H'
def zj0:Sp:=λvs H Q _=>∃(a c b:Ad) (m:Mc) (L n:Nat) (row:List Nat),vs=[.ref a,.ref c,.ref b,nV L,nV n]/\RepM H a m/\m.Ok/\CtsAt m L H c/\H b=G (.lst<|row.map nV)/\Nth m L n row/\L<=100/\∀H',Same H H'->Q (.bl N) H'
def znp:Sp:=λvs H Q _=>∃(a c b:Ad) (m:Mc) (L:Nat) (row:List Nat),vs=[.ref a,.ref c,.ref b]/\RepM H a m/\m.Ok/\CtsAt m L H c/\H b=G (.lst<|row.map nV)/\(∀l∈row,l<2^m.w)/\row.length<=L/\L<=100/\∀H',Same H H'->Q (.bl N) H'
def sp_lright:Sp:=λvs H Q _=>∃(a:Ad) (m:Mc) (x:Int),vs=[.ref a,.int x]/\RepM H a m/\m.Ok/\∀H',Same H H'->Q (.bl N) H'
theorem rc_nb{X:Cx}{H:Hp}{a b:Ad}{n:Nat}{t:Bool}{k:Nat}(d:H a=G (.tup [nV n,.bl t]))(U:H b=G (.tup [nV n,.bl t])):RcOk X (k+1) H 04 49 N:=by
 let r:=zrp (X:=X) (k:=k) (.of d) (.of U) (λ_=>N) λj O M=>by
  let u:j=0\/j=1:=by simp only[y0j,y1e]at O;omega
  rcases u with rfl|rfl
  .let z:=zgs (X:=X) (k:=k) (H:=H) (x:=V.int (n:Int)) (y:=V.int (n:Int)) R rfl;rw[show eqV (V.int (n:Int)) (V.int (n:Int))=N by simp[eqV]]at z;show z
  .let z:=zgs (X:=X) (k:=k) (H:=H) (x:=V.bl t) (y:=V.bl t) R rfl;rw[show eqV (V.bl t) (V.bl t)=N by simp[eqV]]at z;show z
 show r
theorem zxj{D:Type}(xs:List D):cutL xs (G<|-1) B=xs.drop (xs.length-1):=by
 unfold cutL;rw[show HT.sIx xs.length 0 (G<|-1)=xs.length-1 by unfold HT.sIx;dsimp only;rw[Xq 07];omega,HT.sIx_none,y0l<|by rw[y1h];omega]
theorem zoz{D:Type}(xs:List D):cutL xs B (G<|-1)=xs.take (xs.length-1):=by
 unfold cutL;rw[show HT.sIx xs.length xs.length (G<|-1)=xs.length-1 by unfold HT.sIx;dsimp only;rw[Xq 07];omega,HT.sIx_none,y40];rfl
end SM
namespace L2
open PySem
theorem fitS{n:Nat}{P:List Va->Prop}(h:∀a us,us.length=n->P (a::us)):∀us:List Va,us.length=n+1->P us
 |a::us,e=>h a us<|Nat.succ.inj e
theorem fit0{P:List Va->Prop}(h:P []):∀us:List Va,us.length=0->P us
 |[],_=>h
theorem fit1{P:List Va->Prop}(h:∀a,P [a]):∀us:List Va,us.length=1->P us:=fitS λa=>fit0<|h a
theorem fit2{P:List Va->Prop}(h:∀a b,P [a,b]):∀us:List Va,us.length=2->P us:=fitS λa=>fit1<|h a
theorem fit3{P:List Va->Prop}(h:∀a b c,P [a,b,c]):∀us:List Va,us.length=3->P us:=fitS λa=>fit2<|h a
theorem fit4{P:List Va->Prop}(h:∀a b c d,P [a,b,c,d]):∀us:List Va,us.length=4->P us:=fitS λa=>fit3<|h a
theorem fit5{P:List Va->Prop}(h:∀a b c d e,P [a,b,c,d,e]):∀us:List Va,us.length=5->P us:=fitS λa=>fit4<|h a
theorem fit6{P:List Va->Prop}(h:∀a b c d e f,P [a,b,c,d,e,f]):∀us:List Va,us.length=6->P us:=fitS λa=>fit5<|h a
end L2
namespace K67
open PySem PySem.Spec PyProof.Rows L2 SS SM
local macro_rules| `(tactic|trivial)=>`(tactic|((try dsimp only[tIfZ,tIfY,tIfX,tSeqZ,tCutZ,asI_l,asR_l,asS_l,asB_l,as1_l,zl9,zl8,zl7,zl6,zrr,rLenZ,rListOfZ,rAllZ,rInZ,rSlLZ,rSlTZ,rAppZ,rCatZ,rLeSZ,tReplace,tListRev,rSplit,rJoin,rPop,rMulS,rNeS2,rEqI,rNeI,rInDc,rLenD,rLenT,rDictOf,rMaxL,rIndex,rCatTN,rCatTE,tDNewN,tDNewTN,tDisp1T,rNeM,rRange2,rListRng,rRepN,rPopAt,rSetL,gSub,ipI,tDGet,tDGet2,sDPut,iEnum,iEZ,iZipL,tLam,tCallA,tCallV,tDef,tListZip,rIskT,rIndexT,tCallG,gLst,rSortS,rSortF,tCallVLE,tCallVE,iRev,tTry,tRaise,tTryA,rIsX,rIsXT,rRepT,iRng3,tTryN,tTryX,rLeL,rNotInD,iZip,rInD,rIxD,rLen,rAll,rAny,rSum,rListOf,rEqS,rNeS,rSlTN,rStrB,tTupN,tLstN,rSlLN,rCatN,cxK,cxP,cxW,tSeq,tIfS,tTest,tB,tOp,tUn,tC,tAnd,tOr,tNot,tAndV,tOrV,tNotV,tIf,tNext,tBreak,tCont,tDrop,tRet,tRetN,gName,gNil,gCons,gTup,tAsg,tPar,tAug,rI,rI0,rU,rEq,rNe,tChain,tNil,tCons,tTup,tLst,tCall,tCB,tNoPart,tPart,tSl,rSlT,rSlL,rSlS,rIxL,rIxT,rIxS,rIn,tBM0,tBM,tyV,rAppend,rExtend,rCat,rZfill,rEqD,iList,iTup,iStr,iRng1,iRng2,tYes,tDisp,tPairs,rd_v0,rd_vS,zro,zx0,znz,zn0,List.set_cons_zero,List.set_cons_succ,y2m,y1u,rd_ss,rd_si,rd_is,rd_ii,rd_bb]);(try simp only[tIfZ,tIfY,tIfX,tSeqZ,tCutZ,asI_l,asR_l,asS_l,asB_l,as1_l,zl9,zl8,zl7,zl6,zrr,rLenZ,rListOfZ,rAllZ,rInZ,rSlLZ,rSlTZ,rAppZ,rCatZ,rLeSZ,tReplace,tListRev,rSplit,rJoin,rPop,rMulS,rNeS2,exists_eq',rEqI,rNeI,rInDc,rLenD,rLenT,rDictOf,rMaxL,rIndex,rCatTN,rCatTE,tDNewN,tDNewTN,tDisp1T,rNeM,rRange2,rListRng,rRepN,rPopAt,rSetL,gSub,ipI,tDGet,tDGet2,sDPut,iEnum,iEZ,iZipL,tLam,tCallA,tCallV,tDef,tListZip,rIskT,rIndexT,tCallG,gLst,rSortS,rSortF,tCallVLE,tCallVE,iRev,tTry,tRaise,tTryA,rIsX,rIsXT,rRepT,iRng3,tTryN,tTryX,rLeL,rNotInD,iZip,rInD,rIxD,rLen,rAll,rAny,rSum,rListOf,rEqS,rNeS,rSlTN,rStrB,tTupN,tLstN,rSlLN,rCatN,cxK,cxP,cxW,tSeq,tIfS,tTest,tB,tOp,tUn,tC,tAnd,tOr,tNot,tAndV,tOrV,tNotV,tIf,tNext,tBreak,tCont,tDrop,tRet,tRetN,gName,gNil,gCons,gTup,tAsg,tPar,tAug,rI,rI0,rU,rEq,rNe,tChain,tNil,tCons,tTup,tLst,tCall,tCB,tNoPart,tPart,tSl,rSlT,rSlL,rSlS,rIxL,rIxT,rIxS,rIn,tBM0,tBM,tyV,rAppend,rExtend,rCat,rZfill,rEqD,iList,iTup,iStr,iRng1,iRng2,tYes,tDisp,tPairs,rd_v0,rd_vS,zro,zx0,znz,zn0,List.set_cons_zero,List.set_cons_succ,y2m,y1u,y1g,V.int.injEq,V.str.injEq,V.bl.injEq,V.ref.injEq,V.ty.injEq,List.cons.injEq,and_true,true_and,exists_eq_left,exists_eq_left',exists_and_left,exists_eq,exists_const,if_true,if_false,ite_true,ite_false,rd_ss,rd_si,rd_is,rd_ii,rd_bb,Option.some.injEq,exists_eq_right,exists_eq_right',and_assoc,reduceCtorEq,false_and,and_false,false_or,or_false,exists_false])))
noncomputable def top(i:Nat):Stmt:=PySem.Challenge.pw_setsays_k67_whole_counted.main.body.getD i<|.Pass ⟨0,0,0,0⟩
structure Txt(K:Frag)(mg:Y1)(w:World)(tw rw fa cj ca ce co cn cNoNumber cNoRow:Ad):Prop where
 b_isinstance:mg "isinstance"=B
 b_str:mg "str"=B
 b_tuple:mg "tuple"=B
 b_list:mg "list"=B
 b_int:mg "int"=B
 b_bool:mg "bool"=B
 b_dict:mg "dict"=B
 b_set:mg "set"=B
 b_len:mg "len"=B
 b_any:mg "any"=B
 b_sorted:mg "sorted"=B
 b_ValueError:mg "ValueError"=B
 b_min:mg "min"=B
 b_all:mg "all"=B
 b_sum:mg "sum"=B
 b_max:mg "max"=B
 b_range:mg "range"=B
 b_zip:mg "zip"=B
 b_enumerate:mg "enumerate"=B
 b_reversed:mg "reversed"=B
 g_LONGEST:GlV mg "LONGEST"<|.int 100
 m_NoRow:mg "NoRow"=G (.ref cNoRow)
 k_NoRow:KSup K cNoRow
 msR:PySem.W.mroIn K cNoRow (.ref cNoRow)=G N
 x_NoRow:PySem.W.excIn K cNoRow veM "ValueError.__new__"=N
 m_NoNumber:mg "NoNumber"=G (.ref cNoNumber)
 k_NoNumber:KSup K cNoNumber
 ms:PySem.W.mroIn K cNoNumber (.ref cNoNumber)=G N
 x_NoNumber:PySem.W.excIn K cNoNumber veM "ValueError.__new__"=N
 g_MOST_COME_TO:GlV mg "MOST_COME_TO"<|.int 100
 g_FIGURES:GlV mg "FIGURES"<|.str FIGS
 g_LONGEST_NAME:GlV mg "LONGEST_NAME"<|.int 4
 g_SMALL_LETTERS:GlV mg "SMALL_LETTERS"<|.str SMALL
 g_GREAT_LETTERS:GlV mg "GREAT_LETTERS"<|.str GREAT
 g_MOST_NAMES:GlV mg "MOST_NAMES"<|.int 4
 g_DEEPEST:GlV mg "DEEPEST"<|.int 12
 g_MOST_PARTS:GlV mg "MOST_PARTS"<|.int 60
 g_TELLING_WORDS:GlV mg "TELLING_WORDS"<|.ref tw
 t_TELLING_WORDS:∀H,SqT K H tw [.str "some",.str "all"]
 g_TREE_WORDS:GlV mg "TREE_WORDS"<|.ref rw
 t_TREE_WORDS:∀H,SqT K H rw [.str "left",.str "right",.str "above"]
 g_FORMS:GlV mg "FORMS"<|.ref fa
 f_FORMS:Forms K w fa
 g_JUST_ONCE:GlV mg "JUST_ONCE"<|.ref cj
 c_JUST_ONCE:CMach K cj justM
 g_ANY_ROW:GlV mg "ANY_ROW"<|.ref ca
 c_ANY_ROW:CMach K ca anyM
 g_EACH_IN:GlV mg "EACH_IN"<|.ref ce
 c_EACH_IN:CMach K ce eachM
 g_COMES_AHEAD:GlV mg "COMES_AHEAD"<|.ref co
 c_COMES_AHEAD:CMach K co aheadM
 g_COMES_NEXT:GlV mg "COMES_NEXT"<|.ref cn
 c_COMES_NEXT:CMach K cn nextM
seal PE PT PW PA PS PSs
section
variable {P:ik}{w:World}{K:Frag}{mg:Y1}{base:Heap}{tw rw fa cj ca ce co cn cNoNumber cNoRow:Ad}
abbrev Vw:Stmt:=top 12
theorem Qm:FnScope ["machine","rooms","known","at","here","room"] ["machine"] (defScope Vw):={}
variable (T:Txt K mg w tw rw fa cj ca ce co cn cNoNumber cNoRow)
include T in
theorem zpy(d:Dfn K mg "reached" Vw ["machine"]):03 1 "reached" ["machine"] zhi:=by
 apply d.cal Qm 23 47
 .nofun
 let(a,m,rfl,(b,c,rs,ea,eb,pr,ec),ok,q):=h;let U:=zi5 hr 8 07;let cf:=za6 ok.wid;let hf:m.n<=100:=ok.few;let at1:atI [nV m.w,V.ref b,V.ref c] 1=G (V.ref b):=zaf (j:=1) rfl;apply⟨_,(zab (zal (i:=1) Qm.nd R 09<|za1 (pa_c zad zaa))<|zab (zal (i:=2) Qm.nd R 09<|pe_disp (zv0 zad zch zzg) R R 05 07) (zab (zal (i:=3) Qm.nd R 09 zad)<|zab (zdj PassesOwn.never (zaq zkn (pv 3) 070 66)<|zab (zal (i:=4) Qm.nd R 09<|zam (zav K) (pv 1) (pv 3) (λ_ _=>rfl)) (zab (zbz PassesOwn.never R (zbd K<|zam 19 (zam 19 (pv 0) zad λ_ _=>rfl) (pv 4) (λ_ _=>rfl)) (zaj (i:=5) Qm.nd 00 38)<|zac (za3 (zaq (zdl U) (pv 5) (pv 2)<|by with_unfolding_all rfl) (zab (zfr U (pv 2) (pv 5) zch R)<|zac (zbk<|zcc K PySem.F.plainAttrs_list PySem.F.slot_list_append PySem.F.type_list_append zbf (pv 1) (pa_c (pv 5) zaa))) zan))<|zac (zn3 (i:=3) Qm.nd R 09 zad ztf))) (zac<|zai (pv 1)))),?_⟩;apply zaw [G 04,B,B,B,B,B] R ?_;trivial;apply⟨by decide,λp H1 u kd nkd=>⟨zao,[((Sum.inl 0:Key),V.bl N)],R,by decide,?_⟩⟩;let npk:p≠kd:=zax u.at' nkd;apply⟨λmm σ H'=>∃(rooms:List Nat) (at':Nat) (v4 v5:Option V),mm=m.n-at'/\Same H H'/\σ=[G 04,G 22,G<|.ref kd,G<|nV at',v4,v5]/\H' p=G (.lst<|rooms.map nV)/\H' kd=G (.dK<|knT rooms)/\Come m rooms at' 0/\at'<=rooms.length,
  ⟨m.n,[0],0,B,B,R,?_,R,?_,?_,Come.start ok.pos,y13 _⟩,?_⟩
 .exact((u.g.trans<|za0 nkd _).wr (u.g.free nkd) _)
 .rw[zak npk,zak npk];show u.at'
 .rw[zao];rfl
 rintro mm σ H' ⟨rooms,at',v4,v5,rfl,g,rfl,ep,ek,cm,ha⟩;let hrl:rooms.length<=m.n:=zdm cm.nd cm.lt;trivial;apply⟨_,.inl<|.of ep,?_⟩;rw[y01];by_cases o:at'<rooms.length
 .refine itT (show(at':Int)<(rooms.length:Int) by omega) ⟨λa0 ae=>∃O,O<m.n-at'/\_,λa0 ae z=>z,?_⟩;ac_rfl;let gb:=cm.lt _<|zej o;let atr:(rooms.map nV)[at']?=G (nV<|ix rooms at'):=by rw[y03,zcw o];rfl
  let I:ix rooms at'<m.ways.length:=by rw[ok.len];show gb
  let(v,ev,a2,rfl,e4):=Paired.at2 pr<|y00 I;let D:=ok.line _<|y0c I;apply zk ?_;apply⟨_,.of ep,_,zaf atr,_,.of<|g _ _ ea,_,at1,_,.of<|g _ _ eb,_,zaf ev,⟨_,.of<|g _ _ e4⟩,?_⟩;apply zot (K:=K) (a:=a2) (xs:=m.ways[ix rooms at'].map nV) (λl σ ae=>Same H ae/\∃(x:List Nat) (v5:Option V),σ=[G 04,G 22,G<|.ref kd,G<|nV at',G<|nV (ix rooms at'),v5]/\ae p=G (.lst<|x.map nV)/\ae kd=G (.dK<|knT x)/\Come m x at' l/\at'<x.length/\ix x at'=ix rooms at')
   ⟨g,rooms,_,R,ep,ek,cm,o,R⟩ (λi σ ae _ z=>.of<|z.1 _ _ e4) ?_ ?_
  .rintro l y σ ae C ⟨J,x,v5',rfl,cy,L,f8,ol,ei⟩;rw[y03]at C;ac_rfl;let(r,er,rfl):=y0z.mp C;let Y:l<2^m.w:=by rw[←D];show(y0f.mp er).1
   let(line,f1,f2,M):=ok.at gb Y;let egl:r=m.go (ix x at') l:=by
    rw[y00 I]at f1;cases f1;rw[er]at f2;rw[ei];show Option.some.inj f2
   let hrl2:x.length<=m.n:=zdm f8.nd f8.lt;let nn:p≠kd:=zsx cy L (by intro z;cases z);apply zk ?_;trivial;apply⟨_,DGet.n L,?_⟩;rw[zmu];by_cases hm:r∈x
   .rw[Xq hm];apply iteF ⟨J,x,cy,L,?_,ol,ei⟩;show f8.old ol (by rw[←egl];show hm)
   .rw[Xp hm];let hnk:H kd=B:=u.g.free nkd;apply iteT ⟨_,DPut.n L (by rw[knT_len];show small1000 01),.inl ⟨_,.of<|by rw[zak nn];show cy⟩,_,by rw[zak nn];show cy,by rw[y01];show small1000 01,?_⟩;apply⟨(J.wr hnk _).wr u.nil _,x++[r],?_,?_,?_,by rw[y0e,y0s];omega,by rw[zyf ol];show ei⟩
    .rw[zao,y0u];rfl
    .rw[zak<|Ne.symm nn,zao,knT_put hm]
    .let z:=f8.new ol Y (by rw[ei];show M) (by rw[←egl];show hm);rw[←egl]at z;show z
  .rintro σ ae ⟨J,x,v5',rfl,cy,L,f8,ol,ei⟩;rw[y01,D]at f8;let hrl2:x.length<=m.n:=zdm f8.nd f8.lt;trivial;show⟨_,R,_,R,m.n-(at'+1),by omega,x,at'+1,R,J,R,cy,L,f8.turn,by omega⟩
 .rw[Xf<|show¬(at':Int)<(rooms.length:Int) by omega];let e:at'=rooms.length:=by omega
  subst e;apply iteF ?_;show q p rooms H' u.nil g ep cm
abbrev Kh:Stmt:=top 13
theorem zex:FnScope ["rooms","numbers"] ["rooms","numbers"] (defScope Kh):={}
include T in
theorem zpw(d:Dfn K mg "renamed" Kh ["rooms","numbers"]):03 1 "renamed" ["rooms","numbers"] zet:=by
 apply d.cal zex 23 47
 .nofun
 let(a,b,l,g,rfl,c,e,lk,q):=h;let U:=zi5 hr 8 07;rcases lk with⟨kvs,O,hv⟩|⟨ns,O,hv⟩
 .refine⟨_,(zac<|zai (zbo zas 00 T.b_tuple iK<|pa_c (zau ["room"] [(1,"numbers")] 74 00 (zbd K<|pv 0) (λ_ _ _ _ _=>(zaj (i:=0) (show List.Nodup (["room","numbers"]:List Str) by decide+kernel) 00 38)) (λ_ _ _ _ _=>za2) λ_ _ _ _ _=>(zft U (pv 1) (pv 0) λ_ _=>rfl)) zaa)),?_⟩;apply zaw [G 04,G 49] R ?_;trivial;apply⟨⟨_,.of c⟩,zcl (K:=K) (a:=a) (xs:=l.map nV) (λσ=>∃v,σ=[v,G 49]) (λy=>match y with|.int z=>nV (g z.toNat)|v=>v) (by rw[y01];omega) (.of c) ⟨_,R⟩ ?_ ?_⟩
  .rintro D i σ H' x hi Y J M u I ⟨v,rfl⟩;let(r,L,rfl):=y0h.mp Y;let z:=DGet.n (n:=(r:Int))<|M _ _ O;rw[hv r L]at z;trivial;show⟨_,z,zbi (by rw[y01];omega) J u I M ⟨_,R⟩ R⟩
  intro D H1 u g1 C;let p:H1 D=G (.lst<|(l.map g).map nV):=by rw[C,y0o,y0o];rfl
  show⟨_,R,_,.inl ⟨.of p,λt H2 o=>q t H2 (g1.trans o.g) o.at'⟩⟩
 .refine⟨_,(zac<|zai (zbo zas 00 T.b_tuple iK<|pa_c (zau ["room"] [(1,"numbers")] 74 00 (zbd K<|pv 0) (λ_ _ _ _ _=>(zaj (i:=0) (show List.Nodup (["room","numbers"]:List Str) by decide+kernel) 00 38)) (λ_ _ _ _ _=>za2) λ_ _ _ _ _=>(zam (zav K) (pv 1) (pv 0) λ_ _=>rfl)) zaa)),?_⟩;apply zaw [G 04,G 49] R ?_;trivial;apply⟨⟨_,.of c⟩,zcl (K:=K) (a:=a) (xs:=l.map nV) (λσ=>∃v,σ=[v,G 49]) (λy=>match y with|.int z=>nV (g z.toNat)|v=>v) (by rw[y01];omega) (.of c) ⟨_,R⟩ ?_ ?_⟩
  .rintro D i σ H' x hi Y J M u I ⟨v,rfl⟩;let(r,L,rfl):=y0h.mp Y;let z:atI (ns.map nV) (r:Int)=G (nV<|g r):=zaf (by rw[y03,hv r L];rfl);trivial;show⟨_,.of<|M _ _ O,_,z,zbi (by rw[y01];omega) J u I M ⟨_,R⟩ R⟩
  intro D H1 u g1 C;let p:H1 D=G (.lst<|(l.map g).map nV):=by rw[C,y0o,y0o];rfl
  show⟨_,R,_,.inl ⟨.of p,λt H2 o=>q t H2 (g1.trans o.g) o.at'⟩⟩
abbrev Tq:Stmt:=top 14
theorem Vy:FnScope ["machine","rooms","numbers","ways","ends"] ["machine","rooms","numbers"] (defScope Tq):={}
include T in
theorem zsi(d:Dfn K mg "picked" Tq ["machine","rooms","numbers"])(Qr:03 1 "renamed" ["rooms","numbers"] zet):03 2 "picked" ["machine","rooms","numbers"] zjw:=by
 apply d.cal Vy 23 47
 .nofun
 let(a,b,c,m,rooms,g,rfl,(b1,c1,rs,ea,au,pr,cg),ok,O,be,hr',lk,q):=h;let cf:=za6 ok.wid;apply⟨_,(zab (ze0 (i:=3) Vy.nd R 09 ["room"] [(2,"numbers"),(0,"machine")] 74 00 (zba K<|pv 1) (λ_ _ _ _ _=>(zaj (i:=0) (show List.Nodup (["room","numbers","machine"]:List Str) by decide+kernel) 00 38)) (λ_ _ _ _ _=>za2) λ_ _ _ _ _=>(zae Qr hr 01 00<|pa_c (zam 19 (zam 19 (pv 2) zad λ_ _=>rfl) (pv 0) λ_ _=>rfl) 019))<|zab (ze0 (i:=4) Vy.nd R 09 ["room"] [(0,"machine")] 74 00 (zba K<|pv 1) (λ_ _ _ _ _=>(zaj (i:=0) (show List.Nodup (["room","machine"]:List Str) by decide+kernel) 00 38)) (λ_ _ _ _ _=>za2) λ_ _ _ _ _=>(zam 19 (zam 19 (pv 1) zad λ_ _=>rfl) (pv 0) λ_ _=>rfl)) (zac<|zai (za4<|pa_c (zam 19 (pv 0) zad λ_ _=>rfl) (pa_c (zbo zas 00 T.b_tuple iK<|pa_c (pv 3) zaa)<|pa_c (zbo zas 00 T.b_tuple iK<|pa_c (pv 4) zaa) zaa)))),?_⟩;apply zaw [G 04,G 49,G<|.ref c,B,B] R ?_;trivial;let wat:∀{i:Nat},i<rooms.length->∃a2,rs[ix rooms i]?=G (.ref a2)/\H a2=G (.tup<|(m.ways.getD (ix rooms i) []).map nV)/\(m.ways.getD (ix rooms i) []).length<=16:=λ{i} hi=>by
  ac_rfl;let ak:ix rooms i<m.ways.length:=by rw[ok.len];show hr' _<|zej hi
  let(v2,o,a2,rfl,e4):=Paired.at2 pr<|y00 ak;let eg:m.ways.getD (ix rooms i) []=m.ways[ix rooms i]:=by rw[y02,y00 ak];rfl
  apply zk ?_;rw[eg];apply⟨a2,o,e4,?_⟩;rw[ok.line _<|y0c ak];omega
 apply⟨⟨_,.of O⟩,zg9 (n:=rooms.length) (λσ=>∃v,σ=[v,G<|.ref c,G 04]) (λj y H=>Line H y<|(m.ways.getD (ix rooms j) []).map g) 01 ⟨_,R⟩ (λi H' hi M=>⟨_,nV<|ix rooms i,.of<|M _ _ O,by rw[y03,zcw hi];rfl⟩) (λH' M=>⟨_,.of<|M _ _ O,by rw[y01];show y05 _⟩) ?_ ?_⟩
 .rintro D i ys σ H1 x H1' hi M u I Y C ⟨v,rfl⟩ ⟨rfl,yx⟩;let ex:=yx _<|.of (M _ _ O);rw[y03,zcw hi]at ex;cases ex;ac_rfl;let(a2,o,e4,h16):=wat hi;apply zk ?_;trivial;show⟨_,.of<|M _ _ ea,_,zaf (j:=1) R,ixm (.of<|M _ _ au) (zaf o) ⟨a2,c,_,g,R,M _ _ e4,h16,(lk _ (zej hi)).same M,λp H2 g2 e2=>zcf (λj y H H' ts z=>z.ts ts) 01 hi u (g2 _ _ I) Y C g2.tups (M.trans g2) ⟨_,R⟩ ⟨p,R,e2⟩⟩⟩
 intro D1 ys H1 gd g1 eD1 db hy1;trivial;apply⟨⟨_,.of<|g1 _ _ O⟩,zm0 (K:=K) (a:=b) (xs:=rooms.map nV) (λσ=>∃v,σ=[v,G 04]) (λy=>match y with|.int z=>.bl (m.fin z.toNat)|v=>v) (by rw[y01];omega) (.of<|g1 _ _ O) ⟨_,R⟩ ?_ ?_⟩
 .rintro D i σ H' x hi hm J M u I ⟨v,rfl⟩;let(r,mr,rfl):=y0h.mp hm;let at3:(m.ends.map V.bl)[r]?=G (.bl<|m.fin r):=by rw[y03,Mc.fin_at<|hr' r mr];rfl
  trivial;show⟨_,.of<|(g1.trans M) _ _ ea,_,zaf (j:=2) R,ixm (.of<|(g1.trans M) _ _ cg) (zaf at3)<|zbi (by rw[y01];omega) J u I M ⟨_,R⟩ R⟩
 intro D2 H2 cz g2 br;let eD2':H2 D2=G (.lst<|(rooms.map m.fin).map V.bl):=by rw[br,y0o,y0o];rfl
 let ao:=g1.trans g2;trivial;apply⟨_,.of<|ao _ _ ea,_,zb1,_,.inl ⟨.of<|g2 _ _ eD1,λt1 H3 e=>⟨_,.inl ⟨.of<|e.g _ _ eD2',λt2 H4 n4=>mkT λt3 H5 n5=>?_⟩⟩⟩⟩;let g25:Same H2 H5:=e.g.trans<|n4.g.trans n5.g;apply q t3 H5 (ao.trans g25) ⟨t1,t2,ys,n5.at',(n4.g.trans n5.g) _ _ e.at',zb0 (by rw[db];show(y01 _).symm) λj y l L e2=>?_,n5.g _ _ n4.at'⟩;let U:j<rooms.length:=by rw[←db];show(y0f.mp L).1
 let al:G ((m.ways.getD (ix rooms j) []).map g)=G l:=by rw[←e2];change _=(rooms.map λr=>(m.ways.getD r []).map g)[j]?;rw[y03,zcw U];rfl
 cases al;show(hy1 j y L).ts (g2.trans g25).tups
abbrev Vj:Stmt:=top 15
theorem Qw:FnScope ["marks","numbers","mark"] ["marks"] (defScope Vj):={}
include T in
theorem zmh(d:Dfn K mg "numbered" Vj ["marks"]):03 1 "numbered" ["marks"] zd0:=by
 apply d.cal Qw 23 47
 .rcases h with⟨a,bs,rfl,_⟩|⟨a,rs,ms,rfl,_⟩<;>rfl
 let U:=zi5 hr 8 07;rcases h with⟨a,bs,rfl,c,l,q⟩|⟨a,rs,ms,rfl,c,e,l,q⟩
 .refine⟨_,(zab (zal (i:=1) Qw.nd R (Or.inr R) zv5)<|zab (zbz PassesOwn.never R (zbd K<|pv 0) (zaj (i:=2) Qw.nd 00 38)<|zac (za3 (zaq (zdl U) (pv 2) (pv 1)<|by with_unfolding_all rfl) (zac<|zfr U (pv 1) (pv 2) (zay zqs 00 T.b_len iz 019) R) zan)) (zac<|zai (zau ["mark"] [(1,"numbers")] 74 00 (zbd K<|pv 0) (λ_ _ _ _ _=>(zaj (i:=0) (show List.Nodup (["mark","numbers"]:List Str) by decide+kernel) 00 38)) (λ_ _ _ _ _=>za2) λ_ _ _ _ _=>(zft U (pv 1) (pv 0) λ_ _=>rfl)))),?_⟩;apply zaw [G 04,B,B] R ?_;trivial
  applyλp H1 n1=>⟨⟨_,.of<|n1.g _ _ c⟩,zot (K:=K) (a:=a) (xs:=bs.map V.bl) (λi σ H'=>Same H H'/\(∃v2,σ=[G 04,G 22,v2])/\H' p=G (.dK<|tabF keyB 0 (news []<|bs.take i))) ⟨n1.g,⟨B,R⟩,n1.at'⟩ (λi σ H' _ z=>.of<|z.1 _ _ c) ?_ ?_⟩
  .rintro i y σ H' C ⟨g,⟨v2,rfl⟩,ep⟩;rw[y03]at C;let(x,ex,rfl):=y0z.mp C;let en:=zkr ex;let gf:=zfu (bs.take i) [];rw[y0w,y1e]at gf;trivial;apply⟨_,DGet.b ep,?_⟩;by_cases J:x∈news [] (bs.take i)
   .rw[show valV (tabF keyB 0<|news [] (bs.take i)) (.inl<|blI x)=_ from zer zfv J];show iteF ⟨g,by rw[en,zsv J];show ep⟩
   .rw[show valV (tabF keyB 0<|news [] (bs.take i)) (.inl<|blI x)=_ from zfl zfv J];apply iteT ⟨_,ep,_,DPut.b ep (by rw[zdh];show small1000 01),g.wr n1.nil _,?_⟩;rw[zao,en,zmm J];show congrArg (λz=>G<|HO.dK z)<|zie zfv J
  .rintro σ H' ⟨g,⟨v2,rfl⟩,ep⟩;rw[y01,y0l 08]at ep;trivial;apply⟨⟨_,.of<|g _ _ c⟩,zcl (K:=K) (a:=a) (xs:=bs.map V.bl) (λσ=>∃v,σ=[v,G 22]) (λy=>match y with|.bl x=>nV (nOf (news [] bs) x)|v=>v) (by rw[y01];omega) (.of<|g _ _ c) ⟨_,R⟩ ?_ ?_⟩
   .rintro D i σ H2 x hi Y J gg u I ⟨v,rfl⟩;let(r,L,rfl):=y0h.mp Y;let tv:valV (tabF keyB 0<|news [] bs) (.inl<|blI r)=_:=zer zfv<|(zb4 bs [] r).mpr (.inr L);let z:=DGet.b (b:=r)<|gg _ _ ep;rw[tv]at z;trivial;show⟨_,z,zbi (by rw[y01];omega) J u I gg ⟨_,R⟩ R⟩
   intro D H3 u o eD;show q D (bs.map<|nOf (news [] bs)) H3 (g.free u) (g.trans o) (by rw[eD,y0o,y0o];rfl)<|zx7 bs
 .let hlr:=SS.Paired.len e;apply⟨_,(zab (zal (i:=1) Qw.nd R (Or.inr R) zr2)<|zab (zbz PassesOwn.never R (zba K<|pv 0) (zaj (i:=2) Qw.nd 00 38)<|zac (za3 (zaq (zdl U) (pv 2) (pv 1)<|by with_unfolding_all rfl) (zac<|zfr U (pv 1) (pv 2) (zay zut 00 T.b_len iz 019) R) zan)) (zac<|zai (zau ["mark"] [(1,"numbers")] 74 00 (zba K<|pv 0) (λ_ _ _ _ _=>(zaj (i:=0) (show List.Nodup (["mark","numbers"]:List Str) by decide+kernel) 00 38)) (λ_ _ _ _ _=>za2) λ_ _ _ _ _=>(zft U (pv 1) (pv 0) λ_ _=>rfl)))),?_⟩;apply zaw [G 04,B,B] R ?_;trivial
  applyλp H1 n1=>⟨⟨_,.of<|n1.g _ _ c⟩,ze5 (K:=K) (a:=a) (xs:=rs) (λi σ H'=>Same H H'/\(∃v2,σ=[G 04,G 22,v2])/\H' p=G (.dT<|tabF keyL 0 (news []<|ms.take i))) ⟨n1.g,⟨B,R⟩,n1.at'⟩ (λi σ H' _ z=>.of<|z.1 _ _ c) ?_ ?_⟩
  .rintro i y σ H' C ⟨g,⟨v2,rfl⟩,ep⟩;ac_rfl;let(x,ex,t,rfl,et):=SS.Paired.at e C;let en:=zkr ex;let gf:=zfu (ms.take i) [];apply zk ?_;rw[y0w,y1e]at gf;let j:H' t=G (.tup<|(keyL x).map kV):=by rw[zkx];show g _ _ et
   trivial;apply⟨_,DGet.t ep j,?_⟩;by_cases J:x∈news [] (ms.take i)
   .rw[show valV (tabF keyL 0<|news [] (ms.take i)) (keyL x)=_ from zer zb6 J];show iteF ⟨g,by rw[en,zsv J];show ep⟩
   .rw[show valV (tabF keyL 0<|news [] (ms.take i)) (keyL x)=_ from zfl zb6 J];apply iteT ⟨_,ep,_,DPut.t ep j (by rw[zdh];show small1000 01),g.wr n1.nil _,?_⟩;rw[zao,en,zmm J];show congrArg (λz=>G<|HO.dT z)<|zie zb6 J
  .rintro σ H' ⟨g,⟨v2,rfl⟩,ep⟩;rw[y0l 01]at ep;trivial;apply⟨⟨_,.of<|g _ _ c⟩,zm1 (K:=K) (a:=a) (xs:=rs) (λσ=>∃v,σ=[v,G 22]) (λi=>nV<|nOf (news [] ms) (ms.getD i [])) 01 (.of<|g _ _ c) ⟨_,R⟩ ?_ ?_⟩
   .rintro D i σ H2 x hi J gg u I ⟨v,rfl⟩;ac_rfl;let(r,er,t,rfl,et):=SS.Paired.at e J;let tv:valV (tabF keyL 0<|news [] ms) (keyL r)=_:=zer zb6<|(zb4 ms [] r).mpr (.inr<|y0k er);let j:H2 t=G (.tup<|(keyL r).map kV):=by rw[zkx];show gg _ _<|g _ _ et
    let z:=DGet.t (gg _ _ ep) j;apply zk ?_;rw[tv]at z;trivial;apply⟨_,z,cstep (zah 01) hi I 05 ⟨gg.wr u _,⟨_,R⟩,?_⟩⟩;rw[y28,y0u,List.map_singleton,y02,er,y17]
   intro D H3 u o eD;apply q D (ms.map<|nOf (news [] ms)) H3 (g.free u) (g.trans o) ?_<|zx7 ms;rw[eD,hlr];congr 2;apply y2k 05 λi O M=>?_;simp only[y01,y0y]at O;simp[y02,y00 O]
abbrev Kn:Stmt:=top 16
theorem zg4:FnScope ["machine","sorts"] ["machine","sorts"] (defScope Kn):={}
include T in
theorem zws(d:Dfn K mg "finer_sorts" Kn ["machine","sorts"])(Qr:03 1 "renamed" ["rooms","numbers"] zet)(Vr:03 1 "numbered" ["marks"] zd0):03 2 "finer_sorts" ["machine","sorts"] zns:=by
 apply d.cal zg4 23 47
 .nofun
 let(a,b,m,ns,rfl,(b1,c1,rs,c,au,e,cg),ok,O,S,q):=h;let cf:=za6 ok.wid;let hf:m.n<=100:=ok.few;let m3:ns.length=m.n:=S.len;let hrs:rs.length=m.n:=by rw[SS.Paired.len e,ok.len]
 apply⟨_,(zac<|zai (zae Vr hr 01 00<|pa_c (zau ["sort","ways"] [(1,"sorts")] 74 00 (zv2 K 00 T.b_zip<|pa_c (pv 1) (pa_c (zam 19 (pv 0) zad λ_ _=>rfl) zaa)) (λ_ _ _ _ _=>(zc6 K (n:=2) R<|zbc (zaj (i:=0) (show List.Nodup (["sort","ways","sorts"]:List Str) by decide+kernel) 00 38) (zbc (zaj (i:=1) (show List.Nodup (["sort","ways","sorts"]:List Str) by decide+kernel) 00 38) zc5))) (λ_ _ _ _ _=>za2) λ_ _ _ _ _=>(zat (zse K) (za4 010)<|zae Qr hr 01 00 (pa_c (pv 1) 023))) zaa)),?_⟩;apply zaw [G 04,G 49] R ?_;trivial;apply⟨_,.of c,_,zaf (j:=1) R,_,R,⟨_,.of O⟩,⟨_,.of au⟩,zg9 (n:=m.n) (λσ=>∃v v',σ=[v,v',G 49]) (λj y H=>Line H y<|markOf m ns j) 01 ⟨_,_,R⟩ (λi H' hi M=>?_) (λH' M=>⟨_,_,.of<|M _ _ O,.of<|M _ _ au,by rw[y01];omega⟩) ?_ ?_⟩
 .let(v2,ev,_):=Paired.at2 e<|y00 (show i<m.ways.length by rw[ok.len];show hi);show⟨_,_,nV<|ix ns i,v2,.of<|M _ _ O,.of<|M _ _ au,by rw[y03,zcw 01];rfl,ev⟩
 .rintro D i ys σ H1 x H1' hi M u I Y C ⟨v,v',rfl⟩ yz;ac_rfl;let(p,x1,y1,rfl,n1,ex,ey):=zu5 (.of<|M _ _ O) (.of<|M _ _ au) yz;apply zk ?_;rw[y03,zcw 01]at ex;cases ex;ac_rfl;let ak:i<m.ways.length:=by rw[ok.len];show hi
  let(v2,ev,a2,rfl,e4):=Paired.at2 e<|y00 ak;apply zk ?_;rw[ev]at ey;cases ey;let eg:m.ways.getD i []=m.ways[i]:=by rw[y02,y00 ak];rfl
  let ax:=ok.line _<|y0c ak;let g1:=M.trans n1.g;trivial;apply⟨_,.of n1.at',R,_,_,R,_,_,R,R,mkT λt H2 o=>⟨a2,b,m.ways[i],ix ns,R,o.g _ _<|g1 _ _ e4,by omega,.inr ⟨ns,o.g _ _<|g1 _ _ O,λr mr=>zcw<|by rw[m3];show ok.room _ (y0c ak) r mr⟩,λp3 H3 g3 e3=>?_⟩⟩;apply⟨_,R,_,.of<|g3 _ _ o.at',_,.of e3,by simp,?_,?_,λp4 H4 n4=>?_⟩
  .intro z;let:=congrArg List.length z;rw[y01,y01,y1e]at this;omega
  .rw[y01,y01,y0s];show zah 01
  let m4:Same H1' H4:=o.g.trans<|g3.trans n4.g;apply zcf (λj y H H' ts z=>z.ts ts) 01 hi u (m4 _ _<|n1.g _ _ I) Y C (n1.g.trans m4).tups (g1.trans m4) ⟨_,_,R⟩ ⟨p4,R,?_⟩;rw[n4.at'];unfold markOf;rw[eg];rfl
 intro D ys H1 u g1 eD Y C;apply .inr ⟨D,ys,(List.range m.n).map<|markOf m ns,R,eD,zb0 (by rw[Y,y01,y0y]) λj y l L g=>?_,by rw[y01,y0y];omega,λD2 fs H2 cz J g Nq=>q D2 fs H2 (g1.free cz) (g1.trans J) g Nq⟩;let U:j<m.n:=by rw[←Y];show(y0f.mp L).1
 rw[y03,y0p U]at g;cases g;show C j y L
abbrev Vd:Stmt:=top 17
theorem Qx:FnScope ["ends","part_further","sorts","finer"] ["ends","part_further"] (defScope Vd):={}
include T in
theorem zpv(d:Dfn K mg "sorts_by" Vd ["ends","part_further"])(Vr:03 1 "numbered" ["marks"] zd0):03 4 "sorts_by" ["ends","part_further"] (zhh P w K mg base):=by
 apply d.cal Qx 23 47
 .nofun
 let(e,pf,fd,bs,Rq,J,Nx,j,rfl,C,U,v,cl,x,Y,hJ0,hJl,hnx,q):=h;let hu:=zi5 hr 8 07;apply⟨_,(zab (zal (i:=2) Qx.nd R 09<|zae Vr hr 01 00 010)<|zab (zal (i:=3) Qx.nd R 09<|zc7 P w K mg base 1 3 1 (zig Rq J Nx) hr 01 023) (zab (zdj PassesOwn.never (zaq (op_neIK K hu) (pv 3) (pv 2) 66)<|zab (zal (i:=2) Qx.nd R 09<|pv 3) (zac<|zal (i:=3) Qx.nd R 09 (zc7 P w K mg base 1 3 1 (zig Rq J Nx) hr 01 023)))<|zac (zai<|pv 2))),?_⟩;apply zaw [G<|.ref e,G<|.ref pf,B,B] R ?_;trivial;apply .inl ⟨e,bs,R,C,U,λu ns H1 p g1 L N1=>?_⟩;apply⟨pf,R,fd,g1 _ _ v,g1 _ _ v,cl.mono g1.frz,R,u,ns,R,Y _ _ g1 x,L,hJ0 ns N1,λc fs H2 D g2 e2 N2=>?_⟩;apply⟨λy σ H'=>∃(ns fs:List Nat) (u c:Ad),y=j ns/\Same H H'/\σ=[G<|.ref e,G<|.ref pf,G<|.ref u,G<|.ref c]/\H' u=G (.lst<|ns.map nV)/\H' c=G (.lst<|fs.map nV)/\J ns/\Nx ns fs,
  ⟨_,ns,fs,u,c,R,g1.trans g2,R,g2 _ _ L,e2,hJ0 ns N1,N2⟩,?_⟩
 rintro y σ H' ⟨ns,fs,u,c,rfl,g,rfl,L,e2,S,Nq⟩;let(S',dn):=hnx ns fs S Nq;trivial;apply⟨fs.map λ(n:Nat)=>(n:Int),.of (by rw[←zgm];show e2),ns.map λ(n:Nat)=>(n:Int),.of (by rw[←zgm];show L),?_⟩;by_cases I:fs=ns
 .rw[Xg<|by rw[I]];apply iteF ?_;show q u ns H' g L S<|I▸Nq
 .rw[Xf λz=>I<|zfd z];apply iteT ⟨λl r=>∃O,O<j ns/\_,λl r z=>z,?_⟩;apply⟨pf,R,fd,g _ _ v,g _ _ v,cl.mono g.frz,R,c,fs,R,Y _ _ g x,e2,S',λa fs' H3 bf o M N3=>⟨j fs,dn I,fs,R,g.trans o,fs',c,a,R,o _ _ e2,M,S',N3⟩⟩
abbrev V5:Stmt:=top 18
theorem Q2:FnScope ["machine","rooms","in_order","sorts","firsts"] ["machine"] (defScope V5):={}
abbrev qs_reduced:List (Pos×Str):=[(⟨62,34,62,80⟩,"reduced.<locals>.<lambda>")]
include T in
theorem zpx{c Pt:Ad}(d:DfnC K mg "reduced" V5 ["machine"] c Pt)(kb:BltK base mg)(Qbi:03 1 "reached" ["machine"] zhi)(P8:03 2 "picked" ["machine","rooms","numbers"] zjw)(Pg:03 2 "finer_sorts" ["machine","sorts"] zns)(Qay:03 4 "sorts_by" ["ends","part_further"]<|zhh P w K mg base):03 5 "reduced" ["machine"] (zdz Pt qs_reduced):=by
 apply d.cal Q2 23 λf A outer s H vs Q E hr h=>?_
 .nofun
 let(a,m,rfl,tab,rm,ok,q):=h;let hf:m.n<=100:=ok.few;apply⟨_,(zab (zal (i:=1) Q2.nd R 09<|zae Qbi hr 01 00 010)<|zab (zal (i:=2) Q2.nd R (Or.inr R)<|zae P8 hr 01 00 (pa_c (pv 0)<|pa_c (pv 1) (pa_c (zbo (zjj K R) 00 T.b_dict boot_dict<|pa_c (zau ["number","room"] [] 74 00 (zfs K 00 T.b_enumerate 019) (λ_ _ _ _ _=>(zc6 K (n:=2) R<|zbc (zaj (i:=0) (show List.Nodup (["number","room"]:List Str) by decide+kernel) 00 38) (zbc (zaj (i:=1) (show List.Nodup (["number","room"]:List Str) by decide+kernel) 00 38) zc5))) (λ_ _ _ _ _=>za2) λ_ _ _ _ _=>(za4<|pa_c (pv 1) 010)) zaa) zaa))) (zab (zal (i:=3) Q2.nd R (Or.inr R)<|zc8 Qay hr 01 00 (λ_=>rfl) (pa_c (zam 19 (pv 2) zad λ_ _=>rfl)<|pa_c (zke (qs:=qs_reduced) "reduced.<locals>.<lambda>" rfl d.code kb 00 00) zaa))<|zab (ze0 (i:=4) Q2.nd R 09 ["sort"] [(3,"sorts")] 74 00 (zbp 00 T.b_range<|pa_c (zat zca (zay (zm5 K R) 00 T.b_max boot_max<|pa_c (pv 3) zaa) zad) zaa) (λ_ _ _ _ _=>(zaj (i:=0) (show List.Nodup (["sort","sorts"]:List Str) by decide+kernel) 00 38)) (λ_ _ _ _ _=>za2) λ_ _ _ _ _=>(zcc K PySem.F.plainAttrs_list PySem.F.slot_list_index PySem.F.type_list_index (zs0 K) (pv 1) 010)) (zac<|zai (zae P8 hr 01 00<|pa_c (pv 2) (pa_c (pv 4)<|pa_c (pv 3) zaa))))),?_⟩;apply zaw [G 04,B,B,B,B] R ?_;trivial;apply⟨a,m,R,rm,ok,λD rooms H1 u g1 eD cm=>?_⟩;let hrl:rooms.length<=m.n:=zdm cm.nd cm.lt;apply⟨_,R,⟨_,.of eD⟩,zg9 (n:=rooms.length) (λσ=>∃v v',σ=[v,v']) (λj y H=>∃t,y=.ref t/\H t=G (.tup [nV<|ix rooms j,nV j])) 01 ⟨_,_,R⟩ (λi H' hi gg=>⟨_,nV<|ix rooms i,.of<|gg _ _ eD,by rw[y03,zcw hi];rfl⟩) (λH' gg=>⟨_,.of<|gg _ _ eD,by rw[y01];show y05 _⟩) ?_ ?_⟩
 .rintro D' i ys σ H2 x H2' hi gg gd cz Y C ⟨v,v',rfl⟩ yz;ac_rfl;let(p,x1,rfl,n1,ex):=znd (.of<|gg _ _ eD) yz;apply zk ?_;rw[y03,zcw hi]at ex;cases ex;trivial;apply⟨_,.of n1.at',R,_,_,R,_,_,R,R,mkT λt H3 n3=>zcf (λj y H H' ts ⟨t,e,z⟩=>⟨t,e,ts _ _ z⟩) 01 hi gd (n3.g _ _<|n1.g _ _ cz) Y C (n1.g.trans n3.g).tups (gg.trans<|n1.g.trans n3.g) ⟨_,_,R⟩ ⟨t,R,n3.at'⟩⟩
 intro D2 ys H2 cz g2 br ay fg;let hpo:∀j y (l:Key×V),ys[j]?=G y->((List.range rooms.length).map λi=>((Sum.inl ((ix rooms i:Nat):Int):Key),nV i))[j]?=G l->PairV H2 y l:=λj y l L e2=>by
  let hj:j<rooms.length:=by rw[←ay];show(y0f.mp L).1
  rw[y03,y0p hj]at e2;cases e2;show fg j y L
 apply⟨_,R,_,.of br,(List.range rooms.length).map λi=>((Sum.inl ((ix rooms i:Nat):Int):Key),nV i),zb0 (by rw[ay,y01,y0y]) hpo,by rw[y01,y0y];omega,λdd H3 n3=>?_⟩;ac_rfl;let b9:Same H1 H3:=g2.trans n3.g;let hg:∀i,i<rooms.length->rooms.idxOf (ix rooms i)=i:=λi hi=>by
  let(O,h2):=zon<|zej hi;show zye cm.nd O hi h2
 let knd:(((List.range rooms.length).map λi=>((Sum.inl ((ix rooms i:Nat):Int):Key),nV i)).map (·.1)).Nodup:=by
  rw[y0o];apply SM.nodup_map_on (λi hi j hj e=>?_) y3t;show zye cm.nd (y0v.mp hi) (y0v.mp hj) (by have:=Sum.inl.inj e;omega)
 let hlk:∀r∈rooms,Lk H3 dd (m.ways.getD r []) (λx=>rooms.idxOf x):=λr mr=>by
  apply .inl ⟨_,n3.at',λx mx=>zog _ [] _ _ knd ?_⟩;let J:x∈rooms:=by
   let(i,hi,rfl):=zi1 mr;let ak:ix rooms i<m.ways.length:=by rw[ok.len];show cm.lt _ mr
   rw[y02,y00 ak,y17]at mx;let(l,Y,el):=y1n mx;rw[ok.line _<|y0c ak]at Y;let(line,f1,f2,_):=ok.at (cm.lt _ mr) Y;rw[y00 ak]at f1;cases f1;rw[y00 (by rw[ok.line _<|y0c ak];show Y),el]at f2;let(t,ht,et,_):=cm.clos i l hi Y<|.inl hi;rw[Option.some.inj f2,←et];show zej ht
  let(O,h2):=zon J;apply y0h.mpr ⟨rooms.idxOf x,y0v.mpr O,?_⟩;rw[h2]
 let(f9,ord1,_,_):=zgv ok cm (g:=λx=>rooms.idxOf x) hg;apply zk ?_;apply⟨a,D,dd,m,rooms,λx=>rooms.idxOf x,R,rm.same<|g1.trans b9,ok,b9 _ _ eD,by omega,cm.lt,hlk,λp1 H4 g4 dl=>?_⟩;ac_rfl;let(b1,c1,rs1,ea1,au,gm,cg):=id dl;apply zk ?_;apply ixm (.of ea1) (zaf (j:=2) R) ⟨tab.same<|g1.trans (b9.trans g4),λfl H4a M=>?_⟩;intro Hq ad;let gq:Same H4 Hq:=M.old.trans ad.up;let(om,oo):=M.fn;generalize epm:(picked m rooms λx=>rooms.idxOf x)=ck at f9 ord1 dl ea1 gm cg;let cl:CloH P w K mg base 3 Hq fl 1 (zig (λH=>RepM H p1 ck) (Sorts ck) λns fs=>Num ((List.range ck.n).map<|markOf ck ns) fs):=by
  apply M.clo_e (own:=["coarser"]) (ps:=["coarser"]) (cap:=["in_order"]) (cv:=[.ref p1]) (k:=2) (Same.refl _) ad ⟨R,R,R,by decide+kernel,R,by decide+kernel,by decide+kernel,by decide+kernel⟩ 08 (.cons ⟨2,R,R,.inl R⟩ .nil) (λcl ct cd pm=>L2.fit1 λ_=>rfl) ?_;rintro clo c' A' bj s' H' vs Q' hr U fz dk Y ⟨b,ns,rfl,hR,eb,S,q'⟩;apply⟨_,(zae Pg hr 01 00<|pa_c (pv 1) 010),?_⟩;apply zrn [G 49,G<|.ref p1] R ?_;trivial;show⟨p1,b,ck,ns,R,hR.ts<|SameN.tups U.n,f9,U.n _ _ eb (λ_ _ z=>nomatch z),S,λD5 fs H5 hD5 o gi N5 on=>q' D5 fs (mixL clo H' H5) (zb5 (cl:=clo) (H:=H') o|> λ_=>by
   let:=zgt hD5 gi on;show this) (zb5 o) (zfc on _ _ gi) N5⟩
 apply⟨c1,fl,om,ck.ends,(λH=>RepM H p1 ck),Sorts ck,_,(λns=>ck.n*ck.n-ns.sum),R,gq _ _ cg,f9.few,ad.up _ _ oo,cl,dl.same gq,(λH1 H2 g z=>z.same g),(λns Nq=>zlw Nq),(λns S=>by rw[S.len];show f9.few),(λns fs S Nq=>?_),λD5 ns H5' g5' eD5' S N5=>?_⟩
 .let(S',ref,_):=zho f9 S Nq;apply⟨S',λI=>?_⟩;let(m1,m2):=zpe S S' ref I;change ck.n*ck.n-fs.sum<ck.n*ck.n-ns.sum;omega
 let st:=(zho f9 S N5).2.2 rfl;let o:=M.old.trans<|ad.same g5';let gi:=ad.keep g5' eD5' λ_ _ z=>nomatch z;dsimp only;generalize dropX _ H5'=H5 at o gi ⊢;subst epm;let gf:ns.length=rooms.length:=by rw[S.len,zcs]
 apply⟨_,R,ns.map λ(n:Nat)=>(n:Int),.of (by rw[←zgm];show gi),by rw[y01,gf];show cm.pos,λM mM hM=>?_⟩;ac_rfl;let(Mn,mMn,rfl):=y0h.mp mM;let hMl:∀x∈ns,x<=Mn:=λx mx=>by have:=hM _<|y0h.mpr ⟨x,mx,R⟩;omega
 let(F,mem):=ztq S.srt mMn hMl;let hMb:Mn<100:=by
  let(i,hi,ei):=zi1 mMn;let:=S.srt.le i hi;omega
 let etn:((Mn:Int)+1-0).toNat=Mn+1:=by omega
 apply zk ?_;apply⟨by omega,by omega,?_⟩;rw[show((Mn:Int)+1).toNat=Mn+1 by omega];apply zyj (λσ=>∃v,σ=[v,G<|.ref D5]) (λi=>nV<|ns.idxOf i) 01 ⟨_,R⟩ ?_ ?_
 .rintro D6 i σ H6 hi gg gh hD6' ⟨v,rfl⟩;trivial;apply⟨.inl ⟨_,.of<|gg _ _ gi⟩,ns.map λ(n:Nat)=>(n:Int),.of (by rw[←zgm];show gg _ _ gi),y0h.mpr ⟨i,mem i 01,by omega⟩,by rw[y01];omega,?_⟩;apply zuf 01 hi gh hD6' gg ⟨_,R⟩ ?_;rw[show(0:Int)+(i:Int)=((i:Nat):Int) by omega,zoo]
 intro D6 H6 gh g6 eD6;let eD6':H6 D6=G (.lst<|((List.range<|Mn+1).map λs=>ns.idxOf s).map nV):=by rw[eD6,y0o];rfl
 let fl:∀r∈((List.range<|Mn+1).map λs=>ns.idxOf s),r<(picked m rooms λx=>rooms.idxOf x).n:=λr mr=>by
  let(s',hs,rfl):=zi1 mr;rw[←S.len];show F.lt s' hs
 apply⟨p1,D6,D5,_,_,ix ns,R,dl.same<|o.trans g6,f9,eD6',by rw[y01,y0y];omega,fl,λr mr=>.inr ⟨ns,g6 _ _ gi,λx mx=>zcw ?_⟩,λp2 H7 g7 gl=>?_⟩
 .rw[S.len];let ak:r<(picked m rooms λx=>rooms.idxOf x).ways.length:=by rw[f9.len];show fl r mr
  rw[y02,y00 ak,y17]at mx;show f9.room _ (y0c ak) x mx
 .exact q p2 _ H7 (g1.trans<|b9.trans (g4.trans<|o.trans (g6.trans g7))) gl<|red_of ok cm hg S st F
include T in
theorem zmg(d:Dfn K mg "renamed" Kh ["rooms","numbers"]):03 1 "renamed" ["rooms","numbers"] zf3:=by
 apply d.cal zex 23 47
 .nofun
 let(a,b,rs,ls,fs,rfl,c,e,h16,O,g,q):=h;let hu:=zi5 hr 8 07;let L:=SS.Paired.len e;apply⟨_,(zac<|zai (zbo zas 00 T.b_tuple iK<|pa_c (zau ["room"] [(1,"numbers")] 74 00 (zba K<|pv 0) (λ_ _ _ _ _=>(zaj (i:=0) (show List.Nodup (["room","numbers"]:List Str) by decide+kernel) 00 38)) (λ_ _ _ _ _=>za2) λ_ _ _ _ _=>(zft hu (pv 1) (pv 0) λ_ _=>rfl)) zaa)),?_⟩;apply zaw [G 04,G 49] R ?_;trivial;apply⟨⟨_,.of c⟩,zg9 (n:=ls.length) (λσ=>∃v,σ=[v,G 49]) (λj y H=>y=nV (nOf fs<|ls.getD j [])) 01 ⟨_,R⟩ (λi H' hi M=>⟨_,rs[i]'(01),.of<|M _ _ c,y00 _⟩) (λH' M=>⟨_,.of<|M _ _ c,by omega⟩) ?_ ?_⟩
 .rintro D i ys σ H1 x J hi M u I Y C ⟨v,rfl⟩ ⟨rfl,r⟩;ac_rfl;let ex:=r _<|.of (M _ _ c);let(l,el,t,rfl,et):=SS.Paired.at e ex;let et2:=M _ _ et;apply zk ?_;rw[←zkx]at et2;let z:=DGet.t (M _ _ O) et2;rw[zer zb6<|g l (y0k el)]at z;trivial;apply⟨_,z,zcf (λj y H H' ts z=>z) 01 hi u I Y C (Same.refl _).tups M ⟨_,R⟩ ?_⟩;rw[y02,el];rfl
 intro D ys H1 u g1 eD Y C;let p:H1 D=G (.lst<|(ls.map<|nOf fs).map nV):=by
  rw[eD];congr 2;apply y1p λj=>?_;by_cases U:j<ls.length
  .rw[y00 (show j<ys.length by omega),C j _<|y00 (show j<ys.length by omega),y03,y03,y02,y00 U];rfl
  .rw[y0r 01,y0r<|by rw[y01,y01];omega]
 show⟨_,R,_,.inl ⟨.of p,λt H2 o=>q t H2 (g1.trans o.g) o.at'⟩⟩
abbrev Ve:Stmt:=top 24
theorem Qp:FnScope ["tracks","first","comings","is_end","numbers","found","ways","coming_here","thing"] ["tracks","first","comings","is_end"] (defScope Ve):={}
include T in
theorem zmj{Pt:Ad}(d:Dfn K mg "explored" Ve ["tracks","first","comings","is_end"])(Qr:03 1 "renamed" ["rooms","numbers"] zf3)(V8:03 5 "reduced" ["machine"]<|zdz Pt qs_reduced):
  03 6 "explored" ["tracks","first","comings","is_end"] (zd1 P w K mg base Pt qs_reduced):=by
 apply d.cal Qp 23 47
 .nofun
 let(a,fc,fe,fdc,fde,Th,Gq,Rq,t0,rfl,tab,c,efc,efe,ox,ou,hR,hRs,L,hG0,aw,be,q):=h;let hu:=zi5 hr 8 07;apply⟨_,(zab (zal (i:=4) Qp.nd R 09<|zr3 hu (pv 1) zad)<|zab (zal (i:=5) Qp.nd R 09<|za1 019) (zab (zal (i:=6) Qp.nd R 09<|za1 zaa)<|zab (zdj PassesOwn.never (zaq zkn (zay (zar K) 00 T.b_len iz<|pa_c (pv 6) zaa) (zay (zar K) 00 T.b_len iz<|pa_c (pv 5) zaa) 66)<|zab (zal (i:=7) Qp.nd R 09<|zc7 P w K mg base 2 4 1 (zdi Rq Th Gq) hr 01 (pa_c (zam (zav K) (pv 5) (zay (zar K) 00 T.b_len iz<|pa_c (pv 6) zaa) λ_ _=>rfl) zaa)) (zab (zbz PassesOwn.never R (zba K<|pv 7) (zaj (i:=8) Qp.nd 00 38)<|zac (za3 (zaq (zdl hu) (pv 8) (pv 4)<|by with_unfolding_all rfl) (zab (zfr hu (pv 4) (pv 8) (zay (zar K) 00 T.b_len iz<|pa_c (pv 5) zaa) R)<|zac (zbk<|zcc K PySem.F.plainAttrs_list PySem.F.slot_list_append PySem.F.type_list_append zbf (pv 5) (pa_c (pv 8) zaa))) zan))<|zab (za3 (zaq zpt (zay (zar K) 00 T.b_len iz<|pa_c (pv 5) zaa) (zbs 00 T.g_MOST_COME_TO) 66) (zac zb2) zan) (zac<|zbk (zcc K PySem.F.plainAttrs_list PySem.F.slot_list_append PySem.F.type_list_append zbf (pv 6)<|pa_c (zae Qr hr 01 00<|pa_c (pv 7) (pa_c (pv 4) zaa)) zaa)))) (zac<|zai (zae V8 hr 01 00<|pa_c (za4<|pa_c (pv 0) (pa_c (zbo zas 00 T.b_tuple iK<|pa_c (pv 6) zaa)<|pa_c (zbo zas 00 T.b_tuple iK<|pa_c (zau ["thing"] [(3,"is_end")] 74 00 (zba K<|pv 5) (λ_ _ _ _ _=>(zaj (i:=0) (show List.Nodup (["thing","is_end"]:List Str) by decide+kernel) 00 38)) (λ_ _ _ _ _=>za2) λ_ _ _ _ _=>(zc7 P w K mg base 1 4 1 (zfn Rq Th Gq) hr 01 010)) zaa) zaa)) zaa)))),?_⟩;apply zaw [G<|nV Th.w,G 04,G<|.ref fc,G<|.ref fe,B,B,B,B,B] R ?_;trivial
 applyλkd Hk nk=>⟨nk.at',keyL t0,by rw[zkx];show nk.g _ _ c,mkT λpf H2 n2=>⟨by decide,λpw H3 e=>?_⟩⟩
 generalize eH:upd Hk kd (.dT [(keyL t0,V.int 0)])=Hk2 at n2;let gk:Same H Hk2:=by rw[←eH];show nk.g.wr nk.nil _
 let ek:Hk2 kd=G (.dT<|tabF keyL 0 [t0]):=by rw[←eH,zao];rfl
 let g3:Same H H3:=gk.trans<|n2.g.trans e.g;let nfk:kd≠pf:=zax ek n2.nil;let nwk:kd≠pw:=zax (n2.g _ _ ek) e.nil;let nfw:pf≠pw:=zax n2.at' e.nil;let hkd:H kd=B:=nk.nil;let hpf:H pf=B:=gk.free n2.nil;let hpw:H pw=B:=(gk.trans n2.g).free e.nil;let cf:=za6 L;apply⟨λmm σ H'=>∃(k:Nat) (fs:List<|List Nat) (rs rw:List V) (v7 v8:Option V),mm=100-k/\Same H H'/\σ=[G<|nV Th.w,G 04,G<|.ref fc,G<|.ref fe,G<|.ref kd,G<|.ref pf,G<|.ref pw,v7,v8]/\H' kd=G (.dT<|tabF keyL 0 fs)/\H' pf=G (.lst rs)/\i8 (Line H') rs fs/\H' pw=G (.lst rw)/\i8 (Line H') rw ((fs.take k).map λt=>(Th.step t).map<|nOf fs)/\Fnd Th Gq t0 fs k,
  ⟨100,0,[t0],[.ref a],[],B,B,R,g3,R,(n2.g.trans e.g) _ _ ek,e.g _ _ n2.at',.cons ⟨a,R,g3 _ _ c⟩ .nil,e.at',.nil,Fnd.start hG0⟩,?_⟩
 rintro mm σ H' ⟨k,fs,rs,rw',v7,v8,rfl,g,rfl,ek',gu,pr,ew',pw',F⟩;let hrl:=SS.Paired.len pr;let hwl:=SS.Paired.len pw';rw[y01,y0w,y3c F.le]at hwl;let O:=be fs k F;trivial;apply⟨_,.inl<|.of ew',_,.inl<|.of gu,?_⟩;by_cases a8:k<fs.length
 .refine itT 01 ⟨λa0 r=>∃m',m'<100-k/\_,λa0 r z=>z,?_⟩;ac_rfl;let et:fs[k]?=G fs[k]:=y00 a8;let(v,ev,ta,rfl,eta):=Paired.at2 pr et;let hGt:=F.good _<|y0c a8;apply zk ?_;generalize fs[k]=t at et eta hGt;let(m3,hsG):=aw t hGt;apply⟨fc,R,fdc,g _ _ efc,_,.inl<|.of ew',_,.of gu,_,by rw[hwl];show zaf ev,g _ _ efc,ox.mono g.frz,R,ta,t,R,hRs _ _ g hR,eta,hGt,λD d4 H1 hD g1 eD gm=>⟨⟨_,.of eD⟩,?_⟩⟩;let nkD:kd≠D:=zax ek' hD;let nfD:pf≠D:=zax gu hD;let ar:=SS.Paired.len gm;apply ze5 (K:=K) (a:=D) (xs:=d4) (λj σ r=>Same H r/\TupS H1 r/\(∃v8,σ=[G<|nV Th.w,G 04,G<|.ref fc,G<|.ref fe,G<|.ref kd,G<|.ref pf,G<|.ref pw,G 65,v8])/\r D=G (.lst d4)/\r pw=G (.lst rw')/\∃dm,r kd=G (.dT<|tabF keyL 0 (news fs<|(Th.step t).take j))/\r pf=G (.lst dm)/\i8 (Line r) dm (news fs<|(Th.step t).take j))
   ⟨g.trans g1,TupS.refl _,⟨_,R⟩,eD,g1 _ _ ew',rs,g1 _ _ ek',g1 _ _ gu,L2.Paired.mapP pr λ_ _ z=>z.ts g1.tups⟩ (λj σ r _ z=>.of z.2.2.2.1) ?_ ?_
  .rintro j y σ r C ⟨J,ts,⟨v8',rfl⟩,br,kh,dm,bu,d7,gp⟩;ac_rfl;let(u,eu,tu,rfl,etu):=SS.Paired.at gm C;let rb:=ts _ _ etu;let ra:r tu=G (.tup<|(keyL u).map kV):=by rw[zkx];show rb
   let hjl:=SS.Paired.len gp;let gf:=zfu ((Th.step t).take j) fs;apply zk ?_;rw[y0w]at gf;trivial;apply⟨_,DGet.t bu ra,?_⟩;by_cases dh:u∈news fs ((Th.step t).take j)
   .rw[zer zb6 dh];apply iteF ?_;rw[zhx eu,zsv dh];show⟨J,ts,br,kh,bu,dm,d7,gp⟩
   .rw[zfl zb6 dh];let ef3:∀o,upd r kd o pf=G (.lst dm):=λo=>by rw[zak<|Ne.symm nfk];show d7
    apply iteT ⟨_,.inl<|.of d7,_,DPut.t bu ra (by rw[zdh];show small1000 01),.inl ⟨_,.of<|ef3 _⟩,_,ef3 _,small1000 01,?_⟩;rw[zhx eu,zmm dh];generalize news fs ((Th.step t).take j)=ds at dh bu gp hjl gf;let ep:putK (tabF keyL 0 ds) (keyL u) (V.int (dm.length:Int))=tabF keyL 0 (ds++[u]):=by
     rw[←zie zb6 dh,zdh,hjl]
    let oq:TupS r (upd (upd r kd<|.dT (putK (tabF keyL 0 ds) (keyL u)<|V.int (dm.length:Int))) pf<|.lst (dm++[.ref tu])):=(TupS.wrT bu _).trans<|TupS.wr (ef3 _) _;apply⟨(J.wr hkd _).wr hpf _,ts.trans oq,by rw[zak<|Ne.symm nfD,zak<|Ne.symm nkD];show br,by rw[zak<|Ne.symm nfw,zak<|Ne.symm nwk];show kh,by rw[zak nfk,zao,ep],dm++[.ref tu],zao,SM.Paired.snoc (L2.Paired.mapP gp λ_ _ z=>z.ts oq) ⟨tu,R,oq _ _ rb⟩⟩
  .rintro σ r ⟨J,ts,⟨v8',rfl⟩,br,kh,dm,bu,d7,gp⟩;rw[ar,y0l 08]at bu gp;let F':=F.next et hsG;let M:=be _ _ F';let hjl:=SS.Paired.len gp;trivial;apply⟨_,.inl<|.of d7,?_⟩;apply itF 01 ⟨.inl ⟨_,.of kh⟩,D,kd,d4,Th.step t,news fs<|Th.step t,R,br,L2.Paired.mapP gm λ_ _ z=>z.ts ts,by omega,bu,(λl Y=>(zb4 _ _ _).mpr<|.inr Y),λp H4 g4 ep=>⟨_,g4 _ _ kh,small1000 01,?_⟩⟩;let tsB:TupS r (upd H4 pw<|.lst (rw'++[.ref p])):=g4.tups.trans<|TupS.wr (g4 _ _ kh) _;apply⟨100-(k+1),by omega,k+1,R,(J.trans g4).wr hpw _,news fs<|Th.step t,by rw[zak nwk];show g4 _ _ bu,dm,by rw[zak nfw];show g4 _ _ d7,L2.Paired.mapP gp λ_ _ z=>z.ts tsB,rw'++[.ref p],zao,?_,F'⟩;rw[zqy F et];show SM.Paired.snoc (L2.Paired.mapP pw' λ_ _ z=>z.ts<|g1.tups.trans (ts.trans tsB)) ⟨p,R,TupS.wr (g4 _ _ kh) _ _ _ ep⟩
 .rw[Xf 01];let hk:k=fs.length:=by have:=F.le;omega
  subst hk;apply iteF ?_;let hF:∀t∈fs,Gq t:=F.good;apply⟨_,.inl ⟨.of ew',λt1 H4 n4=>⟨⟨_,.of<|n4.g _ _ gu⟩,?_⟩⟩⟩;apply zg9 (n:=fs.length) (λσ=>∃v,σ=[v,G<|.ref fe]) (λj y H=>y=.bl (Th.fin<|fs.getD j [])) 01 ⟨_,R⟩ (λi H5 hi gg=>⟨_,rs[i]'(01),.of<|gg _ _ (n4.g _ _ gu),y00 _⟩) (λH5 gg=>⟨_,.of<|gg _ _ (n4.g _ _ gu),by omega⟩) ?_ ?_
  .rintro D i ys σ H5 x H5' hi gg hD I Y C ⟨v,rfl⟩ ⟨rfl,yx⟩;ac_rfl;let ex:=yx _<|.of (gg _ _<|n4.g _ _ gu);let(l,el,tl,rfl,etl):=SS.Paired.at pr ex;let gg':=g.trans<|n4.g.trans gg;apply zk ?_;trivial;apply⟨fe,R,fde,gg' _ _ efe,gg' _ _ efe,ou.mono gg'.frz,R,tl,l,R,hRs _ _ gg' hR,(n4.g.trans gg) _ _ etl,F.good l<|y0k el,λH6 g6=>zcf (λj y H H' ts z=>z) 01 hi hD (g6 _ _ I) Y C g6.tups (gg.trans g6) ⟨_,R⟩ ?_⟩;rw[y02,el];rfl
  intro D ys H5 hD g5 eD Y C;let bd:H5 D=G (.lst<|(fs.map Th.fin).map V.bl):=by
   rw[eD];congr 2;apply y1p λj=>?_;by_cases U:j<fs.length
   .rw[y00 (show j<ys.length by omega),C j _<|y00 (show j<ys.length by omega),y03,y03,y02,y00 U];rfl
   .rw[y0r 01,y0r<|by rw[y01,y01];omega]
  apply⟨D,R,_,.inl ⟨.of bd,λt2 H6 n6=>mkT λt3 H7 n7=>?_⟩⟩;let gA:=n4.g.trans<|g5.trans (n6.g.trans n7.g);rw[y0l 08]at pw';let rp:RepM H7 t3 (expl Th fs):=⟨t1,t2,rw',n7.at',(g5.trans<|n6.g.trans n7.g) _ _ n4.at',L2.Paired.mapP pw' λ_ _ z=>z.ts gA.tups,n7.g _ _ n6.at'⟩;apply⟨t3,expl Th fs,R,tab.same<|g.trans gA,rp,expl_ok L F 01 λt h=>(aw t h).1,λp m' H8 g8 r8 Rd=>q p m' H8 (g.trans<|gA.trans g8) r8 Rd.ok Rd.w Rd.canon λrow hr=>?_⟩;rw[←Rd.par row hr,zqj F (λt h=>(aw t h).1) row hr]
abbrev Tp:Stmt:=top 25
theorem T6:FnScope ["one","other","is_end","comings"] ["one","other","is_end"] (defScope Tp):={}
abbrev qs_paired:List (Pos×Str):=[(⟨90,4,91,60⟩,"paired.<locals>.comings"),(⟨92,45,92,100⟩,"paired.<locals>.<lambda>")]
include T in
theorem zpz{c Pp Pt:Ad}(d:DfnC K mg "paired" Tp ["one","other","is_end"] c Pp)(kb:BltK base mg)(Vq:03 6 "explored" ["tracks","first","comings","is_end"]<|zd1 P w K mg base Pt qs_reduced):
  03 7 "paired" ["one","other","is_end"] (zeu P w K mg base Pt qs_reduced Pp qs_paired):=by
 apply d.cal T6 23 λf A outer s H vs Q E D h=>?_
 .nofun
 let(a,b,pf,fd,i,m2,op,rfl,tr,tp,dl,gl,o1,o2,hw,be,ef,cl,q):=h;let(b1,c1,rs1,ea,au,gm,cg):=id dl;let(b2,c2,rs2,eb,eb2,pr2,m5):=id gl;apply⟨_,(zab (za3 (zaq op_ne (zam 19 (pv 0) zad λ_ _=>rfl) (zam 19 (pv 1) zad λ_ _=>rfl) 66) (zac zb2) zan)<|zab (zx1 (qs:=qs_paired) "paired.<locals>.comings" (j:=3) R d.code kb 00 00 T6.nd R R) (zac<|zai (zc8 Vq D 01 00 (λ_=>rfl)<|pa_c (zam 19 (pv 0) zad λ_ _=>rfl) (pa_c (za4<|pa_c zad (pa_c zad zaa))<|pa_c (pv 3) (pa_c (zke (qs:=qs_paired) "paired.<locals>.<lambda>" rfl d.code kb 00 00) zaa))))),?_⟩;apply zaw [G 04,G 49,G<|.ref pf,B] R ?_;trivial;apply⟨_,.of ea,_,zb1,_,.of eb,_,zb1,R,?_⟩;rw[show(!decide (nV i.w=nV m2.w))=Fa by rw[hw];simp];apply iteF ⟨tp,λf1 H1 M1=>⟨_,.of<|M1.old _ _ ea,_,zb1,mkT λt0 H2 o=>⟨tp.same<|M1.old.trans o.g,λf2 H3 M2 Hq ad=>?_⟩⟩⟩;ac_rfl;let g3:Same H H3:=M1.old.trans<|o.g.trans M2.old;let gq:Same H Hq:=g3.trans ad.up;let(bv,m7):=M1.fn;let(fd2,d7):=M2.fn;let ox:CloH P w K mg base 4 Hq f1 1 (zdi (λH=>RepMK K H a i/\RepMK K H b m2) (pairT i m2 op)<|PairG i m2):=by
  apply M1.clo_s (own:=["pair"]) (ps:=["pair"]) (cap:=["one","other"]) (cv:=[.ref a,.ref b]) (k:=3) (o.g.trans M2.old) ad ⟨R,R,R,by decide+kernel,R,by decide+kernel,by decide+kernel,by decide+kernel⟩ 08 (.cons ⟨0,R,R,.inl R⟩<|.cons ⟨1,R,R,.inl R⟩ .nil) (λcl ct cd pm=>L2.fit1 λ_=>rfl) ?_;rintro clo c' A' bj s' H' vs Q' D U fz dk Y ⟨pa,t,rfl,⟨ki,m6⟩,et,⟨x,y,rfl,J,C⟩,q'⟩;apply⟨_,(zac<|zai (zmc R 00 T.b_list 00 T.b_zip<|pa_c (zam 19 (zam 19 (pv 1) zad λ_ _=>rfl) (zam 19 (pv 0) zad λ_ _=>rfl) λ_ _=>rfl) (pa_c (zam 19 (zam 19 (pv 2) zad λ_ _=>rfl) (zam 19 (pv 0) zad λ_ _=>rfl) λ_ _=>rfl) zaa))),?_⟩;apply zaw [G<|.ref pa,G 04,G 49] R ?_;trivial;let(b1',c1',rd,oy,oz,rc,kz):=ki.ts<|SameN.tups U.n;let(b2',c2',rs2',pd,re,rf,gv):=m6.ts<|SameN.tups U.n;let bq:=U.n _ _ et λ_ _ z=>nomatch z;let(l1,w1,e1,u,r1):=zdf o1 J;let(l2,w2,e2,n2',r2):=zdf o2 C;let(v1,ev1,u1,rfl,eu1):=Paired.at2 rc w1;let(v2,ev2,u2,rfl,eu2):=Paired.at2 rf w2;let cf:=za6 o1.wid;apply⟨_,.of oy,_,zaf (j:=1) R,_,.of bq,_,zb1,_,.of oz,_,zaf ev1,_,.of pd,_,zaf (j:=1) R,_,.of bq,_,zaf (j:=1) R,_,.of re,_,zaf ev2,u1,R,u2,R,_,.of eu1,_,.of eu2,by rw[y01,y01,u,n2',hw],by rw[y01,u];omega,λL ps H5 hL g5 eL lps PL I=>q' L (ps.map V.ref) (mixL clo H' H5) (zgt hL eL I) (zb5 g5) (zfc I _ _ eL) ?_⟩;change i8 _ _ (((i.ways.getD x []).zip<|m2.ways.getD y []).map λp=>[p.1,p.2]);rw[e1,e2];apply zb0 (by rw[y01,y01,List.length_zip,lps,y01,u,n2',←hw,Nat.min_self]) λj v l ev el=>?_;rw[y03]at ev el;let(p,ep,rfl):=y0z.mp ev;let((z1,z2),ez,rfl):=y0z.mp el;let(x',y',O,M,h3):=PL j p ep;let(hz1,hz2):=y3z.mp ez;rw[y03,hz1]at O;rw[y03,hz2]at M;cases O;cases M;show⟨p,R,zfc I _ _ h3⟩
 let ou:CloH P w K mg base 4 Hq f2 1 (zfn (λH=>RepMK K H a i/\RepMK K H b m2) (pairT i m2 op)<|PairG i m2):=by
  apply M2.clo_e (own:=["pair"]) (ps:=["pair"]) (cap:=["is_end","one","other"]) (cv:=[.ref pf,.ref a,.ref b]) (k:=3) (Same.refl _) ad ⟨R,R,R,by decide+kernel,R,by decide+kernel,by decide+kernel,by decide+kernel⟩ 08 (.cons ⟨2,R,R,.inl R⟩<|.cons ⟨0,R,R,.inl R⟩ (.cons ⟨1,R,R,.inl R⟩ .nil)) (λcl ct cd pm=>L2.fit1 λ_=>rfl) ?_;rintro clo c' A' bj s' H' vs Q' D U fz dk Y ⟨pa,t,rfl,⟨ki,m6⟩,et,⟨x,y,rfl,J,C⟩,q'⟩;apply⟨_,(zc7 P w K mg base 1 2 2 (zfp op) D 01<|pa_c (zam 19 (zam 19 (pv 2) zad λ_ _=>rfl) (zam 19 (pv 0) zad λ_ _=>rfl) λ_ _=>rfl) (pa_c (zam 19 (zam 19 (pv 3) zad λ_ _=>rfl) (zam 19 (pv 0) zad λ_ _=>rfl) λ_ _=>rfl) zaa)),?_⟩;apply zrn [G<|.ref pa,G<|.ref pf,G 04,G 49] R ?_;trivial;let(b1',c1',rd,oy,oz,rc,kz):=ki.ts<|SameN.tups U.n;let(b2',c2',rs2',pd,re,rf,gv):=m6.ts<|SameN.tups U.n;let bq:=U.n _ _ et λ_ _ z=>nomatch z;show⟨pf,R,fd,dk _ _ _<|g3 _ _ ef,_,.of oy,_,zaf (j:=2) R,_,.of bq,_,zb1,_,kz.sq,_,zaf (by rw[y03,Mc.fin_at J];rfl),_,.of pd,_,zaf (j:=2) R,_,.of bq,_,zaf (j:=1) R,_,gv.sq,_,zaf (by rw[y03,Mc.fin_at C];rfl),dk _ _ _<|g3 _ _ ef,cl.mono<|g3.frz.trans dk,R,_,_,R,λI=>q' _<|zb5 (Same.refl _)⟩
 apply zk ?_;apply⟨t0,f1,f2,bv,fd2,pairT i m2 op,PairG i m2,(λH=>RepMK K H a i/\RepMK K H b m2),[0,0],R,tr.same gq,(M2.old.trans ad.up) _ _ o.at',((o.g.trans M2.old).trans ad.up) _ _ m7,ad.up _ _ d7,ox,ou,⟨dl.same gq,gl.same gq⟩,(λH1 H2 g z=>⟨z.1.same g,z.2.same g⟩),o1.wid,⟨0,0,R,o1.pos,o2.pos⟩,(λt h=>zr8 o1 o2 hw h),(λfs k F=>y1a (zwa F) be),λp m' H5 g5 rp kj ew cn r=>?_⟩;show q p m' _ (g3.trans<|ad.same g5) (rp.ts λb xs e=>ad.keep g5 e λ_ _ z=>nomatch z) kj ew cn λrow D=>by rw[r row D,zn9 o1 o2 hw row o1.pos o2.pos D];rfl
abbrev Qa5:Stmt:=top 27
theorem Qb1:FnScope ["one","other"] ["one","other"] (defScope Qa5):={}
abbrev qs_met:List (Pos×Str):=[(⟨96,30,96,68⟩,"met.<locals>.<lambda>")]
include T in
theorem ok_metK{c Pm j I:Ad}(d:DfnC K mg "met" Qa5 ["one","other"] c Pm)(kb:BltK base mg)(Ti:03 7 "paired" ["one","other","is_end"]<|zeu P w K mg base I qs_reduced j qs_paired):
  03 8 "met" ["one","other"] (zew K I qs_reduced j qs_paired Pm qs_met λx y=>x&&y):=by
 apply d.cal Qb1 23 λf A outer s H vs Q E D h=>?_
 .nofun
 let(a,b,i,m2,rfl,tr,tp,tm,dl,gl,o1,v,L,l,q):=h;apply⟨_,(zac<|zai (zc8 Ti D 01 00 (λ_=>rfl)<|pa_c (pv 0) (pa_c (pv 1)<|pa_c (zke (qs:=qs_met) "met.<locals>.<lambda>" rfl d.code kb 00 00) zaa))),?_⟩;apply zaw [G 04,G 49] R ?_;trivial;apply⟨tm,λg H1 M Hq ad=>?_⟩;let gq:Same H Hq:=M.old.trans ad.up;let(om,oo):=M.fn;let cl:CloH P w K mg base 2 Hq g 2 (zfp λx y=>x&&y):=by
  apply M.clo_e (own:=["first","second"]) (ps:=["first","second"]) (cap:=[]) (cv:=[]) (k:=1) (Same.refl _) ad ⟨R,R,R,by decide+kernel,R,by decide+kernel,by decide+kernel,by decide+kernel⟩ 08 .nil (λcl ct cd pm=>L2.fit2 λ_ _=>rfl) ?_;rintro clo c' A' u s' H' vs Q' D a6 fz J Y ⟨x,y,rfl,C⟩;apply⟨_,(zci (pv 0)<|zcy (pv 1)),?_⟩;apply zrn [G<|.bl x,G<|.bl y] R ?_;trivial;let hm:mixL clo H' (dropL clo H')=H':=by
   classical
   funext b;unfold mixL dropL;by_cases U:InCl clo b
   .rw[Xq U]
   .rw[Xp U,Xp U]
  rw[hm];cases x with
  |true=>show iteT λ_=>C
  |false=>show iteF λ_=>C
 show⟨a,b,g,om,i,m2,_,R,tr.same gq,tp.same gq,dl.same gq,gl.same gq,o1,v,L,l,ad.up _ _ oo,cl,λp O H5 o rp kj ew cn r=>q p O _ (M.old.trans<|ad.same o) (rp.ts λb xs e=>ad.keep o e λ_ _ z=>nomatch z) kj ew cn r⟩
abbrev To:Stmt:=top 28
theorem zri:FnScope ["one","other"] ["one","other"] (defScope To):={}
abbrev qs_joined:List (Pos×Str):=[(⟨98,30,98,67⟩,"joined.<locals>.<lambda>")]
include T in
theorem zwn{c Pj j I:Ad}(d:DfnC K mg "joined" To ["one","other"] c Pj)(kb:BltK base mg)(Ti:03 7 "paired" ["one","other","is_end"]<|zeu P w K mg base I qs_reduced j qs_paired):
  03 8 "joined" ["one","other"] (zew K I qs_reduced j qs_paired Pj qs_joined λx y=>x||y):=by
 apply d.cal zri 23 λf A outer s H vs Q E D h=>?_
 .nofun
 let(a,b,i,m2,rfl,tr,tp,tm,dl,gl,o1,v,L,l,q):=h;apply⟨_,(zac<|zai (zc8 Ti D 01 00 (λ_=>rfl)<|pa_c (pv 0) (pa_c (pv 1)<|pa_c (zke (qs:=qs_joined) "joined.<locals>.<lambda>" rfl d.code kb 00 00) zaa))),?_⟩;apply zaw [G 04,G 49] R ?_;trivial;apply⟨tm,λg H1 M Hq ad=>?_⟩;let gq:Same H Hq:=M.old.trans ad.up;let(om,oo):=M.fn;let cl:CloH P w K mg base 2 Hq g 2 (zfp λx y=>x||y):=by
  apply M.clo_e (own:=["first","second"]) (ps:=["first","second"]) (cap:=[]) (cv:=[]) (k:=1) (Same.refl _) ad ⟨R,R,R,by decide+kernel,R,by decide+kernel,by decide+kernel,by decide+kernel⟩ 08 .nil (λcl ct cd pm=>L2.fit2 λ_ _=>rfl) ?_;rintro clo c' A' u s' H' vs Q' D a6 fz J Y ⟨x,y,rfl,C⟩;apply⟨_,(pe_or (pv 0)<|zcy (pv 1)),?_⟩;apply zrn [G<|.bl x,G<|.bl y] R ?_;trivial;let hm:mixL clo H' (dropL clo H')=H':=by
   classical
   funext b;unfold mixL dropL;by_cases U:InCl clo b
   .rw[Xq U]
   .rw[Xp U,Xp U]
  rw[hm];cases x with
  |true=>show iteT λ_=>C
  |false=>show iteF λ_=>C
 show⟨a,b,g,om,i,m2,_,R,tr.same gq,tp.same gq,dl.same gq,gl.same gq,o1,v,L,l,ad.up _ _ oo,cl,λp O H5 o rp kj ew cn r=>q p O _ (M.old.trans<|ad.same o) (rp.ts λb xs e=>ad.keep o e λ_ _ z=>nomatch z) kj ew cn r⟩
abbrev V3:Stmt:=top 26
theorem zpl:FnScope ["machine"] ["machine"] (defScope V3):={}
include T in
theorem zp2{Pt:Ad}(d:Dfn K mg "flipped" V3 ["machine"])(V8:03 5 "reduced" ["machine"]<|zdz Pt qs_reduced):03 6 "flipped" ["machine"] (zhl Pt qs_reduced):=by
 apply d.cal zpl 23 47
 .nofun
 let(a,m,rfl,tab,(b1,g,rs1,c,au,gm,cg),ok,q):=h;let hf:m.ends.length<=100:=ok.few;apply⟨_,(zac<|zai (zae V8 hr 01 00<|pa_c (za4<|pa_c (zam 19 (pv 0) zad λ_ _=>rfl) (pa_c (zam 19 (pv 0) zad λ_ _=>rfl)<|pa_c (zbo zas 00 T.b_tuple iK<|pa_c (zau ["end"] [] 74 00 (zbd K<|zam 19 (pv 0) zad (λ_ _=>rfl)) (λ_ _ _ _ _=>(zaj (i:=0) (show List.Nodup (["end"]:List Str) by decide+kernel) 00 38)) (λ_ _ _ _ _=>za2) λ_ _ _ _ _=>(zn6<|pv 0)) zaa) zaa)) zaa)),?_⟩;apply zaw [G 04] R ?_;trivial;apply⟨_,.of c,_,zb1,_,.of c,_,zaf (j:=1) R,_,.of c,_,zaf (j:=2) R,⟨_,.of cg⟩,zcl (K:=K) (a:=g) (xs:=m.ends.map V.bl) (λσ=>∃v,σ=[v]) (λy=>match y with|.bl x=>.bl (!x)|v=>v) (by rw[y01];omega) (.of cg) ⟨_,R⟩ ?_ ?_⟩
 .rintro D i σ H' x hi Y J M u I ⟨v,rfl⟩;let(r,L,rfl):=y0h.mp Y;trivial;show zbi (by rw[y01];omega) J u I M ⟨_,R⟩ R
 intro D H1 u g1 C;let bd:H1 D=G (.lst<|(m.ends.map λb=>!b).map V.bl):=by rw[C,y0o,y0o];rfl
 apply⟨_,R,_,.inl ⟨.of bd,λt1 H2 o=>mkT λt2 H3 e=>?_⟩⟩;let U:=g1.trans<|o.g.trans e.g;let rt:RepM H3 t2 (turned m):=⟨b1,t1,rs1,e.at',U _ _ au,L2.Paired.mapP gm λ_ _ z=>z.ts U.tups,e.g _ _ o.at'⟩;show⟨t2,turned m,R,tab.same U,rt,zq0 ok,λp O H4 l rp Rq=>q p O H4 (U.trans l) rp Rq⟩
abbrev Qi:Stmt:=top 42
theorem zce:FnScope ["thing","letters"] ["thing","letters"] (defScope Qi):={}
include T in
theorem ok_lf(d:Dfn K mg "is_letter_with_figures" Qi ["thing","letters"]):03 1 "is_letter_with_figures" ["thing","letters"] zyx:=by
 apply d.cal zce 23 47
 .nofun
 let(x,l,k,rfl,j,hz,q):=h;apply⟨_,(zab (za3 (PW.pt<|zez (zbj<|zbe (zay za8 00 T.b_isinstance iy<|pa_c (pv 0) (pa_c (zbl (v:=.ty "str") 00 T.b_str boot_str 00) zaa))) (zez (zaq zcd (pv 0) zaz 66)<|zdv (zaq zpt (zay zlc 00 T.b_len iz 010) (zbs 00 T.g_LONGEST_NAME) 66))) 038 zan)<|zac (zai<|zci (zb9 zko (zam ix_str (pv 0) zad λ_ _=>rfl) (pv 1)<|by with_unfolding_all rfl) (zcy<|zay (zdc K R) 00 T.b_all lB (pa_c (zau ["sign"] [] 74 00 (pi_str<|zb3 sl_str (pv 0) (zb8 zad) zd4) (λ_ _ _ _ _=>(zaj (i:=0) (show List.Nodup (["sign"]:List Str) by decide+kernel) 00 38)) (λ_ _ _ _ _=>za2) λ_ _ _ _ _=>(zb9 zko (pv 0) (zbs 00 T.g_FIGURES)<|by with_unfolding_all rfl)) zaa)))),?_⟩;apply zaw [G x,G<|.str l] R ?_;trivial;apply⟨k,j,by decide,?_⟩;cases j with
 |str z =>
  let M:=hz z rfl;let Y:=zlq z;rw[show(!subT "str" "str")=Fa by decide];trivial;apply ite2 (λc=>?_) λc=>?_
  .let c':=of_decide_eq_true c;subst c';show q H 011
  let c':=of_decide_eq_false<|y1i.mpr c;let ne:z.cps.toList≠[]:=λe=>c'<|ext_toList e;apply⟨by have:=small1000 M;omega,?_⟩;let(c0,r0,J):=List.exists_cons_of_ne_nil ne;let C:∀H',Same H H'->Q (.bl<|decide (r0.length<=3)&&signIn c0 l&&r0.all λd=>signIn d FIGS) H':=λH' g=>by
   let h:=q H' g;simp only[isNm,nameB,J]at h;show h
  rw[J,y0j]at Y;apply ite2 (λc=>?_) λc=>?_
  .let U:=of_decide_eq_true c;let h:=C H 011;rw[show decide (r0.length<=3)=Fa by simp;omega,y1q,y1q]at h;show h
  let U:=of_decide_eq_false<|y1i.mpr c;rw[show decide (r0.length<=3)=N by simp;omega,y1s]at C;apply⟨by have:=small1000 M;omega,c0,by rw[J];show zb1,?_⟩;apply ite2 (λc=>?_) λc=>?_
  .rw[show signIn c0 l=N from c,y1s]at C;let p:(Txt.slice z (G 1) B).cps.toList=r0:=by
    rw[zrc,show((1:Int))=((1:Nat):Int)from rfl,zem,J];rfl
   let r:(Txt.slice z (G 1) B).cps.size=r0.length:=by rw[←p];simp
   apply⟨by have:=small1000 M;omega,?_⟩;apply cb_str (λD i ys σ H'=>Same H H'/\(∃v,σ=[v])/\ys=(r0.take i).map λd=>V.bl<|signIn d FIGS) (by rw[r];show y1o<|small1000 01) (λD u=>⟨za0 u _,⟨B,R⟩,R⟩) ?_ ?_
   .rintro D i ys σ H' d u hi hd I a ⟨g,⟨v,rfl⟩,rfl⟩;trivial;apply cstep (by rw[r];show y1o<|small1000 01) hi I a ⟨λb o e=>?_,⟨_,R⟩,?_⟩
    .rw[zak<|zax e u];show g b o e
    .rw[r]at hi;let L:r0[i]?=G d:=by rw[←p];simpa using hd
     rw[y14,L,y0u];rfl
   .rintro D ys σ H' u I a ⟨g,_,rfl⟩;rw[r,y0l 08]at I;apply⟨r0.map λd=>signIn d FIGS,.of (by rw[I,y0o];rfl),?_⟩;let h:=C H' g;rw[y32];show h
  .let h:=C H 011;rw[show signIn c0 l=Fa from y1i.mpr c,y1q]at h;show h
 |non=>show q H 011
 |bl b=>show q H 011
 |int i=>show q H 011
 |lst e=>show q H 011
 |tup e=>show q H 011
 |dK e=>show q H 011
abbrev Vn:Stmt:=top 43
theorem zl1:FnScope ["thing"] ["thing"] (defScope Vn):={}
include T in
theorem zwj(d:Dfn K mg "is_place" Vn ["thing"])(a:03 1 "is_letter_with_figures" ["thing","letters"] zyx):03 2 "is_place" ["thing"] (zif SMALL):=by
 apply d.cal zl1 23 47
 .nofun
 let(x,k,rfl,j,hz,q):=h;apply⟨_,(zac<|zai (zae a hr 01 00<|pa_c (pv 0) (pa_c (zbs 00 T.g_SMALL_LETTERS) zaa))),?_⟩;apply zaw [G x] R ?_;trivial;show⟨x,SMALL,k,R,j,hz,q⟩
abbrev Tn:Stmt:=top 44
theorem zrj:FnScope ["thing"] ["thing"] (defScope Tn):={}
include T in
theorem ok_set(d:Dfn K mg "is_set" Tn ["thing"])(a:03 1 "is_letter_with_figures" ["thing","letters"] zyx):03 2 "is_set" ["thing"] (zif GREAT):=by
 apply d.cal zrj 23 47
 .nofun
 let(x,k,rfl,j,hz,q):=h;apply⟨_,(zac<|zai (zae a hr 01 00<|pa_c (pv 0) (pa_c (zbs 00 T.g_GREAT_LETTERS) zaa))),?_⟩;apply zaw [G x] R ?_;trivial;show⟨x,GREAT,k,R,j,hz,q⟩
abbrev V6:Stmt:=top 45
theorem zpj:FnScope ["thing"] ["thing"] (defScope V6):={}
include T in
theorem ok_nm(d:Dfn K mg "is_name" V6 ["thing"])(a:03 2 "is_place" ["thing"]<|zif SMALL)(e:03 2 "is_set" ["thing"]<|zif GREAT):03 3 "is_name" ["thing"] zvf:=by
 apply d.cal zpj 23 47
 .nofun
 let(x,rfl,((k,j),hz),q):=h;apply⟨_,(zac<|zai (pe_or (zae a hr 01 00 010)<|zcy (zae e hr 01 00 010))),?_⟩;apply zaw [G x] R ?_;trivial;apply⟨x,k,R,j,hz,λH1 g1=>⟨_,R,ite2 (λc=>?_) λc=>⟨x,k,R,j.same g1,hz,λH2 J=>?_⟩⟩⟩
 .let h:=q H1 g1;rw[show isName x=N by unfold isName;rw[c,Bool.true_or]]at h;show h
 .let h:=q H2<|g1.trans J;rw[show isName x=isNm x GREAT by unfold isName;rw[y1i.mpr c,y45]]at h;show h
abbrev Vk:Stmt:=top 46
theorem zl2:FnScope ["thing"] ["thing"] (defScope Vk):={}
include T in
theorem zwq(d:Dfn K mg "is_frame" Vk ["thing"])(V0:03 3 "is_name" ["thing"] zvf):03 4 "is_frame" ["thing"] zyz:=by
 apply d.cal zl2 23 47
 .nofun
 let(x,rfl,((k,j),hz),r,q):=h;apply⟨_,(zab (za3 (PW.pt<|zez (zbj<|zbe (zay za8 00 T.b_isinstance iy<|pa_c (pv 0) (pa_c (zbl (v:=.ty "list") 00 T.b_list boot_list 00) zaa))) (zdv<|zaq zpt 050 (zbs 00 T.g_MOST_NAMES) 66)) 038 zan)<|zac (zai<|zci (zay (zdc K R) 00 T.b_all lB<|pa_c (zau ["name"] [] 74 00 (zba K<|pv 0) (λ_ _ _ _ _=>(zaj (i:=0) (show List.Nodup (["name"]:List Str) by decide+kernel) 00 38)) (λ_ _ _ _ _=>za2) λ_ _ _ _ _=>(zae V0 hr 01 00 010)) zaa) (zcy<|zb9 zcd (zay zji 00 T.b_len iz<|pa_c (zbo (zk9 R) 00 T.b_set boot_set 010) zaa) 050 66))),?_⟩;apply zaw [G x] R ?_;trivial;apply⟨k,j,by decide,?_⟩;cases j with
 |lst e =>
  rename_i a xs;let(Y,C):=r a xs R e;let O:SqL K H a xs:=.of e;let ef:frB H 04=frameB xs:=by simp only[frB,e]
  rw[ef]at q;apply iteF ⟨xs,.inl O,?_⟩;apply ite2 (λc=>?_) λc=>⟨⟨xs,O⟩,?_⟩
  .let c':=of_decide_eq_true c;let h:=q H 011;rw[show frameB xs=Fa by unfold frameB;rw[Xf 01,y1q,y1q]]at h;show h
  let c':=of_decide_eq_false<|y1i.mpr c;let l:frameB xs=(xs.all isName&&decide xs.Nodup):=by unfold frameB;rw[Xg 01,y1s]
  rw[l]at q;apply zjc (K:=K) (a:=a) (xs:=xs) (λD i ys σ H'=>Same H H'/\(∃v,σ=[v])/\ys=(xs.take i).map λy=>V.bl<|isName y) (zah Y) (λD u=>⟨za0 u _,⟨B,R⟩,R⟩) (λD i ys σ H' _ _ _ ⟨g,_⟩=>g.seq O) ?_ ?_
  .rintro D i ys σ H' y u hi J I hys ⟨g,⟨v,rfl⟩,rfl⟩;trivial;apply⟨y,R,(C y<|y0k J).same g,λH2 L=>?_⟩;apply cstep (zah Y) hi (L _ _ I) hys ⟨λb o e=>?_,⟨_,R⟩,?_⟩
   .rw[zak<|zax e u];show L b o<|g b o e
   .rw[y14,J,y0u];rfl
  .rintro D ys σ H' u I hys ⟨g,_,rfl⟩;rw[y0l 08]at I;apply⟨xs.map isName,.of (by rw[I,y0o];rfl),?_⟩;rw[y32,show(id∘isName)=isName from rfl];apply ite2 (λca=>?_) λca=>?_
   .let(ks,M,p):=zhz ca;let lk:ks.length=xs.length:=by rw[M,y01]
    apply⟨a,R,ks,M▸g.seq O,by omega,λb H3 n3=>⟨ks,n3.at',by omega,xs,.inl<|n3.g.seq (g.seq O),?_⟩⟩;let h:=q _<|g.trans n3.g;rw[ca,y1s]at h;let U:decide xs.Nodup=decide (((onceK [] ks).length:Int)=(xs.length:Int)):=by
     apply decide_eq_decide.mpr ?_;rw[p,←zsf,lk];omega
    rw[U]at h;show h
   .let h:=q H' g;rw[y1i.mpr ca,y1q]at h;show h
 |non=>show q H 011
 |bl b=>show q H 011
 |int i=>show q H 011
 |str z=>show q H 011
 |tup e =>
  let h:=q H 011;simp only[frB,e]at h;show h
 |dK e =>
  let h:=q H 011;simp only[frB,e]at h;show h
include T in
theorem zkp(d:Dfn K mg "renamed" Kh ["rooms","numbers"]):03 1 "renamed" ["rooms","numbers"] (ze8 K):=by
 apply d.cal zex 23 47
 .nofun
 let(a,b,l,line,rfl,c,e,O,U,q):=h;apply⟨_,(zac<|zai (zbo zas 00 T.b_tuple iK<|pa_c (zau ["room"] [(1,"numbers")] 74 00 (zba K<|pv 0) (λ_ _ _ _ _=>(zaj (i:=0) (show List.Nodup (["room","numbers"]:List Str) by decide+kernel) 00 38)) (λ_ _ _ _ _=>za2) λ_ _ _ _ _=>(zam 19 (pv 1) (pv 0) λ_ _=>rfl)) zaa)),?_⟩;apply zaw [G 04,G 49] R ?_;trivial;apply⟨⟨_,.of c⟩,zm0 (K:=K) (a:=a) (xs:=l.map nV) (λσ=>∃v,σ=[v,G 49]) (λy=>match y with|.int z=>nV (line.getD z.toNat 0)|v=>v) (by rw[y01];omega) (.of c) ⟨_,R⟩ ?_ ?_⟩
 .rintro D i σ H' x hi Y J M u I ⟨v,rfl⟩;let(r,L,rfl):=y0h.mp Y;let z:atI (line.map nV) (r:Int)=G (nV<|line.getD r 0):=zaf (by rw[y03,y02,y00<|U r L];rfl);trivial;show⟨_,O _,_,z,zbi (by rw[y01];omega) J u I M ⟨_,R⟩ R⟩
 intro D H1 u g1 C;let p:H1 D=G (.lst<|(l.map λx=>line.getD x 0).map nV):=by rw[C,y0o,y0o];rfl
 show⟨_,R,_,.inl ⟨.of p,λt H2 o=>q t H2 (g1.trans o.g) o.at'⟩⟩
abbrev K8:Stmt:=top 29
theorem zj6:FnScope ["letter","tracks"] ["letter","tracks"] (defScope K8):={}
include T in
theorem zmi(d:Dfn K mg "letter_of" K8 ["letter","tracks"]):03 1 "letter_of" ["letter","tracks"] zf4:=by
 apply d.cal zj6 23 47
 .nofun
 let(l,a,ts,rfl,r,c,h5,L,q):=h;apply⟨_,(zac<|zai (zay (zbr K R) 00 T.b_sum boot_sum<|pa_c (zau ["number","track"] [(0,"letter")] 74 00 (zfs K 00 T.b_enumerate 019) (λ_ _ _ _ _=>(zc6 K (n:=2) R<|zbc (zaj (i:=0) (show List.Nodup (["number","track","letter"]:List Str) by decide+kernel) 00 38) (zbc (zaj (i:=1) (show List.Nodup (["number","track","letter"]:List Str) by decide+kernel) 00 38) zc5))) (λ_ _ _ _ _=>za2) λ_ _ _ _ _=>(zat zed (zat op_and (zat zx4 (pv 2)<|pv 1) zad)<|pv 0)) zaa)),?_⟩;apply zaw [G<|nV l,G 04] R ?_;trivial;apply⟨⟨_,.of c⟩,zg9 (n:=ts.length) (λσ=>∃v O,σ=[v,O,G<|nV l]) (λj y H=>∃t,ts[j]?=G t/\y=.int (Builtin.bitAnd ((l:Int)/2^t) 1*2^j)) 01 ⟨_,_,R⟩ (λi H' hi M=>⟨_,nV<|ix ts i,.of<|M _ _ c,by rw[y03,zcw hi];rfl⟩) (λH' M=>⟨_,.of<|M _ _ c,by rw[y01];show y05 _⟩) ?_ ?_⟩
 .rintro D' i ys σ H2 x I hi M gd D Y C ⟨v,O,rfl⟩ yz;ac_rfl;let(p,x1,rfl,u,ex):=znd (.of<|M _ _ c) yz;apply zk ?_;rw[y03,zcw hi]at ex;cases ex;let h4':=L _<|zej hi;trivial;let hbs:=(zux l r (ix ts i) 01).2;apply⟨_,.of u.at',R,_,_,R,_,_,R,R,by omega,⟨by omega,by omega,y1j hbs 07⟩,?_⟩;show zcf (Gq:=λj y H=>∃t,ts[j]?=G t/\y=.int (Builtin.bitAnd ((l:Int)/2^t) 1*2^j)) (λj y H H' _ z=>z) 01 hi gd (u.g _ _ D) Y C u.g.tups (M.trans u.g) ⟨_,_,R⟩ ⟨ix ts i,zcw hi,R⟩
 intro D2 ys H2 D J g ay o;let ey:ys=(loL (l:Int) ts 0).map V.int:=by
  apply y1p λj=>?_;rw[y03,zx9];by_cases U:j<ys.length
  .let(t,et,e):=o j _<|y00 U;rw[y00 U,e,et,y49];rfl
  .rw[y0r 01,y0r 01];rfl
 subst ey;rw[←zs5]at q;show⟨_,R,_,.of g,q H2 J⟩
abbrev Tj:Stmt:=top 30
theorem T8:FnScope ["machine","tracks","width","seen"] ["machine","tracks","width"] (defScope Tj):={}
include T in
theorem zpu(d:Dfn K mg "spread" Tj ["machine","tracks","width"])(Qam:03 1 "letter_of" ["letter","tracks"] zf4)(Qr:03 1 "renamed" ["rooms","numbers"]<|ze8 K):03 2 "spread" ["machine","tracks","width"] (zes K):=by
 apply d.cal T8 23 47
 .nofun
 let(a,b,m,ts,W,f,rfl,(b1,c1,ls,c,r,pr,cg),ok,O,h5,h4,hW,hf,q):=h;let cf:=za6 hW;let f7:(1:Int)*2^((W:Nat):Int).toNat=((2^W:Nat):Int):=by rw[y3j,zmb];rfl
 let hfew:=ok.few;apply⟨_,(zab (zal (i:=3) T8.nd R (Or.inr R)<|zau ["letter"] [(1,"tracks")] 74 00 (zbp 00 T.b_range<|pa_c (zat zed zad<|pv 2) zaa) (λ_ _ _ _ _=>(zaj (i:=0) (show List.Nodup (["letter","tracks"]:List Str) by decide+kernel) 00 38)) (λ_ _ _ _ _=>za2) (λ_ _ _ _ _=>(zae Qam hr 01 00 046)))<|zac (zai<|za4 (pa_c (pv 2)<|pa_c (zbo zas 00 T.b_tuple iK<|pa_c (zau ["ways"] [(3,"seen")] 74 00 (zbd K<|zam 19 (pv 0) zad (λ_ _=>rfl)) (λ_ _ _ _ _=>(zaj (i:=0) (show List.Nodup (["ways","seen"]:List Str) by decide+kernel) 00 38)) (λ_ _ _ _ _=>za2) λ_ _ _ _ _=>(zae Qr hr 01 00<|pa_c (pv 1) 010)) zaa) (pa_c (zam 19 (pv 0) zad λ_ _=>rfl) zaa)))),?_⟩;apply zaw [G 04,G 49,G<|nV W,B] R ?_;trivial;apply⟨⟨by omega,by omega,by decide⟩,by rw[f7];omega,by rw[f7];omega,?_⟩;rw[f7,show((2^W:Nat):Int).toNat=2^W from rfl];apply zyj (λσ=>∃v,σ=[v,G 49]) (λi=>nV<|f i) 01 ⟨_,R⟩ ?_ ?_
 .rintro D i σ H' hi M u I ⟨v,rfl⟩;trivial;apply⟨i,b,ts,by rw[y4f],by omega,M _ _ O,h5,h4,λH2 g2=>zuf 01 hi u (g2 _ _ I) (M.trans g2) ⟨_,R⟩ ?_⟩;rw[(hf i hi).1]
 intro D1 H1 gd g1 eD1;let eD1':H1 D1=G (.lst<|((List.range<|2^W).map f).map nV):=by rw[eD1,y0o];rfl
 let db:ls.length=m.ways.length:=SS.Paired.len pr;let hwl:=ok.len;apply⟨_,c _,_,zaf (j:=1) R,⟨_,r _⟩,zg9 (n:=ls.length) (λσ=>∃v,σ=[v,G<|.ref D1]) (λj y H=>Line H y<|(List.range<|2^W).map λl=>(m.ways.getD j []).getD (f l) 0) 01 ⟨_,R⟩ (λi H' hi M=>⟨_,_,r _,by rw[y03,y00 hi];rfl⟩) (λH' M=>⟨_,r _,by rw[y01];show y05 _⟩) ?_ ?_⟩
 .rintro D i ys σ H2 x H2' hi M u I Y C ⟨v,rfl⟩ ⟨rfl,yx⟩;let ex:=yx _<|r _;let hi':i<m.ways.length:=by omega
  let(a2,ev,e4):=Paired.at2 pr<|y00 hi';rw[y03,ev]at ex;cases ex;let ax:=ok.line _<|y0c hi';let eg:m.ways.getD i []=m.ways[i]:=by rw[y02,y00 hi'];rfl
  trivial;apply⟨D1,a2,(List.range<|2^W).map f,m.ways[i],R,M _ _ eD1',by rw[y01,y0y];omega,e4,λx J=>?_,λp H3 o e3=>?_⟩
  .let(l,Y,rfl):=y0h.mp J;rw[ax];show(hf l<|y0v.mp Y).2
  apply zcf (λj y H H' ts z=>z.ts ts) 01 hi u (o _ _ I) Y C o.tups (M.trans o) ⟨_,R⟩ ⟨p,R,?_⟩;rw[e3,eg];simp only[y0o];rfl
 intro D2 ys H2 cz g2 br ay fg;apply⟨_,R,_,.inl ⟨.of br,λt1 H3 e=>⟨_,c _,_,zaf (j:=2) R,mkT λt2 H4 n4=>?_⟩⟩⟩;let m4:Same H2 H4:=e.g.trans n4.g;let ph:Same H H4:=g1.trans<|g2.trans m4;apply q t2 H4 ph ⟨t1,c1,ys,n4.at',n4.g _ _ e.at',zb0 (by rw[ay,db];show(y01 _).symm) λj y l L g=>?_,Or.inr cg⟩;let U:j<m.ways.length:=by rw[←db,←ay];show(y0f.mp L).1
 let al:G ((List.range<|2^W).map λl=>(m.ways.getD j []).getD (f l) 0)=G l:=by
  rw[←g];change _=(m.ways.map λline=>(List.range<|2^W).map λl=>line.getD (f l) 0)[j]?;rw[y03,y00 U,y02,y00 U];rfl
 cases al;show(fg j y L).ts m4.tups
abbrev Ku:Stmt:=top 69
theorem Qo:FnScope ["frame","machine","track","name"] ["frame"] (defScope Ku):={}
include T in
theorem zwr{Pr j Pm:Ad}(d:Dfn K mg "fitting_of" Ku ["frame"])(Q1:03 2 "is_place" ["thing"]<|zif SMALL)(Vs:03 2 "spread" ["machine","tracks","width"]<|zes K)(Qat:03 8 "met" ["one","other"]<|zew K Pr qs_reduced j qs_paired Pm qs_met λx y=>x&&y):03 9 "fitting_of" ["frame"] (zij K Pr qs_reduced j qs_paired Pm qs_met):=by
 apply d.cal Qo 23 47
 .nofun
 let(a,names,rfl,tr,tp,tm,c,fo,q):=h;let h4:=fo.1;apply⟨_,(zab (zal (i:=1) Qo.nd R 09<|zae Vs hr 01 00 (pa_c (zbs 00 T.g_ANY_ROW)<|pa_c (za1 zaa) (pa_c 050 zaa)))<|zab (zbz PassesOwn.never R (zfs K 00 T.b_enumerate 010) (zc6 K (n:=2) R<|zbc (zaj (i:=2) Qo.nd 00 38) (zbc (zaj (i:=3) Qo.nd 00 38) zc5))<|zac (za3 (zbe<|zae Q1 hr 01 00 (pa_c (pv 3) zaa)) (zac<|zal (i:=1) Qo.nd R 09 (zae Qat hr 01 00<|pa_c (pv 1) (pa_c (zae Vs hr 01 00<|pa_c (zbs 00 T.g_JUST_ONCE) (pa_c (za1 023)<|pa_c 050 zaa)) zaa))) zan)) (zac<|zai (pv 1))),?_⟩;apply zaw [G 04,B,B,B] R ?_;trivial;let bl:=zo4 names;let h01:∀l:Nat,l<2^names.length->(λ_:Nat=>0) l<2^anyM.w:=λl _=>(by decide:(0:Nat)<2^anyM.w);apply mkT λp0 O n0=>⟨_,.inl<|.of (n0.g _ _ c),?_⟩;rw[y01];apply⟨ca,p0,anyM,[],names.length,λ_=>0,R,T.c_ANY_ROW,zu1,n0.at',by decide,(λt h=>nomatch h),h4,(λl Y=>⟨R,h01 l Y⟩),λpm0 H1 g1 r1=>⟨⟨_,.of<|(n0.g.trans g1) _ _ c⟩,?_⟩⟩;let L:=(n0.g.trans g1) _ _ c;let ok0:(sprd anyM (λ_=>0) names.length).Ok:=zlr zu1 h4 h01;apply ztu (K:=K) (a:=a) (xs:=names.map V.str) (λi σ H'=>Same H1 H'/\∃(pm:Ad) (m:Mc) (U D:Option V),σ=[G 04,G<|.ref pm,U,D]/\RepMK K H' pm m/\m.Ok/\Canon m/\m.w=names.length/\∀row,m.Row row->m.fin 032=fitP (psOf<|sofar (bsOf names) i) row)
  ⟨Same.refl _,pm0,_,B,B,R,r1,ok0,zha ok0 R,R,λrow hr=>?_⟩ (λi σ H' _ z=>.of<|z.1 _ _ L) ?_ ?_
 .rw[zto,zfm (W:=names.length) zu1 h01 row 0 07 hr,zu0 _ λl Y=>(y0h.mp Y).elim λx J=>J.2.symm];rfl
 .rintro i y σ H' pt H4 C ⟨g,pm,m,U,D,rfl,M,ok,cn,hw,r⟩ p;rw[y03]at C;let(z,ez,rfl):=y0z.mp C;let hi:=(y0f.mp ez).1;let bz:=bsOf_at ez;trivial;apply⟨_,.of p.at',R,_,_,R,_,_,R,R,.str z,_,R,.str z,(λz' ez'=>by injection ez' with ez';subst ez';show zww<|fo.2 z (y0k ez)),λH5 o=>?_⟩;let e:Same H' H5:=p.g.trans o;let hv:isNm (.str z) SMALL=isP z:=rfl;rw[hv];cases hP:isP z with
  |false =>
   rw[hP]at bz;apply itO ⟨g.trans e,m,M.same e,ok,cn,hw,λrow hr=>?_⟩;rw[ztn (by rw[bl];show hi) bz];show r row hr
  |true =>
   rw[hP]at bz;let n17:=ztm (bs:=sofar (bsOf names) i) (by rw[zc2,bl];show h4) cn r;apply itB<|mkT λp6 H6 v=>⟨_,.inl<|.of ((g.trans<|e.trans v.g) _ _ L),?_⟩;rw[y01];let pi:∀l:Nat,l<2^names.length->loI (l:Int) [i] 0=(bitN i l:Int)/\bitN i l<2^justM.w:=λl Y=>⟨bit_lo i 01 l (by have:=za6 h4;omega),y2y _ 07⟩;apply⟨cj,p6,justM,[i],names.length,bitN i,R,T.c_JUST_ONCE,zmv,v.at',by simp,(λt h=>by rw[y0b.mp h];omega),h4,pi,λp7 H7 u r7=>?_⟩;let g07:Same H H7:=n0.g.trans<|g1.trans (g.trans<|e.trans (v.g.trans u));let ok7:(sprd justM (bitN i) names.length).Ok:=zlr zmv h4 λl Y=>(pi l Y).2;apply⟨pm,p7,m,_,R,tr.same g07,tp.same g07,tm.same g07,M.same<|e.trans (v.g.trans u),r7,ok,ok7,hw,?_,λp8 m8 H8 g8 r8 ok8 w8 cn8 tk8=>?_⟩
   .let:(sprd justM (bitN i) names.length).n=3:=rfl;rw[this];omega
   .refine⟨g.trans<|e.trans (v.g.trans<|u.trans g8),p8,R,m8,r8.k,ok8,cn8,w8.trans hw,λrow hr=>?_⟩;let I:m.Row row:=λl Y=>by rw[←w8];show hr l Y
    rw[tk8 row I,r row I,ztp (by rw[bl];show hi) bz,zfm zmv (λl Y=>(pi l Y).2) row 0 07 λl Y=>by rw[←hw];show I l Y];change(_&&justM.fin _)=_;rw[zqb]
 .rintro σ H' ⟨g,pm,m,U,D,rfl,M,ok,cn,hw,r⟩;trivial;apply q pm m H' (n0.g.trans<|g1.trans g) M ⟨ok,cn,hw,λrow hr=>?_⟩;rw[r row hr,y01,←bl,zra]
abbrev Q7:Stmt:=top 53
theorem zin:FnScope ["thing","sort","deepest"] ["thing","sort","deepest"] (defScope Q7):={}
theorem zsh{n k:Nat}(j:3<=k)(T:Txt K mg w tw rw fa cj ca ce co cn cNoNumber cNoRow)(d:Dfn K mg "is_of_sort" Q7 ["thing","sort","deepest"])(a:03 2 "is_place" ["thing"]<|zif SMALL)(e:03 2 "is_set" ["thing"]<|zif GREAT)(g:03 3 "is_name" ["thing"] zvf)
  (i:03 k "has_form" ["thing","deepest"]<|zii n):03 (k+1) "is_of_sort" ["thing","sort","deepest"] (zls n):=by
 apply d.cal zin 23 47
 .nofun
 let(v,l,rfl,ex,q):=h;let((kd,o),hz):=ex.thing;let L:∀b:Str,decide (V.str l=V.str b)=decide (l=b):=λb=>by simp
 apply⟨_,(zab (za3 (zaq zcd (pv 1) zaz 66) (zac<|zai (zae a hr 01 00 010)) zan)<|zab (za3 (zaq zcd (pv 1) zaz 66) (zac<|zai (zae e hr 01 00 010)) zan) (zab (za3 (zaq zcd (pv 1) zaz 66) (zac<|zai (zae g hr 01 00 010)) zan)<|zac (zai<|zae i hr 01 00 (pa_c (pv 0) 023)))),?_⟩;apply zaw [G v,G<|.str l,G<|.int n] R ?_;trivial;unfold sortB at q;apply ite2 (λc=>?_) λc=>?_
 .rw[Xq<|of_decide_eq_true c]at q;show⟨v,kd,R,o,hz,q⟩
 rw[Xp<|of_decide_eq_false (y1i.mpr c)]at q;apply ite2 (λc=>?_) λc=>?_
 .rw[Xq<|of_decide_eq_true c]at q;show⟨v,kd,R,o,hz,q⟩
 rw[Xp<|of_decide_eq_false (y1i.mpr c)]at q;apply ite2 (λc=>?_) λc=>?_
 .rw[Xq<|of_decide_eq_true c]at q;show⟨v,R,⟨⟨kd,o⟩,hz⟩,q⟩
 rw[Xp<|of_decide_eq_false (y1i.mpr c)]at q;show⟨v,R,ex,q⟩
abbrev Kq:Stmt:=top 54
theorem Tg:FnScope ["thing","deepest","sorts"] ["thing","deepest"] (defScope Kq):={}
include T in
theorem zsp{n k:Nat}(d:Dfn K mg "has_form" Kq ["thing","deepest"])(P7:03 k "is_of_sort" ["thing","sort","deepest"]<|sp_sort' n):03 (k+1) "has_form" ["thing","deepest"] (zii n):=by
 apply d.cal Tg 23 47
 .nofun
 let(v,rfl,ex,q):=h;apply⟨_,(zab (za3 (PW.pt<|zez (zaq zcd (pv 1) zad 66) (zez (zbj<|zbe (zay za8 00 T.b_isinstance iy<|pa_c (pv 0) (pa_c (zbl (v:=.ty "tuple") 00 T.b_tuple iK 00) zaa)))<|zdv (zaq zcd 050 zad 66))) 038 zan)<|zab (za3 (PW.pt<|zez (zbj<|zbe (zay za8 00 T.b_isinstance iy<|pa_c (zam 19 (pv 0) zad λ_ _=>rfl) (pa_c (zbl (v:=.ty "str") 00 T.b_str boot_str 00) zaa))) (zdv<|zaq (zkl K w) (zam 19 (pv 0) zad λ_ _=>rfl) (zbs 00 T.g_FORMS) (by with_unfolding_all rfl))) 038 zan) (zab (zal (i:=2) Tg.nd R 09<|zam (ix_dct K w) (zbs 00 T.g_FORMS) (zam 19 (pv 0) zad λ_ _=>rfl) (λ_ _=>rfl))<|zab (za3 (zaq zsb 050 (zat zca zad<|zay (zar K) 00 T.b_len iz 023) 66) 038 zan) (zac<|zai (zay (zdc K R) 00 T.b_all lB<|pa_c (zau ["part","sort"] [(1,"deepest")] 74 00 (pi_zipK K 00 T.b_zip<|pa_c (zb3 (zil K) (pv 0) (zb8 zad) zd4) 023) (λ_ _ _ _ _=>(zc6 K (n:=2) R<|zbc (zaj (i:=0) (show List.Nodup (["part","sort","deepest"]:List Str) by decide+kernel) 00 38) (zbc (zaj (i:=1) (show List.Nodup (["part","sort","deepest"]:List Str) by decide+kernel) 00 38) zc5))) (λ_ _ _ _ _=>za2) λ_ _ _ _ _=>(zae P7 hr 01 00<|pa_c (pv 0) (pa_c (pv 1)<|pa_c (zat zcj (pv 2) zad) zaa))) zaa)))),?_⟩;apply zaw [G v,G<|.int n,B] R ?_;trivial;cases n with
 |zero =>
  show itT (show((0:Nat):Int)=0 from rfl)<|q H 011
 |succ n =>
 rw[Xf<|show¬((n+1:Nat):Int)=0 by omega];ac_rfl;let(((kd,o),hz),dh):=id ex;apply zk ?_;apply iteF ⟨kd,o,by decide,?_⟩;cases o with
 |tup e =>
  rename_i a xs;let(Y,J):=dh a xs R e;let O:SqT K H a xs:=.of e;apply iteF ⟨xs,.inr O,?_⟩;cases xs with
  |nil =>
   let h:=q H 011;simp only[formH,e]at h;show iteT h
  |cons x0 r =>
  rw[Xf<|show¬(((x0::r).length:Nat):Int)=0 by rw[y0j];omega];ac_rfl;let((k0,hk0),_):=(J x0 y0a).thing;apply zk ?_;apply iteF<|ixm O zb1 ⟨k0,hk0,by decide,?_⟩;cases hk0 with
  |str wd =>
   let q':∀H',Same H H'->Q (.bl<|match forms.lookup wd with|some c=>zipB (formH H n) r c|none=>Fa) H':=λH' g=>by
    let h:=q H' g;simp only[formH,e]at h;show h
   let(fm,hd,hf):=T.f_FORMS.ex;apply iteF<|ixm O zb1 ⟨wd,R,fm,hd,?_⟩;rcases hf wd with⟨c,b,gy,pj,aw⟩|⟨gy,pj⟩
   .rw[gy]at q';replace q':∀H',Same H H'->Q (.bl<|zipB (formH H n) r c) H':=q';rw[pj];apply iteF<|ixm O zb1 ⟨wd,R,fm,hd,.ref b,pj,_,.inr O,_,.inr<|aw H,?_⟩;rw[y0j,y01];by_cases M:r.length=c.length
    .rw[Xg<|show(((r.length+1:Nat)):Int)=1+(c.length:Int) by omega];apply iteF ⟨_,O,zgc 05,λp H1 n1=>?_⟩;let ec:cutL (V.str wd::r) (G 1) B=r:=by
      rw[show((1:Int))=((1:Nat):Int)from rfl,zem];rfl
     rw[ec]at n1;let lr:r.length<=1000:=by rw[y0j]at Y;omega
     apply⟨b,R,⟨_,.of n1.at'⟩,⟨_,aw H1⟩,cz_map (K:=K) (a:=p) (b:=b) (xs:=r) (ys:=c.map V.str) (λσ=>∃v1 U,σ=[v1,U,G<|.int ((n+1:Nat):Int)]) (λi=>.bl<|sortB (formH H n) (r.getD i .non) (c.getD i "")) lr (by rw[y01];show M) (.of n1.at') (aw H1) ⟨_,_,R⟩ ?_ ?_⟩
     .rintro D i σ Gq G' pp x y ex1 ey1 g u I ⟨v1,U,rfl⟩ nw;rw[y03]at ey1;let(sx,l,rfl):=y0z.mp ey1;let hi:i<r.length:=(y0f.mp ex1).1;let j:x∈r:=y0k ex1;let gx:Same H G':=n1.g.trans<|g.trans nw.g;let exx:=J x<|y06 _ j;trivial;apply⟨_,.of nw.at',R,_,_,R,_,_,R,R,?_⟩;let en:(((n+1:Nat):Int)-1)=(n:Int):=by omega
      rw[en];apply⟨x,sx,R,exx.same gx,λG2 g2=>zmx lr hi u (g2 _ _<|nw.g _ _ I) (g.trans<|nw.g.trans g2) ⟨_,_,R⟩ ?_⟩;let L:r.getD i .non=x:=by rw[y02,ex1];rfl
      let e2:c.getD i ""=sx:=by rw[y02,l];rfl
      rw[L,e2];unfold sortB;rw[ze4 gx exx]
     .intro D Gq u g C;apply⟨(List.range r.length).map λi=>sortB (formH H n) (r.getD i .non)<|c.getD i "",.of (by rw[C,y0o];rfl),?_⟩;let h:=q' Gq<|n1.g.trans g;rw[zhd M]at h;rw[y32];show h
    .rw[Xf<|show¬(((r.length+1:Nat)):Int)=1+(c.length:Int) by omega];let h:=q' H 011;rw[znc M]at h;show iteT h
   .rw[gy]at q';rw[pj];show iteT<|q' H 011
  |_ =>
   let h:=q H 011;simp only[formH,e]at h;show iteT h
 |non=>show iteT<|q H 011
 |bl b=>show iteT<|q H 011
 |int i=>show iteT<|q H 011
 |str z=>show iteT<|q H 011
 |lst e =>
  let h:=q H 011;simp only[formH,e]at h;show iteT h
 |dK e =>
  let h:=q H 011;simp only[formH,e]at h;show iteT h
theorem zo7(T:Txt K mg w tw rw fa cj ca ce co cn cNoNumber cNoRow)(p:Dfn K mg "is_of_sort" Q7 ["thing","sort","deepest"])(Y:Dfn K mg "has_form" Kq ["thing","deepest"])(e:03 2 "is_place" ["thing"]<|zif SMALL)(g:03 2 "is_set" ["thing"]<|zif GREAT)(a:03 3 "is_name" ["thing"] zvf):
  ∀n,03 (2*n+4) "has_form" ["thing","deepest"] (zii n)/\03 (2*n+5) "is_of_sort" ["thing","sort","deepest"] (zls n)
 |0=>by
  let c:=zsp (n:=0) T Y ((p.never (sp:=sp_sort' 0) λvs H Q E h=>h).mono (y13 3):03 3 _ _ _);show⟨c,zsh 07 T p e g a c⟩
 |n+1=>by
  let f:=zo7 T p Y e g a n;let c:=zsp (n:=n+1) T Y f.2;show⟨c,zsh 01 T p e g a c⟩
abbrev Q9:Stmt:=top 55
theorem zfi:FnScope ["saying"] ["saying"] (defScope Q9):={}
include T in
theorem zwp(d:Dfn K mg "inner_sayings" Q9 ["saying"]):03 1 "inner_sayings" ["saying"] zcp:=by
 apply d.cal zfi 23 47
 .nofun
 let(a,xs,rfl,e,Y,j,q):=h;apply⟨_,(zac<|zai (zau ["thing"] [] 74 00 (zbd K<|pv 0) (λ_ _ _ _ _=>(zaj (i:=0) (show List.Nodup (["thing"]:List Str) by decide+kernel) 00 38)) (λ_ _ _ _ _=>(zx3<|zbe (zay za8 00 T.b_isinstance iy<|pa_c (pv 0) (pa_c (zbl (v:=.ty "tuple") 00 T.b_tuple iK 00) zaa)))) λ_ _ _ _ _=>(pv 0))),?_⟩;apply zaw [G 04] R ?_;trivial;let O:SqT K H a xs:=.of e;apply⟨⟨xs,O⟩,cf_tup (λσ=>∃v,σ=[v]) (isT H) id Y O ⟨_,R⟩ ?_ ?_⟩
 .rintro D i σ H' x hi M J g u I ⟨v,rfl⟩;let(k,c):=j x M;trivial;apply⟨k,c.same g,by decide,?_⟩;rw[Kd.isT c];cases p:isT H x with
  |true=>show iteT<|cf_step Y J p u I g ⟨_,R⟩ R
  |false=>show iteF<|zup J p I g ⟨_,R⟩
 .intro D H' u g I;rw[List.map_id]at I;show q D H' u g I
abbrev V7:Stmt:=top 56
theorem zpk:FnScope ["saying"] ["saying"] (defScope V7):={}
include T in
theorem zso(d:Dfn K mg "is_bare" V7 ["saying"])(c:03 1 "inner_sayings" ["saying"] zcp):03 2 "is_bare" ["saying"] zf6:=by
 apply d.cal zpk 23 47
 .nofun
 let(v,sy,rfl,r,q):=h;let U:=zi5 hr 8 07;apply⟨_,(zac<|zai (zb9 (zx5 U) (zae c hr 01 00 010) (za1 zaa) 66)),?_⟩;apply zaw [G v] R ?_;trivial;ac_rfl;let(a,xs,rfl,e,Y,j,M):=r.items;apply zk ?_;apply⟨a,xs,R,e,by omega,j,λD H1 u g1 C=>⟨by decide,λp H2 o=>⟨_,(zvs (k:=0) (.of<|o.g _ _ C) o.lst).up 07,?_⟩⟩⟩;let h:=q H2<|g1.trans o.g;let O:sy.isBare=decide (xs.filter (isT H)=[]):=by
  generalize xs.filter (isT H)=ys at M;cases sy with
  |bare w n m=>cases M;rfl
  |neg s=>cases M;rfl
  |two w s t=>cases M;rfl
  |qu w n s=>cases M;rfl
 rw[O]at h;show h
abbrev Qz:Stmt:=top 57
theorem zg5:FnScope ["saying"] ["saying"] (defScope Qz):={}
include T in
theorem zwt{n:Nat}(d:Dfn K mg "count_parts" Qz ["saying"])(c:03 1 "inner_sayings" ["saying"] zcp)(o:03 (n+1) "count_parts" ["saying"]<|zfo n):03 (n+1+1) "count_parts" ["saying"] (zfo<|n+1):=by
 apply d.cal zg5 23 47
 .nofun
 let(v,sy,rfl,r,hd,q):=h;apply⟨_,(zac<|zai (zat zca zad<|zay (zbr K R) 00 T.b_sum boot_sum (pa_c (zau ["inner"] [] 74 00 (zba K<|zae c hr 01 00 010) (λ_ _ _ _ _=>(zaj (i:=0) (show List.Nodup (["inner"]:List Str) by decide+kernel) 00 38)) (λ_ _ _ _ _=>za2) λ_ _ _ _ _=>(zae o hr 01 00 010)) zaa))),?_⟩;apply zaw [G v] R ?_;trivial;let(a,xs,rfl,e,Y,j,M):=r.items;apply⟨a,xs,R,e,by omega,j,λD1 H1 p g1 L=>⟨⟨_,.of L⟩,?_⟩⟩;let z:=Paired.len M;let U:(xs.filter<|isT H).length<=1000:=y1a (y2a _ _) 01;apply zm1 (K:=K) (a:=D1) (xs:=xs.filter<|isT H) (λσ=>∃v,σ=[v]) (λi=>.int<|((sy.inner[i]?).map Sy.parts).getD 0) U (.of L) ⟨_,R⟩ ?_ ?_
 .rintro D i σ H' x hi J g u I ⟨v,rfl⟩;let(t,y,rt):=Paired.at M J;let O:=(zgp<|y0k y).1;trivial;apply⟨x,t,R,rt.same<|g1.trans g,by omega,λH2 g2=>zmx U hi u (g2 _ _ I) (g.trans g2) ⟨_,R⟩<|by rw[y];rfl⟩
 .intro D H' u g C;apply⟨D,R,(List.range (xs.filter<|isT H).length).map λi=>(((sy.inner[i]?).map Sy.parts).getD 0:Nat),.of (by rw[C,y0o];rfl),?_⟩;let h:=q H'<|g1.trans g;let l:(1:Int)+((List.range (xs.filter<|isT H).length).map λi=>((((sy.inner[i]?).map Sy.parts).getD 0:Nat):Int)).sum=(sy.parts:Int):=by
   rw[z];cases sy with
   |bare w n m=>rfl
   |neg s=>change(1:Int)+((s.parts:Int)+0)=((s.parts+1:Nat):Int);omega
   |two w s t=>change(1:Int)+((s.parts:Int)+((t.parts:Int)+0))=((s.parts+t.parts+1:Nat):Int);omega
   |qu w n s=>change(1:Int)+((s.parts:Int)+0)=((s.parts+1:Nat):Int);omega
  rw[l];show h
theorem zln(T:Txt K mg w tw rw fa cj ca ce co cn cNoNumber cNoRow)(d:Dfn K mg "count_parts" Qz ["saying"])(e:03 1 "inner_sayings" ["saying"] zcp):∀n,03 (n+1) "count_parts" ["saying"] (zfo n)
 |0=>(d.never λvs H Q E h=>by let(v,s,_,_,hd,_):=h;show Xa hd<|y2z _).mono 07
 |n+1=>zwt T d e<|zln T d e n
abbrev Q8:Stmt:=top 58
theorem zfh:FnScope ["thing"] ["thing"] (defScope Q8):={}
include T in
theorem zss(d:Dfn K mg "is_any_saying" Q8 ["thing"])(i:03 28 "has_form" ["thing","deepest"]<|zii 12)(o:03 14 "count_parts" ["saying"]<|zfo 13):03 29 "is_any_saying" ["thing"] zf9:=by
 apply d.cal zfh 23 47
 .nofun
 let(v,rfl,ex,q):=h;apply⟨_,(zac<|zai (zci (zae i hr 01 00<|pa_c (pv 0) (pa_c (zbs 00 T.g_DEEPEST) zaa))<|zcy (zb9 zsc (zae o hr 01 00 010) (zbs 00 T.g_MOST_PARTS) 66))),?_⟩;apply zaw [G v] R ?_;trivial;apply⟨v,R,ex,λH1 g1=>⟨_,R,ite2 (λc=>?_) λc=>q Fa H1 g1 ⟨λz=>(by cases z),λ⟨s,r,L,hd,_⟩=>Xa (znx r L hd) c⟩⟩⟩;let(sy,r,L,hd):=zds c;apply⟨v,sy,R,r.same g1,by omega,λH2 J=>q _ H2 (g1.trans J) ⟨λz=>⟨sy,r,L,hd,?_⟩,λ⟨s,r',_,_,M⟩=>?_⟩⟩
 .let:=of_decide_eq_true z;omega
 .rw[r.det r'];show Xg 01
abbrev Vp:Stmt:=top 59
theorem zrk:FnScope ["saying","known","barred","most"] ["saying","known","barred","most"] (defScope Vp):={}
include T in
theorem ok_let{n:Nat}{bw:List Str}(d:Dfn K mg "is_let" Vp ["saying","known","barred","most"])(Qk:03 1 "inner_sayings" ["saying"] zcp)(Qbd:03 2 "is_bare" ["saying"] zf6)
  (Vb:03 (n+2) "is_let" ["saying","known","barred","most"]<|zj2 K bw n):03 (n+1+2) "is_let" ["saying","known","barred","most"] (zj2 K bw<|n+1):=by
 apply d.cal zrk 23 47
 .nofun
 let(v,a,ba,sy,tl,mo,rfl,r,hd,ea,Y,U,q):=h;apply⟨_,(zab (za3 (PW.pt<|zez (zaq zpt 070 (pv 3) 66) (zdv<|zaq (zoa K) (zam 19 (pv 0) zad λ_ _=>rfl) (pv 2) (by with_unfolding_all rfl))) 038 zan)<|zab (za3 (zaq (zoa K) (zam 19 (pv 0) zad λ_ _=>rfl) (zbs 00 T.g_TELLING_WORDS)<|by with_unfolding_all rfl) (zac<|zai (zci (zb9 (zsa K) (zam 19 (pv 0) zad λ_ _=>rfl) (pv 1)<|by with_unfolding_all rfl)<|zcy (zae Vb hr 01 00<|pa_c (zam 19 (pv 0) zad λ_ _=>rfl) (pa_c (zat zgi (pv 1)<|za1 (pa_c (zam 19 (pv 0) zad λ_ _=>rfl) zaa))<|pa_c (pv 2) (pa_c (pv 3) zaa))))) zan) (zab (za3 (zbe<|zae Qbd hr 01 00 010) (zac<|zai (zay (zdc K R) 00 T.b_all lB<|pa_c (zau ["name"] [(1,"known")] 74 00 (zbd K<|zb3 (zil K) (pv 0) (zb8 zad) zd4) (λ_ _ _ _ _=>(zaj (i:=0) (show List.Nodup (["name","known"]:List Str) by decide+kernel) 00 38)) (λ_ _ _ _ _=>za2) λ_ _ _ _ _=>(zb9 (zoa K) (pv 0) (pv 1)<|by with_unfolding_all rfl)) zaa)) zan)<|zac (zai<|zay (zdc K R) 00 T.b_all lB (pa_c (zau ["inner"] [(1,"known"),(2,"barred"),(3,"most")] 74 00 (zba K<|zae Qk hr 01 00 010) (λ_ _ _ _ _=>(zaj (i:=0) (show List.Nodup (["inner","known","barred","most"]:List Str) by decide+kernel) 00 38)) (λ_ _ _ _ _=>za2) λ_ _ _ _ _=>(zae Vb hr 01 00<|pa_c (pv 0) (pa_c (pv 1)<|pa_c (pv 2) (pa_c (pv 3) zaa)))) zaa)))),?_⟩;apply zaw [G v,G 04,G<|.ref ba,G<|.int mo] R ?_;trivial;rw[letB_eq]at q;apply⟨_,.inl<|.of ea,ite2 (λc=>?_) λc=>?_⟩
 .let c':=of_decide_eq_true c;rw[y01]at c';let h:=q H 011;rw[Xf 01,y1q,y1q]at h;show h
 let c':=of_decide_eq_false<|y1i.mpr c;rw[y01]at c';rw[Xg 01,y1s]at q;let tw':=T.t_TELLING_WORDS H;ac_rfl;obtain⟨p0,rest,ev,e0⟩:∃p rest,v=.ref p/\H p=G (.tup (.str (wordOf sy)::rest)):=by
  cases r with
  |bare L e=>show⟨_,_,R,e⟩
  |neg e J=>show⟨_,_,R,e⟩
  |two L e O M=>show⟨_,_,R,e⟩
  |qu L e J=>show⟨_,_,R,e⟩
 apply zk ?_;subst ev;apply ixm (.of e0) zb1 ⟨_,.inr<|U H,R,zgr bw,?_⟩;rw[zek];by_cases hwb:wordOf sy∈bw
 .rw[Xg hwb];let h:=q H 011;rw[Xf λz=>z hwb,y1q]at h;show iteT h
 rw[Xf hwb];rw[Xg hwb,y1s]at q;apply iteF<|ixm (.of e0) zb1 ⟨_,.inr tw',R,R,?_⟩;let ai:(∀w n t,sy ≠ .qu w n t)->sy.isBare=Fa->∀H1,Same H H1->zcp [.ref p0] H1 (λx H1=>asR x λa_1=>(∃xs,SqL K H1 a_1 xs)/\
   cBody ["inner"] [(1,"known"),(2,"barred"),(3,"most")] (gName 0) tYes (tCall (zj2 K bw n) [] E0<|tCons (tVar 0) (tCons (tVar 1)<|tCons (tVar 2) (tCons (tVar 3) tNil)))
    [G<|.ref p0,G<|V.ref a,G<|V.ref ba,G<|V.int mo] (λx H1=>asR x λp=>∃x,SqL K H1 p (List.map V.bl x)/\Q (V.bl<|x.all id) H1) (Itl K a_1) H1) E0:=by
  intro nq rg H1 g1;ac_rfl;let(p1,xs,ev',e,hl3,hk,pr):=r.items;apply zk ?_;cases ev';rw[zp9 nq rg]at q;let eis:xs.filter (isT H1)=xs.filter (isT H):=List.filter_congr λy C=>by
   let(k,z):=hk y C;rw[←Kd.isT z,←Kd.isT (z.same g1)]
  let ar:=Paired.len pr;let l3:(xs.filter<|isT H).length<=1000:=y1a (y2a _ _) 01;apply⟨p0,xs,R,g1 _ _ e,by omega,λy C=>let⟨k,z⟩:=hk y C;⟨k,z.same g1⟩,λD1 H2 gd g2 e2=>⟨⟨_,.of e2⟩,?_⟩⟩;rw[eis]at e2;let ao:=g1.trans g2;apply zm1 (K:=K) (a:=D1) (xs:=xs.filter<|isT H) (λσ=>∃v,σ=[v,G<|V.ref a,G<|V.ref ba,G<|V.int mo]) (λi=>.bl<|((sy.inner[i]?).map<|letB bw mo tl).getD N) l3 (.of e2) ⟨_,R⟩ ?_ ?_
  .rintro D i σ H' x hi J g u aa ⟨v,rfl⟩;let(t,et,rt):=Paired.at pr J;let dt:=(zgp<|y0k et).1;let gx:=ao.trans g;trivial;show⟨x,a,ba,t,tl,mo,R,rt.same gx,by omega,gx _ _ ea,by omega,U,λH3 g3=>zmx l3 hi u (g3 _ _ aa) (g.trans g3) ⟨_,R⟩<|by rw[et];rfl⟩
  .intro D H' u g eD;apply⟨(List.range (xs.filter<|isT H).length).map λi=>((sy.inner[i]?).map<|letB bw mo tl).getD N,.of (by rw[eD,y0o];rfl),?_⟩;rw[ar,zde];show q H'<|ao.trans g
 cases r with
 |qu L e J =>
  rename_i wd nm x t;rw[show wordOf (Sy.qu wd nm t)=wd from rfl,zjq wd L];replace q:∀H',Same H H'->Q (.bl<|decide (nm∉tl)&&letB bw mo (tl++[nm]) t) H':=q;let dn:=zi7 wd nm t;apply iteT<|ixm (.of e) (zaf (j:=1) R) ⟨_,.inl<|.of ea,R,zgr tl,?_⟩;rw[zek];by_cases I:nm∈tl
  .rw[Xg I];let h:=q H 011;rw[Xf λz=>z I,y1q]at h;show iteF h
  rw[Xf I];rw[Xg I,y1s]at q;apply iteT<|ixm (.of e) (zaf (j:=2) R) (ixm (.of e) (zaf (j:=1) R)<|mkT λp1 H1 n1=>⟨_,n1.g _ _ ea,_,n1.at',zah (by rw[y01,y0s];omega),λp2 H2 o=>?_⟩);let g2:=n1.g.trans o.g;show⟨x,p2,ba,t,tl++[nm],mo,R,J.same g2,by omega,by rw[o.at',y0u];rfl,by rw[y0e,y0s];omega,U,λH3 g3=>q H3<|g2.trans g3⟩
 |neg e J =>
  rw[show wordOf (Sy.neg _)=("not":Str)from rfl,zwv];show iteF ⟨_,_,R,.neg e J,λH1 g1=>by trivial;show iteF<|ai (λ_ _ _ z=>by cases z) R H1 g1⟩
 |two L e O M =>
  rename_i wd x y t1 t2;rw[show wordOf (Sy.two wd t1 t2)=wd from rfl,ztc wd L];show iteF ⟨_,_,R,.two L e O M,λH1 g1=>by trivial;show iteF<|ai (λ_ _ _ z=>by cases z) R H1 g1⟩
 |bare L e =>
  rename_i wd nm m;rw[show wordOf (Sy.bare wd nm m)=wd from rfl,zuy wd L];replace q:∀H',Same H H'->Q (.bl<|decide (nm∈tl)&&decide (m∈tl)) H':=q;apply iteF ⟨_,_,R,.bare L e,λH1 g1=>itB ⟨_,.of<|g1 _ _ e,zgc 05,λp H2 o=>⟨⟨_,.of o.at'⟩,?_⟩⟩⟩;let ec:cutL [V.str wd,V.str nm,V.str m] (G 1) B=[nm,m].map V.str:=by
   rw[show((1:Int))=((1:Nat):Int)from rfl,zem];rfl
  rw[ec]at o;let g:=g1.trans o.g;apply zcl (K:=K) (a:=p) (xs:=[nm,m].map V.str) (λσ=>∃v,σ=[v,G 04]) (λy=>.bl<|inV y (tl.map V.str)) 05 (.of o.at') ⟨_,R⟩ ?_ ?_
  .rintro D i σ H' x hi hm J g' u aa ⟨v,rfl⟩;let l:flatV x=N:=by
    let(z,_,rfl):=y0h.mp hm;rfl
   trivial;show⟨_,.inl<|.of (g' _ _<|g _ _ ea),l,zgr tl,zbi 05 J u aa g' ⟨_,R⟩ R⟩
  .intro D H' u g' aa;apply⟨[decide (nm∈tl),decide (m∈tl)],.of ?_,?_⟩
   .rw[aa];change G (HO.lst [.bl<|inV (.str nm) (tl.map V.str),.bl<|inV (.str m) (tl.map V.str)])=_;rw[zek,zek];rfl
   .let h:=q H'<|g.trans g';rw[show[decide (nm∈tl),decide (m∈tl)].all id=(decide (nm∈tl)&&(decide (m∈tl)&&N))from rfl,Bool.and_true];show h
theorem zu2{bw:List Str}(T:Txt K mg w tw rw fa cj ca ce co cn cNoNumber cNoRow)(d:Dfn K mg "is_let" Vp ["saying","known","barred","most"])(e:03 1 "inner_sayings" ["saying"] zcp)(g:03 2 "is_bare" ["saying"] zf6):
  ∀n,03 (n+2) "is_let" ["saying","known","barred","most"]<|zj2 K bw n
 |0=>(d.never λvs H Q E h=>by let(v,a,c,s,tl,mo,_,_,hd,_):=h;show Xa hd<|y2z _).mono 07
 |n+1=>ok_let T d e g<|zu2 T d e g n
abbrev K1:Stmt:=top 60
theorem zj8:FnScope ["thing","frame"] ["thing","frame"] (defScope K1):={}
include T in
theorem zwo(d:Dfn K mg "is_saying" K1 ["thing","frame"])(M:03 4 "is_frame" ["thing"] zyz)(Y:03 29 "is_any_saying" ["thing"] zf9)
  (C:03 15 "is_let" ["saying","known","barred","most"]<|zj2 K treeWords 13):03 30 "is_saying" ["thing","frame"] (znr treeWords 4):=by
 apply d.cal zj8 23 47
 .nofun
 let(v,u,rfl,ex,p,hf,q):=h;apply⟨_,(zac<|zai (zci (zae M hr 01 00 019)<|zci (zae Y hr 01 00 010) (zcy<|zae C hr 01 00 (pa_c (pv 0)<|pa_c (pv 1) (pa_c (zbs 00 T.g_TREE_WORDS)<|pa_c (zbs 00 T.g_MOST_NAMES) zaa))))),?_⟩;apply zaw [G v,G u] R ?_;trivial;apply⟨u,R,p,hf,λH1 g1=>⟨_,R,ite2 (λc=>?_) λc=>q Fa H1 g1 ⟨λz=>(by cases z),λ⟨a,tl,s,ev,e,g,_⟩=>Xa (show frB H u=N by rw[ev];simp only[frB,e];show g) c⟩⟩⟩;ac_rfl;let(a,tl,rfl,e,g,h4):=frB_ex c;apply zk ?_;apply⟨v,R,ex.same g1,λb H2 J U=>⟨_,R,?_⟩⟩;let back:(∃s,AnySay H1 v s)↔∃s,AnySay H v s:=⟨λ⟨s,r,L,hd,hp⟩=>by
   let O:=znx r L hd;rw[ze4 g1 ex]at O;ac_rfl;let(s',r',i,j):=zds O;apply zk ?_;rw[r.det<|r'.same g1]at hp;show⟨s',r',i,j,hp⟩,λ⟨s,r,L,hd,hp⟩=>⟨s,r.same g1,L,hd,hp⟩⟩
 rw[back]at U;apply ite2 (λD=>?_) λD=>q Fa H2 (g1.trans J) ⟨λz=>(by cases z),λ⟨_,_,s,_,_,_,x,_⟩=>Xa (U.mpr ⟨s,x⟩) D⟩;ac_rfl;let(sy,x):=U.mp D;let(r,L,hd,hp):=id x;apply zk ?_;apply⟨v,a,rw,sy,tl,4,R,r.same<|g1.trans J,by omega,J _ _<|g1 _ _ e,by omega,T.t_TREE_WORDS,λH3 o=>q _ H3 (g1.trans<|J.trans o) ⟨λz=>⟨a,tl,sy,R,e,g,x,z⟩,λ⟨I,tl',s',ev,l,_,as',z⟩=>?_⟩⟩;cases ev;rw[e]at l;let y:tl=tl':=by
  let:=(Option.some.inj l);show znj<|HO.lst.inj this
 subst y;rw[r.det as'.1];show z
abbrev V2:Stmt:=top 70
theorem zpi:FnScope ["word"] ["word"] (defScope V2):={}
include T in
theorem ok_rule(d:Dfn K mg "rule_of" V2 ["word"]):03 1 "rule_of" ["word"] (zq5 K):=by
 apply d.cal zpi 23 47
 .nofun
 let(wd,rfl,q):=h;apply⟨_,(zab (za3 (zaq zcd (pv 0) zaz 66) (zac<|zai (zbs 00 T.g_COMES_AHEAD)) zan)<|zab (za3 (zaq zcd (pv 0) zaz 66) (zac<|zai (zbs 00 T.g_COMES_NEXT)) zan) (zac<|zai (zbs 00 T.g_EACH_IN))),?_⟩;apply zaw [G<|.str wd] R ?_;trivial;unfold ruleM at q;by_cases O:wd="ahead"
 .rw[Xq O]at q;show itT O<|q _ T.c_COMES_AHEAD
 rw[Xp O]at q;apply itF O ?_;by_cases M:wd="next"
 .rw[Xq M]at q;show itT M<|q _ T.c_COMES_NEXT
 rw[Xp M]at q;show itF M<|q _ T.c_EACH_IN
abbrev Vz:Stmt:=top 71
theorem Tt:FnScope ["saying","frame","tracks"] ["saying","frame"] (defScope Vz):={}
include T in
theorem zwu{Pr j Pm:Ad}(d:Dfn K mg "bare_of" Vz ["saying","frame"])(Qbf:03 1 "rule_of" ["word"]<|zq5 K)(Vs:03 2 "spread" ["machine","tracks","width"]<|zes K)(P1:03 9 "fitting_of" ["frame"]<|zij K Pr qs_reduced j qs_paired Pm qs_met)(Qat:03 8 "met" ["one","other"]<|zew K Pr qs_reduced j qs_paired Pm qs_met λx y=>x&&y):
  03 10 "bare_of" ["saying","frame"] (znu K Pr qs_reduced j qs_paired Pm qs_met):=by
 apply d.cal Tt 23 47
 .nofun
 let(v,b,tl,wd,n,m,rfl,r,c,tm,rp,eb,p,I,hm,hwd,q):=h;let hu:=zi5 hr 8 07;apply⟨_,(zab (ze0 (i:=2) Tt.nd R 09 ["name"] [(1,"frame")] 74 00 (zbd K<|zb3 (zil K) (pv 0) (zb8 zad) zd4) (λ_ _ _ _ _=>(zaj (i:=0) (show List.Nodup (["name","frame"]:List Str) by decide+kernel) 00 38)) (λ_ _ _ _ _=>za2) λ_ _ _ _ _=>(zcc K PySem.F.plainAttrs_list PySem.F.slot_list_index PySem.F.type_list_index (zp7 K hu) (pv 1) 010))<|zac (zai<|zae Qat hr 01 00 (pa_c (zae Vs hr 01 00<|pa_c (zae Qbf hr 01 00<|pa_c (zam 19 (pv 0) zad λ_ _=>rfl) zaa) (pa_c (pv 2)<|pa_c 070 zaa))<|pa_c (zae P1 hr 01 00 019) zaa))),?_⟩;apply zaw [G v,G 49,B] R ?_;trivial;cases rp with
 |bare L e =>
 rename_i a;apply⟨_,.of e,zgc (by simp),λp3 H3 n3=>⟨⟨_,.of n3.at'⟩,?_⟩⟩;let ec:cutL [V.str wd,V.str n,V.str m] (G 1) B=[n,m].map V.str:=by
  rw[show((1:Int))=((1:Nat):Int)from rfl,zem];rfl
 rw[ec]at n3;let fo:=p.ok;let hz4:=p.four;let hl3:tl.length<=4:=fo.1;let hi:=y1f.mpr I;let U:=y1f.mpr hm;apply zcl (K:=K) (a:=p3) (xs:=[n,m].map V.str) (λσ=>∃v,σ=[v,G 49]) (λv=>match v with|.str z=>nV (tl.idxOf z)|_=>.non) 05 (.of n3.at') ⟨_,R⟩ ?_ ?_
 .rintro D3 i σ H4 x hx0 hmm J M bf bg ⟨v,rfl⟩;let(z,mz,rfl):=y0h.mp hmm;let hz:z∈tl:=by
   simp only[y08,y0n,or_false]at mz;rcases mz with rfl|rfl
   .exact I
   .exact hm
  trivial;show⟨.inl ⟨_,.of<|(n3.g.trans M) _ _ eb⟩,_,.of<|(n3.g.trans M) _ _ eb,hz,by omega,zbi 05 J bf bg M ⟨_,R⟩ R⟩
 intro D H4 u g4 C;let ph:=n3.g.trans g4;let bd:H4 D=G (.lst<|([tl.idxOf n,tl.idxOf m]:List Nat).map nV):=C;let g:∀l:Nat,l<2^tl.length->l<16:=λl Y=>by
  let:2^tl.length<=2^4:=Nat.pow_le_pow_right 07 hl3;omega
 let(rok,rw2,rn):=zvq wd;let m3:∀l:Nat,l<2^tl.length->seen2 (tl.idxOf n) (tl.idxOf m) l<2^(ruleM wd).w:=λl _=>by rw[rw2];show zvj _ _ _
 apply ixm (.of<|ph _ _ e) zb1 ⟨wd,R,λp0 CM=>⟨_,.inl<|.of (ph _ _ eb),p0,D,ruleM wd,[tl.idxOf n,tl.idxOf m],tl.length,seen2 (tl.idxOf n)<|tl.idxOf m,by rw[y01],CM,rok,bd,by simp,(λt p=>by simp only[y08,y0n,or_false]at p;rcases p with rfl|rfl<;>omega),by omega,(λl Y=>⟨zvk 01 01<|g l Y,m3 l Y⟩),λp5 H5 o rm=>?_⟩⟩;let pk:=ph.trans o;apply⟨b,tl,R,r.same pk,c.same pk,tm.same pk,pk _ _ eb,fo,λp6 mF H6 g6 rF FF=>?_⟩;let g06:=pk.trans g6;let hFn:=ztm (by rw[zo4];omega) FF.canon FF.takes;apply⟨p5,p6,_,mF,R,r.same g06,c.same g06,tm.same g06,rm.same g6,rF,zlr rok 01 m3,FF.ok,FF.w.symm,?_,λp7 O H7 g7 r7 ok7 w7 can fin7=>q p7 O H7 (g06.trans g7) r7 ⟨ok7,can,w7,λrow hr=>?_⟩⟩
 .change(ruleM wd).n*mF.n<=100;show y1a (Nat.mul_le_mul rn hFn) 07
 .let m9:(sprd (ruleM wd) (seen2 (tl.idxOf n)<|tl.idxOf m) tl.length).Row row:=λl Y=>by have:=hr l Y;rw[w7]at this;show this
  rw[fin7 row m9,zvd,zfm rok m3 row 0 rok.pos m9,zvp,FF.takes row λl Y=>by rw[FF.w];show m9 l Y]
abbrev Vh:Stmt:=top 20
theorem zl0:FnScope ["thing"] ["thing"] (defScope Vh):={}
include T in
theorem zsg(d:Dfn K mg "is_whole" Vh ["thing"]):03 1 "is_whole" ["thing"] zjv:=by
 apply d.cal zl0 23 47
 .nofun
 let(v,rfl,h):=h;apply⟨_,(zac<|zai (zci (zay za8 00 T.b_isinstance iy<|pa_c (pv 0) 081)<|zcy (zn6<|zay za8 00 T.b_isinstance iy (pa_c (pv 0) 080)))),?_⟩;apply zaw [G v] R ?_;trivial;rcases h with⟨r,rfl,q⟩|⟨k,kd,p,q⟩
 .exact⟨_,.int r,by decide,iteT ⟨_,.int r,by decide,q⟩⟩
 .refine⟨_,kd,by decide,?_⟩;cases kd with
  |bl b=>show iteT ⟨_,.bl b,by decide,q⟩
  |int=>show Xa R p
  |_=>show iteF q
abbrev Vo:Stmt:=top 21
theorem zl3:FnScope ["thing","bound"] ["thing","bound"] (defScope Vo):={}
include T in
theorem zsr(d:Dfn K mg "is_below" Vo ["thing","bound"])(a:03 1 "is_whole" ["thing"] zjv):03 2 "is_below" ["thing","bound"] zc1:=by
 apply d.cal zl3 23 47
 .nofun
 let(v,n,rfl,h):=h;apply⟨_,(zac<|zai (zci (zae a hr 01 00 010)<|zcy (zn7 zsc zkn zad (pv 0)<|pv 1))),?_⟩;apply zaw [G v,G<|.int n] R ?_;trivial;rcases h with⟨r,rfl,C,O,q⟩|⟨⟨r,rfl,I⟩|⟨k,kd,p⟩,q⟩
 .refine⟨_,R,.inl ⟨r,R,_,R,iteT ?_⟩⟩;apply itT C ?_;trivial;rw[Xg O];show q
 .refine⟨_,R,.inl ⟨r,R,_,R,iteT ?_⟩⟩;by_cases C:0<=r
  .refine itT C ?_;trivial;rw[Xf λO=>I ⟨C,O⟩];show q
  .exact itF C q
 .exact⟨_,R,.inr ⟨k,kd,p,_,R,iteF q⟩⟩
abbrev Qu:Stmt:=top 75
theorem Qs:FnScope ["machine","counts","more","ways"] ["machine","counts"] (defScope Qu):={}
include T in
theorem ok_more(d:Dfn K mg "one_letter_more" Qu ["machine","counts"]):03 1 "one_letter_more" ["machine","counts"] zq7:=by
 apply d.cal Qs 23 47
 .nofun
 let(a,c,m,k,rfl,(b1,c1,rs,ea,O,e,ec),ok,C,q):=h;apply⟨_,(zab (zal (i:=2) Qs.nd R 09<|za1 zaa)<|zab (zbz PassesOwn.never R (zbd K<|zam 19 (pv 0) zad (λ_ _=>rfl)) (zaj (i:=3) Qs.nd 00 38)<|zac (zbk<|zcc K PySem.F.plainAttrs_list PySem.F.slot_list_append PySem.F.type_list_append zbf (pv 2) (pa_c (zay (zbr K R) 00 T.b_sum boot_sum<|pa_c (zau ["room"] [(1,"counts")] 74 00 (zbd K<|pv 3) (λ_ _ _ _ _=>(zaj (i:=0) (show List.Nodup (["room","counts"]:List Str) by decide+kernel) 00 38)) (λ_ _ _ _ _=>za2) λ_ _ _ _ _=>(zam (zav K) (pv 1) (pv 0) λ_ _=>rfl)) zaa) zaa))) (zac<|zai (pv 2))),?_⟩;apply zaw [G 04,G<|.ref c,B,B] R ?_;trivial;let I:(cl m k).length<=100:=by rw[zo2];show ok.few
 let cf:=za6 ok.wid;apply⟨zah 05,λp H1 u=>⟨_,.of<|u.g _ _ ea,_,zaf (j:=1) R,⟨_,.of<|u.g _ _ O⟩,?_⟩⟩;apply zot (K:=K) (a:=b1) (xs:=rs) (λi σ H'=>Same H H'/\(∃v3,σ=[G 04,G<|.ref c,G 22,v3])/\H' p=G (.lst<|((m.ways.take i).map λline=>(line.map<|cnt m k).sum).map nV)) ⟨u.g,⟨B,R⟩,u.at'⟩ (λi σ H' _ z=>.of<|z.1 _ _ O) ?_ ?_
 .rintro i y σ H' hy ⟨g,⟨v3,rfl⟩,ep⟩;let hi:i<m.ways.length:=by rw[←e.length];show(y0f.mp hy).1
  let(v,o,a2,rfl,e4):=Paired.at2 e<|y00 hi;rw[o]at hy;cases hy;let D:=ok.line _<|y0c hi;let km:=ok.room _<|y0c hi;let hiw:m.ways.length<=100:=by rw[ok.len];show ok.few
  trivial;apply⟨.inl ⟨_,.of ep⟩,⟨_,.of<|g _ _ e4⟩,zcl (K:=K) (a:=a2) (xs:=m.ways[i].map nV) (λσ=>∃v,σ=[v,G<|.ref c]) (fC m k) (by rw[y01,D];omega) (.of<|g _ _ e4) ⟨_,R⟩ ?_ ?_⟩
  .rintro D3 i3 σ H4 x pq Y J M bf U ⟨v,rfl⟩;let(r,L,rfl):=y0h.mp Y;let kl:((cl m k).map nV)[r]?=G (nV<|cnt m k r):=by rw[y03,zfk<|km r L];rfl
   trivial;apply⟨_,.of<|M _ _ (g _ _ C),_,zaf kl,?_⟩;show zbi (by rw[y01,D];omega) J bf U M ⟨_,R⟩ (fC_n _ _ _).symm
  intro D3 H4 bf l dq;let cq:H4 D3=G (.lst<|((m.ways[i].map<|cnt m k).map λ(n:Nat)=>(n:Int)).map V.int):=by
   rw[dq,←zgm,y0o,y0o];rw[show(fC m k∘nV)=nV∘cnt m k from funext λr=>fC_n m k r]
  apply⟨_,R,_,.of cq,_,l _ _ ep,small1000 (by rw[y01,y01,y0w];omega),?_⟩;apply⟨(g.trans l).wr u.nil _,?_⟩;rw[zao,y14,y00 hi,y1x,y0u,y0u,zni];rfl
 .rintro σ H' ⟨g,⟨v3,rfl⟩,ep⟩;rw[e.length,y0l 08,←cl_succ ok]at ep;trivial;show q p H' u.nil g ep
abbrev Km:Stmt:=top 76
theorem Va:FnScope ["machine","length","counts"] ["machine","length"] (defScope Km):={}
include T in
theorem ok_from(d:Dfn K mg "counts_from" Km ["machine","length"])(Te:03 1 "one_letter_more" ["machine","counts"] zq7):03 2 "counts_from" ["machine","length"] zih:=by
 apply d.cal Va 23 47
 .nofun
 let(a,m,L,rfl,rm,ok,hL,q):=h;let(I,c1,rs,ea,eb,pr,ec):=id rm;apply⟨_,(zab (zal (i:=2) Va.nd R 09<|za1 (pa_c (zau ["end"] [] 74 00 (zbd K<|zam 19 (pv 0) zad (λ_ _=>rfl)) (λ_ _ _ _ _=>(zaj (i:=0) (show List.Nodup (["end"]:List Str) by decide+kernel) 00 38)) (λ_ _ _ _ _=>za2) λ_ _ _ _ _=>(zbo zlf 00 T.b_int boot_int 010)) zaa))<|zab (zdj PassesOwn.never (zaq zsc (zay (zar K) 00 T.b_len iz 023) (pv 1) 66)<|zac (zbk<|zcc K PySem.F.plainAttrs_list PySem.F.slot_list_append PySem.F.type_list_append zbf (pv 2) (pa_c (zae Te hr 01 00<|pa_c (pv 0) (pa_c (zam (zav K) (pv 2) (zis zd9 zad) λ_ _=>rfl) zaa)) zaa))) (zac<|zai (pv 2))),?_⟩;apply zaw [G 04,G<|nV L,B] R ?_;trivial;apply⟨_,.of ea,_,zaf (j:=2) R,⟨_,.of ec⟩,zcl (K:=K) (a:=c1) (xs:=m.ends.map V.bl) (λσ=>∃v,σ=[v]) (λv=>match v with|.bl b=>nV (if b=N then 1 else 0)|_=>.non) (by rw[y01];let:=ok.few;omega) (.of ec) ⟨_,R⟩ ?_ ?_⟩
 .rintro D3 i3 σ H4 x pq Y J M bf U ⟨v,rfl⟩;let(b,mb,rfl):=y0h.mp Y;trivial;show zbi (by rw[y01];let:=ok.few;omega) J bf U M ⟨_,R⟩ (by cases b<;>rfl)
 intro D3 H4 bf g4 dq;let C:H4 D3=G (.lst<|(cl m 0).map nV):=by
  rw[dq,zum,y0o,y0o];rfl
 apply⟨zah 05,λp H5 n5=>?_⟩;let pz:H p=B:=g4.free n5.nil;apply⟨λmm σ H'=>∃(k:Nat) (xs:List V),mm=L+1-k/\0<k/\k<=L+1/\Same H H'/\σ=[G 04,G<|nV L,G 22]/\H' p=G 016/\i8 (CntL m H') xs (List.range k),⟨L,1,_,R,by omega,by omega,g4.trans n5.g,R,n5.at',.cons ⟨D3,R,n5.g _ _ C⟩ .nil⟩,?_⟩;rintro mm σ H' ⟨k,xs,rfl,k0,k1,g,rfl,ep,pp⟩;let cw:xs.length=k:=by rw[pp.length,y0y]
 trivial;apply⟨_,.inl<|.of ep,?_⟩;by_cases hk:k<=L
 .refine itT (by rw[cw];omega) ⟨λl r=>∃O,O<L+1-k/\_,λl r z=>z,?_⟩;obtain⟨j,rfl⟩:∃j,k=j+1:=⟨k-1,by omega⟩;let D:∀c k,H' c=G (.lst<|(cl m k).map nV)->c≠p:=by
   rintro c k e rfl;rw[ep]at e;injection e with e
   injection e with e
   let(v,o,c',rfl,_):=Paired.at2 pp<|y0p (show 0<j+1 by omega);rw[e,y03]at o;let(z,_,hz):=y0z.mp o;cases hz
  let(v,o,c,rfl,ecj):=Paired.at2 pp<|y0p (show j<j+1 by omega);obtain⟨y,v',ko⟩:∃y v',xs=y++[v']:=by
   rcases y4d xs with e|⟨i,x,e⟩
   .rw[e]at cw;cases cw
   .exact⟨i,x,by rw[e,y4e]⟩
  let o0:v'=.ref c:=by
   rw[ko,y0e,y0s]at cw;let hij:y.length=j:=by omega
   rw[ko,←hij,y11 08,y3b]at o;injection o
  subst o0;apply⟨.inl ⟨_,.of ep⟩,_,.of ep,_,by rw[ko];show zfy _ _,a,c,m,j,R,rm.same g,ok,ecj,λD6 H6 gh u e6=>⟨_,u _ _ ep,small1000 01,L+1-(j+2),by omega,j+2,R,by omega,by omega,(g.trans u).wr pz _,R,_,zao,?_⟩⟩;rw[y28];apply SM.Paired.snoc (L2.Paired.mapP pp λv k h=>?_) ⟨D6,R,?_⟩
  .let(c,e,z):=h;show⟨c,e,by rw[zak<|D c k z];show u _ _ z⟩
  .rw[zak λe=>by rw[e,ep]at gh;cases gh];show e6
 .rw[Xf<|by rw[cw];omega];let:k=L+1:=by omega
  subst this;show iteF<|q p xs H' pz g ep pp
abbrev Ke:Stmt:=top 77
theorem zgd:FnScope ["length"] ["length"] (defScope Ke):={}
include T in
theorem zsq(d:Dfn K mg "check_length" Ke ["length"])(a:03 2 "is_below" ["thing","bound"] zc1):CalE P w K mg base 3 "check_length" ["length"] (zf8 cNoNumber):=by
 apply d.calE zgd 23 λf l A outer s H vs Q E D h Rq=>?_
 .nofun
 let(v,rfl,h):=h;apply⟨_,(zac<|za3 (zbj<|zbe (zae a D 01 00<|pa_c (pv 0) (pa_c (zat zca (zbs 00 T.g_LONGEST) zad) zaa))) (zac<|zge Rq R 00 T.m_NoNumber T.x_NoNumber F.excBase_ValueError (pa_c zaz zaa)) zan),?_⟩;apply zaw [G v] R ?_;trivial;rcases h with⟨L,rfl,i,q⟩|⟨j,q⟩
 .exact⟨_,_,R,.inl ⟨L,R,by omega,by change(L:Int)<101;omega,itN q⟩⟩
 .exact⟨_,_,R,.inr ⟨j,itM ⟨zah 05,q⟩⟩⟩
abbrev Vu:Stmt:=top 78
theorem zl4:FnScope ["machine","length"] ["machine","length"] (defScope Vu):={}
include T in
theorem ok_many(d:Dfn K mg "how_many" Vu ["machine","length"])(r:CalE P w K mg base 3 "check_length" ["length"]<|zf8 cNoNumber)(p:03 2 "counts_from" ["machine","length"] zih):CalE P w K mg base 4 "how_many" ["machine","length"] (sp_many cNoNumber):=by
 apply d.calE zl4 23 λf l A outer s H vs Q E x h Rq=>?_
 .nofun
 let(a,m,v,rfl,M,ok,h):=h;apply⟨_,(zab (zbk<|zn8 Rq r x 01 00 019)<|zac (zai<|zam (zav K) (zam (zav K) (zae p x 01 00 046) (pv 1) λ_ _=>rfl) zad (λ_ _=>rfl))),?_⟩;apply zaw [G 04,G v] R ?_;trivial;rcases h with⟨L,rfl,i,q⟩|⟨j,q⟩
 .refine⟨_,R,.inl ⟨L,R,i,a,m,L,R,M,ok,i,λD xs H' u g C pp=>?_⟩⟩;let(v,o,c,rfl,J):=Paired.at2 pp<|y0p (show L<L+1 by omega);let e:((cl m L).map nV)[0]?=G (nV<|cnt m L 0):=by rw[y03,zfk ok.pos];rfl
  show⟨_,.of C,_,zaf o,_,.of J,_,zaf e,q H' g⟩
 .exact⟨_,R,.inr ⟨j,q⟩⟩
abbrev P2:Stmt:=top 10
theorem T4:FnScope ["machine","row","rooms","letter"] ["machine","row"] (defScope P2):={}
include T in
theorem ok_gone(d:Dfn K mg "gone" P2 ["machine","row"]):03 1 "gone" ["machine","row"] (zlu K):=by
 apply d.cal T4 23 47
 .nofun
 let(a,b,m,row,rfl,(I,c1,rs,c,O,e,ec),ok,U,Y,h300,q):=h;apply⟨_,(zab (zal (i:=2) T4.nd R 09<|za1 (pa_c zad zaa))<|zab (zbz PassesOwn.never R (zba K<|pv 1) (zaj (i:=3) T4.nd 00 38)<|zac (zbk<|zcc K PySem.F.plainAttrs_list PySem.F.slot_list_append PySem.F.type_list_append zbf (pv 2) (pa_c (zam 19 (zam 19 (zam 19 (pv 0) zad λ_ _=>rfl) (zam (zav K) (pv 2) (zis zd9 zad) λ_ _=>rfl) λ_ _=>rfl) (pv 3) λ_ _=>rfl) zaa))) (zac<|zai (pv 2))),?_⟩;apply zaw [G 04,G 49,B,B] R ?_;trivial;apply⟨by decide,λp H1 u=>⟨⟨_,u.g.seq U⟩,?_⟩⟩;apply ze5 (K:=K) (a:=b) (xs:=row.map nV) (λi σ H'=>Same H H'/\(∃v3,σ=[G 04,G 49,G 22,v3])/\H' p=G (.lst<|(m.path 0 030).map nV)) ⟨u.g,⟨B,R⟩,u.at'⟩ (λi σ H' _ ⟨g,_⟩=>g.seq U) ?_ ?_
 .rintro i y σ H' C ⟨g,⟨v3,rfl⟩,ep⟩;rw[y03]at C;let(l,el,rfl):=y0z.mp C;let D:=Y l<|y0k el;let(bp,ei):=m.path_last 030 0;let z:=m.path_len 030 0;let o:=ok.run_lt 030 0 ok.pos λx J=>Y x<|y2f J;let(line,L,e2,M):=ok.at o D;let(v,ev,a2,rfl,e4):=Paired.at2 e L;let r:m.path 0 (row.take<|i+1)=bp++[m.run 0 030]++[m.go 013 l]:=by rw[y14,el,y1x,m.path_snoc,ei]
  let ep':H' p=G (.lst<|bp.map nV++[nV 013]):=by rw[ep,ei,y0u];rfl
  let at4:(line.map nV)[l]?=G (nV<|m.go 013 l):=by rw[y03,e2];rfl
  let hln:(bp.map nV++[nV 013]).length<=400:=by
   rw[ei,y0e,y0s,y0w]at z;rw[y0e,y01,y0s];omega
  trivial;apply⟨.inl ⟨_,.of ep'⟩,_,.of<|g _ _ c,_,zaf (j:=1) R,_,.of ep',_,zfy _ _,_,.of<|g _ _ O,_,zaf ev,_,.of<|g _ _ e4,_,zaf at4,_,ep',small1000 01,?_⟩;apply⟨g.wr u.nil _,?_⟩;rw[zao,r,y0u,y0u];rfl
 .rintro σ H' ⟨g,⟨v3,rfl⟩,ep⟩;rw[y01,y0l 08]at ep;trivial;show q p H' u.nil g ep
abbrev Tz:Stmt:=top 11
theorem zvm:FnScope ["machine","row"] ["machine","row"] (defScope Tz):={}
include T in
theorem zwh(d:Dfn K mg "takes" Tz ["machine","row"])(v:03 1 "gone" ["machine","row"]<|zlu K):03 2 "takes" ["machine","row"] (znn K):=by
 apply d.cal zvm 23 47
 .nofun
 let(a,b,m,row,rfl,M,ok,U,Y,i,q):=h;let(I,x,rs,c,O,e,J):=id M;apply⟨_,(zac<|zai (zam 19 (zam 19 (pv 0) zad λ_ _=>rfl) (zam (zav K) (zae v hr 01 00 046) (zis zd9 zad) λ_ _=>rfl) λ_ _=>rfl)),?_⟩;apply zaw [G 04,G 49] R ?_;trivial;apply⟨_,.of c,_,zaf (j:=2) R,a,b,m,row,R,M,ok,U,Y,i,λD H' u g C=>?_⟩;let(y,l):=m.path_last row 0;let p:H' D=G (.lst<|y.map nV++[nV 032]):=by rw[C,l,y0u];rfl
 let o:=ok.run_lt row 0 ok.pos Y;let r:(m.ends.map V.bl)[m.run 0 row]?=G (.bl<|m.fin 032):=by rw[y03,Mc.fin_at o];rfl
 show⟨_,.of p,_,zfy _ _,_,.of<|g _ _ J,_,zaf r,q H' g⟩
abbrev Tl:Stmt:=top 79
theorem Qf:FnScope ["machine","length","number","counts","row","room","ahead","ways","behind","letter"] ["machine","length","number"] (defScope Tl):={}
include T in
theorem zwi(d:Dfn K mg "row_by" Tl ["machine","length","number"])(Kc:CalE P w K mg base 3 "check_length" ["length"]<|zf8 cNoNumber)(Qn:03 2 "counts_from" ["machine","length"] zih)(Ka:03 2 "is_below" ["thing","bound"] zc1):CalE P w K mg base 4 "row_by" ["machine","length","number"] (sp_rowby cNoNumber):=by
 apply d.calE Qf 23 λf cdv A outer s H vs Q E D h Rq=>?_
 .nofun
 let(a,m,v,x,rfl,rm,ok,h):=h;apply⟨_,(zab (zbk<|zn8 Rq Kc D 01 00 019)<|zab (zal (i:=3) Qf.nd R 09<|zae Qn D 01 00 046) (zab (za3 (zbj<|zbe (zae Ka D 01 00<|pa_c (pv 2) (pa_c (zam (zav K) (zam (zav K) (pv 3) (pv 1) λ_ _=>rfl) zad λ_ _=>rfl) zaa))) (zac<|zge Rq R 00 T.m_NoNumber T.x_NoNumber F.excBase_ValueError (pa_c zaz zaa)) zan)<|zab (zal (i:=4) Qf.nd R 09<|za1 zaa) (zab (zal (i:=5) Qf.nd R 09 zad)<|zab (zal (i:=6) Qf.nd R 09<|pv 2) (zab (PS.nox<|zdj PassesOwn.never (zaq zkn (zay (zar K) 00 T.b_len iz<|pa_c (pv 4) zaa) (pv 1) 66) (zab (zal (i:=7) Qf.nd R 09<|zam 19 (zam 19 (pv 0) zad λ_ _=>rfl) (pv 5) (λ_ _=>rfl))<|zab (zal (i:=8) Qf.nd R 09<|zam (zav K) (pv 3) (zat zcj (zat zcj (pv 1)<|zay (zar K) 00 T.b_len iz (pa_c (pv 4) zaa)) zad) (λ_ _=>rfl)) (zab (zal (i:=9) Qf.nd R 09 zad)<|zab (zdj PassesOwn.never (zaq op_ge (pv 6) (zam (zav K) (pv 8) (zam 19 (pv 7) (pv 9) λ_ _=>rfl) λ_ _=>rfl) 66)<|zab (zn3 (i:=6) Qf.nd R 09 (zam (zav K) (pv 8) (zam 19 (pv 7) (pv 9) λ_ _=>rfl) λ_ _=>rfl) ip_sub) (zac<|zn3 (i:=9) Qf.nd R 09 zad ztf)) (zab (zbk<|zcc K PySem.F.plainAttrs_list PySem.F.slot_list_append PySem.F.type_list_append zbf (pv 4) (pa_c (pv 9) zaa))<|zac (zal (i:=5) Qf.nd R 09<|zam 19 (pv 7) (pv 9) (λ_ _=>rfl))))))<|zac (zai<|pv 4))))),?_⟩;apply zaw [G 04,G v,G x,B,B,B,B,B,B,B] R ?_;trivial;let(b1,c1,rs,ea,eb,pr,cg):=id rm;rcases h with⟨L,n,rfl,rfl,hL,I,q⟩|⟨bad,q⟩
 .refine⟨_,R,.inl ⟨L,R,hL,a,m,L,R,rm,ok,hL,λDc xs H1 hDc g1 fh pc=>?_⟩⟩;let(v,ev,c,rfl,J):=Paired.at2 pc<|y0p (show L<L+1 by omega);let c8:((cl m L).map nV)[0]?=G (nV<|cnt m L 0):=by rw[y03,zfk ok.pos];rfl
  apply⟨_,.of fh,_,zaf ev,_,.of J,_,zaf c8,_,_,R,.inl ⟨(n:Int),R,by omega,by omega,itN ⟨zah 05,λp H2 n2=>?_⟩⟩⟩;apply⟨λmm σ H'=>∃(i:Nat) (u:List Nat) (y:Nat) (v7 v8 v9:Option V),mm=L-i/\i<=L/\Same H1 H'/\σ=[G 04,G<|nV L,G<|nV n,G<|.ref Dc,G 22,G<|nV 027,G<|nV y,v7,v8,v9]/\H' p=G (.lst<|u.map nV)/\Find m L n i u y,⟨L,0,[],n,B,B,B,R,y13 _,n2.g,R,n2.at',zqi I⟩,?_⟩;rintro mm σ H' ⟨i,u,y,v7,v8,v9,rfl,hi,g,rfl,ep,F⟩;let M:=F.len;trivial;apply⟨_,.inl<|.of ep,?_⟩;rw[y01,M];by_cases o:i<L
  .refine itT 01 ⟨λa0 r=>∃O,O<L-i/\_,λa0 r z=>z,?_⟩;let d5:=ok.run_lt u 0 ok.pos F.row;let ak:m.run 0 u<m.ways.length:=by rw[ok.len];show d5
   let(v,qb,a2,rfl,e4):=Paired.at2 pr<|y00 ak;let(v,qa,U,rfl,m5):=Paired.at2 pc<|y0p (show L-i-1<L+1 by omega);let qe:(L:Int)-(i:Int)-1=((L-i-1:Nat):Int):=by omega
   apply⟨_,.of<|(g1.trans g) _ _ ea,_,zaf (j:=1) R,_,.of<|(g1.trans g) _ _ eb,_,zaf qb,_,.inl<|.of ep,?_⟩;rw[y01,M,qe];apply⟨_,.of<|g _ _ fh,_,zaf qa,?_⟩;let gz:=(g1.trans g) _ _ e4;let gv:=g _ _ m5;apply⟨λmm σ r=>∃(l z:Nat),mm=2^m.w-l/\r=H'/\σ=[G 04,G<|nV L,G<|nV n,G<|.ref Dc,G 22,G<|nV 027,G<|nV z,G<|.ref a2,G<|.ref U,G<|nV l]/\l<=2^m.w/\z+pre m (L-i-1) 027 l=y,⟨2^m.w,0,y,R,R,R,y13 _,R⟩,?_⟩;rintro mm σ r ⟨l,z,rfl,rfl,rfl,Y,hz⟩;let C:=zts ok F o Y hz;let d9:=go_lt ok d5 C;let kq:(m.ways[m.run 0 u].map nV)[l]?=G (nV<|m.go 027 l):=by
    let(line,e1,e2,e3):=ok.at d5 C;rw[y00 ak]at e1;injection e1 with e1
    rw[y03,e1,e2];rfl
   let atc:((cl m<|L-i-1).map nV)[m.go 027 l]?=G (nV<|cnt m (L-i-1) (m.go 027 l)):=by rw[y03,zfk d9];rfl
   trivial;apply⟨_,.of gz,_,zaf kq,_,.of gv,_,zaf atc,?_⟩;by_cases hge:cnt m (L-i-1) (m.go 027 l)<=z
   .refine itT 01 ⟨λa0 H3=>∃O,O<2^m.w-l/\_,λa0 H3 z=>z,_,R,_,.of gz,_,zaf kq,_,.of gv,_,zaf atc,_,R,_,R,?_⟩;apply⟨nV l,R,_,R,2^m.w-(l+1),by omega,l+1,R,R,z-cnt m (L-i-1) (m.go 027 l),?_,by omega,by rw[zn4];omega⟩;rw[show(z:Int)-((cnt m (L-i-1) (m.go 027 l):Nat):Int)=((z-cnt m (L-i-1) (m.go 027 l):Nat):Int) by omega];rfl
   .refine itF 01 ⟨.inl ⟨_,.of ep⟩,_,ep,small1000 (by rw[y01];omega),_,.of (by rw[zak λe=>by rw[e,ep]at gz;cases gz];show gz),_,zaf kq,L-(i+1),by omega,i+1,R,by omega,g.wr n2.nil _,u++[l],by rw[Mc.run_snoc],z,R,?_,ztr ok F o C hz 01⟩;rw[zao,y0u];rfl
  .rw[Xf 01];let e:i=L:=by omega
   subst e;show iteF<|q p u H' (g1.free n2.nil) (g1.trans g) ep (zxd F)
 .rcases bad with nl|⟨L,rfl,hL,nl⟩
  .exact⟨_,R,.inr ⟨nl,λe he=>q e H (Same.refl _) he⟩⟩
  .refine⟨_,R,.inl ⟨L,R,hL,a,m,L,R,rm,ok,hL,λDc xs H1 hDc g1 fh pc=>?_⟩⟩;let(v,ev,c,rfl,J):=Paired.at2 pc<|y0p (show L<L+1 by omega);let c8:((cl m L).map nV)[0]?=G (nV<|cnt m L 0):=by rw[y03,zfk ok.pos];rfl
   show⟨_,.of fh,_,zaf ev,_,.of J,_,zaf c8,_,_,R,.inr ⟨nl.same g1,itM ⟨zah 05,λe he=>q e H1 g1 he⟩⟩⟩
abbrev K0:Stmt:=top 80
theorem Qd:FnScope ["machine","row","counts","rooms","number","at","letter","behind"] ["machine","row"] (defScope K0):={}
include T in
theorem zwk(d:Dfn K mg "number_of" K0 ["machine","row"])(Qbr:03 2 "takes" ["machine","row"]<|znn K)(Ps:03 1 "gone" ["machine","row"]<|zlu K)(Qn:03 2 "counts_from" ["machine","length"] zih):CalE P w K mg base 3 "number_of" ["machine","row"] (zno K cNoRow):=by
 apply d.calE Qd 23 λf cdv A outer s H vs Q E D h Rq=>?_
 .nofun
 let(a,b,m,row,rfl,rm,ok,U,Y,h200,h):=h;apply⟨_,(zab (za3 (PW.pt<|zez (zaq zpt 070 (zbs 00 T.g_LONGEST) 66) (zdv<|zbj (zbe<|zae Qbr D 01 00 046))) (zac<|zge Rq R 00 T.m_NoRow T.x_NoRow F.excBase_ValueError (pa_c zaz zaa)) zan)<|zab (zal (i:=2) Qd.nd R 09<|zae Qn D 01 00 (pa_c (pv 0)<|pa_c 070 zaa)) (zab (zal (i:=3) Qd.nd R 09<|zae Ps D 01 00 046)<|zab (zal (i:=4) Qd.nd R 09 zad) (zab (PS.nox<|zbz PassesOwn.never R (zfs K 00 T.b_enumerate 019) (zc6 K (n:=2) R<|zbc (zaj (i:=5) Qd.nd 00 38) (zbc (zaj (i:=6) Qd.nd 00 38) zc5)) (zab (zal (i:=7) Qd.nd R (Or.inr R)<|zam (zav K) (pv 2) (zat zcj (zat zcj 070<|pv 5) zad) (λ_ _=>rfl))<|zac (zn3 (i:=4) Qd.nd R 09 (zay (zbr K R) 00 T.b_sum boot_sum<|pa_c (zau ["room"] [(7,"behind")] 74 00 (zbd K<|zb3 (zil K) (zam 19 (zam 19 (pv 0) zad λ_ _=>rfl) (zam (zav K) (pv 3) (pv 5) λ_ _=>rfl) λ_ _=>rfl) zd4 (zb8<|pv 6)) (λ_ _ _ _ _=>(zaj (i:=0) (show List.Nodup (["room","behind"]:List Str) by decide+kernel) 00 38)) (λ_ _ _ _ _=>za2) λ_ _ _ _ _=>(zam (zav K) (pv 1) (pv 0) λ_ _=>rfl)) zaa) ztf)))<|zac (zai<|pv 4)))),?_⟩;apply zaw [G 04,G 49,B,B,B,B,B,B] R ?_;trivial;let(b1,c1,rs,c,eb,pr,cg):=id rm;apply⟨_,.inl U,?_⟩;rw[y01];rcases h with⟨be,hacc,q⟩|⟨bad,q⟩
 .refine itF 01 ⟨a,b,m,row,R,rm,ok,U,Y,by omega,λH1 g1=>?_⟩;rw[hacc];apply itN ⟨_,.inl<|g1.seq U,?_⟩;rw[y01];apply⟨a,m,row.length,R,rm.same g1,ok,be,λDc xs H2 hDc g2 fh pc=>⟨a,b,m,row,R,rm.same<|g1.trans g2,ok,(g1.trans g2).seq U,Y,by omega,λDr H3 hDr o eDr=>⟨⟨_,(g1.trans<|g2.trans o).seq U⟩,?_⟩⟩⟩;let g03:Same H H3:=g1.trans<|g2.trans o;apply ztu (K:=K) (a:=b) (xs:=row.map nV) (λi σ H'=>Same H3 H'/\∃(acc:Nat) (v5 v6 v7:Option V),σ=[G 04,G 49,G<|.ref Dc,G<|.ref Dr,G<|nV acc,v5,v6,v7]/\acc+num m 013 (row.drop i)=num m 0 row)
   ⟨Same.refl _,0,B,B,B,R,by change 0+num m 0 row=_;omega⟩ (λi σ H' _ z=>(g03.trans z.1).seq U) ?_ ?_
  .rintro i y σ H' pt H4 C ⟨g,acc,v5,v6,v7,rfl,k9⟩ p;rw[y03]at C;let(l,el,rfl):=y0z.mp C;let hi:=(y0f.mp el).1;let ax:=Y l<|y0k el;let g4:Same H H4:=g03.trans<|g.trans p.g;let d5:=ok.run_lt 030 0 ok.pos λx J=>Y x<|y2f J;let I:m.run 0 030<m.ways.length:=by rw[ok.len];show d5
   let hlw:=ok.line _<|y0c I;let km:=ok.room _<|y0c I;let(v,qb,a2,rfl,u):=Paired.at2 pr<|y00 I;let(v,qa,c2,rfl,m5):=Paired.at2 pc<|y0p (show row.length-i-1<row.length+1 by omega);let qe:(row.length:Int)-(i:Int)-1=((row.length-i-1:Nat):Int):=by omega
   let atp:((m.path 0 row).map nV)[i]?=G (nV 013):=by rw[y03,path_at m row i 01];rfl
   trivial;apply⟨_,.of p.at',R,_,_,R,_,_,R,R,_,.inl<|g4.seq U,_,.of<|(o.trans<|g.trans p.g) _ _ fh,?_⟩;rw[y01,qe];apply⟨_,zaf qa,_,R,_,.of<|g4 _ _ c,_,zaf (j:=1) R,_,.of<|(g.trans p.g) _ _ eDr,_,zaf atp,?_⟩;apply⟨_,.of<|g4 _ _ eb,_,zaf qb,(l:Int),R,_,.of<|g4 _ _ u,?_,λp5 H5 n5=>⟨⟨_,.of n5.at'⟩,?_⟩⟩
   .rintro⟨_,M⟩;rw[HT.sIx_nat,y01,hlw]at M;omega
   rw[cutL_to,←y3m]at n5;let htl:(m.ways[m.run 0 030].take l).length<=16:=by
    let:=za6 ok.wid;rw[y0w];omega
   apply zcl (K:=K) (a:=p5) (xs:=(m.ways[m.run 0 030].take l).map nV) (λσ=>∃v,σ=[v,G<|.ref c2]) (fC m 043) (by rw[y01];omega) (.of n5.at') ⟨_,R⟩ ?_ ?_
   .rintro D3 i3 σ H6 x pq hm J gg bf bg ⟨v,rfl⟩;let(r,L,rfl):=y0h.mp hm;let kl:((cl m 043).map nV)[r]?=G (nV<|cnt m 043 r):=by rw[y03,zfk<|km r (y2f L)];rfl
    trivial;apply⟨_,.of<|(o.trans<|g.trans (p.g.trans<|n5.g.trans gg)) _ _ m5,_,zaf kl,?_⟩;show zbi (by rw[y01];omega) J bf bg gg ⟨_,R⟩ (fC_n _ _ _).symm
   intro D3 H6 bf g6 dq;let cq:H6 D3=G (.lst<|(((m.ways[m.run 0 030].take l).map<|cnt m 043).map λ(n:Nat)=>(n:Int)).map V.int):=by
    rw[dq,←zgm,y0o,y0o];rw[show(fC m 043∘nV)=nV∘cnt m (043)from funext λr=>fC_n m _ r]
   let hgd:m.ways.getD 013 []=m.ways[m.run 0 030]:=by rw[y02,y00 I];rfl
   apply⟨D3,R,_,.of cq,(acc:Int),R,g.trans<|p.g.trans (n5.g.trans g6),acc+pre m 043 013 l,?_,zob el k9⟩;rw[zni,←hgd,zvz ok d5 01];rfl
  .rintro σ H' ⟨g,acc,v5,v6,v7,rfl,k9⟩;rw[y01,List.drop_of_length_le 08]at k9;trivial;let e0:num m (m.run 0<|row.take row.length) []=0:=rfl;let e:acc=num m 0 row:=by omega
   rw[e];show q H'<|g03.trans g
 .by_cases O:100<row.length
  .exact itT 01 ⟨zah 05,λe he=>q e H (Same.refl _) he⟩
  .rw[Xf 01];let hf:m.fin 032=Fa:=by rcases bad with h|h;show Xa h O;show h
   apply iteF ⟨a,b,m,row,R,rm,ok,U,Y,by omega,λH1 g1=>?_⟩;rw[hf];show itM ⟨zah 05,λe he=>q e H1 g1 he⟩
abbrev Kb:Stmt:=top 31
theorem Q3:FnScope ["letter","track","above","without"] ["letter","track"] (defScope Kb):={}
include T in
theorem ok_both(d:Dfn K mg "both_letters" Kb ["letter","track"]):03 1 "both_letters" ["letter","track"] zq8:=by
 apply d.cal Q3 23 47
 .nofun
 let(l,t,rfl,Y,J,q):=h;apply⟨_,(zab (zal (i:=2) Q3.nd R 09<|zat zx4 (pv 0) (pv 1))<|zab (zal (i:=3) Q3.nd R 09<|zat zca (pv 0) (zat zed (pv 2)<|pv 1)) (zac<|zai (za4<|pa_c (pv 3) (pa_c (zat zca (pv 3)<|zat zed zad (pv 1)) zaa)))),?_⟩;apply zaw [G<|nV l,G<|nV t,B,B] R ?_;trivial;rw[y1d];let ep:((2:Int)^t)=((2^t:Nat):Int):=by push_cast;rfl
 let U:(l:Int)/(2:Int)^t=((l/2^t:Nat):Int):=by rw[ep];rfl
 let le:l/2^t<=l:=Nat.div_le_self _ _;let L:(l:Int)+(l:Int)/(2:Int)^t*(2:Int)^t=((put0 l t:Nat):Int):=by
  rw[U,ep];unfold put0;push_cast;rfl
 let g:(l:Int)+(l:Int)/(2:Int)^t*(2:Int)^t+1*(2:Int)^t=((put0 l t+2^t:Nat):Int):=by
  rw[L,ep,y3j];push_cast;rfl
 apply⟨by omega,⟨by omega,by omega,?_⟩,⟨by omega,by omega,by decide⟩,mkT λp H' n=>?_⟩
 .rw[U];change(l/2^t:Nat)<2^64;show y3k le<|y1j Y 07
 .rw[g,L]at n;show q p H' n
theorem zos{m:Mc}{ls:List Nat}(M:ls.length<=2):∀l:List Nat,l.length<=12->(l.flatMap λr=>ls.map λl=>m.go r l).length<=24:=λl Y=>by
 let:(l.flatMap λr=>ls.map λl=>m.go r l).length<=l.length*2:=by
  clear Y
  induction l with
  |nil=>simp
  |cons x r f =>
   rw[y2d,y0e,y01,y0j];omega
 omega
abbrev Kf:Stmt:=top 32
theorem Q4:FnScope ["machine","rooms","letters","found","room"] ["machine","rooms","letters"] (defScope Kf):={}
include T in
theorem zml(d:Dfn K mg "coming_rooms" Kf ["machine","rooms","letters"]):03 1 "coming_rooms" ["machine","rooms","letters"] zf7:=by
 apply d.cal Q4 23 47
 .nofun
 let(a,b,c,m,rs,ls,rfl,rm,ok,eb,ec,hrs,gy,r5,l2,q):=h;apply⟨_,(zab (zal (i:=3) Q4.nd R 09<|za1 zaa)<|zab (zbz PassesOwn.never R (zbd K<|pv 1) (zaj (i:=4) Q4.nd 00<|Or.inr 00)<|zac (zbk<|zcc K PySem.F.plainAttrs_list PySem.F.slot_list_extend PySem.F.type_list_extend zs1 (pv 3) (pa_c (zau ["letter"] [(4,"room"),(0,"machine")] 74 00 (zbd K<|pv 2) (λ_ _ _ _ _=>(zaj (i:=0) (show List.Nodup (["letter","room","machine"]:List Str) by decide+kernel) 00 38)) (λ_ _ _ _ _=>za2) λ_ _ _ _ _=>(zam 19 (zam 19 (zam 19 (pv 2) zad λ_ _=>rfl) (pv 1) λ_ _=>rfl) (pv 0) λ_ _=>rfl)) zaa))) (zac<|zai (zbo zas 00 T.b_tuple iK<|pa_c (zay (zgx R) 00 T.b_sorted 00<|pa_c (zbo (zla R) 00 T.b_set 00<|pa_c (pv 3) zaa) zaa) zaa))),?_⟩;apply zaw [G 04,G 49,G<|.ref c,B,B] R ?_;trivial;apply mkT λp0 H0 n0=>⟨⟨_,.of<|n0.g _ _ eb⟩,?_⟩;apply zot (K:=K) (a:=b) (xs:=rs.map nV) (λi σ H'=>Same H H'/\∃v4:Option V,σ=[G 04,G 49,G<|.ref c,G<|.ref p0,v4]/\H' p0=G (.lst<|((rs.take i).flatMap λr=>ls.map λl=>m.go r l).map nV)) ⟨n0.g,B,R,n0.at'⟩ (λi σ H' _ z=>.of<|z.1 _ _ eb) ?_ ?_
 .rintro i y σ H' C ⟨g,v4,rfl,e0⟩;rw[y03]at C;let(r,er,rfl):=y0z.mp C;let mr:=y0k er;trivial;apply⟨.inl ⟨_,.of e0⟩,⟨_,.of<|g _ _ ec⟩,?_⟩;apply zcl (K:=K) (a:=c) (xs:=ls.map nV) (λσ=>∃v,σ=[v,G<|nV r,G 04]) (λx=>match x with|.int l=>nV (m.go r l.toNat)|_=>.non) (by rw[y01];omega) (.of<|g _ _ ec) ⟨_,R⟩ ?_ ?_
  .rintro D j σ H2 x U mx J gg u I ⟨v,rfl⟩;let(l,ml,rfl):=y0h.mp mx;trivial;ac_rfl;let gH:=g.trans gg;let(b1,c1,ws,ea1,au,pr,_):=id rm;let(line,f1,f2,f3):=ok.at (hrs r mr)<|gy l ml;let(v,ev1,u1,rfl,e41):=Paired.at2 pr f1;let ati:atI (line.map nV) (l:Int)=G (nV<|m.go r l):=zaf (by rw[y03,f2];rfl);apply zk ?_;show⟨_,.of<|gH _ _ ea1,_,zaf (j:=1) R,ixm (.of<|gH _ _ au) (zaf ev1) ⟨_,.of<|gH _ _ e41,_,ati,zbi (by rw[y01];omega) J u I gg ⟨_,R⟩ R⟩⟩
  intro D H3 u o e3;trivial;let fl:∀l:List Nat,l.length<=12->(l.flatMap λr=>ls.map λl=>m.go r l).length<=24:=zos l2;apply⟨_,o _ _ e0,_,e3,zah ?_,(g.trans o).wr n0.nil _,?_⟩
  .rw[y01,y01,y01];let:=fl (rs.take i) (by rw[y0w];omega);omega
  .rw[zao,y14,er,y1x,List.flatMap_append,y0u,y0o];simp only[y2d,List.flatMap_nil,y1g,y0o];rfl
 .rintro σ H' ⟨g,v4,rfl,e0⟩;trivial;rw[y01,y0l 08]at e0;let fl:((rs.flatMap λr=>ls.map λl=>m.go r l)).length<=24:=zos l2 rs r5;generalize hF:(rs.flatMap λr=>ls.map λl=>m.go r l)=F at e0 fl;apply⟨F.map λk:Nat=>(k:Int),.of (by rw[e0,y0o];rfl),by rw[y01];omega,λS hS=>⟨_,zao,by rw[y01];omega,λms O M L H3 e=>⟨_,.inl ⟨.of e.at',λt H4 p=>?_⟩⟩⟩⟩;let e4:(ms.map V.int)=((ms.map Int.toNat).map nV):=by
   rw[y0o];apply y1w λk hk=>?_;let(k',_,rfl):=y0h.mp<|(M k).mp hk;rfl
  apply q t (ms.map Int.toNat) H4 (g.trans<|(za0 hS _).trans (e.g.trans p.g)) (by rw[←e4];show p.at') ?_ λk=>?_
  .rw[List.pairwise_map];apply List.Pairwise.imp_of_mem (λ{x y} J C hxy=>?_) O;ac_rfl;let(x',_,rfl):=y0h.mp<|(M x).mp J;let(y',_,rfl):=y0h.mp<|(M y).mp C;apply zk ?_;omega
  .rw[y0h];let hk:(∃a,a∈ms/\Int.toNat a=k)↔k∈F:=by
    constructor
    .rintro⟨z,hz,rfl⟩;let(k',Y,rfl):=y0h.mp<|(M z).mp hz;show Y
    .intro hk;show⟨(k:Int),(M _).mpr<|y0h.mpr ⟨k,hk,R⟩,R⟩
   rw[hk,←hF,y3u];simp only[y0h]
abbrev Vx:Stmt:=top 33
theorem Vg:FnScope ["machine","track","letters","comings"] ["machine","track"] (defScope Vx):={}
abbrev qs_dropped:List (Pos×Str):=[(⟨118,4,119,71⟩,"dropped.<locals>.comings"),(⟨120,51,120,106⟩,"dropped.<locals>.<lambda>")]
include T in
theorem zmk{c Pd Pt:Ad}(d:DfnC K mg "dropped" Vx ["machine","track"] c Pd)(kb:BltK base mg)(Ka:03 2 "is_below" ["thing","bound"] zc1)(T5:03 1 "both_letters" ["letter","track"] zq8)(Tx:03 1 "coming_rooms" ["machine","rooms","letters"] zf7)(Vq:03 6 "explored" ["tracks","first","comings","is_end"]<|zd1 P w K mg base Pt qs_reduced):
  03 7 "dropped" ["machine","track"] (znt Pt qs_reduced Pd qs_dropped):=by
 apply d.cal Vg 23 λf A outer s H vs Q E hr h=>?_
 .nofun
 let(a,m,t,rfl,tr,td,rm,ok,h5,ht,(RR,DR),q):=h;let(b1,c1,rs,ea,au,pr,cg):=id rm;let hw4:=ok.wid;apply⟨_,(zab (za3 (zbj<|zbe (zae Ka hr 01 00<|pa_c (pv 1) (pa_c (zam 19 (pv 0) zad λ_ _=>rfl) zaa))) (zac zb2) zan)<|zab (zal (i:=2) Vg.nd R (Or.inr R)<|zau ["letter"] [(1,"track")] 74 00 (zbp 00 T.b_range<|pa_c (zat zed zad<|zat zcj (zam 19 (pv 0) zad λ_ _=>rfl) zad) zaa) (λ_ _ _ _ _=>(zaj (i:=0) (show List.Nodup (["letter","track"]:List Str) by decide+kernel) 00 38)) (λ_ _ _ _ _=>za2) (λ_ _ _ _ _=>(zae T5 hr 01 00 046))) (zab (zx1 (qs:=qs_dropped) "dropped.<locals>.comings" (j:=3) R d.code kb 00 00 Vg.nd R R)<|zac (zai<|zc8 Vq hr 01 00 (λ_=>rfl) (pa_c (zat zcj (zam 19 (pv 0) zad λ_ _=>rfl) zad)<|pa_c (za4<|pa_c zad zaa) (pa_c (pv 3)<|pa_c (zke (qs:=qs_dropped) "dropped.<locals>.<lambda>" rfl d.code kb 00 00) zaa))))),?_⟩;apply zaw [G 04,G<|nV t,B,B] R ?_;trivial;apply⟨_,.of ea,_,zb1,_,_,R,.inl ⟨_,R,by omega,by omega,?_⟩⟩;let ak:1<=m.w:=by omega
 let cf:=za6 (w:=m.w-1) 01;let hz:((1:Int)*2^(((m.w:Nat):Int)-1).toNat)=((2^(m.w-1):Nat):Int):=by
  rw[y3j,show(((m.w:Nat):Int)-1).toNat=m.w-1 by omega];show zmb _
 apply itN ⟨_,.of ea,_,zb1,⟨by omega,by omega,by decide⟩,by rw[hz];omega,by rw[hz];omega,?_⟩;rw[hz,y1d];apply zg9 (n:=2^(m.w-1)) (λσ=>∃v,σ=[v,G<|nV t]) (λj y H=>Line H y [put0 j t,put0 j t+2^t]) 01 ⟨B,by simp[stB]⟩ (λi H' hi gg=>hi) (λH' gg=>y05 _) ?_ ?_
 .rintro D i ys σ H1 x H1' hi gg hD aa ax C ⟨v,rfl⟩ ⟨rfl,rfl⟩;trivial;apply⟨i,t,by simp,by omega,by omega,λp H2 n2=>zcf (λj y H H' ts z=>z.ts ts) 01 hi hD (n2.g _ _ aa) ax C n2.g.tups (gg.trans n2.g) ⟨_,R⟩ ⟨p,R,n2.at'⟩⟩
 intro D ys H1 hD g1 eD ax C;apply⟨td.same g1,λf1 H2 M1=>?_⟩;let g2:Same H H2:=g1.trans M1.old;apply⟨_,.of<|g2 _ _ ea,_,zb1,mkT λt0 H3 n3=>⟨td.same<|g2.trans n3.g,λf2 H4 M2 Hq ad=>?_⟩⟩;ac_rfl;let g4:Same H H4:=g2.trans<|n3.g.trans M2.old;let g14:Same H1 H4:=M1.old.trans<|n3.g.trans M2.old;let gq:Same H Hq:=g4.trans ad.up;let g1q:Same H1 Hq:=g14.trans ad.up;let(bv,m7):=M1.fn;let(fd2,d7):=M2.fn;let pl:i8 (Line H1) ys ((List.range<|2^(m.w-1)).map λl=>[put0 l t,put0 l t+2^t]):=by
  apply zb0 (by rw[ax,y01,y0y]) λj v l L e2=>?_;let hj:j<2^(m.w-1):=by have:=(y0f.mp L).1;omega
  rw[y03,y0p hj]at e2;cases e2;show C j v L
 let ox:CloH P w K mg base 4 Hq f1 1 (zdi (λH=>RepM H a m/\H D=G 50/\i8 (Line H) ys ((List.range<|2^(m.w-1)).map λl=>[put0 l t,put0 l t+2^t])) (dropT m t) λt'=>DropG m t'/\t'∈RR):=by
  apply M1.clo_sM (own:=["rooms"]) (ps:=["rooms"]) (cap:=["machine","letters"]) (cv:=[.ref a,.ref D]) (k:=3) (n3.g.trans M2.old) ad ⟨R,R,R,R,by decide+kernel,by decide+kernel,by decide+kernel,by decide+kernel⟩ 08 (.cons ⟨0,R,R,.inl R⟩<|.cons ⟨2,R,R,.inl R⟩ .nil) (λcl ct cd pm=>L2.fit1 λ_=>rfl) ?_;rintro clo c' A' bj s' H' vs Q' hr U fz dk Y ⟨pa,d4,rfl,⟨ki,m6,hR3⟩,et,⟨⟨hri,d6⟩,hrr⟩,q'⟩;apply⟨_,(zac<|zai (zau ["both"] [(1,"machine"),(0,"rooms")] 74 00 (zba K<|pv 2) (λ_ _ _ _ _=>(zaj (i:=0) (show List.Nodup (["both","machine","rooms"]:List Str) by decide+kernel) 00 38)) (λ_ _ _ _ _=>za2) λ_ _ _ _ _=>(zae Tx hr 01 00<|pa_c (pv 1) (pa_c (pv 2) 010)))),?_⟩;apply zaw [G<|.ref pa,G 04,G 65] R ?_;trivial;let qg:=ki.ts<|SameN.tups U.n;let bd:=U.n _ _ m6 λ_ _ z=>nomatch z;let pl':=L2.Paired.mapP hR3 λ_ _ z=>z.ts<|SameN.tups U.n;let bq:=U.n _ _ et λ_ _ z=>nomatch z;apply⟨⟨_,.of bd⟩,zg9 (n:=2^(m.w-1)) (λσ=>∃v,σ=[v,G 04,G<|.ref pa]) (λj y H=>Line H y<|comeL m d4 [put0 j t,put0 j t+2^t]) 01 ⟨_,R⟩ (λi H5 hi gg=>⟨_,ys[i]'(01),.of<|gg _ _ bd,y00 _⟩) (λH5 gg=>⟨_,.of<|gg _ _ bd,by omega⟩) ?_ ?_⟩
  .rintro D2 i zs σ H5 y H5' hi gg hD aa qf fg ⟨v,rfl⟩ ⟨rfl,yx⟩;let ex:=yx _<|.of (gg _ _ bd);let(l,el,p,rfl,ep):=SS.Paired.at pl' ex;rw[y03,y0p hi]at el;cases el;let o:=put_lt m.w 01 t ht i hi;let gy:∀l∈[put0 i t,put0 i t+2^t],l<2^m.w:=λl Y=>by
    simp only[y08,y0n,or_false]at Y;rcases Y with rfl|rfl
    .exact y3k (Nat.le_add_right _ _) o
    .exact o
   trivial;apply⟨a,pa,p,m,d4,_,R,qg.same gg,ok,gg _ _ bq,gg _ _ ep,d6,gy,(by have:=zey hri d6;omega),by simp,λp' ms H6 g6 e6 O M=>zcf (λj y H H' ts z=>z.ts ts) 01 hi hD (g6 _ _ aa) qf fg g6.tups (gg.trans g6) ⟨_,R⟩ ⟨p',R,?_⟩⟩;rw[e6,zhq O zfe λk=>(M k).trans (zuh λr hr l Y=>(ok.at (d6 r hr)<|gy l Y).choose_spec.2.2).symm]
  intro D2 zs H5 cz g5 br qf fg I;apply q' D2 zs (mixL clo H' H5) (zgt cz br I) (zb5 g5) (zfc I _ _ br) ?_;apply zb0 (by rw[qf];simp[dropT]) λj v l L e2=>?_;let hj:j<2^(m.w-1):=by have:=(y0f.mp L).1;omega
  let al:((List.range<|2^(m.w-1)).map λl=>comeL m d4 [put0 l t,put0 l t+2^t])[j]?=G l:=e2;rw[y03,y0p hj]at al;cases al;let(p,rfl,ep):=fg j v L;show⟨p,R,zfc I _ _ ep⟩
 let ou:CloH P w K mg base 4 Hq f2 1 (zfn (λH=>RepM H a m/\H D=G 50/\i8 (Line H) ys ((List.range<|2^(m.w-1)).map λl=>[put0 l t,put0 l t+2^t])) (dropT m t) λt'=>DropG m t'/\t'∈RR):=by
  apply M2.clo_e (own:=["rooms"]) (ps:=["rooms"]) (cap:=["machine"]) (cv:=[.ref a]) (k:=3) (Same.refl _) ad ⟨R,R,R,by decide+kernel,R,by decide+kernel,by decide+kernel,by decide+kernel⟩ 08 (.cons ⟨0,R,R,.inl R⟩ .nil) (λcl ct cd pm=>L2.fit1 λ_=>rfl) ?_;rintro clo c' A' bj s' H' vs Q' hr U fz dk Y ⟨pa,d4,rfl,⟨ki,m6,hR3⟩,et,⟨⟨hri,d6⟩,hrr⟩,q'⟩;apply⟨_,(zay (zlh K R) 00 T.b_any boot_any<|pa_c (zau ["room"] [(1,"machine")] 74 00 (zbd K<|pv 0) (λ_ _ _ _ _=>(zaj (i:=0) (show List.Nodup (["room","machine"]:List Str) by decide+kernel) 00 38)) (λ_ _ _ _ _=>za2) λ_ _ _ _ _=>(zam 19 (zam 19 (pv 1) zad λ_ _=>rfl) (pv 0) λ_ _=>rfl)) zaa),?_⟩;apply zrn [G<|.ref pa,G 04] R ?_;trivial;let qg:=ki.ts<|SameN.tups U.n;let bq:=U.n _ _ et λ_ _ z=>nomatch z;let(b1',c1',rd,oy,oz,pr',kz):=id qg;apply⟨⟨_,.of bq⟩,zcl (K:=K) (a:=pa) (xs:=d4.map nV) (λσ=>∃v,σ=[v,G 04]) (λx=>match x with|.int r=>V.bl (m.fin r.toNat)|_=>.non) (by rw[y01];let:=zey hri d6;omega) (.of bq) ⟨_,R⟩ ?_ ?_⟩
  .rintro D2 j σ H5 x hj mx J gg hD aa ⟨v,rfl⟩;let(r,mr,rfl):=y0h.mp mx;trivial;show⟨_,.of<|gg _ _ oy,_,zaf (j:=2) R,ixm (.of<|gg _ _ kz) (zaf<|by rw[y03,Mc.fin_at<|d6 r mr];rfl)<|zbi (by rw[y01];let:=zey hri d6;omega) J hD aa gg ⟨_,R⟩ R⟩
  intro D2 H5 cz g5 br;apply⟨_,R,d4.map m.fin,.of (by rw[br,y0o,y0o];rfl),λI=>?_⟩;let:=q' (mixL clo H' H5)<|zb5 g5;rw[List.any_map];show this
 apply zk ?_;apply⟨t0,f1,f2,bv,fd2,dropT m t,(λt'=>DropG m t'/\t'∈RR),(λH=>RepM H a m/\H D=G 50/\i8 (Line H) ys ((List.range<|2^(m.w-1)).map λl=>[put0 l t,put0 l t+2^t])),[0],?_,tr.same gq,(M2.old.trans ad.up) _ _ n3.at',((n3.g.trans M2.old).trans ad.up) _ _ m7,ad.up _ _ d7,ox,ou,⟨rm.same gq,g1q _ _ eD,L2.Paired.mapP pl λ_ _ z=>z.ts g1q.tups⟩,(λH5 H6 g z=>⟨z.1.same g,g _ _ z.2.1,L2.Paired.mapP z.2.2 λ_ _ y=>y.ts g.tups⟩),by change m.w-1<=4;omega,⟨⟨by simp[Rising],λr hr=>by rw[y0b.mp hr];show ok.pos⟩,DR.hd⟩,(λd4 hg=>⟨drop_step.1,λu hu=>⟨drop_step.2 u hu,DR.clo d4 hg.2 u hu⟩⟩),(λfs k F=>y1a (zdn F.nd λu hu=>(F.good u hu).2) DR.few),λp m' H5 g5 rp kj ew cn tk=>?_⟩
 .change[V.int<|((m.w:Nat):Int)-1,V.ref t0,V.ref f1,V.ref f2]=[V.int (((m.w-1:Nat)):Int),V.ref t0,V.ref f1,V.ref f2];rw[show(((m.w-1:Nat)):Int)=((m.w:Nat):Int)-1 by omega]
 .exact q p m' _ (g4.trans<|ad.same g5) (rp.ts λb xs e=>ad.keep g5 e λ_ _ z=>nomatch z) kj ew cn tk
abbrev Ty:Stmt:=top 35
theorem Pq:FnScope ["bare_of","fitting_of","met","joined","flipped","dropped","machine_of"] ["bare_of","fitting_of","met","joined","flipped","dropped"] (defScope Ty):={}
abbrev qs_maker:List (Pos×Str):=[(⟨124,4,136,37⟩,"maker.<locals>.machine_of")]
abbrev SPN(Y j L d x:Ad)(n:Nat):Sp:=zyw Y qs_reduced j qs_paired L qs_met d qs_joined x qs_dropped n
include T in
theorem zsj{c Pk Pr Pp Pm Pj Pd fb ff fm fj fl fp:Ad}(d:DfnC K mg "maker" Ty ["bare_of","fitting_of","met","joined","flipped","dropped"] c Pk)(kb:BltK base mg)(Qbw:CalF P w K mg base 10 fb ["saying","frame"]<|znu K Pr qs_reduced Pp qs_paired Pm qs_met)(Qby:CalF P w K mg base 9 ff ["frame"]<|zij K Pr qs_reduced Pp qs_paired Pm qs_met)(Qbg:CalF P w K mg base 8 fm ["one","other"]<|zew K Pr qs_reduced Pp qs_paired Pm qs_met λx y=>x&&y)(Qbx:CalF P w K mg base 8 fj ["one","other"]<|zew K Pr qs_reduced Pp qs_paired Pj qs_joined λx y=>x||y)(Qbo:CalF P w K mg base 6 fl ["machine"]<|zhl Pr qs_reduced)(Qbq:CalF P w K mg base 7 fp ["machine","track"]<|znt Pr qs_reduced Pd qs_dropped):
  03 1 "maker" ["bare_of","fitting_of","met","joined","flipped","dropped"] (zjz P w K mg base fb ff fm fj fl fp Pk qs_maker<|SPN Pr Pp Pm Pj Pd):=by
 apply d.calR Pq 23 R (j:=6) R (.inr 028) 07 07 λf A outer s H vs Q E D h=>?_
 .let(rfl,_):=h;rfl
 let(rfl,tk,q):=h;apply⟨_,zzc (qs:=qs_maker) "maker.<locals>.machine_of" (j:=6) R d.code kb 00 00 Pq.nd R (.inr R) R,tk,λf1 H1 M1=>⟨.ref f1,R,λHq ad=>?_⟩⟩;let(bv,m7):=M1.fn;let efq:=ad.up _ _ m7;apply q f1 bv Hq (M1.old.trans ad.up) efq λn=>?_
 induction n with
 |zero =>
  rintro A outer s H' us vs Q E D e0 fz r Y ⟨v,b,tl,s,M,_,_,_,_,_,hm,_⟩;show Xa hm (by have:=zs2 s;omega)
 |succ n ih =>
 apply M1.clo_sE (own:=["saying","frame","word"]) (ps:=["saying","frame"]) (cap:=["met","machine_of","joined","flipped","fitting_of","dropped","bare_of"]) (cv:=[.ref fm,.ref f1,.ref fj,.ref fl,.ref ff,.ref fp,.ref fb]) (k:=11+n) (Same.refl _) ad ⟨R,R,R,by decide+kernel,R,by decide+kernel,by decide+kernel,by decide+kernel⟩ 07
  (.cons ⟨2,R,R,.inl R⟩<|.cons ⟨6,R,R,.inl R⟩ (.cons ⟨3,R,R,.inl R⟩<|.cons ⟨4,R,R,.inl R⟩ (.cons ⟨1,R,R,.inl R⟩<|.cons ⟨5,R,R,.inl R⟩ (.cons ⟨0,R,R,.inl R⟩ .nil)))) (λcl ct cd pm=>L2.fit2 λ_ _=>rfl) ?_
 rintro clo c' A' bj s' H' vs Q' E' D e0 U fz dk Y ⟨v,b,tl,sy,M,rfl,tb,rp,eb,mo,C,q'⟩ Rq;apply⟨_,(zab (zal (i:=2) (show FnNd ["saying","frame","word","met","machine_of","joined","flipped","fitting_of","dropped","bare_of"] by decide+kernel).nd R 09<|zam 19 (pv 0) zad (λ_ _=>rfl))<|zab (za3 058 (zac<|zai (zct Qbg D 01 (pa_c (zbw e0 U Rq (i:=4) (k:=(11+n)) (n:=2) (sp:=(SPN Pr Pp Pm Pj Pd n)) R (by first|show Or.inl rfl|show Or.inr (Or.inl R)|show Or.inr (Or.inr R)) D<|pa_c (zam (zag K) (pv 0) zad λ_ _=>rfl) 019)<|pa_c (zbw e0 U Rq (i:=4) (k:=(11+n)) (n:=2) (sp:=(SPN Pr Pp Pm Pj Pd n)) R (by first|show Or.inl rfl|show Or.inr (Or.inl R)|show Or.inr (Or.inr R)) D<|pa_c (zam (zag K) (pv 0) zad λ_ _=>rfl) 019) zaa) (i:=3))) zan) (zab (za3 058 (zac<|zai (zct Qbx D 01 (pa_c (zbw e0 U Rq (i:=4) (k:=(11+n)) (n:=2) (sp:=(SPN Pr Pp Pm Pj Pd n)) R (by first|show Or.inl rfl|show Or.inr (Or.inl R)|show Or.inr (Or.inr R)) D<|pa_c (zam (zag K) (pv 0) zad λ_ _=>rfl) 019)<|pa_c (zbw e0 U Rq (i:=4) (k:=(11+n)) (n:=2) (sp:=(SPN Pr Pp Pm Pj Pd n)) R (by first|show Or.inl rfl|show Or.inr (Or.inl R)|show Or.inr (Or.inr R)) D<|pa_c (zam (zag K) (pv 0) zad λ_ _=>rfl) 019) zaa) (i:=5))) zan)<|zab (za3 058 (zac<|zai (zct Qbg D 01 (pa_c (zct Qbo D 01 (pa_c (zbw e0 U Rq (i:=4) (k:=(11+n)) (n:=2) (sp:=(SPN Pr Pp Pm Pj Pd n)) R (by first|show Or.inl rfl|show Or.inr (Or.inl R)|show Or.inr (Or.inr R)) D<|pa_c (zam (zag K) (pv 0) zad λ_ _=>rfl) 019) zaa) (i:=6))<|pa_c (zct Qby D 01 019 (i:=7)) zaa) (i:=3))) zan) (zab (za3 058 (zac<|zai (zct Qbq D 01 (pa_c (zbw e0 U Rq (i:=4) (k:=(11+n)) (n:=2) (sp:=(SPN Pr Pp Pm Pj Pd n)) R (by first|show Or.inl rfl|show Or.inr (Or.inl R)|show Or.inr (Or.inr R)) D<|pa_c (zam (zag K) (pv 0) zad λ_ _=>rfl) (pa_c (zat op_catN (pv 1)<|za1 (pa_c (zam 19 (pv 0) zad λ_ _=>rfl) zaa)) zaa))<|pa_c (zay (zeq K) 00 T.b_len iz 019) zaa) (i:=8))) zan)<|zab (za3 058 (zac<|zai (zbw e0 U Rq (i:=4) (k:=(11+n)) (n:=2) (sp:=(SPN Pr Pp Pm Pj Pd n)) R (by first|show Or.inl rfl|show Or.inr (Or.inl R)|show Or.inr (Or.inr R)) D<|pa_c (za4<|pa_c zaz (pa_c (za4<|pa_c zaz (pa_c (zam (zag K) (pv 0) zad λ_ _=>rfl)<|pa_c (za4<|pa_c zaz (pa_c (zam 19 (pv 0) zad λ_ _=>rfl) zaa)) zaa)) zaa)) 019)) zan) (zac<|zai (zct Qbw D 01 046 (i:=9)))))),?_⟩;apply zaw [G v,G 49,B,G<|.ref fm,G<|.ref f1,G<|.ref fj,G<|.ref fl,G<|.ref ff,G<|.ref fp,G<|.ref fb] R ?_;trivial;let ka:dropL clo H' f1=G (fnO bv f1):=dk _ _ _ m7;let self:∀(Gq:Hp),Same (dropL clo H') Gq->(∀b,InCl clo b->Gq b=B)->∀(x:V) (b':Ad) (tl':List Str) (s':Sy) (M':Mc) (Qc:VK) (EE:XK),Rep Gq x s'->Gq b'=G (.lst<|tl'.map V.str)->MOr s' tl' M'->mcost s'<=n->(∀p G',Same Gq (dropL clo G')->RepM (dropL clo G') p M'->Qc 22 G')->(Gq f1=G (fnO bv f1)/\CloHE P w K mg base (11+n) (mixL clo H' Gq) f1 2 (SPN Pr Pp Pm Pj Pd n)/\[x,V.ref b'].length=2/\SPN Pr Pp Pm Pj Pd n [x,.ref b'] (mixL clo H' Gq) Qc EE):=by
  intro Gq g I x b' tl' s' M' Qc EE rx pd mo' av qc;apply⟨g _ _ ka,ih.mono<|fz.trans (mix_frz λb o u e=>g _ _ e),R,x,b',tl',s',M',R,tb.same<|zb5 g,rx.same<|zfc I,zfc I _ _ pd,mo',av,λp H2 J r2=>?_⟩;show qc p _ (ztx I J)<|r2.ts (SameN.tups (SM.ClOk.same (SM.ClOk.same U<|zb5 g) J).n)
 let bn:=tb.drop U;let ma:Rep (dropL clo H') v sy:=SM.Rep.ts rp<|SameN.tups U.n;let dv:=U.n _ _ eb λ_ _ z=>nomatch z;let fin:∀(p:Ad) (m':Mc) (Gq:Hp),Same (dropL clo H') Gq->RepM Gq p m'->m'=M->(∀b,InCl clo b->Gq b=B)->Q' 22 (mixL clo H' Gq):=λp m' Gq g r e I=>q' p _ (zb5 g) (by rw[←e];show r.same<|zfc I);let hf4:∀{s:Sy} {tl':List Str} {M':Mc},MOr s tl' M'->tl'.length<=4:=λh=>mor_len h;cases mo with
 |bare hf I hm L Bq =>
  cases ma with
  |bare b8 e =>
  rename_i wd nn mm a;let nw:∀z:Str,z∈(["and","or","not","some","all"]:List Str)->¬V.str wd=V.str z:=λz hz e0=>by
   let:=V.str.inj e0;subst this;simp only[SM.rowWords,y08,y0n,or_false]at L hz;rcases L with rfl|rfl|rfl|rfl|rfl<;>revert hz<;>decide
  apply ixm (.of e) zb1 ⟨R,?_⟩;apply itF (nw _ 07) ⟨R,?_⟩;apply itF (nw _ 07) ⟨R,?_⟩;apply itF (nw _ 07) ⟨R,?_⟩;apply itF (nw _ 07) ⟨R,?_⟩;apply itF (nw _ 07) ⟨R,.ref a,b,tl,wd,nn,mm,R,bn.r,bn.p,bn.m,.bare b8 e,dv,hf,I,hm,L,λp M' H2 J r2 B' cr=>fin p M' H2 J r2 (zuz B' Bq) cr⟩
 |@and s1 s2 _ M1 M2 _ O h2 o1 o2 w1 w2 few ok can L l =>
  cases ma with
  |two b8 e r1 r2 =>
  rename_i a x y;let av:max (mcost s1) (mcost s2)+1<=n+1:=C;let c1:mcost s1<=n/\mcost s2<=n:=⟨by omega,by omega⟩;apply ixm (.of e) zb1 ⟨R,?_⟩;apply itT R ⟨R,f1,R,bv,ka,ixm (.of e) (zaf (j:=1) R) λI=>self _ (Same.refl _) I _ _ _ _ _ _ _ r1 dv O c1.1 λp1 qh g1 q1=>?_⟩;generalize dropL clo qh=G1 at g1 q1 ⊢;apply⟨f1,R,bv,g1 _ _ ka,ixm (.of<|g1 _ _ e) (zaf (j:=2) R) λhn1=>self _ g1 hn1 _ _ _ _ _ _ _ (r2.same g1) (g1 _ _ dv) h2 c1.2 λp2 G2' J q2=>?_⟩;generalize dropL clo G2'=G2 at J q2 ⊢;let ao:=g1.trans J;apply⟨p1,p2,_,_,R,bn.r.same ao,bn.p.same ao,bn.m.same ao,(q1.same J).k,q2.k,o1,o2,by rw[w1,w2],few,λp m' G3 g3 r3 ok3 w3 c3 l3 cr=>fin p m' G3 (ao.trans g3) r3 ?_ cr⟩;apply zdb (by rw[w3,w1,L]) ok3 ok c3 can λrow D=>?_;rw[l3 row λc C=>by rw[←w3];show D c C,l row λc C=>by rw[L,←w1,←w3];show D c C]
 |@or s1 s2 _ M1 M2 _ O h2 o1 o2 w1 w2 few ok can L l =>
  cases ma with
  |two b8 e r1 r2 =>
  rename_i a x y;let av:max (mcost s1) (mcost s2)+1<=n+1:=C;let c1:mcost s1<=n/\mcost s2<=n:=⟨by omega,by omega⟩;apply ixm (.of e) zb1 ⟨R,?_⟩;apply itF 07 ⟨R,?_⟩;apply itT R ⟨R,f1,R,bv,ka,ixm (.of e) (zaf (j:=1) R) λI=>self _ (Same.refl _) I _ _ _ _ _ _ _ r1 dv O c1.1 λp1 qh g1 q1=>?_⟩;generalize dropL clo qh=G1 at g1 q1 ⊢;apply⟨f1,R,bv,g1 _ _ ka,ixm (.of<|g1 _ _ e) (zaf (j:=2) R) λhn1=>self _ g1 hn1 _ _ _ _ _ _ _ (r2.same g1) (g1 _ _ dv) h2 c1.2 λp2 G2' J q2=>?_⟩;generalize dropL clo G2'=G2 at J q2 ⊢;let ao:=g1.trans J;apply⟨p1,p2,_,_,R,bn.r.same ao,bn.p.same ao,bn.j.same ao,(q1.same J).k,q2.k,o1,o2,by rw[w1,w2],few,λp m' G3 g3 r3 ok3 w3 c3 l3 cr=>fin p m' G3 (ao.trans g3) r3 ?_ cr⟩;apply zdb (by rw[w3,w1,L]) ok3 ok c3 can λrow D=>?_;rw[l3 row λc C=>by rw[←w3];show D c C,l row λc C=>by rw[L,←w1,←w3];show D c C]
 |@neg s1 _ M1 _ hf O o1 w1 few ok can L l =>
  cases ma with
  |neg e r1 =>
  rename_i a x;let av:mcost s1+1<=n+1:=C;apply ixm (.of e) zb1 ⟨R,?_⟩;apply itF 07 ⟨R,?_⟩;apply itF 07 ⟨R,?_⟩;apply itT R ⟨R,R,f1,R,bv,ka,ixm (.of e) (zaf (j:=1) R) λI=>self _ (Same.refl _) I _ _ _ _ _ _ _ r1 dv O 01 λp1 qh g1 q1=>?_⟩;generalize dropL clo qh=G1 at g1 q1 ⊢;apply⟨p1,M1,R,bn.r.same g1,q1,o1,λp2 m2 G2 J r2 RD2=>?_⟩;let ao:=g1.trans J;apply⟨R,b,tl,R,bn.r.same ao,bn.p.same ao,bn.m.same ao,ao _ _ dv,hf.ok,λp3 mF G3 g3 r3 FF=>?_⟩;let b9:=ao.trans g3;let hl4:tl.length<=4:=hf.ok.1;let hFn:=fit_nP FF.canon FF.takes;let hle:m2.n<=M1.n:=by have:=RD2.le;rw[show(turned M1).n=M1.n from y01 _]at this;show this
  let w2:m2.w=tl.length:=by rw[RD2.w,←w1];rfl
  apply⟨p2,p3,m2,mF,R,bn.r.same b9,bn.p.same b9,bn.m.same b9,(r2.same g3).k,r3,RD2.ok,FF.ok,by rw[w2,FF.w],y1a (Nat.mul_le_mul hle hFn) few,λp m' G4 g4 r4 ok4 w4 c4 l4 cr=>fin p m' G4 (b9.trans g4) r4 ?_ cr⟩;apply zdb (by rw[w4,w2,L]) ok4 ok c4 can λrow D=>?_;let df:∀c∈row,c<2^tl.length:=λc C=>by have:=D c C;rw[w4,w2]at this;show this
  rw[l4 row λc C=>by rw[w2];show df c C,l row λc C=>by rw[L];show df c C,FF.takes row λc C=>by rw[FF.w];show df c C];let m9:M1.Row row:=λc C=>by rw[w1];show df c C
  rw[←RD2.par row m9,zpa,zpb<|o1.run_lt row 0 o1.pos m9]
 |@some nm s1 _ M1 _ O o1 w1 few Rq ok can L l =>
  cases ma with
  |qu b8 e r1 =>
  rename_i a x;let av:mcost s1+1<=n+1:=C;apply ixm (.of e) zb1 ⟨R,?_⟩;apply itF 07 ⟨R,?_⟩;apply itF 07 ⟨R,?_⟩;apply itF 07 ⟨R,?_⟩;apply itT R ⟨R,f1,R,bv,ka,ixm (.of e) (zaf (j:=2) R)<|ixm (.of e) (zaf (j:=1) R) (mkT λpl G1 n1=>⟨_,n1.g _ _ dv,_,n1.at',zah (by have:=hf4 O;rw[y0e,y0s]at this;rw[y01,y0s];omega),λpf G2 n2 I=>?_⟩)⟩;let J:=n1.g.trans n2.g;let ef:G2 pf=G (.lst<|(tl++[nm]).map V.str):=by rw[n2.at',y0u];rfl
  apply self _ J I _ _ _ _ _ _ _ (r1.same J) ef O 01 λp1 G3' g3 q3=>?_;generalize dropL clo G3'=G3 at g3 q3 ⊢;let b9:=J.trans g3;apply⟨_,.inl<|.of (b9 _ _ dv),p1,M1,tl.length,by rw[y01],bn.r.same b9,bn.d.same b9,q3,o1,few,by omega,Rq,λp m' G4 g4 r4 ok4 w4 c4 l4 cr=>fin p m' G4 (b9.trans g4) r4 ?_ cr⟩;let w4':m'.w=M.w:=by rw[w4,L];change M1.w-1=_;omega
  apply zdb w4' ok4 ok c4 can λrow D=>?_;rw[l4 row λc C=>by rw[←w4];show D c C,l row λc C=>by rw[←w4'];show D c C]
 |@all nm s1 _ _ h =>
  cases ma with
  |qu b8 e r1 =>
  rename_i a x;let av:mcost s1+4<=n+1:=C;apply ixm (.of e) zb1 ⟨R,?_⟩;apply itF 07 ⟨R,?_⟩;apply itF 07 ⟨R,?_⟩;apply itF 07 ⟨R,?_⟩;apply itF 07 ⟨R,?_⟩;apply itT R ⟨f1,R,bv,ka,ixm (.of e) (zaf (j:=1) R)<|ixm (.of e) (zaf (j:=2) R) (mkT λt1 G1 n1=>mkT λt2 G2 n2=>mkT λt3 G3 n3 I=>?_)⟩;let g3:=n1.g.trans<|n2.g.trans n3.g;apply self _ g3 I _ _ _ _ _ _ _ (.neg n3.at'<|.qu 07 (n3.g _ _ n2.at') (.neg (n3.g _ _<|n2.g _ _ n1.at')<|r1.same g3)) (g3 _ _ dv) h ?_ λp1 G4' g4 q4 cr=>?_
  .change mcost s1+1+1+1<=n;omega
  .exact fin p1 M _ (g3.trans g4) q4 R cr
abbrev Ko:Stmt:=top 61
theorem zg6:FnScope ["frame"] ["frame"] (defScope Ko):={}
include T in
theorem zkq(d:Dfn K mg "check_frame" Ko ["frame"])(M:03 4 "is_frame" ["thing"] zyz):03 5 "check_frame" ["frame"] zev:=by
 apply d.cal zg6 23 47
 .nofun
 let(b,tl,rfl,O,L,Y,x,q):=h;apply⟨_,(zac<|za3 (zbj<|zbe (zae M hr 01 00 010)) (zac zb2) zan),?_⟩;apply zaw [G 49] R ?_;trivial;apply⟨_,R,⟨⟨_,.lst O⟩,λz e=>by cases e⟩,(λa xs c e=>by cases c;rw[O]at e;cases e;show zf0 01 (λz hz=>by have:=Y z hz;omega)),λH1 g1=>?_⟩;rw[show frB H 49=N by unfold frB;simp only[O];show x];show itN<|q H1 g1
abbrev K3:Stmt:=top 62
theorem zj9:FnScope ["saying","frame"] ["saying","frame"] (defScope K3):={}
include T in
theorem ziw(d:Dfn K mg "check_let" K3 ["saying","frame"])(i:03 5 "check_frame" ["frame"] zev)(g:03 30 "is_saying" ["thing","frame"]<|znr treeWords 4):03 31 "check_let" ["saying","frame"] znq:=by
 apply d.cal zj9 23 47
 .nofun
 let(v,b,tl,sy,rfl,r,O,Bq,q):=h;apply⟨_,(zab (zbk<|zae i hr 01 00 019)<|zac (za3 (zbj<|zbe (zae g hr 01 00 046)) (zac zb2) zan)),?_⟩;apply zaw [G v,G 49] R ?_;trivial;let L:=Bq.few;let Y:=Bq.len;apply⟨b,tl,R,O,L,Y,Bq.fr,λH1 g1=>?_⟩;let j:=g1 _ _ O;let r1:=r.same g1;apply⟨v,.ref b,R,r1.exp Bq.wf 12,⟨⟨_,.lst j⟩,λz e=>by cases e⟩,(λa xs c e=>by cases c;rw[j]at e;cases e;show zf0 01 (λz hz=>by have:=Y z hz;omega)),λI H2 J U=>?_⟩;let:I=N:=U.mpr ⟨b,tl,sy,R,j,Bq.fr,⟨r1,Bq.wf,Bq.dp,Bq.pt⟩,Bq.ok⟩;rw[this];show itN<|q H2 (g1.trans J)
abbrev Tu:Stmt:=top 72
theorem P4:FnScope ["saying","frame","machine_of"] ["saying","frame"] (defScope Tu):={}
include T in
theorem zp3{z Y j Pm Pj x fb ff fm fj g fp:Ad}(d:Dfn K mg "built" Tu ["saying","frame"])(Qaa:03 31 "check_let" ["saying","frame"] znq)(kr:mg "bare_of"=G (.ref fb))(c:mg "fitting_of"=G (.ref ff))(rh:mg "met"=G (.ref fm))(md:mg "joined"=G (.ref fj))(y:mg "flipped"=G (.ref g))(u:mg "dropped"=G (.ref fp))(Qbv:03 1 "maker" ["bare_of","fitting_of","met","joined","flipped","dropped"]<|zjz P w K mg base fb ff fm fj g fp z qs_maker (SPN Y j Pm Pj x)):
  CalE P w K mg base 32 "built" ["saying","frame"] (zhm Y qs_reduced j qs_paired Pm qs_met Pj qs_joined x qs_dropped z qs_maker):=by
 apply d.calE P4 23 λf l A outer s H vs Q E D h Rq=>?_
 .nofun
 let(v,b,tl,sy,M,rfl,I,r,U,O,L,mo,C,q):=h;apply⟨_,(zab (zbk<|zae Qaa D 01 00 046)<|zab (zal (i:=2) P4.nd R 09<|zae Qbv D 01 00 (pa_c (zbs (v:=V.ref _) 00 ⟨_,kr,R⟩)<|pa_c (zbs (v:=V.ref _) 00 ⟨_,c,R⟩) (pa_c (zbs (v:=V.ref _) 00 ⟨_,rh,R⟩)<|pa_c (zbs (v:=V.ref _) 00 ⟨_,md,R⟩) (pa_c (zbs (v:=V.ref _) 00 ⟨_,y,R⟩)<|pa_c (zbs (v:=V.ref _) 00 ⟨_,u,R⟩) zaa)))) (zac<|zai (zr4 Rq (i:=2) (k:=27) (n:=2) (sp:=(SPN Y j Pm Pj x 16)) R (by first|show Or.inl rfl|show Or.inr (Or.inl R)|show Or.inr (Or.inr R)) (D.mono<|by omega)<|pa_c (pv 0) (pa_c (pv 1) zaa)))),?_⟩;apply zaw [G v,G<|.ref b,B] R ?_;trivial;apply⟨v,b,tl,sy,R,U,O,L,λH1 g1=>⟨R,r.same g1,λf1 a H2 J ef cl=>?_⟩⟩;let e:=g1.trans J;show⟨f1,R,a,ef,ef,cl 16,R,v,b,tl,sy,M,R,I.same e,U.same e,e _ _ O,mo,C,λp H3 o r3=>q p H3 (e.trans o) r3⟩
abbrev Ql:Stmt:=top 82
theorem zcr:FnScope ["text"] ["text"] (defScope Ql):={}
include T in
theorem zp4(d:Dfn K mg "words_between_blanks" Ql ["text"]):03 1 "words_between_blanks" ["text"] zhn:=by
 apply d.cal zcr 23 47
 .nofun
 let(z,rfl,hz,q):=h;apply⟨_,(zac<|zai (zau ["word"] [] 74 00 (zba K<|zcc K PySem.F.plainAttrs_str PySem.F.slot_str_split PySem.F.type_str_split zw1 (pv 0) (pa_c zaz zaa)) (λ_ _ _ _ _=>(zaj (i:=0) (show List.Nodup (["word"]:List Str) by decide+kernel) 00 38)) (λ_ _ _ _ _=>(zx3<|zaq zsb (pv 0) zaz 66)) λ_ _ _ _ _=>(pv 0))),?_⟩;apply zaw [G<|.str z] R ?_;trivial;let C:=zuc 32<|ch z;let hs:=SS.split_len z 32;rw[←lit1.2.2]at hs;rw[←zeb]at C;let Y:(Txt.split z " ").length<=100000:=by omega
 apply⟨by decide+kernel,by rw[j6];omega,Y,λp H1 O=>⟨⟨_,O.lst⟩,?_⟩⟩;apply zxs (K:=K) (a:=p) (xs:=(Txt.split z " ").map V.str) (λσ=>∃v,σ=[v]) (λy=>decide (y≠V.str "")) id (by rw[y01];show Y) O.lst ⟨_,R⟩ ?_ ?_
 .rintro D i σ H' x hi M J g u I ⟨v,rfl⟩;let(y,o,rfl):=y0h.mp M;trivial;by_cases c:y=""
  .rw[Xg c];show iteF<|zup J (by rw[c];show Xf λh=>h R) I g ⟨_,R⟩
  .rw[Xf c];show iteT<|zxr (by rw[y01];show Y) J (Xg λh=>c<|V.str.inj h) u I g ⟨_,R⟩ R
 intro D H2 u g j;apply q D H2 (O.g.free u) (O.g.trans g) ?_;rw[j,List.map_id,List.filter_map];apply congrArg (λl=>G<|HO.lst (List.map V.str l))<|List.filter_congr λy _=>?_;change decide (V.str y≠V.str "")=decide (y≠"");show decide_eq_decide.mpr ⟨λh e=>h (by rw[e]),λh e=>h<|V.str.inj e⟩
abbrev Vf:Stmt:=top 83
theorem zlz:FnScope ["text"] ["text"] (defScope Vf):={}
include T in
theorem zwf(d:Dfn K mg "words_of" Vf ["text"])(c:03 1 "words_between_blanks" ["text"] zhn):CalT P w K mg base 2 "words_of" ["text"] znl:=by
 apply d.calT zlz 23 47
 .nofun
 let(z,rfl,hz,q):=h;apply⟨_,(zru<|zrt (zki c hr 01 00<|zwd (zgg<|zgg (PE.t<|pv 0)) (PA.t zaa))),?_⟩;apply zaw [G<|.str z] R ?_;trivial;let M:(" ( ":Str).length=3:=by decide+kernel
 let a:(" ) ":Str).length=3:=by decide+kernel
 let l1:(Txt.replace z "(" " ( ").length<=3*z.length:=by
  rw[zeb,zeb z,lit1.1,zc4];show zxf (by rw[ch_lit1.2.1];decide) _
 let l2:(Txt.replace (Txt.replace z "(" " ( ") ")" " ) ").length<=3*z.length:=by
  rw[zeb,pad_str,zeb z];show zwc _
 apply⟨by decide+kernel,by rw[M];omega,by decide+kernel,by rw[a];omega,_,R,by omega,λD H1 u g1 L=>q D H1 u g1 L⟩
abbrev K6:Stmt:=top 84
theorem zj5:FnScope ["left"] ["left"] (defScope K6):={}
include T in
theorem zme(d:Dfn K mg "take_word" K6 ["left"]):03 1 "take_word" ["left"] zco:=by
 apply d.cal zj5 23 47
 .nofun
 let(l,rfl,q):=h;apply⟨_,(zac<|zai (zv3 (zn2 (pv 0) λ_=>rfl) (pe_bm0K K PySem.F.plainAttrs_list PySem.F.slot_list_pop PySem.F.type_list_pop mt_pop<|pv 0) zaz)),?_⟩;apply zaw [G<|.ref l] R ?_;trivial;rcases q with⟨Y,q⟩|⟨y,j,Y,q⟩
 .exact⟨Fa,.inl ⟨_,.of Y,R⟩,iteF q⟩
 .rw[zrm]at Y;apply⟨N,.inl ⟨_,.of Y,by cases revW j<;>rfl⟩,iteT ⟨.inl ⟨_,.of Y⟩,_,Y,.str y,?_,q _ (SameX.upd l H _) ?_⟩⟩
  .rw[y0e,y0s,Nat.add_sub_cancel,y11 08,y3b];rfl
  .rw[zao,List.dropLast_concat]
abbrev Qy:Stmt:=top 85
theorem Qt:FnScope ["left","deepest","first","name","word"] ["left","deepest"] (defScope Qy):={}
theorem ok_take{n k:Nat}(j:1<=k)(T:Txt K mg w tw rw fa cj ca ce co cn cNoNumber cNoRow)(d:Dfn K mg "take_saying" Qy ["left","deepest"])(Tf:03 1 "take_word" ["left"] zco)(I:03 k "take_saying" ["left","deepest"]<|zf2 n)(Qab:03 (k+1) "take_pair" ["left","deepest"]<|zf1 n):03 (k+2) "take_saying" ["left","deepest"] (zf2<|n+1):=by
 apply d.cal Qt 23 47
 .nofun
 let(l,sy,rest,dp,rfl,hdn,Y,wd,wf,hd,q):=h;apply⟨_,(zab (za3 (zaq zcd (pv 1) zad 66) (zac zb2) zan)<|zab (zal (i:=2) Qt.nd R 09 069) (zab (za3 058 (zac<|zai (za4<|pa_c zaz (pa_c (zae I hr 01 00<|pa_c (pv 0) (pa_c (zat zcj (pv 1) zad) zaa)) zaa))) zan)<|zab (za3 (zaq (zoa K) (pv 2) (zbs 00 T.g_TELLING_WORDS)<|by with_unfolding_all rfl) (zab (zal (i:=3) Qt.nd R 09 069)<|zac (zai<|za4 (pa_c (pv 2)<|pa_c (pv 3) (pa_c (zae I hr 01 00<|pa_c (pv 0) (pa_c (zat zcj (pv 1) zad) zaa)) zaa)))) zan) (zab (za3 058 (zac<|zai (zae Qab hr 01 00<|pa_c (pv 0) (pa_c (zat zcj (pv 1) zad) zaa))) zan)<|zab (zal (i:=4) Qt.nd R 09 069) (zac<|zai (za4<|pa_c (pv 4) (pa_c (pv 2)<|pa_c 069 zaa)))))),?_⟩;apply zaw [G<|.ref l,G<|.int dp,B,B,B] R ?_;trivial;let d1:=sy.depth_pos;let d0:¬((dp:Int)=0):=by omega
 rw[Xf d0];let U:((dp:Int)-1)=((dp-1:Nat):Int):=by omega
 rw[U];cases sy with
 |neg t =>
  let r:=zk5 t;apply iteF ⟨l,R,.inr ⟨"not",toksS t++rest,Y,λH1 C L=>⟨R,?_⟩⟩⟩;apply itT R ⟨l,t,rest,dp-1,R,by omega,L,wd,wf,by omega,λv H2 J g r2=>⟨zah 05,λp H3 e=>q _ H3 (C.trans<|J.trans (.of e.g)) (e.g _ _ g)<|.neg e.at' (r2.same e.g)⟩⟩
 |two w x D =>
  let r:=zk4 w x D;simp only[wdB,y07,decide_eq_true_eq]at wd;let c:(wfB x&&wfB D)=N:=wf;rw[y07]at c;let y:toksS (.two w x D)++rest=("(":Str)::(toksS x++w::(toksS D++(")":Str)::rest)):=by change _::_++_=_;simp
  rw[y]at Y;apply iteF ⟨l,R,.inr ⟨_,_,Y,λH1 C L=>⟨R,?_⟩⟩⟩;rw[Xf<|show¬V.str "("=V.str "not" fromλz=>Xa (V.str.inj z) 48];apply iteF ⟨_,.inr<|T.t_TELLING_WORDS _,R,R,?_⟩;rw[show inV (V.str "(") [.str "some",.str "all"]=Fa by decide+kernel];apply iteF ⟨R,?_⟩;show itT R ⟨l,w,x,D,rest,dp-1,R,by omega,L,wd.1,wd.2.1,wd.2.2,c.1,c.2,by omega,by omega,λv H2 J g r2=>q v H2 (C.trans J) g r2⟩
 |qu w nm t =>
  let r:=zi7 w nm t;simp only[wdB,y07,decide_eq_true_eq]at wd;let c:(isName (.str nm)&&wfB t)=N:=wf;rw[y07]at c;apply iteF ⟨l,R,.inr ⟨w,nm::(toksS t++rest),Y,λH1 C L=>⟨R,?_⟩⟩⟩;rw[Xf λz=>zu8 w wd.1<|V.str.inj z];apply iteF ⟨_,.inr<|T.t_TELLING_WORDS _,R,R,?_⟩;rw[zjq w wd.1];apply iteT ⟨l,R,.inr ⟨nm,toksS t++rest,L,λH2 J g=>⟨l,t,rest,dp-1,R,by omega,g,wd.2,c.2,by omega,λv H3 a M O=>⟨zah 05,λp H4 n4=>q _ H4 (C.trans<|J.trans (a.trans<|.of n4.g)) (n4.g _ _ M)<|.qu wd.1 n4.at' (O.same n4.g)⟩⟩⟩⟩
 |bare w nm m =>
  let((pn,u,o,e),pm):=zyq wf;let mw:w∈bareWords:=of_decide_eq_true wd;apply iteF ⟨l,R,.inr ⟨nm,w::m::rest,Y,λH1 C L=>⟨R,?_⟩⟩⟩;rw[Xf λz=>u<|V.str.inj z];apply iteF ⟨_,.inr<|T.t_TELLING_WORDS _,R,R,?_⟩;rw[show inV (V.str nm) [.str "some",.str "all"]=Fa from(zek nm ["some","all"]).trans (Xf λz=>by
   simp only[y08,y0n,or_false]at z;show z.elim o e)]
  apply iteF ⟨R,?_⟩;rw[Xf λz=>pn.o<|by rw[show nm="(" from V.str.inj z,ch_lit1.1];decide];show iteF ⟨l,R,.inr ⟨w,m::rest,L,λH2 J g=>⟨l,R,.inr ⟨m,rest,g,λH3 a M=>⟨zah 05,λp H4 n4=>q _ H4 (C.trans<|J.trans (a.trans<|.of n4.g)) (n4.g _ _ M)<|.bare mw n4.at'⟩⟩⟩⟩⟩
abbrev Kg:Stmt:=top 86
theorem Q6:FnScope ["left","deepest","one","word","other"] ["left","deepest"] (defScope Kg):={}
theorem zmf{n k:Nat}(j:1<=k)(T:Txt K mg w tw rw fa cj ca ce co cn cNoNumber cNoRow)(d:Dfn K mg "take_pair" Kg ["left","deepest"])(Tf:03 1 "take_word" ["left"] zco)(I:03 k "take_saying" ["left","deepest"]<|zf2 n):03 (k+1) "take_pair" ["left","deepest"] (zf1 n):=by
 apply d.cal Q6 23 47
 .nofun
 let(l,wd,sy,t,rest,dp,rfl,e,Y,r,U,z,v,x,d1,d2,q):=h;apply⟨_,(zab (zal (i:=2) Q6.nd R 09<|zae I hr 01 00 046)<|zab (zal (i:=3) Q6.nd R 09 069) (zab (zal (i:=4) Q6.nd R 09<|zae I hr 01 00 046)<|zab (za3 (zaq op_ne 069 zaz 66) (zac zb2) zan) (zac<|zai (za4<|pa_c (pv 3) (pa_c (pv 2)<|pa_c (pv 4) zaa))))),?_⟩;apply zaw [G<|.ref l,G<|.int dp,B,B,B] R ?_;trivial;apply⟨l,sy,_,dp,R,e,Y,U,v,d1,λo H1 C L r1=>⟨l,R,.inr ⟨_,_,L,λH2 J g=>⟨l,t,_,dp,R,e,g,z,x,d2,λD H3 a M O=>⟨l,R,.inr ⟨_,_,M,λH4 y u=>⟨R,?_⟩⟩⟩⟩⟩⟩⟩;rw[Xg rfl];apply iteF ⟨zah 05,λp H5 c=>q _ H5 (C.trans<|J.trans (a.trans<|y.trans (.of c.g))) (c.g _ _ u)<|.two r c.at' ?_ ((O.sameX M y).same c.g)⟩;show(((r1.sameX L J).sameX g a).sameX M y).same c.g
theorem zo6(T:Txt K mg w tw rw fa cj ca ce co cn cNoNumber cNoRow)(p:Dfn K mg "take_saying" Qy ["left","deepest"])(Y:Dfn K mg "take_pair" Kg ["left","deepest"])(C:03 1 "take_word" ["left"] zco):∀n,03 (2*n+1) "take_saying" ["left","deepest"] (zf2 n)
 |0=>(p.never λvs H Q E h=>by let(l,s,rest,d,_,hd,_):=h;show Xa hd<|y2z _).mono 07
 |n+1=>by
  let f:=zo6 T p Y C n;show ok_take 01 T p C f<|zmf 01 T Y C f
abbrev P0:Stmt:=top 87
theorem Tv:FnScope ["text","left","saying"] ["text"] (defScope P0):={}
include T in
theorem ok_read(d:Dfn K mg "read" P0 ["text"])(e:CalT P w K mg base 2 "words_of" ["text"] znl)(I:03 27 "take_saying" ["left","deepest"]<|zf2 13)(Y:03 29 "is_any_saying" ["thing"] zf9):CalT P w K mg base 30 "read" ["text"] zq6:=by
 apply d.calT Tv 23 47
 .nofun
 let(z,sy,rfl,hz,c,wd,wf,hd,x,q):=h;apply⟨_,(zdk (PS.t<|za3 (zbj<|zbe (zay za8 00 T.b_isinstance iy<|pa_c (pv 0) (pa_c (zbl (v:=.ty "str") 00 T.b_str boot_str 00) zaa))) (zac zb2) zan)<|zdk (zze (i:=1) Tv.nd R 09<|zit K R 00 T.b_list 00 T.b_reversed (zwd (zkh e hr 01 00<|PA.t 010)<|PA.t zaa)) (PSs.t<|zab (zal (i:=2) Tv.nd R 09<|zae I hr 01 00 (pa_c (pv 1)<|pa_c (zbs 00 T.g_DEEPEST) zaa)) (zab (za3 (PW.pt<|zez (zn2 (pv 1) λ_=>rfl) (zdv<|zbj (zbe<|zae Y hr 01 00 023))) (zac zb2) zan)<|zac (zai<|pv 2)))),?_⟩;apply zaw [G<|.str z,B,B] R ?_;trivial;let r:=zea sy;apply⟨_,.str z,by decide,iteF ⟨z,R,hz,λD H1 u g1 j=>⟨D,R,_,.of j,by rw[y01,c];omega,λL H2 o=>?_⟩⟩⟩;let g:H2 L=G (.lst<|revW (toksS sy++[])):=by rw[o.at',c,y1g];unfold revW;rw[List.map_reverse]
 apply⟨L,sy,[],12,R,by decide,g,wd,wf,hd,λv H3 a M p=>⟨Fa,.inl ⟨_,.of M,R⟩,iteF ⟨v,R,p.exp wf 12,λb H4 l U=>?_⟩⟩⟩;let O:b=N:=U.mpr ⟨sy,p,wf,hd,x⟩;subst O;show itN<|q v H4 (g1.trans<|(a.same o.g o.nil).trans l) (p.same l)
abbrev Vc:Stmt:=top 93
theorem Qq:FnScope ["_law_head","_law_some","_law_text","_law_frame"] ["_law_head"] (defScope Vc):={}
include T in
theorem zwm{z Pr j L Pj Pd:Ad}(d:Dfn K mg "_law_said" Vc ["_law_head"])(Qbz:CalT P w K mg base 30 "read" ["text"] zq6)(Qbt:03 32 "built" ["saying","frame"]<|zhm Pr qs_reduced j qs_paired L qs_met Pj qs_joined Pd qs_dropped z qs_maker):CalT P w K mg base 33 "_law_said" ["_law_head"] (zq4 Pr qs_reduced j qs_paired L qs_met Pj qs_joined Pd qs_dropped z qs_maker):=by
 apply d.calT Qq 23 47
 .nofun
 let(x,rfl,I,r,q):=h;apply⟨_,(zdk (PS.t<|zal (i:=1) Qq.nd R 09 (za1<|pa_c (za4<|pa_c zaz (pa_c (za1<|pa_c zaz zaa) zaa)) (pa_c (za4<|pa_c zaz (pa_c (za1<|pa_c zaz (pa_c zaz zaa)) zaa)) zaa)))<|zdk (PS.t<|zal (i:=1) Qq.nd R 09 (zat zgi (pv 1)<|za1 (pa_c (za4<|pa_c zaz (pa_c (za1<|pa_c zaz (pa_c zaz zaa)) zaa))<|pa_c (za4<|pa_c zaz (pa_c (za1<|pa_c zaz zaa) zaa)) zaa))) (zdk (PS.t<|zal (i:=1) Qq.nd R 09 (zat zgi (pv 1)<|za1 (pa_c (za4<|pa_c zaz (pa_c (za1<|pa_c zaz zaa) zaa))<|pa_c (za4<|pa_c zaz (pa_c (za1<|pa_c zaz (pa_c zaz zaa)) zaa)) zaa)))<|zdk (PS.t<|zx2 (zam (zav K) (pv 1) (zat zbt (pv 0) zad) λ_ _=>rfl) (zc6 K (n:=2) R<|zbc (zaj (i:=2) Qq.nd 00 38) (zbc (zaj (i:=3) Qq.nd 00 38) zc5))) (zru<|zrt (zki Qbt hr 01 00<|zwd (zkh Qbz hr 01 00<|PA.t 023) (zwd (PE.t<|pv 3)<|PA.t zaa))))),?_⟩;apply zaw [G<|.int x,B,B,B] R ?_;trivial;apply mkT λf1 H1 u=>mkT λt1 H2 o=>mkT λf2 H3 e=>mkT λD H4 n4=>mkT λl1 H5 c=>mkT λf3 H6 n6=>mkT λt3 H7 n7=>mkT λf4 H8 n8=>mkT λt4 H9 a=>mkT λl2 H10 kt=>⟨_,(n6.g.trans<|n7.g.trans (n8.g.trans<|a.g.trans kt.g)) _ _ c.at',_,kt.at',zah 05,λl3 H11 me=>mkT λf5 H12 mh=>mkT λt5 H13 n13=>mkT λf6 H14 n14=>mkT λt6 H15 n15=>mkT λl4 H16 n16=>⟨_,(mh.g.trans<|n13.g.trans (n14.g.trans<|n15.g.trans n16.g)) _ _ me.at',_,n16.at',zah 05,λl5 H17 n17=>?_⟩⟩;let a15:=n16.g.trans n17.g;let a13:=n14.g.trans<|n15.g.trans a15;let a11:=mh.g.trans<|n13.g.trans a13;let a9:=kt.g.trans<|me.g.trans a11;let a7:=n8.g.trans<|a.g.trans a9;let a4:=c.g.trans<|n6.g.trans (n7.g.trans a7);let l:=e.g.trans<|n4.g.trans a4;let g:Same H H17:=u.g.trans<|o.g.trans l;let J:∃(t f:Ad) (p:Str×List Str×Sy),atI ([V.ref t1,V.ref D]++[V.ref t3,V.ref t4]++[V.ref t5,V.ref t6]) (x%6)=G (.ref t)/\H17 t=G (.tup [.str p.1,.ref f])/\H17 f=G (.lst<|p.2.1.map V.str)/\p∈say67:=by
  let h6:x%6=0\/x%6=1\/x%6=2\/x%6=3\/x%6=4\/x%6=5:=by omega
  rcases h6 with h|h|h|h|h|h<;>rw[h]
  .exact⟨t1,f1,say67[0],R,l _ _ o.at',l _ _<|o.g _ _ u.at',y0c 07⟩
  .exact⟨D,f2,say67[1],R,a4 _ _ n4.at',a4 _ _<|n4.g _ _ e.at',y0c 07⟩
  .exact⟨t3,f3,say67[2],R,a7 _ _ n7.at',a7 _ _<|n7.g _ _ n6.at',y0c 07⟩
  .exact⟨t4,f4,say67[3],R,a9 _ _ a.at',a9 _ _<|a.g _ _ n8.at',y0c 07⟩
  .exact⟨t5,f5,say67[4],R,a13 _ _ n13.at',a13 _ _<|n13.g _ _ mh.at',y0c 07⟩
  .exact⟨t6,f6,say67[5],R,a15 _ _ n15.at',a15 _ _<|n15.g _ _ n14.at',y0c 07⟩
 let(t,f,p,hat,y,ef,hp):=J;let(Y,C):=zvo p hp;let(M,hM):=y2l.mp Y;let(mo,hh):=zh1 _ _ hM;let(r1,r2,O,r4,r5,r6,r7,r8,r9,r10):=zvn p hp;apply⟨by decide,_,.of n17.at',_,hat,?_⟩;apply⟨t,R,_,.of y,R,_,_,R,_,_,R,R,p.1,p.2.2,R,r1,r2,O,r4,r5,r6,λv H18 g18 U=>⟨v,f,p.2.1,p.2.2,M,R,I.same<|g.trans g18,r.same<|g.trans g18,U,g18 _ _ ef,⟨r7,r8,r9,r4,r5,r6,r10⟩,mo,C,λp' H19 g19 r19=>q p' M H19 (g.trans<|g18.trans g19) r19 hh.ok⟩⟩
abbrev K9:Stmt:=top 95
theorem Qe:FnScope ["_law_machine_here","_law_counts_here","_law_row","_law_room","_law_found","_law_k","_law_line","_law_letter"] ["_law_machine_here","_law_counts_here","_law_row"] (defScope K9):={}
include T in
theorem zsn(d:Dfn K mg "_law_ahead" K9 ["_law_machine_here","_law_counts_here","_law_row"]):03 1 "_law_ahead" ["_law_machine_here","_law_counts_here","_law_row"] zf5:=by
 apply d.cal Qe 23 47
 .nofun
 let(a,c,b,m,L,row,rfl,M,ok,ct,O,dy,Y,hL,q):=h;let(b1,g,rs,ea,e1,e,ec):=M;let(cs,ecs,pc):=ct;apply⟨_,(zab (zal (i:=3) Qe.nd R 09 zad)<|zab (zal (i:=4) Qe.nd R 09 zad) (zab (zbz PassesOwn.never R (zbp 00 T.b_range<|pa_c (zay (zar K) 00 T.b_len iz 023) zaa) (zaj (i:=5) Qe.nd 00 38)<|zab (zal (i:=6) Qe.nd R 09<|zam 19 (zam 19 (pv 0) zad λ_ _=>rfl) (pv 3) (λ_ _=>rfl)) (zab (zbz PassesOwn.never R (zbp 00 T.b_range<|pa_c (zam (zav K) (pv 2) (pv 5) λ_ _=>rfl) zaa) (zaj (i:=7) Qe.nd 00 38)<|zac (zal (i:=4) Qe.nd R 09<|zat zca (pv 4) (zam (zav K) (zam (zav K) (pv 1) (zat zcj (zat zcj (zay (zar K) 00 T.b_len iz 023) zad)<|pv 5) λ_ _=>rfl) (zam 19 (pv 6) (pv 7) λ_ _=>rfl) λ_ _=>rfl)))<|zac (zal (i:=3) Qe.nd R 09<|zam 19 (pv 6) (zam (zav K) (pv 2) (pv 5) λ_ _=>rfl) (λ_ _=>rfl))))<|zac (zai<|za4 (pa_c (pv 4)<|pa_c (zam 19 (zam 19 (pv 0) zad λ_ _=>rfl) (pv 3) λ_ _=>rfl) zaa)))),?_⟩;apply zaw [G 04,G<|.ref c,G 49,B,B,B,B,B] R ?_;trivial;let hr0:=ok.pos;apply⟨_,.inl<|.of O,by omega,by rw[y01];omega,?_⟩;rw[y01];apply zel (λi σ H'=>H'=H/\∃(acc:Nat) (v5 v6 y:Option V),σ=[G 04,G<|.ref c,G 49,G<|nV 013,G<|nV acc,v5,v6,y]/\acc+num m 013 (row.drop i)=num m 0 row)
  ⟨R,0,B,B,B,R,by change 0+num m 0 row=_;omega⟩ ?_ ?_
 .rintro i σ H' hi ⟨rfl,acc,v5,v6,y,rfl,k9⟩;let z:i<row.length:=by omega
  let p:=y00 z;generalize row[i]=l at p;let D:=dy l<|y0k p;let d5:=ok.run_lt 030 0 ok.pos λx J=>dy x<|y2f J;let I:m.run 0 030<m.ways.length:=by rw[ok.len];show d5
  let hlw:=ok.line _<|y0c I;let km:=ok.room _<|y0c I;let cf:=za6 ok.wid;let(v,qb,a2,rfl,u):=Paired.at2 e<|y00 I;let(v,qa,U,rfl,m5):=Paired.at2 pc<|y0p (show row.length-i-1<L+1 by omega);let hgd:m.ways.getD 013 []=m.ways[m.run 0 030]:=by rw[y02,y00 I];rfl
  let d9:∀l' (h:l'<m.ways[m.run 0<|row.take i].length),m.go 013 l'=m.ways[m.run 0 030][l']:=λl' h=>by
   unfold Mc.go;rw[hgd,y02,y00 h];rfl
  let elb:(row.map nV)[i]?=G (nV l):=by rw[y03,p];rfl
  trivial;let er:m.run 0 (row.take<|i+1)=m.go 013 l:=by rw[y14,p];show Mc.run_snoc ..
  let qe:(row.length:Int)-1-(0+(i:Int))=((row.length-i-1:Nat):Int):=by omega
  let c8:atI (row.map nV) (0+(i:Int))=G (nV l):=by rw[y4f];show zaf elb
  apply⟨_,.of ea,_,zaf (j:=1) R,_,.of e1,_,zaf qb,_,.of O,_,c8,(l:Int),R,by omega,by omega,?_⟩;apply zel (λl' σ r=>r=H'/\∃y:Option V,σ=[G 04,G<|.ref c,G 49,G<|nV 013,G<|nV (acc+pre m 043 013 l'),G<|.int (0+(i:Int)),G<|.ref a2,y])
   ⟨R,y,R⟩ ?_ ?_
  .rintro l' σ r hl' ⟨rfl,y,rfl⟩;let C:l'<m.ways[m.run 0 030].length:=by omega
   let kq:(m.ways[m.run 0 030].map nV)[l']?=G (nV<|m.go 013 l'):=by rw[y03,y00 C,d9 l' C];rfl
   let atc:((cl m 043).map nV)[m.go 013 l']?=G (nV<|cnt m 043 (m.go 013 l')):=by rw[y03,zfk<|by rw[d9 l' C];show km _<|y0c C];rfl
   let at1:atI (m.ways[m.run 0 030].map nV) (0+(l':Int))=G (nV<|m.go 013 l'):=by rw[y4f];show zaf kq
   trivial;apply⟨_,.inl<|.of O,_,.of ecs,?_⟩;rw[y01,qe];show⟨_,zaf qa,_,.of u,_,at1,_,.of m5,_,zaf atc,(show((acc+pre m 043 013 l':Nat):Int)+((cnt m 043 (m.go 013 l'):Nat):Int)=_ by rw[zn4];omega)⟩
  .rintro σ r ⟨rfl,y,rfl⟩;let kq:(m.ways[m.run 0 030].map nV)[l]?=G (nV<|m.go 013 l):=by rw[y03,y00 01,d9 l 01];rfl
   trivial;show⟨_,.of O,_,c8,_,.of u,_,zaf kq,by rw[er],_,by rw[show((l:Int)).toNat=l by omega],zob p k9⟩
 .rintro σ H' ⟨rfl,acc,v5,v6,y,rfl,k9⟩;trivial;let hf:m.run 0 row<m.ends.length:=ok.run_lt row 0 ok.pos dy;rw[show((row.length:Int)).toNat=row.length by omega,List.take_length]at k9 ⊢;rw[List.drop_length]at k9;let e0:acc=num m 0 row:=by have:num m 032 []=0:=rfl;omega
  subst e0;apply⟨_,.of ea,_,zaf (j:=2) R,_,.of ec,_,zaf (by rw[y03,Mc.fin_at hf];rfl),mkT λt H2 o=>q t H2 o.g o.at'⟩
abbrev Kv:Stmt:=top 97
theorem Q0:FnScope ["_law_machine_here","_law_length","_law_number","_law_refused"] ["_law_machine_here","_law_length","_law_number"] (defScope Kv):={}
include T in
theorem zsm(d:Dfn K mg "_law_no_row" Kv ["_law_machine_here","_law_length","_law_number"])(Tm:CalE P w K mg base 4 "row_by" ["machine","length","number"]<|sp_rowby cNoNumber):03 6 "_law_no_row" ["_law_machine_here","_law_length","_law_number"] zj1:=by
 apply d.cal Q0 23 47
 .nofun
 let(a,m,L,rfl,M,ok,u,q):=h;apply⟨_,(zab (zal (i:=3) Q0.nd R 09 zch)<|zab (zvw Tm hr 01 00 (pa_c (pv 0)<|pa_c (pv 1) 023) 00 T.m_NoNumber T.k_NoNumber R R R Q0.nd λ_=>(zac<|zal (i:=3) Q0.nd R 09 zch)) (zac<|zai (pv 3))),?_⟩;apply zaw [G 04,G<|nV L,G<|nV (cnt m L 0),B] R ?_;trivial;show⟨a,m,nV L,nV<|cnt m L 0,R,M,ok,.inr ⟨.inr ⟨L,R,u,.inl ⟨_,R,by omega⟩⟩,λe H' g j I c=>by cases c;show⟨cNoNumber,R,T.ms,λH3 o=>q H3<|g.trans o⟩⟩⟩
abbrev Kw:Stmt:=top 94
theorem Kl:FnScope ["_law_machine_here","_law_length","_law_counts_here","_law_k"] ["_law_machine_here","_law_length"] (defScope Kw):={}
include T in
theorem zp1(d:Dfn K mg "_law_counts" Kw ["_law_machine_here","_law_length"]):03 1 "_law_counts" ["_law_machine_here","_law_length"] zhk:=by
 apply d.cal Kl 23 47
 .nofun
 let(a,m,L,rfl,rm,ok,hL,q):=h;let(b1,c1,rs,ea,e1,pr,ec):=rm;apply⟨_,(zab (zal (i:=2) Kl.nd R (Or.inr R)<|za1 (pa_c (zau ["_law_end"] [] 74 00 (zbd K<|zam 19 (pv 0) zad (λ_ _=>rfl)) (λ_ _ _ _ _=>(zaj (i:=0) (show List.Nodup (["_law_end"]:List Str) by decide+kernel) 00 38)) (λ_ _ _ _ _=>za2) λ_ _ _ _ _=>(zbo zlf 00 T.b_int boot_int 010)) zaa))<|zab (zbz PassesOwn.never R (zbp 00 T.b_range 019) (zaj (i:=3) Kl.nd 00 38)<|zac (zbk<|zcc K PySem.F.plainAttrs_list PySem.F.slot_list_append PySem.F.type_list_append zbf (pv 2) (pa_c (zau ["_law_line"] [(2,"_law_counts_here")] 74 00 (zbd K<|zam 19 (pv 0) zad (λ_ _=>rfl)) (λ_ _ _ _ _=>(zaj (i:=0) (show List.Nodup (["_law_line","_law_counts_here"]:List Str) by decide+kernel) 00 38)) (λ_ _ _ _ _=>za2) λ_ _ _ _ _=>(zay (zbr K R) 00 T.b_sum boot_sum<|pa_c (zau ["_law_ahead_here"] [(1,"_law_counts_here")] 74 00 (zbd K<|pv 0) (λ_ _ _ _ _=>(zaj (i:=0) (show List.Nodup (["_law_ahead_here","_law_counts_here"]:List Str) by decide+kernel) 00 38)) (λ_ _ _ _ _=>za2) λ_ _ _ _ _=>(zam (zav K) (zam (zav K) (pv 1) (zis zd9 zad) λ_ _=>rfl) (pv 0) λ_ _=>rfl)) zaa)) zaa))) (zac<|zai (pv 2))),?_⟩;apply zaw [G 04,G<|nV L,B,B] R ?_;trivial;let cf:=za6 ok.wid;let hwl:m.ways.length=m.ends.length:=ok.len;let pj:=ok.few;apply⟨_,.of ea,_,zaf (j:=2) R,⟨_,.of ec⟩,zcl (K:=K) (a:=c1) (xs:=m.ends.map V.bl) (λσ=>∃v,σ=[v]) (λv=>match v with|.bl b=>nV (if b=N then 1 else 0)|_=>.non) (by rw[y01];omega) (.of ec) ⟨_,R⟩ ?_ ?_⟩
 .rintro D3 i3 σ H4 x pq hm J M O bg ⟨v,rfl⟩;let(b,mb,rfl):=y0h.mp hm;trivial;show zbi (by rw[y01];omega) J O bg M ⟨_,R⟩ (by cases b<;>rfl)
 intro D3 H4 O l dq;let cq:H4 D3=G (.lst<|(cl m 0).map nV):=by
  rw[dq,zum,y0o,y0o];rfl
 apply mkT λp H5 n5=>⟨by omega,by omega,?_⟩;let pz:H p=B:=l.free n5.nil;rw[show((L:Int)).toNat=L by omega];apply zel (λi σ H'=>Same H H'/\(∃v3,σ=[G 04,G<|nV L,G 22,v3])/\∃xs:List V,H' p=G 016/\i8 (CntL m H') xs (List.range<|i+1)) ⟨l.trans n5.g,⟨B,R⟩,_,n5.at',.cons ⟨D3,R,n5.g _ _ cq⟩ .nil⟩ ?_ ?_
 .rintro j σ H' U ⟨g,⟨v3,rfl⟩,xs,ep,pp⟩;let cw:xs.length=j+1:=by rw[pp.length,y0y]
  let aq:∀c k,H' c=G (.lst<|(cl m k).map nV)->c≠p:=by
   rintro c k e rfl;rw[ep]at e;injection e with e
   injection e with e
   let(v,o,c',rfl,_):=Paired.at2 pp<|y0p (show 0<j+1 by omega);rw[e,y03]at o;let(z,_,hz):=y0z.mp o;cases hz
  let(v,o,c,rfl,ecj):=Paired.at2 pp<|y0p (show j<j+1 by omega);obtain⟨bp,v',ko⟩:∃bp v',xs=bp++[v']:=by
   rcases y4d xs with e|⟨i,x,e⟩
   .rw[e]at cw;cases cw
   .exact⟨i,x,by rw[e,y4e]⟩
  let o0:v'=.ref c:=by
   rw[ko,y0e,y0s]at cw;let hij:bp.length=j:=by omega
   rw[ko,←hij,y11 08,y3b]at o;injection o
  subst o0;let atx:atI xs (-1)=G (.ref c):=by rw[ko];show zfy _ _
  trivial;apply⟨.inl ⟨_,.of ep⟩,_,.of<|g _ _ ea,_,zaf (j:=1) R,⟨_,.of<|g _ _ e1⟩,zg9 (n:=m.ways.length) (λσ=>∃v,σ=[v,G 22]) (λj' y H=>y=nV (cnt m (j+1) j')) 01 ⟨_,R⟩ (λi H2 hi M=>⟨_,_,.of<|M _ _ (g _ _ e1),y00<|by rw[pr.length];show hi⟩) (λH2 M=>⟨_,.of<|M _ _ (g _ _ e1),by rw[pr.length];show y05 _⟩) ?_ ?_⟩
  .rintro D i ys σ H2 x H2' hi M u I Y C ⟨v,rfl⟩ ⟨rfl,yx⟩;let ex:=yx _<|.of (M _ _<|g _ _ e1);let(v,ev2,a2,rfl,e4):=Paired.at2 pr<|y00 hi;rw[ev2]at ex;cases ex;let ax:=ok.line _<|y0c hi;let km:=ok.room _<|y0c hi;let gz:=M _ _<|g _ _ e4;trivial;apply⟨⟨_,.of gz⟩,zcl (K:=K) (a:=a2) (xs:=m.ways[i].map nV) (λσ=>∃v,σ=[v,G 22]) (fC m j) (by rw[y01,ax];omega) (.of gz) ⟨_,R⟩ ?_ ?_⟩
   .rintro D3 i3 σ H4 x pq hm J g5 O bg ⟨v,rfl⟩;let(r,mr,rfl):=y0h.mp hm;let kl:((cl m j).map nV)[r]?=G (nV<|cnt m j r):=by rw[y03,zfk<|km r mr];rfl
    trivial;apply⟨_,.of<|g5 _ _ (M _ _ ep),_,atx,_,.of<|g5 _ _ (M _ _ ecj),_,zaf kl,?_⟩;show zbi (by rw[y01,ax];omega) J O bg g5 ⟨_,R⟩ (fC_n _ _ _).symm
   intro D3 H4 O g5 dq;let cq:H4 D3=G (.lst<|((m.ways[i].map<|cnt m j).map λ(n:Nat)=>(n:Int)).map V.int):=by
    rw[dq,←zgm,y0o,y0o];rw[show(fC m j∘nV)=nV∘cnt m j from funext λr=>fC_n m j r]
   apply⟨_,R,_,.of cq,?_⟩;apply zcf (λj' y H H' ts z=>z) 01 hi u (g5 _ _ I) Y C g5.tups (M.trans g5) ⟨_,R⟩ ?_;change _=nV (((m.ways.getD i []).map<|cnt m j).sum);rw[y02,y00 hi,zni];rfl
  intro D6 ys H6 gh g6 e6 hl6 hy6;let ey:ys=(cl m<|j+1).map nV:=by
   apply y1p λk=>?_;by_cases hk:k<ys.length
   .rw[y00 hk,hy6 k _<|y00 hk,y03,zfk 01];rfl
   .rw[y0r 01,y0r<|by rw[y01,zo2];omega]
  rw[ey]at e6;apply⟨_,g6 _ _ ep,small1000 01,(g.trans g6).wr pz _,_,zao,?_⟩;rw[y28];apply SM.Paired.snoc (L2.Paired.mapP pp λv k h=>?_) ⟨D6,R,?_⟩
  .let(c,e,z):=h;show⟨c,e,by rw[zak<|aq c k z];show g6 _ _ z⟩
  .rw[zak λe=>by rw[e,ep]at gh;cases gh];show e6
 .rintro σ H' ⟨g,⟨v3,rfl⟩,xs,ep,pp⟩;trivial;show q p xs H' pz g ep pp
abbrev Kt:Stmt:=top 96
theorem Vv:FnScope ["_law_machine_here","_law_counts_here","_law_row","_law_length","_law_number","_law_letter"] ["_law_machine_here","_law_counts_here","_law_row","_law_length","_law_number"] (defScope Kt):={}
include T in
theorem zsk(d:Dfn K mg "_law_row_is" Kt ["_law_machine_here","_law_counts_here","_law_row","_law_length","_law_number"])(x:03 1 "_law_whole" ["_law_found","_law_most"] znm)(D:03 1 "_law_ahead" ["_law_machine_here","_law_counts_here","_law_row"] zf5):03 2 "_law_row_is" ["_law_machine_here","_law_counts_here","_law_row","_law_length","_law_number"] zj0:=by
 apply d.cal Vv 23 47
 .nofun
 let(a,c,b,m,L,n,row,rfl,M,ok,ct,O,r,hL,q):=h;let U:=zi5 hr 8 01;let(I,c1,rs,ea,e1,e,J):=id M;apply⟨_,(zab (za3 (PW.pt<|zez (zbj<|zbe (zay za8 00 T.b_isinstance iy<|pa_c (pv 2) (pa_c (zbl (v:=.ty "list") 00 T.b_list boot_list 00) zaa))) (zdv<|zaq zsb (zay (zar K) 00 T.b_len iz 023) (pv 3) 66)) 038 zan)<|zab (zbz PassesOwn.never R (zba K<|pv 2) (zaj (i:=5) Vv.nd 00 38)<|zac (za3 (zbj<|zbe (zae x hr 01 00<|pa_c (pv 5) (pa_c (zat zed zad<|zam 19 (pv 0) zad (λ_ _=>rfl)) zaa))) 038 zan)) (zac<|zai (zb9 (zx5 U) (zae D hr 01 00<|pa_c (pv 0) (pa_c (pv 1) 023)) (za4<|pa_c (pv 4) (pa_c zch zaa)) 66))),?_⟩;apply zaw [G 04,G<|.ref c,G 49,G<|nV L,G<|nV n,B] R ?_;trivial;let g:(m.w:Int).toNat=m.w:=by omega
 let cf:=za6 ok.wid;apply⟨_,.lst O,by decide,?_⟩;apply iteF ⟨_,.inl<|.of O,?_⟩;rw[y01,r.len,Xg rfl];apply iteF ⟨⟨_,.of O⟩,?_⟩;apply ze5 (K:=K) (a:=b) (xs:=row.map nV) (λi σ H'=>H'=H/\∃j,σ=[G 04,G<|.ref c,G 49,G<|nV L,G<|nV n,j]) ⟨R,B,R⟩ (λi σ H' _ z=>by rw[z.1];show .of O) ?_ ?_
 .rintro i y σ H' C ⟨rfl,j,rfl⟩;let(l,u,rfl):=y0h.mp<|y0k C;let Y:=r.row l u;trivial;let hw:=ok.wid;show⟨_,.of ea,_,zb1,⟨by omega,by omega,by decide⟩,(l:Int),_,R,by omega,by rw[y1d,y3j];let h:=Int.ofNat_lt.mpr Y;push_cast at h;show h,itN R⟩
 .rintro σ H' ⟨rfl,j,rfl⟩;trivial;apply⟨a,c,b,m,L,row,R,M,ok,ct,O,r.row,by rw[r.len];show y05 _,hL,λt H1 g1 et=>mkT λp H2 o=>?_⟩;rw[r.num,r.acc]at et;show⟨N,(rc_nb (k:=0) (o.g _ _ et) o.at').up 07,q H2<|g1.trans o.g⟩
abbrev Qv:Stmt:=top 98
theorem Qa:FnScope ["_law_machine_here","_law_counts_here","_law_row","_law_due","_law_taken","_law_found"] ["_law_machine_here","_law_counts_here","_law_row"] (defScope Qv):={}
include T in
theorem zwl(d:Dfn K mg "_law_number_told" Qv ["_law_machine_here","_law_counts_here","_law_row"])(j:CalE P w K mg base 3 "number_of" ["machine","row"]<|zno K cNoRow)(D:03 1 "_law_ahead" ["_law_machine_here","_law_counts_here","_law_row"] zf5):03 4 "_law_number_told" ["_law_machine_here","_law_counts_here","_law_row"] znp:=by
 apply d.cal Qa 23 47
 .nofun
 let(a,c,b,m,L,row,rfl,M,ok,ct,O,g,Y,u,q):=h;apply⟨_,(zab (zx2 (zae D hr 01 00<|pa_c (pv 0) (pa_c (pv 1) 023))<|zc6 K (n:=2) R (zbc (zaj (i:=3) Qa.nd 00 38)<|zbc (zaj (i:=4) Qa.nd 00 38) zc5))<|zab (zal (i:=5) Qa.nd R 09<|zis zd9 zad) (zab (zvv j hr 01 00 (pa_c (pv 0)<|pa_c (zbo (zqr K) 00 T.b_list boot_list 023) zaa) 00 T.m_NoRow T.k_NoRow R R R Qa.nd (i:=5) R 09 λ_=>(zac<|zal (i:=5) Qa.nd R 09 (zis zd9 zad)))<|zab (za3 (zbj<|zbe (pv 4)) (zac<|zai (zb9 zcd (pv 5) (zis zd9 zad) 66)) zan) (zac<|zai (zci (zay za8 00 T.b_isinstance iy<|pa_c (pv 5) 081)<|zci (zn6<|zay za8 00 T.b_isinstance iy (pa_c (pv 5) 080)) (zcy<|zb9 zcd (pv 5) (pv 3) 66))))),?_⟩;apply zaw [G 04,G<|.ref c,G 49,B,B,B] R ?_;trivial;apply⟨a,c,b,m,L,row,R,M,ok,ct,O,g,Y,u,λt H1 g1 y=>?_⟩;apply⟨t,R,_,.of y,R,_,_,R,_,_,R,R,?_⟩;trivial;let r:=g1 _ _ O;apply⟨_,.inl<|.of r,λl H2 o=>?_⟩;let J:=g1.trans o.g;apply⟨a,l,m,row,R,M.same J,ok,.of o.at',g,by omega,?_⟩;cases x:m.fin (m.run 0 row)with
 |true =>
  apply .inl ⟨by omega,R,λH3 p=>iteF ⟨_,.int _,by decide,iteT ⟨_,.int _,by decide,iteT ?_⟩⟩⟩;trivial;show q H3<|J.trans p
 |false=>show .inr ⟨.inr R,λe H3 p U I C=>by cases C;show⟨cNoRow,R,T.msR,λH4 z=>iteT<|q H4 (J.trans<|p.trans z)⟩⟩
abbrev K5:Stmt:=top 99
theorem Qb:FnScope ["_law_machine_here","_law_cell","_law_length","_law_counts_here","_law_many","_law_mixed","_law_number","_law_row","_law_other"] ["_law_machine_here","_law_cell"] (defScope K5):={}
include T in
theorem zsl(d:Dfn K mg "_law_right" K5 ["_law_machine_here","_law_cell"])(P5:03 1 "_law_counts" ["_law_machine_here","_law_length"] zhk)(Qa2:CalE P w K mg base 4 "how_many" ["machine","length"]<|SM.sp_many cNoNumber)(Pz:03 6 "_law_no_row" ["_law_machine_here","_law_length","_law_number"] zj1)(Tm:CalE P w K mg base 4 "row_by" ["machine","length","number"]<|SM.sp_rowby cNoNumber)
  (Pw:03 2 "_law_row_is" ["_law_machine_here","_law_counts_here","_law_row","_law_length","_law_number"] zj0) (Kp:03 4 "_law_number_told" ["_law_machine_here","_law_counts_here","_law_row"] znp):03 7 "_law_right" ["_law_machine_here","_law_cell"] SM.sp_lright:=by
 apply d.cal Qb 23 47
 .nofun
 let(a,m,x,rfl,M,ok,q):=h;apply⟨_,(zab (zal (i:=2) Qb.nd R 09<|zat zbt (zat zd5 (pv 1) zad) zad)<|zma (za3 (zaq zcd (zat zbt (pv 1) zad) zad 66) (zac<|zal (i:=2) Qb.nd R 09 (zat zbt (zat zd5 (pv 1) zad) zad)) zan) (zab (zal (i:=3) Qb.nd R 09<|zae P5 hr 01 00 (pa_c (pv 0) 023))<|zab (zal (i:=4) Qb.nd R 09<|zkf Qa2 hr 01 00 (pa_c (pv 0) 023)) (zab (za3 (PW.pt<|zez (zbj<|zbe (zay za8 00 T.b_isinstance iy<|pa_c (pv 4) 081)) (zez (zbe<|zay za8 00 T.b_isinstance iy (pa_c (pv 4) 080))<|zdv (zaq op_ne (pv 4) (zam (zav K) (zam (zav K) (pv 3) (pv 2) λ_ _=>rfl) zad λ_ _=>rfl) 66))) 038 zan)<|zab (za3 (zbj<|zbe (zae Pz hr 01 00<|pa_c (pv 0) (pa_c (pv 2)<|pa_c (pv 4) zaa))) 038 zan) (zab (zal (i:=5) Qb.nd R (Or.inr R)<|zat zbt (zat zgh (zat zd5 (pv 1) zad) zad) zad)<|zab (zbz PassesOwn.never R (zba K<|za1 (pa_c zad<|pa_c (zat zcj (pv 4) zad) (pa_c (zat zbt (zat zca (zat zgh (pv 5)<|pv 5)<|pv 1)<|zay (zus R) 00 T.b_max boot_max (pa_c zad<|pa_c (pv 4) zaa)) zaa))) (zaj (i:=6) Qb.nd 00 38)<|zac (za3 (zvu zsc zkn zad (pv 6)<|pv 4) (zab (zal (i:=7) Qb.nd R 09<|zkf Tm hr 01 00 (pa_c (pv 0)<|pa_c (pv 2) (pa_c (pv 6) zaa)))<|zab (za3 (PW.pt<|zez (zbj<|zbe (zae Pw hr 01 00<|pa_c (pv 0) (pa_c (pv 3)<|pa_c (pv 7) (pa_c (pv 2)<|pa_c (pv 6) zaa)))) (zdv<|zbj (zbe<|zae Kp hr 01 00 (pa_c (pv 0)<|pa_c (pv 3) (pa_c (pv 7) zaa))))) 038 zan) (zab (ze0 (i:=8) Qb.nd R 09 ["_law_letter"] [(5,"_law_mixed"),(0,"_law_machine_here")] 74 00 (zba K<|zb3 (zfq K) (pv 7) (zb8<|zis zd9 zad) zd4) (λ_ _ _ _ _=>(zaj (i:=0) (show List.Nodup (["_law_letter","_law_mixed","_law_machine_here"]:List Str) by decide+kernel) 00 38)) (λ_ _ _ _ _=>za2) λ_ _ _ _ _=>(zat zbt (pv 1)<|zat zed zad (zam 19 (pv 2) zad λ_ _=>rfl)))<|zac (za3 (zbj<|zbe (zae Kp hr 01 00<|pa_c (pv 0) (pa_c (pv 3)<|pa_c (zat zgi (zb3 (zfq K) (pv 7) zd4<|zb8 (zis zd9 zad))<|pv 8) zaa))) 038 zan))) zan)) 038)))),?_⟩;apply zaw [G 04,G<|.int x,B,B,B,B,B,B,B] R ?_;trivial;apply⟨⟨by decide,by decide⟩,by decide,zud (λσ H'=>H'=H/\∃L:Nat,L<=100/\σ=[G 04,G<|.int x,G<|nV L,B,B,B,B,B,B]) ?_ ?_⟩
 .trivial;apply⟨by decide,ite2 (λ_=>⟨⟨by decide,by decide⟩,by decide,(x/8%101).toNat,by omega,by omega⟩) λ_=>⟨(x/8%31).toNat,by omega,by omega⟩⟩
 rintro σ H' ⟨rfl,L,hL,rfl⟩;trivial;apply⟨a,m,L,R,M,ok,hL,λDc rs H1 hDc g1 fh pc=>⟨a,m,_,R,M.same g1,ok,.inl ⟨L,R,hL,λH2 g2=>?_⟩⟩⟩;trivial;let e:=g1.trans g2;let(v,ev,c,rfl,ecL):=Paired.at2 pc<|y0p (show L<L+1 by omega);let c8:((cl m L).map nV)[0]?=G (nV<|cnt m L 0):=by rw[y03,zfk ok.pos];rfl
 let hmp:=y2q (x/808*48271) (show(2147483647:Int)≠0 by decide);let hml:=y2r (x/808*48271) (show(0:Int)<2147483647 by decide);generalize x/808*48271%2147483647=mx at hmp hml;apply⟨_,.int _,by decide,iteF ⟨_,.int _,by decide,iteF ⟨_,.of<|g2 _ _ fh,_,zaf ev,_,.of<|g2 _ _ ecL,_,zaf (j:=0) c8,R,?_⟩⟩⟩;rw[Xg rfl];apply iteF ⟨a,m,L,R,M.same e,ok,hL,λH3 o=>itN ⟨⟨by decide,by decide⟩,.inr ⟨by decide,by decide⟩,by decide,.inl ⟨by omega,by omega⟩,by split<;>omega,mkT λp H4 n4=>⟨⟨_,.of n4.at'⟩,?_⟩⟩⟩;let l:Same H' H4:=e.trans<|o.trans n4.g;let ct:CtsAt m L H4 Dc:=(show CtsAt m L H1 Dc from⟨rs,fh,pc⟩).same<|g2.trans (o.trans n4.g);apply ze5 (K:=K) (a:=p) (xs:=_) (λi σ H5=>Same H4 H5/\∃v6 v7 v8,σ=[G 04,G<|.int x,G<|nV L,G<|.ref Dc,G<|nV (cnt m L 0),G<|.int mx,v6,v7,v8]) ⟨Same.refl _,B,B,B,R⟩ (λi σ H5 _ z=>.of<|z.1 _ _ n4.at') ?_ ?_
 .rintro i y σ H5 hy ⟨g5,v6,v7,v8,rfl⟩;obtain⟨z,rfl⟩:∃z:Int,y=.int z:=by
   let:=y0k hy;simp only[y08,y0n,or_false]at this;rcases this with h|h|h<;>show⟨_,h⟩
  trivial;apply ite2 (λh0=>ite2 (λO=>?_) λ_=>g5) λ_=>g5;let h0:=of_decide_eq_true h0;let O:=of_decide_eq_true O;obtain⟨n,rfl⟩:∃n:Nat,z=(n:Int):=⟨z.toNat,by omega⟩;let g45:=l.trans g5;apply⟨a,m,nV L,nV n,R,M.same g45,ok,.inl ⟨L,n,R,R,hL,by omega,λD u H6 hD g6 eD nt=>?_⟩⟩;let hle:u.length<=L:=by rw[nt.len];show y05 _
  apply⟨a,Dc,D,m,L,n,u,R,M.same<|g45.trans g6,ok,ct.same<|g5.trans g6,eD,nt,hL,λH7 g7=>itN ⟨a,Dc,D,m,L,u,R,M.same<|g45.trans (g6.trans g7),ok,ct.same<|g5.trans (g6.trans g7),g7 _ _ eD,nt.row,hle,hL,λH8 g8=>itN ⟨_,.of<|g8 _ _ (g7 _ _ eD),λp9 H9 n9=>⟨⟨_,.of n9.at'⟩,?_⟩⟩⟩⟩;let g49:Same H4 H9:=g5.trans<|g6.trans (g7.trans<|g8.trans n9.g);let eD9:H9 D=G (.lst<|u.map nV):=n9.g _ _<|g8 _ _ (g7 _ _ eD);rw[zxj,←List.map_drop,y01]at n9;let(I,g,d4,ea,_,_,_):=M.same<|l.trans g49;let cf:=za6 ok.wid;let hw:=ok.wid;let f7:(1:Int)*2^(m.w:Int).toNat=((2^m.w:Nat):Int):=by rw[y1d,y3j];push_cast;rfl
  let r0:=y2q mx (show((2^m.w:Nat):Int)≠0 by omega);let r1:=y2r mx (show(0:Int)<((2^m.w:Nat):Int) by omega);obtain⟨r,er⟩:∃r:Nat,mx%((2^m.w:Nat):Int)=(r:Int):=⟨(mx%((2^m.w:Nat):Int)).toNat,by omega⟩;apply zm0 (K:=K) (a:=p9) (xs:=(u.drop<|u.length-1).map nV) (λσ=>∃v,σ=[v,G<|.int mx,G 04]) (λ_=>nV r) (by rw[y01,y1h];omega) (.of n9.at') ⟨_,R⟩ ?_ ?_
  .rintro D3 i3 σ H10 y pq Y J qi bf bg ⟨v,rfl⟩;trivial;apply⟨_,.of<|qi _ _ ea,_,zb1,⟨by omega,by omega,by decide⟩,by rw[f7];omega,?_⟩;rw[f7,er];show zbi (by rw[y01,y1h];omega) J bf bg qi ⟨_,R⟩ R
  intro D3 H10 bf qi dq;apply⟨_,.of<|qi _ _ eD9,λp11 H11 me=>⟨_,me.at',_,me.g _ _ dq,zah (by simp only[zoz,y01,y0w,y1h];omega),λp12 H12 mh=>?_⟩⟩;let ql:Same H9 H12:=qi.trans<|me.g.trans mh.g;apply⟨a,Dc,p12,m,L,u.take (u.length-1)++(u.drop<|u.length-1).map λ_=>r,R,M.same<|l.trans (g49.trans ql),ok,ct.same<|g49.trans ql,?_,?_,?_,hL,λH13 U=>itN<|g49.trans (ql.trans U)⟩
  .rw[mh.at',zoz,y01,←y3m,y0u,y0o,y0o];rfl
  .intro c C;rcases y0x.mp C with h|h
   .exact nt.row c<|y2f h
   .let(_,_,rfl):=y0h.mp h;omega
  .rw[y0e,y01,y0w,y1h];omega
 .rintro σ H5 ⟨g5,v6,v7,v8,rfl⟩;trivial;show q H5<|l.trans g5
abbrev Kk:Stmt:=top 89
theorem zg3:FnScope ["_law_script","_law_k"] ["_law_script","_law_k"] (defScope Kk):={}
include T in
theorem ok_cell(d:Dfn K mg "_law_cell_at" Kk ["_law_script","_law_k"]):03 1 "_law_cell_at" ["_law_script","_law_k"] (zlv K):=by
 apply d.cal zg3 23 47
 .nofun
 let(a,ns,k,rfl,O,C,q):=h;apply⟨_,(zab (za3 (zaq zkn (pv 1) 050 66) (zac<|zai (zam (zav K) (pv 0) (pv 1) λ_ _=>rfl)) zan)<|zac (zai zad)),?_⟩;apply zaw [G 04,G<|.int k] R ?_;trivial;apply⟨_,.inl O,ite2 (λc=>?_) λ_=>q 0⟩;let c':=of_decide_eq_true c;rw[y01]at c';let j:k.toNat<ns.length:=by omega
 let M:k=((k.toNat:Nat):Int):=by omega
 let e:atI 034 ((k.toNat:Nat):Int)=G (.int ns[k.toNat]):=zaf (by simp[j]);rw[←M]at e;show⟨_,O,_,e,q _⟩
abbrev V1:Stmt:=top 90
theorem Kr:FnScope ["_law_cells","_law_k","_law_salt","_law_cell","_law_mixed"] ["_law_cells","_law_k","_law_salt"] (defScope V1):={}
include T in
theorem ok_mix(d:Dfn K mg "_law_mix" V1 ["_law_cells","_law_k","_law_salt"]):03 1 "_law_mix" ["_law_cells","_law_k","_law_salt"] (zxz K):=by
 apply d.cal Kr 23 47
 .nofun
 let(a,ns,k,y,rfl,O,l,j,q):=h;apply⟨_,(zab (zal (i:=3) Kr.nd R 09 zad)<|zma (za3 (zaq zpt 050 zad 66) (zac<|zal (i:=3) Kr.nd R 09 (zat zbt (zam (zav K) (pv 0) (zat zbt (pv 1) 050) λ_ _=>rfl)<|zat zr9 zad zad)) zan) (zab (zal (i:=4) Kr.nd R 09<|zat zbt (zat zgh (zat zca (zat zca (zat zca (pv 3)<|zat zgh (zat zgh (pv 1)<|pv 1) zad)<|zat zgh zad (pv 2))<|pv 1) zad) zad)<|zac (zai<|zat zd5 (zat zbt (zat zgh (pv 4)<|pv 4) zad) zad))),?_⟩;apply zaw [G 04,G<|.int k,G<|.int y,B,B] R ?_;trivial;apply zud (λσ H'=>H'=H/\∃c:Int,σ=[G 04,G<|.int k,G<|.int y,G<|.int c,B]) ?_ ?_
 .trivial;apply⟨_,.inl O,ite2 (λc=>?_) λ_=>trivial⟩;let c':=of_decide_eq_true c;let(v,hv,p):=atI_mod (i:=k) (xs:=ns.map V.int) (n:=(034).length) R 01;let(z,e,rfl):=y0h.mp p;show⟨_,.inl O,by omega,_,O,_,hv,⟨by decide,by decide,by decide⟩,(show(0:Int)<10^(40:Int).toNat by decide)⟩
 rintro σ H' ⟨rfl,c,rfl⟩;trivial;let g:=y2q ((c+k*k*7+31*y+k)*48271) (show(2147483647:Int)≠0 by decide);let o:=y2r ((c+k*k*7+31*y+k)*48271) (show(0:Int)<2147483647 by decide);apply⟨.inl ⟨by omega,by omega⟩,.inr ⟨by decide,by decide⟩,.inl ⟨by decide,by decide⟩,.inr ⟨by decide,by decide⟩,by decide,.inl ⟨by omega,by omega⟩,by decide,⟨by decide,by decide⟩,q _ ?_⟩;show Int.ediv_nonneg (y2q _ 07) 07
abbrev Kj:Stmt:=top 91
theorem Qh:FnScope ["_law_cells","_law_width","_law_rooms","_law_salt","_law_ways","_law_room","_law_line","_law_letter","_law_ends"] ["_law_cells","_law_width","_law_rooms","_law_salt"] (defScope Kj):={}
include T in
theorem zp0(d:Dfn K mg "_law_machine" Kj ["_law_cells","_law_width","_law_rooms","_law_salt"])(T7:03 1 "_law_mix" ["_law_cells","_law_k","_law_salt"]<|zxz K):03 2 "_law_machine" ["_law_cells","_law_width","_law_rooms","_law_salt"] (zhj K):=by
 apply d.cal Qh 23 47
 .nofun
 let(a,ns,wd,n,sl,rfl,O,hw0,L,hn1,I,q):=h;let f7:(2:Int)^wd.toNat=((2^wd.toNat:Nat):Int):=zmb _;let cf:=za6 (w:=wd.toNat) 01;apply⟨_,(zab (zal (i:=4) Qh.nd R 09<|za1 zaa)<|zab (zbz PassesOwn.never R (zbp 00 T.b_range 023) (zaj (i:=5) Qh.nd 00 38)<|zab (zal (i:=6) Qh.nd R 09<|za1 zaa) (zab (zbz PassesOwn.never R (zbp 00 T.b_range<|pa_c (zat zed zad<|pv 1) zaa) (zaj (i:=7) Qh.nd 00 38)<|zac (zbk<|zcc K PySem.F.plainAttrs_list PySem.F.slot_list_append PySem.F.type_list_append zbf (pv 6) (pa_c (zat zbt (zae T7 hr 01 00<|pa_c (pv 0) (pa_c (zat zca (zat zed (pv 5)<|pv 1)<|pv 7)<|pa_c (pv 3) zaa))<|pv 2) zaa)))<|zac (zbk<|zcc K PySem.F.plainAttrs_list PySem.F.slot_list_append PySem.F.type_list_append zbf (pv 4) (pa_c (zbo zas 00 T.b_tuple iK<|pa_c (pv 6) zaa) zaa)))) (zab (ze0 (i:=8) Qh.nd R 09 ["_law_room"] [(0,"_law_cells"),(3,"_law_salt")] 74 00 (zbp 00 T.b_range 023) (λ_ _ _ _ _=>(zaj (i:=0) (show List.Nodup (["_law_room","_law_cells","_law_salt"]:List Str) by decide+kernel) 00 38)) (λ_ _ _ _ _=>za2) λ_ _ _ _ _=>(zb9 zkn (zat zbt (zae T7 hr 01 00<|pa_c (pv 1) (pa_c (zat zca (pv 0) zad)<|pa_c (zat zca (pv 2) zad) zaa)) zad) zad 66))<|zac (zai<|za4 (pa_c (pv 1)<|pa_c (zbo zas 00 T.b_tuple iK<|pa_c (pv 4) zaa) (pa_c (zbo zas 00 T.b_tuple iK<|pa_c (pv 8) zaa) zaa))))),?_⟩;apply zaw [G 04,G<|.int wd,G<|.int n,G<|.int sl,B,B,B,B,B] R ?_;trivial;apply⟨by decide,λp H1 n1=>⟨by omega,by omega,?_⟩⟩;apply zel (λi σ H'=>Same H H'/\(∃v5 v6 v7,σ=[G 04,G<|.int wd,G<|.int n,G<|.int sl,G 22,v5,v6,v7,B])/\
  ∃rs M,H' p=G (.lst rs)/\i8 (Line H') rs M/\M.length=i/\∀l∈M,l.length=2^wd.toNat/\∀r∈l,r<n.toNat) ⟨n1.g,⟨B,B,B,R⟩,[],[],n1.at',.nil,R,λ_ h=>(nomatch h)⟩ ?_ ?_
 .rintro i σ H' hi ⟨g,⟨v5,v6,v7,rfl⟩,rs,M,ep,pr,ll,hg⟩;trivial;let hs1:=zrf (i:=0+(i:Int)) (wd:=wd) 01 01 L;apply⟨by decide,λp2 H2 o=>⟨⟨by omega+splitDisjunctions,by omega+splitDisjunctions,by decide⟩,by omega+splitDisjunctions,by omega+splitDisjunctions,?_⟩⟩;apply zel (λj σ ae=>Same H ae/\TupS H2 ae/\(∃v7,σ=[G 04,G<|.int wd,G<|.int n,G<|.int sl,G 22,G<|.int (0+(i:Int)),G<|.ref p2,v7,B])/\ae p=G (.lst rs)/\
   ∃ln:List Nat,ae p2=G (.lst<|ln.map nV)/\ln.length=j/\∀r∈ln,r<n.toNat) ⟨g.trans o.g,TupS.refl _,⟨_,R⟩,o.g _ _ ep,[],o.at',R,λ_ h=>(nomatch h)⟩ ?_ ?_
  .rintro j σ ae U ⟨g2,ts,⟨v7,rfl⟩,cy,ln,e2,le,df⟩;trivial;apply⟨.inl ⟨_,.of e2⟩,⟨by omega+splitDisjunctions,by omega+splitDisjunctions,by omega+splitDisjunctions⟩,a,ns,_,_,R,g2.seq O,by omega+splitDisjunctions,by omega+splitDisjunctions,λr hr0=>⟨by omega+splitDisjunctions,_,e2,by rw[y01];show small1000 (by omega+splitDisjunctions),?_⟩⟩;let r0:=y2q r (show n≠0 by omega);let r1:=y2r r (show 0<n by omega);let ne2:p≠p2:=zax ep o.nil;apply⟨g2.wr (g.free o.nil) _,ts.trans<|TupS.wr e2 _,by rw[zak ne2];show cy,ln++[(r%n).toNat],?_,by rw[y0e,y0s,le],λx J=>?_⟩
   .rw[zao,y0u];let er:r%n=(((r%n).toNat:Nat):Int):=by omega
    rw[er];rfl
   .rcases y0x.mp J with h|h
    .exact df x h
    .rw[y0b.mp h];omega
  .rintro σ ae ⟨g2,ts,⟨v7,rfl⟩,cy,ln,e2,le,df⟩;trivial;apply⟨.inl ⟨_,.of cy⟩,_,.inl ⟨.of e2,λt H3 e=>⟨_,e.g _ _ cy,?_,?_⟩⟩⟩
   .let:=SS.Paired.len pr;show small1000 01
   let oq:TupS H' (upd H3 p<|.lst (rs++[.ref t])):=(o.g.tups.trans ts).trans<|e.g.tups.trans (TupS.wr (e.g _ _ cy) _);apply⟨(g2.trans e.g).wr n1.nil _,rs++[.ref t],zao,M++[ln],SM.Paired.snoc (L2.Paired.mapP pr λ_ _ z=>z.ts oq) ⟨t,R,TupS.wr (e.g _ _ cy) _ _ _ e.at'⟩,by rw[y0e,y0s,ll],λl Y=>?_⟩;rcases y0x.mp Y with h|h
   .exact hg l h
   .rw[y0b.mp h];show⟨by rw[le];omega,df⟩
 .rintro σ H' ⟨g,⟨v5,v6,v7,rfl⟩,rs,M,ep,pr,ll,hg⟩;trivial;apply⟨by omega,by omega,zxt (λσ=>∃v,σ=[v,G 04,G<|.int sl]) (λy=>∃b,y=V.bl b) 01 ⟨_,R⟩ ?_ ?_⟩
  .rintro D i ys σ ae hi g2 u aa Y C ⟨v,rfl⟩;trivial;show⟨a,ns,_,_,R,(g.trans g2).seq O,by omega+splitDisjunctions,by omega+splitDisjunctions,λr hr0=>⟨by decide,ca_step (by omega+splitDisjunctions) hi u aa Y C g2 ⟨_,R⟩ ⟨_,R⟩⟩⟩
  intro D ys H3 u g3 eD Y C;let(bs,rfl):=zyn C;rw[y01]at Y;trivial;apply⟨_,.inl ⟨.of<|g3 _ _ ep,λt1 H4 n4=>⟨_,.inl ⟨.of<|n4.g _ _ eD,λt2 H5 c=>⟨zah 05,λt3 H6 n6=>?_⟩⟩⟩⟩⟩;let gA:Same H3 H6:=n4.g.trans<|c.g.trans n6.g;apply q t3 ⟨wd.toNat,M,bs⟩ H6 (g.trans<|g3.trans gA) ⟨t1,t2,rs,?_,(c.g.trans n6.g) _ _ n4.at',L2.Paired.mapP pr λ_ _ z=>z.ts (g3.trans gA).tups,n6.g _ _ c.at'⟩ ⟨?_,?_,?_,?_,λl h=>(hg l h).1,λl h r hr=>?_⟩ ?_ ?_
  .rw[n6.at'];let ew:wd=((wd.toNat:Nat):Int):=by omega
   change G (HO.tup [V.int wd,.ref t1,.ref t2])=G (HO.tup [V.int ((wd.toNat:Nat):Int),.ref t1,.ref t2]);rw[←ew]
  .change wd.toNat<=4;omega
  .change 0<bs.length;omega
  .change bs.length<=100;omega
  .change M.length=bs.length;omega
  .let:=(hg l h).2 r hr;change r<bs.length;omega
  .change((wd.toNat:Nat):Int)=wd;omega
  .change((bs.length:Nat):Int)=n;omega
abbrev K2:Stmt:=top 92
theorem zj7:FnScope ["_law_found","_law_most"] ["_law_found","_law_most"] (defScope K2):={}
include T in
theorem zwg(d:Dfn K mg "_law_whole" K2 ["_law_found","_law_most"]):03 1 "_law_whole" ["_law_found","_law_most"] znm:=by
 apply d.cal zj7 23 47
 .nofun
 let(r,n,rfl,C,O,q):=h;apply⟨_,(zac<|zai (zci (zay za8 00 T.b_isinstance iy<|pa_c (pv 0) 081)<|zci (zn6<|zay za8 00 T.b_isinstance iy (pa_c (pv 0) 080)) (zcy<|zn7 zsc zkn zad (pv 0) (pv 1)))),?_⟩;apply zaw [G<|.int r,G<|.int n] R ?_;trivial;apply⟨_,.int r,by decide,iteT ⟨_,.int r,by decide,iteT ?_⟩⟩;rw[Xg C,Xg O];show iteT q
theorem zh2{D:Type}{x:Ad}{v:D}{r:List (Ad×D)}:List.lookup x ((x,v)::r)=G v:=by simp[List.lookup]
theorem zbm{D:Type}{x y:Ad}{v:D}{r:List (Ad×D)}(h:x≠y):List.lookup x ((y,v)::r)=List.lookup x r:=by
 let:(x==y)=Fa:=by simpa using h
 simp[List.lookup,this]
abbrev Qax:Stmt:=top 100
theorem V9:FnScope ["_law_script","_law_head","_law_machine_here","_law_cell"] ["_law_script"] (defScope Qax):={}
abbrev sp_law:=zyy
include T in
theorem ok_law{f:Ad}{fd:i6}{Pk Y j L d x:Ad}(F:Fun K "law" "law" Qax f fd)(u:j≠Y)(o:L≠Y)(e:L≠j)(p:x≠Y)(n5:x≠j)(v:x≠L)(n7:Pk≠Y)(n8:Pk≠j)(n9:Pk≠L)(kt:Pk≠x)(j1:d≠Y)(j2:d≠j)(j3:d≠L)(j4:x≠d)(j5:Pk≠d)(Pe:03 1 "_law_cell_at" ["_law_script","_law_k"]<|zlv K)(Pi:03 2 "_law_machine" ["_law_cells","_law_width","_law_rooms","_law_salt"]<|zhj K)
  (Qa6:CalT P w K mg base 33 "_law_said" ["_law_head"]<|zq4 Y qs_reduced j qs_paired L qs_met d qs_joined x qs_dropped Pk qs_maker) (Qac:03 7 "_law_right" ["_law_machine_here","_law_cell"] SM.sp_lright):FnOk P w K mg base CX0 34 f fd ["_law_script"] (sp_law K [(Y,qs_reduced),(j,qs_paired),(L,qs_met),(d,qs_joined),(x,qs_dropped),(Pk,qs_maker)]):=by
 apply F.ok V9 23 λl A outer s H vs Q E D h=>?_
 .nofun
 let(a,ns,rfl,hS,h63,hO,q):=h;let I:TabJ H Y qs_reduced j qs_paired L qs_met d qs_joined x qs_dropped:=⟨hO.tab zh2,hO.tab (by rw[zbm u];show zh2),hO.tab (by rw[zbm o,zbm e];show zh2),hO.tab (by rw[zbm j1,zbm j2,zbm j3];show zh2),hO.tab<|by rw[zbm p,zbm n5,zbm v,zbm j4];show zh2⟩;let tk:TabOk H Pk qs_maker:=hO.tab (by rw[zbm n7,zbm n8,zbm n9,zbm j5,zbm kt];show zh2);apply⟨_,(zab (zal (i:=1) V9.nd R 09<|zat zbt (zae Pe D 01 00<|pa_c (pv 0) (pa_c zad zaa)) (zat zr9 zad zad))<|zab (zal (i:=2) V9.nd R 09<|zae Pi D 01 00 (pa_c (zb3 (zfq K) (pv 0) (zb8 zad)<|zb8 zad)<|pa_c (zat zbt (pv 1) zad) (pa_c (zat zca zad<|zat zbt (zat zd5 (pv 1) zad) zad)<|pa_c zad zaa))) (zma (za3 (zaq zcd (zat zbt (zat zd5 (pv 1) zad) zad) zad 66) (zac<|zal (i:=2) V9.nd R 09 (zr7 Qa6 D 01 00<|paU_hd (peU_opR zd5 (pv 1) peU_int) zaa)) zan)<|zab (zbz PassesOwn.never R (zba K<|zat zgi (za1<|pa_c zad zaa) (zb3 (zfq K) (pv 0) (zb8 zad)<|zb8 zad)) (zaj (i:=3) V9.nd 00 38)<|zac (za3 (zbj<|zbe (zae Qac D 01 00<|pa_c (pv 2) (pa_c (zat zbt (pv 3)<|zat zr9 zad zad) zaa))) 038 zan)) 038)),?_⟩;apply zaw [G 04,B,B,B] R ?_;trivial;apply⟨a,ns,0,R,hS,by decide,λc=>⟨⟨by decide,by decide,by decide⟩,by decide,_,hS,λr H1 u=>?_⟩⟩;generalize c%10^Int.toNat 30=hd;rw[zo0]at u;apply⟨by decide,⟨by decide,by decide⟩,by decide,r,cutL ns (G 1)<|G 60,_,_,_,R,.of u.at',by omega,by omega,by omega,by omega,λpm m H2 J M ok _ _=>?_⟩;apply zud (λσ H'=>Same H H'/\∃pm m,σ=[G 04,G<|.int hd,G<|.ref pm,B]/\RepM H' pm m/\m.Ok) ?_ ?_
 .trivial;apply⟨⟨by decide,by decide⟩,by decide,ite2 (λ_=>?_) λ_=>⟨u.g.trans J,m,M,ok⟩⟩;apply⟨⟨by decide,by decide⟩,_,R,I.same<|u.g.trans J,tk.same<|u.g.trans J,λpm' O H3 g3 r3 o3=>⟨u.g.trans<|J.trans g3,pm',R,O,r3,o3⟩⟩
 rintro σ H3 ⟨g3,pm,m,rfl,M,ok⟩;trivial;apply mkT λp4 H4 p=>⟨_,(g3.trans p.g).seq hS,λp5 H5 n5=>?_⟩;rw[zo0]at n5;let U:(cutL ns (G 2)<|G 18).length<=ns.length:=zxk ns _ _;apply⟨_,n5.g _ _ p.at',_,n5.at',zah (by rw[y01];simp only[y0j,y1e];omega),λp6 H6 v=>⟨⟨_,.of v.at'⟩,?_⟩⟩;let e6:H6 p6=G (.lst<|(17::cutL ns (G 2) (G 18)).map V.int):=v.at';let g36:Same H3 H6:=p.g.trans<|n5.g.trans v.g;apply ze5 (K:=K) (a:=p6) (xs:=(17::cutL ns (G 2) (G 18)).map V.int) (λk σ H'=>Same H6 H'/\∃u3,σ=[G 04,G<|.int hd,G<|.ref pm,u3]) ⟨Same.refl _,B,R⟩ (λk σ H' _ z=>.of<|z.1 _ _ e6) ?_ ?_
 .rintro k y σ H' C ⟨g,u3,rfl⟩;rw[y03]at C;let(cc,_,rfl):=y0z.mp C;trivial;show⟨⟨by decide,by decide,by decide⟩,by decide,pm,m,_,R,M.same<|g36.trans g,ok,λH7 g7=>itN<|g.trans g7⟩
 .rintro σ H' ⟨g,u3,rfl⟩;trivial;show q H'
end
section
variable {P:ik}{w:World}{K:Frag}{mg:Y1}{base:Heap}{f:Ad}{fd:i6}{tw rw fa cj ca ce co cn cNoNumber cNoRow:Ad}
variable (T:Txt K mg w tw rw fa cj ca ce co cn cNoNumber cNoRow)
include T in
theorem all(Qb2:Dfn K mg "gone" P2 ["machine","row"])(Qbs:Dfn K mg "takes" Tz ["machine","row"])(Qbh:Dfn K mg "reached" Vw ["machine"])(V4:Dfn K mg "renamed" Kh ["rooms","numbers"])(Qbm:Dfn K mg "picked" Tq ["machine","rooms","numbers"])(Qap:Dfn K mg "numbered" Vj ["marks"])(Ph:Dfn K mg "finer_sorts" Kn ["machine","sorts"])(Qa0:Dfn K mg "sorts_by" Vd ["ends","part_further"]){ku a:Ad}(Kx:DfnC K mg "reduced" V5 ["machine"] ku a)(Qaw:Dfn K mg "is_whole" Vh ["thing"])(Qas:Dfn K mg "is_below" Vo ["thing","bound"])(Qaz:Dfn K mg "explored" Ve ["tracks","first","comings","is_end"]){mn d:Ad}(Vm:DfnC K mg "paired" Tp ["one","other","is_end"] mn d)(Qa9:Dfn K mg "flipped" V3 ["machine"]){rj j:Ad}(Po:DfnC K mg "met" Qa5 ["one","other"] rj j){mi c:Ad}(Vl:DfnC K mg "joined" To ["one","other"] mi c)(Qae:Dfn K mg "letter_of" K8 ["letter","tracks"])(Qbj:Dfn K mg "spread" Tj ["machine","tracks","width"])(T3:Dfn K mg "both_letters" Kb ["letter","track"])(T1:Dfn K mg "coming_rooms" Kf ["machine","rooms","letters"]){kx t_dropped:Ad}(Ky:DfnC K mg "dropped" Vx ["machine","track"] kx t_dropped){qo i:Ad}(Ta:DfnC K mg "maker" Ty ["bare_of","fitting_of","met","joined","flipped","dropped"] qo i)(Ks:Dfn K mg "is_letter_with_figures" Qi ["thing","letters"])(Qar:Dfn K mg "is_place" Vn ["thing"])(Qbl:Dfn K mg "is_set" Tn ["thing"])(Qbe:Dfn K mg "is_name" V6 ["thing"])(Qa7:Dfn K mg "is_frame" Vk ["thing"])(Px:Dfn K mg "is_of_sort" Q7 ["thing","sort","deepest"])(Qau:Dfn K mg "has_form" Kq ["thing","deepest"])(Tr:Dfn K mg "inner_sayings" Q9 ["saying"])(Qba:Dfn K mg "is_bare" V7 ["saying"])(Pl:Dfn K mg "count_parts" Qz ["saying"])(Ts:Dfn K mg "is_any_saying" Q8 ["thing"])(Qbk:Dfn K mg "is_let" Vp ["saying","known","barred","most"])(Qao:Dfn K mg "is_saying" K1 ["thing","frame"])(T9:Dfn K mg "check_frame" Ko ["frame"])(P9:Dfn K mg "check_let" K3 ["saying","frame"])(Py:Dfn K mg "fitting_of" Ku ["frame"])(Qbb:Dfn K mg "rule_of" V2 ["word"])(Qbc:Dfn K mg "bare_of" Vz ["saying","frame"])(Qbu:Dfn K mg "built" Tu ["saying","frame"])(Td:Dfn K mg "one_letter_more" Qu ["machine","counts"])(Pf:Dfn K mg "counts_from" Km ["machine","length"])(Tw:Dfn K mg "check_length" Ke ["length"])(Qav:Dfn K mg "how_many" Vu ["machine","length"])(Qbn:Dfn K mg "row_by" Tl ["machine","length","number"])(Qak:Dfn K mg "number_of" K0 ["machine","row"])(K4:Dfn K mg "words_between_blanks" Ql ["text"])(Qaq:Dfn K mg "words_of" Vf ["text"])(Qah:Dfn K mg "take_word" K6 ["left"])(Pn:Dfn K mg "take_saying" Qy ["left","deepest"])(Qan:Dfn K mg "take_pair" Kg ["left","deepest"])(Qb0:Dfn K mg "read" P0 ["text"])(Pa:Dfn K mg "_law_cell_at" Kk ["_law_script","_law_k"])(Qa8:Dfn K mg "_law_mix" V1 ["_law_cells","_law_k","_law_salt"])(Pc:Dfn K mg "_law_machine" Kj ["_law_cells","_law_width","_law_rooms","_law_salt"])(Qaf:Dfn K mg "_law_whole" K2 ["_law_found","_law_most"])(Qa3:Dfn K mg "_law_said" Vc ["_law_head"])(P3:Dfn K mg "_law_counts" Kw ["_law_machine_here","_law_length"])(Qag:Dfn K mg "_law_ahead" K9 ["_law_machine_here","_law_counts_here","_law_row"])(P6:Dfn K mg "_law_row_is" Kt ["_law_machine_here","_law_counts_here","_law_row","_law_length","_law_number"])(Pu:Dfn K mg "_law_no_row" Kv ["_law_machine_here","_law_length","_law_number"])(Tc:Dfn K mg "_law_number_told" Qv ["_law_machine_here","_law_counts_here","_law_row"])(Qal:Dfn K mg "_law_right" K5 ["_law_machine_here","_law_cell"])(u:d≠a)(o:j≠a)(e:j≠d)(j1:c≠a)(j2:c≠d)(j3:c≠j)(p:t_dropped≠a)(n5:t_dropped≠d)(v:t_dropped≠j)(j4:t_dropped≠c)(Q:i≠a)(n8:i≠d)(n9:i≠j)(j5:i≠c)(H:i≠t_dropped)(q:BltK base mg)(F:Fun K "law" "law" Qax f fd):
  FnOk P w K mg base CX0 34 f fd ["_law_script"] (sp_law K [(a,qs_reduced),(d,qs_paired),(j,qs_met),(c,qs_joined),(t_dropped,qs_dropped),(i,qs_maker)]):=by
 let c1:=zpy (P:=P) (w:=w) (base:=base) T Qbh;let U:=zpw (P:=P) (w:=w) (base:=base) T V4;let c3:=zsi T Qbm U;let c4:=zmh (P:=P) (w:=w) (base:=base) T Qap;let c5:=zws T Ph U c4;let c6:=zpv T Qa0 c4;let c7:=zpx T Kx q c1 c3 c5 c6;let L:=zmg (P:=P) (w:=w) (base:=base) T V4;let g:=zmj T Qaz L c7;let e3:=zpz T Vm q g;let e4:=ok_metK T Po q e3;let Y:=ok_lf (P:=P) (w:=w) (base:=base) T Ks;let l:=zwj T Qar Y;let a3:=ok_set T Qbl Y;let a4:=ok_nm T Qbe l a3;let a5:=zwq T Qa7 a4;let s6:=zo7 T Px Qau l a3 a4 12;let s7:=zwp (P:=P) (w:=w) (base:=base) T Tr;let s8:=zso T Qba s7;let s9:=zln T Pl s7 13;let s10:=zss T Ts s6.1 s9;let s11:=zu2 (bw:=treeWords) T Qbk s7 s8 13;let s12:=zwo T Qao a5 s10 s11;let I:=zkp (P:=P) (w:=w) (base:=base) T V4;let b2:=zmi (P:=P) (w:=w) (base:=base) T Qae;let b3:=zpu T Qbj b2 I;let b4:=zwr T Py l b3 e4;let r1:=ok_rule (P:=P) (w:=w) (base:=base) T Qbb;let E:=zwu T Qbc r1 b3 b4 e4;let C:=zp2 T Qa9 c7;let J:=zsg (P:=P) (w:=w) (base:=base) T Qaw;let x3:=zsr T Qas J;let x4:=ok_both (P:=P) (w:=w) (base:=base) T T3;let x5:=zml (P:=P) (w:=w) (base:=base) T T1;let x6:=zmk T Ky q x3 x4 x5 g;let s:=zwn T Vl q e3;let(fb,rF,mb):=E.fn;let(ff,fF,mf):=b4.fn;let(fm,mF,y):=e4.fn;let(fj,jF,mj):=s.fn;let(fl,lF,ml):=C.fn;let(fp,pF,mp):=x6.fn;let O:=zsj T Ta q rF fF mF jF lF pF;let M:=zkq T T9 a5;let A:=ziw T P9 M s12;let h4:=(zp3 T Qbu A mb mf y mj ml mp O).n λ_ _ _ _ z=>z;let x:=zp4 (P:=P) (w:=w) (base:=base) T K4;let D:=zwf T Qaq x;let t3:=zme (P:=P) (w:=w) (base:=base) T Qah;let t4:=zo6 T Pn Qan t3 13;let t5:=ok_read T Qb0 D t4 s10;let k1:=ok_more (P:=P) (w:=w) (base:=base) T Td;let k2:=ok_from T Pf k1;let k3:=zsq T Tw x3;let k4:=ok_many T Qav k3 k2;let k5:=ok_gone (P:=P) (w:=w) (base:=base) T Qb2;let k6:=zwh T Qbs k5;let k7:=zwi T Qbn k3 k2 x3;let k8:=zwk T Qak k6 k5 k2;let l1:=ok_cell (P:=P) (w:=w) (base:=base) T Pa;let l2:=ok_mix (P:=P) (w:=w) (base:=base) T Qa8;let r:=zp0 T Pc l2;let l4:=zwg (P:=P) (w:=w) (base:=base) T Qaf;let l5:=zwm T Qa3 t5 h4;let l6:=zp1 (P:=P) (w:=w) (base:=base) T P3;let l7:=zsn (P:=P) (w:=w) (base:=base) T Qag;let l8:=zsk T P6 l4 l7;let l9:=zsm T Pu k7;let l10:=zwl T Tc k8 l7;let l11:=zsl T Qal l6 k4 l9 k7 l8 l10;show ok_law T F u o e p n5 v Q n8 n9 H j1 j2 j3 j4 j5 l1 r l5 l11
end
theorem txt_mk{K:Frag}{mg:Y1}{w:World}{tw rw Q u ca I co cn a c:Ad}(C:mg "isinstance"=B)(O:mg "str"=B)(M:mg "tuple"=B)(A:mg "list"=B)(L:mg "int"=B)(E:mg "bool"=B)(v:mg "dict"=B)(j:mg "set"=B)(x:mg "len"=B)(o:mg "any"=B)(f:mg "sorted"=B)(e:mg "ValueError"=B)(q:mg "min"=B)(y:mg "all"=B)(h14:mg "sum"=B)(p:mg "max"=B)(g:mg "range"=B)(h17:mg "zip"=B)(l:mg "enumerate"=B)(h19:mg "reversed"=B)(h20:GlV mg "LONGEST"<|.int 100)(h21:mg "NoRow"=G (.ref c))(h22:KSup K c)(h23:PySem.W.mroIn K c (.ref c)=G N)(z:PySem.W.excIn K c veM "ValueError.__new__"=N)(h25:mg "NoNumber"=G (.ref a))(h26:KSup K a)(h27:PySem.W.mroIn K a (.ref a)=G N)(h28:PySem.W.excIn K a veM "ValueError.__new__"=N)(h29:GlV mg "MOST_COME_TO"<|.int 100)(h30:GlV mg "FIGURES"<|.str FIGS)(h31:GlV mg "LONGEST_NAME"<|.int 4)(r:GlV mg "SMALL_LETTERS"<|.str SMALL)(h33:GlV mg "GREAT_LETTERS"<|.str GREAT)(h34:GlV mg "MOST_NAMES"<|.int 4)(h35:GlV mg "DEEPEST"<|.int 12)(h36:GlV mg "MOST_PARTS"<|.int 60)(h37:GlV mg "TELLING_WORDS"<|.ref tw)(s:∀H,SqT K H tw [.str "some",.str "all"])(Y:GlV mg "TREE_WORDS"<|.ref rw)(h40:∀H,SqT K H rw [.str "left",.str "right",.str "above"])(h41:GlV mg "FORMS"<|.ref Q)(h42:Forms K w Q)(h43:GlV mg "JUST_ONCE"<|.ref u)(D:CMach K u justM)(h45:GlV mg "ANY_ROW"<|.ref ca)(h46:CMach K ca anyM)(h47:GlV mg "EACH_IN"<|.ref I)(h48:CMach K I eachM)(T:GlV mg "COMES_AHEAD"<|.ref co)(h50:CMach K co aheadM)(h51:GlV mg "COMES_NEXT"<|.ref cn)(h52:CMach K cn nextM):∃(qtw qrw U J qca qce qco qcn d i:Ad) ,Txt K mg w qtw qrw U J qca qce qco qcn d i  :=
 ⟨tw,rw,Q,u,ca,I,co,cn,a,c,⟨C,O,M,A,L,E,v,j,x,o,f,e,q,y,h14,p,g,h17,l,h19,h20,h21,h22,h23,z,h25,h26,h27,h28,h29,h30,h31,r,h33,h34,h35,h36,h37,s,Y,h40,h41,h42,h43,D,h45,h46,h47,h48,T,h50,h51,h52⟩⟩
end K67
open PySem PySem.W PyProof.Rows
set_option hygiene false in
local macro_rules
| `(tactic|exact_mod_cast 0) => `(tactic|((try dsimp only[L2.KOf]);refine' L2.dfn_mk KX Gq ?a ?l ?c ?k (λ_ _ _ _ _ _=>by first|exact L2.fit1 λ_=>rfl|exact L2.fit2 λ_ _=>rfl|exact L2.fit3 λ_ _ _=>rfl|exact L2.fit4 λ_ _ _ _=>rfl|exact L2.fit5 λ_ _ _ _ _=>rfl);((case a=>k_is);(case l=>k_is);(case c=>k_is);(case k=>k_is))))
namespace PySem.W.Fast
def tw3436350785164154738:=True
def tw10974885687043490526:=True
def tw9363572293990702921:=True
def tw5245157362088755663:=True
def tw14013699990010540215:=True
def tw13499802807796650321:=True
def tw15186246816598976268:=True
def tw15025161616364934150:=True
def tw8302501623308574683:=True
def tw14991424656306741348:=True
def tw12375151695143244967:=True
def tw14269804994624896377:=True
def tw7103679283720247794:=True
def tw14985110363519305542:=True
def tw1093904202353447329:=True
def tw5487738199619710520:=True
def tw10656267565834452122:=True
def tw11409865749708780325:=True
def tw1130376485253205647:=True
def tw1251501333029304035:=True
def tw11671977102595815468:=True
def tw7223229185189822549:=True
def tw6912643950684549409:=True
def tw47785760597123900:=True
def tw1156579505027068433:=True
def tw15647469644426203370:=True
def tw4465649984731094924:=True
def tw5673883074416487192:=True
def tw7982488987490852609:=True
def tw4632651988767242635:=True
def tw10841236472055967566:=True
def tw10446599659456599612:=True
def tw12046947344985444820:=True
def tw6215985085167906373:=True
def tw6276085306505747682:=True
def tw10266543368396742992:=True
def tw2135263509789670444:=True
def tw10355596750322309862:=True
def tw4437472483984244752:=True
def tw8969179185135332248:=True
def tw606487398395970852:=True
def tw8929498531123988850:=True
def tw12981412069014395741:=True
def tw6519380680358742170:=True
def tw15340685606424305272:=True
def tw10751023611318718432:=True
def tw11065057619766299852:=True
def tw14261335015658170291:=True
def tw13276145384868715876:=True
def tw9761511103809799273:=True
def tw9926686360668087782:=True
def tw10193225297524045141:=True
def tw8792534924495941701:=True
def tw15306645872629215530:=True
def tw7161356496859179364:=True
def tw7638938528054565339:=True
def tw13975476504789030368:=True
def tw523776927213586258:=True
def tw8396874696340687544:=True
def tw13415445039155150920:=True
def tw8323644424848029500:=True
def tw15589529861983734596:=True
def tw7480195990499418465:=True
def tw9708628667963029004:=True
def tw1587633410658925932:=True
def tw926675901558547984:=True
def tw16300021812141828989:=True
def tw8496120333449597350:=True
def tw7645497058312596297:=True
def tw75699166297270791:=True
def tw8236521530220051388:=True
def tw12651736811303730009:=True
def tw9226127517302231765:=True
def tw4999559431629340403:=True
def tw14764160282661388189:=True
def tw4186895610610274604:=True
def tw10687222274587001934:=True
def tw6652249752078501787:=True
def tw10689771525969882730:=True
def tw12730451541935246540:=True
def tw1834998128436351500:=True
def tw16454955631179787348:=True
def tw2317941729112569701:=True
def tw18097502715142906854:=True
def tw3314735766509496730:=True
def tw11849156068996395879:=True
def tw269233413448060482:=True
def tw5936033749402994894:=True
def tw10011579991264049169:=True
def tw967145080129595968:=True
def tw13851337630123260804:=True
def tw2626157956678266902:=True
def tw11929666106102406205:=True
def tw17868246429670549714:=True
def tw7084760392000929826:=True
def tw4902903149475697875:=True
def tw4587561737970421423:=True
def tw16572816437035322810:=True
def tw16138513177685690779:=True
def tw9935188678303021974:=True
def tw2938959546615295719:=True
def tw10515466264880612229:=True
def tw10134250449998075199:=True
def tw5153817788143865406:=True
def tw146541098784117326:=True
def tw12184614061117448859:=True
def tw2846006551237682655:=True
def tw866661420883752786:=True
def tw5832626133299019142:=True
def tw17624439882897780849:=True
def tw10370875830287227189:=True
def tw882390167294764225:=True
def tw7855068090079875626:=True
def tw12161340247401068030:=True
def tw8353886132221386817:=True
def tw10408337887138054603:=True
def tw9803565661411872375:=True
def tw6907323827243135611:=True
def tw5846204914206544144:=True
def tw17659354817292074929:=True
def tw2074780622411018789:=True
def tw11424135613462784141:=True
def tw11509927677725103077:=True
def tw4659103807736947154:=True
def tw8151029989208147873:=True
def tw12875021106303062166:=True
def tw6520927920480546628:=True
def tw14895435011236395442:=True
def tw1145654913026604441:=True
def tw13608432737621937206:=True
def tw9083061912487862970:=True
def tw873722746072632505:=True
def tw11587871080539751727:=True
def tw11932340118826316472:=True
def tw12974647883216684635:=True
def tw8849520527681315047:=True
def tw11302780481860194840:=True
def tw5060086560056026342:=True
def tw6458321848835708460:=True
def tw17023794795895216648:=True
def tw6288706836898459740:=True
def tw17194106170406804697:=True
def tw18255965325770010653:=True
def tw15339693552393280188:=True
def tw2811482971506464770:=True
def tw12047462199641314229:=True
def tw7058622987035504510:=True
def tw17736085303896686754:=True
def tw6668642545064703629:=True
def tw18055845107339357946:=True
def tw12794148942551691542:=True
def tw7427783090334136865:=True
def tw4290462266399495732:=True
def tw233939691860640704:=True
def tw2438875677249745968:=True
def tw15299388432466202283:=True
def tw13017451754967125598:=True
def tw11118776178063121821:=True
def tw14865735239585202473:=True
def tw11565784449815527158:=True
def tw11967059322086695170:=True
def tw12345491720228518590:=True
def tw9089529877375147800:=True
def tw8418159811201707717:=True
def tw16988406095020781550:=True
def tw7454560833981576625:=True
def tw4672754455377364896:=True
def tw18043131018453722128:=True
def tw12014134869698967885:=True
def tw8593974057337272997:=True
def tw8193411801291425191:=True
def tw12666599092666946847:=True
def tw13508153372621248098:=True
def tw7674795620765610588:=True
def tw4699100087787153734:=True
def tw10114922490813612495:=True
def tw16594679628033892422:=True
def tw2824198038777260932:=True
def tw5973504493209762422:=True
def tw1434339597406285194:=True
def tw15103937241478826255:=True
def tw5569403440436358949:=True
def tw11089230917292004813:=True
def tw1361714267032175961:=True
def tw16294544112933011977:=True
def tw8708630314779892029:=True
def tw11303791837961835742:=True
def tw9264371770625472769:=True
def tw13243811437949295006:=True
def tw14522573910584213752:=True
def tw11799979963603894721:=True
def tw3563575305770563874:=True
def tw10055802032443408807:=True
def tw11067760969243681551:=True
def tw7089632074305216557:=True
def tw17123708228581572289:=True
def tw9046095567947785340:=True
def tw6221204109960560947:=True
def tw8231005331574037058:=True
def tw17502218177014353783:=True
def tw12039606167672032439:=True
def tw7067840131073060419:=True
def tw10905654351033594590:=True
def tw10932351069860995239:=True
def tw4578132174415968683:=True
def tw9271557524476709463:=True
def tw7733372088057895352:=True
def tw17736831530409239153:=True
def tw3604076620763236760:=True
def tw8865614147059136615:=True
def tw11756830235467073998:=True
def tw8226040719633000329:=True
def tw9159273312459439155:=True
def tw4726519708158774875:=True
def tw6958585667609551359:=True
def tw2433490058992811965:=True
def tw12236242076308967567:=True
def tw604325550467757769:=True
def tw3108266918871180959:=True
def tw4382436061131630528:=True
def tw1748726961503574544:=True
def tw10432451023876151349:=True
def tw11829417878772675474:=True
def tw9875212531136172316:=True
def tw2225833527216584016:=True
def tw9954766888762055119:=True
def tw7368690563668985384:=True
def tw7539941498760755647:=True
def tw5124899785291331731:=True
def tw13347040610963872770:=True
def tw14868891475734781084:=True
def tw6007926781699602296:=True
def tw16961656164322168802:=True
def tw472829695526830847:=True
def tw14514273363705670348:=True
def tw9794580418724780139:=True
def tw418969323410952824:=True
def tw16210470309767670153:=True
def tw6400879357761322296:=True
def tw6698985315164943891:=True
def tw7398616015207737391:=True
def tw8289475749612654552:=True
def tw16441983293669619131:=True
def tw11828475697930904211:=True
def tw15832645392918266756:=True
def tw1601315638792647186:=True
def tw11132514916300944464:=True
def tw367084531128045885:=True
def tw6927866351513444740:=True
def tw103081792284505297:=True
def tw8709315334589600385:=True
def tw1932711281090398634:=True
def tw17293905466528681253:=True
def tw13927983036109786063:=True
def tw18285025104035913143:=True
def tw2580396311364895870:=True
def tw18339309978165083818:=True
def tw13414463756940571844:=True
def tw12547713377611583491:=True
def tw14275507759420286915:=True
def tw3916307497291291370:=True
def tw2167438275376731440:=True
def tw824015139285733737:=True
def tw6883515720659225736:=True
def tw866464217076619953:=True
def tw13819550018322570414:=True
def tw5251703690368235389:=True
def tw5269669110145234113:=True
def tw6456661895950302876:=True
def tw12990816641091177655:=True
def tw17812467266652351054:=True
def tw9268713440929213595:=True
def tw7862140502759628269:=True
def tw12786071060371752500:=True
def tw17828408963587849363:=True
def tw7556627248613063786:=True
def tw14477008292016587705:=True
def tw10685861449932294857:=True
def tw16291800849733875719:=True
def tw13407876416190596735:=True
def tw9226816095583210935:=True
def tw14579075629922805852:=True
def tw1586669401537557633:=True
def tw15822213364769012915:=True
def tw5791227776520030684:=True
def tw16134134120894807831:=True
def tw1881985786897599335:=True
def tw9532644753246694617:=True
def tw12204250811685031525:=True
def tw651080610234889722:=True
def tw911952797115593361:=True
def tw7516722643473516798:=True
def tw8544462332898024898:=True
def tw6077364081055679119:=True
def tw7640692834203521637:=True
def tw2030206128589302869:=True
def tw2197300562323205652:=True
def tw8863590458943781794:=True
def tw6678006904662081207:=True
def tw10710839805647103757:=True
def tw17646002221217071935:=True
def tw13624052807235339582:=True
def tw13085142811159059272:=True
def tw15079449564561256282:=True
def tw5213604054283347785:=True
def tw7880598929553766689:=True
def tw17891914694004339938:=True
def tw7830303091499371715:=True
def tw17660480672020364457:=True
def tw10434911356247235311:=True
def tw9679310534479445032:=True
def tw655992989700991184:=True
def tw15261748244183558521:=True
def tw3381927524732010169:=True
def tw14405889744981248944:=True
def tw16600643970362068461:=True
def tw5465065261337459521:=True
def tw12042506100743122838:=True
def tw9660001065657693746:=True
def tw14133589990382335474:=True
def tw8222139970006118572:=True
def tw8119646475335002951:=True
def tw12699322076208895343:=True
def tw3536041851219596398:=True
def tw2146450074373299956:=True
def tw4005635518675335897:=True
def tw507696950684913632:=True
def tw17326907087581926666:=True
def tw17865975009567219928:=True
def tw4266928588232300987:=True
def tw2049505746677261780:=True
def tw3367760172210810066:=True
def tw3889050527902539122:=True
def tw13753939103162656104:=True
def tw5552020306021924566:=True
def tw6961543464032326085:=True
def tw9868597335858927702:=True
def tw10038718161814123351:=True
def tw6296560115733282945:=True
def tw11325807028623799973:=True
def tw10277521035848820254:=True
def tw18339643916174075436:=True
def tw10720354866213506559:=True
def tw17212687505906186286:=True
def tw3146184691317423131:=True
def tw10094612551310628079:=True
def tw9510829391374322358:=True
def tw1517183927628193817:=True
def tw912530698722540955:=True
def tw14682371515324378830:=True
def tw9182640353759280156:=True
def tw1614959396025106638:=True
def tw3921795187264550104:=True
def tw5983977491063423424:=True
def tw7072693638913547306:=True
def tw12287097647205523540:=True
def tw4450486346530180173:=True
def tw4269222779415546214:=True
def tw5575307503314330566:=True
def tw244460248209163788:=True
def tw10827688436402558068:=True
def tw2746037278057407340:=True
def tw10329382381495945536:=True
def tw2793323963314504919:=True
def tw11699055559356927952:=True
def tw14276470610129102810:=True
def tw1533523902106423232:=True
def tw16416714872744264842:=True
def tw12831941569831128455:=True
def tw79815070167567328:=True
def tw4454428040642545252:=True
def tw3438231005421233888:=True
def tw8786704812895677383:=True
def tw14564871160439684082:=True
def tw4899415092002743583:=True
def tw12358290025251275366:=True
def tw12006518123114526160:=True
def tw6057461512609364824:=True
def tw15970180953917580007:=True
def tw6595503232016728067:=True
def tw16921579723430578129:=True
def tw2779053427958444586:=True
def tw13749955895330992299:=True
def tw2657118512109202967:=True
def tw10070740828331346596:=True
def tw16707509553862608626:=True
def tw566460391940172054:=True
def tw14838944299897954689:=True
def tw2484506258373133191:=True
def tw11405521357176820979:=True
def tw14753581131566581331:=True
def tw4176674623281582309:=True
def tw15961472933368271786:=True
def tw8037652186646626223:=True
def tw2514997556640800292:=True
def tw12843071192456412935:=True
def tw10693489058255805842:=True
def tw96261633663891573:=True
def tw1835512606931627455:=True
def tw4545123580995854282:=True
def tw8491298442255707375:=True
def tw8956573784287278566:=True
def tw9116617460724870801:=True
def tw4111534052455682207:=True
def tw16612804126478357577:=True
def tw12664772844689186227:=True
def tw4274893631566217520:=True
def tw12995715171532094682:=True
def tw12251621142675299292:=True
def tw13120533600262996425:=True
def tw10209758843494951488:=True
def tw14812433736282233612:=True
def tw7498372423757700284:=True
def tw3803349700065803342:=True
def tw17122749706958225871:=True
def tw1174102605258186294:=True
end PySem.W.Fast
set_option maxRecDepth 100000 in
set_option maxHeartbeats 0 in
theorem PySem.Challenge.cw_setsays_k67_whole_counted_holds : PySem.Challenge.rw_setsays_k67_whole_counted.Holds := by
 w_on;o_law;k_head;(case hw=>w_witness2)
 k_fill
 apply L2.walk_ofT (l:=PySem.Challenge.rw_setsays_k67_whole_counted) (n:=63) (k:=34) (x:="_law_script") (CX:=L2.CX0) (sp:=K67.sp_law) R (by decide) R ⟨R,by decide,by decide⟩ (λw h Y=>PySem.W.km_in_of Y) ?F (λ_ _ _ a ns hl hO hS=>⟨a,ns,R,hS,hl,hO,λ_=>rfl⟩) λ_ _ _ _ z=>z
 case F =>
  intro w mg fa h KX Gq hmg;obtain⟨tw,g_TELLING_WORDS,t_TELLING_WORDS⟩:∃q,L2.GlV mg "TELLING_WORDS" (.ref q)/\∀H,L2.SqT (L2.KOf KX) H q [.str "some",.str "all"]:=by
   dsimp only[L2.KOf];refine' L2.glt_mk KX Gq 06 06 (by decide) (by show .cons ⟨_,R⟩ 017)
  obtain⟨rw,g_TREE_WORDS,t_TREE_WORDS⟩:∃q,L2.GlV mg "TREE_WORDS" (.ref q)/\∀H,L2.SqT (L2.KOf KX) H q [.str "left",.str "right",.str "above"]:=by
   dsimp only[L2.KOf];refine' L2.glt_mk KX Gq 06 06 (by decide) (by show .cons ⟨_,R⟩ (.cons ⟨_,R⟩ 017))
  obtain⟨ff,g_FORMS,f_FORMS⟩:∃q,L2.GlV mg "FORMS" (.ref q)/\SS.Forms (L2.KOf KX) w q:=by
   dsimp only[L2.KOf];refine' SS.forms_mk KX Gq 06 (by decide) 06 (by show⟨⟨_,_,R,R⟩,⟨⟨_,_,R,R⟩,⟨⟨_,_,R,R⟩,⟨⟨_,_,R,R⟩,⟨⟨_,_,R,R⟩,⟨⟨_,_,R,R⟩,⟨⟨_,_,R,R⟩,⟨⟨_,_,R,R⟩,⟨⟨_,_,R,R⟩,⟨⟨_,_,R,R⟩,⟨⟨_,_,R,R⟩,⟨⟨_,_,R,R⟩,⟨⟨_,_,R,R⟩,trivial⟩⟩⟩⟩⟩⟩⟩⟩⟩⟩⟩⟩⟩) ?he;refine' .cons ⟨⟨_,R⟩,_,R,SS.sqt_mk 06 (by decide) (by show .cons ⟨_,R⟩ 017)⟩ (.cons ⟨⟨_,R⟩,_,R,SS.sqt_mk 06 (by decide) (by show .cons ⟨_,R⟩ 017)⟩ (.cons ⟨⟨_,R⟩,_,R,SS.sqt_mk 06 (by decide) (by show .cons ⟨_,R⟩ 017)⟩ (.cons ⟨⟨_,R⟩,_,R,SS.sqt_mk 06 (by decide) (by show .cons ⟨_,R⟩ 017)⟩ (.cons ⟨⟨_,R⟩,_,R,SS.sqt_mk 06 (by decide) (by show .cons ⟨_,R⟩ 017)⟩ (.cons ⟨⟨_,R⟩,_,R,SS.sqt_mk 06 (by decide) (by show .cons ⟨_,R⟩ 017)⟩ (.cons ⟨⟨_,R⟩,_,R,SS.sqt_mk 06 (by decide) (by show .cons ⟨_,R⟩ 017)⟩ (.cons ⟨⟨_,R⟩,_,R,SS.sqt_mk 06 (by decide) (by show .cons ⟨_,R⟩ 017)⟩ (.cons ⟨⟨_,R⟩,_,R,SS.sqt_mk 06 (by decide) (by show .cons ⟨_,R⟩ (.nil))⟩ (.cons ⟨⟨_,R⟩,_,R,SS.sqt_mk 06 (by decide) (by show .cons ⟨_,R⟩ 017)⟩ (.cons ⟨⟨_,R⟩,_,R,SS.sqt_mk 06 (by decide) (by show .cons ⟨_,R⟩ 017)⟩ (.cons ⟨⟨_,R⟩,_,R,SS.sqt_mk 06 (by decide) (by show .cons ⟨_,R⟩ 017)⟩ (.cons ⟨⟨_,R⟩,_,R,SS.sqt_mk 06 (by decide) (by show .cons ⟨_,R⟩ 017)⟩ (.nil)))))))))))))
  obtain⟨cj,g_JUST_ONCE,c_JUST_ONCE⟩:∃q,L2.GlV mg "JUST_ONCE" (.ref q)/\SM.CMach (L2.KOf KX) q SM.justM:=by
   dsimp only[L2.KOf];refine' SM.cm_mk (ls:=[_,_,_]) KX Gq 06 (SS.sqt_mk 06 ?cj_zp (by show .cons ⟨_,R⟩ (.cons R (.cons R (.nil))))) (SS.sqt_mk 06 ?cj_zb (by show .cons R (.cons R (.cons R (.nil))))) (.cons (SS.sqt_mk 06 ?cj_z0 (by show .cons ⟨_,R⟩ 017)) (.cons (SS.sqt_mk 06 ?cj_z1 (by show .cons ⟨_,R⟩ 017)) (.cons (SS.sqt_mk 06 ?cj_z2 (by show .cons ⟨_,R⟩ 017)) (.nil)))) (SS.sqt_mk 06 ?cj_zc (by show .cons R (.cons R (.cons R (.nil)))))
   all_goals decide
  obtain⟨ca,g_ANY_ROW,c_ANY_ROW⟩:∃q,L2.GlV mg "ANY_ROW" (.ref q)/\SM.CMach (L2.KOf KX) q SM.anyM:=by
   dsimp only[L2.KOf];refine' SM.cm_mk (ls:=[_]) KX Gq 06 (SS.sqt_mk 06 ?ca_zp (by show .cons ⟨_,R⟩ (.cons R (.cons R (.nil))))) (SS.sqt_mk 06 ?ca_zb (by show .cons R (.nil))) (.cons (SS.sqt_mk 06 ?ca_z0 (by show .cons ⟨_,R⟩ (.nil))) (.nil)) (SS.sqt_mk 06 ?ca_zc (by show .cons R (.nil)))
   all_goals decide
  obtain⟨ce,g_EACH_IN,c_EACH_IN⟩:∃q,L2.GlV mg "EACH_IN" (.ref q)/\SM.CMach (L2.KOf KX) q SM.eachM:=by
   dsimp only[L2.KOf];refine' SM.cm_mk (ls:=[_,_]) KX Gq 06 (SS.sqt_mk 06 ?ce_zp (by show .cons ⟨_,R⟩ (.cons R (.cons R (.nil))))) (SS.sqt_mk 06 ?ce_zb (by show .cons R (.cons R (.nil)))) (.cons (SS.sqt_mk 06 ?ce_z0 (by show .cons ⟨_,R⟩ (.cons ⟨_,R⟩ (.cons ⟨_,R⟩ 017)))) (.cons (SS.sqt_mk 06 ?ce_z1 (by show .cons ⟨_,R⟩ (.cons ⟨_,R⟩ (.cons ⟨_,R⟩ 017)))) (.nil))) (SS.sqt_mk 06 ?ce_zc (by show .cons R (.cons R (.nil))))
   all_goals decide
  obtain⟨co,g_COMES_AHEAD,c_COMES_AHEAD⟩:∃q,L2.GlV mg "COMES_AHEAD" (.ref q)/\SM.CMach (L2.KOf KX) q SM.aheadM:=by
   dsimp only[L2.KOf];refine' SM.cm_mk (ls:=[_,_,_]) KX Gq 06 (SS.sqt_mk 06 ?co_zp (by show .cons ⟨_,R⟩ (.cons R (.cons R (.nil))))) (SS.sqt_mk 06 ?co_zb (by show .cons R (.cons R (.cons R (.nil))))) (.cons (SS.sqt_mk 06 ?co_z0 (by show .cons ⟨_,R⟩ (.cons ⟨_,R⟩ (.cons ⟨_,R⟩ 017)))) (.cons (SS.sqt_mk 06 ?co_z1 (by show .cons ⟨_,R⟩ (.cons ⟨_,R⟩ (.cons ⟨_,R⟩ 017)))) (.cons (SS.sqt_mk 06 ?co_z2 (by show .cons ⟨_,R⟩ (.cons ⟨_,R⟩ (.cons ⟨_,R⟩ 017)))) (.nil)))) (SS.sqt_mk 06 ?co_zc (by show .cons R (.cons R (.cons R (.nil)))))
   all_goals decide
  obtain⟨cn,g_COMES_NEXT,c_COMES_NEXT⟩:∃q,L2.GlV mg "COMES_NEXT" (.ref q)/\SM.CMach (L2.KOf KX) q SM.nextM:=by
   dsimp only[L2.KOf];refine' SM.cm_mk (ls:=[_,_,_,_]) KX Gq 06 (SS.sqt_mk 06 ?cn_zp (by show .cons ⟨_,R⟩ (.cons R (.cons R (.nil))))) (SS.sqt_mk 06 ?cn_zb (by show .cons R (.cons R (.cons R (.cons R (.nil)))))) (.cons (SS.sqt_mk 06 ?cn_z0 (by show .cons ⟨_,R⟩ (.cons ⟨_,R⟩ (.cons ⟨_,R⟩ 017)))) (.cons (SS.sqt_mk 06 ?cn_z1 (by show .cons ⟨_,R⟩ (.cons ⟨_,R⟩ (.cons ⟨_,R⟩ 017)))) (.cons (SS.sqt_mk 06 ?cn_z2 (by show .cons ⟨_,R⟩ (.cons ⟨_,R⟩ (.cons ⟨_,R⟩ 017)))) (.cons (SS.sqt_mk 06 ?cn_z3 (by show .cons ⟨_,R⟩ (.cons ⟨_,R⟩ (.cons ⟨_,R⟩ 017)))) (.nil))))) (SS.sqt_mk 06 ?cn_zc (by show .cons R (.cons R (.cons R (.cons R (.nil))))))
   all_goals decide
  obtain⟨ktw,krw,kfa,kcj,kca,kce,kco,kcn,kcNoNumber,kcNoRow,T⟩:∃(ktw krw kfa kcj kca kce kco kcn kcNoNumber kcNoRow:Ad) ,K67.Txt (L2.KOf KX) mg w ktw krw kfa kcj kca kce kco kcn kcNoNumber kcNoRow  :=by
   dsimp only[L2.KOf];refine' K67.txt_mk 031 031 031 031 031 031 031 031 031 031 031 031 031 031 031 031 031 031 031 031 (L2.glv_mk KX Gq 06 (by show⟨_,R⟩)) (PySem.W.mg_of KX Gq 06) ⟨06,06,06⟩ 06 (by k_exc) (PySem.W.mg_of KX Gq 06) ⟨06,06,06⟩ 06 (by k_exc) (L2.glv_mk KX Gq 06 (by show⟨_,R⟩)) (L2.glv_mk KX Gq 06 (by show⟨_,R⟩)) (L2.glv_mk KX Gq 06 (by show⟨_,R⟩)) (L2.glv_mk KX Gq 06 (by show⟨_,R⟩)) (L2.glv_mk KX Gq 06 (by show⟨_,R⟩)) (L2.glv_mk KX Gq 06 (by show⟨_,R⟩)) (L2.glv_mk KX Gq 06 (by show⟨_,R⟩)) (L2.glv_mk KX Gq 06 (by show⟨_,R⟩)) g_TELLING_WORDS t_TELLING_WORDS g_TREE_WORDS t_TREE_WORDS g_FORMS f_FORMS g_JUST_ONCE c_JUST_ONCE g_ANY_ROW c_ANY_ROW g_EACH_IN c_EACH_IN g_COMES_AHEAD c_COMES_AHEAD g_COMES_NEXT c_COMES_NEXT
  obtain⟨c_reduced,t_reduced,c_paired,t_paired,c_met,t_met,c_joined,t_joined,c_dropped,t_dropped,c_maker,t_maker,Kx,Vm,Po,Vl,Ky,Ta,n_reduced,n_paired,n_met,n_joined,n_dropped,n_maker,ne_paired_reduced,ne_met_reduced,ne_met_paired,ne_joined_reduced,ne_joined_paired,ne_joined_met,ne_dropped_reduced,ne_dropped_paired,ne_dropped_met,ne_dropped_joined,ne_maker_reduced,ne_maker_paired,ne_maker_met,ne_maker_joined,ne_maker_dropped⟩:∃c_reduced t_reduced c_paired t_paired c_met t_met c_joined t_joined c_dropped t_dropped c_maker t_maker,L2.DfnC (L2.KOf KX) mg "reduced" K67.V5 ["machine"] c_reduced t_reduced/\L2.DfnC (L2.KOf KX) mg "paired" K67.Tp ["one","other","is_end"] c_paired t_paired/\L2.DfnC (L2.KOf KX) mg "met" K67.Qa5 ["one","other"] c_met t_met/\L2.DfnC (L2.KOf KX) mg "joined" K67.To ["one","other"] c_joined t_joined/\L2.DfnC (L2.KOf KX) mg "dropped" K67.Vx ["machine","track"] c_dropped t_dropped/\L2.DfnC (L2.KOf KX) mg "maker" K67.Ty ["bare_of","fitting_of","met","joined","flipped","dropped"] c_maker t_maker/\(L2.KOf KX).lookup t_reduced=B/\(L2.KOf KX).lookup t_paired=B/\(L2.KOf KX).lookup t_met=B/\(L2.KOf KX).lookup t_joined=B/\(L2.KOf KX).lookup t_dropped=B/\(L2.KOf KX).lookup t_maker=B/\t_paired≠t_reduced/\t_met≠t_reduced/\t_met≠t_paired/\t_joined≠t_reduced/\t_joined≠t_paired/\t_joined≠t_met/\t_dropped≠t_reduced/\t_dropped≠t_paired/\t_dropped≠t_met/\t_dropped≠t_joined/\t_maker≠t_reduced/\t_maker≠t_paired/\t_maker≠t_met/\t_maker≠t_joined/\t_maker≠t_dropped:=by
   dsimp only[L2.KOf];refine'⟨_,_,_,_,_,_,_,_,_,_,_,_,L2.dfnc_mk KX Gq 06 06 06 06 (L2.kcode_mk 06 R R R R R (by decide)) (λ_ _ _ _ _ _=>L2.fit1 λ_=>rfl),L2.dfnc_mk KX Gq 06 06 06 06 (L2.kcode_mk 06 R R R R R (by decide)) (λ_ _ _ _ _ _=>L2.fit3 λ_ _ _=>rfl),L2.dfnc_mk KX Gq 06 06 06 06 (L2.kcode_mk 06 R R R R R (by decide)) (λ_ _ _ _ _ _=>L2.fit2 λ_ _=>rfl),L2.dfnc_mk KX Gq 06 06 06 06 (L2.kcode_mk 06 R R R R R (by decide)) (λ_ _ _ _ _ _=>L2.fit2 λ_ _=>rfl),L2.dfnc_mk KX Gq 06 06 06 06 (L2.kcode_mk 06 R R R R R (by decide)) (λ_ _ _ _ _ _=>L2.fit2 λ_ _=>rfl),L2.dfnc_mk KX Gq 06 06 06 06 (L2.kcode_mk 06 R R R R R (by decide)) (λ_ _ _ _ _ _=>L2.fit6 λ_ _ _ _ _ _=>rfl),?n0,?n1,?n2,?n3,?n4,?n5,(by decide),(by decide),(by decide),(by decide),(by decide),(by decide),(by decide),(by decide),(by decide),(by decide),(by decide),(by decide),(by decide),(by decide),(by decide)⟩
   case n0=>first|k_is|kernel_rfl
   case n1=>first|k_is|kernel_rfl
   case n2=>first|k_is|kernel_rfl
   case n3=>first|k_is|kernel_rfl
   case n4=>first|k_is|kernel_rfl
   case n5=>first|k_is|kernel_rfl
  let L:∃fd:FuncData,(∀(s:Shared) (v:Va),BindsTo s fd ⟨[v],[]⟩ [("_law_script",v)])/\L2.Fun (L2.KOf KX) "law" "law" K67.Qax fa fd:=by
   dsimp only[L2.KOf];refine' L2.law_mk KX Gq hmg 06 06 06 06 ?b
   showλs u =>.of_eq R
  obtain⟨fd,hb,F⟩:=L;show⟨fd,[(t_reduced,K67.qs_reduced),(t_paired,K67.qs_paired),(t_met,K67.qs_met),(t_joined,K67.qs_joined),(t_dropped,K67.qs_dropped),(t_maker,K67.qs_maker)],hb,L2.ts_all (List.forall_mem_cons.mpr ⟨⟨Kx.tab (by decide+kernel),n_reduced⟩,(List.forall_mem_cons.mpr ⟨⟨Vm.tab (by decide+kernel),n_paired⟩,(List.forall_mem_cons.mpr ⟨⟨Po.tab (by decide+kernel),n_met⟩,(List.forall_mem_cons.mpr ⟨⟨Vl.tab (by decide+kernel),n_joined⟩,(List.forall_mem_cons.mpr ⟨⟨Ky.tab (by decide+kernel),n_dropped⟩,(List.forall_mem_cons.mpr ⟨⟨Ta.tab (by decide+kernel),n_maker⟩,λ_ z=>nomatch z⟩)⟩)⟩)⟩)⟩)⟩),λbase _ _ kb=>K67.all T 39 39 39 39 39 39 39 39 Kx 39 39 39 Vm 39 Po Vl 39 39 39 39 Ky Ta 39 39 39 39 39 39 39 39 39 39 39 39 39 39 39 39 39 39 39 39 39 39 39 39 39 39 39 39 39 39 39 39 39 39 39 39 39 39 39 39 39 39 ne_paired_reduced ne_met_reduced ne_met_paired ne_joined_reduced ne_joined_paired ne_joined_met ne_dropped_reduced ne_dropped_paired ne_dropped_met ne_dropped_joined ne_maker_reduced ne_maker_paired ne_maker_met ne_maker_joined ne_maker_dropped kb F⟩
