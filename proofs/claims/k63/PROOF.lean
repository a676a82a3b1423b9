import PyProof.Rows.All
import Wide.All
import OpenK.AllK
import PySem.Challenge.RW_setsays_k63_whole_long_rows
set_option compiler.extract_closed false
set_option bootstrap.genMatcherCode false
set_option genSizeOf false
set_option genSizeOfSpec false
set_option maxHeartbeats 4000000
noncomputable section
local macro_rules|`(tactic|omega)=>`(tactic|first|assumption|exact Nat.le_refl _|exact Nat.le_add_left _ _|exact Nat.le_add_right _ _|exact Nat.le_of_lt (by assumption)|exact Nat.le_of_succ_le_succ (by assumption)|exact Nat.lt_of_succ_lt (by assumption)|exact Nat.le_of_succ_le (by assumption)|exact Nat.lt_of_succ_lt_succ (by assumption)|exact Nat.le_trans (by assumption) (by decide)|exact Nat.lt_of_le_of_lt (by assumption) (by decide)|exact Nat.min_le_left _ _|decide|lia|omega+splitDisjunctions)
local macro_rules|`(tactic|let $d:letDecl)=>do
 match d with
 |`(letDecl|$p:term:=$e)=>
  let rec go:Nat->Lean.Syntax->Lean.MacroM (Lean.TSyntax `rcasesPat)
   |0,_=>Lean.Macro.throwUnsupported
   |n+1,s=>do match (⟨s⟩:Lean.Term) with
    |`(($a,$b,*))=>do
     let x<-(#[a]++b.getElems).mapM λx=>go n x.raw
     let x<-x.mapM λx=>`(Lean.Parser.Tactic.rcasesPatMed|$x:rcasesPat)
     let x:Array (Lean.TSyntax `Lean.Parser.Tactic.rcasesPatLo)<-x.mapM λx=>`(Lean.Parser.Tactic.rcasesPatLo|$x:rcasesPatMed)
     `(rcasesPat|⟨$x,*⟩)
    |`(_)=>`(rcasesPat|_)
    |`($i:ident)=>`(rcasesPat|$i:ident)
    |_=>Lean.Macro.throwUnsupported
  let q<-go 9 p
  `(tactic|obtain $q:rcasesPat:=$e)
 |_=>`(tactic|have $d:letDecl)
local macro_rules|`(tactic|show $e:term)=>`(tactic|exact $e)
local macro_rules|`(tactic|apply $e:term)=>`(tactic|refine $e)
set_option hygiene false
local macro_rules|`(tactic|nofun)=>`(tactic|first|(cases h;subst_vars;rfl)|(rcases h with ⟨_,rfl,_⟩;rfl)|(rcases h with ⟨_,_,rfl,_⟩;rfl)|(rcases h with ⟨_,_,_,rfl,_⟩;rfl)|(rcases h with ⟨_,_,_,_,rfl,_⟩;rfl)|(rcases h with ⟨_,_,_,_,_,rfl,_⟩;rfl)|(rcases h with ⟨_,_,_,_,_,_,rfl,_⟩;rfl)|(rcases h with ⟨_,_,_,_,_,_,_,rfl,_⟩;rfl)|(rcases h with ⟨_,_,_,_,_,_,_,_,rfl,_⟩;rfl)|(rcases h with ⟨_,_,_,_,_,_,_,_,_,rfl,_⟩;rfl)|(rcases h with ⟨_,_,_,_,_,_,_,_,_,_,rfl,_⟩;rfl))
set_option hygiene true
universe u v
theorem R{q:Sort u}{a:q}:a=a:=rfl
theorem Xp{c:Prop}{h:Decidable c}(n:¬c){q:Sort u}{t e:q}:ite c t e=e:=if_neg n
theorem Xq{c:Prop}{h:Decidable c}(n:c){q:Sort u}{t e:q}:ite c t e=t:=if_pos n
theorem Xa{a b:Prop}(h:a)(n:¬a):b:=absurd h n
theorem Xf{p:Prop}[i:Decidable p](h:¬p):decide p=false:=decide_eq_false h
theorem Xg{p:Prop}[i:Decidable p](h:p):decide p=true:=decide_eq_true h
open PySem renaming Addr → Ad,Value → Va
open Option renaming some → G,none → B
open Bool renaming true → N,false → Fa
set_option Elab.async false
set_option linter.all false
set_option maxRecDepth 100000
open List renaming getElem?_eq_getElem → y00, length_map → y01, getD_eq_getElem?_getD → y02, getElem?_map → y03, size_toArray → y06, mem_cons_of_mem → y07, mem_cons → y09, mem_cons_self → y0a, length_append → y0d, mem_map → y0e, getElem?_eq_some_iff → y0g, take_of_length_le → y0h, length_cons → y0i, getElem_mem → y0k, mem_singleton → y0l, map_cons → y0m, mem_of_getElem? → y0n, not_mem_nil → y0o, map_map → y0q, length_singleton → y0r, mem_range → y0s, getElem?_eq_none → y0t, all_eq_true → y0u, map_append → y0v, length_take → y0w, length_range → y0x, foldl_cons → y0z, lookup_cons → y10, getElem?_append_right → y12, mem_append_right → y15, getElem?_append_left → y16, getElem?_range → y17, take_add_one → y19, mem_append → y1c, idxOf_lt_length_iff → y1d, length_nil → y1k, getElem_of_mem → y1l, nodup_cons → y1o, getElem?_cons_succ → y1s, append_nil → y1t, cons_append → y1u, any_eq_true → y1v, drop_eq_nil_of_le → y1w, map_congr_left → y1x, length_filter_le → y1y, filter_append → y1z, length_drop → y20, filter_cons_of_pos → y21, filter_cons_of_neg → y22, ext_getElem? → y23, append_assoc → y24, replicate_succ → y25, of_mem_zip → y26, filterMap_cons → y27, mem_filter → y2a, idxOf_cons → y2b, forIn_cons → y2c, all_cons → y2d, getElem_idxOf → y2g, range_succ → y2h, nil_append → y2i, length_replicate → y2j, find?_cons → y2k, flatMap_cons → y2m, ext_getElem → y2q, any_cons → y2s, range_succ_eq_map → y2t, foldl_append → y2v, flatten_cons → y2w, forIn_nil → y2x, map_nil → y2y, all_map → y2z, getElem_map → y30, count_cons → y33, reverse_cons → y38, map_take → y39, getElem?_replicate → y3a, pairwise_lt_range → y3d, take_append_drop → y3g, mem_append_left → y3j, nodup_nil → y3l, sum_cons → y3o, pairwise_cons → y3p, nodup_append → y3r, filter_congr → y3s, eraseIdx_eq_take_drop_succ → y3t, all_eq_false → y3u, take_append_of_le_length → y40, nodup_range → y41, mem_flatMap → y42, length_zip → y44, length_eraseIdx_of_lt → y46, take_zero → y48, getElem?_zip_eq_some → y49, drop_eq_getElem_cons → y4a, length_erase_of_mem → y4b, getElem?_take_of_lt → y4c, getElem?_cons_zero → y4d, length_pos_of_mem → y4g, getElem_cons_succ → y4h, getElem_cons_drop → y4i, getElem?_set_self → y4j, singleton_append → y4m
open PySem.Heap renaming get?_push_of_some → y04, get?_push_size → y0b, lt_size → y0c, size_push → y18, get?_update_other → y1b, get?_update_self → y1g
open Nat renaming le_refl → y05, ne_of_lt → y0j, lt_of_lt_of_le → y0p, zero_le → y13, le_trans → y14, lt_trans → y1n, lt_irrefl → y1q, le_of_lt → y1r, ne_of_gt → y29, le_of_not_lt → y2e, succ_le_succ → y2n, min_eq_right → y2o, lt_succ_self → y2p, min_eq_left → y2r, lt_succ_of_lt → y2u, mod_lt → y31, not_lt_zero → y32, lt_succ_iff_lt_or_eq → y37, le_of_succ_le_succ → y3c, sub_self → y3f, not_succ_le_zero → y3i, le_succ → y3m, lt_of_le_of_lt → y3n, zero_add → y3w, mul_comm → y3x, lt_or_ge → y3y, le_total → y3z, le_add_left → y43, succ_mul → y4k, le_of_eq → y4l
open Bool renaming and_eq_true → y08, false_ne_true → y0f, eq_iff_iff → y1e, eq_false_iff → y1f, false_and → y1h, true_and → y1i, and_false → y2f, false_eq_true → y35, or_false → y3b, or_eq_true → y3h, and_eq_true_iff → y3k, false_or → y4e, and_true → y4f
open Option renaming getD_some → y0y, map_eq_some_iff → y1a, map_some → y1j, toList_some → y28, isSome_iff_exists → y36
open Array renaming length_toList → y11, getElem?_eq_getElem → y1p, getElem?_toList → y2l, getElem?_eq_none → y3e, toList_push → y3v
open Int renaming toNat_natCast → y1m, zero_add → y34, emod_lt_of_pos → y3q, emod_nonneg → y45, fdiv_eq_ediv_of_nonneg → y47
open PySem renaming wpAny_bind → ia, wpAny_pure → ib, Shared → ig, sizeLine → ii, Program → ik, wpAny_holding → im, Around → io, starEach → iq, mainGlobals → ir, cellsFrom → iu, wpAny_mono → iw, boot_len → iy, builtinLookup_eq_fast → iz, wpAny_call_entry → i0, compareOp → i4, wpAny_newObj_type → i5, FuncData → i6, wpAny_callSpecial?_slot → i7, Paired → i8, rawInt → i9, wpAny_Call_Name_kw → iA, wpAny_field → iB, wpAny_seqItems → iC, codeAny_builtin → iD, wpAny_truthy_bool → iE, binaryOp → iF, wpAny_setField → iG, isSubtype_type → iH, codeAny_mono → iI, typeLookup_type → iJ, sysModules → iK, Arguments → iL, wpAny_setField_rec → iN, wpAny_setState_of → iO, wpAny_specialOf → iP, call_meets → iQ, wpAny_standAt → iS, plainId_quiet → iT, wpAny_execs_cons → iU, scanBound → iV, codeAny_call_function → iW, wpAny_passesOwn → iX, letOwnedTupleGo → iY, wpAny_updateSeq → iZ, bootBuiltins → ja, wpAny_pyIter_list → jb, codeAny → jc, bindArgs → je, wpAny_askSetting → jf, builtinsNs → jg, backTo → jh, wpAny_call → ji, NameKind → jj, wpAny_newFunctionEnv_cells → jk, typeLookup → jl, wpAny_rule → jm, SetTable → jn, wpAny_typeOf → jo, wpAny_execs_nil → jp, codeAny_of_tree → jq, assignEach → jr, sliceBounds → js, foldedSetIterable → jt, wpAny_pyIter_slot → ju, codeAmong → jv, wpAny_isInstance → jx, InCallC → jy, sizeLine_eq → jz, codeAny_call_builtin → j0, pyNext → j6, wpAny_setEntries_of → j7, codeAny_func → j9, updateSeq → jA, GenState → jB, tupleKind_room_in1 → jC, firstArgMember → jD, ZipApart → jE, wpAny_fieldsOf → jG, newFunctionEnv → jH, getItem → jI, wpAny_letGo → jK, behindInMarks → jL, IsPair → jN, wpAny_onRaise → jO, wpAny_attempt → jP, tupleKind → jQ, storeName → jR, swapsWith → jS, checkBuiltinCall → jT, intKind → jU, pyIter → jV, Keyword → jW, recursionLimit → jX, subscripted → jY, wpAny_newTuple → jZ, relayAll → lg, BindsTo → lh, callerA → li, valueAt → lj, wpAny_load → lm, findBy → lq, IsPart → lu, qualnameIn → lw, setsByText → ly, leaving → lz, FuncBody → lA
open PyProof.Rows renaming boot_isinstance → iM, boot_tuple → iR, envOfC → jd, kindOf → jw, AllBare → j8, IntsAre → jJ, boot_all → lB
open PySem PySem.Spec PyProof.Rows
open PySem.W (Frag)
abbrev Y0:=Va->ig->Prop
abbrev Y1:=Str->Option Va
abbrev Y2:=List<|Ad×Obj
abbrev Y3:=List<|Pos×Str
abbrev Y4:=List<|Str×Ad
abbrev Y6:=List<|Nat×Str
abbrev Y8:=Array<|Option Va
abbrev Y9:=Option Va->ig->Prop
set_option hygiene false in
local macro_rules
| `(tactic|ac_rfl) => `(tactic|refine atom λzG zk=>?_)
set_option hygiene false in
local macro_rules
| `(tactic|infer_instance) => `(tactic|refine iA (thn (zhn (pos:=p) hN hv hd hcd pins s σ H (λv H'=>v =.ref f/\H'=H) I (zfv hs ⟨rfl,rfl⟩)) λu s1 zz=>ex5 zz λv H1 I1 r1 zq=>?_))
set_option hygiene false
local macro_rules|`(35)=>`(λvs H Q E h=>?_)
local macro_rules|`(46)=>`(λf cdv A outer s H vs Q E hr h=>?_)
local macro_rules|`(03)=>`(Cal P w K mg base)
local macro_rules|`(02)=>`(Inv X pins σ)
local macro_rules|`(00)=>`(by omega)
local macro_rules|`(01)=>`(by rfl)
local macro_rules|`(04)=>`(by decide)
local macro_rules|`(20)=>`(model X.prog X.w)
local macro_rules|`(21)=>`(by decide+kernel)
local macro_rules|`(06)=>`(by simp)
local macro_rules|`(90)=>`(pa_c (pv 0) zaa)
local macro_rules|`(07)=>`(.ref a)
local macro_rules|`(66)=>`(defScope st)
local macro_rules|`(024)=>`(.Call (.Name x p) (e::es) [] pos)
local macro_rules|`(39)=>`(Or.inl rfl)
local macro_rules|`(011)=>`(.ref s.heap.objs.size)
local macro_rules|`(010)=>`(x==("__debug__":Str))
local macro_rules|`(97)=>`(pa_c (pv 1) zaa)
local macro_rules|`(49)=>`(nomark _)
local macro_rules|`(043)=>`(s2.heap.push {cls:=.type "list",data:=.seq ([]:List Value).toArray})
local macro_rules|`(09)=>`(.ref p)
local macro_rules|`(022)=>`((∀b,InCl cl b->H2 b=none))
local macro_rules|`(08)=>`(y05 _)
local macro_rules|`(052)=>`(s.heap.objs.size+1)
local macro_rules|`(053)=>`(k==NameKind.free&&env.scope.kind ==.function&&env.kindOf n==some .cell)
local macro_rules|`(95)=>`(model prog w)
local macro_rules|`(074)=>`(zbm (zbq K PySem.F.plainAttrs_list PySem.F.slot_list_append PySem.F.type_list_append za9 (pv 0) (pa_c (zay (pa_c zao (pa_c (zax (pa_c zao (pa_c zao zaa))) zaa))) zaa)))
local macro_rules|`(012)=>`(.frz o (.own c))
local macro_rules|`(93)=>`(Same.refl H)
local macro_rules|`(78)=>`(model P w)
local macro_rules|`(075)=>`(zbm (zbq K PySem.F.plainAttrs_list PySem.F.slot_list_append PySem.F.type_list_append za9 (pv 0) (pa_c (zay (pa_c zao (pa_c (zax (pa_c zao zaa)) zaa))) zaa)))
local macro_rules|`(054)=>`(cloFd name qual params (.stmts body) scope cl ct (.ref c') pm)
local macro_rules|`(50)=>`(.lst ys)
local macro_rules|`(061)=>`(s.heap.push {cls:=.type "set",dict:=none,data:=.set #[] 0 (.fresh 0 0 led)})
local macro_rules|`(055)=>`(A.deeper (envL qual scope cl s.heap.objs.size f (.ref c')))
local macro_rules|`(47)=>`(.ref b)
local macro_rules|`(056)=>`(cxLE P w K mg base Nq qual scope cl f0 cd A outer s0 H0 E)
local macro_rules|`(89)=>`(CompOk.of rfl 01 01)
local macro_rules|`(36)=>`(Or.inl 01)
local macro_rules|`(062)=>`(PySem.W.fnOf x x (defArgs st) (defBody st) 66 .none kV doc pm an cdv ct)
local macro_rules|`(057)=>`(cxOf CX0 P w K mg base Nq x 66 f (.ref c) A outer s H E)
local macro_rules|`(058)=>`(cxOf CX P w K mg base Nq qual scope f cdv A outer s H E)
local macro_rules|`(014)=>`(za5 I q 06)
local macro_rules|`(034)=>`(zak za7 (pv 0) zad 49)
local macro_rules|`(044)=>`(za1 (zan K) 01 T.b_len iy 97)
local macro_rules|`(045)=>`(za1 (zan K) 01 T.b_len iy 90)
local macro_rules|`(040)=>`(cxB X scope tn cp cl C s H fp)
local macro_rules|`(38)=>`(zah K)
local macro_rules|`(61)=>`(.ref f)
local macro_rules|`(016)=>`(bs.map V.bl)
local macro_rules|`(017)=>`(Same.refl _)
local macro_rules|`(038)=>`(iu 052 scope.names [])
local macro_rules|`(020)=>`(List.range i)
local macro_rules|`(066)=>`((∀c o,c∉[z,ti,ro,j1,j2]->s.heap.get? c=some o->h'.get? c=some o))
local macro_rules|`(059)=>`((f,{cls:=.type "function",data:=.func fd}))
local macro_rules|`(063)=>`((∀σ' H',Nq σ' H'->∃m',m'<m/\W (i+1) m' σ' H'))
local macro_rules|`(067)=>`((∀b o,b<s.heap.objs.size->s.heap.get? b=some o->h'.get? b=some o))
local macro_rules|`(035)=>`(ha pins s σ H _ I h)
local macro_rules|`(032)=>`(upd H1 D (.lst []))
local macro_rules|`(068)=>`(PySem.W.fnOf name qual params body scope dV kV doc pm an cdv ct)
local macro_rules|`(65)=>`(.ref D)
local macro_rules|`(028)=>`(EP X pins σ Q)
local macro_rules|`(027)=>`(zac (zag zbj))
local macro_rules|`(91)=>`(.lst xs)
local macro_rules|`(069)=>`(cloFd name qual params (.expr body) scope cl ct (.ref c') pm)
local macro_rules|`(070)=>`(.FunctionDef name params body [] none [] scope none name pos)
local macro_rules|`(025)=>`(ns.map V.int)
local macro_rules|`(041)=>`(cutL ns none (some 250))
local macro_rules|`(064)=>`(.ListComp elt [⟨tg,iter,ifs,0⟩] scope pos)
local macro_rules|`(039)=>`(List.range xs.length)
local macro_rules|`(023)=>`(mixKind P w)
local macro_rules|`(036)=>`((false,eval e X.env))
local macro_rules|`(029)=>`(mixL cl H' H2)
local macro_rules|`(060)=>`(zae Vo hr 00 01 90)
local macro_rules|`(033)=>`(picked m rooms g)
local macro_rules|`(021)=>`(I.ok.hd hc)
local macro_rules|`(96)=>`(.ref it)
local macro_rules|`(046)=>`(x==("__classdict__":Str))
local macro_rules|`(018)=>`(ps.zip us)
local macro_rules|`(048)=>`(iu 052 scope.names []++cl)
local macro_rules|`(076)=>`(s.heap.push {cls:=.type "range",data:=.fields #[.int lo t,.int hi u,.int 1 v]})
local macro_rules|`(013)=>`(T.step t)
local macro_rules|`(019)=>`(⟨us,[]⟩)
local macro_rules|`(077)=>`(PySem.W.fnOf x qual (defArgs st) (defBody st) 66 .none kV doc pm an cdv ct)
local macro_rules|`(049)=>`(zak op_eq (pv 2) zao 49)
local macro_rules|`(071)=>`(HT.sIx xs.length xs.length hi-HT.sIx xs.length 0 lo)
local macro_rules|`(98)=>`(.tup xs)
local macro_rules|`(072)=>`(tDef X P qs name qual params (.stmts body) scope j)
local macro_rules|`(015)=>`(.inl rfl)
local macro_rules|`(050)=>`(upd H4 D (.lst (ys++[y])))
local macro_rules|`(026)=>`(start Nq vs)
local macro_rules|`(031)=>`(stB tn cp σ0)
local macro_rules|`(042)=>`(.Tuple elts x1 tpos)
local macro_rules|`(073)=>`(sIx items.size items.size hi-sIx items.size 0 lo)
local macro_rules|`(047)=>`(⟨Z.1,Z.2.1,_,Z.2.2⟩)
local macro_rules|`(037)=>`(pa_c (pv 3) zaa)
local macro_rules|`(030)=>`(e0.bs b o e)
local macro_rules|`(051)=>`(ha pos pins s σ H _ I h)
local macro_rules|`(078)=>`(⟨ok.mod,ok.kind,ok.glob,ok.blt,ok.above,ok.inj,ok.has,ok.cab,ok.hd,ok.frames,ok.stk,ok.exf,ok.bs,ok.bsz,ok.noex,ok.exfs,ok.funs,ok.frf⟩)
local macro_rules|`(065)=>`(jd qual scope s.heap.objs.size f cd)
local macro_rules|`(48)=>`(by exact_mod_cast 0)
local macro_rules|`(05)=>`(by k_is)
local macro_rules|`(99)=>`(.cons ⟨_,rfl⟩ (.nil))
set_option hygiene true
namespace L2
theorem ex5{q p:Type}{A Bq C:q->p->Prop}{Gq:Prop}(h:∃x y,A x y/\Bq x y/\C x y)(k:∀x y,A x y->Bq x y->C x y->Gq):Gq:=let⟨x,y,a,b,c⟩:=h;k x y a b c
abbrev Key:=Sum Int Str
noncomputable def blI(b:Bool):Int:=if b=N then 1 else 0
def isBl(k:Int):Va->Bool
 |.bool b=>k==blI b
 |_=>Fa
def keyIs:Key->Va->Bool
 |.inl k,v=>Va.isInt k v||isBl k v
 |.inr x,v=>Va.isStrOf x v
noncomputable def keyH(w:World):Key->Int
 |.inl k=>hashInt k
 |.inr x=>hashStr w x
theorem zp2:∀{v:Va},isBl k v=N->∃b,k=blI b/\v=Va.bool b:=by
 intro v h;cases v
 case bool b=>show⟨b,eq_of_beq h,R⟩
 all_goals show Xa h y0f
theorem za3:∀{k:Key} {v:Va},keyIs k v=N->(∃i t,k=Sum.inl i/\v=Va.int i t)\/(∃x t,k=Sum.inr x/\v=Va.str x t)\/∃b,k=Sum.inl (blI b)/\v=Va.bool b
 |.inl i,v,h=>by
  rcases(y3h _ _).mp (show(Va.isInt i v||isBl i v)=N from h)with h|h
  .let(t,e):=Va.isInt_shape (k:=i) (v:=v) h;show .inl ⟨i,t,R,e⟩
  .let(b,e,f):=zp2 h;show .inr<|.inr ⟨b,by rw[e],f⟩
 |.inr x,v,h=>by
  let(t,e):=Va.isStrOf_shape (x:=x) (v:=v) h;show .inr<|.inl ⟨x,t,R,e⟩
theorem zst(i:Int)(t:Tok):keyIs (.inl i) (.int i t)=N:=by simp[keyIs,Va.isInt]
theorem zwh(b:Bool):keyIs (.inl<|blI b) (.bool b)=N:=by simp[keyIs,isBl]
theorem blI_inj(e:blI a=blI b):a=b:=by
 cases a<;>cases b<;>first|rfl|show Xa e (by decide)
theorem hash_bl(h:Q (hashInt<|blI b) {s with toks:=s.toks+1}):wpAny (model prog w) A (pyHash<|.bool b) Q E s:=by
 let u:s.TypeIs (.bool b) "bool":=rfl;let D:=rawHash_range<|blI b;unfold pyHash;apply ia ?_;rw[cRoomFor,Xp<|show¬[Va.bool b].any Va.onHeap=N from y0f];apply ib<|ia (iP u PySem.F.slot_bool_hash.lookup ?_);change wpAny _ _ (if(G (Va.builtin "int.__hash__")==G Va.none)=N then _ else _) Q E s;rw[Xp<|show¬(G (Va.builtin "int.__hash__")==G Va.none)=N from y0f];apply ia<|iP u PySem.F.slot_bool_hash.lookup ?_;change wpAny _ _ (callSpecialIfBoundUnlessNone? (.bool b) "__hash__" _>>=_) Q E s;apply ia<|wpAny_callSpecialIfBoundUnlessNone?_slot u PySem.F.slot_bool_hash (i0 PySem.F.slot_bool_hash u PySem.F.entry_int_hash ?_<|PySem.F.args_int_hash_1 _);apply(show wpAny _ _ (do ret<|←mkInt (rawHash<|blI b)) _ _ s from wpAny_ret_mkInt ?_);change wpAny _ _ (if(decide (-(2:Int)^63<=rawHash (blI b))&&decide (rawHash (blI b)<2^63))=N then _ else _) Q E _;rw[Xq<|by rw[Xg D.1,Xg D.2];rfl];show ib h
theorem zss(x:Str)(t:Tok):keyIs (.inr x) (.str x t)=N:=by simp[keyIs,Va.isStrOf]
theorem zn5(a b:Int):decide ((Sum.inl a:Key)=Sum.inl b)=(a==b):=by
 by_cases e:a=b
 .subst e;simp
 .let h:¬(Sum.inl a:Key)=Sum.inl b:=λq=>e<|Sum.inl.inj q;rw[Xf h];show(beq_eq_false_iff_ne.mpr e).symm
theorem key_rr(a b:Str):decide ((Sum.inr a:Key)=Sum.inr b)=decide (a=b):=by
 by_cases e:a=b
 .subst e;simp
 .let h:¬(Sum.inr a:Key)=Sum.inr b:=λq=>e<|Sum.inr.inj q;rw[Xf h,Xf e]
theorem zxq(a:Int)(b:Str):decide ((Sum.inl a:Key)=Sum.inr b)=Fa:=Xf λq=>nomatch q
theorem zxp(a:Str)(b:Int):decide ((Sum.inr a:Key)=Sum.inl b)=Fa:=Xf λq=>nomatch q
def mixKind(prog:ik)(w:World):PySem.KeyKind prog w Key where
 is:=keyIs
 hash:=keyH w
 inj:=λv a b o U=>by
  rcases za3 o with⟨i,t,rfl,rfl⟩|⟨x,t,rfl,rfl⟩|⟨c,rfl,rfl⟩
  .rcases za3 U with⟨j,u,rfl,e⟩|⟨y,u,rfl,e⟩|⟨d,rfl,e⟩
   .injection e with g _;rw[g]
   .exact nomatch e
   .exact nomatch e
  .rcases za3 U with⟨j,u,rfl,e⟩|⟨y,u,rfl,e⟩|⟨d,rfl,e⟩
   .exact nomatch e
   .injection e with g _;rw[g]
   .exact nomatch e
  .rcases za3 U with⟨j,u,rfl,e⟩|⟨y,u,rfl,e⟩|⟨d,rfl,e⟩
   .exact nomatch e
   .exact nomatch e
   .injection e with g;rw[g]
 byValue:=λk v h=>by
  rcases za3 h with⟨i,t,rfl,rfl⟩|⟨x,t,rfl,rfl⟩|⟨c,rfl,rfl⟩<;>rfl
 pyHash:=λhv h=>by
  rcases za3 hv with⟨i,t,rfl,rfl⟩|⟨x,t,rfl,rfl⟩|⟨c,rfl,rfl⟩
  .exact wpAny_pyHash_int h
  .exact wpAny_pyHash_str h
  .exact hash_bl h
 eqBool:=λC hv h=>by
  rcases za3 C with⟨i,t,rfl,rfl⟩|⟨x,t,rfl,rfl⟩|⟨c,rfl,rfl⟩
  .rcases za3 hv with⟨j,u,rfl,rfl⟩|⟨y,u,rfl,rfl⟩|⟨d,rfl,rfl⟩
   .rw[zn5]at h;show wpAny_eqBool_int h
   .rw[zxq]at h;show SeqAt.EqAt.int_str i t y u _ _ _ _ h
   .rw[zn5]at h;show SeqAt.EqAt.int_bool i t d _ _ _ _ h
  .rcases za3 hv with⟨j,u,rfl,rfl⟩|⟨y,u,rfl,rfl⟩|⟨d,rfl,rfl⟩
   .rw[zxp]at h;show SeqAt.EqAt.str_int x t j u _ _ _ _ h
   .rw[key_rr]at h;show wpAny_eqBool_str h
   .rw[zxp]at h;show SeqAt.EqAt.str_bool x t d _ _ _ _ h
  .rcases za3 hv with⟨j,u,rfl,rfl⟩|⟨y,u,rfl,rfl⟩|⟨d,rfl,rfl⟩
   .rw[zn5]at h;show SeqAt.EqAt.bool_int c j u _ _ _ _ h
   .rw[zxq]at h;show SeqAt.EqAt.bool_str c y u _ _ _ _ h
   .rw[zn5,show(blI c==blI d)=(c==d) by cases c<;>cases d<;>rfl]at h;show SeqAt.EqAt.bool_bool c d _ _ _ _ h
 «strs»:=λk x t v h=>by
  rcases za3 h with⟨i,u,rfl,e⟩|⟨y,u,rfl,e⟩|⟨d,rfl,e⟩
  .exact nomatch e
  .injection e with g _
   subst g;cases v<;>rfl
  .exact nomatch e
theorem zmo(prog:ik)(w:World)(i:Int)(t:Tok):(mixKind prog w).is (.inl i) (.int i t)=N:=zst i t
theorem zmn(prog:ik)(w:World)(x:Str)(t:Tok):(mixKind prog w).is (.inr x) (.str x t)=N:=zss x t
inductive V where
 |non|bl (b:Bool)|int (i:Int)|str (x:Str)|byt (b:Array UInt8)|flt (b:UInt64)|ref (a:Ad)|ty (n:String)
 deriving DecidableEq
def RelV:V->Va->Prop
 |.non,u=>u=Va.none
 |.bl b,u=>u=Va.bool b
 |.int i,u=>∃t,u=Va.int i t
 |.str x,u=>∃t,u=Va.str x t
 |.byt b,u=>∃t,u=Va.bytes b t
 |.flt b,u=>∃t,u=Va.float b t
 |.ref a,u=>u=Va.ref a
 |.ty n,u=>u=Va.type n
abbrev Vals:List V->List Va->Prop:=i8 RelV
theorem Vals.length(r:Vals xs us):xs.length=us.length:=Paired.length r
theorem Vals.get:∀{xs:List V} {us:List Va} {i:Nat} {x:V},Vals xs us->xs[i]?=G x->∃u,us[i]?=G u/\RelV x u
 |_,_,_,_,.nil,e=>by simp at e
 |_,_,0,_,.cons r _,e=>by simp at e;subst e;show⟨_,R,r⟩
 |_,_,i+1,x,.cons _ t,e=>by
  let(u,L,J):=Vals.get (i:=i) (x:=x) t (by simpa using e);show⟨u,by simpa using L,J⟩
theorem Vals.set(r:RelV x u):∀{xs:List V} {us:List Va} (i:Nat),Vals xs us->Vals (xs.set i x) (us.set i u)
 |_,_,_,.nil=>.nil
 |_,_,0,.cons _ t=>.cons r t
 |_,_,i+1,.cons q t=>.cons q<|Vals.set r i t
theorem Vals.append:∀{xs ys:List V} {us z:List Va},Vals xs us->Vals ys z->Vals (xs++ys) (us++z)
 |_,_,_,_,.nil,s=>s
 |_,_,_,_,.cons r t,s=>.cons r<|Vals.append t s
theorem Vals.take:∀{xs:List V} {us:List Va} (n:Nat),Vals xs us->Vals (xs.take n) (us.take n)
 |_,_,0,_=>.nil
 |_,_,_+1,.nil=>.nil
 |_,_,n+1,.cons r t=>.cons r<|Vals.take n t
theorem Vals.drop:∀{xs:List V} {us:List Va} (n:Nat),Vals xs us->Vals (xs.drop n) (us.drop n)
 |_,_,0,r=>r
 |_,_,_+1,.nil=>.nil
 |_,_,n+1,.cons _ t=>Vals.drop n t
def RelO:Option V->Option Va->Prop
 |some v,G u=>RelV v u
 |none,B=>True
 |_,_=>False
def KV{d:Type}:List (d×V)->List (d×Va)->Prop:=i8 λ(p:d×V) (q:d×Va)=>p.1=q.1/\RelV p.2 q.2
noncomputable def kV:Key->V
 |.inl i=>.int i
 |.inr x=>.str x
inductive HO where
  |lst (xs:List V)
  |tup (xs:List V)
  |dK (kvs:List<|Key×V)|dT (kvs:List<|List Key×V)
  |set (S:Int->Bool) (n:Nat)
  |ins (C dx:Ad) (fs:List<|Str×V)
  |own (x:Ad)
  |xd (fs:List<|Str×V)
  |met (f x:Ad)
  |rng (lo hi:Int)
  |frz (o:Obj) (u:HO)
  |tbl (qs:Y3) (ps:Array Va)
  |ext (φ:Heap->Prop)
abbrev Hp:=Ad->Option HO
noncomputable def upd(H:Hp)(a:Ad)(o:HO):Hp:=λb=>if b=a then G o else H b
theorem zar:upd H a o a=G o:=by unfold upd;rw[Xq rfl]
theorem zam(h:b≠a):upd H a o b=H b:=by unfold upd;rw[Xp h]
theorem zsg{H:Hp}{a b:Ad}{o u:HO}(h:H a=G o)(h':H b=G u)(d:o≠u):a≠b:=by
 intro e;subst e;rw[h]at h';show d<|Option.some.inj h'
theorem zav{H:Hp}{a b:Ad}{o:HO}(h:H a=G o)(h':H b=B):a≠b:=by
 intro e;subst e;rw[h]at h';cases h'
section
variable (P:ik)(w:World)
def CodeObj(o:Obj)(q:Str):Prop:=∃vs t,o.data=.fields vs/\vs[1]?=G (.str q t)
def ObjOk(H:Hp)(h:Heap)(a:Ad):HO->Prop
 |.lst xs=>xs.length<=ii/\∃(its:List Va) (n:Nat),Vals xs its/\h.get? a=G {cls:=.type "list",data:=.seq its.toArray n}
 |.tup xs=>xs.length<=ii/\∃its:List Va,Vals xs its/\IsTup h a its.toArray
 |.dK kvs=>kvs.length<=ii/\(a==iK)=Fa/\∃vs,KV kvs vs/\h.DictOf 023 a vs
 |.dT kvs=>kvs.length<=ii/\(a==iK)=Fa/\∃xs:List<|List Key×Ad×Va,
   i8 (λ(p:List Key×V) (q:List Key×Ad×Va)=>p.1=q.1/\H q.2.1=G (.tup<|p.1.map kV)/\RelV p.2 q.2.2) kvs xs/\
   ∃o l ep,h.get? a=G o/\o.ExactDict/\o.data=.dict l ep/\l.toList=xs.map (entryOfKey<|jQ 023)/\(xs.map (·.1)).Nodup
 |.set S n=>h.SetOf (jU P w) a S n
 |.ins C dx fs=>H dx=G (.own a)/\fs.length<=1000/\dx≠a/\h.get? a=G (PySem.W.instObj C dx)/\
   ∃g,h.Ns1 dx g/\(∀f,RelO (fs.lookup f)<|g f)/\PySem.Within g (fs.map (·.1))
 |.own _=>∃o,h.get? a=G o
 |.xd fs=>∃g,h.Ns1 a g/\∀f,RelO (fs.lookup f)<|g f
 |.rng lo hi=>∃t u v,h.get? a=G {cls:=.type "range",data:=.fields #[.int lo t,.int hi u,.int 1 v]}
 |.frz o u=>h.get? a=G o/\ObjOk H h a u
 |.tbl qs ps=>∃i:Array Va,h.get? a=G {cls:=.none,data:=.fields (ps++i)}/\TriplesOk (ps++i).toList/\∀p∈qs,∀v,jv p.1 (ps++i).toList=G v->∃c o,v=.ref c/\H c=G 012/\CodeObj o p.2
 |.met f x=>h.get? a=G (PySem.W.methodObj 61<|.ref x)
 |.ext s=>s h/\(∃o,h.get? a=G o)/\∀L J:Heap,s L->(∀o,L.get? a=G o->J.get? a=G o)->s J
def HOk(H:Hp)(h:Heap):Prop:=∀a o,H a=G o->ObjOk P w H h a o
end
section
variable {P:ik}{w:World}{H H':Hp}{h h':Heap}{a:Ad}{o:HO}
theorem ObjOk.lt(x:ObjOk P w H h a o):a<h.objs.size:=by
 cases o with
 |lst xs=>let(_,_,_,_,e):=x;show y0c e
 |tup xs=>let(_,_,_,p):=x;show p.lt
 |dK kvs=>let(_,_,_,_,o,_,_,e,_):=x;show y0c e
 |dT kvs=>let(_,_,_,_,o,_,_,e,_):=x;show y0c e
 |set S n=>let(o,_,_,_,e,_):=x;show y0c e
 |ins C dx fs=>let(_,_,_,e,_):=x;show y0c e
 |own y=>let(_,e):=x;show y0c e
 |xd fs=>let(_,(_,_,_,e,_),_):=x;show y0c e
 |rng lo hi=>let(_,_,_,e):=x;show y0c e
 |frz ob u=>let(e,_):=x;show y0c e
 |tbl qs ps=>let(_,e,_):=x;show y0c e
 |met f y=>show y0c<|show h.get? a=G _ from x
 |ext s=>let(_,(_,e),_):=x;show y0c e
theorem Paired.mapP:∀{d:List q} {c:List p},i8 F d c->(∀a b,F a b->Gq a b)->i8 Gq d c
 |_,_,.nil,_=>.nil
 |_,_,.cons r t,f=>.cons (f _ _ r)<|Paired.mapP t f
theorem ObjOk.stay(x:ObjOk P w H h a o)(k:∀b u,(b=a\/H b=G (.own a))->h.get? b=G u->h'.get? b=G u)
  (D:∀b,H b=G (.own a)->H' b=G (.own a)) (T:∀b o u q,CodeObj o q->H b=G (.frz o u)->H' b=G (.frz o u)) (A:∀b xs,H b=G 98->H' b=G 98):ObjOk P w H' h' a o:=by
 induction o with
 |lst xs=>let(z,its,n,r,e):=x;show⟨z,its,n,r,k _ _ 015 e⟩
 |tup xs=>let(z,its,r,ob,e,c):=x;show⟨z,its,r,ob,k _ _ 015 e,c⟩
 |dK kvs=>let(z,y,vs,r,ob,l,ep,e,c):=x;show⟨z,y,vs,r,ob,l,ep,k _ _ 015 e,c⟩
 |dT kvs =>
  let(z,y,xs,r,ob,l,ep,e,c):=x;show⟨z,y,xs,Paired.mapP r λp q z=>⟨z.1,A _ _ z.2.1,z.2.2⟩,ob,l,ep,k _ _ 015 e,c⟩
 |set S n=>let(ob,l,ep,t,e,c):=x;show⟨ob,l,ep,t,k _ _ 015 e,c⟩
 |ins C dx fs =>
  let(d,z,ne,e,g,(j,l,ep,U,c),r):=x;show⟨D _ d,z,ne,k _ _ 015 e,g,⟨j,l,ep,k _ _ (.inr d) U,c⟩,r⟩
 |own y=>let(ob,e):=x;show⟨ob,k _ _ 015 e⟩
 |xd fs=>let(g,(j,l,ep,e,c),r):=x;show⟨g,⟨j,l,ep,k _ _ 015 e,c⟩,r⟩
 |rng lo hi=>let(t,u,v,e):=x;show⟨t,u,v,k _ _ 015 e⟩
 |frz ob u Q=>let(e,q):=x;show⟨k _ _ 015 e,Q q⟩
 |tbl qs ps=>let(i,e,t,c):=x;show⟨i,k _ _ 015 e,t,λp E v q=>let⟨M,o,r,z,co⟩:=c p E v q;⟨M,o,r,T _ _ _ _ co z,co⟩⟩
 |met f y =>
  let e:h.get? a=G (PySem.W.methodObj 61<|.ref y):=x;change h'.get? a=G (PySem.W.methodObj 61<|.ref y);show k a _ 015 e
 |ext s=>let(p,(o,e),st):=x;show⟨st _ _ p λo q=>k _ _ 015 q,⟨o,k _ _ 015 e⟩,st⟩
theorem HOk.lt(x:HOk P w H h)(e:H a=G o):a<h.objs.size:=(x a o e).lt
theorem HOk.fresh(x:HOk P w H h)(e:h.objs.size<=a):H a=B:=by
 cases q:H a with
 |none=>rfl
 |some u=>show Xa (y0p (x.lt q) e)<|y1q _
theorem HOk.kept(x:HOk P w H h)(k:∀b u,h.get? b=G u->h'.get? b=G u):HOk P w H h':=λa o e =>
 (x a o e).stay (λb u _ q=>k b u q) (λ_ q=>q) (λ_ _ _ _ _ q=>q) λ_ _ q=>q
theorem HOk.laid(x:HOk P w H h)(k:∀b u,h.get? b=G u->h'.get? b=G u)(E:h.objs.size<=a)(new:ObjOk P w (upd H a o) h' a o):HOk P w (upd H a o) h':=λb u e=>by
 let I:=x.fresh E;by_cases U:b=a
 .subst U;rw[zar]at e;cases e;show new
 .rw[zam U]at e;show(x b u e).stay (λc v _ q=>k c v q) (λc q=>by rw[zam<|zav q I];show q) (λc _ _ _ _ q=>by rw[zam<|zav q I];show q) λc xs q=>by rw[zam<|zav q I];show q
end
def Rd(H:Hp)(a:Ad)(u:HO):Prop:=H a=G u\/∃o,H a=G (.frz o u)
theorem Rd.ok(r:Rd H a u)(x:HOk P w H h):ObjOk P w H h a u:=by
 rcases r with r|⟨o,r⟩
 .exact x a u r
 .let(_,q):=x a _ r;show q
def Mut:Option HO->Prop
 |some (.lst _)=>True
 |some (.dK _)=>True
 |some (.dT _)=>True
 |some (.set _ _)=>True
 |some (.ins _ _ _)=>True
 |some (.ext _)=>True
 |_=>False
section
variable {P:ik}{w:World}{H:Hp}{h h':Heap}{x e:Ad}{o':HO}
theorem HOk.write(ok:HOk P w H h)(l:Mut<|H x)(L:e=x\/H e=G (.own x))(k:∀b u,b≠e->h.get? b=G u->h'.get? b=G u)(f:∃u,h'.get? e=G u)
  (new:ObjOk P w (upd H x o') h' x o'):HOk P w (upd H x o') h':=λb u q=>by
 let a:∀c y,H c=G (.own y)->c≠x:=λc y r z=>by subst z;rw[r]at l;show l
 let i:∀c xs,H c=G 98->c≠x:=λc xs r z=>by subst z;rw[r]at l;show l
 let g:∀c o y,H c=G (.frz o y)->c≠x:=λc o y r z=>by subst z;rw[r]at l;show l
 by_cases U:b=x
 .subst U;rw[zar]at q;cases q;show new
 .rw[zam U]at q;by_cases d:b=e
  .let j:H b=G (.own x):=by
    rcases L with z|z
    .exact Xa (d.trans z) U
    .rw[d];show z
   rw[q]at j;cases j;let(v,hv):=f;show⟨v,by rw[d];show hv⟩
  .refine(ok b u q).stay (λc v C r=>k c v ?_ r) (λc r=>by rw[zam<|a c b r];show r) (λc o y _ _ r=>by rw[zam<|g c o y r];show r) λc xs r=>by rw[zam<|i c xs r];show r
   rcases C with rfl|C
   .exact d
   .rintro rfl;rcases L with z|z
    .exact a c b C z
    .rw[C]at z;cases z;show U R
end
structure Un(fs ex:List Ad)(H H':Hp)(h h':Heap):Prop where
 keep:∀b o,h.get? b=G o->H b=B->b∉fs->b∉ex->h'.get? b=G o
 slot:∀b o,h.get? b=G o->H b=B->b∈fs->b∉ex->∃sl,h'.get? b=G {o with slots:=sl}
 free:∀b o,h.get? b=G o->H b=B->b∉ex->H' b=B
 there:∀b o,h.get? b=G o->b∉ex->∃o',h'.get? b=G o'
 tups:∀b xs,H b=G 98->H' b=G 98
 frzs:∀b o u,H b=G (.frz o u)->H' b=G (.frz o u)
 tbls:∀b qs ps,H b=G (.tbl qs ps)->H' b=G (.tbl qs ps)
section
variable {fs fs' ex ex':List Ad}{H H1 H2:Hp}{h h1 h2 h':Heap}{a x e:Ad}{o:HO}
theorem Un.any(u:Un fs ex H H1 h h1)(q:h.get? b=G ob)(n:H b=B)(O:b∉ex):∃Y,h1.get? b=G {ob with slots:=Y}:=by
 by_cases U:b∈fs
 .exact u.slot b ob q n U O
 .exact⟨ob.slots,u.keep b ob q n U O⟩
theorem Un.kept(k:∀b u,h.get? b=G u->h'.get? b=G u):Un fs ex H H h h' :=
 ⟨λb ob q _ _ _=>k b ob q,λb ob q _ _ _=>⟨ob.slots,k b ob q⟩,λ_ _ _ n _=>n,λb ob q _=>⟨ob,k b ob q⟩,λ_ _ q=>q,λ_ _ _ q=>q,λ_ _ _ q=>q⟩
theorem Un.refl:Un fs ex H H h h:=Un.kept λ_ _ q=>q
theorem Un.laid(k:∀b u,h.get? b=G u->h'.get? b=G u)(E:h.objs.size<=a)(I:H a=B):Un fs ex H (upd H a o) h h' where
 keep:=λb u q _ _ _=>k b u q
 slot:=λb u q _ _ _=>⟨u.slots,k b u q⟩
 free:=λb u q n _=>by rw[zam<|y0j (y0p (y0c q) E)];show n
 there:=λb u q _=>⟨u,k b u q⟩
 tups:=λb xs q=>by rw[zam<|zav q I];show q
 frzs:=λb u xs q=>by rw[zam<|zav q I];show q
 tbls:=λb qs ps q=>by rw[zam<|zav q I];show q
theorem Un.write(l:Mut<|H x)(L:e=x\/H e=G (.own x))(k:∀b u,b≠e->h.get? b=G u->h'.get? b=G u)(f:∃u,h'.get? e=G u):Un fs ex H (upd H x o) h h':=by
 let O:∀b,H b=B->b≠x:=λb n z=>by subst z;rw[n]at l;show l
 let U:∀b,H b=B->b≠e:=λb n z=>by
  subst z;rcases L with r|r
  .exact O b n r
  .rw[n]at r;cases r
 let M:∀b u,H b=G u->¬Mut (G u)->b≠x:=λb u q c z=>by subst z;rw[q]at l;show c l
 apply⟨λb u q n _ _=>k b u (U b n) q,λb u q n _ _=>⟨u.slots,k b u (U b n) q⟩,λb u q n _=>by rw[zam<|O b n];show n,λb u q _=>?_,
  λb xs q=>by rw[zam<|M b _ q λz=>z];show q,λb u xs q=>by rw[zam<|M b _ q λz=>z];show q,λb qs ps q=>by rw[zam<|M b _ q λz=>z];show q⟩
 by_cases d:b=e
 .subst d;show f
 .exact⟨u,k b u d q⟩
end
noncomputable def trk(h:Heap)(H:Hp):List Ad:=(List.range h.objs.size).filter λa=>(H a).isSome
def hidT(h:Heap)(H:Hp):Heap:=PySem.W.hideAll h<|trk h H
theorem zs1(h:Heap)(H:Hp):(hidT h H).objs.size=h.objs.size:=PySem.W.hideAll_size _ _
theorem zwn(e:h.get? b=G o)(n:H b=B):(hidT h H).get? b=G o :=
 PySem.W.hideAll_get _ e λM=>by
  let q:(H b).isSome=N:=(y2a.mp M).2;rw[n]at q;simp at q
theorem of_hidT(e:(hidT h H).get? b=G o):h.get? b=G o/\H b=B:=by
 let f:h.get? b=G o:=PySem.W.of_hideAll (trk h H) e;apply⟨f,?_⟩;cases q:H b with
 |none=>rfl
 |some x =>
  let M:b∈trk h H:=y2a.mpr ⟨y0s.mpr<|y0c f,by simp[q]⟩;let z:(hidT h H).get? b=B:=PySem.W.hideAll_none (trk h H) M;rw[z]at e;cases e
noncomputable def allNews(g h:Heap)(L:Ad):List (Ad×Obj):=(List.range h.objs.size).filterMap λa=>if a=L\/(g.get? a).isSome=N then B else(h.get? a).map λo=>(a,o)
def rest(g h:Heap)(L d:Ad):List (Ad×Obj):=(allNews g h L).filter λp=>decide (p.1≠d)
structure Mod(K:Frag)(mg:Y1)(base:Heap):Prop where
 kin:K.In base
 glob:base.Ns ir mg
 blt:∃mb,base.Ns jg mb/\∀x:Str,x≠"__name__"->mb x=ja x
 nolimit:base.NoLimit
structure Cx where
 prog:ik
 w:World
 K:Frag
 mg:Str->Option Va
 base:Heap
 A:io
 Nq:List Str
 s₀:ig
 H₀:Hp
 env:Env
 outer:List Env
 stack:List Env
 ex:List Ad
 fn:Str->Bool
 calm:Bool
 pn:List<|Ad×Obj
 xe:Va->ig->Prop
noncomputable def frs(l:List Env):List Ad:=l.filterMap (·.frame)
abbrev Cx.fs(X:Cx):List Ad:=frs X.outer
def Vis(a:Scope)(x:Str):Prop:=a.names.lookup x=G .local\/a.names.lookup x=G .cell\/a.names.lookup x=G .free
def Loc(a:Scope)(x:Str):Prop:=a.names.lookup x=G .local\/a.names.lookup x=G .cell
def Look(env:Env)(h:Heap)(m:Y1)(x:Str)(u:Va):Prop :=
 (env.kindOf x=G .local/\m x=G u)\/((env.kindOf x=G .cell\/env.kindOf x=G .free)/\∃c,env.cells.lookup x=G c/\h.IsCell c (G u))
structure Cx.Ok(X:Cx):Prop where
 mod:Mod X.K X.mg X.base
 kind:X.env.scope.kind=.function
 glob:X.env.globals=ir
 blt:X.env.builtins=jg
 above:X.s₀.heap.objs.size<=X.env.locals
 inj:∀x y c,X.env.cells.lookup x=G c->X.env.cells.lookup y=G c->x=y
 has:∀x,(X.env.kindOf x=G .cell\/X.env.kindOf x=G .free)->∃c,X.env.cells.lookup x=G c
 cab:∀x c,X.fn x=N->X.env.cells.lookup x=G c->X.s₀.heap.objs.size<=c
 hd:X.calm=N->X.A.handled=B
 frames:X.A.frames=G X.stack
 stk:X.stack=X.outer\/(X.stack=X.env::X.outer/\X.env.frame=G X.env.locals)
 exf:∀b∈X.ex,b≠X.env.locals/\∀x c,X.env.cells.lookup x=G c->c≠b
 bs:∀b o,X.base.get? b=G o->X.s₀.heap.get? b=G o/\X.H₀ b=B
 bsz:X.base.objs.size<=X.s₀.heap.objs.size
 noex:∀b o,X.base.get? b=G o->b∉X.ex
 exfs:∀b∈X.ex,b∉X.fs
 funs:X.s₀.heap.FunFrames X.base X.outer
 frf:∀b∈X.fs,X.H₀ b=B
structure Inv(X:Cx)(pins:Y2)(σ:List<|Option V)(H:Hp)(s:ig):Prop where
 ok:X.Ok
 os:s.os=X.s₀.os
 bare:j8 s.gens
 base:Un X.fs X.ex X.H₀ H X.s₀.heap s.heap
 loc:∃m,s.heap.Ns X.env.locals m/\∀(i:Nat) (x:Str) (v:V),X.Nq[i]?=G x->σ[i]?=G (G v)->Vis X.env.scope x->∃u,RelV v u/\Look X.env s.heap m x u
 cell:∀x c,X.env.cells.lookup x=G c->∃v,s.heap.IsCell c v
 free:H X.env.locals=B
 freeC:∀x c,X.env.cells.lookup x=G c->H c=B
 pin:∀p∈X.pn++pins,s.heap.get? p.1=G p.2/\H p.1=B/\p.1≠X.env.locals/\p.1∉X.fs/\∀v,p.2.data ≠ .cell v
 hok:HOk X.prog X.w H s.heap
 len:σ.length=X.Nq.length
section
variable {X:Cx}{pins:Y2}{σ:List (Option V)}{H H':Hp}{s:ig}{h':Heap}
theorem Cx.Ok.nofr(ok:X.Ok)(e:X.base.get? b=G o):b∉X.fs:=λU=>by
 let:=(ok.funs.mem U).1;rw[e]at this;cases this
theorem Inv.bs(I:02 H s):∀b o,X.base.get? b=G o->s.heap.get? b=G o/\H b=B:=λb o e =>
 ⟨I.base.keep b o (I.ok.bs b o e).1 (I.ok.bs b o e).2 (I.ok.nofr e)<|I.ok.noex b o e,I.base.free b o (I.ok.bs b o e).1 (I.ok.bs b o e).2<|I.ok.noex b o e⟩
theorem Inv.bk(I:02 H s):∀b o,X.base.get? b=G o->s.heap.get? b=G o:=λb o e=>(I.bs b o e).1
theorem Inv.mod(I:02 H s):Mod X.K X.mg X.base:=I.ok.mod
theorem Inv.kIn(I:02 H s):X.K.In s.heap:=I.ok.mod.kin.keeps I.bk
theorem Inv.lt(I:02 H s):X.env.locals<s.heap.objs.size:=let⟨_,J,_⟩:=I.loc;J.lt
theorem Inv.sz(I:02 H s):X.s₀.heap.objs.size<=s.heap.objs.size:=y14 I.ok.above<|y1r I.lt
theorem Inv.nofs(I:02 H s){a:Ad}(h:s.heap.objs.size<=a):a∉X.fs:=λU=>by
 let(_,o,D,_):=I.ok.funs.mem U;show Xa (y0p (y0c D)<|y14 I.sz h)<|y1q _
theorem Inv.cne(I:02 H s):∀x c,X.env.cells.lookup x=G c->c≠X.env.locals:=λx c e z=>by
 let(v,o,D,hd):=I.cell x c e;let(m,(Q,l,ep,f,p,_),_):=I.loc;rw[z,f]at D;cases D;rw[p]at hd;cases hd
theorem Inv.funs(I:02 H s):s.heap.FunFrames X.base X.outer:=by
 let all:∀(l:List Env),(∀b∈frs l,b∈X.fs)->X.s₀.heap.FunFrames X.base l->s.heap.FunFrames X.base l:=by
  intro l
  induction l with
  |nil=>intro _ _;trivial
  |cons env r Q =>
   intro hs Y;let(M,(L,o,T,J,q,hd),D):=Y;let i:L∈X.fs:=hs L (by unfold frs;rw[y27,T];show y0a);let(a,e):=I.base.slot L o q (I.ok.frf L i) i λz=>I.ok.exfs L z i;show⟨M,⟨L,_,T,J,e,hd⟩,Q (λb U=>hs b<|by unfold frs;rw[y27,T];show y07 _ U) D⟩
 show all X.outer (λ_ U=>U) I.ok.funs
theorem Inv.stack(I:02 H s):s.heap.FunFrames X.base X.stack:=by
 rcases I.ok.stk with e|⟨e,T⟩
 .rw[e];show I.funs
 .rw[e];let(m,J,_):=I.loc;apply .cons (by rw[I.ok.kind];decide) T J ?_ I.funs;show Heap.get?_none_of_le<|y14 I.ok.bsz I.ok.above
theorem Inv.stkSub(I:02 H s):∀b∈frs X.stack,b∈X.env.locals::X.fs:=λb U=>by
 rcases I.ok.stk with e|⟨e,T⟩
 .rw[e]at U;show y07 _ U
 .rw[e]at U;unfold frs at U;rw[y27,T]at U;show U
theorem Inv.stkFree(I:02 H s):∀b∈frs X.stack,H b=B:=λb U=>by
 rcases y09.mp (I.stkSub b U)with e|U
 .rw[e];show I.free
 .let(_,o,D,_):=I.ok.funs.mem U;show I.base.free b o D (I.ok.frf b U) λz=>I.ok.exfs b z U
theorem Inv.step{g':Array jB}{t':Nat}{d':Drawn}{ch:List Ad}(I:02 H s)
  (a:∀b∈ch,(b∈X.ex\/X.s₀.heap.objs.size<=b)/\b≠X.env.locals/\(∀x c,X.env.cells.lookup x=G c->c≠b)/\∀p∈X.pn++pins,p.1≠b)
  (keep:∀b o,b≠X.env.locals->b∉X.fs->b∉ch->s.heap.get? b=G o->H b=B->h'.get? b=G o)
  (slot:∀b o,b≠X.env.locals->b∈X.fs->b∉ch->s.heap.get? b=G o->H b=B->∃T,h'.get? b=G {o with slots:=T}) (free:∀b o,b∉ch->s.heap.get? b=G o->H b=B->H' b=B)
  (there:∀b o,b∉ch->s.heap.get? b=G o->∃Q,h'.get? b=G Q)
  (tups:∀b xs,H b=G 98->H' b=G 98) (frzs:∀b o u,H b=G (.frz o u)->H' b=G (.frz o u)) (tbls:∀b qs ps,H b=G (.tbl qs ps)->H' b=G (.tbl qs ps))
  (ns:∀m,s.heap.Ns X.env.locals m->h'.Ns X.env.locals m) (hok:HOk X.prog X.w H' h') (y:j8 g') :
  02 H' {s with heap:=h',gens:=g',drawn:=d',toks:=t'}:=by
 let J:∀b o,X.s₀.heap.get? b=G o->b≠X.env.locals:=λb o e=>y0j<|y0p (y0c e) I.ok.above;let w:∀b o,X.s₀.heap.get? b=G o->b∉X.ex->b∉ch:=λb o e O U=>by
  rcases(a b U).1 with z|z
  .exact O z
  .exact Xa (y0p (y0c e) z)<|y1q _
 let L:∀x c,X.env.cells.lookup x=G c->∀v,s.heap.IsCell c v->h'.IsCell c v:=λx c e v ⟨o,D,hd⟩=>by
  let f:c∉ch:=λz=>(a c z).2.2.1 x c e rfl;by_cases C:c∈X.fs
  .let(T,q):=slot c o (I.cne x c e) C f D<|I.freeC x c e;show⟨_,q,hd⟩
  .exact⟨o,keep c o (I.cne x c e) C f D<|I.freeC x c e,hd⟩
 apply⟨I.ok,I.os,y,⟨λb o e n U O=>?_,λb o e n U O=>?_,λb o e n O=>?_,λb o e O=>?_,λb xs e=>tups b xs<|I.base.tups b xs e,λb o xs e=>frzs b o xs<|I.base.frzs b o xs e,λb qs ps e=>tbls b qs ps<|I.base.tbls b qs ps e⟩,?_,λx c e=>?_,?_,λx c e=>?_,λp E=>?_,hok,I.len⟩
 .exact keep b o (J b o e) U (w b o e O) (I.base.keep b o e n U O)<|I.base.free b o e n O
 .let(T,g):=I.base.slot b o e n U O;let(A,e2):=slot b _ (J b o e) U (w b o e O) g<|I.base.free b o e n O;show⟨A,e2⟩
 .let(Q,g):=I.base.there b o e O;show free b Q (w b o e O) g<|I.base.free b o e n O
 .let(Q,g):=I.base.there b o e O;show there b Q (w b o e O) g
 .let(m,hn,Y):=I.loc;apply⟨m,ns m hn,λi x v g e2 j=>?_⟩;let(u,r,l):=Y i x v g e2 j;apply⟨u,r,?_⟩;rcases l with l|⟨k,c,e,z⟩
  .exact .inl l
  .exact .inr ⟨k,c,e,L x c e _ z⟩
 .let(v,z):=I.cell x c e;show⟨v,L x c e v z⟩
 .let(m,(o,_,_,D,_),_):=I.loc;show free _ o (λz=>(a _ z).2.1 R) D I.free
 .let(v,o,D,hd):=I.cell x c e;show free c o (λz=>(a c z).2.2.1 x c e R) D<|I.freeC x c e
 .let(e,n,ne,M,d):=I.pin p E;let f:p.1∉ch:=λz=>(a p.1 z).2.2.2 p E rfl;show⟨keep p.1 p.2 ne M f e n,free p.1 p.2 f e n,ne,M,d⟩
theorem Inv.un{t':Nat}(I:02 H s)(u:Un X.fs [] H H' s.heap h')(hok:HOk X.prog X.w H' h'):02 H' {s with heap:=h',toks:=t'}:=by
 let(m,(o,l,ep,D,r),_):=id I.loc;let(Y,i):=u.any D I.free 06;show I.step (g':=s.gens) (d':=s.drawn) (ch:=[]) (λ_ z=>nomatch z) (λb o _ U _ e n=>u.keep b o e n U 06) (λb o _ U _ e n=>u.slot b o e n U 06) (λb o _ e n=>u.free b o e n 06) (λb o _ e=>u.there b o e 06) u.tups u.frzs u.tbls (λO M=>by
  let(Q,g,d,f,r'):=M;rw[D]at f;cases f;show⟨_,g,d,i,r'⟩) hok I.bare
theorem Inv.call{g':Array jB}{t':Nat}{d':Drawn}{ch:List Ad}(I:02 H s)(u:Un (frs X.stack) ch H H' s.heap h')(hok:HOk X.prog X.w H' h')(y:j8 g')
  (a:∀b∈ch,(b∈X.ex\/X.s₀.heap.objs.size<=b)/\b≠X.env.locals/\(∀x c,X.env.cells.lookup x=G c->c≠b)/\∀p∈X.pn++pins,p.1≠b) :
  02 H' {s with heap:=h',gens:=g',drawn:=d',toks:=t'}:=by
 let(m,(o,l,ep,D,r),_):=id I.loc;let(Y,i):=u.any D I.free λz=>(a _ z).2.1 rfl;show I.step (ch:=ch) a (λb o i U C e n=>u.keep b o e n (λz=>(y09.mp<|I.stkSub b z).elim i U) C) (λb o _ _ C e n=>u.any e n C) (λb o C e n=>u.free b o e n C) (λb o C e=>u.there b o e C) u.tups u.frzs u.tbls (λO M=>by
  let(Q,g,d,f,r'):=M;rw[D]at f;cases f;show⟨_,g,d,i,r'⟩) hok y
theorem Inv.turned{t':Nat}{it:Ad}(I:02 H s)(k:∀b o,b≠it->s.heap.get? b=G o->h'.get? b=G o)(w:H it=B)(i:it≠X.env.locals)
  (L:it∈X.ex\/X.s₀.heap.objs.size<=it) (J:∀x c,X.env.cells.lookup x=G c->c≠it) (f:∀p∈X.pn++pins,p.1≠it):02 H {s with heap:=h',toks:=t'}:=by
 let a:∀b u,H b=G u->b≠it:=λb u e z=>by rw[z,w]at e;cases e
 apply I.step (g':=s.gens) (d':=s.drawn) (ch:=[it]) (λb U=>?_) (λb o _ _ C e _=>k b o (λz=>C<|by simp[z]) e) (λb o _ _ C e _=>⟨o.slots,k b o (λz=>C<|by simp[z]) e⟩) (λ_ _ _ _ n=>n)
  (λb o C e=>⟨o,k b o (λz=>C<|by simp[z]) e⟩) (λ_ _ e=>e) (λ_ _ _ e=>e) (λ_ _ _ e=>e) (λm M=>?_) (λb u e=>?_) I.bare
 .let e:b=it:=by simpa using U
  subst e;show⟨L,i,J,f⟩
 .let(o,l,ep,D,r):=M;show⟨o,l,ep,k _ o (Ne.symm i) D,r⟩
 .refine(I.hok b u e).stay (λc v C q=>k c v ?_ q) (λ_ q=>q) (λ_ _ _ _ _ q=>q) λ_ _ q=>q;rcases C with z|z
  .rw[z];show a b u e
  .exact a c _ z
theorem Inv.tok(I:02 H s)(t:Nat):02 H {s with toks:=t}:=I.un (h':=s.heap) (t':=t) Un.refl I.hok
theorem Inv.kept(I:02 H s)(k:∀b u,s.heap.get? b=G u->h'.get? b=G u):02 H {s with heap:=h',toks:=t'}:=I.un (Un.kept k)<|I.hok.kept k
theorem Inv.laid{a:Ad}{o:HO}{t':Nat}(I:02 H s)(k:∀b u,s.heap.get? b=G u->h'.get? b=G u)(E:s.heap.objs.size<=a)(new:ObjOk X.prog X.w (upd H a o) h' a o):
  02 (upd H a o) {s with heap:=h',toks:=t'}:=I.un (Un.laid k E<|I.hok.fresh E)<|I.hok.laid k E new
theorem Inv.write(I:02 H s)(l:Mut<|H x)(L:e=x\/H e=G (.own x))(k:∀b u,b≠e->s.heap.get? b=G u->h'.get? b=G u)(f:∃u,h'.get? e=G u)
  (new:ObjOk X.prog X.w (upd H x o) h' x o):02 (upd H x o) {s with heap:=h',toks:=t'}:=I.un (Un.write l L k f)<|I.hok.write l L k f new
theorem Inv.pins_of(I:02 H s)(h:∀p∈a,s.heap.get? p.1=G p.2/\H p.1=B/\p.1≠X.env.locals/\p.1∉X.fs/\∀v,p.2.data ≠ .cell v):Inv X a σ H s :=
 ⟨I.ok,I.os,I.bare,I.base,I.loc,I.cell,I.free,I.freeC,λp E=>(y1c.mp E).elim (λz=>I.pin p<|y3j _ z)<|h p,I.hok,I.len⟩
theorem znz{Nq:List Str}(hN:Nq.Nodup){i j:Nat}{x:Str}(a:Nq[i]?=G x)(b:Nq[j]?=G x):i=j:=by
 let(L,g):=y0g.mp a;let(J,C):=y0g.mp b;show(List.getElem_inj hN).mp<|g.trans C.symm
theorem zjw(I:02 H s)(hN:X.Nq.Nodup)(hi:X.Nq[i]?=G x)(O:Loc X.env.scope x)(r:RelV v u)
  (h:∀s',Inv X pins (σ.set i<|G v) H s'->(∃a,Heap.SameBut a s.heap s'.heap/\(a=X.env.locals\/X.env.cells.lookup x=G a))->Q () s') (T:X.fn x=N\/X.env.scope.names.lookup x=G .local:=by first|show .inl rfl|show .inr rfl|assumption):wpAny M A (jR X.env x u) Q E s:=by
 let(m,hn,Y):=id I.loc;let hcls:(X.env.scope.kind ==.class||(X.env.scope.kind ==.module&&X.env.locals !=X.env.globals))=Fa:=by rw[I.ok.kind];rfl
 let l0:i<σ.length:=by rw[I.len];show(y0g.mp hi).1
 let cne:=I.cne;let l:∀{a:Ad} {h':Heap},(∃o,s.heap.get? a=G o/\H a=B)->Heap.SameBut a s.heap h'->HOk X.prog X.w H h':=λ{a h'} ha hs b ob e=>by
  let(_,_,J):=ha;apply(I.hok b ob e).stay (λc w' C q=>(hs.2 c ?_).trans q) (λ_ q=>q) (λ_ _ _ _ _ q=>q) λ_ _ q=>q;rintro rfl;rcases C with rfl|C
  .rw[J]at e;cases e
  .rw[J]at C;cases C
 rcases O with hk|hk
 .refine wpAny_storeName_local hk hn (λh' hn' hs=>?_) hcls;let(oL,_,_,hoL,_):=id hn;apply h _ ⟨I.ok,I.os,I.bare,⟨λb o e n U O=>?_,λb o e n U O=>?_,I.base.free,λb o e O=>?_,I.base.tups,I.base.frzs,I.base.tbls⟩,⟨_,hn',λj y D g e2 e3=>?_⟩,λy c e=>?_,I.free,I.freeC,λp hp=>?_,l ⟨oL,hoL,I.free⟩ hs,by simpa using I.len⟩ ⟨_,hs,.inl R⟩
  .exact(hs.2 b<|y0j (y0p (y0c e) I.ok.above)).trans<|I.base.keep b o e n U O
  .let(sl,g):=I.base.slot b o e n U O;show⟨sl,(hs.2 b<|y0j (y0p (y0c e) I.ok.above)).trans g⟩
  .let(o',g):=I.base.there b o e O;show⟨o',(hs.2 b<|y0j (y0p (y0c e) I.ok.above)).trans g⟩
  .by_cases hj:j=i
   .subst hj;rw[hi]at g;cases g;rw[y4j l0]at e2;cases e2;show⟨u,r,.inl ⟨hk,by simp⟩⟩
   .rw[List.getElem?_set_ne (Ne.symm hj)]at e2;let(u',r',q):=Y j y D g e2 e3;apply⟨u',r',?_⟩;rcases q with⟨k,e⟩|⟨k,c,e,z⟩
    .refine .inl ⟨k,?_⟩;let:y≠x:=λe=>hj<|znz hN g (e▸hi);simp[this,e]
    .exact .inr ⟨k,c,e,z.sameBut hs<|cne y c e⟩
  .let(w',z):=I.cell y c e;show⟨w',z.sameBut hs<|cne y c e⟩
  .let(e,n,ne,nf,d):=I.pin p hp;show⟨(hs.2 p.1 ne).trans e,n,ne,nf,d⟩
 .let bi:X.fn x=N:=by
   rcases T with z|z
   .exact z
   .rw[z]at hk;cases hk
  let(c,C):=I.ok.has x<|.inl hk;let(w',z):=I.cell x c C;apply wpAny_storeName_cell I.ok.kind hk C z λh' L hs=>?_;let(oc,f,hocd):=id z;apply h {s with heap:=h'} ⟨I.ok,I.os,I.bare,⟨λb o e n U O=>?_,λb o e n U O=>?_,I.base.free,λb o e O=>?_,I.base.tups,I.base.frzs,I.base.tbls⟩,⟨m,hn.sameBut hs<|Ne.symm (cne x c C),λj y D g e2 e3=>?_⟩,λy c' e=>?_,I.free,I.freeC,λp hp=>?_,l ⟨oc,f,I.freeC x c C⟩ hs,by simpa using I.len⟩ ⟨c,hs,.inr C⟩
  .exact(hs.2 b<|y0j (y0p (y0c e)<|I.ok.cab x c bi C)).trans<|I.base.keep b o e n U O
  .let(sl,g):=I.base.slot b o e n U O;show⟨sl,(hs.2 b<|y0j (y0p (y0c e)<|I.ok.cab x c bi C)).trans g⟩
  .let(o',g):=I.base.there b o e O;show⟨o',(hs.2 b<|y0j (y0p (y0c e)<|I.ok.cab x c bi C)).trans g⟩
  .by_cases hj:j=i
   .subst hj;rw[hi]at g;cases g;rw[y4j l0]at e2;cases e2;show⟨u,r,.inr ⟨.inl hk,c,C,L⟩⟩
   .rw[List.getElem?_set_ne (Ne.symm hj)]at e2;let(u',r',q):=Y j y D g e2 e3;apply⟨u',r',?_⟩;rcases q with q|⟨k,c',e,z'⟩
    .exact .inl q
    .refine .inr ⟨k,c',e,z'.sameBut hs ?_⟩;rintro rfl;show hj<|znz hN g (I.ok.inj _ _ _ e C▸hi)
  .by_cases hcc:c'=c
   .subst hcc;show⟨_,L⟩
   .let(w,z2):=I.cell y c' e;show⟨w,z2.sameBut hs hcc⟩
  .let(e,n,ne,nf,d):=I.pin p hp;apply⟨(hs.2 p.1 ?_).trans e,n,ne,nf,d⟩;intro q;rw[q,f]at e;let q':oc=p.2:=Option.some.inj e;show d w' (by rw[←q'];show hocd)
theorem zde(I:02 H s)(hN:X.Nq.Nodup)(hi:X.Nq[i]?=G x)(O:Loc X.env.scope x)(r:RelV v u)
  (h:∀s',Inv X pins (σ.set i<|G v) H s'->Q () s') (T:X.fn x=N\/X.env.scope.names.lookup x=G .local:=by first|show .inl rfl|show .inr rfl|assumption):wpAny M A (jR X.env x u) Q E s :=
 zjw I hN hi O r (λs' U _=>h s' U) T
theorem Inv.call'{ch:List Ad}(I:02 H s)(D:s'.os=s.os)(u:Un (frs X.stack) ch H H' s.heap s'.heap)(hok:HOk X.prog X.w H' s'.heap)(y:j8 s'.gens)
  (a:∀b∈ch,(b∈X.ex\/X.s₀.heap.objs.size<=b)/\b≠X.env.locals/\(∀x c,X.env.cells.lookup x=G c->c≠b)/\∀p∈X.pn++pins,p.1≠b):02 H' s':=by
 let(h',g',d',t',Q):=s';let e:Q=s.os:=D;subst e;show I.call (g':=g') (t':=t') (d':=d') u hok y a
end
abbrev XK:=Va->Option Ad->Hp->Prop
abbrev St:=List<|Option V
abbrev VK:=V->Hp->Prop
abbrev TE:=St->Hp->VK->Prop
abbrev TT:=St->Hp->(Bool->Hp->Prop)->Prop
abbrev TA:=St->Hp->(List V->Hp->Prop)->Prop
structure Ends where
 nx:St->Hp->Prop
 rt:VK
 bk:St->Hp->Prop:=λ_ _=>False
 ct:St->Hp->Prop:=λ_ _=>False
abbrev TS:=Ends->St->Hp->Prop
def EP(X:Cx)(pins:Y2)(σ:St)(Q:VK)(u:Va)(s':ig):Prop:=∃v H',02 H' s'/\RelV v u/\Q v H'
def TP(X:Cx)(pins:Y2)(σ:St)(Q:Bool->Hp->Prop)(b:Bool)(s':ig):Prop:=∃H',02 H' s'/\Q b H'
def AP(X:Cx)(pins:Y2)(σ:St)(Q:List V->Hp->Prop)(us:List Va)(s':ig):Prop:=∃vs H',02 H' s'/\Vals vs us/\Q vs H'
def SP(X:Cx)(pins:Y2)(D:Ends)(f:Flow)(s':ig):Prop :=
 match f with
 |.next=>∃M H',Inv X pins M H' s'/\D.nx M H'
 |.brk=>∃M H',Inv X pins M H' s'/\D.bk M H'
 |.cont=>∃M H',Inv X pins M H' s'/\D.ct M H'
 |.ret u=>∃v M H',Inv X pins M H' s'/\RelV v u/\D.rt v H'
def PE(X:Cx)(e:Expr)(t:TE):Prop :=
 ∀(pins:Y2) (s:ig) (σ:St) (H:Hp) (Q:VK),02 H s->t σ H Q->wpAny 20 X.A (eval e X.env) 028 X.xe s
def PT(X:Cx)(e:Expr)(t:TT):Prop :=
 ∀(pins:Y2) (s:ig) (σ:St) (H:Hp) (Q:Bool->Hp->Prop),02 H s->t σ H Q->wpAny 20 X.A (isTrue e X.env<|eval e X.env) (TP X pins σ Q) X.xe s
def PW(X:Cx)(e:Expr)(t:TT):Prop :=
 ∀(f:Sem Va) (pins:Y2) (s:ig) (σ:St) (H:Hp) (Q:Bool->Hp->Prop),02 H s->t σ H Q->wpAny 20 X.A (isTrue e X.env f) (TP X pins σ Q) X.xe s
theorem PW.pt(h:PW X e t):PT X e t:=h _
def PA(X:Cx)(l:List Expr)(t:TA):Prop :=
 ∀(pos:Pos) (pins:Y2) (s:ig) (σ:St) (H:Hp) (Q:List V->Hp->Prop),02 H s->t σ H Q->wpAny 20 X.A (spliced<|jh pos (iq l X.env)) (AP X pins σ Q) X.xe s
def PS(X:Cx)(st:Stmt)(t:TS):Prop :=
 ∀(pins:Y2) (s:ig) (σ:St) (H:Hp) (D:Ends),02 H s->t D σ H->wpAny 20 X.A (exec st X.env) (SP X pins D) X.xe s
def PSs(X:Cx)(st:List Stmt)(t:TS):Prop :=
 ∀(pins:Y2) (s:ig) (σ:St) (H:Hp) (D:Ends),02 H s->t D σ H->wpAny 20 X.A (execs st X.env) (SP X pins D) X.xe s
theorem thn{q:Type}{t:Sem q}{Q c:q->ig->Prop}{M:Model}{A:io}{E:Y0}{s:ig}(h:wpAny M A t Q E s)(g:∀a s,Q a s->c a s):wpAny M A t c E s:=iw h g λ_ _ x=>x
section
variable {X:Cx}
def tVar(i:Nat):TE:=λσ H Q=>match σ[i]? with
 |some (G v)=>Q v H
 |_=>False
theorem zx5(h:tVar i σ H Q):∃v,σ[i]?=G (G v)/\Q v H:=by
 unfold tVar at h;split at h
 .rename_i e;show⟨_,e,h⟩
 .exact h.elim
theorem zfv(e:σ[i]?=G (G v))(h:Q v H):tVar i σ H Q:=by
 unfold tVar;rw[e];show h
def tC(v:V):TE:=λ_ H Q=>Q v H
theorem zhn{i:Nat}{x:Str}{pos:Pos}(hN:X.Nq[i]?=G x)(hv:Vis X.env.scope x)(hd:010=Fa:=by decide)(hcd:046=Fa:=by decide):PE X (.Name x pos) (tVar i):=by
 intro pins s σ H Q I h;let(v,e,h):=zx5 h;let(m,J,Y):=I.loc;let(u,r,l):=Y i x v hN e hv;let fin:EP X pins σ Q u s:=⟨v,H,I,r,h⟩;rcases l with⟨M,A⟩|⟨M,c,C,a⟩
 .exact wpAny_Name (wpAny_loadName_local I.ok.kind M J A fin) hd
 .rcases M with M|M
  .exact wpAny_Name (wpAny_loadName_cell I.ok.kind M C a fin) hd
  .exact wpAny_Name (wpAny_loadName_free I.ok.kind M C a fin hcd) hd
theorem zad:PE X (.Constant (.int i) j pos) (tC<|.int i):=λ_ _ _ H _ I h=>wpAny_Constant_int ⟨.int i,H,I.tok _,⟨_,R⟩,h⟩
theorem zbj:PE X (.Constant (.bool b) j pos) (tC<|.bl b):=λ_ _ _ H _ I h=>Constant_bool ⟨.bl b,H,I,R,h⟩
theorem zao:PE X (.Constant (.str x) j pos) (tC<|.str x):=λ_ _ _ H _ I h=>Calls.Constant_str ⟨.str x,H,I.tok _,⟨_,R⟩,h⟩
def Gl(X:Cx)(x:Str):Prop:=X.env.kindOf x=G .globalImplicit
theorem zd2{E:Y0}{pins:Y2}{s:ig}{σ:St}{H:Hp}{x:Str}{u:Va}{pos:Pos}{Q:Y0}(I:02 H s)(y:Gl X x)(M:X.mg x=G u)(h:Q u s)
  (hd:010=Fa:=by decide):wpAny 20 X.A (eval (.Name x pos) X.env) Q E s :=
 Calls.Name_function_global I.ok.kind y (Calls.loadGlobal_global (by rw[I.ok.glob];show I.mod.glob.keeps I.bk) M h) hd
theorem zdq{E:Y0}{pins:Y2}{s:ig}{σ:St}{H:Hp}{x:Str}{u:Va}{pos:Pos}{Q:Y0}(I:02 H s)(y:Gl X x)(M:X.mg x=B)(hv:ja x=G u)(h:Q u s)
  (w:x≠"__name__":=by decide) (hd:010=Fa:=by decide):wpAny 20 X.A (eval (.Name x pos) X.env) Q E s:=by
 let(mb,L,J):=I.mod.blt;show Calls.Name_function_global I.ok.kind y (Calls.loadGlobal_builtin (by rw[I.ok.glob];show I.mod.glob.keeps I.bk) M (by rw[I.ok.blt];show L.keeps I.bk) ((J x w).trans hv) h) hd
theorem zyz(y:Gl X x)(M:X.mg x=G u)(r:RelV v u)(hd:010=Fa:=by decide):PE X (.Name x pos) (tC v) :=
 λ_ _ _ H _ I h=>zd2 I y M ⟨v,H,I,r,h⟩ hd
theorem zcp{x:Str}{v:V}{u:Va}{pos:Pos}(y:Gl X x)(M:X.mg x=B)(hv:ja x=G u)(r:RelV v u)(J:x≠"__name__":=by decide)(hd:010=Fa:=by decide):PE X (.Name x pos) (tC v) :=
 λ_ _ _ H _ I h=>zdq I y M hv ⟨v,H,I,r,h⟩ J hd
variable {a b:Expr}{ta tb:TE}{pos:Pos}
def asI(x:V)(k:Int->Prop):Prop:=match x with
 |.int i=>k i
 |_=>False
theorem zdr(h:asI x k):∃i,x=.int i/\k i:=by
 cases x<;>first|show⟨_,R,h⟩|show False.elim h
theorem asI_l:asI (.int i) k=k i:=rfl
def asR(x:V)(k:Ad->Prop):Prop:=match x with
 |.ref i=>k i
 |_=>False
theorem zcv(h:asR x k):∃i,x=.ref i/\k i:=by
 cases x<;>first|show⟨_,R,h⟩|show False.elim h
theorem asR_l:asR (.ref i) k=k i:=rfl
def asS(x:V)(k:Str->Prop):Prop:=match x with
 |.str i=>k i
 |_=>False
theorem asS_ex(h:asS x k):∃i,x=.str i/\k i:=by
 cases x<;>first|show⟨_,R,h⟩|show False.elim h
theorem asS_l:asS (.str i) k=k i:=rfl
def asB(x:V)(k:Bool->Prop):Prop:=match x with
 |.bl i=>k i
 |_=>False
theorem zuf(h:asB x k):∃i,x=.bl i/\k i:=by
 cases x<;>first|show⟨_,R,h⟩|show False.elim h
theorem asB_l:asB (.bl i) k=k i:=rfl
def tB(t:TE):TT:=λσ H Q=>t σ H λx H1=>asB x λc=>Q c H1
theorem zbr(h:PE X e t)(L:∀f,isTrue e X.env f=(do let v ←f;standAt e.pos;holding [v] (truthy v)):=by intro _;rfl):PT X e (tB t):=by
 intro pins s σ H Q I j;apply isTrue_plain (thn (h pins s σ H _ I j) λv s1 zz=>ex5 zz λx H1 I1 r1 E=>?_)<|L _;let(d,rfl,q):=zuf E;cases r1;show iE ⟨H1,I1,q⟩
variable {tA tB':TT}{rest:List Expr}
def tAnd(t u:TT):TT:=λσ H Q=>t σ H λc H1=>if c=N then u σ H1 Q else Q Fa H1
def tOr(t u:TT):TT:=λσ H Q=>t σ H λc H1=>if c=N then Q N H1 else u σ H1 Q
def tNot(t:TT):TT:=λσ H Q=>t σ H λc H1=>Q (!c) H1
theorem zl8(d:PT X a tA):PW X (.BoolOp .And [a] pos) tA:=by
 intro f pins s σ H Q I h;apply isTrue_and<|thn (d pins s σ H Q I h) λc s1 e=>?_;cases c with
 |true=>show isTrue_and_nil e
 |false=>show e
theorem zf8(d:PT X a tA):PW X (.BoolOp .Or [a] pos) tA:=by
 intro f pins s σ H Q I h;apply isTrue_or<|thn (d pins s σ H Q I h) λc s1 e=>?_;cases c with
 |false=>show isTrue_or_nil e
 |true=>show e
theorem zrd(ha:PT X a tA)(U:PW X (.BoolOp .And (b::rest) pos) tB'):PW X (.BoolOp .And (a::b::rest) pos) (tAnd tA tB'):=by
 intro f pins s σ H Q I h;apply isTrue_and<|thn 035 λc s1 ⟨H1,I1,E⟩=>?_;cases c with
 |true=>show U f pins s1 σ H1 Q I1 E
 |false=>show⟨H1,I1,E⟩
theorem zim(ha:PT X a tA)(U:PW X (.BoolOp .Or (b::rest) pos) tB'):PW X (.BoolOp .Or (a::b::rest) pos) (tOr tA tB'):=by
 intro f pins s σ H Q I h;apply isTrue_or<|thn 035 λc s1 ⟨H1,I1,E⟩=>?_;cases c with
 |true=>show⟨H1,I1,E⟩
 |false=>show U f pins s1 σ H1 Q I1 E
theorem zct(d:PT X a tA):PT X (.UnaryOp .Not a pos) (tNot tA):=by
 intro pins s σ H Q I h;show isTrue_not<|d pins s σ H (λc H1=>Q (!c) H1) I h
def tAndV(ta tb:TE):TE:=λσ H Q=>ta σ H λx H1=>∃c,x=.bl c/\if c=N then tb σ H1 Q else Q (.bl Fa) H1
def tOrV(ta tb:TE):TE:=λσ H Q=>ta σ H λx H1=>∃c,x=.bl c/\if c=N then Q (.bl N) H1 else tb σ H1 Q
def tNotV(ta:TE):TE:=λσ H Q=>ta σ H λx H1=>∃c,x=.bl c/\Q (.bl<|!c) H1
theorem zcz(h:PE X a t):PE X (.BoolOp Y [a] pos) t:=λpins s σ H Q I j=>BoolOp_one<|h pins s σ H Q I j
theorem zd9(ha:PE X a ta)(U:PE X (.BoolOp .And (b::rest) pos) tb):PE X (.BoolOp .And (a::b::rest) pos) (tAndV ta tb):=by
 intro pins s σ H Q I h;apply BoolOp_and<|thn 035 λv s1 zz=>ex5 zz λx H1 I1 r1 E=>?_;let(c,rfl,E):=E;cases r1;apply iE ?_;cases c with
 |true=>show U pins s1 σ H1 Q I1 E
 |false=>show⟨.bl Fa,H1,I1,R,E⟩
theorem zyy(ha:PE X a ta)(U:PE X (.BoolOp .Or (b::rest) pos) tb):PE X (.BoolOp .Or (a::b::rest) pos) (tOrV ta tb):=by
 intro pins s σ H Q I h;apply BoolOp_or<|thn 035 λv s1 zz=>ex5 zz λx H1 I1 r1 E=>?_;let(c,rfl,E):=E;cases r1;apply iE ?_;cases c with
 |false=>show U pins s1 σ H1 Q I1 E
 |true=>show⟨.bl N,H1,I1,R,E⟩
theorem zxf(ha:PE X a ta):PE X (.UnaryOp .Not a pos) (tNotV ta):=by
 intro pins s σ H Q I h;apply UnaryOp_<|thn 035 λv s1 zz=>ex5 zz λx H1 I1 r1 E=>?_;let(c,rfl,E):=E;cases r1;show not_of<|iE ⟨.bl<|!c,H1,I1,R,E⟩
def tIf(t:TT)(ta tb:TE):TE:=λσ H Q=>t σ H λc H1=>if c=N then ta σ H1 Q else tb σ H1 Q
theorem zvj(C:PT X c tA)(o:PE X a ta)(U:PE X b tb):PE X (.IfExp c a b pos) (tIf tA ta tb):=by
 intro pins s σ H Q I h;apply wpAny_IfExp<|thn (C pins s σ H _ I h) λd s1 ⟨H1,I1,E⟩=>?_;cases d with
 |true=>show o pins s1 σ H1 Q I1 E
 |false=>show U pins s1 σ H1 Q I1 E
end
def SqL(K:Frag)(H:Hp)(a:Ad)(xs:List V):Prop :=
 Rd H a 91\/
  ∃(o:Obj) (its:Array Va) (n:Nat),K.lookup a=G o/\o.cls=.type "list"/\o.dict=B/\o.data=.seq its n/\its.size<=ii/\Vals xs its.toList
def SqT(K:Frag)(H:Hp)(a:Ad)(xs:List V):Prop :=
 Rd H a 98\/
  ∃(o:Obj) (its:Array Va) (n:Nat),K.lookup a=G o/\o.cls=.type "tuple"/\o.data=.seq its n/\its.size<=ii/\Vals xs its.toList
noncomputable def absV:Va->Option V
 |.none=>G .non
 |.bool b=>G<|.bl b
 |.int i _=>G<|.int i
 |.str x _=>G<|.str x
 |.bytes b _=>G<|.byt b
 |.float b _=>G<|.flt b
 |.ref a=>G 07
 |.type n=>G<|.ty n
 |_=>B
theorem RelV.abs(r:RelV x u):absV u=G x:=by
 cases x with
 |non=>cases r;rfl
 |bl _=>cases r;rfl
 |int _=>let(t,rfl):=r;rfl
 |str _=>let(t,rfl):=r;rfl
 |byt _=>let(t,rfl):=r;rfl
 |flt _=>let(t,rfl):=r;rfl
 |ref _=>cases r;rfl
 |ty _=>cases r;rfl
theorem RelV.inj(r:RelV x u)(q:RelV y u):x=y:=Option.some.inj<|r.abs.symm.trans q.abs
theorem Vals.inj:∀{xs ys:List V} {us:List Va},Vals xs us->Vals ys us->xs=ys
 |_,_,_,.nil,.nil=>rfl
 |_,_,_,.cons r t,.cons r' t'=>by rw[r.inj r',Vals.inj t t']
section
variable {X:Cx}{pins:Y2}{σ:St}{H:Hp}{s:ig}{a:Ad}{xs ys:List V}
theorem SqL.of{K:Frag}(h:H a=G 91):SqL K H a xs:=.inl<|.inl h
theorem SqT.of{K:Frag}(h:H a=G 98):SqT K H a xs:=.inl<|.inl h
theorem Inv.list(I:02 H s)(h:SqL X.K H a xs):∃its:List Va,Vals xs its/\PlainL s.heap a its.toArray/\xs.length<=ii:=by
 rcases h with h|⟨o,its,n,M,C,hd,hs,hz,r⟩
 .let(z,its,n,r,e):=h.ok I.hok;show⟨its,r,⟨_,n,e,R,R,R⟩,z⟩
 .refine⟨its.toList,r,⟨o,n,I.kIn a o M,C,hd,by simpa using hs⟩,?_⟩;let e:=r.length;simp only[y11]at e;omega
theorem Inv.tuple(I:02 H s)(h:SqT X.K H a xs):∃its:List Va,Vals xs its/\IsTup s.heap a its.toArray/\xs.length<=ii:=by
 rcases h with h|⟨o,its,n,M,C,hs,hz,r⟩
 .let(z,its,r,p):=h.ok I.hok;show⟨its,r,p,z⟩
 .refine⟨its.toList,r,⟨o,I.kIn a o M,C,n,by simpa using hs⟩,?_⟩;let e:=r.length;simp only[y11]at e;omega
theorem Inv.list_inj(I:02 H s)(h:SqL X.K H a xs)(h':SqL X.K H a ys):xs=ys:=by
 let(its,r,(o,n,e,_,_,d),_):=I.list h;let(its',r',(Q,n',f,_,_,d'),_):=I.list h';rw[e]at f;cases f;rw[d]at d';injection d' with J _
 let:its=its':=by simpa using congrArg Array.toList J
 subst this;show r.inj r'
theorem Inv.tuple_inj(I:02 H s)(h:SqT X.K H a xs)(h':SqT X.K H a ys):xs=ys:=by
 let(its,r,(o,e,_,n,d),_):=I.tuple h;let(its',r',(Q,f,_,n',d'),_):=I.tuple h';rw[e]at f;cases f;rw[d]at d';injection d' with J _
 let:its=its':=by simpa using congrArg Array.toList J
 subst this;show r.inj r'
end
noncomputable abbrev Cx.wish(X:Cx)(E:Y0):Cx:={X with xe:=E}
noncomputable abbrev Cx.nox(X:Cx):Cx:=X.wish λ_ _=>False
theorem Cx.Ok.wish{X:Cx}(ok:X.Ok)(E:Y0):(X.wish E).Ok :=
 078
theorem Cx.Ok.unwish{X:Cx}(ok:(X.wish E).Ok):X.Ok :=
 078
section
variable {X:Cx}{pins:Y2}{σ:St}{H:Hp}{s:ig}{E:Y0}
theorem Inv.wish(I:02 H s)(E:Y0):Inv (X.wish E) pins σ H s:=⟨I.ok.wish E,I.os,I.bare,I.base,I.loc,I.cell,I.free,I.freeC,I.pin,I.hok,I.len⟩
theorem Inv.unwish(I:Inv (X.wish E) pins σ H s):02 H s:=⟨I.ok.unwish,I.os,I.bare,I.base,I.loc,I.cell,I.free,I.freeC,I.pin,I.hok,I.len⟩
theorem SP.unwish(h:SP (X.wish E) pins D f s'):SP X pins D f s':=by
 cases f with
 |next=>let(M,H',I,q):=h;show⟨M,H',I.unwish,q⟩
 |brk=>let(M,H',I,q):=h;show⟨M,H',I.unwish,q⟩
 |cont=>let(M,H',I,q):=h;show⟨M,H',I.unwish,q⟩
 |ret u=>let(v,M,H',I,r,q):=h;show⟨v,M,H',I.unwish,r,q⟩
theorem PSs.nox{st:List Stmt}{t:TS}(h:PSs X.nox st t):PSs X st t:=λpins s σ H D I j =>
 iw (h pins s σ H D (I.wish _) j) (λ_ _ q=>q.unwish) λ_ _ z=>False.elim z
end
section
variable {X:Cx}{st:Stmt}{rest:List Stmt}{t u:TS}{e:Expr}{te:TE}{pos:Pos}
def tNext:TS:=λD σ H=>D.nx σ H
def tSeq(t u:TS):TS:=λD σ H=>t {D with nx:=u D} σ H
theorem zaj:PSs X [] tNext:=λ_ _ σ H _ I h=>jp ⟨σ,H,I,h⟩
theorem zab(L:PS X st t)(J:PSs X rest u):PSs X (st::rest) (tSeq t u):=by
 intro pins s σ H D I h;apply iU<|thn (L pins s σ H {D with nx:=u D} I h) λf s1 q=>?_;cases f with
 |next =>
  let(M,H',U,q):=q;show J pins s1 M H' D U q
 |ret v=>show q
 |brk=>show q
 |cont=>show q
theorem zac(L:PS X st t):PSs X [st] t:=by
 intro pins s σ H D I h;apply iU<|thn (L pins s σ H D I h) λf s1 q=>?_;cases f with
 |next=>show jp q
 |ret v=>show q
 |brk=>show q
 |cont=>show q
def tBreak:TS:=λD σ H=>D.bk σ H
def tCont:TS:=λD σ H=>D.ct σ H
theorem Inv.quiet{pins:Y2}{σ:St}{H:Hp}{s:ig}(I:02 H s):interactive X.env=Fa:=by simp[interactive,I.ok.kind]
def tDrop(te:TE):TS:=λD σ H=>te σ H λ_ H1=>D.nx σ H1
theorem zbm(L:PE X e te)(hs:jS e B pos.line X.env=pure Fa:=by rfl):PS X (.Expr e pos) (tDrop te):=by
 intro pins s σ H D I h;show wpAny_Expr_any (thn (L pins s σ H _ I h) λv s1 zz=>ex5 zz λx H1 I1 r1 E=>⟨σ,H1,I1,E⟩) I.quiet hs
def tRet(te:TE):TS:=λD σ H=>te σ H D.rt
theorem zag(L:PE X e te):PS X (.Return (G e) pos) (tRet te):=by
 intro pins s σ H D I h;show wpAny_Return_some<|thn (L pins s σ H _ I h) λv s1 zz=>ex5 zz λx H1 I1 r1 E=>⟨x,σ,H1,I1,r1,E⟩
def tRetN:TS:=λD _ H=>D.rt .non H
def tIfS(c:TT)(t u:TS):TS:=λD σ H=>c σ H λb H1=>if b=N then t D σ H1 else u D σ H1
theorem zaz(C:PT X c l)(o:PSs X a t)(U:PSs X b u):PS X (.If c a b pos) (tIfS l t u):=by
 intro pins s σ H D I h;apply wpAny_If<|thn (C pins s σ H _ I h) λd s1 ⟨H1,I1,E⟩=>?_;cases d with
 |true=>show o pins s1 σ H1 D I1 E
 |false=>show U pins s1 σ H1 D I1 E
def tNever:TS:=λ_ _ _=>False
theorem zb3:PS X st tNever:=λ_ _ _ _ _ _ h=>h.elim
end
abbrev TG:=V->St->Hp->(St->Hp->Prop)->Prop
abbrev TGs:=List V->St->Hp->(St->Hp->Prop)->Prop
def PG(X:Cx)(a:Expr)(t:TG):Prop :=
 ∀(pins:Y2) (s:ig) (σ:St) (H:Hp) (v:V) (u:Va) (Q:St->Hp->Prop),02 H s->RelV v u->t v σ H Q->
  wpAny 20 X.A (assign a X.env u) (λ_ s'=>∃M H',Inv X pins M H' s'/\Q M H') X.xe s
def PGs(X:Cx)(ts:List Expr)(t:TGs):Prop :=
 ∀(pins:Y2) (s:ig) (σ:St) (H:Hp) (vs:List V) (us:List Va) (Q:St->Hp->Prop),02 H s->Vals vs us->t vs σ H Q->
  wpAny 20 X.A (assignInOrder ((jr ts X.env).map (·.2)) us) (λ_ s'=>∃M H',Inv X pins M H' s'/\Q M H') X.xe s
abbrev TSet:=V->V->V->Hp->(Hp->Prop)->Prop
def PSet(X:Cx)(t:TSet):Prop :=
 ∀(pins:Y2) (s:ig) (σ:St) (H:Hp) (o i v:V) (c iv u:Va) (Q:Hp->Prop),02 H s->RelV o c->RelV i iv->RelV v u->t o i v H Q->
  wpAny 20 X.A (setItem c iv u) (λ_ s'=>∃H',02 H' s'/\Q H') X.xe s
abbrev TIp:=V->V->Hp->VK->Prop
def PIp(X:Cx)(Y:Operator)(t:TIp):Prop :=
 ∀(pins:Y2) (s:ig) (σ:St) (H:Hp) (x y:V) (v u:Va) (Q:VK),02 H s->RelV x v->RelV y u->t x y H Q->
  wpAny 20 X.A (inplaceOp Y v u) 028 X.xe s
section
variable {X:Cx}{pos:Pos}
def gName(i:Nat):TG:=λv σ H Q=>Q (σ.set i<|G v) H
theorem zai(hN:X.Nq.Nodup)(hi:X.Nq[i]?=G x)(O:Loc X.env.scope x)(T:X.fn x=N\/X.env.scope.names.lookup x=G .local:=by first|show .inl rfl|show .inr rfl|assumption):PG X (.Name x pos) (gName i):=by
 intro pins s σ H v u Q I r h;show wpAny_assign_Name<|zde I hN hi O r (λs' U=>⟨_,H,U,h⟩) T
def gNil:TGs:=λvs σ H Q=>vs=[]/\Q σ H
def gCons(t:TG)(u:TGs):TGs:=λvs σ H Q=>∃v r,vs=v::r/\t v σ H λM H'=>u r M H' Q
theorem zdz:PGs X [] gNil:=by
 intro pins s σ H vs us Q I r h;let(e,h):=h;subst e;cases r;show assignInOrder_nil ⟨σ,H,I,h⟩
theorem zbe(L:PG X e t)(J:PGs X l u)
  (hs:(jr (e::l) X.env).map (·.2)=assign e X.env::(jr l X.env).map (·.2):=by rfl):PGs X (e::l) (gCons t u):=by
 intro pins s σ H vs us Q I r h;let(v,c,g,h):=h;subst g;cases r with
 |cons r f =>
  rw[hs];apply assignInOrder_cons<|thn (L pins s σ H _ _ _ I r h) λ_ s1 ⟨a,H1,I1,E⟩=>?_;show J pins s1 a H1 _ _ Q I1 f E
def gTup(K:Frag)(n:Nat)(t:TGs):TG:=λv σ H Q=>∃a xs,v=.ref a/\SqT K H a xs/\xs.length=n/\t xs σ H Q
theorem pg_tup{l:List Expr}{k:Nat}{t:TGs}{n:Nat}(hc:X.calm=N)(h:PGs X l t)
  (J:(jr l X.env).length=n:=by rfl) (M:(jr l X.env).findIdx? (·.1)=B:=by rfl):PG X (.Tuple l k pos) (gTup X.K n t):=by
 intro pins s σ H v u Q I r j;let(a,xs,g,A,Y,j):=j;subst g;cases r;let(its,d,p,hz):=I.tuple A;apply assign_Tuple_tuple 021 p (by simp[J,←Y,d.length]) M λh' O=>?_;let I1:02 H {s with heap:=h'}:=I.kept (t':=s.toks) λb o e=>O b o (y0j<|y0c e) e;show h pins _ σ H xs _ Q I1 (by simpa using d) j
def gSub(e ti:TE)(t:TSet):TG:=λv σ H Q=>e σ H λo H1=>ti σ H1 λi H2=>t o i v H2 λH3=>Q σ H3
theorem pg_sub(D:PE X o e)(hi:PE X i ti)(hs:PSet X t)
  (d:∀v,assign (.Subscript o i pos) X.env v=(do
   let c ←holding [v] (eval o X.env);let iv ←holding [v,c] (eval i X.env)
   standAt pos
   holding [v,c,iv] (setItem c iv v)
   release [v,c,iv] []):=by intro _;rfl):PG X (.Subscript o i pos) (gSub e ti t):=by
 intro pins s σ H v u Q I r h;rw[d];apply ia<|im (thn (D pins s σ H _ I h) λc s1 zz=>ex5 zz λx H1 I1 r1 E=>?_);apply ia<|im (thn (hi pins s1 σ H1 _ I1 E) λiv s2 zz=>ex5 zz λy H2 w l M=>?_);apply ia<|iS (ia<|im (thn (hs pins s2 σ H2 x y v c iv u _ w r1 l r M) λ_ j ⟨H3,A,g⟩=>?_));show wpAny_release ⟨σ,H3,A,g⟩
def tAsg(te:TE)(g:TG):TS:=λD σ H=>te σ H λx H1=>g x σ H1 D.nx
theorem zrf(M:PE X e te)(y:PG X r g)(hs:swapsWithSole [r] e pos.line X.env=pure Fa:=by rfl)(j:swappedStores [r] e X.env=pure B:=by rfl)
  (L:(jr [r] X.env).map (·.2)=[assign r X.env]:=by rfl):PS X (.Assign [r] e pos) (tAsg te g):=by
 intro pins s σ H D I h;apply wpAny_Assign_stores (thn (M pins s σ H _ I h) λv s1 zz=>ex5 zz λx H1 I1 r1 E=>?_) hs j;rw[L];show thn (y pins s1 σ H1 x v _ I1 r1 E) λ_ s2 q=>q
theorem zat(hN:X.Nq.Nodup)(hi:X.Nq[i]?=G x)(O:Loc X.env.scope x)(L:PE X e te)(hs:jS e (G<|.Name x f) pos.line X.env=pure Fa:=by rfl)(T:X.fn x=N\/X.env.scope.names.lookup x=G .local:=by first|show .inl rfl|show .inr rfl|assumption):
  PS X (.Assign [.Name x f] e pos) (tAsg te<|gName i):=by
 intro pins s σ H D I h;apply wpAny_Assign_Name (thn (L pins s σ H _ I h) λv s1 zz=>ex5 zz λy H1 I1 r1 E=>?_) hs;show zde I1 hN hi O r1 (λs2 w=>⟨_,H1,w,E⟩) T
def tPar(i j:Nat)(l:TA):TS:=λD σ H=>l σ H λvs H1=>∃v w,vs=[v,w]/\D.nx ((σ.set i<|G v).set j<|G w) H1
def tAug(i:Nat)(te:TE)(ti:TIp):TS:=λD σ H=>∃x,σ[i]?=G (G x)/\te σ H λy H1=>ti x y H1 λz H2=>D.nx (σ.set i<|G z) H2
theorem ps_aug(hN:X.Nq.Nodup)(hi:X.Nq[i]?=G x)(O:Loc X.env.scope x)(L:PE X e te)(q:PIp X p ti)(T:X.fn x=N\/X.env.scope.names.lookup x=G .local:=by first|show .inl rfl|show .inr rfl|assumption):
  PS X (.AugAssign (.Name x f) p e pos) (tAug i te ti):=by
 intro pins s σ H D I h;let(v,g,h):=h;let(m,J,Y):=I.loc;let d:Vis X.env.scope x:=by rcases O with k|k;show .inl k;show .inr<|.inl k
 let(u,r,l):=Y i x v hi g d;apply wpAny_AugAssign_Name ?_;let go:wpAny 20 X.A (eval e X.env) (λw s₂=>wpAny 20 X.A (inplaceOp p u w) (λr s₃=>wpAny 20 X.A (jR X.env x r) (λ_=>SP X pins D .next) X.xe s₃) X.xe s₂) X.xe s:=by
  apply thn (L pins s σ H _ I h) λw s1 zz=>ex5 zz λy H1 I1 r1 E=>?_;apply thn (q pins s1 σ H1 v y u w _ I1 r r1 E) λz s2 zz=>ex5 zz λo H2 Q U q2=>?_;show zde Q hN hi O U (λj A=>⟨_,H2,A,q2⟩) T
 rcases l with⟨M,hm⟩|⟨M,c,C,a⟩
 .exact wpAny_loadName_local I.ok.kind M J hm go
 .rcases M with M|M
  .exact wpAny_loadName_cell I.ok.kind M C a go
  .rcases O with k|k
   .let:X.env.scope.names.lookup x=G .free:=M;rw[k]at this;cases this
   .let:X.env.scope.names.lookup x=G .free:=M;rw[k]at this;cases this
def ipI(f:Int->Int->Int):TIp:=λx y H Q=>∃i j,x=.int i/\y=.int j/\Q (.int<|f i j) H
theorem ip_add:PIp X .Add (ipI λi j=>i+j):=by
 intro pins s σ H x y v u Q I r1 l h;let(i,j,g,C,q):=h;subst g;subst C;let(t,rfl):=r1;let(t',rfl):=l;show iadd_int ⟨.int _,H,I.tok _,⟨_,R⟩,q⟩
end
section
variable {X:Cx}{pos:Pos}
def tWhile(c:TT)(u:TS):TS:=λD σ H=>∃W:Nat->St->Hp->Prop,(∃m,W m σ H)/\∀m σ H,W m σ H->
 c σ H λb H1=>if b=N then∃Nq:St->Hp->Prop,(∀M H',Nq M H'->∃O,O<m/\W O M H')/\u {D with nx:=Nq,ct:=Nq,bk:=D.nx} σ H1 else D.nx σ H1
theorem zin(E:PassesOwn 20 X.A X.env X.xe)(C:PT X c l)(U:PSs X body u):PS X (.While c body [] pos) (tWhile l u):=by
 intro pins s σ H D I h;let(W,(L,e),turn):=h;apply wpAny_While<|codeAny_whileLoop (λn s'=>∃M H',Inv X pins M H' s'/\W n M H') ?_ L ⟨σ,H,I,e⟩;rintro n s1 ⟨a,H1,I1,d⟩;apply iX E<|thn (C pins s1 a H1 _ I1<|turn n a H1 d) λb s2 ⟨H2,w,i⟩=>?_;cases b with
 |true =>
  let(Nq,hN,i):=i;rw[Xq rfl];apply iX E<|thn (U pins s2 a H2 _ w i) λf j g=>?_;cases f with
  |next =>
   let(p,H3,A,r):=g;let(O,z,Y):=hN p H3 r;show⟨O,z,p,H3,A,Y⟩
  |cont =>
   let(p,H3,A,r):=g;let(O,z,Y):=hN p H3 r;show⟨O,z,p,H3,A,Y⟩
  |brk=>show g
  |ret v=>show g
 |false =>
  rw[Xp y0f];show jp ⟨a,H2,w,i⟩
end
structure It where
 go:Nat->Hp->Prop
 yld:Nat->Hp->V->Hp->Prop
 stop:Nat->Hp->Prop
def FpOk(X:Cx)(pins:Y2)(H:Hp)(b:Ad):Prop :=
 H b=B/\b≠X.env.locals/\b∉X.fs/\(b∈X.ex\/X.s₀.heap.objs.size<=b)/\(∀x c,X.env.cells.lookup x=G c->c≠b)/\∀p∈X.pn++pins,p.1≠b
theorem Inv.fpOk{X:Cx}{pins:Y2}{σ:St}{H H':Hp}{s:ig}{b:Ad}(I:02 H s)(U:s.heap.objs.size<=b)(J:H' b=B):FpOk X pins H' b:=by
 apply⟨J,y29<|y0p I.lt U,I.nofs U,.inr<|y14 I.sz U,λx c e z=>?_,λp E z=>?_⟩
 .let(v,q):=I.cell x c e;show Xa (y0p q.lt<|by rw[z];show U)<|y1q _
 .exact Xa (y0p (y0c (I.pin p E).1)<|by rw[z];show U)<|y1q _
structure Turn(P:ik)(w:World)(K:Frag)(tg:Expr)(J:It)(fp:List Ad)(it:Ad)(tn:Nat->Heap->Prop):Prop where
 mem:it∈fp
 obj:∀i h,tn i h->∀b∈fp,∃o,h.get? b=G o/\∀v,o.data ≠ .cell v
 keep:∀i h h',tn i h->(∀b∈fp,∀o,h.get? b=G o->h'.get? b=G o)->tn i h'
 item:∀(X:Cx),X.prog=P->X.w=w->X.K=K->X.calm=N->∀(i:Nat) (pins:Y2) (s:ig) (σ:St) (H:Hp) (E:Y0),02 H s->(∀b∈fp,FpOk X pins H b)->tn i s.heap->J.go i H->
  wpAny 78 X.A (j6 96) (λr s1=>∃u,r=G u/\
   wpAny 78 X.A (iY tg 96 u) (λ_ s2=>∃x H',02 H' s2/\RelV x u/\J.yld i H x H'/\tn (i+1) s2.heap/\∀b∈fp,H' b=B) E s1) E s
 done:∀(X:Cx),X.prog=P->X.w=w->X.K=K->X.calm=N->∀(i:Nat) (pins:Y2) (s:ig) (σ:St) (H:Hp) (E:Y0),02 H s->(∀b∈fp,FpOk X pins H b)->tn i s.heap->J.stop i H->
  wpAny 78 X.A (j6 96) (λr s1=>r=B/\02 H s1) E s
 self:∀(A:io) (i:Nat) (s:ig) (Q:Y0) (E:Y0),tn i s.heap->Q 96 s->wpAny 78 A (jV 96) Q E s
abbrev TI:=St->Hp->(It->Hp->Prop)->Prop
def PIE(X:Cx)(pins:Y2)(σ:St)(r:Expr)(Rq:It->Hp->Prop)(a:Va)(s2:ig):Prop :=
 ∃(it:Ad) (fp:List Ad) (tn:Nat->Heap->Prop) (J:It) (H':Hp),a=.ref it/\02 H' s2/\Turn X.prog X.w X.K r J fp it tn/\tn 0 s2.heap/\(∀b∈fp,FpOk X pins H' b)/\Rq J H'
def PI(X:Cx)(r iter:Expr)(j:TI):Prop :=
 ∀(pins:Y2) (s:ig) (σ:St) (H:Hp) (Rq:It->Hp->Prop),02 H s->j σ H Rq->
  wpAny 20 X.A (eval iter X.env) (λv s1=>wpAny 20 X.A (jV v) (PIE X pins σ r Rq) X.xe s1) X.xe s
theorem zwo(D:s.heap.get? it=G o)(C:o.cls=.type n)(hd:o.data=.fields vs)
  (I:["enumerate","zip","dict_itemiterator","dict_reverseitemiterator","odict_iterator","itertools.zip_longest","itertools.pairwise"].contains n=Fa) (g:Q () s):wpAny M A (iY r 96 u) Q E s:=by
 unfold iY;cases r<;>first
  |show ib g
  |(cases u<;>first
    |show ib g
    |(apply ia (lm D ?_)
      rw[C,hd];change wpAny M A (if(["enumerate","zip","dict_itemiterator","dict_reverseitemiterator","odict_iterator","itertools.zip_longest","itertools.pairwise"].contains n&&vs[0]? ==G (i9 _))=N then _ else _) Q E s;rw[Xp<|by intro h;rw[I,y1h]at h;cases h];show ib g))
noncomputable def Itl(K:Frag)(a:Ad):It :=
 ⟨λi H=>∃xs x,SqL K H a xs/\xs[i]?=G x,λi H x H'=>H'=H/\∀xs,SqL K H a xs->xs[i]?=G x,λi H=>∃xs,SqL K H a xs/\xs.length<=i⟩
noncomputable def Itt(K:Frag)(a:Ad):It :=
 ⟨λi H=>∃xs x,SqT K H a xs/\xs[i]?=G x,λi H x H'=>H'=H/\∀xs,SqT K H a xs->xs[i]?=G x,λi H=>∃xs,SqT K H a xs/\xs.length<=i⟩
noncomputable def Itr(lo:Int)(n:Nat):It:=⟨λi _=>i<n,λi H x H'=>H'=H/\x=.int (lo+i),λi _=>n<=i⟩
theorem zqp{P:ik}{w:World}{K:Frag}{r:Expr}(a it:Ad):Turn P w K r (Itl K a) [it] it (λi h=>h.IsListIter it a i) where
 mem:=by simp
 obj:=λi h st b U=>by
  let e:b=it:=by simpa using U
  subst e;let(o,e,c,d):=st;show⟨o,e,λv z=>by rw[d]at z;cases z⟩
 keep:=λi h h' st k=>st.at λo e=>k it 06 o e
 item:=by
  intro X l j hK hc i pins s σ H E I T st y;subst l j hK;let(xs,x,A,O):=y;let(its,rv,p,hz):=I.list A;let(u,C,f):=rv.get O;let(M,f1,q,g,Q,J):=T it 06;apply wpAny_pyNext_list_item st p.isList (x:=u) (by simpa using C) λh' D sb=>?_;let I1:02 H {s with heap:=h'}:=I.turned (t':=s.toks) (λb o U e=>(sb.2 b U).trans e) M f1 g Q J;let(o,e,c,d):=id D;show⟨u,R,zwo (s:={s with heap:=h'}) e c d (by decide) ⟨x,H,I1,f,⟨R,λys hy=>by rw[I.list_inj hy A];show O⟩,D,λb U=>(T b U).1⟩⟩
 done:=by
  intro X l j hK hc i pins s σ H E I T st y;subst l j hK;let(xs,A,O):=y;let(its,rv,p,hz):=I.list A;let(M,f1,q,g,Q,J):=T it 06;let Y:=rv.length;show wpAny_pyNext_list_end 021 st p.isList (by simp;omega) λh' L=>⟨R,I.turned (t':=s.toks) (λb o U e=>L b o U e) M f1 g Q J⟩
 self:=λ_ _ _ _ _ st h=>wpAny_pyIter_listiter st h
theorem zox{P:ik}{w:World}{K:Frag}{r:Expr}(a it:Ad):Turn P w K r (Itt K a) [it] it (λi h=>h.IsTupleIter it a i) where
 mem:=by simp
 obj:=λi h st b U=>by
  let e:b=it:=by simpa using U
  subst e;let(o,e,c,d):=st;show⟨o,e,λv z=>by rw[d]at z;cases z⟩
 keep:=λi h h' st k=>st.at λo e=>k it 06 o e
 item:=by
  intro X l j hK hc i pins s σ H E I T st y;subst l j hK;let(xs,x,A,O):=y;let(its,rv,p,hz):=I.tuple A;let(u,C,f):=rv.get O;let(M,f1,q,g,Q,J):=T it 06;apply wpAny_pyNext_tuple_item st (show s.heap.IsTuple a its.toArray from p) (x:=u) (by simpa using C) λh' D sb=>?_;let I1:02 H {s with heap:=h'}:=I.turned (t':=s.toks) (λb o U e=>(sb.2 b U).trans e) M f1 g Q J;let(o,e,c,d):=id D;show⟨u,R,zwo (s:={s with heap:=h'}) e c d (by decide) ⟨x,H,I1,f,⟨R,λys hy=>by rw[I.tuple_inj hy A];show O⟩,D,λb U=>(T b U).1⟩⟩
 done:=by
  intro X l j hK hc i pins s σ H E I T st y;subst l j hK;let(xs,A,O):=y;let(its,rv,p,hz):=I.tuple A;let(M,f1,q,g,Q,J):=T it 06;let Y:=rv.length;show wpAny_pyNext_tuple_end 021 st (show s.heap.IsTuple a its.toArray from p) (by simp;omega) λh' L=>⟨R,I.turned (t':=s.toks) (λb o U e=>L b o U e) M f1 g Q J⟩
 self:=λ_ _ _ _ _ st h=>wpAny_pyIter_tupleiter st h
theorem zoy{P:ik}{w:World}{K:Frag}{r:Expr}(it:Ad)(lo:Int)(n:Nat):Turn P w K r (Itr lo n) [it] it (λi h=>IsRangeIter h it (lo+(i:Nat)*1) ((n:Int)-(i:Nat)) 1) where
 mem:=by simp
 obj:=λi h st b U=>by
  let e:b=it:=by simpa using U
  subst e;show⟨_,st,λv z=>by
   let C:Data.fields _=Data.cell v:=z;cases C⟩
 keep:=λi h h' st k=>k it 06 _ st
 item:=by
  intro X l j p hc i pins s σ H E I T st y;subst l j p;let(M,f1,q,g,Q,x):=T it 06;let W:=Walks.range (prog:=X.prog) (w:=X.w) 021 it lo 1 n;apply W.item i s _ _ y st λv h' J hv D O=>?_;let(t,rfl):=hv;let I1:02 H {s with heap:=h',toks:=J}:=I.turned (λb o U e=>O b o (by simpa using U) e) M f1 g Q x;apply⟨_,R,zwo (s:={s with heap:=h',toks:=J}) (n:="range_iterator") D R R (by decide) ⟨.int<|lo+i,H,I1,⟨t,?_⟩,⟨R,R⟩,D,λb U=>(T b U).1⟩⟩;rw[Int.mul_one]
 done:=by
  intro X l j p hc i pins s σ H E I T st y;subst l j p;let(M,f1,q,g,Q,x):=T it 06;show wpAny_pyNext_range_end 021 st (by have:n<=i:=y;omega) λh' L=>⟨R,I.turned (t':=s.toks) (λb o U e=>L b o U e) M f1 g Q x⟩
 self:=λ_ _ _ _ _ st h=>wpAny_pyIter_rangeiter st h
section
variable {X:Cx}{tg:Expr}
def iList(K:Frag)(tl:TE):TI:=λσ H Rq=>tl σ H λx H1=>asR x λa=>(∃xs,SqL K H1 a xs)/\Rq (Itl K a) H1
def iTup(K:Frag)(tl:TE):TI:=λσ H Rq=>tl σ H λx H1=>asR x λa=>(∃xs,SqT K H1 a xs)/\Rq (Itt K a) H1
theorem zyw{l:Expr}{tl:TE}(Y:PE X l tl):PI X tg l (iList X.K tl):=by
 intro pins s σ H Rq I h;apply thn (Y pins s σ H _ I h) λv s1 zz=>ex5 zz λx H1 I1 r1 E=>?_;let(a,e,(xs,A),q):=zcv E;subst e;cases r1;let(its,d,p,hz):=I1.list A;apply jb p.isList ?_;apply⟨s1.heap.objs.size,[s1.heap.objs.size],_,_,H1,R,I1.kept (t':=s1.toks) λb o e=>y04 _ e,zqp a _,⟨_,y0b _ R,R,R⟩,λb U=>?_,q⟩;let e:b=s1.heap.objs.size:=by simpa using U
 subst e;show I1.fpOk 08<|I1.hok.fresh 08
theorem pi_tup{l:Expr}{tl:TE}(Y:PE X l tl):PI X tg l (iTup X.K tl):=by
 intro pins s σ H Rq I h;apply thn (Y pins s σ H _ I h) λv s1 zz=>ex5 zz λx H1 I1 r1 E=>?_;let(a,e,(xs,A),q):=zcv E;subst e;cases r1;let(its,d,p,hz):=I1.tuple A;apply wpAny_pyIter_tuple (show s1.heap.IsTuple a its.toArray from p) ?_;apply⟨s1.heap.objs.size,[s1.heap.objs.size],_,_,H1,R,I1.kept (t':=s1.toks) λb o e=>y04 _ e,zox a _,⟨_,y0b _ R,R,R⟩,λb U=>?_,q⟩;let e:b=s1.heap.objs.size:=by simpa using U
 subst e;show I1.fpOk 08<|I1.hok.fresh 08
theorem zve{pins:Y2}{σ:St}{H:Hp}{s:ig}{Rq:It->Hp->Prop}{E:Y0}{lo hi:Int}{t u v:Tok}{z:Nat}(I:02 H s)(L:-(2^62)<=lo)(J:lo<2^62)(f:-(2^62)<=hi)(w:hi<2^62)
  (q:Rq (Itr lo (hi-lo).toNat) H):wpAny 20 X.A (jV 011) (PIE X pins σ tg Rq) E {s with heap:=s.heap.push {cls:=.type "range",data:=.fields #[.int lo t,.int hi u,.int 1 v]},toks:=z}:=by
 apply wpAny_pyIter_range (IsRange.new ..) (small_one L J f w) ?_;let I1:02 H {s with heap:=s.heap.push {cls:=.type "range",data:=.fields #[.int lo t,.int hi u,.int 1 v]},toks:=z}:=I.kept λb o e=>y04 _ e;apply⟨(076).objs.size,[(076).objs.size],_,_,H,R,
  I1.kept (t':=z) λb o e=>y04 _ e,zoy _ lo (hi-lo).toNat,?_,λb U=>?_,q⟩
 .let g:lo+((0:Nat):Int)*1=lo:=by simp
  let C:(((hi-lo).toNat:Nat):Int)-((0:Nat):Int)=Builtin.Range.rangeSize lo hi 1:=by rw[rangeSize_one];split<;>omega
  change IsRangeIter _ _ (lo+((0:Nat):Int)*1) ((((hi-lo).toNat:Nat):Int)-((0:Nat):Int)) 1;rw[g,C];show y0b _ R
 .let e:b=(076).objs.size:=by simpa using U
  subst e;show I1.fpOk 08<|I1.hok.fresh 08
def iRng1(l:TA):TI:=λσ H Rq=>l σ H λvs H1=>∃j:Int,vs=[.int j]/\-(2^62)<=j/\j<2^62/\Rq (Itr 0 j.toNat) H1
def iRng2(l:TA):TI:=λσ H Rq=>l σ H λvs H1=>∃i j:Int,vs=[.int i,.int j]/\(-(2^62)<=i/\i<2^62/\-(2^62)<=j/\j<2^62)/\Rq (Itr i (j-i).toNat) H1
theorem zbi{a:Expr}{l:TA}{p pos:Pos}(y:Gl X "range")(M:X.mg "range"=B)(ha:PA X [a] l)(hs:iq [a] X.env=[(Fa,eval a X.env)]:=by rfl):PI X tg (.Call (.Name "range" p) [a] [] pos) (iRng1 l):=by
 intro pins s σ H Rq I h;apply Call_<|zdq I y M boot_range (PyProof.Rows.callWith_type1 (thn 051 λus s1 zz=>ex5 zz λvs H1 I1 r1 E=>?_) hs R);let(j,e,E,i,q):=E;subst e;cases r1 with
 |cons r f =>
  cases f;let(t,rfl):=r;show call_range_1<|zve I1 00 00 E i (by simpa using q)
def tFor(j:TI)(g:TG)(c:TS):TS:=λD σ H=>j σ H λJ H1=>∃W:Nat->Nat->St->Hp->Prop,(∃m,W 0 m σ H1)/\∀i m σ H,W i m σ H->
 (J.stop i H/\D.nx σ H)\/(J.go i H/\∃Nq:St->Hp->Prop,063/\∀x H',J.yld i H x H'->g x σ H' λd H2=>c {D with nx:=Nq,ct:=Nq,bk:=D.nx} d H2)
noncomputable def pinsAt(fp:List Ad)(h:Heap):List (Ad×Obj):=fp.filterMap λb=>(h.get? b).map λo=>(b,o)
theorem zdk(U:b∈fp)(e:h.get? b=G o):(b,o)∈pinsAt fp h:=List.mem_filterMap.mpr ⟨b,U,by rw[e];rfl⟩
theorem zsd(E:p∈pinsAt fp h):p.1∈fp/\h.get? p.1=G p.2:=by
 let(b,U,e):=List.mem_filterMap.mp E;cases q:h.get? b with
 |none=>rw[q]at e;cases e
 |some o =>
  rw[q]at e;let f:(b,o)=p:=Option.some.inj e;subst f;show⟨U,q⟩
theorem Inv.pinned{pins:Y2}{σ:St}{H:Hp}{s:ig}{fp:List Ad}(I:02 H s)(T:∀b∈fp,FpOk X pins H b)(D:∀b∈fp,∃o,s.heap.get? b=G o/\∀v,o.data ≠ .cell v):Inv X (pins++pinsAt fp s.heap) σ H s :=
 I.pins_of λp E=>(y1c.mp E).elim (λz=>I.pin p<|y15 _ z) λz=>by
  let(U,e):=zsd z;let(M,f1,q,_):=T p.1 U;let(o,f,d):=D p.1 U;rw[e]at f;cases f;show⟨e,M,f1,q,d⟩
theorem Inv.unpinned{pins f:Y2}{σ:St}{H:Hp}{s:ig}(I:Inv X (pins++f) σ H s):02 H s:=I.pins_of λp E=>I.pin p<|y15 _ (y3j _ E)
theorem zcf(E:PassesOwn 20 X.A X.env X.xe)(C:X.calm=N)(hi:PI X tg iter wi)(y:PG X tg g)(U:PSs X body c)
  (hs:∀x,jt iter X.env x=pure x:=by intro _;rfl):PS X (.For tg iter body [] pos) (tFor wi g c):=by
 intro pins s σ H D I h;apply wpAny_For (thn (hi pins s σ H _ I h) λv s1 L=>thn L λitv s2 h2=>?_) hs;let(it,fp,tn,J,H2,e,w,T,Q,q,W,(m0,w0),turn):=h2;subst e;let gl:∀{H':Hp},(∀b∈fp,H' b=B)->∀b∈fp,FpOk X pins H' b:=λhn b U=>⟨hn b U,(q b U).2⟩;apply codeAny_forLoop_any (λn s'=>∃i M H',Inv X pins M H' s'/\tn i s'.heap/\(∀b∈fp,H' b=B)/\W i n M H') ?_ m0 ⟨0,σ,H2,w,Q,λb U=>(q b U).1,w0⟩;rintro n j ⟨i,p,H3,A,gm,fr3,Y⟩;rcases turn i n p H3 Y with⟨stop,qn⟩|⟨go,Nq,hN,step⟩
 .refine iX E<|thn (T.done X R R R C i pins j p H3 X.xe A (gl fr3) gm stop) λr s4 ⟨hr,I4⟩=>?_;subst hr;show jp ⟨p,H3,I4,qn⟩
 .refine iX E<|thn (T.item X R R R C i pins j p H3 X.xe A (gl fr3) gm go) λr s4 ⟨u,hr,h4⟩=>?_;subst hr;apply iX E<|thn h4 λ_ s5 zz=>ex5 zz λx H5 I5 r5 zq=>?_;let(y5,st5,fr5):=zq;let I5':=I5.pinned (gl fr5)<|T.obj _ _ st5;apply iX E<|thn (y _ s5 p H5 x u _ I5' r5<|step x H5 y5) λ_ s6 ⟨σ6,z,I6,q6⟩=>?_;apply iX E<|thn (U _ s6 σ6 z _ I6 q6) λf s7 q7=>?_;let again:∀{a:St} {H7:Hp},Inv X (pins++pinsAt fp s5.heap) a H7 s7->Nq a H7->∃m,m<n/\∃i M H',Inv X pins M H' s7/\tn i s7.heap/\(∀b∈fp,H' b=B)/\W i m M H':=λ{a H7} I7 l=>by
   let(O,hm,w7):=hN a H7 l;apply⟨O,hm,i+1,a,H7,I7.unpinned,T.keep _ _ _ st5 λb U o e=>(I7.pin (b,o)<|y15 _ (y15 _<|zdk U e)).1,λb U=>?_,w7⟩;let(o,e,d):=T.obj _ _ st5 b U;show(I7.pin (b,o)<|y15 _ (y15 _<|zdk U e)).2.1
  cases f with
  |next=>let(a,H7,I7,l):=q7;show again I7 l
  |cont=>let(a,H7,I7,l):=q7;show again I7 l
  |brk=>let(a,H7,I7,q7):=q7;show⟨a,H7,I7.unpinned,q7⟩
  |ret v=>let(x7,a,H7,I7,r7,q7):=q7;show⟨x7,a,H7,I7.unpinned,r7,q7⟩
end
theorem zwq{K:Frag}{a:Ad}{xs:List V}{g:TG}{c:TS}{D:Ends}{σ:St}{H:Hp}(Pv:Nat->St->Hp->Prop)(w:Pv 0 σ H)(Y:∀i σ H,i<=xs.length->Pv i σ H->SqL K H a xs)
  (hs:∀i x σ H,xs[i]?=G x->Pv i σ H->g x σ H λd H2=>c {D with nx:=Pv<|i+1,ct:=Pv<|i+1,bk:=D.nx} d H2) (hd:∀σ H,Pv xs.length σ H->D.nx σ H) :
  ∃W:Nat->Nat->St->Hp->Prop,(∃m,W 0 m σ H)/\∀i m σ H,W i m σ H->
   ((Itl K a).stop i H/\D.nx σ H)\/((Itl K a).go i H/\∃Nq:St->Hp->Prop,063/\∀x H',(Itl K a).yld i H x H'->g x σ H' λd H2=>c {D with nx:=Nq,ct:=Nq,bk:=D.nx} d H2):=by
 apply⟨λi m σ H=>m=xs.length-i/\i<=xs.length/\Pv i σ H,⟨xs.length,by simp,y13 _,w⟩,?_⟩;rintro i m σ H ⟨rfl,hi,p⟩;let q:=Y i σ H hi p;by_cases o:i<xs.length
 .refine .inr ⟨⟨xs,xs[i],q,by simp[o]⟩,Pv<|i+1,λσ' H' f=>⟨xs.length-(i+1),by omega,R,o,f⟩,λx H' y=>?_⟩;let(e,y):=y;subst e;show hs i x σ _ (y xs q) p
 .let e:i=xs.length:=by omega
  subst e;show .inl ⟨⟨xs,q,y05 _⟩,hd σ H p⟩
theorem for_tup{K:Frag}{a:Ad}{xs:List V}{g:TG}{c:TS}{D:Ends}{σ:St}{H:Hp}(Pv:Nat->St->Hp->Prop)(w:Pv 0 σ H)(Y:∀i σ H,i<=xs.length->Pv i σ H->SqT K H a xs)
  (hs:∀i x σ H,xs[i]?=G x->Pv i σ H->g x σ H λd H2=>c {D with nx:=Pv<|i+1,ct:=Pv<|i+1,bk:=D.nx} d H2) (hd:∀σ H,Pv xs.length σ H->D.nx σ H) :
  ∃W:Nat->Nat->St->Hp->Prop,(∃m,W 0 m σ H)/\∀i m σ H,W i m σ H->
   ((Itt K a).stop i H/\D.nx σ H)\/((Itt K a).go i H/\∃Nq:St->Hp->Prop,063/\∀x H',(Itt K a).yld i H x H'->g x σ H' λd H2=>c {D with nx:=Nq,ct:=Nq,bk:=D.nx} d H2):=by
 apply⟨λi m σ H=>m=xs.length-i/\i<=xs.length/\Pv i σ H,⟨xs.length,by simp,y13 _,w⟩,?_⟩;rintro i m σ H ⟨rfl,hi,p⟩;let q:=Y i σ H hi p;by_cases o:i<xs.length
 .refine .inr ⟨⟨xs,xs[i],q,by simp[o]⟩,Pv<|i+1,λσ' H' f=>⟨xs.length-(i+1),by omega,R,o,f⟩,λx H' y=>?_⟩;let(e,y):=y;subst e;show hs i x σ _ (y xs q) p
 .let e:i=xs.length:=by omega
  subst e;show .inl ⟨⟨xs,q,y05 _⟩,hd σ H p⟩
theorem zs4{lo:Int}{n:Nat}{g:TG}{c:TS}{D:Ends}{σ:St}{H:Hp}(Pv:Nat->St->Hp->Prop)(w:Pv 0 σ H)
  (hs:∀i σ H,i<n->Pv i σ H->g (.int<|lo+i) σ H λd H2=>c {D with nx:=Pv<|i+1,ct:=Pv<|i+1,bk:=D.nx} d H2) (hd:∀σ H,Pv n σ H->D.nx σ H) :
  ∃W:Nat->Nat->St->Hp->Prop,(∃m,W 0 m σ H)/\∀i m σ H,W i m σ H->
   ((Itr lo n).stop i H/\D.nx σ H)\/((Itr lo n).go i H/\∃Nq:St->Hp->Prop,063/\∀x H',(Itr lo n).yld i H x H'->g x σ H' λd H2=>c {D with nx:=Nq,ct:=Nq,bk:=D.nx} d H2):=by
 apply⟨λi m σ H=>m=n-i/\i<=n/\Pv i σ H,⟨n,by simp,y13 _,w⟩,?_⟩;rintro i m σ H ⟨rfl,hi,p⟩;by_cases o:i<n
 .refine .inr ⟨o,Pv<|i+1,λσ' H' f=>⟨n-(i+1),by omega,R,o,f⟩,λx H' y=>?_⟩;let(e,y):=y;subst e y;show hs i σ _ o p
 .let e:i=n:=by omega
  subst e;show .inl ⟨y05 _,hd σ H p⟩
abbrev R2:=V->V->Hp->VK->Prop
def OpR(X:Cx)(f:Va->Va->Sem Va)(r:R2):Prop :=
 ∀(pins:Y2) (s:ig) (σ:St) (H:Hp) (x y:V) (v u:Va) (Q:VK),02 H s->RelV x v->RelV y u->r x y H Q->
  wpAny 20 X.A (f v u) 028 X.xe s
def UnR(X:Cx)(f:Va->Sem Va)(r:V->Hp->VK->Prop):Prop :=
 ∀(pins:Y2) (s:ig) (σ:St) (H:Hp) (x:V) (v:Va) (Q:VK),02 H s->RelV x v->r x H Q->
  wpAny 20 X.A (f v) 028 X.xe s
def CallR(X:Cx)(f:Va)(r:List V->Hp->VK->Prop):Prop :=
 ∀(pins:Y2) (s:ig) (σ:St) (H:Hp) (xs:List V) (us:List Va) (Q:VK),02 H s->Vals xs us->r xs H Q->
  wpAny 20 X.A (call f us) 028 X.xe s
def TruR(X:Cx)(r:V->Hp->(Bool->Hp->Prop)->Prop):Prop :=
 ∀(pins:Y2) (s:ig) (σ:St) (H:Hp) (x:V) (v:Va) (Q:Bool->Hp->Prop),02 H s->RelV x v->r x H Q->
  wpAny 20 X.A (truthy v) (TP X pins σ Q) X.xe s
def tOp(r:R2)(l c:TE):TE:=λσ H Q=>l σ H λx H1=>c σ H1 λy H2=>r x y H2 Q
def tUn(r:V->Hp->VK->Prop)(l:TE):TE:=λσ H Q=>l σ H λx H1=>r x H1 Q
def rI(C:Int->Int->Prop)(g:Int->Int->V):R2:=λx y H Q=>asI x λi=>asI y λj=>C i j/\Q (g i j) H
def rI0(g:Int->Int->V):R2:=λx y H Q=>asI x λi=>asI y λj=>Q (g i j) H
def rU(g:Int->V):V->Hp->VK->Prop:=λx H Q=>asI x λi=>Q (g i) H
section
variable {X:Cx}{a b c:Expr}{ta tb tc:TE}{pos:Pos}
theorem binT(ha:PE X a ta)(U:PE X b tb){pins:Y2}{s:ig}{σ:St}{H:Hp}{Rq:V->V->Hp->Prop}(I:02 H s)
  (h:ta σ H λx H1=>tb σ H1 λy H2=>Rq x y H2) {Q:Y0} {f:Va->Va->Sem Va}
  (T:∀v u s2 x y H2,02 H2 s2->RelV x v->RelV y u->Rq x y H2->wpAny 20 X.A (f v u) Q X.xe s2) :
  wpAny 20 X.A (eval a X.env) (λv s₁=>wpAny 20 X.A (eval b X.env) (λu s₂=>wpAny 20 X.A (f v u) Q X.xe s₂) X.xe s₁) X.xe s:=by
 apply thn 035 λv s1 zz=>ex5 zz λx H1 I1 r1 E=>?_;apply thn (U pins s1 σ H1 _ I1 E) λu s2 zz=>ex5 zz λy H2 w l i=>?_;show T v u s2 x y H2 w r1 l i
theorem za0(D:OpR X (iF Y) r)(d:PE X a ta)(U:PE X b tb):PE X (.BinOp a Y b pos) (tOp r ta tb):=by
 intro pins s σ H Q I h;show wpAny_BinOp<|binT d U I h λv u s2 x y H2 w T O q=>D pins s2 σ H2 x y v u Q w T O q
theorem zro(D:UnR X (unaryOp Y) r)(ha:PE X a ta):PE X (.UnaryOp Y a pos) (tUn r ta):=by
 intro pins s σ H Q I h;show UnaryOp_<|thn 035 λv s1 zz=>ex5 zz λx H1 I1 r1 E=>D pins s1 σ H1 x v Q I1 r1 E
theorem opI{f:Va->Va->Sem Va}{C:Int->Int->Prop}{g:Int->Int->Int}
  (rule:∀(i j:Int) (t u:Tok) (s:ig) (Q:Y0) (E:Y0),C i j->Q (.int (g i j) s.toks) {s with toks:=s.toks+1}->wpAny (model X.prog X.w) X.A (f (.int i t)<|.int j u) Q E s) :
  OpR X f (rI C λi j=>.int<|g i j):=by
 intro pins s σ H x y v u Q I T O h;let(i,rfl,h'):=zdr h;let(j,rfl,p,q):=zdr h';let(t,rfl):=T;let(t',rfl):=O;show rule i j t t' s _ _ p ⟨.int<|g i j,H,I.tok _,⟨_,R⟩,q⟩
theorem opI0{f:Va->Va->Sem Va}{g:Int->Int->Int}
  (rule:∀(i j:Int) (t u:Tok) (s:ig) (Q:Y0) (E:Y0),Q (.int (g i j) s.toks) {s with toks:=s.toks+1}->wpAny (model X.prog X.w) X.A (f (.int i t)<|.int j u) Q E s) :
  OpR X f (rI0 λi j=>.int<|g i j):=by
 intro pins s σ H x y v u Q I T O h;let(i,rfl,h'):=zdr h;let(j,rfl,q):=zdr h';let(t,rfl):=T;let(t',rfl):=O;show rule i j t t' s _ _ ⟨.int<|g i j,H,I.tok _,⟨_,R⟩,q⟩
theorem opB0{f:Va->Va->Sem Va}{g:Int->Int->Bool}
  (rule:∀(i j:Int) (t u:Tok) (s:ig) (Q:Y0) (E:Y0),Q (.bool<|g i j) s->wpAny 20 X.A (f (.int i t)<|.int j u) Q E s) :
  OpR X f (rI0 λi j=>.bl<|g i j):=by
 intro pins s σ H x y v u Q I T O h;let(i,rfl,h'):=zdr h;let(j,rfl,q):=zdr h';let(t,rfl):=T;let(t',rfl):=O;show rule i j t t' s _ _ ⟨.bl<|g i j,H,I,R,q⟩
def CDiv(i j:Int):Prop:=0<j/\j<1073741824
def CPow(i j:Int):Prop:=0<=j/\j<=1000000/\i.natAbs<2^64
def CMul(i j:Int):Prop:=(-(2^64)<i/\i<2^64)\/(-(2^64)<j/\j<2^64)
theorem CMul.ok(h:CMul i j):IntMulOk i j:=by
 rcases h with⟨L,J⟩|⟨L,J⟩
 .exact .of_left<|intBits_le_64 L J
 .exact .of_right<|intBits_le_64 L J
theorem zou(k:Nat):(0:Int)<=2^k:=by
 rw[two_pow_cast];show Int.natCast_nonneg _
theorem zcb:OpR X (iF .Add) (rI0 λi j=>.int<|i+j):=opI0 λ_ _ _ _ _ _ _ q=>add_int q
theorem zgb:OpR X (iF .Sub) (rI0 λi j=>.int<|i-j):=opI0 λ_ _ _ _ _ _ _ q=>sub_int q
theorem zry:OpR X (iF .Mult) (rI CMul λi j=>.int<|i*j):=opI λ_ _ _ _ _ _ _ C q=>mul_int q C.ok
theorem ziv:OpR X (iF .FloorDiv) (rI CDiv λi j=>.int<|i/j):=opI λi j _ _ _ _ _ C q=>by
 let L:(0:Int)<j:=C.1;let J:j<1073741824:=C.2;show floordiv_int 00 (by rw[y47 i 00];show q)<|.inl (PyProof.noPylong_small 00)
theorem zc2:OpR X (iF .Mod) (rI (λ_ j=>0<j) λi j=>.int<|i%j):=opI λi j _ _ _ _ _ C q=>by
 let L:(0:Int)<j:=C;show mod_int' 00 (by rw[Int.fmod_eq_emod_of_nonneg i 00];show q)
theorem op_pow:OpR X (iF .Pow) (rI CPow λi j=>.int<|i^j.toNat):=opI λ_ _ _ _ _ _ _ C q=>pow_int_small C.1 C.2.1 C.2.2 q
theorem zkl:OpR X (iF .LShift) (rI CPow λi j=>.int<|i*2^j.toNat):=opI λ_ _ _ _ _ _ _ C q=>lshift_int_small C.1 C.2.1 C.2.2 q
theorem zxh:OpR X (iF .RShift) (rI (λ_ j=>0<=j) λi j=>.int<|i/2^j.toNat):=opI λi j _ _ _ _ _ C q =>
 rshift_int C (by rw[y47 i<|zou _];show q)
theorem op_and:OpR X (iF .BitAnd) (rI0 λi j=>.int<|Builtin.bitAnd i j):=opI0 λ_ _ _ _ _ _ _ q=>and_int q
theorem unI{f:Va->Sem Va}{g:Int->Int}
  (rule:∀(i:Int) (t:Tok) (s:ig) (Q:Y0) (E:Y0),Q (.int (g i) s.toks) {s with toks:=s.toks+1}->wpAny (model X.prog X.w) X.A (f<|.int i t) Q E s) :
  UnR X f (rU λi=>.int<|g i):=by
 intro pins s σ H x v Q I T h;let(i,rfl,q):=zdr h;let(t,rfl):=T;show rule i t s _ _ ⟨.int<|g i,H,I.tok _,⟨_,R⟩,q⟩
theorem zjs:UnR X (unaryOp .USub) (rU λi=>.int<|-i):=unI λ_ _ _ _ _ q=>neg_int q
end
noncomputable def scal:V->V->Bool
 |.non,.non=>N|.non,.int _=>N|.int _,.non=>N|.non,.bl _=>N|.bl _,.non=>N|.non,.str _=>N|.str _,.non=>N
 |.int _,.int _=>N|.bl _,.bl _=>N|.str _,.str _=>N|.byt _,.byt _=>N
 |.int _,.str _=>N|.str _,.int _=>N|.bl _,.str _=>N|.str _,.bl _=>N
 |_,_=>Fa
def rEq:R2:=λx y H Q=>scal x y=N/\Q (.bl<|decide (x=y)) H
def rNe:R2:=λx y H Q=>scal x y=N/\Q (.bl<|!decide (x=y)) H
theorem zti:decide (V.int i=V.int j)=(i==j):=by
 rw[y1e];simp
theorem zxu:decide (V.bl i=V.bl j)=(i==j):=by
 rw[y1e];simp
theorem zth:decide (V.str i=V.str j)=(i==j):=by
 rw[y1e];simp
theorem ztj:decide (V.byt i=V.byt j)=(i.toList==j.toList):=by
 rw[y1e];cases i;cases j;simp
section
variable {X:Cx}{a b c:Expr}{ta tb tc:TE}{pos:Pos}
theorem za5{pins:Y2}{σ:St}{H:Hp}{s:ig}{Q:VK}{k k':Bool}(I:02 H s)(q:Q (.bl k) H)(e:k=k'):EP X pins σ Q (.bool k') s:=by
 subst e;show⟨.bl k,H,I,R,q⟩
theorem op_eq:OpR X (i4 .Eq) rEq:=by
 intro pins s σ H x y v u Q I T O h;let(hs,q):=h;cases x with
 |non =>
  cases T;cases y with
  |non=>cases O;show PySem.EqNone.eq_none_none 014
  |bl j=>cases O;show PySem.EqNone.eq_none_bool 014
  |int j=>let(t',rfl):=O;show PySem.EqNone.eq_none_int 014
  |str j=>let(t',rfl):=O;show PySem.EqNone.eq_none_str 014
  |_=>show Xa (show Fa=N from hs) y0f
 |bl i =>
  cases T;cases y with
  |non=>cases O;show PySem.EqNone.eq_bool_none 014
  |bl j=>cases O;show eq_bool<|za5 I q zxu
  |str j=>let(t',rfl):=O;show PySem.EqMixed.eq_bool_str 014
  |_=>show Xa (show Fa=N from hs) y0f
 |int i =>
  let(t,rfl):=T;cases y with
  |non=>cases O;show PySem.EqNone.eq_int_none 014
  |int j=>let(t',rfl):=O;show eq_int<|za5 I q zti
  |str j=>let(t',rfl):=O;show PySem.EqMixed.eq_int_str 014
  |_=>show Xa (show Fa=N from hs) y0f
 |str i =>
  let(t,rfl):=T;cases y with
  |non=>cases O;show PySem.EqNone.eq_str_none 014
  |bl j=>cases O;show PySem.EqMixed.eq_str_bool 014
  |int j=>let(t',rfl):=O;show PySem.EqMixed.eq_str_int 014
  |str j=>let(t',rfl):=O;show eq_str<|za5 I q zth
  |_=>show Xa (show Fa=N from hs) y0f
 |byt i =>
  let(t,rfl):=T;cases y with
  |byt j=>let(t',rfl):=O;show PySem.W.eq_bytes<|za5 I q ztj
  |_=>show Xa (show Fa=N from hs) y0f
 |_=>cases y<;>show Xa (show Fa=N from hs) y0f
theorem op_ne:OpR X (i4 .NotEq) rNe:=by
 intro pins s σ H x y v u Q I T O h;let(hs,q):=h;cases x with
 |non =>
  cases T;cases y with
  |non=>cases O;show PySem.EqNone.ne_none_none 014
  |bl j=>cases O;show PySem.EqNone.ne_none_bool 014
  |int j=>let(t',rfl):=O;show PySem.EqNone.ne_none_int 014
  |str j=>let(t',rfl):=O;show PySem.EqNone.ne_none_str 014
  |_=>show Xa (show Fa=N from hs) y0f
 |bl i =>
  cases T;cases y with
  |non=>cases O;show PySem.EqNone.ne_bool_none 014
  |bl j=>cases O;show ne_bool<|za5 I q (congrArg not zxu)
  |str j=>let(t',rfl):=O;show PySem.EqMixed.ne_bool_str 014
  |_=>show Xa (show Fa=N from hs) y0f
 |int i =>
  let(t,rfl):=T;cases y with
  |non=>cases O;show PySem.EqNone.ne_int_none 014
  |int j=>let(t',rfl):=O;show ne_int<|za5 I q (congrArg not zti)
  |str j=>let(t',rfl):=O;show PySem.EqMixed.ne_int_str 014
  |_=>show Xa (show Fa=N from hs) y0f
 |str i =>
  let(t,rfl):=T;cases y with
  |non=>cases O;show PySem.EqNone.ne_str_none 014
  |bl j=>cases O;show PySem.EqMixed.ne_str_bool 014
  |int j=>let(t',rfl):=O;show PySem.EqMixed.ne_str_int 014
  |str j=>let(t',rfl):=O;show ne_str<|za5 I q (congrArg not zth)
  |_=>show Xa (show Fa=N from hs) y0f
 |byt i =>
  let(t,rfl):=T;cases y with
  |byt j=>let(t',rfl):=O;show PySem.W.ne_bytes<|za5 I q (congrArg not ztj)
  |_=>show Xa (show Fa=N from hs) y0f
 |_=>cases y<;>show Xa (show Fa=N from hs) y0f
theorem zpd:OpR X (i4 .Lt) (rI0 λi j=>.bl<|decide (i<j)):=opB0 λ_ _ _ _ _ _ _ q=>lt_int q
theorem op_le:OpR X (i4 .LtE) (rI0 λi j=>.bl<|decide (i<=j)):=opB0 λ_ _ _ _ _ _ _ q=>le_int q
theorem zpf:OpR X (i4 .Gt) (rI0 λi j=>.bl<|decide (j<i)):=opB0 λ_ _ _ _ _ _ _ q=>gt_int q
theorem zko:OpR X (i4 .In) (λx y H Q=>∃i j,x=.str i/\y=.str j/\Q (.bl<|!(Builtin.Str.occurrences j i 0 j.length 1).isEmpty) H):=by
 intro pins s σ H x y v u Q I T O h;let(i,j,rfl,rfl,q):=h;let(t,rfl):=T;let(t',rfl):=O;show in_str<|za5 I q R
theorem nomark(b:Expr)(h:Y ≠ .In:=by decide)(J:Y ≠ .NotIn:=by decide):jL Y b=Fa:=by
 let g:(Y==CmpOp.In)=Fa:=by cases Y<;>first|rfl|show Xa R h
 let C:(Y==CmpOp.NotIn)=Fa:=by cases Y<;>first|rfl|show Xa R J
 cases b<;>simp[jL,g,C]
theorem za8(D:OpR X (i4 Y) r)(d:PE X a ta)(U:PE X b tb)(M:jL Y b=Fa):PE X (.Compare a [Y] [b] pos) (tOp r ta tb):=by
 intro pins s σ H Q I h;show wpAny_Compare1 (binT d U I h λv u s2 x y H2 w T O q=>D pins s2 σ H2 x y v u Q w T O q) M
def tTest(t:TE):TT:=λσ H Q=>t σ H λx H'=>asB x λk=>Q k H'
theorem zak(D:OpR X (i4 Y) r)(ha:PE X a ta)(U:PE X b tb)(M:jL Y b=Fa):PT X (.Compare a [Y] [b] pos) (tTest<|tOp r ta tb):=by
 intro pins s σ H Q I h;apply wpAny_isTrue_Compare1 (thn 035 λv s1 zz=>ex5 zz λx H1 I1 r1 E=>thn (U pins s1 σ H1 _ I1 E) λu s2 zz=>ex5 zz λy H2 w l i =>
  thn (D pins s2 σ H2 x y v u _ w r1 l i) λc j zz=>ex5 zz λz H3 A O g=>?_) M
 let(k,e,g):=zuf g;subst e;cases O;show iE ⟨H3,A,g⟩
def tChain(r r':R2)(ta tb tc:TE):TE:=λσ H Q=>ta σ H λx H1=>tb σ H1 λy H2=>r x y H2 λz H3=>asB z λk =>
 (if k=N then tc σ H3 λw' H4=>r' y w' H4 Q else Q (.bl Fa) H3)
theorem zvn(D:OpR X (i4 Y) r)(f:OpR X (i4 q) r')(ha:PE X a ta)(U:PE X b tb)(C:PE X c tc)
  (M:lastMarks [Y,q] [b,c]=Fa:=by with_unfolding_all rfl):PE X (.Compare a [Y,q] [b,c] pos) (tChain r r' ta tb tc):=by
 intro pins s σ H Q I h;apply Compare_chain (thn 035 λv s1 zz=>ex5 zz λx H1 I1 r1 E=>chain_link (thn (U pins s1 σ H1 _ I1 E) λu s2 zz=>ex5 zz λy H2 w l i =>
  thn (D pins s2 σ H2 x y v u _ w r1 l i) λd j zz=>ex5 zz λz H3 A O g=>?_)) M
 let(k,e,g):=zuf g;subst e;cases O;apply iE ?_;cases k with
 |false=>show ite_ff ⟨.bl Fa,H3,A,R,g⟩
 |true=>show ite_tt<|chain_last (thn (C pins j σ H3 _ A g) λw' p zz=>ex5 zz λL H4 T o J=>f pins p σ H4 y L u w' Q T l o J)
def TruV(K:Frag)(x:V)(H:Hp)(k:Bool):Prop :=
 match x with
 |.non=>k=Fa
 |.bl b=>k=b
 |.int i=>k=(i !=0)
 |.str y=>y.length<=ii/\k=((y.length:Int) !=0)
 |.byt y=>y.size<=ii/\k=((y.size:Int) !=0)
 |.ref p=>(∃xs,SqL K H p xs/\k=!xs.isEmpty)\/(∃xs,SqT K H p xs/\k=!xs.isEmpty)\/∃kvs,H p=G (.dK kvs)/\k=!kvs.isEmpty
 |_=>False
theorem zp1{d:Type}{kvs:List (d×V)}{vs:List (d×Va)}(r:KV kvs vs):(!vs.isEmpty)=!kvs.isEmpty:=by
 cases r<;>rfl
theorem zh1(r:Vals xs its):(!its.toArray.isEmpty)=!xs.isEmpty:=by
 cases r<;>simp
theorem line63:(ii:Nat)<2^63:=by rw[jz];decide
theorem tru_ok:TruR X (λx H Q=>∃k,TruV X.K x H k/\Q k H):=by
 intro pins s σ H x v Q I T h;let(k,e,q):=h;let Y:=line63;let hs:ii=16777216:=jz;cases x with
 |non =>
  cases T;let f:k=Fa:=e;subst f;show truthy_none ⟨H,I,q⟩
 |bl b =>
  cases T;let f:k=b:=e;subst f;show iE ⟨H,I,q⟩
 |int i =>
  let(t,rfl):=T;let f:k=(i !=0):=e;subst f;show PySem.P.truthy_int ⟨H,I,q⟩
 |str y =>
  let(t,rfl):=T;obtain⟨U,f⟩:y.length<=ii/\k=((y.length:Int) !=0):=e;subst f;show PySem.P.truthy_str 00 ⟨H,I.tok _,q⟩
 |byt y =>
  let(t,rfl):=T;obtain⟨U,f⟩:y.size<=ii/\k=((y.size:Int) !=0):=e;subst f;show PySem.W.truthy_bytes 00 ⟨H,I.tok _,q⟩
 |ref p =>
  cases T;let f:(∃xs,SqL X.K H p xs/\k=!xs.isEmpty)\/(∃xs,SqT X.K H p xs/\k=!xs.isEmpty)\/∃kvs,H p=G (.dK kvs)/\k=!kvs.isEmpty:=e;rcases f with⟨xs,O,f⟩|⟨xs,O,f⟩|⟨kvs,O,f⟩
  .subst f;let(its,r,l,hz):=I.list O;let L:=r.length;show wpAny_truthy_list l.isList (by simp only[y06];omega) ⟨H,I.tok _,by rw[zh1 r];show q⟩
  .subst f;let(its,r,l,hz):=I.tuple O;let L:=r.length;show truthy_tuple l (by simp only[y06];omega) ⟨H,I.tok _,by rw[zh1 r];show q⟩
  .subst f;obtain⟨hz,j,vs,r,m⟩:kvs.length<=ii/\(p==iK)=Fa/\∃vs,KV kvs vs/\s.heap.DictOf (mixKind X.prog X.w) p vs:=I.hok p _ O;let L:kvs.length=vs.length:=Paired.length r;show wpAny_truthy_dict j m 00 ⟨H,I.tok _,by rw[zp1 r];show q⟩
 |_=>show(show False from e).elim
theorem znw(ha:PE X a ta)(L:∀f,isTrue a X.env f=(do let v ←f;standAt a.pos;holding [v] (truthy v))):
  PT X a (λσ H Q=>ta σ H λx H'=>∃k,TruV X.K x H' k/\Q k H'):=by
 intro pins s σ H Q I h;show isTrue_plain (thn 035 λv s1 zz=>ex5 zz λx H1 I1 r1 E=>tru_ok pins s1 σ H1 x v Q I1 r1 E)<|L _
theorem zb8:OpR X (iF .Add) (λx y H Q=>∃i j,x=.str i/\y=.str j/\i.length+j.length<=ii/\Q (.str<|i++j) H):=by
 intro pins s σ H x y v u Q I T O h;let(i,j,rfl,rfl,hz,q):=h;let(t,rfl):=T;let(t',rfl):=O;show add_str (λt' J=>⟨.str<|i++j,H,I.tok _,⟨_,R⟩,q⟩) hz
theorem vals1(r:Vals [x] us):∃u,us=[u]/\RelV x u:=by
 cases r with
 |cons r1 l=>cases l;show⟨_,R,r1⟩
theorem vals2(r:Vals [x,y] us):∃u w',us=[u,w']/\RelV x u/\RelV y w':=by
 cases r with
 |cons r1 l =>
  cases l with
  |cons O o=>cases o;show⟨_,_,R,r1,O⟩
theorem zc6:CallR X (.type "int") (λxs H Q=>(∃i,xs=[.int i]/\Q (.int i) H)\/∃k,xs=[.bl k]/\Q (.int<|if k then 1 else 0) H):=by
 intro pins s σ H xs us Q I r h;rcases h with⟨i,rfl,q⟩|⟨k,rfl,q⟩
 .let(u,rfl,t,rfl):=vals1 r;show call_int_int ⟨.int i,H,I,⟨_,R⟩,q⟩
 .let(u,rfl,r1):=vals1 r;cases r1;show call_int_bool ⟨.int<|if k then 1 else 0,H,I.tok _,⟨_,R⟩,q⟩
end
structure ObjM(h:Heap)(x dx C:Ad)(mA:Y1):Prop where
 obj:h.get? x=G (PySem.W.instObj C dx)
 ns:h.Ns1 dx mA
 ne:dx≠x
theorem zso{h:Heap}(n:h.Ns1 dx g):∃j,h.get? dx=G j/\∀name,PySem.W.lookIn name j=G (g name):=by
 let(o,l,ep,D,hd,M,_,A):=n;apply⟨o,D,λname=>?_⟩;let e:=A name;unfold nsFind lq at e;rw[←Array.find?_toList]at e;unfold PySem.W.lookIn;rw[hd];dsimp only;split
 .rename_i y q;rw[q]at e;show congrArg G e
 .rename_i q;rw[q]at e;let a:l.toList.any (·.refKey)=Fa:=by
   rw[List.any_eq_false];intro y U;let(z,t,c):=M y<|Array.mem_toList_iff.mp U;simp[DictEntry.refKey,c]
  let s:¬l.toList.any (·.refKey)=N:=by rw[a];show y0f
  rw[Xp s];show congrArg G e
theorem ObjM.look(I:ObjM h x dx C g):∃j,PySem.W.InstAt h x (PySem.W.instObj C dx) C (G j)/\∀name,PySem.W.lookIn name j=G (g name) :=
 let⟨j,D,Y⟩:=zso I.ns
 ⟨j,⟨I.obj,R,R,D⟩,Y⟩
theorem RelO.some_of(r:RelO (G v) o):∃u,o=G u/\RelV v u:=by
 cases o with
 |none=>show(show False from r).elim
 |some u=>show⟨u,R,r⟩
section
variable {P:ik}{w:World}{H H':Hp}{h h':Heap}{a C dx:Ad}{fs fs':List (Str×V)}
theorem ins_get(hok:HOk P w H h)(e:H a=G (.ins C dx fs)):∃g,ObjM h a dx C g/\(∀f,RelO (fs.lookup f)<|g f)/\PySem.Within g (fs.map (·.1))/\fs.length<=1000/\H dx=G (.own a):=by
 let(d,z,ne,ob,g,n,r,q):=(show ObjOk P w H h a (.ins C dx fs)from hok a _ e);show⟨g,⟨ob,n,ne⟩,r,q,z,d⟩
end
structure Cls(K:Frag)(C:Ad):Prop where
 pg:PySem.W.plainGet K C Str.empty=N
 hd:PySem.W.hasDictIn K C=N
 po:PySem.W.plainOver K C=N
 sa:PySem.W.findIn K (.ref C) "__setattr__"=G (G<|.builtin "object.__setattr__")
theorem Cls.get{K:Frag}{C:Ad}(c:Cls K C)(f:Str):PySem.W.plainGet K C f=N:=c.pg
section
variable {X:Cx}{pins:Y2}{σ:St}{H:Hp}{s:ig}{A:io}{E:Y0}{Q:Y0}{c:Va}{b:Bool}
inductive TyOf(K:Frag)(H:Hp):V->Va->Prop where
 |non:TyOf K H .non<|.type "NoneType"
 |bl (x:Bool):TyOf K H (.bl x)<|.type "bool"
 |int (i:Int):TyOf K H (.int i)<|.type "int"
 |str (x:Str):TyOf K H (.str x)<|.type "str"
 |flt (x:UInt64):TyOf K H (.flt x)<|.type "float"
 |lst {a:Ad} {xs:List V} (e:H a=G (.lst xs)):TyOf K H (.ref a)<|.type "list"
 |frz {a:Ad} {o:Obj} {xs:List V} (e:H a=G (.frz o<|.lst xs)):TyOf K H (.ref a)<|.type "list"
 |tup {a:Ad} {xs:List V} (e:H a=G (.tup xs)):TyOf K H (.ref a)<|.type "tuple"
 |dK {a:Ad} {kvs:List (Key×V)} (e:H a=G (.dK kvs)):TyOf K H (.ref a)<|.type "dict"
 |dT {a:Ad} {kvs:List (List Key×V)} (e:H a=G (.dT kvs)):TyOf K H (.ref a)<|.type "dict"
 |ins {a C dx:Ad} {fs:List (Str×V)} (e:H a=G (.ins C dx fs)) (cl:Cls K C) (ha:PySem.W.findIn K (.ref C) "__class__"=G (G<|.builtin "object.__class__"))
   (hn:PySem.W.specialIn K (.builtin "object.__class__") "__get__"=G (G<|.builtin "getset_descriptor.__get__")) (htk:PySem.W.takesIn K (.builtin "object.__class__")=G N)
   (hm:PySem.W.mroIn K C (.type "object")=G N):TyOf K H 07<|.ref C
theorem zsy(I:02 H s)(T:RelV x u)(ty:TyOf X.K H x t)(e:PySem.W.kitOne X.K t c=G b)(h:∀D,Q (.bool b) {s with toks:=D}):
  wpAny 20 A (call (.builtin "isinstance") [u,c]) Q E s:=by
 cases ty with
 |non=>cases(show u=Va.none from T);show PySem.W.kia_one PySem.W.kitx_none I.kIn True.intro e (λz=>nomatch z) h
 |bl y=>cases(show u=Va.bool y from T);show PySem.W.kia_one PySem.W.kitx_bool I.kIn True.intro e (λz=>nomatch z) h
 |int i=>let(t,q):=(show∃t,u=Va.int i t from T);cases q;show PySem.W.kia_one PySem.W.kitx_int I.kIn True.intro e (λz=>nomatch z) h
 |str y=>let(t,q):=(show∃t,u=Va.str y t from T);cases q;show PySem.W.kia_one PySem.W.kitx_str I.kIn True.intro e (λz=>nomatch z) h
 |flt y=>let(t,q):=(show∃t,u=Va.float y t from T);cases q;show PySem.W.kia_one PySem.W.kitx_float I.kIn True.intro e (λz=>nomatch z) h
 |@lst a xs r =>
  cases(show u=Va.ref a from T);let(_,_,n,_,L):=(show ObjOk X.prog X.w H s.heap a (91)from I.hok a _ r);show PySem.W.kia_one PySem.W.kitx_list I.kIn ⟨_,L,R⟩ e (λz=>nomatch z) h
 |@frz a ob xs r =>
  cases(show u=Va.ref a from T);let(_,_,_,n,_,L):=(show ObjOk X.prog X.w H s.heap a (.frz ob 91)from I.hok a _ r);show PySem.W.kia_one PySem.W.kitx_list I.kIn ⟨_,L,R⟩ e (λz=>nomatch z) h
 |@tup a xs r =>
  cases(show u=Va.ref a from T);let(_,_,_,p):=(show ObjOk X.prog X.w H s.heap a (98)from I.hok a _ r);let(o,L,f,_):=p;show PySem.W.kia_one PySem.W.kitx_tuple I.kIn ⟨o,L,f⟩ e (λz=>nomatch z) h
 |@dK a kvs r =>
  cases(show u=Va.ref a from T);let(_,_,vs,_,p):=(show ObjOk X.prog X.w H s.heap a (.dK kvs)from I.hok a _ r);let(o,l,ep,L,f,_):=p;show PySem.W.kia_one PySem.W.kitx_dict I.kIn ⟨o,L,f.1⟩ e (λz=>nomatch z) h
 |@dT a kvs r =>
  cases(show u=Va.ref a from T);let(_,_,xs,_,o,l,ep,L,f,_):=(show ObjOk X.prog X.w H s.heap a (.dT kvs)from I.hok a _ r);show PySem.W.kia_one PySem.W.kitx_dict I.kIn ⟨o,L,f.1⟩ e (λz=>nomatch z) h
 |@ins a C dx fs r cl d w Y M =>
  cases(show u=Va.ref a from T);let(g,O,_):=ins_get I.hok r;let(j,J,_):=O.look;show PySem.W.kia_one (PySem.W.kitx_own (cl.get _) cl.hd d w Y M) I.kIn J e (λz=>nomatch z) h
end
structure Room(k:Nat)(A:io):Prop where
 hd:A.handled=B
 dp:A.depth+3*k+5<jX
 un:A.units+16*k+200<cLine
theorem Room.mono(r:Room k A)(h:j<=k):Room j A:=⟨r.hd,by have:=r.dp;omega,by have:=r.un;omega⟩
theorem Room.deeper(r:Room (k+1) A)(env:Env):Room k (A.deeper env) :=
 ⟨r.hd,by have:=r.dp;change A.depth+1+3*k+5<_;omega,by have:=r.un;change A.units+3+16*k+200<_;omega⟩
theorem Room.depth(r:Room k A):A.depth<jX:=by have:=r.dp;omega
theorem Room.units(r:Room k A):A.units+64<cLine:=by have:=r.un;omega
def tNil:TA:=λ_ H Q=>Q [] H
def tCons(l:TE)(I:TA):TA:=λσ H Q=>l σ H λx H1=>I σ H1 λxs H2=>Q (x::xs) H2
section
variable {X:Cx}{e:Expr}{es:List Expr}{te:TE}{t:TA}{pos:Pos}
theorem zaa:PA X [] tNil:=λ_ _ _ _ H Q I h=>Calls.spliced_nil ⟨[],H,I,.nil,h⟩
theorem zy7(ha:PE X e te)(D:PA X es t)(hs:iq (e::es) X.env=036::iq es X.env:=by rfl):PA X (e::es) (tCons te t):=by
 intro pos pins s σ H Q I h;rw[hs];change wpAny _ _ (spliced (036::jh pos (iq es X.env))) _ _ s;apply Calls.spliced_cons<|thn 035 λu s1 zz=>ex5 zz λx H1 I1 r1 E=>?_;show thn (D pos pins s1 σ H1 _ I1 E) λus s2 zz=>ex5 zz λxs H2 w l i=>⟨x::xs,H2,w,.cons r1 l,i⟩
def tTup(t:TA):TE:=λσ H Q=>t σ H λxs H1=>xs.length<=ii/\∀p,H1 p=B->Q 09 (upd H1 p 98)
def tLst(t:TA):TE:=λσ H Q=>t σ H λxs H1=>xs.length<=ii/\∀p,H1 p=B->Q 09 (upd H1 p 91)
end
abbrev Sp:=List V->Hp->VK->XK->Prop
abbrev CXT:=List Env->Hp->ig->XK->Va->ig->Prop
structure Env0(P:ik)(w:World)(K:Frag)(mg:Y1)(base:Heap)(A:io)(outer:List Env)(s:ig)(H:Hp):Prop where
 frames:A.frames=G outer
 mod:Mod K mg base
 bs:∀b o,base.get? b=G o->s.heap.get? b=G o/\H b=B
 bsz:base.objs.size<=s.heap.objs.size
 funs:s.heap.FunFrames base outer
 frf:∀b∈frs outer,H b=B
 hok:HOk P w H s.heap
 bare:j8 s.gens
def CE(outer:List Env)(P:ik)(w:World)(H:Hp)(s:ig)(Q:VK)(u:Va)(s':ig):Prop :=
 ∃v H',s'.os=s.os/\j8 s'.gens/\Un (frs outer) [] H H' s.heap s'.heap/\HOk P w H' s'.heap/\RelV v u/\Q v H'
def CR(CX:CXT)(outer:List Env)(P:ik)(w:World)(H:Hp)(s:ig)(Q:VK)(E:XK)(r:Result)(s':ig):Prop :=
 match r with
 |.ok (.ret u)=>CE outer P w H s Q u s'
 |.ok _=>False
 |.error e=>CX outer H s E e s'
structure FnOk(P:ik)(w:World)(K:Frag)(mg:Y1)(base:Heap)(CX:CXT)(k:Nat)(f:Ad)(fd:i6)(ps:List Str)(sp:Sp):Prop where
 len:∀vs H Q E,sp vs H Q E->vs.length=ps.length
 run:∀(A:io) (outer:List Env) (s:ig) (H:Hp) (args:Args) (us:List Va) (vs:List V) (Q:VK) (E:XK),Room k A->Env0 P w K mg base A outer s H->lh s fd args 018->Vals vs us->sp vs H Q E->
  jc 78 A (.call 61 args) (CR CX outer P w H s Q E) s
theorem FnOk.mono{P:ik}{w:World}{K:Frag}{mg:Y1}{base:Heap}{CX:CXT}{j k:Nat}{f:Ad}{fd:i6}{ps:List Str}{sp:Sp}(F:FnOk P w K mg base CX j f fd ps sp)(h:j<=k):
  FnOk P w K mg base CX k f fd ps sp:=⟨F.len,λA outer s H args us vs Q E D=>F.run A outer s H args us vs Q E<|D.mono h⟩
section
variable {X:Cx}{pins:Y2}{σ:St}{H:Hp}{s s':ig}
theorem Inv.env0(I:02 H s):Env0 X.prog X.w X.K X.mg X.base X.A X.stack s H :=
 ⟨I.ok.frames,I.ok.mod,I.bs,y14 I.ok.bsz I.sz,I.stack,I.stkFree,I.hok,I.bare⟩
theorem Inv.after(I:02 H s)(h:CE X.stack X.prog X.w H s Q u s'):EP X pins σ Q u s':=by
 let(v,H',os,bare,un,hok,r,q):=h;let(a,g,d,t,x):=s';obtain rfl:x=s.os:=os;show⟨v,H',I.call (h':=a) (g':=g) (d':=d) (t':=t) (ch:=[]) un hok bare λb z=>Xa z 06,r,q⟩
end
def tCall(sp:Sp)(a:List V)(E:XK)(t:TA):TE:=λσ H Q=>t σ H λvs H1=>sp (vs++a) H1 Q E
def Binds(K:Frag)(fd:i6)(ps:List Str)(ds:List Va):Prop :=
 ∀(s:ig) (us:List Va),K.In s.heap->(us++ds).length=ps.length->lh s fd 019 (ps.zip<|us++ds)
theorem Binds.all{K:Frag}{fd:i6}{ps:List Str}(h:∀us:List Va,us.length=ps.length->je fd 019=pure 018):Binds K fd ps []:=λs us _ Y=>by
 rw[y1t]at Y ⊢;show .of_eq<|h us Y
def Passes(CX:CXT)(X:Cx)(E:XK):Prop:=∀(pins:Y2) (σ:St) (H:Hp) (s:ig) (e:Va) (s':ig),02 H s->CX X.stack H s E e s'->X.xe e s'
section
variable {X:Cx}{CX:CXT}{k:Nat}{f C:Ad}{fd:i6}{ps:List Str}{sp:Sp}{dvs:List V}{ds:List Va}{E:XK}{x m:Str}{p pos apos:Pos}{e o:Expr}{es:List Expr}{ta:TE}{t:TA}
theorem znr{pins:Y2}{σ:St}{H:Hp}{s:ig}{Q:VK}{us:List Va}{vs:List V}(F:FnOk X.prog X.w X.K X.mg X.base CX k f fd ps sp)(D:Room k X.A)(U:Binds X.K fd ps ds)(hd:Vals dvs ds)(O:Passes CX X E)
  (I:02 H s) (r:Vals vs us) (h:sp (vs++dvs) H Q E):wpAny 20 X.A (call 61 us) 028 X.xe s:=by
 let l:Vals (vs++dvs) (us++ds):=r.append hd;let Y:(us++ds).length=ps.length:=by rw[←l.length];show F.len _ _ _ _ h
 apply ji<|iI (F.run X.A X.stack s H 019 (us++ds) (vs++dvs) Q E D I.env0 (U s us I.kIn Y) l h) λr s' A=>?_;cases r with
 |error e=>show O pins σ H s e s' I A
 |ok a =>
  cases a with
  |ret u=>show I.after A
  |next=>show False.elim A
  |brk=>show False.elim A
  |cont=>show False.elim A
theorem zy2(F:FnOk X.prog X.w X.K X.mg X.base CX k f fd ps sp)(D:Room k X.A)(y:Gl X x)(A:X.mg x=G 61)(M:PySem.W.keepIn X.K 61=N)(U:Binds X.K fd ps ds)(hd:Vals dvs ds)(O:Passes CX X E)
  (ha:PA X (e::es) t) (w:010=Fa:=by decide) (L:iq (e::es) X.env=036::iq es X.env:=by rfl) (z:(jh pos<|iq es X.env).any (·.1)=Fa:=by rfl) :
  PE X 024 (tCall sp dvs E t):=by
 intro pins s σ H Q I h;apply iA<|zd2 I y A ?_ w;apply PySem.W.callWith_K (h₀:=X.base) I.ok.mod.kin M (thn 051 λus s1 zz=>ex5 zz λvs H1 I1 r q=>⟨I1.kIn,?_⟩) L z;show znr F D U hd O I1 r q
theorem zvr(F:FnOk X.prog X.w X.K X.mg X.base CX k f fd ps sp)(D:Room k X.A)(y:Gl X x)(A:X.mg x=G 61)(M:PySem.W.keepIn X.K 61=N)(U:Binds X.K fd ps ds)(hd:Vals dvs ds)(O:Passes CX X E)
  (w:010=Fa:=by decide):PE X (.Call (.Name x p) [] [] pos) (tCall sp dvs E tNil):=by
 intro pins s σ H Q I h;apply iA<|zd2 I y A ?_ w;show PySem.W.callWith_K0 I.kIn M<|znr (us:=[]) F D U hd O I .nil h
end
structure FnScope(Nq P:List Str)(sc:Scope):Prop where
 kind:sc.kind=.function:=by rfl
 co:sc.isCoroutine=Fa:=by rfl
 gen:sc.isGenerator=Fa:=by rfl
 nd:Nq.Nodup:=by decide+kernel
 pre:Nq.take P.length=P:=by rfl
 par:∀x∈P,sc.names.lookup x=G .local\/sc.names.lookup x=G .cell:=by decide+kernel
 nofree:∀y∈sc.names,y.2 ≠ .free:=by decide+kernel
theorem zlj{jw:Str->Option jj}{x:Str}:∀{binds:List (Str×Va)} {m:Y1},(∀v,(x,v)∉binds)->bindL jw binds m x=m x
 |[],_,_=>rfl
 |(n,v)::r,m,h=>by
  unfold bindL;rw[zlj λw j=>h w<|y07 _ j];split
  .let:x≠n:=by rintro rfl;show h v y0a
   simp[this]
  .rfl
theorem zlk{jw:Str->Option jj}{x:Str}:∀{binds:List (Str×Va)} {m:Y1},(∀v,(x,v)∉binds)->bindC jw binds m x=m x
 |[],_,_=>rfl
 |(n,v)::r,m,h=>by
  unfold bindC;rw[zlk λw j=>h w<|y07 _ j];split
  .rfl
  .let:x≠n:=by rintro rfl;show h v y0a
   simp[this]
theorem zgs{jw:Str->Option jj}{x:Str}{v:Va}:∀{P:List Str} {vs:List Va} {i:Nat} {m:Y1},P.Nodup->P[i]?=G x->vs[i]?=G v->jw x=G .local->
  bindL jw (P.zip vs) m x=G v
 |[],_,_,_,_,h,_,_=>by simp at h
 |_::_,[],_,_,_,_,h,_=>by simp at h
 |p::P,w::vs,0,m,nd,L,J,M=>by
  simp at L J;subst L;subst J;change bindL jw ((p,w)::P.zip vs) m p=_;unfold bindL;rw[zlj λv hv=>(y1o.mp nd).1 (y26 hv).1,Xq M];simp
 |p::P,w::vs,i+1,m,nd,L,J,M=>by
  change bindL jw ((p,w)::P.zip vs) m x=_;unfold bindL;show zgs (i:=i) (y1o.mp nd).2 (by simpa using L) (by simpa using J) M
theorem zgt{jw:Str->Option jj}{x:Str}{v:Va}:∀{P:List Str} {vs:List Va} {i:Nat} {m:Y1},P.Nodup->P[i]?=G x->vs[i]?=G v->jw x≠G .local->
  bindC jw (P.zip vs) m x=G v
 |[],_,_,_,_,h,_,_=>by simp at h
 |_::_,[],_,_,_,_,h,_=>by simp at h
 |p::P,w::vs,0,m,nd,L,J,M=>by
  simp at L J;subst L;subst J;change bindC jw ((p,w)::P.zip vs) m p=_;unfold bindC;rw[zlk λv hv=>(y1o.mp nd).1 (y26 hv).1,Xp M];simp
 |p::P,w::vs,i+1,m,nd,L,J,M=>by
  change bindC jw ((p,w)::P.zip vs) m x=_;unfold bindC;show zgt (i:=i) (y1o.mp nd).2 (by simpa using L) (by simpa using J) M
noncomputable def start(Nq:List Str)(vs:List V):St:=vs.map G++List.replicate (Nq.length-vs.length) B
noncomputable def cxOf(CX:CXT)(P:ik)(w:World)(K:Frag)(mg:Y1)(base:Heap)(Nq:List Str)(qual:Str)(scope:Scope)(f:Ad)(cd:Va)(A:io)(outer:List Env)(s:ig)(H:Hp)(E:XK):Cx where
 prog:=P
 w:=w
 K:=K
 mg:=mg
 base:=base
 A:=A.deeper 065
 Nq:=Nq
 s₀:=s
 H₀:=H
 env:=jd qual scope s.heap.objs.size f cd
 outer:=outer
 stack:=jd qual scope s.heap.objs.size f cd::outer
 ex:=[]
 calm:=N
 fn:=λ_=>N
 pn:=[]
 xe:=λe s'=>wpAny 78 (A.deeper 065) (lz 065 e) (λ_ d=>CX outer H s E e d) (λj d=>CX outer H s E j d) s'
theorem zdo{a:Scope}(h:a.names.lookup x=G .cell):∃c,(iu n a.names []).lookup x=G c:=by
 let q:=PySem.W.cellsFrom_some a.names n []<|.inl h;show y36.mp q
theorem zgg{CX:CXT}{P:ik}{w:World}{K:Frag}{mg:Y1}{base:Heap}{Nq ps:List Str}{qual:Str}{scope:Scope}{f:Ad}{cd:Va}{A:io}{outer:List Env}{s s1:ig}{H:Hp}{E:XK}{us:List Va}{vs:List V}
  (S:FnScope Nq ps scope) (hd:A.handled=B) (I:Env0 P w K mg base A outer s H) (Y:vs.length=ps.length) (r:Vals vs us)
  (x:jy s s.heap.objs.size (bindL (065).kindOf 018 λ_=>B) 038 (bindC (065).kindOf 018 λ_=>B) s1) :
  Inv (cxOf CX P w K mg base Nq qual scope f cd A outer s H E) [] 026 H s1:=by
 let j:ps.length<=Nq.length:=by have:=congrArg List.length S.pre;rw[y0w]at this;omega
 let(L,D,rfl,M):=x.done;let Q:∀b:Ad,b∉(cxOf CX P w K mg base Nq qual scope f cd A outer s H E).ex:=λb z=>Xa (show b∈([]:List Ad)from z) 06;apply⟨⟨I.mod,S.kind,R,R,y05 _,λy z c L J=>?_,λy U=>?_,λy c _ h=>?_,λ_=>hd,Around.frames_deeper I.frames,.inr ⟨R,R⟩,λb z=>Xa z<|Q b,I.bs,I.bsz,λb _ _=>Q b,λb z=>Xa z<|Q b,I.funs,I.frf⟩,
  rfl,I.bare,Un.kept M,⟨_,x.toInCall.ns,λi y v L J o=>?_⟩,λy c h=>⟨_,x.cell y c h⟩,I.hok.fresh 08,λy c h=>?_,λp O=>Xa (show p∈([]:Y2)from O) 06,I.hok.kept M,?_⟩
 .exact name_of_addr x.apart (PySem.mem_of_lookup L)<|PySem.mem_of_lookup J
 .let U:scope.names.lookup y=G .cell\/scope.names.lookup y=G .free:=U;rcases U with U|U
  .exact zdo U
  .exact Xa R<|S.nofree _ (PySem.mem_of_lookup U)
 .exact y1r<|x.above y c (PySem.mem_of_lookup h)
 .let hi:i<vs.length:=by
   unfold start at J;by_cases hi:i<vs.length
   .exact hi
   .rw[y12<|by simpa using hi]at J;rw[y3a]at J;split at J<;>cases J
  let d:vs[i]?=G v:=by
   unfold start at J;rw[y16 (by simpa using hi),y03]at J;cases e:vs[i]? with
   |none=>rw[e]at J;cases J
   |some a=>rw[e]at J;cases J;rfl
  let(u,C,l):=r.get d;let O:ps[i]?=G y:=by
   rw[←S.pre,y4c 00];show L
  let g:ps.Nodup:=by rw[←S.pre];show S.nd.sublist<|List.take_sublist _ _
  apply⟨u,l,?_⟩;rcases S.par y (y0n O)with k|k
  .exact .inl ⟨k,zgs g O C k⟩
  .let(c,e):=zdo (n:=s.heap.objs.size+1) k;apply .inr ⟨.inl k,c,e,?_⟩;let q:=x.cell y c e;rw[zgt g O C<|by change scope.names.lookup y≠_;rw[k];decide]at q;show q
 .exact I.hok.fresh<|y1r (x.above y c<|PySem.mem_of_lookup h)
 .unfold start;change _=Nq.length;rw[y0d,y01,y2j];omega
theorem fn_of{CX:CXT}{P:ik}{w:World}{K:Frag}{mg:Y1}{base:Heap}{k:Nat}{f:Ad}{name qual:Str}{params:iL}{body:List Stmt}{scope:Scope}{dV kV doc pm cdv ct oc:Va}{an j:Option Ad}
  {z:Y8} {Nq ps:List Str} {sp:Sp} (lk:K.lookup f=G ⟨oc,j,.func 068,z⟩) (hcd:PySem.W.codeIn K cdv qual=N) (S:FnScope Nq ps scope)
  (len:∀vs H Q E,sp vs H Q E->vs.length=ps.length)
  (i:∀(A:io) (outer:List Env) (s:ig) (H:Hp) (vs:List V) (Q:VK) (E:XK),Room k (A.deeper<|jd qual scope s.heap.objs.size f cdv)->sp vs H Q E->
   ∃t,PSs 058 body t/\t {nx:=λ_ H'=>Q .non H',rt:=Q} 026 H) :
  FnOk P w K mg base CX (k+1) f 068 ps sp:=by
 apply⟨len,λA outer s H args us vs Q E D e0 U r a=>?_⟩;let Y:=len _ _ _ _ a;let KX:K.In s.heap:=e0.mod.kin.keeps λb o e=>(030).1;let c:s.heap.NoLimit:=e0.mod.nolimit.keeps λb o e=>(030).1;let g:∀y∈ps.zip us,scope.names.lookup y.1=G .local\/(scope.names.lookup y.1=G .cell/\((038).lookup y.1).isSome=N):=λ⟨n,v⟩ l=>by
  rcases S.par n (y26 l).1 with q|q
  .exact .inl q
  .exact .inr ⟨q,PySem.W.cellsFrom_some _ _ _<|.inl q⟩
 apply iW D.depth (KX _ _ lk) R S.co S.gen R (PySem.W.codeRec_of KX hcd)<|U _ _ _ _ ?_;apply jk S.kind g λenv L s1 x=>?_;subst L;apply⟨c.keeps x.toInCall.keep,j9 ?_⟩;let(t,p,C):=i A outer s H vs Q E (D.deeper _) a;let I:Inv 058 [] 026 H s1:=zgg S D.hd e0 Y r x;apply iw (p [] s1 026 H _ I C) (λO s' hs=>?_) λe s' hs=>hs;let fin:∀{M:St} {H':Hp} {v:V} {u:Va},Inv 058 [] M H' s'->RelV v u->Q v H'->CE outer P w H s Q u s' :=
  λ{M H' v u} J d q=>⟨v,H',J.os,J.bare,J.base,J.hok,d,q⟩
 cases O with
 |ret u =>
  let(v,M,H',J,d,q):=hs;show fin J d q
 |next =>
  let(M,H',J,q):=hs;show fin (v:=V.non) (u:=Va.none) J R q
 |brk =>
  let(_,_,_,q):=hs;show False.elim q
 |cont =>
  let(_,_,_,q):=hs;show False.elim q
section
variable {X:Cx}{x:Str}{p pos:Pos}{e:Expr}{es:List Expr}{t:TA}{id T:String}{r:List V->Hp->VK->Prop}
def tCB(r:List V->Hp->VK->Prop)(t:TA):TE:=λσ H Q=>t σ H λvs H1=>r vs H1 Q
theorem zvp(C:CallR X (.builtin id) r)(y:Gl X x)(M:X.mg x=B)(hv:ja x=G (.builtin id))(ha:PA X (e::es) t)(J:x≠"__name__":=by decide)(w:010=Fa:=by decide)
  (L:iq (e::es) X.env=036::iq es X.env:=by rfl) (z:(jh pos<|iq es X.env).any (·.1)=Fa:=by rfl):PE X 024 (tCB r t):=by
 intro pins s σ H Q I h;apply iA<|zdq I y M hv ?_ J w;show PyProof.Rows.callWith_builtin1 (thn 051 λus s1 zz=>ex5 zz λvs H1 I1 r1 E=>C pins s1 σ H1 vs us Q I1 r1 E) L z
theorem zru(C:CallR X (.type T) r)(y:Gl X x)(M:X.mg x=B)(hv:ja x=G (.type T))(ha:PA X (e::es) t)(J:x≠"__name__":=by decide)(w:010=Fa:=by decide)
  (L:iq (e::es) X.env=036::iq es X.env:=by rfl) (z:(jh pos<|iq es X.env).any (·.1)=Fa:=by rfl):PE X 024 (tCB r t):=by
 intro pins s σ H Q I h;apply iA<|zdq I y M hv ?_ J w;show PyProof.Rows.callWith_type1 (thn 051 λus s1 zz=>ex5 zz λvs H1 I1 r1 E=>C pins s1 σ H1 vs us Q I1 r1 E) L z
end
end L2
namespace HT
open PySem PyProof.Rows
section
open PySem.SeqAt
open PySem.AutoSeq1 (wpAny_loadPart')
open PySem.MeetsSeq PySem.MeetsSeq2 PySem.MeetsSeq3
end
section
variable {prog:ik}{w:World}{A:io}{E:Y0}{s:ig}
theorem cat_tup(p:IsTup s.heap t vs.toArray)(U:IsTup s.heap b z.toArray)(hv:vs≠[])
  (L:z=[]->Q (.ref t) s) (J:z≠[]->Q 011 {s with heap:=s.heap.push {cls:=.type "tuple",data:=.seq (vs++z).toArray} })
  (hsz:vs.length+z.length<=ii):wpAny 95 A (iF .Add (.ref t) 47) Q E s:=by
 let((cls,i,data,Y),D,C,n,hd):=id p;let((l,c,data2,f),a,d,o,g):=id U;simp only at C hd d g;subst C hd d g;let e:vs.toArray++z.toArray=(vs++z).toArray:=by simp
 by_cases j:z=[]
 .exact concat_meets ⟨_,D,R⟩ ⟨_,a,R⟩ noFill_tuple_add seq_tuple_add PySem.F.slot_tuple_add PySem.F.entry_tuple_add (PySem.F.args_tuple_add_2 _ _)
   (tuple_addW1 t b vs.toArray z.toArray n o i c Y f (by simpa using hv)<|by simp[j]) ⟨D,a,L j⟩
 .refine concat_meets ⟨_,D,R⟩ ⟨_,a,R⟩ noFill_tuple_add seq_tuple_add PySem.F.slot_tuple_add PySem.F.entry_tuple_add (PySem.F.args_tuple_add_2 _ _)
   (tuple_addW2 t b vs.toArray z.toArray n o i c Y f (by simpa using hv) (by simpa using j)<|by rw[y06,y06];show hsz) ⟨D,a,?_⟩
  rw[e];show J j
noncomputable def sIx(n d:Nat):Option Int->Nat
 |none=>d
 |some v=>if v<0 then(v+(n:Int)).toNat else min v.toNat n
theorem sIx_none(n d:Nat):sIx n d B=d:=rfl
theorem sIx_nat(n d k:Nat):sIx n d (G (k:Int))=min k n:=by
 change(if(k:Int)<0 then((k:Int)+(n:Int)).toNat else min (k:Int).toNat n)=min k n;rw[Xp 00,y1m]
theorem sIx_le(n d:Nat)(hd:d<=n)(o:Option Int):sIx n d o<=n:=by
 cases o with
 |none=>show hd
 |some v =>
  change(if v<0 then(v+(n:Int)).toNat else min v.toNat n)<=n;by_cases hv:v<0
  .rw[Xq hv];omega
  .rw[Xp hv];show Nat.min_le_right _ _
theorem clip_eq(v:Int)(n d:Nat):(if v<0 then max (v+(n:Int)) 0 else min v (n:Int))=((sIx n d (G v):Nat):Int):=by
 change(if v<0 then max (v+(n:Int)) 0 else min v (n:Int))=(((if v<0 then(v+(n:Int)).toNat else min v.toNat n):Nat):Int);by_cases hv:v<0
 .simp only[Xq hv];omega
 .simp only[Xp hv];omega
theorem zqj(lo hi:Option Int)(n:Nat):Builtin.Slice.sliceAdjust lo hi 1 (n:Int)=(((sIx n 0 lo:Nat):Int),((sIx n n hi:Nat):Int)):=by
 let L:¬((1:Int)<0):=by omega
 unfold Builtin.Slice.sliceAdjust;simp only[L,if_false];apply Prod.ext ?_ ?_
 .cases lo with
  |none=>rfl
  |some v=>show clip_eq v n 0
 .cases hi with
  |none=>rfl
  |some v=>show clip_eq v n n
theorem zpa(i j:Nat):Builtin.Slice.slicePlaces (i:Int) (j:Int) 1=j-i:=by
 unfold Builtin.Slice.slicePlaces;let L:(1:Int)>0:=by omega
 simp only[L,if_true,Int.ediv_one];split<;>omega
theorem zhj(p:lu v o)(h:Q o s):wpAny 95 A (Builtin.Slice.slicePartIndex v) Q E s:=by
 cases p with
 |none=>show slicePart_none h
 |int i t=>show slicePart_int h
theorem zfc{Y:Ad}{M vu:Va}{lo hi:Option Int}{n:Nat}{Q:Int×Int×Nat->ig->Prop}(hs:s.heap.IsSliceOf Y M vu .none)(f:lu M lo)(J:lu vu hi)
  (h:Q (((sIx n 0 lo:Nat):Int),1,sIx n n hi-sIx n 0 lo) s):wpAny 95 A (Builtin.Slice.sliceApplied (.ref Y)<|pure (n:Int)) Q E s:=by
 let(os,e,d,l):=id hs;unfold Builtin.Slice.sliceApplied Builtin.Slice.sliceFields;apply ia<|ia (iB e l (x:=M) R<|ia (iB e l (x:=vu) R<|ia (iB e l (x:=.none) R<|ib ?_)));apply ia<|slicePart_none ?_;change wpAny _ _ (if((1:Int)==0)=N then _ else _) _ _ s;rw[Xp 04];apply ia<|zhj f (ia<|zhj J (ia<|ib ?_));change wpAny _ _ (match Builtin.Slice.sliceAdjust lo hi 1 (n:Int)with|(lo,hi)=>pure (lo,(1:Int),Builtin.Slice.slicePlaces lo hi 1)) _ _ s;rw[zqj lo hi n];change wpAny _ _ (pure (((sIx n 0 lo:Nat):Int),(1:Int),Builtin.Slice.slicePlaces ((sIx n 0 lo:Nat):Int) ((sIx n n hi:Nat):Int) 1)) _ _ s;rw[zpa];show ib h
theorem zvh(xs:Array Va)(i k:Nat):((List.range k).filterMap λ(m:Nat)=>xs[((i:Int)+(m:Int)*1).toNat]?).toArray=((xs.toList.drop i).take k).toArray:=by
 let e:(λ(m:Nat)=>xs[((i:Int)+(m:Int)*1).toNat]?)=λm=>xs[i+m]?:=by
  funext m;let:((i:Int)+(m:Int)*1).toNat=i+m:=by omega
  rw[this]
 rw[e];let:=pick_run xs i k;rw[List.filterMap_map]at this;let C:((λx=>xs[x]?)∘λx=>i+x)=λm=>xs[i+m]?:=rfl;rw[C]at this;rw[this]
theorem getItem_tuple_cut{t Y:Ad}{items:Array Va}{M vu:Va}{lo hi:Option Int}{Q:Y0}(p:IsTup s.heap t items)(hs:s.heap.IsSliceOf Y M vu .none)(f:lu M lo)(J:lu vu hi)
  (j:¬(sIx items.size 0 lo=0/\sIx items.size items.size hi=items.size))
  (h:Q 011 {s with heap:=s.heap.push {cls:=.type "tuple",data:=.seq ((items.toList.drop<|sIx items.size 0 lo).take<|sIx items.size items.size hi-sIx items.size 0 lo).toArray} })
  (hsz:items.size<=ii):wpAny 95 A (jI (.ref t)<|.ref Y) Q E s:=by
 let c:sizeOk (.seq ((items.toList.drop<|sIx items.size 0 lo).take 073).toArray):=by
  change((items.toList.drop<|sIx items.size 0 lo).take 073).toArray.size<=ii;rw[y06,y0w,y20,y11];omega
 let g:sIx items.size items.size hi<=items.size:=sIx_le _ _ 08 hi;let(os,e,d,l):=id hs;let o:s.TypeIs (.ref Y) "slice":=⟨os,e,d⟩;unfold jI
 try with_reducible apply im ?_
 first|apply ia (ib ?_)|skip
 apply ia<|wpAny_sequenceKey p.typeIs 04 ?_;apply ia (i7 (name:=Str.ofString "__getitem__") p.typeIs PyProof.Rows.slot_tuple_getitem
  (i0 PyProof.Rows.slot_tuple_getitem p.typeIs entry_tuple_getitem ?_<|args_tuple_getitem _ _))
 change wpAny _ _ (Builtin.Tuple.tupleItemsOf (.ref t)>>=_) _ _ s;apply ia<|tupleItemsOf_ p ?_;apply ia<|jo o ?_;rw[Xq 04];apply ia<|zfc hs f J ?_;let a:¬((((sIx items.size 0 lo:Nat):Int)==0&&(1:Int)==1&&073==items.size)=N):=by
  intro q;rw[y08,y08]at q;let r:((sIx items.size 0 lo:Nat):Int)=0:=eq_of_beq q.1.1;let i:sIx items.size items.size hi-sIx items.size 0 lo=items.size:=eq_of_beq q.2;show j ⟨by omega,by omega⟩
 change wpAny _ _ (if(((sIx items.size 0 lo:Nat):Int)==0&&(1:Int)==1&&073==items.size)=N then _ else _) _ _ s;rw[Xp a,zvh]
 first
  |show ia (m:=Builtin.Tuple.tupleExact _) (i5 (ib ⟨_,rfl,ib h⟩) c)
  |show ia (m:=Builtin.Tuple.tupleExact _) (i5 (ia<|ib (ib ⟨_,rfl,ib h⟩)) c)
  |show ia (ia (m:=Builtin.Tuple.tupleExact _)<|i5 (ib<|ib ⟨_,rfl,ib h⟩) c)
  |show ia (ia (m:=Builtin.Tuple.tupleExact _)<|i5 (ib ⟨_,rfl,ib h⟩) c)
end
end HT
namespace L2
abbrev TO:=St->Hp->(Option Int->Hp->Prop)->Prop
def PO(X:Cx)(e:Option Expr)(t:TO):Prop :=
 ∀(pins:Y2) (s:ig) (σ:St) (H:Hp) (Q:Option Int->Hp->Prop),02 H s->t σ H Q->
  wpAny 20 X.A (evalPart e X.env) (λu s'=>∃o H',02 H' s'/\lu u o/\Q o H') X.xe s
def tNoPart:TO:=λ_ H Q=>Q B H
def tPart(t:TE):TO:=λσ H Q=>t σ H λx H1=>∃i,x=.int i/\Q (G i) H1
theorem zey:∀{us:List Va},Vals 025 us->jJ us ns:=by
 induction ns with
 |nil=>intro us r;rw[y2y]at r;cases r;show .nil
 |cons n ns Q =>
  intro us r;rw[y0m]at r;cases r with
  |cons r1 l =>
   let(t,e):=r1;subst e;show .cons n t<|Q l
section
variable {X:Cx}{e:Expr}{te:TE}{lo hi:Option Expr}{tl th:TO}{pos p2:Pos}
theorem zbs:PO X B tNoPart:=by
 intro pins s σ H Q I h;rw[evalPart_none];show ib ⟨B,H,I,.none,h⟩
theorem zbd(h:PE X e te):PO X (G e) (tPart te):=by
 intro pins s σ H Q I j;rw[evalPart_some];apply thn (h pins s σ H _ I j) λu s1 zz=>ex5 zz λx H1 I1 r1 E=>?_;let(i,rfl,q):=E;let(t,rfl):=r1;show⟨G i,H1,I1,.int i t,q⟩
def SlR(X:Cx)(r:V->Option Int->Option Int->Hp->VK->Prop):Prop :=
 ∀(pins:Y2) (s:ig) (σ:St) (H:Hp) (x:V) (v M vu:Va) (lo hi:Option Int) (Y:Ad) (Q:VK),02 H s->RelV x v->s.heap.IsSliceOf Y M vu .none->lu M lo->lu vu hi->r x lo hi H Q->
  ∃T id,jl (.type T) "__getitem__"=pure (G<|.builtin id)/\s.TypeIs v T/\wpAny 20 X.A (jI v<|.ref Y) 028 X.xe s
def tSl(r:V->Option Int->Option Int->Hp->VK->Prop)(te:TE)(tl th:TO):TE:=λσ H Q=>te σ H λx H1=>tl σ H1 λl H2=>th σ H2 λu H3=>r x l u H3 Q
theorem zbb(D:SlR X r)(L:PE X e te)(Y:PO X lo tl)(C:PO X hi th):PE X (.Subscript e (.Slice lo hi B p2) pos) (tSl r te tl th):=by
 intro pins s σ H Q I h;apply Subscript_<|thn (L pins s σ H _ I h) λv s1 zz=>ex5 zz λx H1 I1 r1 E=>?_;apply wpAny_Slice<|thn (Y pins s1 σ H1 _ I1 E) λM s2 zz=>ex5 zz λl H2 w f i=>thn (C pins s2 σ H2 _ w i) λvu j zz=>ex5 zz λu H3 A J g=>?_;rw[evalPart_none];apply ib ?_;let c:02 H3 {j with heap:=j.heap.push {cls:=.type "slice",data:=.fields #[M,vu,.none]} }:=A.kept (t':=j.toks) λb ob q=>y04 _ q;let(T,id,O,p,y):=D pins {j with heap:=j.heap.push {cls:=.type "slice",data:=.fields #[M,vu,.none]} } σ H3 x v M vu l u j.heap.objs.size Q c r1 (Heap.IsSliceOf.new ..) f J g;change wpAny 20 X.A (subscriptTail e (.Slice lo hi B p2) v<|.ref j.heap.objs.size) 028 X.xe {j with heap:=j.heap.push {cls:=.type "slice",data:=.fields #[M,vu,.none]} };show tail_any (ops:=[.ref j.heap.objs.size,v]) p O y (by with_unfolding_all rfl)
noncomputable def cutV(xs:List V)(lo hi:Option Int):List V:=(xs.drop<|HT.sIx xs.length 0 lo).take 071
theorem zgn(xs:List V)(lo hi:Option Int):(cutV xs lo hi).length<=xs.length:=by
 unfold cutV;rw[y0w,y20];omega
def rSlT(K:Frag):V->Option Int->Option Int->Hp->VK->Prop:=λx lo hi H Q=>∃a xs,x=.ref a/\SqT K H a xs/\
 ¬(HT.sIx xs.length 0 lo=0/\HT.sIx xs.length xs.length hi=xs.length)/\∀p,H p=B->Q 09 (upd H p<|.tup (cutV xs lo hi))
theorem sl_tup:SlR X (rSlT X.K):=by
 intro pins s σ H x v M vu lo hi Y Q I T hs f J h;let(a,xs,rfl,O,j,q):=h;cases T;let(its,r,p,hz):=I.tuple O;let L:its.toArray.size=xs.length:=by rw[y06];show r.length.symm
 apply⟨"tuple",_,PyProof.Rows.slot_tuple_getitem.lookup,p.typeIs,?_⟩;apply HT.getItem_tuple_cut p hs f J (by rw[L];show j) ?_ (by rw[L];show hz);rw[L];apply⟨.ref s.heap.objs.size,_,I.laid (t':=s.toks) (o:=.tup<|cutV xs lo hi) (λb ob q=>y04 _ q) 08 ?_,R,q _<|I.hok.fresh 08⟩;show⟨y14 (zgn xs lo hi) hz,_,(r.drop<|HT.sIx xs.length 0 lo).take 071,IsTup.new _ _⟩
def rCatT(K:Frag):R2:=λx y H Q=>∃a b xs ys,x=.ref a/\y=.ref b/\SqT K H a xs/\SqT K H b ys/\xs≠[]/\xs.length+ys.length<=ii/\
 (ys=[]->Q 07 H)/\(ys≠[]->∀p,H p=B->Q 09 (upd H p<|.tup (xs++ys)))
theorem Vals.nil_iff(r:Vals xs us):us=[]↔xs=[]:=by
 cases r with
 |nil=>simp
 |cons _ _=>simp
theorem zzc:OpR X (iF .Add) (rCatT X.K):=by
 intro pins s σ H x y v u Q I T c h;let(a,b,xs,ys,rfl,rfl,d,U,O,hz,E,i):=h;cases T;cases c;let(its,r1,r,_):=I.tuple d;let(g,l,p2,_):=I.tuple U;apply HT.cat_tup r p2 (λz=>O<|r1.nil_iff.mp z) (λz=>⟨.ref a,H,I,R,E<|l.nil_iff.mp z⟩) (λz=>?_) (by rw[←r1.length,←l.length];show hz);apply⟨.ref s.heap.objs.size,_,I.laid (t':=s.toks) (o:=.tup<|xs++ys) (λb ob q=>y04 _ q) 08 ?_,R,i (λw=>z<|l.nil_iff.mpr w) _<|I.hok.fresh 08⟩;show⟨by rw[y0d];show hz,_,r1.append l,IsTup.new _ _⟩
end
noncomputable def ixN(n:Nat)(i:Int):Option Nat:=if 0<=i then(if i<n then G i.toNat else B)else if -(n:Int)<=i then G (i+n).toNat else B
def atI{q:Type}(xs:List q)(i:Int):Option q:=(ixN xs.length i).bind λj=>xs[j]?
theorem zsx(h:ixN n i=G j):seqIndex? i n=G j/\j<n/\-(n:Int)<=i/\i<n:=by
 unfold ixN at h;by_cases w:0<=i
 .rw[Xq w]at h;by_cases L:i<n
  .rw[Xq L]at h;let e:i.toNat=j:=Option.some.inj h;show⟨by rw[seqIndex_of w L,e],by omega,by omega,L⟩
  .rw[Xp L]at h;cases h
 .rw[Xp w]at h;by_cases L:-(n:Int)<=i
  .rw[Xq L]at h;let e:(i+n).toNat=j:=Option.some.inj h;show⟨by rw[seqIndex_neg 00 L,e],by omega,L,by omega⟩
  .rw[Xp L]at h;cases h
theorem zm7{q:Type}{xs:List q}{i:Int}{v:q}(h:atI xs i=G v):∃j,seqIndex? i xs.length=G j/\xs[j]?=G v/\j<xs.length/\-(xs.length:Int)<=i/\i<xs.length:=by
 unfold atI at h;cases e:ixN xs.length i with
 |none=>rw[e]at h;cases h
 |some j =>
  rw[e]at h;let(L,J,f,C):=zsx e;show⟨j,L,h,J,f,C⟩
theorem zal{q:Type}{xs:List q}{j:Nat}{v:q}(h:xs[j]?=G v):atI xs (j:Int)=G v:=by
 let g:j<xs.length:=(y0g.mp h).1;let e:ixN xs.length (j:Int)=G j:=by
  unfold ixN;rw[Xq 00,Xq 00];simp
 unfold atI;rw[e];show h
theorem zfu(xs:List q)(v:q):atI (xs++[v]) (-1)=G v:=by
 let Y:(xs++[v]).length=xs.length+1:=by simp
 let e:ixN (xs++[v]).length (-1)=G xs.length:=by
  unfold ixN;rw[Y,Xp 04,Xq 00];congr 1;omega
 unfold atI;rw[e];change(xs++[v])[xs.length]?=G v;simp
def PlainIx(b:Expr):Prop:=∀o i,jY b Fa o i=operate [o,i] (jI o i)
def IxR(X:Cx)(r:R2):Prop :=
 ∀(U d:Expr) (pins:Y2) (s:ig) (σ:St) (H:Hp) (x y:V) (v u:Va) (Q:VK),02 H s->RelV x v->RelV y u->r x y H Q->
  jY d Fa v u=operate [v,u] (jI v u)->wpAny 20 X.A (subscriptTail U d v u) 028 X.xe s
def MtR(X:Cx)(id:String)(r:V->List V->Hp->VK->Prop):Prop :=
 ∀(pins:Y2) (s:ig) (σ:St) (H:Hp) (x:V) (xs:List V) (v:Va) (us:List Va) (Q:VK),02 H s->RelV x v->Vals xs us->r x xs H Q->
  wpAny 20 X.A (call (.builtin id) (v::us)) 028 X.xe s
section
variable {X:Cx}{a b:Expr}{ta tb:TE}{pos:Pos}
theorem zaq(D:IxR X r)(d:PE X a ta)(U:PE X b tb)(hs:PlainIx b):PE X (.Subscript a b pos) (tOp r ta tb):=by
 intro pins s σ H Q I h;show Subscript_<|binT d U I h λv u s2 x y H2 w T O q=>D a b pins s2 σ H2 x y v u Q w T O q<|hs _ _
def rIxL(K:Frag):R2:=λx y H Q=>asR x λp=>∃xs,asI y λi=>SqL K H p xs/\∃v,atI xs i=G v/\Q v H
def rIxT(K:Frag):R2:=λx y H Q=>asR x λp=>∃xs,asI y λi=>SqT K H p xs/\∃v,atI xs i=G v/\Q v H
def rIxS:R2:=λx y H Q=>asS x λz=>asI y λi=>z.length<=ii/\∃c,atI z.cps.toList i=G c/\Q (.str ⟨#[c]⟩) H
theorem ix_list:IxR X (rIxL X.K):=by
 intro U d pins s σ H x y v u Q I T O h hs;let(p,rfl,xs,h'):=zcv h;let(i,rfl,A,z,M,q):=zdr h';cases T;let(t,rfl):=O;let(its,r,f,hz):=I.list A;let(j,L,J,o,C,E):=zm7 M;let(w,e,c):=r.get J;let Y:=r.length;let l:=line63;let fin:EP X pins σ Q w s:=⟨z,H,I,c,q⟩;by_cases D:0<=i
 .let g:i.toNat=j:=by
   rw[seqIndex_of D E]at L;show Option.some.inj L
  show item_listR f.isList D 00 (by rw[g];simpa using e) fin hs
 .let g:(i+(its.toArray.size:Int)).toNat=j:=by
   rw[seqIndex_neg 00 C]at L;rw[y06,←Y];show Option.some.inj L
  show subscriptTail_builtinR (x:=w) f.isList.typeIs slot_list_getitem.lookup
   (wpAny_getItem_list_neg (Q:=λr s'=>r=w/\EP X pins σ Q r s') f.isList 00 (by rw[y06]<;>omega) 00 (by rw[g];simpa using e) ⟨R,fin⟩) hs
theorem ix_tup:IxR X (rIxT X.K):=by
 intro U d pins s σ H x y v u Q I T O h hs;let(p,rfl,xs,h'):=zcv h;let(i,rfl,A,z,M,q):=zdr h';cases T;let(t,rfl):=O;let(its,r,f,hz):=I.tuple A;let(j,L,J,o,C,E):=zm7 M;let(w,e,c):=r.get J;let Y:=r.length;let l:=line63;let fin:EP X pins σ Q w s:=⟨z,H,I,c,q⟩;show subscriptTail_builtinR (x:=w) f.typeIs slot_tuple_getitem.lookup
  (getItem_tuple (j:=j) (Q:=λr s'=>r=w/\EP X pins σ Q r s') f 00 00 (by rw[y06,←Y];show L) (by simpa using e) ⟨R,fin⟩) hs
theorem ix_str:IxR X rIxS:=by
 intro U d pins s σ H x y v u Q I T O h hs;let(z,rfl,h'):=asS_ex h;let(i,rfl,hz,c,M,q):=zdr h';let(t,rfl):=T;let(t',rfl):=O;let(j,L,J,f,w,E):=zm7 M;let Y:z.cps.toList.length=z.length:=by simp[Str.length]
 rw[Y]at L w E;let l:=line63;show tail_any (typeIs_str s z t) slot_str_getitem.lookup (getItem_str (c:=c) (by
  let g:decide (i < -(2^63:Int))=Fa:=Xf 00;let C:decide (i>=2^63)=Fa:=Xf 00;rw[g,C,y3b]) (by rw[L];simpa using J) ⟨.str ⟨#[c]⟩,H,I.tok _,⟨_,R⟩,q⟩) hs
theorem zpw(its:List Va)(n j:Nat)(u:Va):Obj.mapSeq (·.setIfInBounds j u) {cls:=.type "list",data:=.seq its.toArray n}={cls:=.type "list",data:=.seq (its.set j u).toArray n}:=by
 simp[Obj.mapSeq]
theorem Inv.lst{pins:Y2}{σ:St}{H:Hp}{s:ig}{p:Ad}{xs:List V}(I:02 H s)(h:H p=G 91):
  ∃(its:List Va) (n:Nat),Vals xs its/\s.heap.get? p=G {cls:=.type "list",data:=.seq its.toArray n}/\xs.length<=ii:=by
 let(z,its,n,r,e):=I.hok p _ h;show⟨its,n,r,e,z⟩
theorem Inv.lstUpd{pins:Y2}{σ:St}{H:Hp}{s:ig}{p:Ad}{xs ys:List V}{its its':List Va}{n n':Nat}{f:Obj->Obj}(I:02 H s)(h:H p=G 91)
  (D:s.heap.get? p=G {cls:=.type "list",data:=.seq its.toArray n}) (T:f {cls:=.type "list",data:=.seq its.toArray n}={cls:=.type "list",data:=.seq its'.toArray n'}) (r:Vals ys its') (hz:ys.length<=ii) (t:Nat) :
  02 (upd H p 50) {s with heap:=s.heap.update p f,toks:=t}:=by
 let e:(s.heap.update p f).get? p=G {cls:=.type "list",data:=.seq its'.toArray n'}:=by
  rw[y1g f D (by rw[T]<;>rfl),T]
 apply I.write (x:=p) (e:=p) (by rw[h];trivial) 015 (λb u U q=>(y1b _ _<|Ne.symm U).trans q) ⟨_,e⟩ ?_;show⟨hz,its',n',r,e⟩
def rSetL:V->V->V->Hp->(Hp->Prop)->Prop:=λo i v H Q=>∃p xs k j,o=.ref p/\i=.int k/\H p=G 91/\ixN xs.length k=G j/\Q (upd H p<|.lst (xs.set j v))
theorem zuy:PSet X rSetL:=by
 intro pins s σ H o i v c iv u Q I ro x d h;let(p,xs,k,j,rfl,rfl,E,g,q):=h;cases ro;let(t,rfl):=x;let(its,n,r,D,hz):=I.lst E;let(L,J,f,C):=zsx g;let Y:=r.length;let l:=line63;let U:02 (upd H p<|.lst (xs.set j v)) {s with heap:=s.heap.update p (Obj.mapSeq (·.setIfInBounds j u))} :=
  I.lstUpd E D (zpw its n j u) (r.set d j) (by rw[List.length_set];show hz) s.toks
 by_cases w:0<=k
 .let M:k.toNat=j:=by
   rw[seqIndex_of w C]at L;show Option.some.inj L
  show PySem.W.ki_setAt D w 00 (by rw[y06,←Y];show C) (by rw[M];show⟨_,U,q⟩)
 .let M:(k+(its.toArray.size:Int)).toNat=j:=by
   rw[seqIndex_neg 00 f]at L;rw[y06,←Y];show Option.some.inj L
  show PySem.W.ki_setBack D 00 (by rw[y06,←Y];show f) 00 (by rw[M];show⟨_,U,q⟩)
theorem zj5(lo hi:Option Int)(n:Nat):(js lo hi B n).1=((HT.sIx n 0 lo:Nat):Int)/\(js lo hi B n).2.1=((HT.sIx n n hi:Nat):Int)/\(js lo hi B n).2.2=1:=by
 apply⟨?_,?_,R⟩
 .cases lo with
  |none=>simp[js,HT.sIx]
  |some i =>
   simp only[js,HT.sIx,Option.getD_none,show(1:Int)>0 by decide,if_true];by_cases h:i<0
   .simp only[h,if_true]<;>omega
   .simp only[h,if_false]<;>omega
 .cases hi with
  |none=>simp[js,HT.sIx]
  |some i =>
   simp only[js,HT.sIx,Option.getD_none,show(1:Int)>0 by decide,if_true];by_cases h:i<0
   .simp only[h,if_true]<;>omega
   .simp only[h,if_false]<;>omega
theorem zii(its:List Va)(lo hi:Option Int):slicePick its.toArray lo hi B=((its.drop<|HT.sIx its.length 0 lo).take<|HT.sIx its.length its.length hi-HT.sIx its.length 0 lo).toArray:=by
 let(L,J,f):=zj5 lo hi its.toArray.size;unfold slicePick;rw[L,J,f];simp only[sliceRange_one,pick_run,y06]<;>rfl
def rSlL(K:Frag):V->Option Int->Option Int->Hp->VK->Prop:=λx lo hi H Q=>∃a xs,x=.ref a/\SqL K H a xs/\∀p,H p=B->Q 09 (upd H p<|.lst (cutV xs lo hi))
theorem zyd:SlR X (rSlL X.K):=by
 intro pins s σ H x v M vu lo hi Y Q I T hs f J h;let(a,xs,rfl,O,q):=h;cases T;let(its,r,p,hz):=I.list O;let L:=r.length;apply⟨"list",_,slot_list_getitem.lookup,p.isList.typeIs,?_⟩;apply wpAny_getItem_list_slice p.isList hs f J .none 06 ?_ (by rw[y06]<;>omega);rw[zii,←L];apply⟨.ref s.heap.objs.size,_,I.laid (t':=s.toks) (o:=.lst<|cutV xs lo hi) (λb ob q=>y04 _ q) 08 ?_,R,q _<|I.hok.fresh 08⟩;show⟨y14 (zgn xs lo hi) hz,_,0,(r.drop<|HT.sIx xs.length 0 lo).take 071,y0b _ R⟩
noncomputable def flatV:V->Bool
 |.non=>N
 |.bl _=>N
 |.int _=>N
 |.str _=>N
 |_=>Fa
noncomputable def eqV:V->V->Bool
 |.non,.non=>N
 |.bl a,.bl b=>a==b
 |.bl a,.int b=>(if a then 1 else 0)==b
 |.int a,.bl b=>a==(if b then 1 else 0)
 |.int a,.int b=>a==b
 |.str a,.str b=>a==b
 |_,_=>Fa
theorem zh2(O:RelV y u)(T:RelV x v)(d:flatV y=N)(c:flatV x=N):SeqAt.EqAt A s u v (eqV y x):=by
 cases y with
 |non =>
  cases O;cases x with
  |non=>cases T;show SeqAt.EqAt.same _
  |bl b=>cases T;show SeqAt.EqAt.none_bool b
  |int b=>let(t,rfl):=T;show SeqAt.EqAt.none_int b t
  |str b=>let(t,rfl):=T;show SeqAt.EqAt.none_str b t
  |_=>show Xa (show Fa=N from c) y0f
 |bl a =>
  cases O;cases x with
  |non=>cases T;show SeqAt.EqAt.bool_none a
  |bl b=>cases T;show SeqAt.EqAt.bool_bool a b
  |int b=>let(t,rfl):=T;show SeqAt.EqAt.bool_int a b t
  |str b=>let(t,rfl):=T;show SeqAt.EqAt.bool_str a b t
  |_=>show Xa (show Fa=N from c) y0f
 |int a =>
  let(t',rfl):=O;cases x with
  |non=>cases T;show SeqAt.EqAt.int_none a t'
  |bl b=>cases T;show SeqAt.EqAt.int_bool a t' b
  |int b=>let(t,rfl):=T;show SeqAt.EqAt.int_int a t' b t
  |str b=>let(t,rfl):=T;show SeqAt.EqAt.int_str a t' b t
  |_=>show Xa (show Fa=N from c) y0f
 |str a =>
  let(t',rfl):=O;cases x with
  |non=>cases T;show SeqAt.EqAt.str_none a t'
  |bl b=>cases T;show SeqAt.EqAt.str_bool a t' b
  |int b=>let(t,rfl):=T;show SeqAt.EqAt.str_int a t' b t
  |str b=>let(t,rfl):=T;show SeqAt.EqAt.str_str a t' b t
  |_=>show Xa (show Fa=N from c) y0f
 |_=>show Xa (show Fa=N from d) y0f
def eqU(x:V)(u:Va):Bool:=match u with
 |.none=>eqV .non x
 |.bool b=>eqV (.bl b) x
 |.int i _=>eqV (.int i) x
 |.str z _=>eqV (.str z) x
 |_=>Fa
theorem zxt(r:RelV y u)(f:flatV y=N):eqU x u=eqV y x:=by
 cases y with
 |non=>cases r;rfl
 |bl b=>cases r;rfl
 |int i=>let(t,rfl):=r;rfl
 |str z=>let(t,rfl):=r;rfl
 |_=>show Xa (show Fa=N from f) y0f
theorem zgv:∀{xs:List V} {us:List Va},Vals xs us->xs.all flatV=N->us.any (eqU x)=xs.any λy=>eqV y x
 |_,_,.nil,_=>rfl
 |y::xs,u::us,.cons r t,f=>by
  rw[y2d,y08]at f;rw[y2s,y2s,zxt r f.1,zgv t f.2]
theorem zed(T:RelV x v)(c:flatV x=N):∀{xs:List V} {us:List Va},Vals xs us->xs.all flatV=N->∀u∈us,SeqAt.EqAt A s u v (eqU x u)
 |_,_,.nil,_=>λu C=>by cases C
 |y::xs,u::us,.cons r t,f=>λd C=>by
  rw[y2d,y08]at f;rcases y09.mp C with rfl|C
  .rw[zxt r f.1];show zh2 r T f.1 c
  .exact zed T c t f.2 d C
def inV(x:V)(xs:List V):Bool:=xs.any λy=>eqV y x
def rIn(K:Frag)(neg:Bool):R2:=λx y H Q=>∃p xs,y=.ref p/\(SqL K H p xs\/SqT K H p xs)/\flatV x=N/\xs.all flatV=N/\Q (.bl<|if neg then !inV x xs else inV x xs) H
theorem zrz:OpR X (i4 .In) (rIn X.K Fa):=by
 intro pins s σ H x y v u Q I T O h;let(p,xs,rfl,A,c,fs,q):=h;cases O;rcases A with A|A
 .let(its,r,f,hz):=I.list A;apply SeqAt.in_listAt (eqU x) f.isList (λw j=>zed T c r fs w<|by simpa using j) ⟨.bl _,H,I,R,?_⟩;rw[show its.toArray.any (eqU x)=its.any (eqU x) by simp,zgv r fs];show q
 .let(its,r,f,hz):=I.tuple A;apply SeqAt.in_tupleAt (eqU x) f (λw j=>zed T c r fs w<|by simpa using j) ⟨.bl _,H,I,R,?_⟩;rw[show its.toArray.any (eqU x)=its.any (eqU x) by simp,zgv r fs];show q
theorem zkn:OpR X (i4 .NotIn) (rIn X.K N):=by
 intro pins s σ H x y v u Q I T O h;let(p,xs,rfl,A,c,fs,q):=h;cases O;rcases A with A|A
 .let(its,r,f,hz):=I.list A;apply SeqAt.notIn_listAt (eqU x) f.isList (λw j=>zed T c r fs w<|by simpa using j) ⟨.bl _,H,I,R,?_⟩;rw[show its.toArray.any (eqU x)=its.any (eqU x) by simp,zgv r fs];show q
 .let(its,r,f,hz):=I.tuple A;apply SeqAt.notIn_tupleAt (eqU x) f (λw j=>zed T c r fs w<|by simpa using j) ⟨.bl _,H,I,R,?_⟩;rw[show its.toArray.any (eqU x)=its.any (eqU x) by simp,zgv r fs];show q
theorem zld:CallR X (.builtin "len") (λxs H Q=>∃p ys,xs=[.ref p]/\(SqL X.K H p ys\/SqT X.K H p ys)/\Q (.int ys.length) H):=by
 intro pins s σ H xs us Q I r h;let(p,ys,rfl,A,q):=h;let(u,rfl,T):=vals1 r;cases T;let J:=line63;rcases A with A|A
 .let(its,r',f,hz):=I.list A;let L:=r'.length;show Calls.call_len_list f.isList (by simp only[y06]<;>omega) ⟨.int ys.length,H,I.tok _,⟨s.toks+1,by rw[y06,L]⟩,q⟩
 .let(its,r',f,hz):=I.tuple A;let L:=r'.length;show len_tuple f (by simp only[y06]<;>omega) ⟨.int ys.length,H,I.tok _,⟨s.toks+1,by rw[y06,L]⟩,q⟩
theorem zlc:CallR X (.builtin "len") (λxs H Q=>∃z,xs=[.str z]/\z.length<=ii/\Q (.int z.length) H):=by
 intro pins s σ H xs us Q I r h;let(z,rfl,hz,q):=h;let(u,rfl,t,rfl):=vals1 r;let J:=line63;show len_str 00 ⟨.int z.length,H,I.tok _,⟨_,R⟩,q⟩
theorem zlb:CallR X (.type "list") (λxs H Q=>∃p ys,xs=[.ref p]/\(SqL X.K H p ys\/SqT X.K H p ys)/\∀l,H l=B->Q (.ref l) (upd H l 50)):=by
 intro pins s σ H xs us Q I r h;let(p,ys,rfl,A,q):=h;let(u,rfl,T):=vals1 r;cases T;let fin:∀(its:List Va),Vals ys its->ys.length<=ii->∀(h':Heap) (c':Nat),(∀b c,s.heap.get? b=G c->h'.get? b=G c)->
   h'.get? s.heap.objs.size=G {cls:=.type "list",dict:=B,data:=.seq its.toArray c',slots:=#[]}->EP X pins σ Q 011 {s with heap:=h'}:=λits r' hz h' c' kp e =>
  ⟨.ref s.heap.objs.size,_,I.laid (t':=s.toks) kp 08<|show ObjOk X.prog X.w _ h' _ (50)from⟨hz,its,c',r',e⟩,R,q _<|I.hok.fresh 08⟩
 rcases A with A|A
 .let(its,r',f,hz):=I.list A;let L:=r'.length;let(o,D,C,n,hd):=f.isList;show call_list_seq p 015 D C hd (λh' c' kp e=>fin its r' hz h' c' kp e) (by simp only[y06]<;>omega)
 .let(its,r',f,hz):=I.tuple A;let L:=r'.length;let(o,D,C,n,hd):=f;show call_list_seq p (.inr R) D C hd (λh' c' kp e=>fin its r' hz h' c' kp e) (by simp only[y06]<;>omega)
theorem zje:CallR X (.type "tuple") (λxs H Q=>∃p ys,xs=[.ref p]/\((SqL X.K H p ys/\∀l,H l=B->Q (.ref l) (upd H l<|.tup ys))\/(SqT X.K H p ys/\Q 09 H))):=by
 intro pins s σ H xs us Q I r h;let(p,ys,rfl,h):=h;let(u,rfl,T):=vals1 r;cases T;rcases h with⟨A,q⟩|⟨A,q⟩
 .let(its,r',f,hz):=I.list A;let L:=r'.length;apply call_tuple_list f.isList (λh' kp=>?_) (by simp only[y06]<;>omega);let I1:02 H {s with heap:=h'}:=I.kept (t':=s.toks) kp;let w:02 (upd H h'.objs.size<|.tup ys) {s with heap:=h'.push {cls:=.type "tuple",data:=.seq its.toArray} } :=
   I1.laid (t':=s.toks) (λb o e=>y04 _ e) 08 (show ObjOk X.prog X.w _ _ _ (.tup ys)from⟨hz,its,r',IsTup.new _ _⟩)
  show⟨.ref h'.objs.size,_,w,R,q _<|I1.hok.fresh 08⟩
 .let(its,r',f,hz):=I.tuple A;show call_tuple_same f ⟨.ref p,H,I,R,q⟩
def tyV(K:Frag)(T:String)(x:V)(H:Hp):Prop:=match x with
 |.str _=>T="str"
 |.int _=>T="int"
 |.ref p=>(T="list"/\∃xs,SqL K H p xs)\/(T="tuple"/\∃o,K.lookup p=G o/\o.cls=.type "tuple"/\o.dict=B)\/
   (T="dict"/\((∃kvs,H p=G (.dK kvs))\/∃kvs,H p=G (.dT kvs)))\/(T="set"/\∃S n,H p=G (.set S n))
 |_=>False
theorem zxa{pins:Y2}{σ:St}{H:Hp}{s:ig}{T:String}{x:V}{v:Va}(I:02 H s)(r:RelV x v)(ty:tyV X.K T x H):
  s.TypeIs v T/\∀a,v=.ref a->∃ob,s.heap.get? a=G ob/\ob.dict=B:=by
 cases x with
 |str z =>
  let(t,rfl):=r;cases(show T="str" from ty);show⟨typeIs_str s z t,λ_ e=>nomatch e⟩
 |int i =>
  let(t,rfl):=r;cases(show T="int" from ty);show⟨typeIs_int s i t,λ_ e=>nomatch e⟩
 |ref p =>
  cases r;rcases ty with⟨rfl,xs,A⟩|⟨rfl,o,M,C,hd⟩|⟨rfl,M⟩|⟨rfl,S,n,M⟩
  .let(its,_,f,_):=I.list A;apply⟨f.isList.typeIs,λa e=>?_⟩;cases e;let(o,n,e,c,hd,_):=f;show⟨o,e,hd⟩
  .refine⟨⟨o,I.kIn p o M,C⟩,λa e=>?_⟩;cases e;show⟨o,I.kIn _ o M,hd⟩
  .let z:∃o,s.heap.get? p=G o/\o.ExactDict:=by
    rcases M with⟨kvs,M⟩|⟨kvs,M⟩
    .let(_,_,_,_,o,_,_,e,ex,_):=I.hok p _ M;show⟨o,e,ex⟩
    .let(_,_,_,_,o,_,_,e,ex,_):=I.hok p _ M;show⟨o,e,ex⟩
   let(o,e,ex):=z;apply⟨⟨o,e,ex.1⟩,λa U=>?_⟩;cases U;show⟨o,e,ex.2.1⟩
  .let(o,_,_,_,e,ex,_):=I.hok p _ M;apply⟨⟨o,e,ex.1⟩,λa U=>?_⟩;cases U;show⟨o,e,ex.2.1⟩
 |_=>show False.elim ty
def tBM0(K:Frag)(T:String)(r:V->List V->Hp->VK->Prop)(e:TE):TE:=λσ H Q=>e σ H λx H1=>tyV K T x H1/\r x [] H1 Q
def tBM(K:Frag)(T:String)(r:V->List V->Hp->VK->Prop)(e:TE)(t:TA):TE:=λσ H Q=>e σ H λx H1=>tyV K T x H1/\t σ H1 λxs H2=>r x xs H2 Q
variable {o e:Expr}{es:List Expr}{to:TE}{t:TA}{name:Str}{apos cpos:Pos}{T id:String}{r:V->List V->Hp->VK->Prop}
theorem pe_bm0(pa:PlainAttrs T)(slot:Slot T name id)(C:typeOf (.builtin id)=pure (.type "method_descriptor"))(M:MtR X id r)(D:PE X o to)
  (g:attributeBase o name X.env (eval o X.env)=eval o X.env:=by rfl) (f:(apos.endLine==cpos.line)=N:=by rfl):PE X (.Call (.Attribute o name apos) [] [] cpos) (tBM0 X.K T r to):=by
 intro pins s σ H Q I h;apply wpAny_Call_method0_late g f<|thn (D pins s σ H _ I h) λv s1 zz=>ex5 zz λx H1 I1 r1 zq=>?_;let(ty,E):=zq;let(L,J):=zxa I1 r1 ty;show⟨T,id,pa,slot,C,L,J,Calls.callWith_builtin R<|PySem.evalArgs_none (M pins s1 σ H1 x [] v [] Q I1 r1 .nil E)⟩
theorem pe_bm(pa:PlainAttrs T)(slot:Slot T name id)(C:typeOf (.builtin id)=pure (.type "method_descriptor"))(M:MtR X id r)(D:PE X o to)(d:PA X (e::es) t)
  (g:attributeBase o name X.env (eval o X.env)=eval o X.env:=by rfl)
  (u:((jh cpos<|iq (e::es) X.env).all (λx=>!x.1)&&(backToKw cpos<|keywordEach [] X.env).all (λx=>x.1.isSome)
   && decide ((e::es).length+([]:List jW).length+(if([]:List jW).isEmpty then 0 else 1)<30))=N:=by rfl)
  (f:(apos.endLine==cpos.line)=N:=by rfl) (hs:iq (e::es) X.env=036::iq es X.env:=by rfl) (j:(jh cpos<|iq es X.env).any (·.1)=Fa:=by rfl) :
  PE X (.Call (.Attribute o name apos) (e::es) [] cpos) (tBM X.K T r to t):=by
 intro pins s σ H Q I h;apply wpAny_Call_method_late g u f R<|thn (D pins s σ H _ I h) λv s1 zz=>ex5 zz λx H1 I1 r1 zq=>?_;let(ty,E):=zq;let(L,J):=zxa I1 r1 ty;apply⟨T,id,pa,slot,C,L,J,?_⟩;let c:=d cpos pins s1 σ H1 _ I1 E;rw[hs]at c ⊢;apply Calls.callWith_builtin (by change(Fa||(jh cpos<|iq es X.env).any (·.1))=Fa;rw[j]<;>rfl)<|Calls.evalArgs_plain ?_;show thn c λus s2 zz=>ex5 zz λvs H2 w l i=>M pins s2 σ H2 x vs v us Q w r1 l i
end
def MtM(X:Cx)(id:String)(r:V->List V->Hp->VK->Prop):Prop :=
 ∀(pins:Y2) (s:ig) (σ:St) (H:Hp) (x:V) (xs:List V) (v:Va) (us:List Va) (Q:VK),02 H s->RelV x v->Vals xs us->r x xs H Q->
  wpAny 20 X.A (call (.builtin id) (v::us)) 028 X.xe s
theorem Vals.one:∀{x:V} {us:List Va},Vals [x] us->∃u,us=[u]/\RelV x u:=λh=>vals1 h
theorem Vals.zero:∀{us:List Va},Vals [] us->us=[]
 |_,.nil=>rfl
theorem Vals.dropLast(h:Vals xs us):Vals xs.dropLast us.dropLast:=by
 induction h with
 |nil=>show .nil
 |cons r t Q =>
  cases t with
  |nil=>show .nil
  |cons q t'=>show .cons r Q
theorem Vals.reverse(h:Vals xs us):Vals xs.reverse us.reverse:=by
 induction h with
 |nil=>show .nil
 |cons r t Q=>rw[y38,y38];show Vals.append Q<|.cons r .nil
theorem Vals.rep(h:Vals xs us):∀k:Nat,Vals (List.replicate k xs).flatten (List.replicate k us).flatten
 |0=>.nil
 |k+1=>by
  rw[y25,y25,y2w,y2w];show Vals.append h<|Vals.rep h k
theorem zp8{q:Type}(l:List q):l.eraseIdx (l.length-1)=l.dropLast:=by
 induction l with
 |nil=>rfl
 |cons a r Q =>
  cases r with
  |nil=>rfl
  |cons b r =>
   let e:(a::b::r).length-1=((b::r).length-1)+1:=by
    let L:(a::b::r).length=r.length+2:=rfl;let J:(b::r).length=r.length+1:=rfl;omega
   rw[e,List.eraseIdx_cons_succ,Q]
   all_goals rfl
theorem zkz(its:List Va):∀(k:Nat) (acc:List Va),
  List.foldl (λc O=>c++O) acc.toArray (List.replicate k its.toArray)=(acc++(List.replicate k its).flatten).toArray
 |0,acc=>by simp
 |k+1,acc=>by
  let e:acc.toArray++its.toArray=(acc++its).toArray:=by simp
  let C:(acc++its)++(List.replicate k its).flatten=acc++(List.replicate (k+1) its).flatten:=by
   rw[y25,y2w,y24]
  rw[←C,←zkz its k (acc++its),←e,y25,y0z]
section
variable {X:Cx}{pins:Y2}{σ:St}{H:Hp}{s:ig}{l b:Ad}{xs ys zs:List V}
theorem Inv.lset{its its':List Va}(I:02 H s)(A:H l=G 91)
  (e:s.heap.get? l=G {cls:=.type "list",data:=.seq its.toArray n}) (T:f its.toArray=its'.toArray) (hv:Vals ys its') (hz:ys.length<=ii) :
  02 (upd H l 50) {s with heap:=s.heap.update l<|Obj.mapSeq f,toks:=t'}:=by
 let q:=PySem.IsL.update e f;rw[T]at q;apply I.write (x:=l) (e:=l) (by rw[A];show trivial) 015 (λi u U C=>(y1b s.heap (Obj.mapSeq f)<|Ne.symm U).trans C) ⟨_,q⟩ ?_;show⟨hz,its',_,hv,q⟩
theorem Inv.lnew(I:02 H s)(hv:Vals ys its)(hz:ys.length<=ii):
  02 (upd H s.heap.objs.size 50) {s with heap:=s.heap.push {cls:=.type "list",data:=.seq its.toArray},toks:=t'} :=
 I.laid (λ_ _ q=>y04 _ q) 08 ⟨hz,its,0,hv,y0b _ R⟩
theorem Inv.fresh(I:02 H s):H s.heap.objs.size=B:=I.hok.fresh 08
theorem Inv.lstM(I:02 H s)(A:H l=G 91):xs.length<=ii/\∃(its:List Va) (n:Nat),Vals xs its/\xs.length=its.length/\s.heap.get? l=G {cls:=.type "list",data:=.seq its.toArray n}:=by
 let(z,its,n,r,e):=I.hok l _ A;show⟨z,its,n,r,r.length,e⟩
theorem notLongL(h:n<=ii):Builtin.List.listTooLong n=Fa:=by
 unfold Builtin.List.listTooLong;show Xf 00
end
section
variable {X:Cx}
def rAppend:V->List V->Hp->VK->Prop:=λx vs H Q=>∃l xs y,x=.ref l/\vs=[y]/\H l=G 91/\xs.length<ii/\Q .non (upd H l<|.lst (xs++[y]))
theorem zks:MtM X "list.append" rAppend:=by
 intro pins s σ H x vs v us Q I T d h;let(l,xs,y,rfl,rfl,A,hz,q):=h;cases T;let(u,rfl,f):=d.one;let(z,its,n,r,Y,e):=I.lstM A;apply iQ F.slot_list_append ⟨_,e,R⟩ F.entry_list_append (F.args_list_append_2 _ _) (PySem.list_append l its.toArray n u<|by rw[y06];omega) ⟨e,?_⟩;apply⟨.non,_,I.lset (its':=its++[u]) A e 06 (r.append<|.cons f .nil) ?_,R,q⟩;rw[y0d,y0r];omega
def rExtend:V->List V->Hp->VK->Prop:=λx vs H Q=>∃l b xs zs,x=.ref l/\vs=[.ref b]/\H l=G 91/\H b=G (.lst zs)/\xs.length+zs.length<=ii/\Q .non (upd H l<|.lst (xs++zs))
theorem zsl:MtM X "list.extend" rExtend:=by
 intro pins s σ H x vs v us Q I T d h;let(l,b,xs,zs,rfl,rfl,A,w,hz,q):=h;cases T;let(u,rfl,f):=d.one;cases f;let(z,its,n,r,Y,e):=I.lstM A;let(p,g,o,U,D,C):=I.lstM w;let hsz:its.toArray.size+g.toArray.size<=ii:=by rw[y06,y06];omega
 let i:¬(!its.toArray.isEmpty&&Builtin.List.listTooLong (its.toArray.size+g.toArray.size))=N:=by
  rw[notLongL hsz,y2f];show y0f
 apply iQ F.slot_list_extend ⟨_,e,R⟩ F.entry_list_extend (F.args_list_extend_2 _ _)
  (AutoSeq1.list_extend_list_list_0 l its.toArray n b g.toArray o i (by rw[y06];omega) 00) ⟨e,C,?_⟩
 apply⟨.non,_,I.lset (its':=its++g) A e 06 (r.append U) ?_,R,q⟩;rw[y0d];omega
def rPop:V->List V->Hp->VK->Prop:=λx vs H Q=>∃l xs y,x=.ref l/\vs=[]/\H l=G 91/\xs[xs.length-1]?=G y/\Q y (upd H l<|.lst xs.dropLast)
theorem mt_pop:MtM X "list.pop" rPop:=by
 intro pins s σ H x vs v us Q I T d h;let(l,xs,y,rfl,rfl,A,U,q):=h;cases T;let c:=d.zero;subst c;let(z,its,n,r,Y,e):=I.lstM A;let(u,C,f):=r.get U;let a:its.toArray[its.toArray.size-1]?=G u:=by
  change its.toArray[its.length-1]?=G u;rw[←y2l,←Y];show C
 apply iQ F.slot_list_pop ⟨_,e,R⟩ F.entry_list_pop (F.args_list_pop_1 _) (MeetsSeq.list_pop_last l its.toArray n u a<|by rw[y06];omega) ⟨e,?_⟩;apply⟨y,_,I.lset (its':=its.dropLast) A e ?_ r.dropLast ?_,f,q⟩
 .change its.toArray.eraseIdxIfInBounds (its.toArray.size-1)=its.dropLast.toArray;rw[y06,List.eraseIdxIfInBounds_toArray,zp8]
 .rw[List.length_dropLast];omega
def rPopAt:V->List V->Hp->VK->Prop:=λx vs H Q=>∃l xs i k y,x=.ref l/\vs=[.int i]/\H l=G 91/\-(2^63)<=i/\i<2^63/\seqIndex? i xs.length=G k/\xs[k]?=G y/\Q y (upd H l<|.lst (xs.eraseIdx k))
def rCat:R2:=λx y H Q=>∃l b xs zs,x=.ref l/\y=.ref b/\H l=G 91/\H b=G (.lst zs)/\xs.length+zs.length<=ii/\∀p,H p=B->Q 09 (upd H p<|.lst (xs++zs))
theorem op_cat:OpR X (iF .Add) rCat:=by
 intro pins s σ H x y v u Q I T O h;let(l,b,xs,zs,rfl,rfl,A,w,hz,q):=h;cases T;cases O;let(z,its,n,r,Y,e):=I.lstM A;let(p,g,o,U,D,C):=I.lstM w;apply PySem.P.add_list e C ?_ (by rw[y06,y06];omega);let c:its.toArray++g.toArray=(its++g).toArray:=by simp
 rw[c];show⟨.ref _,_,I.lnew (t':=s.toks) (r.append U) (by rw[y0d];omega),R,q _ I.fresh⟩
def rRep:R2:=λx y H Q=>∃l k xs,x=.ref l/\y=.int k/\H l=G 91/\-(2^63)<=k/\k<2^63/\xs.length*k.toNat<=ii/\
 ∀p,H p=B->Q 09 (upd H p<|.lst (List.replicate k.toNat xs).flatten)
theorem len_rep{q:Type}(xs:List q)(k:Nat):(List.replicate k xs).flatten.length=k*xs.length:=by
 induction k with
 |zero=>simp
 |succ k Q=>rw[y25,y2w,y0d,Q,y4k,Nat.add_comm]
theorem op_rep:OpR X (iF .Mult) rRep:=by
 intro pins s σ H x y v u Q I g O h;let(l,k,xs,rfl,rfl,A,L,J,hz,q):=h;cases g;let(t,rfl):=O;let(z,its,n,r,Y,e):=I.lstM A;let j:its.toArray.size*k.toNat<=ii:=by rw[y06,←Y];show hz
 let E:¬its.toArray.size*k.toNat>(2^63-1)/8:=by
  let:(ii:Nat)<=(2^63-1)/8:=by decide
  omega
 let f:¬(!Builtin.List.listFitsIndex k)=N:=by
  rw[fitsIndex_both L J];show y0f
 let i:¬Builtin.List.listTooLong (its.toArray.size*k.toNat)=N:=by
  rw[notLongL j];show y0f
 let d:List.foldl (λc o=>c++o) #[] (List.replicate (if its.toArray.isEmpty=N then 0 else k.toNat) its.toArray)=(List.replicate k.toNat its).flatten.toArray:=by
  let M:∀m:Nat,List.foldl (λc o=>c++o) #[] (List.replicate m its.toArray)=(List.replicate m its).flatten.toArray:=λm=>by
   let:=zkz its m [];rw[y2i]at this;show this
  rw[M];cases its with
  |nil=>simp
  |cons a r'=>rw[Xp 06]
 apply wpAny_binaryOp_repeat_ref (T:="list") (U:="int") 04 ⟨_,e,R⟩ (λs'=>typeIs_int s' k t) noFill_list_mul F.fills_int_mul F.slot_int_rmul repeat_list F.slot_int_index.lookup
  (iQ F.slot_int_rmul (typeIs_int s k t) F.entry_int_rmul (F.args_int_rmul_2 _ _) (int___rmul___int_list k t l its.toArray n)
   ⟨e,R,⟨_,e,R⟩,iQ F.slot_list_mul ⟨_,e,R⟩ F.entry_list_mul (F.args_list_mul_2 _ _) (AutoListH.list___mul___list_int_3 l its.toArray n k t f E i) ⟨e,?_⟩⟩)
 rw[d];show⟨.ref _,_,I.lnew (t':=s.toks) (r.rep k.toNat) (by rw[len_rep,y3x];show hz),R,q _ I.fresh⟩
end
end L2
namespace Att
open PySem PySem.W PySem.Calls PyProof.Rows
theorem zgh:∀(ns:List Int) (vs:List Va),WellAll P h vs (ns.map WData.int)->jJ vs ns:=by
 intro ns
 induction ns with
 |nil =>
  intro vs w;rw[y2y]at w;cases w;show .nil
 |cons n ns Q =>
  intro vs w;rw[y0m]at w;cases w with
  |cons a b =>
   cases a;show .cons _ _<|Q _ b
theorem zq5{l:OpenLaw}(hn:l.most=G n){h:Heap}
  (hpre:l.row.toRowW.claim.pre args=N) (hwl:WellAll P h vals args) :
  ∃a vs ns,vals=[Va.ref a]/\args=[WData.list<|ns.map WData.int]/\h.get? a=G {cls:=.type "list",data:=.seq vs.toArray}/\jJ vs ns/\ns.length<=n:=by
 let hsh:WShape.hasAll [] args [.list .int]=N:=(pre_splitW hpre).1;let hc:l.pre.holds [] {args:=args}=N:=(pre_splitW hpre).2;let(d,r,rfl,h1,h2):=hasAllW_cons hsh;obtain rfl:=hasAllW_nil h2;let(xs,rfl,h3):=hasW_list h1;let(ns,rfl):=items_int h3;let hlen:ns.length<=n:=by
  unfold OpenLaw.pre at hc;let h4:(WTm.not<|.lt (.lit<|.int (n:Int)) (.len<|.arg 0)).holds [] {args:=[.list<|ns.map .int]}=N:=by
   let h4:=(holds_andW hc).1;rw[hn]at h4;show h4
  let h5:=condW_of h4<|w_not (w_lt w_lit<|w_len_list (w_arg R));rw[y01]at h5;apply y2e λq=>?_;let q':(n:Int)<((ns.length:Nat):Int):=by omega
  first
   |(rw[Xg q']at h5;show Xa h5<|by decide)
   |(simp at h5;omega)
 cases hwl with
 |cons w1 w2 =>
  cases w2;cases w1 with
  |list ho hall=>show⟨_,_,ns,R,R,ho,zgh ns _ hall,hlen⟩
theorem zri(l:OpenLaw)(args:List WData):l.row.toRowW.claim.post args (.bool N) args=N :=
 postW_of (r:=l.row.toRowW) (X:=(N==N))
  (show WShape.has [] (.bool N) .bool=N by first|rfl|decide|simp[WShape.has,WShape.arms,WShape.armsAll])
  (show(WTm.eq .res<|.lit (.bool N)).value [] {args:=args,res:=G<|.bool N,after:=args}=G (.bool<|N==N)from w_eq_bool (w_res R) w_lit) R
theorem attach_call{l:OpenLaw}{d:DefRec}
  (I:l.most=G n) (E:d.params.defaults=[])
  (call:∀(w:World) (s₀ s₁:ig) (mg mb:Y1) (g:Ad) (o:Obj) (pm cd doc:Va) (a:Ad) (vs:List Va) (ns:List Int),
   Ground q c [] T w s₀ mg mb s₁.heap->Q w s₁.heap->
   s₁.heap.get? g=G o->o.data=.func (docDef d.name d.params d.body d.scope pm cd doc)->s₁.heap.CodeRec cd d.name->mg d.name=G (.ref g)->
   s₁.heap.get? a=G {cls:=.type "list",data:=.seq vs.toArray}->jJ vs ns->ns.length<=n->s₁.gens=#[]->
   jc (model l.prog w) li (.call (.ref g) ⟨[.ref a],[]⟩) (λr s'=>r=.ok (.ret<|.bool N)/\OldK s₁.heap s'.heap/\s'.os=s₁.os/\j8 s'.gens) s₁) :
  WalkO q c T Q l.row.toRowW d [] (λf vs=>PySem.call f vs):=by
 intro w s₀ s₁ mg mb Gq Y g o pm cd doc v kV D hd hcd u O y args j x p s H e U;obtain rfl:v=.none:=Dflts.none u E;obtain rfl:kV=.none:=Dflts.noKw u;let(a,vs,ns,rfl,rfl,z,i,L):=zq5 I p e;apply enter_call<|iI (call w s₀ s₁ mg mb g o pm cd doc a vs ns Gq Y D (fd_plain hd) hcd O z i L y) λr s' A=>?_;let(rfl,J,h3,C):=A;show⟨.inl ⟨.bool N,.bool N,[],R,λ_=>rfl,.bool N,zri l _,λ_=>⟨List.Pairwise.nil,λ_ M=>(nomatch M)⟩⟩,J,h3,C⟩
end Att
namespace L2
theorem zjq:∀{vs:List Va} {ns:List Int},jJ vs ns->Vals 025 vs
 |_,_,.nil=>.nil
 |_,_,.cons n t h=>.cons ⟨t,R⟩<|zjq h
noncomputable abbrev KOf{K:Frag}{h:Heap}(_:K.In h):Frag:=K
noncomputable def defArgs(s:Stmt):iL:=match s with
 |.FunctionDef _ a _ _ _ _ _ _ _ _=>a
 |_=>{posonlyargs:=[],args:=[],vararg:=B,kwonlyargs:=[],kw_defaults:=[],kwarg:=B,defaults:=[]}
noncomputable def defBody(s:Stmt):List Stmt:=match s with
 |.FunctionDef _ _ b _ _ _ _ _ _ _=>b
 |_=>[]
noncomputable def defScope(s:Stmt):Scope:=match s with
 |.FunctionDef _ _ _ _ _ _ a _ _ _=>a
 |_=>{kind:=.function,names:=[],isGenerator:=Fa,isCoroutine:=Fa}
abbrev CX0:CXT:=λ_ _ _ _ _ _=>False
abbrev E0:XK:=λ_ _ _=>False
theorem pass0:Passes CX0 X E0:=λ_ _ _ _ _ _ _ h=>h.elim
structure Fun(K:Frag)(x qual:Str)(st:Stmt)(f:Ad)(fd:i6):Prop where
 ex:∃(oc:Va) (od:Option Ad) (kV doc pm:Va) (an:Option Ad) (cdv ct:Va) (osl:Y8),
  fd=PySem.W.fnOf x qual (defArgs st) (defBody st) 66 .none kV doc pm an cdv ct/\K.lookup f=G ⟨oc,od,.func fd,osl⟩/\PySem.W.codeIn K cdv qual=N
 kp:PySem.W.keepIn K 61=N
section
variable {P:ik}{w:World}{K:Frag}{mg:Y1}{base:Heap}
theorem Fun.ok{x qual:Str}{st:Stmt}{f:Ad}{fd:i6}{Nq ps:List Str}{k:Nat}{sp:Sp}(F:Fun K x qual st f fd)(S:FnScope Nq ps 66)(len:∀vs H Q E,sp vs H Q E->vs.length=ps.length)
  (i:∀(l:Va) (A:io) (outer:List Env) (s:ig) (H:Hp) (vs:List V) (Q:VK) (E:XK),Room k (A.deeper<|jd qual 66 s.heap.objs.size f l)->sp vs H Q E->
   ∃t,PSs (cxOf CX0 P w K mg base Nq qual 66 f l A outer s H E).nox (defBody st) t/\t {nx:=λ_ H'=>Q .non H',rt:=Q} 026 H):FnOk P w K mg base CX0 (k+1) f fd ps sp:=by
 let(oc,j,kV,doc,r,g,l,ct,z,rfl,lk,hcd):=F.ex;apply fn_of lk hcd S len λA outer s H vs Q E D a=>?_;let(t,h,q):=i l A outer s H vs Q E D a;show⟨t,h.nox,q⟩
theorem Fun.binds{x qual:Str}{st:Stmt}{f:Ad}{fd:i6}{ps:List Str}(F:Fun K x qual st f fd)
  (h:∀(kV doc pm:Va) (an:Option Ad) (cdv ct:Va) (us:List Va),us.length=ps.length->je 077 019=pure 018):Binds K fd ps []:=by
 let(oc,j,kV,doc,pm,an,cdv,ct,z,rfl,lk,hcd):=F.ex;show .all<|h kV doc pm an cdv ct
theorem zob{x qual:Str}{st:Stmt}{f:Ad}{oc:Va}{j an:Option Ad}{z:Y8}{kV doc pm cdv ct:Va}(l:K.lookup f=G ⟨oc,j,.func 077,z⟩)
  (c:PySem.W.codeIn K cdv qual=N) (k:PySem.W.keepIn K 61=N):Fun K x qual st f 077:=⟨⟨oc,j,kV,doc,pm,an,cdv,ct,z,R,l,c⟩,k⟩
end
theorem small1000(h:n<=1000):n<ii:=y3n h 04
section
variable {X:Cx}
theorem pv(i:Nat){x:Str}{pos:Pos}(hN:X.Nq[i]?=G x:=by rfl)(hv:Vis X.env.scope x:=by first|show Or.inl rfl|show Or.inr (Or.inl R)|show Or.inr (Or.inr R))(hd:(x==("__debug__":Str))=Fa:=by decide)
  (hcd:046=Fa:=by decide):PE X (.Name x pos) (tVar i):=zhn hN hv hd hcd
end
theorem iteF{A Bq:Prop}(h:Bq):if Fa=N then A else Bq:=by
 rw[Xp y0f];show h
theorem iteT{A Bq:Prop}(h:A):if N=N then A else Bq:=by
 rw[Xq rfl];show h
theorem itT{c A Bq:Prop}[Decidable c](e:c)(h:A):if decide c=N then A else Bq:=by
 rw[Xg e];show iteT h
theorem itF{c A Bq:Prop}[Decidable c](e:¬c)(h:Bq):if decide c=N then A else Bq:=by
 rw[Xf e];show iteF h
theorem ite2{c A Bq:Prop}[Decidable c](L:c->A)(J:¬c->Bq):if c then A else Bq:=by
 by_cases h:c
 .rw[Xq h];show L h
 .rw[Xp h];show J h
def Same(H H':Hp):Prop:=∀b o,H b=G o->H' b=G o
theorem Same.refl(H:Hp):Same H H:=λ_ _ h=>h
theorem Same.trans(a:Same H H1)(b:Same H1 H2):Same H H2:=λc o h=>b c o<|a c o h
theorem Same.free(e:Same H H')(h:H' l=Option.none):H l=Option.none:=by
 cases q:H l with
 |none=>rfl
 |some o =>
  rw[e l o q]at h;cases h
theorem Same.seq{K:Frag}{H H':Hp}{a:Ad}{xs:List V}(e:Same H H')(h:SqL K H a xs):SqL K H' a xs:=by
 rcases h with(h|⟨o,h⟩)|h
 .exact .inl<|.inl (e _ _ h)
 .exact .inl<|.inr ⟨o,e _ _ h⟩
 .exact .inr h
theorem ixm{a:Ad}{S:Ad->List V->Prop}{xs:List V}{i:Int}{v:V}{Rq:V->Prop}(e:S a xs)(h:atI xs i=G v)(r:Rq v):asR 07 λp=>∃xs,S p xs/\∃v,atI xs i=G v/\Rq v:=⟨xs,e,v,h,r⟩
theorem mkT{n:Nat}{Rq:Prop}(k:Rq)(h:Nat.ble n ii=N:=by rfl):n<=ii/\Rq:=⟨Nat.le_of_ble_eq_true h,k⟩
theorem atom{A:Prop}(h:∀Gq:Prop,(A->Gq)->Gq):A:=h A id
theorem ze1(env:Env):∀(names:List<|Str×jj) (d:Y4),
  (∀p∈names,p.2=.free->∃c,env.cells.lookup p.1=G c)->(∀x c,d.lookup x=G c->env.cells.lookup x=G c)->
  ∃cl:List<|Str×Ad,(forIn names d λ(p:Str×jj) (r:Y4)=>(if(p.2==NameKind.free)=N then(do let c ←cellOf env p.1;pure (ForInStep.yield ((p.1,c)::r)))else pure (ForInStep.yield r):Sem<|ForInStep (List<|Str×Ad)))=(pure cl:Sem<|List (Str×Ad))/\
   (∀x c,cl.lookup x=G c->env.cells.lookup x=G c)/\(∀x,(d.lookup x).isSome=N->(cl.lookup x).isSome=N)/\(∀p∈names,p.2=.free->(cl.lookup p.1).isSome=N)
 |[],d,_,J=>⟨d,R,J,λ_ h=>h,λ_ h=>nomatch h⟩
 |(n,k)::r,d,L,J=>by
  let a:∀p∈r,p.2=.free->∃c,env.cells.lookup p.1=G c:=λp E=>L p<|y07 _ E;by_cases M:(k==NameKind.free)=N
  .let i:k=.free:=by simpa using M
   let(c,C):=L (n,k) y0a i;let z:∀x c',((n,c)::d).lookup x=G c'->env.cells.lookup x=G c':=λx c' e=>by
    rw[y10]at e;cases O:x==n with
    |true =>
     rw[O]at e;let g:x=n:=by simpa using O
     rw[g,C];show e
    |false=>rw[O]at e;show J x c' e
   let(cl,g,U,j,u):=ze1 env r ((n,c)::d) a z;let I:(((n,c)::d).lookup n).isSome=N:=by rw[y10,beq_self_eq_true];rfl
   apply⟨cl,?_,U,λx O=>j x ?_,λp E T=>?_⟩
   .rw[y2c];let q:cellOf env n=pure c:=by unfold cellOf;rw[C]
    simp only[M,if_true,q];show g
   .rw[y10];cases x==n with
    |true=>rfl
    |false=>show O
   .rcases y09.mp E with e|E
    .rw[e];show j n I
    .exact u p E T
  .let(cl,g,U,j,u):=ze1 env r d a J;apply⟨cl,?_,U,j,λp E T=>?_⟩
   .rw[y2c];let f:(k==NameKind.free)=Fa:=by simpa using M
    simp only[f,y35,if_false];show g
   .rcases y09.mp E with e|E
    .rw[e]at T;show Xa (by simpa using T) M
    .exact u p E T
theorem zh4(h:∀p∈scope.names,p.2=.free->∃c,env.cells.lookup p.1=G c):
  ∃cl,closureFor scope env=pure cl/\(∀x c,cl.lookup x=G c->env.cells.lookup x=G c)/\(∀p∈scope.names,p.2=.free->∃c,cl.lookup p.1=G c):=by
 let(cl,g,C,_,u):=ze1 env scope.names [] h (λx c e=>by simp at e);apply⟨cl,?_,C,λp E T=>y36.mp<|u p E T⟩;let q:closureFor scope env=(forIn scope.names [] λ(p:Str×jj) (r:Y4)=>(if(p.2==NameKind.free)=N then(do let c ←cellOf env p.1;pure (ForInStep.yield ((p.1,c)::r)))else pure (ForInStep.yield r):Sem<|ForInStep (List<|Str×Ad)))>>=pure:=by
  unfold closureFor;rfl
 rw[q,g];rfl
theorem ze6{env:Env}:∀{names:List (Str×jj)} {x:Str},(∀y∈names,y.2 ≠ .cell)->
  ((names.map λ(n,k)=>if(053)then(n,NameKind.cell)else(n,k)).lookup x=G .cell\/
   (names.map λ(n,k)=>if(053)then(n,NameKind.cell)else(n,k)).lookup x=G .free)->(x,NameKind.free)∈names
 |[],_,_,h=>by simp at h
 |(n,k)::r,x,C,h=>by
  let Q:=@ze6 env r x λy U=>C y<|y07 _ U;simp only[y0m]at h;cases O:x==n with
  |true =>
   let e:x=n:=by simpa using O
   subst e;by_cases H:(k==NameKind.free&&env.scope.kind ==.function&&env.kindOf x==G .cell)=N
   .let:k=.free:=by
     simp only[y08]at H;simpa using H.1.1
    subst this;show y0a
   .rw[Xp H]at h;simp only[y10,O]at h;rcases h with h|h
    .let:k=.cell:=Option.some.inj h;show Xa this<|C (x,k) y0a
    .let:k=.free:=Option.some.inj h;subst this;show y0a
  |false =>
   apply y07 _<|Q ?_;by_cases H:053=N
   .rw[Xq H]at h;simpa only[y10,O]using h
   .rw[Xp H]at h;simpa only[y10,O]using h
theorem ze5{env:Env}:∀{names:List (Str×jj)} {x:Str},names.lookup x=G .free->
  ((names.map λ(n,k)=>if(053)then(n,NameKind.cell)else(n,k)).lookup x=G .cell\/
   (names.map λ(n,k)=>if(053)then(n,NameKind.cell)else(n,k)).lookup x=G .free)
 |[],_,h=>by simp at h
 |(n,k)::r,x,h=>by
  let Q:=@ze5 env r x;simp only[y0m];cases O:x==n with
  |true =>
   simp only[y10,O]at h;let e:k=.free:=Option.some.inj h;subst e;by_cases H:(NameKind.free==NameKind.free&&env.scope.kind ==.function&&env.kindOf n==G .cell)=N
   .rw[Xq H];left;simp only[y10,O]
   .rw[Xp H];right;simp only[y10,O]
  |false =>
   simp only[y10,O]at h;by_cases H:053=N
   .rw[Xq H];simpa only[y10,O]using Q h
   .rw[Xp H];simpa only[y10,O]using Q h
def cxB(X:Cx)(scope:Scope)(tn:List Str)(cp:Y6)(cl:Y4)(C:Ad)(s:ig)(H:Hp)(fp:List Ad):Cx :=
 {X with Nq:=tn++cp.map (·.2),s₀:=s,H₀:=H,env:=compEnvC scope cl C X.env,outer:=X.stack,ex:=fp,fn:=λ_=>Fa,pn:=[],xe:=λ_ _=>False}
noncomputable def stB(tn:List Str)(cp:Y6)(σ:St):St:=List.replicate tn.length B++cp.map λp=>(σ[p.1]?).getD B
structure CompOk(X:Cx)(scope:Scope)(cp:Y6):Prop where
 kind:scope.kind=.function
 nocell:∀y∈scope.names,y.2 ≠ .cell
 names:∀y∈scope.names,y.2=.local->scope.names.lookup y.1=G .local
 free:∀y∈scope.names,y.2=.free->X.env.kindOf y.1=G .cell\/X.env.kindOf y.1=G .free
 cap:∀p∈cp,X.Nq[p.1]?=G p.2/\scope.names.lookup p.2=G .free
section
variable {X:Cx}{pins:Y2}{σ:St}{H:Hp}{s:ig}{scope:Scope}{tn:List Str}{cp:Y6}{cl:Y4}{fp:List Ad}
theorem mem_of_lookup'{q:Type}:∀{l:List (Str×q)} {x:Str} {v:q},l.lookup x=G v->(x,v)∈l
 |[],_,_,h=>by simp at h
 |(n,k)::r,x,v,h=>by
  rw[y10]at h;cases O:x==n with
  |true =>
   rw[O]at h;let e:x=n:=by simpa using O
   let C:k=v:=Option.some.inj h;subst e C;show y0a
  |false=>rw[O]at h;show y07 _<|mem_of_lookup' h
theorem zm6(I:02 H s)(O:CompOk X scope cp)(d:∀x c,cl.lookup x=G c->X.env.cells.lookup x=G c)(f:∀p∈scope.names,p.2=.free->∃c,cl.lookup p.1=G c)
  (T:∀b∈fp,FpOk X pins H b/\b<s.heap.objs.size) (cw:h₁.Ns s.heap.objs.size m0) (M:∀b o,s.heap.get? b=G o->h₁.get? b=G o) :
  Inv (cxB X scope tn cp cl s.heap.objs.size s H fp) [] (stB tn cp σ) H {s with heap:=h₁,toks:=t'}:=by
 let ok:(cxB X scope tn cp cl s.heap.objs.size s H fp).Ok:=by
  apply⟨I.ok.mod,O.kind,I.ok.glob,I.ok.blt,y05 _,λx y c g e2=>I.ok.inj x y c (d x c g)<|d y c e2,λx hx=>?_,λx c hx=>(by cases hx),I.ok.hd,I.ok.frames,.inl R,λb U=>⟨y0j (T b U).2,λx c e=>?_⟩,
   λb o e=>I.bs b o e,y14 I.ok.bsz I.sz,λb o e U=>?_,λb U J=>?_,I.stack,I.stkFree⟩
  .exact f (x,.free) (ze6 O.nocell hx) R
  .exact(T b U).1.2.2.2.2.1 x c<|d x c e
  .rcases(T b U).1.2.2.2.1 with z|z
   .exact I.ok.noex b o e z
   .exact Xa (y0p (y0c e)<|y14 I.ok.bsz z)<|y1q _
  .rcases y09.mp (I.stkSub b J)with z|z
   .exact(T b U).1.2.1 z
   .exact(T b U).1.2.2.1 z
 apply⟨ok,R,I.bare,Un.kept M,⟨m0,cw,λi x v g e2 j=>?_⟩,λx c e=>?_,I.hok.fresh 08,λx c e=>I.freeC x c<|d x c e,λp E=>by simp[cxB]at E,I.hok.kept M,?_⟩
 ·-- a mt name
  let w:(tn++cp.map (·.2))[i]?=G x:=g;let Q:(List.replicate tn.length B++cp.map λp=>(σ[p.1]?).getD B)[i]?=G (G v):=e2;by_cases hi:i<tn.length
  .rw[y16<|by simpa using hi]at Q;rw[y3a,Xq hi]at Q;cases Q
  .rw[y12 (by simpa using y2e hi),y2j,y03]at Q;rw[y12<|y2e hi,y03]at w;cases E:cp[i-tn.length]? with
   |none=>rw[E]at w;cases w
   |some p =>
    rw[E]at w Q;let e1'':p.2=x:=Option.some.inj w;let fg:(σ[p.1]?).getD B=G v:=Option.some.inj Q;let(c1,A):=O.cap p<|y0n E;rw[e1'']at c1 A;let hs:σ[p.1]?=G (G v):=by
     cases q:σ[p.1]? with
     |none=>rw[q]at fg;cases fg
     |some z=>rw[q]at fg;show congrArg G fg
    let hk':=O.free (x,.free) (mem_of_lookup' A) rfl;let hvis:Vis X.env.scope x:=by
     rcases hk' with z|z
     .exact .inr<|.inl z
     .exact .inr<|.inr z
    let(m,hn,Y):=I.loc;let(u,r,l):=Y p.1 x v c1 hs hvis;apply⟨u,r,.inr ?_⟩;rcases l with⟨z,_⟩|⟨_,c,C,o,D,hd⟩
    .rcases hk' with y|y<;>(rw[z]at y;cases y)
    .let(c',L):=f (x,.free) (mem_of_lookup' A) rfl;let:c'=c:=Option.some.inj<|(d x c' L).symm.trans C;subst this;show⟨ze5 A,c',L,o,M c' o D,hd⟩
 .let(v,o,D,hd):=I.cell x c<|d x c e;show⟨v,o,M c o D,hd⟩
 .change(stB tn cp σ).length=(tn++cp.map (·.2)).length;unfold stB;simp
theorem zub{M:St}{H':Hp}{s':ig}{h':Heap}{a:Y2}(I:02 H s)(T:∀b∈fp,FpOk X pins H b)
  (J:Inv (cxB X scope tn cp cl s.heap.objs.size s H fp) a M H' s') (hs:Heap.SameBut s.heap.objs.size s'.heap h'):02 H' {s' with heap:=h'}:=by
 let ne:∀b o,s.heap.get? b=G o->b≠s.heap.objs.size:=λb o e=>y0j<|y0c e;let U:Un (frs X.stack) fp H H' s.heap h':=by
  let u:Un (frs X.stack) fp H H' s.heap s'.heap:=J.base;apply⟨λb o e n L f=>(hs.2 b<|ne b o e).trans<|u.keep b o e n L f,λb o e n L f=>?_,u.free,λb o e f=>?_,u.tups,u.frzs,u.tbls⟩
  .let(Y,q):=u.slot b o e n L f;show⟨Y,(hs.2 b<|ne b o e).trans q⟩
  .let(Q,q):=u.there b o e f;show⟨Q,(hs.2 b<|ne b o e).trans q⟩
 let fr:H' s.heap.objs.size=B:=J.free;let hok:HOk X.prog X.w H' h':=λb ob e=>by
  apply(J.hok b ob e).stay (λc v C q=>(hs.2 c ?_).trans q) (λ_ q=>q) (λ_ _ _ _ _ q=>q) λ_ _ q=>q;rintro rfl;rcases C with z|z
  .rw[←z,fr]at e;cases e
  .rw[fr]at z;cases z
 apply I.call' (s':={s' with heap:=h'}) (ch:=fp) J.os U hok J.bare λb d=>?_;let(_,f1,_,g,i,x):=T b d;show⟨g,f1,i,x⟩
end
def PIfs(X:Cx)(i:List Expr)(t:TT):Prop :=
 ∀(pins:Y2) (s:ig) (σ:St) (H:Hp) (Q:Bool->Hp->Prop),02 H s->t σ H Q->
  wpAny 20 X.A (forIn i N λc r=>if r=N then do let ok ←isTrue c X.env (eval c X.env);pure (ForInStep.yield ok)else pure (ForInStep.yield r)) (TP X pins σ Q) X.xe s
def tYes:TT:=λ_ H Q=>Q N H
theorem za4:PIfs X [] tYes:=λ_ _ _ H _ I h=>wpAny_tests_nil ⟨H,I,h⟩
theorem zrn(h:PT X c t):PIfs X [c] t:=λpins s σ H Q I j=>wpAny_tests_one<|h pins s σ H Q I j
theorem zk6(I:Nat->ig->Prop)
  (turn:∀n s,I n s->wpAny 95 A (j6 it) (λr s₁=>match r with
   |none=>Rq (.ok .next) s₁
   |some v=>wpAny 95 A (iY a it v) (λ_ s₂=>wpAny 95 A (assign a env v) (λ_ s₃ =>
     wpAny 95 A (forIn i N λc r=>if r=N then do let ok ←isTrue c env (eval c env);pure (ForInStep.yield ok)else pure (ForInStep.yield r)) (λok d =>
      if ok=N then wpAny 95 A (eval u env) (λx l =>
       wpAny 95 A (call (.builtin "list.append") [acc,x]) (λ_ o=>∃m,m<n/\I m o) (λ_ _=>False) l) (λ_ _=>False) d
      else∃m,m<n/\I m d) (λ_ _=>False) s₃) (λ_ _=>False) s₂) (λ_ _=>False) s₁) (λ_ _=>False) s)
  (n:Nat) (h:I n s) :
  jc 95 A (.compLoop (.ListComp u [⟨a,iter,i,0⟩] scope pos) 0 it acc env) Rq s:=by
 apply codeAny_loop R I (λn s y=>?_) n h;change wpAny _ A ((compTurn (.ListComp u [⟨a,iter,i,0⟩] scope pos) 0 it acc env).onRaise λx=>do noteFrame x env;theTreesLotGoes x) _ _ s;apply wpAny_noted ?_;rw[compTurn_list];apply ia<|iS (ia<|iw (turn n s y) (λr s₁ h₁=>?_) λ_ _ f=>f.elim);cases r with
 |none=>show ib h₁
 |some v =>
  apply ia<|iw h₁ (λ_ s₂ g=>?_) λ_ _ f=>f.elim;apply ia<|iw g (λ_ s₃ e=>ia<|iw e (λok d j=>?_) λ_ _ f=>f.elim) λ_ _ f=>f.elim;cases ok with
  |false=>show ib ⟨R,j⟩
  |true =>
   show ia<|ia (iw j (λx l q=>ia<|iw q (λ_ o p=>ib<|ib ⟨R,p⟩) λ_ _ f=>f.elim) λ_ _ f=>f.elim)
def tComp(tn:List Str)(cp:Y6)(j:TI)(g:TG)(tif:TT)(te:TE):TE:=λσ H Q=>j σ H λJ H1=>∀D,H1 D=B->∃W:Nat->Nat->St->Hp->Prop,
 (∃m,W 0 m (stB tn cp σ) 032)/\∀i m f Hb,W i m f Hb->
  (J.stop i Hb/\Q 65 Hb)\/(J.go i Hb/\∀x H',J.yld i Hb x H'->g x f H' λd H2=>tif d H2 λc H3 =>
   if c=N then te d H3 λy H4=>∃ys,H4 D=G 50/\ys.length<ii/\∃O,O<m/\W (i+1) O d 050
   else∃O,O<m/\W (i+1) O d H3)
theorem zh0{X:Cx}{elt tg iter:Expr}{ifs:List Expr}{scope:Scope}{pos cpos:Pos}{wi:TI}{g:TG}{tif:TT}{te:TE}(tn:List Str)(cp:Y6)(O:CompOk X scope cp)(hc:X.calm=N)(hi:PI X tg iter wi)
  (hg:∀cl C s H fp,PG 040 tg g) (hif:∀cl C s H fp,PIfs 040 ifs tif) (he:∀cl C s H fp,PE 040 elt te)
  (hs:∀x,jt iter X.env x=pure x) {pins:Y2} {s:ig} {σ:St} {H:Hp} {Q:VK} {Rq:Y0} {use:Option (Va->Sem Unit)} (I:02 H s) (h:tComp tn cp wi g tif te σ H Q)
  (fin:∀(D C:Ad) (H5:Hp) (s5:ig) (m:Y1),02 H5 s5->FpOk X pins H5 C->s5.heap.Ns C m->Q 65 H5->compPost 20 X.A X.xe use Rq 65 C (.ok .next) s5) :
  wpAny 20 X.A (comprehension 064 scope X.env cpos (newList []) Fa (eval iter X.env) use) Rq X.xe s:=by
 let(cl,l,az,cy):=zh4 (scope:=scope) (env:=X.env) λp E hf=>I.ok.has p.1<|O.free p E hf;apply wpAny_comprehension_free (use:=use) R hs l O.kind O.names<|thn (hi pins s σ H _ I h) λv s1 L=>thn L λitv s2 h2=>?_;let(it,fp,tn',J,H2,rfl,w,T,dw,q,rest):=h2;apply i5 ?_;let A:02 (upd H2 s2.heap.objs.size<|.lst []) {s2 with heap:=s2.heap.push {cls:=.type "list",data:=.seq ([]:List Va).toArray} }:=w.lnew (its:=[]) (t':=s2.toks) .nil<|y13 _;let(W,(m0,w0),turn):=rest s2.heap.objs.size w.fresh;let fpl:∀b∈fp,b<s2.heap.objs.size:=λb U=>by
  let(o,e,_):=T.obj _ _ dw b U;show y0c e
 let f3:∀b∈fp,FpOk X pins (upd H2 s2.heap.objs.size<|.lst []) b:=λb U=>⟨by rw[zam<|y0j (fpl b U)];show(q b U).1,(q b U).2⟩;let sz3:(043).objs.size=s2.heap.objs.size+1:=y18 ..;apply wpAny_newFunctionEnv O.nocell (by intro y hy;simp at hy) (λh₁ cw Y=>?_) O.kind;let hk1:∀b o,(043).get? b=G o->h₁.get? b=G o:=λb o e =>
  Y.extBut b o (y0j<|y0c e) (y04 _ e)
 let J3:=zm6 (tn:=tn) (cp:=cp) (t':=s2.toks+([]:List<|Str×Va).length) A O az cy (λb U=>⟨f3 b U,by rw[sz3];show y2u<|fpl b U⟩) cw hk1;let gm:tn' 0 h₁:=T.keep _ _ _ dw λb U o e=>hk1 b o<|y04 _ e;change jc _ _ (.compStart _ 0 96 (.ref s2.heap.objs.size)<|compEnvC scope cl (043).objs.size X.env) _ _;generalize be:cxB X scope tn cp cl (043).objs.size {s2 with heap:=s2.heap.push {cls:=.type "list",data:=.seq ([]:List Va).toArray} } (upd H2 s2.heap.objs.size<|.lst []) fp=XB at J3;let bo:XB.prog=X.prog:=by rw[←be];rfl
 let j:XB.w=X.w:=by rw[←be];rfl
 let hK:XB.K=X.K:=by rw[←be];rfl
 let hA:XB.A=X.A:=by rw[←be];rfl
 let d7:XB.env=compEnvC scope cl (043).objs.size X.env:=by rw[←be];rfl
 let gu:XB.calm=N:=by rw[←be];show hc
 let hxe:XB.xe=λ_ _=>False:=by rw[←be];rfl
 let hgB:PG XB tg g:=by rw[←be];show hg _ _ _ _ _
 let hifB:PIfs XB ifs tif:=by rw[←be];show hif _ _ _ _ _
 let heB:PE XB elt te:=by rw[←be];show he _ _ _ _ _
 let fB:∀(pb:Y2) (Hb:Hp),(∀b∈fp,Hb b=B)->(∀b∈fp,∀p∈XB.pn++pb,p.1≠b)->∀b∈fp,FpOk XB pb Hb b:=λpb Hb hn E b U=>by
  apply⟨hn b U,?_,?_,.inl (by rw[←be];show U),λx c e=>?_,E b U⟩
  .rw[d7];change b≠(043).objs.size;rw[sz3];show y0j<|y2u (fpl b U)
  .rw[←be];change b∉frs X.stack;intro z;rcases y09.mp (w.stkSub b z)with y|y
   .exact(q b U).2.1 y
   .exact(q b U).2.2.1 y
  .rw[d7]at e;show(q b U).2.2.2.2.1 x c<|az x c e
 let pn0:XB.pn=[]:=by rw[←be];rfl
 let gp:∀s₃:ig,s₃={s2 with heap:=h₁,toks:=s2.toks+([]:List<|Str×Va).length}->
   jc 20 X.A (.compLoop 064 0 96 (.ref s2.heap.objs.size) XB.env)
    (compPost 20 X.A X.xe use Rq (.ref s2.heap.objs.size) (043).objs.size) s₃:=by
  rintro s₃ rfl;apply zk6 (λn s'=>∃i f Hb,Inv XB [] f Hb s'/\tn' i s'.heap/\(∀b∈fp,Hb b=B)/\W i n f Hb) ?_ m0 ⟨0,stB tn cp σ,_,J3,gm,λb U=>(f3 b U).1,w0⟩;rintro n s4 ⟨i,σ4,H4,I4,st4,fr4,w4⟩;rcases turn i n σ4 H4 w4 with⟨stop,qn⟩|⟨go,step⟩
  .let d:=T.done XB bo j hK gu i [] s4 σ4 H4 (λ_ _=>False) I4 (fB [] H4 fr4 λb U p E=>by rw[pn0]at E;simp at E) st4 stop;rw[hA]at d;apply thn d λr s5 ⟨hr,I5⟩=>?_;subst hr;let(mm,hn5,_):=id I5.loc;let fr5:H4 (043).objs.size=B:=by
    let z:=I5.free;rw[d7]at z;show z
   let J5:02 H4 s5:=by
    rw[←be]at I5;show zub (h':=s5.heap) A f3 I5 ⟨R,λ_ _=>rfl⟩
   show fin _ _ H4 s5 mm J5 (A.fpOk 08 fr5) (by rw[d7]at hn5;show hn5) qn
  .let d:=T.item XB bo j hK gu i [] s4 σ4 H4 (λ_ _=>False) I4 (fB [] H4 fr4 λb U p E=>by rw[pn0]at E;simp at E) st4 go;rw[hA]at d;apply thn d λr s5 ⟨u,hr,h5⟩=>?_;subst hr;apply thn h5 λ_ s6 zz=>ex5 zz λx H6 I6 r6 zq=>?_;let(y6,st6,fr6):=zq;let I6':=I6.pinned (fB [] H6 fr6 λb U p E=>by rw[pn0]at E;simp at E)<|T.obj _ _ st6;let q6:=step x H6 y6;let a1:=hgB _ s6 σ4 H6 x u _ I6' r6 q6;rw[hxe,bo,j,hA]at a1;apply thn a1 λ_ s7 ⟨a,H7,I7,q7⟩=>?_;let a2:=hifB _ s7 a H7 _ I7 q7;rw[hxe,bo,j,hA]at a2;apply thn a2 λok s8 ⟨H8,I8,q8⟩=>?_;let again:∀{σ9:St} {H9:Hp} {s9:ig},Inv XB ([]++pinsAt fp s6.heap) σ9 H9 s9->(∃m',m'<n/\W (i+1) m' σ9 H9)->∃m,m<n/\∃i f Hb,Inv XB [] f Hb s9/\tn' i s9.heap/\(∀b∈fp,Hb b=B)/\W i m f Hb:=λ{σ9 H9 s9} I9 n9=>by
    let(m',M,w9):=n9;apply⟨m',M,i+1,σ9,H9,I9.unpinned,T.keep _ _ _ st6 λb U o e=>(I9.pin (b,o)<|y15 _ (y15 _<|zdk U e)).1,λb U=>?_,w9⟩;let(o,e,d):=T.obj _ _ st6 b U;show(I9.pin (b,o)<|y15 _ (y15 _<|zdk U e)).2.1
   cases ok with
   |false=>show again I8 q8
   |true =>
    change wpAny _ _ _ _ _ _;let a3:=heB _ s8 a H8 _ I8 q8;rw[hxe,bo,j,hA]at a3;apply thn a3 λyv s9 zz=>ex5 zz λy H9 I9 r9 zq=>?_;let(ys,hD,a8,n9):=zq;let a4:=zks (X:=XB) _ s9 a H9 (.ref s2.heap.objs.size) [y] (.ref s2.heap.objs.size) [yv] (λ_ H'=>∃m',m'<n/\W (i+1) m' a H') I9 R (.cons r9 .nil) ⟨_,ys,y,R,R,hD,a8,n9⟩;rw[hxe,bo,j,hA]at a4;show thn a4 λ_ s10 zz=>ex5 zz λ_ H10 I10 _ q10=>again I10 q10
 rw[d7]at gp;apply codeAny_compStart_list (gp _ R)<|T.self _ 0 _ _ _ gm (gp _ R)
theorem zas(tn:List Str)(cp:Y6)(O:CompOk X scope cp)(p:X.calm=N)(hi:PI X tg iter j)
  (y:∀cl C s H fp,PG 040 tg g) (c:∀cl C s H fp,PIfs 040 ifs tif) (L:∀cl C s H fp,PE 040 elt te)
  (hs:∀x,jt iter X.env x=pure x:=by intro _;rfl) :
  PE X 064 (tComp tn cp j g tif te):=by
 intro pins s σ H Q I h;rw[eval_ListComp];apply zh0 tn cp O p hi y c L hs I h λD C H5 s5 m l J a d=>⟨m,a,λh' r=>⟨.ref D,H5,?_,R,d⟩⟩;let(M,f1,q,f,Y,J):=J;show l.turned (t':=s5.toks) (λb o U e=>(r.2 b U).trans e) M f1 f Y J
theorem zdy{X:Cx}{i:Nat}{x:Str}{elt tg iter:Expr}{ifs:List Expr}{scope:Scope}{pos f w:Pos}{j:TI}{g:TG}{tif:TT}{te:TE}(hN:X.Nq.Nodup)(hx:X.Nq[i]?=G x)(Y:Loc X.env.scope x)(tn:List Str)(cp:Y6)(O:CompOk X scope cp)(hc:X.calm=N)(hi:PI X tg iter j)
  (y:∀cl C s H fp,PG 040 tg g) (c:∀cl C s H fp,PIfs 040 ifs tif) (L:∀cl C s H fp,PE 040 elt te)
  (hsw:jS 064 (G<|.Name x f) w.line X.env=pure N:=by rfl) (hs:∀x,jt iter X.env x=pure x:=by intro _;rfl)
  (T:X.fn x=N\/X.env.scope.names.lookup x=G .local:=by first|show .inl rfl|show .inr rfl|assumption) :
  PS X (.Assign [.Name x f] 064 w) (tAsg (tComp tn cp j g tif te)<|gName i):=by
 intro pins s σ H D I h;rw[exec_Assign_Name_used _ _ _ _ hsw];apply ia<|iS (ia ?_);change wpAny _ X.A (do let _ ←comprehension (.ListComp elt [⟨tg,iter,ifs,0⟩] scope pos) scope X.env _ (newList []) Fa (eval iter X.env) (G<|assign (.Name x f) X.env)) _ _ s;apply ia<|iw (zh0 tn cp O hc hi y c L hs (Rq:=λ_ s'=>SP X pins D .next s') I h λE C H5 s5 m l J n5 q5=>?_) (λ_ _ q=>ib<|ib q) λ_ _ e=>e;let(M,f1,f2,f3,Q,J):=J;change wpAny _ X.A (assign (.Name x f) X.env<|.ref E) _ _ _;apply wpAny_assign_Name<|zjw l hN hx Y (v:=.ref E) R (λu A ⟨a,p,d⟩=>?_) T;let ne:C≠a:=by
  rcases d with e|e
  .rw[e];show f1
  .exactλz=>Q x a e z.symm
 apply⟨m,n5.sameBut p ne,λh' r=>⟨_,H5,A.turned (t':=u.toks) (λb o U e=>(r.2 b U).trans e) M f1 f3 Q J,q5⟩⟩
noncomputable def Its(z:Str):It:=⟨λi _=>i<z.cps.size,λi H x H'=>H'=H/\∃c,z.cps[i]?=G c/\x=.str ⟨#[c]⟩,λi _=>z.cps.size<=i⟩
theorem zne{P:ik}{w:World}{K:Frag}{a:Expr}(z:Str)(t:Tok)(it:Ad)(ty:String)(C:ty="str_ascii_iterator"\/ty="str_iterator"):
  Turn P w K a (Its z) [it] it (λi h=>h.IsStrIter it ty z t i) where
 mem:=by simp
 obj:=λi h st b U=>by
  let e:b=it:=by simpa using U
  subst e;let(o,e,c,d):=st;show⟨o,e,λv z=>by rw[d]at z;cases z⟩
 keep:=λi h h' st k=>by
  let(o,e,r):=st;show⟨o,k it 06 o e,r⟩
 item:=by
  intro X l j p hc i pins s σ H E I T st y;subst l j p;let(M,f1,q,g,Y,J):=T it 06;let hi:i<z.cps.size:=y;let O:z.cps[i]?=G z.cps[i]:=by simp[hi]
  let f:(["enumerate","zip","dict_itemiterator","dict_reverseitemiterator","odict_iterator","itertools.zip_longest","itertools.pairwise"].contains ty)=Fa:=by
   rcases C with e|e<;>(rw[e];decide)
  let fin:∀h',h'.IsStrIter it ty z t (i+1)->Heap.SameBut it s.heap h'->∃u,G (Va.str ⟨#[z.cps[i]]⟩ s.toks)=G u/\
    wpAny 20 X.A (iY a 96 u) (λ_ s2=>∃x H',02 H' s2/\RelV x u/\(Its z).yld i H x H'/\s2.heap.IsStrIter it ty z t (i+1)/\∀b∈[it],H' b=B) E {s with heap:=h',toks:=s.toks+1}:=λh' D sb=>by
   let I1:02 H {s with heap:=h',toks:=s.toks+1}:=I.turned (t':=s.toks+1) (λb o U e=>(sb.2 b U).trans e) M f1 g Y J;let(o,e,c,d):=id D;show⟨_,R,zwo (s:={s with heap:=h',toks:=s.toks+1}) e c d f ⟨.str ⟨#[z.cps[i]]⟩,H,I1,⟨_,R⟩,⟨R,_,O,R⟩,D,λb U=>(T b U).1⟩⟩
  rcases C with e|e
  .subst e;show wpAny_pyNext_ascii_item st O fin
  .subst e;show wpAny_pyNext_wide_item st O fin
 done:=by
  intro X l j p hc i pins s σ H E I T st y;subst l j p;let(M,f1,q,g,Y,J):=T it 06;let hi:z.cps.size<=i:=y;let O:z.cps[i]?=B:=by simp[hi]
  rcases C with e|e
  .subst e;show wpAny_pyNext_ascii_end 021 st O λh' L=>⟨R,I.turned (t':=s.toks) (λb o U e=>L b o U e) M f1 g Y J⟩
  .subst e;show wpAny_pyNext_wide_end 021 st O λh' L=>⟨R,I.turned (t':=s.toks) (λb o U e=>L b o U e) M f1 g Y J⟩
 self:=by
  intro A i s Q E st h;rcases C with e|e
  .subst e;show wpAny_pyIter_striter_ascii st h
  .subst e;show wpAny_pyIter_striter_wide st h
def iStr(tl:TE):TI:=λσ H Rq=>tl σ H λx H1=>∃z,x=.str z/\Rq (Its z) H1
theorem pi_str{X:Cx}{r l:Expr}{tl:TE}(Y:PE X l tl):PI X r l (iStr tl):=by
 intro pins s σ H Rq I h;apply thn (Y pins s σ H _ I h) λv s1 zz=>ex5 zz λx H1 I1 r1 E=>?_;let(z,e,q):=E;subst e;let(t,rfl):=r1;let a:∀b∈[s1.heap.objs.size],FpOk X pins H1 b:=λb U=>by
  let e:b=s1.heap.objs.size:=by simpa using U
  subst e;show I1.fpOk 08<|I1.hok.fresh 08
 cases d:z.cps.all (· < 128)
 .exact wpAny_pyIter_wide d ⟨s1.heap.objs.size,[s1.heap.objs.size],_,_,H1,R,I1.kept (t':=s1.toks) λb o e=>y04 _ e,zne z t _ "str_iterator"<|.inr R,⟨_,y0b _ R,R,R⟩,a,q⟩
 .exact wpAny_pyIter_ascii d ⟨s1.heap.objs.size,[s1.heap.objs.size],_,_,H1,R,I1.kept (t':=s1.toks) λb o e=>y04 _ e,zne z t _ "str_ascii_iterator" 015,⟨_,y0b _ R,R,R⟩,a,q⟩
def rSlS:V->Option Int->Option Int->Hp->VK->Prop:=λx lo hi H Q=>∃z,x=.str z/\z.length<=ii/\Q (.str<|Txt.slice z lo hi) H
theorem sl_str:SlR X rSlS:=by
 intro pins s σ H x v M vu lo hi Y Q I T hs f J h;let(z,rfl,hz,q):=h;let(t,rfl):=T;apply⟨"str",_,F.slot_str_getitem.lookup,typeIs_str _ _ _,?_⟩;let go:∀(l u:Option<|Int×Tok),M=partValue l->vu=partValue u->lo=l.map (·.1)->hi=u.map (·.1)->wpAny 20 X.A (jI (.str z t)<|.ref Y) 028 X.xe s:=by
  rintro l u rfl rfl rfl rfl;apply wpAny_getItem_str_slice (l:=l) (u:=u) (st:=B) ?_ R ?_
  .let(o,e,c,d):=hs;show⟨o,e,c,d⟩
  .exact post_val_or_str ⟨y14 (Txt.slice_le z _ _) hz,λt' k=>⟨.str _,H,I.tok _,⟨_,R⟩,q⟩⟩
 cases f with
 |none =>
  cases J with
  |none=>show go B B R R R R
  |int j u=>show go B (G (j,u)) R R R R
 |int i t' =>
  cases J with
  |none=>show go (G (i,t')) B R R R R
  |int j u=>show go (G (i,t')) (G (j,u)) R R R R
theorem zm3:CallR X (.builtin "isinstance") (λxs H Q=>∃x T t b,xs=[x,.ty T]/\TyOf X.K H x t/\PySem.W.kitOne X.K t (.type T)=G b/\Q (.bl b) H):=by
 intro pins s σ H xs us Q I r h;let(x,T,t,b,rfl,ty,e,q):=h;let(u,w',rfl,g,O):=vals2 r;cases(show w'=Va.type T from O);show zsy I g ty e λJ=>⟨.bl b,H,I.tok _,R,q⟩
section
open PyProof.Rows.LSm
theorem zop:∀{us:List Va},Vals 016 us->BoolsAre us bs:=by
 induction bs with
 |nil=>intro us r;rw[y2y]at r;cases r;show .nil
 |cons b bs Q =>
  intro us r;rw[y0m]at r;cases r with
  |cons r1 l =>
   cases(show _=Va.bool b from r1);show .cons b<|Q l
theorem zm5(hc:X.calm=N):CallR X (.builtin "all") (λxs H Q=>∃(p:Ad) (bs:List Bool),xs=[.ref p]/\SqL X.K H p 016/\Q (.bl<|bs.all id) H):=by
 intro pins s σ H xs us Q I r h;let(p,bs,rfl,O,q):=h;let(u,rfl,T):=vals1 r;cases(show u=Va.ref p from T);let(vs,d,f,hz):=I.list O;let Y:=f.isList;let U:=zop d;let o:p<s.heap.objs.size:=by let(_,e,_):=Y;show y0c e
 apply call_all_walk<|jb Y ?_;apply⟨s.heap.objs.size,[s.heap.objs.size,p],[s.heap.objs.size],vs.toArray.size,_,_,λi=>(bs[i]?).getD N,R,Walks.list (A:=X.A.in1) 021 _ p (y0j o) vs.toArray,
  ⟨⟨_,y0b _ R,R,R⟩,Y.push _⟩,λi v s' c E' l g=>?_,λh' J M=>?_⟩
 .let(b,e,rfl):=U.get i v (by simpa using l);simp only[e,y0y]at g;show iE g
 .let e:((List.range vs.toArray.size).all λi=>(bs[i]?).getD N)=bs.all id:=by
   rw[y06,U.length];show range_all bs
  rw[e];show⟨.bl _,H,I.kept<|kept_iter M,R,q⟩
theorem zm4(hc:X.calm=N):CallR X (.builtin "any") (λxs H Q=>∃(p:Ad) (bs:List Bool),xs=[.ref p]/\SqL X.K H p 016/\Q (.bl<|bs.any id) H):=by
 intro pins s σ H xs us Q I r h;let(p,bs,rfl,O,q):=h;let(u,rfl,T):=vals1 r;cases(show u=Va.ref p from T);let(vs,d,f,hz):=I.list O;let Y:=f.isList;let U:=zop d;let o:p<s.heap.objs.size:=by let(_,e,_):=Y;show y0c e
 apply call_any_walk<|jb Y ?_;apply⟨s.heap.objs.size,[s.heap.objs.size,p],[s.heap.objs.size],vs.toArray.size,_,_,λi=>(bs[i]?).getD Fa,R,Walks.list (A:=X.A.in1) 021 _ p (y0j o) vs.toArray,
  ⟨⟨_,y0b _ R,R,R⟩,Y.push _⟩,λi v s' c E' l g=>?_,λh' J M=>?_⟩
 .let(b,e,rfl):=U.get i v (by simpa using l);simp only[e,y0y]at g;show iE g
 .let e:((List.range vs.toArray.size).any λi=>(bs[i]?).getD Fa)=bs.any id:=by
   rw[y06,U.length];show range_any bs
  rw[e];show⟨.bl _,H,I.kept<|kept_iter M,R,q⟩
theorem zk7(hc:X.calm=N):CallR X (.builtin "sum") (λxs H Q=>∃(p:Ad) (ns:List Int),xs=[.ref p]/\SqL X.K H p 025/\Q (.int ns.sum) H):=by
 intro pins s σ H xs us Q I r h;let(p,ns,rfl,O,q):=h;let(u,rfl,T):=vals1 r;cases(show u=Va.ref p from T);let(vs,d,f,hz):=I.list O;let hi:=zey d;let(ys,U):=hi.allInts.items;let y:s.heap.IsList p (intItems ys):=U▸f.isList;apply sum_intListG 021 y λh' J t' M=>?_;let g:ns=ys.toList.map (·.1):=by
  rw[←nums_intItems,←U];show(show numsOf vs.toArray.toList=ns from hi.numsOf).symm
 let C:preSum (numAt ys) ys.size=ns.sum:=by
  rw[preSum_eq,y0h 06,g]
 rw[C];show⟨.int _,H,I.kept M,⟨_,R⟩,q⟩
end
def rZfill:V->List V->Hp->VK->Prop:=λx vs H Q=>∃z i,x=.str z/\vs=[.int i]/\PadOk i=N/\Q (.str<|Txt.zfill z i) H
def EqOk(X:Cx)(k:Nat)(H:Hp)(x y:V)(b:Bool):Prop:=∀(pins:Y2) (σ:St) (s:ig) (A:io) (u v:Va),A.units+k<cLine->02 H s->RelV x u->RelV y v->SeqAt.EqAt A s u v b
def RcOk(X:Cx)(k:Nat)(H:Hp)(x y:V)(b:Bool):Prop:=∀(pins:Y2) (σ:St) (s:ig) (A:io) (u v:Va),A.units+k<cLine->02 H s->RelV x u->RelV y v->SeqAt.RcAt A s u v b
section
variable {X:Cx}{k:Nat}{H:Hp}{x y:V}{a b:Ad}{xs ys:List V}
theorem zk1(c:flatV x=N)(d:flatV y=N):EqOk X k H x y (eqV x y):=λ_ _ _ _ _ _ _ _ T O=>zh2 T O c d
theorem Vals.at(r:Vals xs us)(h:j<us.length):∃(h':j<xs.length),RelV xs[j] us[j]:=by
 let Y:=r.length;let h':j<xs.length:=by omega
 let(u,e,q):=r.get (i:=j) (x:=xs[j]) (by simp[h']);rw[y00 h]at e;cases e;show⟨h',q⟩
theorem zhl(O:SqL X.K H a xs)(U:SqL X.K H b ys)(Y:xs.length=ys.length)(e:Nat->Bool)(d:∀j (L:j<xs.length) (J:j<ys.length),EqOk X k H xs[j] ys[j]<|e j):
  RcOk X (k+1) H 07 47 ((039).all e):=λpins σ s A u v C I T c=>by
 cases(show u=Va.ref a from T);cases(show v=Va.ref b from c);let(us,r1,r,_):=I.list O;let(vs,l,M,_):=I.list U;let l1:=r1.length;let l2:=l.length;let q:=SeqAt.RcAt.lists (A:=A) (e:=e) r.isList M.isList (by rw[y06,y06];omega) 00 λj L J=>by
  rw[y06]at L J;let(g1,E):=r1.at L;let(o,i):=l.at J;show d j g1 o pins σ s A.in1 _ _ (by change A.units+1+k<cLine;omega) I (by simpa using E) (by simpa using i)
 rw[y06,←l1]at q;show q
theorem zkc(O:SqL X.K H a xs)(U:SqL X.K H b ys)(Y:xs.length≠ys.length):RcOk X k H 07 47 Fa:=λpins σ s A u v C I T c=>by
 cases(show u=Va.ref a from T);cases(show v=Va.ref b from c);let(us,r1,r,_):=I.list O;let(vs,l,M,_):=I.list U;let l1:=r1.length;let l2:=l.length;show SeqAt.RcAt.lists_lengths r.isList M.isList (by rw[y06,y06];simp;omega) 00
theorem zo8(O:SqL X.K H a xs)(U:SqL X.K H b ys)(c:xs.all flatV=N)(d:ys.all flatV=N):
  RcOk X 1 H 07 47 (xs.length==ys.length&&(039).all λj=>eqV (xs.getD j .non)<|ys.getD j .non):=by
 by_cases Y:xs.length=ys.length
 .let q:=zhl (k:=0) O U Y (λj=>eqV (xs.getD j .non)<|ys.getD j .non) λj L J=>by
   let g:xs.getD j .non=xs[j]:=by simp[List.getD,L]
   let C:ys.getD j .non=ys[j]:=by simp[List.getD,J]
   rw[g,C];show zk1 (y0u.mp c _<|y0k L)<|y0u.mp d _ (y0k J)
  rw[show(xs.length==ys.length)=N by simp[Y],y1i];show q
 .rw[show(xs.length==ys.length)=Fa by simp[Y],y1h];show zkc O U Y
end
def rEqD(X:Cx)(k:Nat):R2:=λx y H Q=>∃c,RcOk X k H x y c/\Q (.bl c) H
theorem zr0(C:X.A.units+k<cLine):OpR X (i4 .Eq) (rEqD X k):=by
 intro pins s σ H x y v u Q I T O h;let(c,r,q):=h;show r pins σ s X.A v u C I T O _ _ _ _ ⟨.bl c,H,I,R,q⟩
def CW(D:Ad)(n:Nat)(Pv:Nat->List V->St->Hp->Prop)(i m:Nat)(σ:St)(H:Hp):Prop:=m=n-i/\i<=n/\∃ys,H D=G 50/\ys.length<=i/\Pv i ys σ H
def CStep(D:Ad)(n i:Nat)(Pv:Nat->List V->St->Hp->Prop)(d:St)(y:V)(H4:Hp):Prop :=
 ∃ys,H4 D=G 50/\ys.length<ii/\∃O,O<n-i/\CW D n Pv (i+1) O d 050
def CSkip(D:Ad)(n i:Nat)(Pv:Nat->List V->St->Hp->Prop)(d:St)(H3:Hp):Prop:=∃O,O<n-i/\CW D n Pv (i+1) O d H3
section
variable {D:Ad}{Q:VK}{g:TG}{tif:TT}{te:TE}{σ0:St}{H1:Hp}{n i:Nat}{Pv:Nat->List V->St->Hp->Prop}
theorem cstep(I:n<=ii)(hi:i<n)(u:H4 D=G 50)(Y:ys.length<=i)(h:Pv (i+1) (ys++[y]) d 050):CStep D n i Pv d y H4 :=
 ⟨ys,u,by omega,n-(i+1),by omega,R,hi,ys++[y],zar,by rw[y0d,y0r];omega,h⟩
theorem cskip(hi:i<n)(u:H3 D=G 50)(Y:ys.length<=i)(h:Pv (i+1) ys d H3):CSkip D n i Pv d H3 :=
 ⟨n-(i+1),by omega,R,hi,ys,u,by omega,h⟩
theorem zmw{J:It}(Pv:Nat->List V->St->Hp->Prop)(I:n<=ii)(w:Pv 0 [] σ0 032)
  (l:∀i ys σ H,i<n->H D=G 50->Pv i ys σ H->J.go i H) (a:∀ys σ H,H D=G 50->Pv n ys σ H->J.stop n H)
  (hs:∀i ys σ H,i<n->H D=G 50->ys.length<=i->Pv i ys σ H->∀x H',J.yld i H x H'->g x σ H' λd H2=>tif d H2 λc H3 =>
   if c=N then te d H3 λy H4=>CStep D n i Pv d y H4 else CSkip D n i Pv d H3)
  (hd:∀ys σ H,H D=G 50->ys.length<=n->Pv n ys σ H->Q 65 H) :
  ∃W:Nat->Nat->St->Hp->Prop,(∃m,W 0 m σ0 032)/\∀i m f Hb,W i m f Hb->
   (J.stop i Hb/\Q 65 Hb)\/(J.go i Hb/\∀x H',J.yld i Hb x H'->g x f H' λd H2=>tif d H2 λc H3 =>
    if c=N then te d H3 λy H4=>∃ys,H4 D=G 50/\ys.length<ii/\∃O,O<m/\W (i+1) O d 050
    else∃O,O<m/\W (i+1) O d H3):=by
 apply⟨CW D n Pv,⟨n,by omega,y13 _,[],zar,y05 _,w⟩,?_⟩;rintro i m σ H ⟨rfl,hi,ys,u,Y,p⟩;by_cases o:i<n
 .exact .inr ⟨l i ys σ H o u p,hs i ys σ H o u Y p⟩
 .let e:i=n:=by omega
  subst e;show .inl ⟨a ys σ H u p,hd ys σ H u Y p⟩
theorem zw1(Pv:Nat->List V->St->Hp->Prop)(I:z.cps.size<=ii)(w:Pv 0 [] σ0 032)
  (hs:∀i ys σ H c,i<z.cps.size->z.cps[i]?=G c->H D=G 50->ys.length<=i->Pv i ys σ H->g (.str ⟨#[c]⟩) σ H λd H2=>tif d H2 λc H3 =>
   if c=N then te d H3 λy H4=>CStep D z.cps.size i Pv d y H4 else CSkip D z.cps.size i Pv d H3)
  (hd:∀ys σ H,H D=G 50->ys.length<=z.cps.size->Pv z.cps.size ys σ H->Q 65 H) :
  ∃W:Nat->Nat->St->Hp->Prop,(∃m,W 0 m σ0 032)/\∀i m f Hb,W i m f Hb->
   ((Its z).stop i Hb/\Q 65 Hb)\/((Its z).go i Hb/\∀x H',(Its z).yld i Hb x H'->g x f H' λd H2=>tif d H2 λc H3 =>
    if c=N then te d H3 λy H4=>∃ys,H4 D=G 50/\ys.length<ii/\∃O,O<m/\W (i+1) O d 050
    else∃O,O<m/\W (i+1) O d H3) :=
 zmw Pv I w (λi _ _ _ hi _ _=>hi) (λ_ _ _ _ _=>y05 _) (λi ys σ H hi u Y p x H' y=>by
  let(e,c,C,ex):=y;subst e ex;show hs i ys σ _ c hi C u Y p) hd
theorem ztt{K:Frag}{a:Ad}{xs:List V}(Pv:Nat->List V->St->Hp->Prop)(I:xs.length<=ii)(w:Pv 0 [] σ0 032)
  (Y:∀i ys σ H,i<=xs.length->H D=G 50->Pv i ys σ H->SqL K H a xs)
  (hs:∀i ys σ H x,i<xs.length->xs[i]?=G x->H D=G 50->ys.length<=i->Pv i ys σ H->g x σ H λd H2=>tif d H2 λc H3 =>
   if c=N then te d H3 λy H4=>CStep D xs.length i Pv d y H4 else CSkip D xs.length i Pv d H3)
  (hd:∀ys σ H,H D=G 50->ys.length<=xs.length->Pv xs.length ys σ H->Q 65 H) :
  ∃W:Nat->Nat->St->Hp->Prop,(∃m,W 0 m σ0 032)/\∀i m f Hb,W i m f Hb->
   ((Itl K a).stop i Hb/\Q 65 Hb)\/((Itl K a).go i Hb/\∀x H',(Itl K a).yld i Hb x H'->g x f H' λd H2=>tif d H2 λc H3 =>
    if c=N then te d H3 λy H4=>∃ys,H4 D=G 50/\ys.length<ii/\∃O,O<m/\W (i+1) O d 050
    else∃O,O<m/\W (i+1) O d H3) :=
 zmw Pv I w (λi ys σ H hi u p=>⟨xs,xs[i],Y i ys σ H (y1r hi) u p,by simp[hi]⟩) (λys σ H u p=>⟨xs,Y _ ys σ H 08 u p,y05 _⟩) (λi ys σ H hi u o p x H' y=>by
  let(e,y):=y;subst e;show hs i ys σ _ x hi (y xs<|Y i ys σ _ (y1r hi) u p) u o p) hd
end
section
variable {κ:Type}[DecidableEq κ]
noncomputable def valV(kvs:List<|κ×V)(k:κ):Option V:=(kvs.find? λD=>decide (D.1=k)).map (·.2)
noncomputable def putK(kvs:List<|κ×V)(k:κ)(v:V):List (κ×V) :=
 if(kvs.any λD=>decide (D.1=k))=N then kvs.map (λD=>if D.1=k then(D.1,v)else D)else kvs++[(k,v)]
theorem znc:valV ([]:List<|κ×V) k=B:=rfl
theorem zbf{p:κ×V}(e:p.1=k):valV (p::r) k=G p.2:=by simp[valV,y2k,e]
theorem zbg{p:κ×V}(e:¬p.1=k):valV (p::r) k=valV r k:=by simp[valV,y2k,e]
theorem zd5(k:κ):∀kvs:List<|κ×V,(kvs.any λD=>decide (D.1=k))=(valV kvs k).isSome
 |[]=>rfl
 |p::r=>by
  rw[y2s];by_cases e:p.1=k
  .simp only[zbf e,Xg e,Bool.true_or,Option.isSome_some]
  .rw[zbg e,Xf e,y4e];show zd5 k r
theorem znd(k j:κ)(y:V):∀kvs:List<|κ×V,valV (kvs.map λD=>if D.1=k then(D.1,y)else D) j=(valV kvs j).map λx=>if j=k then y else x
 |[]=>rfl
 |p::r=>by
  let Q:=znd k j y r;rw[y0m];by_cases h:p.1=k
  .rw[Xq h];by_cases e:p.1=j
   .rw[zbf (p:=(p.1,y)) e,zbf e,y1j,Xq<|e.symm.trans h]
   .rw[zbg (p:=(p.1,y)) e,zbg e,Q]
  .rw[Xp h];by_cases e:p.1=j
   .rw[zbf (p:=p) e,zbf e,y1j,Xp λz=>h<|e.trans z]
   .rw[zbg (p:=p) e,zbg e,Q]
theorem zjr(k j:κ)(y:V):∀kvs:List<|κ×V,valV kvs k=B->valV (kvs++[(k,y)]) j=if j=k then G y else valV kvs j
 |[],_=>by
  by_cases e:k=j
  .rw[Xq e.symm];show zbf (p:=(k,y)) e
  .rw[Xp λz=>e z.symm];show zbg (p:=(k,y)) e
 |p::r,I=>by
  rw[y1u];let M:¬p.1=k:=λz=>by rw[zbf z]at I;cases I
  rw[zbg M]at I;let Q:=zjr k j y r I;by_cases e:p.1=j
  .rw[zbf e,zbf e,Xp λz=>M<|e.trans z]
  .rw[zbg e,zbg e,Q]
theorem znb(kvs:List<|κ×V)(k j:κ)(y:V):valV (putK kvs k y) j=if j=k then G y else valV kvs j:=by
 unfold putK;by_cases a:(kvs.any λD=>decide (D.1=k))=N
 .rw[Xq a,znd];rw[zd5]at a;by_cases e:j=k
  .let(x,O):=y36.mp a;rw[Xq e,e,O,y1j,Xq rfl]
  .rw[Xp e];cases valV kvs j with
   |none=>rfl
   |some x=>rw[y1j,Xp e]
 .rw[Xp a];apply zjr k j y kvs ?_;rw[zd5]at a;cases q:valV kvs k with
  |none=>rfl
  |some x=>rw[q]at a;show(a R).elim
theorem zd1(kvs:List<|κ×V)(k:κ)(v:V):(putK kvs k v).length<=kvs.length+1:=by
 unfold putK;split
 .rw[y01];omega
 .rw[y0d,y0i,y1k];omega
theorem znv{kvs:List (κ×V)}{k:κ}(v:V)(h:valV kvs k=B):putK kvs k v=kvs++[(k,v)]:=by
 unfold putK;rw[zd5,h];show Xp 04
theorem RelO.isSome_eq(r:RelO o u):o.isSome=u.isSome:=by
 cases o with
 |none=>cases u with
  |none=>rfl
  |some _=>show(show False from r).elim
 |some _=>cases u with
  |none=>show(show False from r).elim
  |some _=>rfl
theorem KV.val(r:KV kvs vs)(k:κ):RelO (valV kvs k) (lj vs k):=by
 unfold KV at r
 induction r with
 |nil=>show True.intro
 |@cons p q ps qs h t Q =>
  let(L,J):=h;by_cases e:p.1=k
  .let f:q.1=k:=L.symm.trans e;let b:lj (q::qs) k=G q.2:=by simp[lj,y2k,f]
   rw[zbf e,b];show J
  .let f:¬q.1=k:=λz=>e<|L.trans z;let b:lj (q::qs) k=lj qs k:=by simp[lj,y2k,f]
   rw[zbg e,b];show Q
theorem KV.any(r:KV kvs vs)(k:κ):(kvs.any λD=>decide (D.1=k))=vs.any λD=>decide (D.1=k):=by
 unfold KV at r
 induction r with
 |nil=>rfl
 |cons h t Q=>rw[y2s,y2s,Q,h.1]
theorem KV.repl(r:KV kvs vs)(k:κ)(O:RelV y u):
  KV (kvs.map λD=>if D.1=k then(D.1,y)else D) (vs.map λD=>if D.1=k then(D.1,u)else D):=by
 unfold KV at r ⊢
 induction r with
 |nil=>show .nil
 |@cons p q ps qs h t Q =>
  rw[y0m,y0m];apply .cons ?_ Q;let(L,J):=h;by_cases e:p.1=k
  .rw[Xq e,Xq<|L.symm.trans e];show⟨L,O⟩
  .rw[Xp e,Xp λz=>e<|L.trans z];show⟨L,J⟩
theorem KV.put(r:KV kvs vs)(k:κ)(O:RelV y u):KV (putK kvs k y) (stored vs k u):=by
 unfold putK stored;rw[r.any k];by_cases e:(vs.any λD=>decide (D.1=k))=N
 .rw[Xq e,Xq e];show r.repl k O
 .rw[Xp e,Xp e];show Paired.snoc r ⟨R,O⟩
theorem KV.length{kvs:List (κ×V)}{vs:List (κ×Va)}(r:KV kvs vs):kvs.length=vs.length:=Paired.length r
end
theorem zsu(r:RelV (kV k) u):(023).is k u=N:=by
 cases k with
 |inl i=>let(t,e):=(show∃t,u=Va.int i t from r);subst e;show zmo P w i t
 |inr x=>let(t,e):=(show∃t,u=Va.str x t from r);subst e;show zmn P w x t
theorem kV_inj(e:kV a=kV b):a=b:=by
 cases a with
 |inl i=>cases b with
  |inl j=>have f:V.int i=V.int j:=e;injection f with f;rw[f]
  |inr y=>show nomatch(show V.int i=V.str y from e)
 |inr x=>cases b with
  |inl j=>show nomatch(show V.str x=V.int j from e)
  |inr y=>have f:V.str x=V.str y:=e;injection f with f;rw[f]
theorem zky:∀{ks:List Key} {us:List Va},Vals (ks.map kV) us->ItemsAre 023 ks us
 |[],_,r=>by rw[y2y]at r;cases r;show .nil
 |k::ks,_,r=>by
  rw[y0m]at r;cases r with
  |cons h t=>show .cons (zsu h)<|zky t
abbrev KT(H:Hp):List (List Key×V)->List (List Key×Ad×Va)->Prop:=i8 λp q=>p.1=q.1/\H q.2.1=G (.tup<|p.1.map kV)/\RelV p.2 q.2.2
theorem KT.val(r:KT H kvs xs)(k:List Key):RelO (valV kvs k) ((atKey xs k).map (·.2)):=by
 induction r with
 |nil=>show True.intro
 |@cons p q ps qs h t Q =>
  let(L,_,J):=h;by_cases e:p.1=k
  .let f:q.1=k:=L.symm.trans e;let b:atKey (q::qs) k=G q.2:=by simp[atKey,y2k,f]
   rw[zbf e,b];show J
  .let f:¬q.1=k:=λz=>e<|L.trans z;let b:atKey (q::qs) k=atKey qs k:=by simp[atKey,y2k,f]
   rw[zbg e,b];show Q
theorem KT.repl(r:KT H kvs xs)(k:List Key)(O:RelV y u):
  KT H (kvs.map λD=>if D.1=k then(D.1,y)else D) (xs.map<|putAt k u):=by
 induction r with
 |nil=>show .nil
 |@cons p q ps qs h t Q =>
  rw[y0m,y0m];apply .cons ?_ Q;let(L,J,f):=h;unfold putAt;by_cases e:p.1=k
  .rw[Xq e,Xq<|L.symm.trans e];show⟨L,J,O⟩
  .rw[Xp e,Xp λz=>e<|L.trans z];show⟨L,J,f⟩
theorem KT.put(r:KT H kvs xs)(k:List Key)(U:H b=G (.tup<|k.map kV))(O:RelV y u):
  KT H (putK kvs k y) (storedH xs k b u):=by
 let e:(kvs.any λD=>decide (D.1=k))=(atKey xs k).isSome:=by
  rw[zd5,(r.val k).isSome_eq,Option.isSome_map]
 unfold putK storedH;rw[e];by_cases q:(atKey xs k).isSome=N
 .rw[Xq q,Xq q];show r.repl k O
 .rw[Xp q,Xp q];show Paired.snoc r ⟨R,U,O⟩
theorem KT.keeps(r:KT H kvs xs)(p:∀b ys,H b=G (.tup ys)->H' b=G (.tup ys)):KT H' kvs xs :=
 Paired.mapP r λ_ _ z=>⟨z.1,p _ _ z.2.1,z.2.2⟩
section
variable {P:ik}{w:World}{H:Hp}{h:Heap}{a:Ad}
theorem rd_of(ok:HOk P w H h)(e:Rd H a u):ObjOk P w H h a u:=e.ok ok
theorem ztf(ok:HOk P w H h)(e:Rd H a<|.dK kvs):kvs.length<=ii/\(a==iK)=Fa/\∃vs,KV kvs vs/\h.DictOf 023 a vs :=
 show ObjOk P w H h a (.dK kvs)from rd_of ok e
theorem dk_of(ok:HOk P w H h)(e:H a=G (.dK kvs)):kvs.length<=ii/\(a==iK)=Fa/\∃vs,KV kvs vs/\h.DictOf 023 a vs:=ztf ok<|.inl e
theorem zkw(ok:HOk P w H h)(e:H a=G (.tup<|ks.map kV)):(jQ 023).is h ks a:=by
 let(_,its,r,o,L,J,n,f):=(show ObjOk P w H h a (.tup<|ks.map kV)from ok a _ e);show⟨o,its.toArray,n,L,J,f,by simpa using zky r⟩
theorem zwv(ok:HOk P w H h)(e:Rd H a<|.dT kvs):kvs.length<=ii/\(a==iK)=Fa/\
  ∃xs,KT H kvs xs/\h.DictOfH (jQ 023) a xs:=by
 let(z,y,xs,r,o,T,ep,L,J,f,C,E):=(show ObjOk P w H h a (.dT kvs)from rd_of ok e);apply⟨z,y,xs,r,o,T,ep,L,J,f,C,λx O=>?_,E⟩;let all:∀{l:List (List Key×V)} {m:List (List Key×Ad×Va)},KT H l m->∀x∈m,(jQ 023).is h x.1 x.2.1:=by
  intro l m q
  induction q with
  |nil=>intro x O;show nomatch O
  |@cons p q ps qs A t Q =>
   intro x O;rcases y09.mp O with e|O
   .subst e;show zkw ok (by rw[←A.1];show A.2.1)
   .exact Q x O
 show all r x O
theorem dt_of(ok:HOk P w H h)(e:H a=G (.dT kvs)):kvs.length<=ii/\(a==iK)=Fa/\
  ∃xs,KT H kvs xs/\h.DictOfH (jQ 023) a xs:=zwv ok<|.inl e
end
def KeyV(k:Key)(y:V):Prop:=y=kV k\/∃b,y=.bl b/\k=.inl (blI b)
theorem KeyV.is(h:KeyV k y)(r:RelV y u):(023).is k u=N:=by
 rcases h with rfl|⟨b,rfl,rfl⟩
 .exact zsu r
 .cases(show u=Va.bool b from r);show zwh b
def DGet(H:Hp)(a:Ad)(y:V)(r:Option V):Prop :=
 (∃kvs k,Rd H a (.dK kvs)/\KeyV k y/\r=valV kvs k)\/∃kvs k b,Rd H a (.dT kvs)/\y=.ref b/\H b=G (.tup<|k.map kV)/\r=valV kvs k
def DPut(H:Hp)(a:Ad)(y v:V)(H':Hp):Prop :=
 (∃kvs k,H a=G (.dK kvs)/\KeyV k y/\kvs.length<ii/\H'=upd H a (.dK<|putK kvs k v))\/
 ∃kvs k b,H a=G (.dT kvs)/\y=.ref b/\H b=G (.tup<|k.map kV)/\kvs.length<ii/\H'=upd H a (.dT<|putK kvs k v)
theorem DGet.k{H:Hp}{a:Ad}{kvs:List (Key×V)}{k:Key}(e:H a=G (.dK kvs)):DGet H a (kV k) (valV kvs k):=.inl ⟨kvs,k,.inl e,.inl R,R⟩
theorem DGet.t{k:List Key}(e:H a=G (.dT kvs))(L:H b=G (.tup<|k.map kV)):DGet H a 47 (valV kvs k):=.inr ⟨kvs,k,b,.inl e,R,L,R⟩
theorem DPut.k{H:Hp}{a:Ad}{kvs:List (Key×V)}{k:Key}{v:V}(e:H a=G (.dK kvs))(Y:kvs.length<ii):DPut H a (kV k) v (upd H a<|.dK (putK kvs k v)):=.inl ⟨kvs,k,e,.inl R,Y,R⟩
theorem DPut.t{kvs:List (List Key×V)}{k:List Key}(e:H a=G (.dT kvs))(L:H b=G (.tup<|k.map kV))(Y:kvs.length<ii):
  DPut H a 47 v (upd H a<|.dT (putK kvs k v)):=.inr ⟨kvs,k,b,e,R,L,Y,R⟩
section
variable {X:Cx}{pins:Y2}{σ:St}{H:Hp}{s:ig}{a:Ad}{y v:V}{u r:Va}{o:Option V}{A:io}{E:Y0}
theorem Inv.big(I:02 H s):iK<s.heap.objs.size:=by
 let h:ir<s.heap.objs.size:=(I.mod.glob.keeps I.bk).lt;show y1n 04 h
theorem ztl(C:A.units+1<cLine)(I:02 H s)(g:DGet H a y<|G v)(O:RelV y u)(h:∀w' s',02 H s'->RelV v w'->Q w' s'):
  wpAny 20 A (jI 07 u) Q E s:=by
 rcases g with⟨kvs,k,e,T,l⟩|⟨kvs,k,b,e,T,L,l⟩
 .let(z,hd,vs,rel,i):=ztf I.hok e;let(w',j,c):=RelO.some_of (v:=v) (o:=lj vs k) (by rw[l];show rel.val k);show wpAny_getItem_of (T.is O) i.mapOf j<|h w' _ (I.tok _) c
 .subst T;cases(show u=Va.ref b from O);let(z,hd,xs,rel,i):=zwv I.hok e;let(w',j,c):=RelO.some_of (v:=v) (o:=(atKey xs k).map (·.2)) (by rw[l];show rel.val k);let(p,x,d):=y1a.mp j;apply wpAny_getItem_heap (jC C) (zkw I.hok L) i x ?_;rw[d];show h w' _ (I.tok _) c
theorem Qas(C:A.units+1<cLine)(I:02 H s)(g:DGet H a y o)(O:RelV y u)(h:∀s',02 H s'->Q (.bool<|!o.isSome) s'):
  wpAny 20 A (i4 .NotIn u 07) Q E s:=by
 rcases g with⟨kvs,k,e,T,l⟩|⟨kvs,k,b,e,T,L,l⟩
 .let(z,hd,vs,rel,i):=ztf I.hok e;apply wpAny_notIn_of (T.is O) hd i.mapOf ?_;rw[←(rel.val k).isSome_eq,←l];show h _<|I.tok _
 .subst T;cases(show u=Va.ref b from O);let(z,hd,xs,rel,i):=zwv I.hok e;apply wpAny_notIn_heap (jC C) (zkw I.hok L) hd i ?_;let q:=(rel.val k).isSome_eq;rw[Option.isSome_map]at q;rw[←q,←l];show h _<|I.tok _
theorem zi8(I:02 H s)(l:Mut<|H a)(hs:Heap.SameBut a s.heap h')(L:∃q,h'.get? a=G q)(new:ObjOk X.prog X.w (upd H a ob) h' a ob):
  02 (upd H a ob) {s with heap:=h',toks:=t'} :=
 I.write (x:=a) (e:=a) l 015 (λb q U z=>(hs.2 b U).trans z) L new
theorem ztg(z:kvs.length<=ii)(hd:(a==iK)=Fa)(rel:KV kvs vs)(i:h'.DictOf 023 a vs):
  ObjOk P w H' h' a (.dK kvs):=⟨z,hd,vs,rel,i⟩
theorem ztk(C:A.units+1<cLine)(I:02 H s)(g:DPut H a y v H')(O:RelV y u)(d:RelV v r)(h:∀s',02 H' s'->Q () s'):
  wpAny 20 A (setItem 07 u r) Q E s:=by
 rcases g with⟨kvs,k,e,T,l,j⟩|⟨kvs,k,b,e,T,p,l,j⟩
 .subst j;let(z,hd,vs,rel,i):=dk_of I.hok e;let hz:vs.length<=ii:=by rw[←rel.length];show z
  let Y:(putK kvs k v).length<=ii:=by have:=zd1 kvs k v;omega
  apply wpAny_setItem_pairs (hsz:=hz) (T.is O) i λh' U hs=>h _ ?_;let L:∃q,h'.get? a=G q:=let⟨q,_,_,M,_⟩:=U;⟨q,M⟩;show zi8 I (by rw[e];show True.intro) hs L<|ztg Y hd (rel.put k d) U
 .subst T j;cases(show u=Va.ref b from O);let(z,hd,xs,rel,i):=dt_of I.hok e;let hz:xs.length<=ii:=by rw[←Paired.length rel];show z
  let Y:(putK kvs k v).length<=ii:=by have:=zd1 kvs k v;omega
  apply wpAny_setItem_heap (hsz:=hz) (jC C) (zkw I.hok p) i λh' U hs=>h _ ?_;let(q,es,ep,M,J,f,w,_,D):=U;apply zi8 I (by rw[e];show True.intro) hs ⟨q,M⟩ ⟨Y,hd,_,(rel.put k p d).keeps λc ys x=>?_,q,es,ep,M,J,f,w,D⟩;rw[zam<|zsg x e (λz=>nomatch z)];show x
end
section
variable {X:Cx}{pins:Y2}{σ:St}{H:Hp}{s:ig}{a:Ad}{kvs:List (Key×V)}{k:Key}{u:Va}{A:io}{E:Y0}
theorem Qa0(I:02 H s)(e:Rd H a<|.dK kvs)(h:∀t s',02 H s'->Q (.int kvs.length t) s'):wpAny 20 A (call (.builtin "len") [.ref a]) Q E s:=by
 let(z,hd,vs,rel,i):=ztf I.hok e;apply call_len_dict hd i (by rw[←rel.length];rw[jz]at z;omega) ?_;rw[←rel.length];show h _ _<|I.tok _
end
def NoSl(i:Expr):Prop:=∀c iv,jY i Fa c iv=operate [c,iv] (jI c iv)
theorem zx6{prog:ik}{w:World}{A:io}{E:Y0}{s:ig}{env:Env}{U d:Expr}{pos:Pos}{T id:String}{Q:Y0}
  (Y:jl (.type T) "__getitem__"=pure (G<|.builtin id)) (hs:NoSl d)
  (h:wpAny 95 A (eval U env) (λo s₁=>wpAny 95 A (eval d env) (λi s₂=>s₂.TypeIs o T/\wpAny 95 A (jI o i) Q E s₂) E s₁) E s) :
  wpAny 95 A (eval (.Subscript U d pos) env) Q E s:=by
 apply Subscript_<|iw h (λo s₁ h₁=>iw h₁ (λi s₂ g=>?_) λ_ _ x=>x) λ_ _ x=>x;let(u,g):=g;unfold subscriptTail;apply ia ?_;rw[getitemInPython_of_ne u.not_modules];apply ia<|iP u Y ?_;let fin:wpAny 95 A (jY d Fa o i) (λr s₃=>wpAny 95 A (letTemporaryGo U o r>>=λ_=>pure r) Q E s₃) E s₂:=by
  rw[hs o i];show wpAny_operating<|iw g (λr s₃ e=>ia<|wpAny_letTemporaryGo (ib e)) λ_ _ x=>x
 first
  |show ib (ia fin)
  |show ia (ib<|ia fin)
  |show ia fin
theorem zmt{X:Cx}{pins:Y2}{σ:St}{H:Hp}{s:ig}{a:Ad}{y:V}{o:Option V}(I:02 H s)(g:DGet H a y o):s.TypeIs 07 "dict":=by
 rcases g with⟨kvs,k,e,_,_⟩|⟨kvs,k,b,e,_,_,_⟩
 .let(_,_,vs,_,i):=ztf I.hok e;show i.typeIs
 .let(_,_,xs,_,i):=zwv I.hok e;show i.typeIs
def tDGet(d ty:TE):TE:=λσ H Q=>d σ H λx H1=>ty σ H1 λy H2=>∃a v,x=.ref a/\DGet H2 a y (G v)/\Q v H2
def sDPut(d ty c:TE):TS:=λD σ H=>c σ H λv H1=>d σ H1 λx H2=>ty σ H2 λy H3=>∃a H4,x=.ref a/\DPut H3 a y v H4/\D.nx σ H4
section
variable {X:Cx}{o i e value:Expr}{pos pos' tpos:Pos}{td ty tv:TE}
theorem zy1(C:X.A.units+1<cLine)(D:PE X o td)(hi:PE X i ty)(hs:NoSl i):PE X (.Subscript o i pos) (tDGet td ty):=by
 intro pins s σ H Q I h;apply zx6 PySem.F.slot_dict_getitem.lookup hs<|thn (D pins s σ H _ I h) λu s1 zz=>ex5 zz λx H1 I1 T E=>thn (hi pins s1 σ H1 _ I1 E) λiv s2 zz=>ex5 zz λy H2 w O zq=>?_;let(a,v,ex,g,M):=zq;subst ex;obtain rfl:u=Va.ref a:=T;show⟨zmt w g,ztl C w g O λw' j A c=>⟨v,H2,A,c,M⟩⟩
theorem zyn(C:X.A.units+1<cLine)(q:PE X o td)(hi:PE X i ty)(hv:PE X value tv)(hs:jS value (G<|.Subscript o i pos') pos.line X.env=pure Fa):
  PS X (.Assign [.Subscript o i pos'] value pos) (sDPut td ty tv):=by
 intro pins s σ H D I h;apply wpAny_Assign_Subscript (thn (hv pins s σ H _ I h) λr s1 zz=>ex5 zz λv H1 I1 d E=>thn (q pins s1 σ H1 _ I1 E) λu s2 zz=>ex5 zz λx H2 w T M=>thn (hi pins s2 σ H2 _ w M) λiv j ⟨y,H3,A,O,a,H4,ex,g,f⟩=>?_) hs;subst ex;obtain rfl:u=Va.ref a:=T;show ztk C A g O d λp c=>⟨σ,H4,c,f⟩
end
theorem zok(h:Heap)(U:iK<h.objs.size):ObjOk P w H (h.push {cls:=.type "dict",data:=.dict #[]}) h.objs.size (.dK []) :=
 ⟨y13 _,beq_eq_false_iff_ne.mpr<|Ne.symm (y0j U),[],.nil,Heap.DictOf.new h⟩
theorem zoj(h:Heap)(U:iK<h.objs.size):ObjOk P w H (h.push {cls:=.type "dict",data:=.dict #[]}) h.objs.size (.dT []) :=
 ⟨y13 _,beq_eq_false_iff_ne.mpr<|Ne.symm (y0j U),[],.nil,_,#[],0,y0b _ R,⟨R,R,R⟩,R,R,y3l⟩
def tDNewK:TE:=λ_ H Q=>∀p,H p=B->Q 09 (upd H p<|.dK [])
def tDNewT:TE:=λ_ H Q=>∀p,H p=B->Q 09 (upd H p<|.dT [])
section
variable {X:Cx}{pos:Pos}
theorem zvm:PE X (.Dict [] [] pos) tDNewK:=λpins s σ H Q I h =>
 wpAny_Dict_empty ⟨.ref s.heap.objs.size,_,I.laid (a:=s.heap.objs.size) (o:=.dK []) (t':=s.toks) (λ_ _ q=>y04 _ q) 08<|zok s.heap I.big,R,h _<|I.hok.fresh 08⟩
theorem zvk:PE X (.Dict [] [] pos) tDNewT:=λpins s σ H Q I h =>
 wpAny_Dict_empty ⟨.ref s.heap.objs.size,_,I.laid (a:=s.heap.objs.size) (o:=.dT []) (t':=s.toks) (λ_ _ q=>y04 _ q) 08<|zoj s.heap I.big,R,h _<|I.hok.fresh 08⟩
end
def tPairs:List (TE×TE)->St->Hp->(List (V×V)->Hp->Prop)->Prop
 |[],_,H,Q=>Q [] H
 |(J,c)::r,σ,H,Q=>J σ H λx H1=>c σ H1 λy H2=>tPairs r σ H2 λps H3=>Q ((x,y)::ps) H3
abbrev VV:List (V×V)->List (Va×Va)->Prop:=i8 λp q=>RelV p.1 q.1/\RelV p.2 q.2
def PPs(X:Cx)(pos:Pos)(f:List<|Option Expr)(d:List Expr)(l:List<|TE×TE):Prop :=
 ∀(pins:Y2) (s:ig) (σ:St) (H:Hp) (Q:List (V×V)->Hp->Prop),02 H s->tPairs l σ H Q->
  wpAny 20 X.A (evalPairs<|pairTrees f d X.env pos) (λvs s'=>∃ps H',02 H' s'/\VV ps vs/\Q ps H') X.xe s
theorem zys:PPs X pos [] [] []:=λpins s σ H Q I h=>pairTrees_nil_walk ⟨[],H,I,.nil,h⟩
theorem zvg{J c:TE}(M:PE X k J)(hv:PE X v c)(D:PPs X pos ks vs l):
  PPs X pos (G k::ks) (v::vs) ((J,c)::l):=λpins s σ H Q I h =>
 pairTrees_cons_walk (thn (M pins s σ H _ I h) λu s1 zz=>ex5 zz λx H1 I1 T E=>thn (hv pins s1 σ H1 _ I1 E) λa s2 zz=>ex5 zz λy H2 w O i =>
  thn (D pins s2 σ H2 _ w i) λz j zz=>ex5 zz λps H3 A rel g=>⟨(x,y)::ps,H3,A,.cons ⟨T,O⟩ rel,g⟩)
def mergeK(kvs i:List<|Key×V):List (Key×V):=i.foldl (λacc D=>putK acc D.1 D.2) kvs
theorem KV.merge:∀{i:List (Key×V)} {rs:List (Key×Va)} {kvs:List (Key×V)} {vs:List (Key×Va)},KV i rs->KV kvs vs->KV (mergeK kvs i) (merged vs rs):=by
 intro i rs kvs vs r;unfold KV at r
 induction r generalizing kvs vs with
 |nil=>intro q;show q
 |@cons p q ps qs h t Q =>
  intro r0;let e:KV (putK kvs p.1 p.2) (stored vs q.1 q.2):=by
   let:=r0.put p.1 h.2;rw[←h.1];show this
  show Q e
theorem zcq:∀(i kvs:List<|Key×V),(mergeK kvs i).length<=kvs.length+i.length
 |[],kvs=>by change kvs.length<=kvs.length+0;omega
 |p::r,kvs=>by
  let L:=zcq r<|putK kvs p.1 p.2;let J:=zd1 kvs p.1 p.2;change(mergeK (putK kvs p.1 p.2) r).length<=_;rw[y0i];omega
theorem zh7:∀{kvs:List (Key×V)} {z:List (Va×Va)},VV (kvs.map λD=>(kV D.1,D.2)) z->∃rs,Carries 023 z rs/\KV kvs rs
 |[],_,r=>by rw[y2y]at r;cases r;show⟨[],True.intro,.nil⟩
 |p::kvs,_,r=>by
  rw[y0m]at r;cases r with
  |@cons a b x bs h t =>
   let(rs,c,q):=zh7 (P:=P) (w:=w) t;let(b1,b2):=b;show⟨(p.1,b2)::rs,⟨zsu h.1,R,c⟩,.cons ⟨R,h.2⟩ q⟩
def tDisp(l:List<|TE×TE):TE:=λσ H Q=>∀p,H p=B->tPairs l σ (upd H p<|.dK []) λps H2=>H2 p=G (.dK [])/\∃kvs:List<|Key×V,ps=kvs.map (λD=>(kV D.1,D.2))/\kvs.length<=15/\Q 09 (upd H2 p<|.dK (mergeK [] kvs))
theorem zy0(h:PPs X pos f d l)(g:f.all (·.isSome)=N)(Y:f.length=d.length)(D:f≠[])
  (j:f.length<=15):PE X (.Dict f d pos) (tDisp l):=by
 intro pins s σ H Q I q;let J:=I.hok.fresh<|y05 s.heap.objs.size;let I1:=I.laid (a:=s.heap.objs.size) (o:=.dK []) (h':=s.heap.push {cls:=.type "dict",data:=.dict #[]}) (t':=s.toks) (λ_ _ q=>y04 _ q) 08<|zok s.heap I.big;apply wpAny_Dict_walk (knd:=mixKind X.prog X.w) g Y D j<|thn (h pins _ σ _ _ I1<|q _ J) λx s2 zz=>ex5 zz λps H2 u rel zq=>?_;let(e,kvs,ep,lk,i):=zq;subst ep;let(rs,c,p):=zh7 (P:=X.prog) (w:=X.w) rel;let(z,hd,r,r0,E):=dk_of u.hok e;cases r0;apply⟨rs,c,E,λh' U hs=>⟨.ref s.heap.objs.size,_,?_,R,i⟩⟩;let hz:(mergeK [] kvs).length<=ii:=by
  let L:=zcq kvs [];rw[y1k]at L;rw[jz];omega
 let M:∃q,h'.get? s.heap.objs.size=G q:=let⟨q,_,_,A,_⟩:=U;⟨q,A⟩;show zi8 u (by rw[e];show True.intro) hs M<|ztg hz hd (p.merge .nil) U
structure M1(X:Cx)(o:Expr)(m:Str)(apos:Pos)(e:Expr)(cpos:Pos):Prop where
 base:attributeBase o m X.env (eval o X.env)=eval o X.env
 few:((jh cpos<|iq [e] X.env).all (λx=>!x.1)&&(backToKw cpos<|keywordEach [] X.env).all (λx=>x.1.isSome)
  && decide (([e]:List Expr).length+([]:List jW).length+(if([]:List jW).isEmpty then 0 else 1)<30))=N
 line:(apos.endLine==cpos.line)=N
 trees:jh cpos (iq [e] X.env)=[036]
def IsD(H:Hp)(a:Ad):Prop:=(∃kvs,Rd H a<|.dK kvs)\/∃kvs,Rd H a<|.dT kvs
def tDGet2(d ty c:TE):TE:=λσ H Q=>d σ H λx H1=>∃a,x=.ref a/\IsD H1 a/\ty σ H1 λy H2=>c σ H2 λz H3=>∃o,DGet H3 a y o/\Q (o.getD z) H3
section
variable {X:Cx}
theorem zt9:CallR X (.builtin "len") (λxs H Q=>∃a kvs,xs=[V.ref a]/\H a=G (.dK kvs)/\Q (.int kvs.length) H):=by
 intro pins s σ H xs us Q I r h;let(a,kvs,rfl,d,q):=h;let(u,rfl,f):=vals1 r;cases f;show Qa0 I (.inl d) λt s' U=>⟨.int kvs.length,H,U,⟨t,R⟩,q⟩
end
section
variable {κ:Type}[DecidableEq κ]
theorem zsh:∀{l:List κ} {k:κ},l.Nodup->¬k∈l->(l++[k]).Nodup
 |[],k,_,_=>by simp
 |a::r,k,h,M=>by
  let(L,J):=y1o.mp h;change(a::(r++[k])).Nodup;apply y1o.mpr ⟨λm=>?_,zsh J λm=>M<|y09.mpr (Or.inr m)⟩;rcases y1c.mp m with q|q
  .exact L q
  .exact M<|y09.mpr (Or.inl (y0l.mp q).symm)
end
noncomputable def notStar:Expr->Bool
 |.Starred _ _=>Fa
 |_=>N
theorem zap(h:notStar e=N):iq (e::l) env=(Fa,eval e env)::iq l env:=by
 cases e with
 |Starred v q=>show Xa (show Fa=N from h) y0f
 |_=>rw[starEach.eq_def]
theorem zbh:∀{l:List Expr} {env:Env} {pos:Pos},l.all notStar=N->(jh pos<|iq l env).any (·.1)=Fa
 |[],env,pos,_=>by rw[starEach.eq_def];rfl
 |e::r,env,pos,h=>by
  rw[y2d,y08]at h;rw[zap h.1];show zbh h.2
section
variable {X:Cx}{x:Str}{p pos:Pos}{e:Expr}{es:List Expr}{te:TE}{t:TA}{T id:String}{r:List V->Hp->VK->Prop}
theorem pa_c(d:PE X e te)(D:PA X es t)(h:notStar e=N:=by rfl):PA X (e::es) (tCons te t):=zy7 d D<|zap h
theorem za1(C:CallR X (.builtin id) r)(y:Gl X x)(M:X.mg x=B)(hv:ja x=G (.builtin id))(d:PA X (e::es) t)(I:x≠"__name__":=by decide)(w:010=Fa:=by decide)
  (L:notStar e=N:=by rfl) (J:es.all notStar=N:=by rfl):PE X 024 (tCB r t):=zvp C y M hv d I w (zap L)<|zbh J
theorem zbp(C:CallR X (.type T) r)(y:Gl X x)(M:X.mg x=B)(hv:ja x=G (.type T))(d:PA X (e::es) t)(I:x≠"__name__":=by decide)(w:010=Fa:=by decide)
  (L:notStar e=N:=by rfl) (J:es.all notStar=N:=by rfl):PE X 024 (tCB r t):=zru C y M hv d I w (zap L)<|zbh J
end
structure Dfn(K:Frag)(mg:Y1)(x:Str)(st:Stmt)(ps:List Str):Prop where
 ex:∃f fd,Fun K x x st f fd/\Binds K fd ps []/\mg x=G 61
structure Cal(P:ik)(w:World)(K:Frag)(mg:Y1)(base:Heap)(n:Nat)(x:Str)(ps:List Str)(sp:Sp):Prop where
 ex:∃f fd,FnOk P w K mg base CX0 n f fd ps sp/\Binds K fd ps []/\PySem.W.keepIn K 61=N/\mg x=G 61
section
variable {P:ik}{w:World}{K:Frag}{mg:Y1}{base:Heap}
theorem Dfn.cal{x:Str}{st:Stmt}{Nq ps:List Str}{k:Nat}{sp:Sp}(d:Dfn K mg x st ps)(S:FnScope Nq ps 66)(len:∀vs H Q E,sp vs H Q E->vs.length=ps.length)
  (i:∀(f:Ad) (l:Va) (A:io) (outer:List Env) (s:ig) (H:Hp) (vs:List V) (Q:VK) (E:XK),Room k (A.deeper<|jd x 66 s.heap.objs.size f l)->sp vs H Q E->
   ∃t,PSs (cxOf CX0 P w K mg base Nq x 66 f l A outer s H E).nox (defBody st) t/\t {nx:=λ_ H'=>Q .non H',rt:=Q} 026 H):03 (k+1) x ps sp:=by
 let(f,fd,F,b,m):=d.ex;show⟨f,fd,F.ok S len<|i f,b,F.kp,m⟩
theorem Cal.mono(c:03 j x ps sp)(h:j<=k):03 k x ps sp:=by
 let(f,fd,F,r):=c.ex;show⟨f,fd,F.mono h,r⟩
theorem Dfn.never{x:Str}{st:Stmt}{ps:List Str}{sp:Sp}(d:Dfn K mg x st ps)(y:∀vs H Q E,¬sp vs H Q E):03 0 x ps sp:=by
 let(f,fd,F,b,m):=d.ex;show⟨f,fd,⟨λvs H Q E h=>Xa h<|y vs H Q E,λA outer s H args us vs Q E _ _ _ _ h=>Xa h<|y vs H Q E⟩,b,F.kp,m⟩
end
section
variable {X:Cx}{n k:Nat}{x:Str}{ps:List Str}{sp:Sp}{p pos:Pos}{e:Expr}{es:List Expr}{t:TA}
theorem zae(C:Cal X.prog X.w X.K X.mg X.base n x ps sp)(D:Room k X.A)(v:n<=k)(y:Gl X x)(d:PA X (e::es) t)(w:010=Fa:=by decide)
  (L:notStar e=N:=by rfl) (J:es.all notStar=N:=by rfl):PE X 024 (tCall sp [] E0 t):=by
 let(f,fd,F,b,kp,m):=C.ex;show zy2 F (D.mono v) y m kp b .nil pass0 d w (zap L)<|zbh J
def GlV(mg:Y1)(x:Str)(v:V):Prop:=∃u,mg x=G u/\RelV v u
theorem zb1(y:Gl X x)(h:GlV X.mg x v)(hd:010=Fa:=by decide):PE X (.Name x pos) (tC v):=by
 let(u,m,r):=h;show zyz y m r hd
end
theorem CompOk.of(kind:scope.kind=.function)
  (L:(scope.names.all λy=>y.2 !=.cell&&(y.2 !=.local||scope.names.lookup y.1==G .local)&&(y.2 !=.free||(X.env.scope.names.lookup y.1==G .cell||X.env.scope.names.lookup y.1==G .free)))=N)
  (J:(cp.all λp=>X.Nq[p.1]? ==G p.2&&scope.names.lookup p.2==G .free)=N):CompOk X scope cp:=by
 let g:=y0u.mp L;apply⟨kind,λy U e=>?_,λy U e=>?_,λy U e=>?_,λp E=>?_⟩
 .let q:=g y U;rw[y08,y08]at q;rw[e]at q;show Xa q.1.1 04
 .let q:=g y U;rw[y08,y08]at q;let q:=q.1.2;rw[e]at q;simpa using q
 .let q:=g y U;rw[y08,y08]at q;let q:=q.2;rw[e]at q;let q:X.env.scope.names.lookup y.1=G .cell\/X.env.scope.names.lookup y.1=G .free:=by simpa using q
  show q
 .let q:=y0u.mp J p E;rw[y08]at q;show⟨by simpa using q.1,by simpa using q.2⟩
inductive Kd(H:Hp):V->String->Prop where
 |non:Kd H .non "NoneType"
 |bl (b:Bool):Kd H (.bl b) "bool"
 |int (i:Int):Kd H (.int i) "int"
 |str (z:Str):Kd H (.str z) "str"
 |lst {a:Ad} {xs:List V} (e:H a=G (.lst xs)):Kd H (.ref a) "list"
 |tup {a:Ad} {xs:List V} (e:H a=G (.tup xs)):Kd H (.ref a) "tuple"
 |dK {a:Ad} {kvs:List (Key×V)} (e:H a=G (.dK kvs)):Kd H (.ref a) "dict"
def kinds:List String:=["NoneType","bool","int","str","list","tuple","dict"]
noncomputable def subT(k T:String):Bool:=k==T||(k=="bool"&&T=="int")
theorem kit_ok(K:Frag):∀k∈kinds,∀T∈["str","list","tuple","bool","int","dict"],PySem.W.kitOne K (.type k) (.type T)=G (subT k T):=by
 intro k hk T hT;simp only[kinds,y09,y0o,or_false]at hk hT;rcases hk with rfl|rfl|rfl|rfl|rfl|rfl|rfl<;>rcases hT with rfl|rfl|rfl|rfl|rfl|rfl<;>first|rfl|kernel_rfl
theorem Kd.ty{K:Frag}{H:Hp}{x:V}{k:String}(h:Kd H x k):TyOf K H x (.type k)/\k∈kinds:=by
 cases h with
 |non=>show⟨.non,by decide⟩
 |bl b=>show⟨.bl b,by decide⟩
 |int i=>show⟨.int i,by decide⟩
 |str z=>show⟨.str z,by decide⟩
 |lst e=>show⟨.lst e,by decide⟩
 |tup e=>show⟨.tup e,by decide⟩
 |dK e=>show⟨.dK e,by decide⟩
theorem Kd.same(h:Kd H x k)(g:Same H H'):Kd H' x k:=by
 cases h with
 |non=>show .non
 |bl b=>show .bl b
 |int i=>show .int i
 |str z=>show .str z
 |lst e=>show .lst<|g _ _ e
 |tup e=>show .tup<|g _ _ e
 |dK e=>show .dK<|g _ _ e
theorem Kd.inj(h:Kd H x k)(h':Kd H x k'):k=k':=by
 cases h with
 |lst e=>cases h' with|lst _=>rfl|tup f=>rw[e]at f;cases f|dK f=>rw[e]at f;cases f
 |tup e=>cases h' with|lst f=>rw[e]at f;cases f|tup _=>rfl|dK f=>rw[e]at f;cases f
 |dK e=>cases h' with|lst f=>rw[e]at f;cases f|tup f=>rw[e]at f;cases f|dK _=>rfl
 |non=>cases h';rfl
 |bl _=>cases h';rfl
 |int _=>cases h';rfl
 |str _=>cases h';rfl
theorem call_isk{X:Cx}:CallR X (.builtin "isinstance") (λxs H Q=>∃x T k,xs=[x,.ty T]/\Kd H x k/\T∈["str","list","tuple","bool","int","dict"]/\Q (.bl<|subT k T) H):=by
 intro pins s σ H xs us Q I r h;let(x,T,k,e,hk,hT,q):=h;let(h1,h2):=hk.ty (K:=X.K);show zm3 pins s σ H xs us Q I r ⟨x,T,.type k,_,e,h1,kit_ok X.K k h2 T hT,q⟩
theorem zba(h:H p=B)(o:HO):Same H (upd H p o):=λb u q=>by rw[zam<|zav q h];show q
theorem Same.seqT{K:Frag}{H H':Hp}{a:Ad}{xs:List V}(e:Same H H')(h:SqT K H a xs):SqT K H' a xs:=by
 rcases h with(h|⟨o,h⟩)|h
 .exact .inl<|.inl (e _ _ h)
 .exact .inl<|.inr ⟨o,e _ _ h⟩
 .exact .inr h
section
variable {H:Hp}{Q:VK}{v:V}{a:Option V}{r:St}{i:Nat}
theorem zaw{t:TS}{D:Ends}{σ:St}(M:St)(e:σ=M)(h:t D M H):t D σ H:=by rw[e];show h
theorem rd_v0:tVar 0 (G v::r) H Q=Q v H:=rfl
theorem rd_vS:tVar (i+1) (a::r) H Q=tVar i r H Q:=rfl
theorem znt{A Bq:Prop}:(if N=N then A else Bq)=A:=rfl
theorem znu{A Bq:Prop}:(if Fa=N then A else Bq)=Bq:=rfl
theorem rd_ss{a b:Str}:(scal (.str a) (.str b)=N)=True:=eq_true R
theorem rd_si{a:Str}{b:Int}:(scal (.str a) (.int b)=N)=True:=eq_true R
theorem rd_is{b:Str}{a:Int}:(scal (.int a) (.str b)=N)=True:=eq_true R
theorem rd_ii{a b:Int}:(scal (.int a) (.int b)=N)=True:=eq_true R
theorem rd_bb{a b:Bool}:(scal (.bl a) (.bl b)=N)=True:=eq_true R
def cBody(tn:List Str)(cp:Y6)(g:TG)(tif:TT)(te:TE)(σ:St)(Q:VK)(J:It)(H1:Hp):Prop:=∀D,H1 D=B->∃W:Nat->Nat->St->Hp->Prop,
 (∃m,W 0 m (stB tn cp σ) 032)/\∀i m f Hb,W i m f Hb->
  (J.stop i Hb/\Q 65 Hb)\/(J.go i Hb/\∀x H',J.yld i Hb x H'->g x f H' λd H2=>tif d H2 λc H3 =>
   if c=N then te d H3 λy H4=>∃ys,H4 D=G 50/\ys.length<ii/\∃O,O<m/\W (i+1) O d 050
   else∃O,O<m/\W (i+1) O d H3)
theorem zrb:tComp tn cp j g tif te σ H Q=j σ H λJ H1=>cBody tn cp g tif te σ Q J H1:=rfl
def fBody(g:TG)(c:TS)(D:Ends)(σ:St)(J:It)(H1:Hp):Prop:=∃W:Nat->Nat->St->Hp->Prop,(∃m,W 0 m σ H1)/\∀i m σ H,W i m σ H->
 (J.stop i H/\D.nx σ H)\/(J.go i H/\∃Nq:St->Hp->Prop,063/\∀x H',J.yld i H x H'->g x σ H' λd H2=>c {D with nx:=Nq,ct:=Nq,bk:=D.nx} d H2)
theorem zxd:tFor j g c D σ H=j σ H λJ H1=>fBody g c D σ J H1:=rfl
end
section
variable {tn:List Str}{cp:Y6}{g:TG}{tif:TT}{te:TE}{σ0:St}{Q:VK}{H1:Hp}
theorem zt6(n:Nat)(Pv:Ad->Nat->List V->St->Hp->Prop)(I:n<=ii)(w:∀D,H1 D=B->Pv D 0 [] 031 032)
  (l:∀D i ys σ H,H1 D=B->i<n->H D=G 50->Pv D i ys σ H->J.go i H) (a:∀D ys σ H,H1 D=B->H D=G 50->Pv D n ys σ H->J.stop n H)
  (hs:∀D i ys σ H x H',H1 D=B->i<n->H D=G 50->ys.length<=i->Pv D i ys σ H->J.yld i H x H'->g x σ H' λd H2=>tif d H2 λc H3 =>
   if c=N then te d H3 λy H4=>CStep D n i (Pv D) d y H4 else CSkip D n i (Pv D) d H3)
  (hd:∀D ys σ H,H1 D=B->H D=G 50->ys.length<=n->Pv D n ys σ H->Q 65 H):cBody tn cp g tif te σ0 Q J H1:=λD u =>
 zmw (Pv D) I (w D u) (λi ys σ H=>l D i ys σ H u) (λys σ H=>a D ys σ H u) (λi ys σ H hi A Y p x H' y=>hs D i ys σ H x H' u hi A Y p y) (λys σ H=>hd D ys σ H u)
theorem cb_str(Pv:Ad->Nat->List V->St->Hp->Prop)(I:z.cps.size<=ii)(w:∀D,H1 D=B->Pv D 0 [] 031 032)
  (hs:∀D i ys σ H c,H1 D=B->i<z.cps.size->z.cps[i]?=G c->H D=G 50->ys.length<=i->Pv D i ys σ H->g (.str ⟨#[c]⟩) σ H λd H2=>tif d H2 λc H3 =>
   if c=N then te d H3 λy H4=>CStep D z.cps.size i (Pv D) d y H4 else CSkip D z.cps.size i (Pv D) d H3)
  (hd:∀D ys σ H,H1 D=B->H D=G 50->ys.length<=z.cps.size->Pv D z.cps.size ys σ H->Q 65 H):cBody tn cp g tif te σ0 Q (Its z) H1:=λD u =>
 zw1 (Pv D) I (w D u) (λi ys σ H c=>hs D i ys σ H c u) (λys σ H=>hd D ys σ H u)
theorem zjd{K:Frag}{a:Ad}{xs:List V}(Pv:Ad->Nat->List V->St->Hp->Prop)(I:xs.length<=ii)(w:∀D,H1 D=B->Pv D 0 [] 031 032)
  (Y:∀D i ys σ H,H1 D=B->i<=xs.length->H D=G 50->Pv D i ys σ H->SqL K H a xs)
  (hs:∀D i ys σ H x,H1 D=B->i<xs.length->xs[i]?=G x->H D=G 50->ys.length<=i->Pv D i ys σ H->g x σ H λd H2=>tif d H2 λc H3 =>
   if c=N then te d H3 λy H4=>CStep D xs.length i (Pv D) d y H4 else CSkip D xs.length i (Pv D) d H3)
  (hd:∀D ys σ H,H1 D=B->H D=G 50->ys.length<=xs.length->Pv D xs.length ys σ H->Q 65 H):cBody tn cp g tif te σ0 Q (Itl K a) H1:=λD u =>
 ztt (Pv D) I (w D u) (λi ys σ H=>Y D i ys σ H u) (λi ys σ H x=>hs D i ys σ H x u) (λys σ H=>hd D ys σ H u)
theorem zxy{K:Frag}{a:Ad}{xs:List V}(Pv:Ad->Nat->List V->St->Hp->Prop)(I:xs.length<=ii)(w:∀D,H1 D=B->Pv D 0 [] 031 032)
  (Y:∀D i ys σ H,H1 D=B->i<=xs.length->H D=G 50->Pv D i ys σ H->SqT K H a xs)
  (hs:∀D i ys σ H x,H1 D=B->i<xs.length->xs[i]?=G x->H D=G 50->ys.length<=i->Pv D i ys σ H->g x σ H λd H2=>tif d H2 λc H3 =>
   if c=N then te d H3 λy H4=>CStep D xs.length i (Pv D) d y H4 else CSkip D xs.length i (Pv D) d H3)
  (hd:∀D ys σ H,H1 D=B->H D=G 50->ys.length<=xs.length->Pv D xs.length ys σ H->Q 65 H):cBody tn cp g tif te σ0 Q (Itt K a) H1 :=
 zt6 xs.length Pv I w (λD i ys σ H u hi A p=>⟨xs,xs[i],Y D i ys σ H u (y1r hi) A p,by simp[hi]⟩) (λD ys σ H u A p=>⟨xs,Y D _ ys σ H u 08 A p,y05 _⟩) (λD i ys σ H x H' u hi A o p y=>by
  let(e,y):=y;subst e;show hs D i ys σ _ x u hi (y xs<|Y D i ys σ _ u (y1r hi) A p) A o p) hd
variable {tb:TS}{D:Ends}
theorem zi6{K:Frag}{a:Ad}{xs:List V}(Pv:Nat->St->Hp->Prop)(w:Pv 0 σ0 H1)(Y:∀i σ H,i<=xs.length->Pv i σ H->SqL K H a xs)
  (hs:∀i x σ H,xs[i]?=G x->Pv i σ H->g x σ H λd H2=>tb {D with nx:=Pv<|i+1,ct:=Pv<|i+1,bk:=D.nx} d H2) (hd:∀σ H,Pv xs.length σ H->D.nx σ H):fBody g tb D σ0 (Itl K a) H1:=zwq Pv w Y hs hd
theorem ztc{K:Frag}{a:Ad}{xs:List V}(Pv:Nat->St->Hp->Prop)(w:Pv 0 σ0 H1)(Y:∀i σ H,i<=xs.length->Pv i σ H->SqT K H a xs)
  (hs:∀i x σ H,xs[i]?=G x->Pv i σ H->g x σ H λd H2=>tb {D with nx:=Pv<|i+1,ct:=Pv<|i+1,bk:=D.nx} d H2) (hd:∀σ H,Pv xs.length σ H->D.nx σ H):fBody g tb D σ0 (Itt K a) H1:=for_tup Pv w Y hs hd
theorem zeh{lo:Int}{n:Nat}(Pv:Nat->St->Hp->Prop)(w:Pv 0 σ0 H1)
  (hs:∀i σ H,i<n->Pv i σ H->g (.int<|lo+i) σ H λd H2=>tb {D with nx:=Pv<|i+1,ct:=Pv<|i+1,bk:=D.nx} d H2) (hd:∀σ H,Pv n σ H->D.nx σ H):fBody g tb D σ0 (Itr lo n) H1:=zs4 Pv w hs hd
end
theorem znx{q:Type}(xs:List q):∀(i k:Nat),((List.range k).map λm=>i+m).filterMap (λj=>xs[j]?)=(xs.drop i).take k
 |i,0=>by simp
 |i,k+1=>by
  let Q:=znx xs (i+1) k;rw[y2t,y0m,y0q,y27];let e:((λm=>i+m)∘Nat.succ)=λm=>i+1+m:=by funext m;simp[Function.comp];omega
  rw[e];by_cases h:i<xs.length
  .rw[show i+0=i from rfl,y00 h,Q,y4a h,List.take_succ_cons]
  .rw[show i+0=i from rfl,y0t 00,Q,y1w 00,y1w 00];simp
noncomputable def cutL{q:Type}(xs:List q)(lo hi:Option Int):List q:=(xs.drop<|HT.sIx xs.length 0 lo).take 071
theorem idx_go{a b:Nat}{A Bq:Int}(c:A=a)(w:Bq=b):PySem.sliceRange A Bq 1=(List.range<|b-a).map λm=>a+m:=by
 subst c w;unfold PySem.sliceRange;simp only[show(1:Int)>0 by decide,if_true];let j:(if(a:Int)<(b:Int)then((b:Int)-(a:Int)+1-1)/1 else 0).toNat=b-a:=by
  split<;>omega
 rw[j];apply y1x λm _=>?_;omega
theorem zq0(lo hi:Option Int)(n:Nat):Builtin.Str.strSliceIndices lo hi 1 n=(List.range<|HT.sIx n n hi-HT.sIx n 0 lo).map λm=>HT.sIx n 0 lo+m:=by
 unfold Builtin.Str.strSliceIndices;apply idx_go ?_ ?_
 .cases lo with
  |none=>rfl
  |some v =>
   rw[←HT.clip_eq v n 0];simp only[show(1:Int)>0 by decide,if_true];split<;>omega
 .cases hi with
  |none=>rfl
  |some v =>
   rw[←HT.clip_eq v n n];simp only[show(1:Int)>0 by decide,if_true];split<;>omega
theorem zq1(z:Str)(lo hi:Option Int):(Txt.slice z lo hi).cps.toList=cutL z.cps.toList lo hi:=by
 let Y:z.cps.toList.length=z.length:=by simp[Str.length]
 unfold Txt.slice cutL;rw[Y,zq0];let p:=znx z.cps.toList (HT.sIx z.length 0 lo)<|HT.sIx z.length z.length hi-HT.sIx z.length 0 lo;let e:(λ(j:Nat)=>z.cps.toList[j]?)=λ(j:Nat)=>z.cps[j]?:=by funext j;simp
 rw[e]at p;split
 .rename_i h;simp only[y01,y0x,beq_self_eq_true,y1i,beq_iff_eq]at h;let L:=HT.sIx_le z.length z.length 08 hi;let f:=HT.sIx_le z.length 0 (y13 _) lo;let w:HT.sIx z.length 0 lo=0:=by omega
  let J:HT.sIx z.length z.length hi-HT.sIx z.length 0 lo=z.length:=h;rw[J,w,List.drop_zero,y0h<|by rw[Y];show y05 _]
 .rw[←p]
theorem zwy(xs:List q)(lo hi:Option Int):(cutL xs lo hi).length<=xs.length:=by
 unfold cutL;rw[y0w,y20];omega
theorem zei(xs:List q)(k:Nat):cutL xs (G (k:Int)) B=xs.drop k:=by
 unfold cutL;rw[HT.sIx_nat,HT.sIx_none,y0h<|by rw[y20];show y05 _];by_cases h:k<=xs.length
 .rw[y2r h]
 .rw[y2o 00,y1w 08,y1w 00]
theorem zlp(z:Str):z.length=z.cps.toList.length:=by simp[Str.length]
theorem zca{q:Type}{c:q}{r:List q}:atI (c::r) 0=G c:=zal (j:=0) R
theorem RcOk.up(h:RcOk X j H x y b)(a:j<=k):RcOk X k H x y b:=λpins σ s A u v C=>h pins σ s A u v 00
theorem zaf(h:n<=1000):n<=ii:=y1r<|small1000 h
theorem zez(D:Room k A)(j:Nat)(h:j<=64):A.units+j<cLine:=by have:=D.units;omega
section
variable {K:Frag}{h:Heap}{mg:Y1}
theorem dfn_mk{x:Str}{st:Stmt}{ps:List Str}{f:Ad}{oc:Va}{j an:Option Ad}{z:Y8}{kV doc pm cdv ct:Va}(X:K.In h)(Gq:h.Ns ir mg)
  (a:PySem.W.nsIn K ir x=G (G 61)) (l:K.lookup f=G ⟨oc,j,.func 062,z⟩)
  (c:PySem.W.codeIn K cdv x=N) (k:PySem.W.keepIn K 61=N)
  (U:∀(kV doc pm:Va) (an:Option Ad) (cdv ct:Va) (us:List Va),us.length=ps.length->je 062 019=pure 018):Dfn K mg x st ps :=
 ⟨f,_,zob l c k,(zob l c k).binds U,PySem.W.mg_of X Gq a⟩
theorem law_mk{x y:Str}{st:Stmt}{f g:Ad}{oc:Va}{j an:Option Ad}{z:Y8}{kV doc pm cdv ct:Va}(X:K.In h)(Gq:h.Ns ir mg)(d:mg x=G (.ref g))
  (a:PySem.W.nsIn K ir x=G (G 61)) (l:K.lookup f=G ⟨oc,j,.func 062,z⟩)
  (c:PySem.W.codeIn K cdv x=N) (k:PySem.W.keepIn K 61=N) (U:∀(s:ig) (v:Va),lh s 062 ⟨[v],[]⟩ [(y,v)]) :
  ∃fd:i6,(∀(s:ig) (v:Va),lh s fd ⟨[v],[]⟩ [(y,v)])/\Fun K x x st g fd:=by
 let e:=d.symm.trans<|PySem.W.mg_of X Gq a;cases e;show⟨_,U,zob l c k⟩
theorem glv_mk(X:K.In h)(Gq:h.Ns ir mg)(a:PySem.W.nsIn K ir x=G (G u))(r:RelV v u):GlV mg x v:=⟨u,PySem.W.mg_of X Gq a,r⟩
end
section
variable {CX:CXT}{P:ik}{w:World}{K:Frag}{mg:Y1}{base:Heap}{Nq:List Str}{x:Str}{sc:Scope}{f:Ad}{cdv:Va}{A:io}{outer:List Env}{s:ig}{H:Hp}{E:XK}
theorem cxK:(cxOf CX P w K mg base Nq x sc f cdv A outer s H E).K=K:=rfl
theorem cxP:(cxOf CX P w K mg base Nq x sc f cdv A outer s H E).prog=P:=rfl
theorem cxW:(cxOf CX P w K mg base Nq x sc f cdv A outer s H E).w=w:=rfl
end
section
variable {X:Cx}{st:Stmt}{rest:List Stmt}{t u:TS}{e:Expr}{te:TE}
def tCut(t u:TS):TS:=λD σ H=>∃Pv:St->Hp->Prop,t {D with nx:=Pv} σ H/\∀M H',Pv M H'->u D M H'
theorem zbl(L:PS X st t)(J:PSs X rest u):PSs X (st::rest) (tCut t u):=by
 intro pins s σ H D I h;let(Pv,E,i):=h;apply iU<|thn (L pins s σ H {D with nx:=Pv} I E) λf s1 q=>?_;cases f with
 |next =>
  let(M,H',U,q):=q;show J pins s1 M H' D U<|i M H' q
 |ret v=>show q
 |brk=>show q
 |cont=>show q
theorem zb9(Pv:St->Hp->Prop)(L:t {D with nx:=Pv} σ H)(J:∀M H',Pv M H'->u D M H'):tCut t u D σ H:=⟨Pv,L,J⟩
end
local instance (priority:=10000):BEq Key:=instBEqOfDecidableEq
local instance (priority:=10000):LawfulBEq Key:=inferInstanceAs (LawfulBEq (Sum Int Str))
noncomputable def onceK:List Key->List Key->List Key
 |acc,[]=>acc
 |acc,k::r=>onceK (if k∈acc then acc else acc++[k]) r
theorem zhr:∀(ks acc:List Key) (k:Key),onceK acc (ks++[k])=if k∈onceK acc ks then onceK acc ks else onceK acc ks++[k]
 |[],acc,k=>rfl
 |j::r,acc,k=>zhr r _ k
theorem zea:∀(ks acc:List Key),(onceK acc ks).length<=acc.length+ks.length
 |[],acc=>y05 _
 |k::r,acc=>by
  let h:=zea r<|if k∈acc then acc else acc++[k];change(onceK (if k∈acc then acc else acc++[k]) r).length<=acc.length+(r.length+1);split at h<;>rename_i c
  .rw[Xq c];omega
  .rw[Xp c];rw[y0d,y0r]at h;omega
theorem zgd:∀(ks acc:List Key),acc.Nodup->((onceK acc ks).length=acc.length+ks.length↔(acc++ks).Nodup)
 |[],acc,h=>by simp[onceK,h]
 |k::r,acc,h=>by
  change(onceK (if k∈acc then acc else acc++[k]) r).length=acc.length+(r.length+1)↔_;by_cases c:k∈acc
  .rw[Xq c];let l:=zea r acc;constructor
   .intro e;omega
   .intro e;let:=(y3r.mp e).2.2 k c k<|y0a;show Xa R this
  .rw[Xp c];let h':(acc++[k]).Nodup:=zsh h c;let Q:=zgd r (acc++[k]) h';rw[y0d,y0r,y24]at Q;rw[show acc.length+(r.length+1)=acc.length+1+r.length by omega];show Q
theorem zr2(ks:List Key):(onceK [] ks).length=ks.length↔ks.Nodup:=by
 let h:=zgd ks [] y3l;simpa using h
structure SetR{P:ik}{w:World}{T:Type}[DecidableEq T](knd:PySem.KeyKind P w T)(a:Ad)(m:Nat)(Rp:Heap->List T->Prop):Prop where
 kept:∀{h h':Heap} {ks:List T},Rp h ks->(∀o,h.get? a=G o->h'.get? a=G o)->Rp h' ks
 add:∀{A:io} {E:Y0} {s:ig} {ks:List T} {k:T} {v:Va} {Q:Bool->ig->Prop},knd.is k v=N->ks.length+1<m->Rp s.heap ks->(∀h' b,Heap.SameBut a s.heap h'->Rp h' (ks++[k])->Q b {s with heap:=h'})->wpAny (model P w) A (setAddHashed a v<|knd.hash k) Q E s
section
variable {P:ik}{w:World}{A:io}{Rq:Result->ig->Prop}{it:Ad}{fp wr:List Ad}{Gq:Array jB->Array jB->Prop}{n:Nat}{Pv:Nat->Va->Prop}{St:Nat->ig->Prop}
def SetIs(P:ik)(w:World)(h:Heap)(a:Ad)(ks:List Key):Prop:=h.SetOf 023 a (λk=>decide (k∈onceK [] ks)) (onceK [] ks).length
theorem SetIs.kept(x:SetIs P w h a ks)(k:∀o,h.get? a=G o->h'.get? a=G o):SetIs P w h' a ks:=by
 let(o,l,ep,t,D,rest):=x;show⟨o,l,ep,t,k o D,rest⟩
theorem zyi(h:(023).is k v=N):v.scannable=N:=by
 rcases za3 h with⟨i,t,rfl,rfl⟩|⟨x,t,rfl,rfl⟩|⟨c,rfl,rfl⟩<;>rfl
theorem zo1{T:Type}[DecidableEq T]{knd:PySem.KeyKind P w T}{g:Heap->List T->Prop}(W:WalksS P w A.in1 it fp wr Gq n Pv St)(a:Ad)(j:SetR knd a (n+1) g)(d:a∉fp)(ks:List T)(I:ks.length=n)(hv:∀i v,Pv i v->∀k,ks[i]?=G k->knd.is k v=N):
  ∀(m i:Nat) (s:ig),n-i=m->i<=n->St i s->g s.heap (ks.take i)->(∀s',Moved (a::wr) Gq s s'->g s'.heap ks->Rq (.ok<|.ret .none) s')->
   jc 78 A (.builtin "set.update.loop" ⟨[.ref a,.ref it],[]⟩) Rq s:=by
 let f:a∉wr:=λh=>d<|W.sub _ h;let up:∀b∈wr,b∈a::wr:=λb h=>y07 _ h;intro m
 induction m with
 |zero =>
  intro i s z hi st x q;obtain rfl:i=n:=by omega
  rw[y0h<|y4l I]at x;apply iD F.entry_set_update_loop ?_;rw[Around.under_plainId F.plain_set_update_loop _];apply ia<|W.done s _ _ st λs' c=>ib<|q s' (c.mono up) (j.kept x λo e=>c.heap a _ f e)
 |succ m Q =>
  intro i s z hi st x q;let lt:i<n:=by omega
  let M:ks[i]?=G ks[i]:=by simp[I,lt]
  apply iD F.entry_set_update_loop ?_;rw[Around.under_plainId F.plain_set_update_loop _];apply ia<|W.item i s _ _ lt st λv s' pv D c=>?_;let is:=hv i v pv _ M;let u:=j.kept (h':=s'.heap) x λo e=>c.heap a _ f e;apply ia (m:=holding [v]<|setAdd a v)<|im ?_;unfold setAdd;apply im<|ia (knd.pyHash (k:=ks[i]) is ?_);apply j.add (s:={s' with toks:=s'.toks+1}) is (by rw[y0w];omega) u λh' l p O=>?_;let y:g h' (ks.take<|i+1):=by rw[y19,M,y28];show O
  apply ib ⟨iT F.plain_set_update_loop _,Q (i+1) _ 00 lt (W.frame _ s' _ _ D (y3m _) λb U o e=>?_) y λs2 H r=>?_⟩
  .rw[p.2 b λh=>d<|h▸U];show e
  .refine q s2 (Moved.trans W.gtrans ((c.mono up).then_heap (y3m _) λb o U e=>?_) H) r;rw[p.2 b λh=>U<|h▸y0a];show e
theorem zyf(a:Ad)(M:m<iV):SetR 023 a m (λh ks=>SetIs P w h a ks):=⟨λx k=>x.kept k,λ{A E s ks k v Q} is Y x q=>by
 let room:=zea ks [];rw[y1k]at room;apply wpAny_setAddHashed_of (knd:=mixKind P w) is (zyi is) x 00 λh' p O=>q h' _ p ?_;unfold SetIs;rw[zhr];apply SetOf_congr O (λk'=>?_) ?_
 .by_cases c:k∈onceK [] ks
  .rw[Xq c];by_cases e:k'=k
   .subst e;simp[c]
   .simp[e]
  .rw[Xp c];simp[y1c]
 .by_cases c:k∈onceK [] ks
  .rw[Xq c];simp[c]
  .rw[Xp c];simp[c]⟩
end
section
variable {P:ik}{w:World}{A:io}{E:Y0}{s:ig}
set_option maxHeartbeats 3200000 in
theorem zq4{T:Type}[DecidableEq T]{knd:PySem.KeyKind P w T}{Rp:Heap->List T->Prop}{Lp:Bool->Prop}{l:Ad}{its:Array Va}{ks:List T}{Q:Y0}(hh:A.handled=B)(hl:s.heap.IsList l its)(hk:ks.length=its.size)(hi:∀(i:Nat) v k,its[i]?=G v->ks[i]?=G k->knd.is k v=N)
  (SR:SetR knd s.heap.objs.size (its.size+1) Rp) (fresh:∀(h:Heap) led,Lp led->h.get? s.heap.objs.size=G {cls:=.type "set",dict:=B,data:=.set #[] 0 (.fresh 0 0 led)}->Rp h [])
  (nw:∀{A:io},jc 78 A (.call (.builtin "set.__new__") ⟨[.type "set",.ref l],[]⟩) (wants (λobj s1=>∃led:Bool,Lp led/\obj=.ref s.heap.objs.size/\s1={s with heap:=s.heap.push {cls:=.type "set",dict:=B,data:=.set #[] 0 (.fresh 0 0 led)} }) E) s)
  (h:∀(h':Heap) (tk:Nat),Rp h' ks->067->Q 011 {s with heap:=h',toks:=tk}) :
  wpAny 78 A (call (.type "set") [.ref l]) Q E s:=by
 let(c,tl,hmro):=F.called_set.mro;let made:=F.called_set.made;let sub:=F.called_set.sub;apply ji<|jq (ib ⟨Code.quiet_builtin _ 21,iD F.entry_type_call ?_⟩);rw[Around.under_plain (weight_type_call_type "set" [.ref l] []) rfl];let a1:=F.called_set.notType;let a2:=F.called_set.canCreate;let a3:=F.typeCall_set_1<|.ref l
 repeat (any_goals (first|assumption|wp_step))
 apply iI nw λr s1 hr=>?_;cases r with
 |error e=>show hr
 |ok fl =>
  cases fl with
  |ret obj =>
   let(led,lp,rfl,rfl):=hr;let at0:(061).get? s.heap.objs.size=G {cls:=.type "set",dict:=B,data:=.set #[] 0 (.fresh 0 0 led)}:=y0b _ rfl;let ty:Shared.TypeIs {s with heap:=s.heap.push {cls:=.type "set",dict:=B,data:=.set #[] 0 (.fresh 0 0 led)} } (.ref s.heap.objs.size) "set":=⟨_,at0,R⟩;let i1:=F.called_set.init.lookup;let i2:=F.called_set.init.bind 011
   repeat (any_goals (first|assumption|wp_step))
   apply iI (j0 («R»:=wants (λr s2=>r=.none/\∃h' tk,s2={s with heap:=h',toks:=tk}/\Rp h' ks/\
     067) E) F.called_set.init.plain F.entry_set_init (check_set_init_1 ty ?_)) λr2 s2 hr2=>?_
   .let(ol,ho,hc,nl,hd):=hl;let(oc,od,oda,osl):=ol;simp only at hc hd;subst hc;subst hd;let ho':(061).get? l=G {cls:=.type "list",dict:=od,data:=.seq its nl,slots:=osl}:=y04 _ ho;let b1:=F.sub_list_set;let b2:=F.sub_list_frozenset;let b3:(Va.type "list"==Va.type "dict")=Fa:=by decide
    let hl1:(061).IsList l its:=⟨_,ho',R,nl,R⟩;unfold Builtin.«set.__init__» noKeywords Builtin.Frozenset.updateFrom;generalize hPI:jV=PI
    wp_walk
    subst hPI;apply jb hl1 ?_;apply ia<|wpAny_runValue ?_;let ll:l<s.heap.objs.size:=y0c ho;let h3:A.in1.in1.in1.handled=B:=by simp[hh]
    let ne:l≠(061).objs.size:=by rw[y18];show y0j<|y2u ll
    let nf:s.heap.objs.size∉[(061).objs.size,l]:=by
     rw[y18];intro z;rcases y09.mp z with z|z
     .exact Xa z<|y0j (y2p _)
     .exact Xa (y0l.mp z)<|y29 ll
    apply zo1 ((Walks.list h3 _ l ne its).toS) s.heap.objs.size SR nf ks hk (λi v pv k e=>hi i v k pv e) (its.size-0) 0 _ 00 (y13 _) ⟨⟨_,y0b _ R,R,R⟩,(hl1.push _)⟩ ?x0 ?q0
    case x0 =>
     apply SR.kept (h:=s.heap.push {cls:=.type "set",dict:=B,data:=.set #[] 0 (.fresh 0 0 led)}) ?_ λo e=>y04 _ e;rw[y48];show fresh _ led lp at0
    case q0 =>
     intro s' mv x';let(h',g',d',tk',os'):=s';let eg:g'=s.gens:=mv.gens;let ed:d'=s.drawn:=mv.drawn;let eo:os'=s.os:=mv.os;subst eg;subst ed;subst eo;apply ib<|ib ⟨R,h',tk',R,x',λb o hb e=>mv.heap b o ?_<|y04 _ (y04 _ e)⟩;rw[y18];intro z;rcases y09.mp z with z|z
     .exact Xa z<|y0j hb
     .exact Xa (y0l.mp z)<|y0j (y2u hb)
   .cases r2 with
    |error e=>show hr2
    |ok f2 =>
     cases f2 with
     |ret r =>
      let(rfl,h',tk,rfl,x',k'):=hr2
      repeat (any_goals (first|assumption|wp_step))
      show h _ _ x' k'
     |_=>show hr2.elim
  |_=>show hr.elim
theorem zlw{its:Array Va}{ks:List Key}(H:A.handled=B)(Y:s.heap.IsList l its)(M:ks.length=its.size)(hi:∀(i:Nat) v k,its[i]?=G v->ks[i]?=G k->(023).is k v=N)
  (U:its.size+1<iV)
  (h:∀(h':Heap) (J:Nat),SetIs P w h' s.heap.objs.size ks->067->Q 011 {s with heap:=h',toks:=J}) :
  wpAny 78 A (call (.type "set") [.ref l]) Q E s :=
 zq4 (Lp:=λ_=>True) H Y M hi (zyf _ U) (λh led _ a=>SetOf_congr ((setObjOf_fresh (knd:=mixKind P w) led).setOf a<|by unfold iV;omega) (λ_=>rfl) R) (code_set_new_1 (.ref l) λled=>⟨led,trivial,R,R⟩) h
end
noncomputable def setK(P:ik)(w:World)(a:Ad)(ks:List Key):HO:=.ext λh=>SetIs P w h a ks
theorem zm1(hc:X.calm=N):CallR X (.type "set") (λxs H Q=>∃(p:Ad) (ks:List Key),xs=[.ref p]/\SqL X.K H p (ks.map kV)/\ks.length<=1000/\∀a,H a=B->Q 07 (upd H a<|setK X.prog X.w a ks)):=by
 intro pins s σ H xs us Q I r h;let(p,ks,rfl,O,hz,q):=h;let(u,rfl,T):=vals1 r;cases(show u=Va.ref p from T);let(vs,d,f,_):=I.list O;let j:=d.length;rw[y01]at j;apply zlw (ks:=ks) 021 f.isList (by rw[y06];show j) (λi v k g C=>?_) (by rw[y06];unfold iV;omega) λh' z x k=>?_
 .let w:vs[i]?=G v:=by simpa using g
  let(u,e,q):=d.get (i:=i) (x:=kV k) (by rw[y03,C];rfl);rw[w]at e;cases e;show zsu q
 .refine⟨.ref s.heap.objs.size,_,I.laid (t':=z) (λb u e=>k b u (y0c e) e) 08 ?_,R,q _ I.fresh⟩;let(o,l,ep,t,D,rest):=id x;show⟨x,⟨o,D⟩,λL J c A=>c.kept A⟩
theorem zjj:CallR X (.builtin "len") (λxs H Q=>∃(p:Ad) (ks:List Key),xs=[.ref p]/\H p=G (setK X.prog X.w p ks)/\ks.length<=1000/\Q (.int ((onceK [] ks).length:Int)) H):=by
 intro pins s σ H xs us Q I r h;let(p,ks,rfl,O,hz,q):=h;let(u,rfl,g):=vals1 r;cases(show u=Va.ref p from g);let(x,_):=I.hok p _ O;let(o,l,ep,t,D,a,hd,_,_,_,T,J):=x;let room:=zea ks [];rw[y1k]at room;apply call_len_set D a hd T (by rw[J];omega) ?_;rw[J];show⟨.int _,H,I.tok _,⟨_,R⟩,q⟩
structure New(H:Hp)(p:Ad)(o:HO)(H':Hp):Prop where
 nil:H p=B
 g:Same H H'
 at':H' p=G o
 eq:H'=upd H p o
theorem New.mk'(h:H p=B)(o:HO):New H p o (upd H p o):=⟨h,zba h o,zar,R⟩
theorem New.lst{K:Frag}{H H':Hp}{p:Ad}{xs:List V}(n:New H p 91 H'):SqL K H' p xs:=.of n.at'
theorem Same.wr(g:Same H H')(h:H p=B)(o:HO):Same H (upd H' p o):=λb u e=>by rw[zam<|zav e h];show g b u e
section
variable {X:Cx}{e:Expr}{es:List Expr}{t:TA}{pos:Pos}
def tTupN(t:TA):TE:=λσ H Q=>t σ H λxs H1=>xs.length<=ii/\∀p H',New H1 p 98 H'->Q 09 H'
def tLstN(t:TA):TE:=λσ H Q=>t σ H λxs H1=>xs.length<=ii/\∀p H',New H1 p 91 H'->Q 09 H'
theorem zay(h:PA X es t):PE X (.Tuple es c pos) (tTupN t):=by
 intro pins s σ H Q I A;apply wpAny_Tuple_spliced<|thn (h pos pins s σ H _ I A) λus s1 ⟨xs,H1,I1,r,z,q⟩=>⟨by rw[←r.length];show z,?_⟩;apply⟨.ref s1.heap.objs.size,upd H1 s1.heap.objs.size 98,I1.laid (t':=s1.toks) (λb u e=>y04 _ e) 08 ?_,R,q _ _<|.mk' I1.fresh _⟩;show⟨z,us,r,⟨_,y0b _ R,R,_,R⟩⟩
theorem zax(h:PA X es t):PE X (.List es pos) (tLstN t):=by
 intro pins s σ H Q I A;apply wpAny_List_spliced<|thn (h pos pins s σ H _ I A) λus s1 ⟨xs,H1,I1,r,z,q⟩=>⟨by rw[←r.length];show z,?_⟩;apply⟨.ref s1.heap.objs.size,upd H1 s1.heap.objs.size 91,I1.laid (t':=s1.toks) (λb u e=>y04 _ e) 08 ?_,R,q _ _<|.mk' I1.fresh _⟩;show⟨z,us,0,r,y0b _ R⟩
def rSlLN(K:Frag):V->Option Int->Option Int->Hp->VK->Prop:=λx lo hi H Q=>∃a xs,x=.ref a/\SqL K H a xs/\∀p H',New H p (.lst<|cutL xs lo hi) H'->Q 09 H'
theorem zux:SlR X (rSlLN X.K):=λpins s σ H x v M vu lo hi Y Q I T hs f J h=>by
 let(a,xs,e,O,q):=h;show zyd pins s σ H x v M vu lo hi Y Q I T hs f J ⟨a,xs,e,O,λp E=>q p _<|.mk' E _⟩
def rCatN:R2:=λx y H Q=>∃l b xs zs,x=.ref l/\y=.ref b/\H l=G 91/\H b=G (.lst zs)/\xs.length+zs.length<=ii/\∀p H',New H p (.lst<|xs++zs) H'->Q 09 H'
theorem op_catN:OpR X (iF .Add) rCatN:=λpins s σ H x y v u Q I T O h=>by
 let(l,b,xs,zs,g,C,L,J,hz,q):=h;show op_cat pins s σ H x y v u Q I T O ⟨l,b,xs,zs,g,C,L,J,hz,λp E=>q p _<|.mk' E _⟩
theorem zji:CallR X (.type "list") (λxs H Q=>∃p ys,xs=[.ref p]/\(SqL X.K H p ys\/SqT X.K H p ys)/\∀l H',New H l 50 H'->Q (.ref l) H'):=λpins s σ H xs us Q I r h=>by
 let(p,ys,e,A,q):=h;show zlb pins s σ H xs us Q I r ⟨p,ys,e,A,λl a=>q l _<|.mk' a _⟩
theorem zau:CallR X (.type "tuple") (λxs H Q=>∃p ys,xs=[.ref p]/\((SqL X.K H p ys/\∀l H',New H l (.tup ys) H'->Q (.ref l) H')\/(SqT X.K H p ys/\Q 09 H))):=λpins s σ H xs us Q I r h=>by
 let(p,ys,e,A):=h;apply zje pins s σ H xs us Q I r ⟨p,ys,e,?_⟩;rcases A with⟨L,q⟩|L
 .exact .inl ⟨L,λl a=>q l _<|.mk' a _⟩
 .exact .inr L
theorem zk9(C:X.calm=N):CallR X (.type "set") (λxs H Q=>∃(p:Ad) (ks:List Key),xs=[.ref p]/\SqL X.K H p (ks.map kV)/\ks.length<=1000/\∀a H',New H a (setK X.prog X.w a ks) H'->Q 07 H'):=λpins s σ H xs us Q I r h=>by
 let(p,ks,e,O,hz,q):=h;show zm1 C pins s σ H xs us Q I r ⟨p,ks,e,O,hz,λa c=>q a _<|.mk' c _⟩
end
section
variable {tn:List Str}{cp:Y6}{g:TG}{tif:TT}{te:TE}{σ0:St}{Q:VK}{H1:Hp}{K:Frag}{a:Ad}{xs:List V}
def PMap(S:St->Prop)(f:V->V)(xs:List V)(H1:Hp)(i:Nat)(ys:List V)(σ:St)(H:Hp):Prop:=Same H1 H/\S σ/\ys=(xs.take i).map f
theorem zd3(S:St->Prop)(f:V->V)(I:xs.length<=1000)(j:SqL K H1 a xs)(w:S 031)
  (hs:∀D i σ H x,i<xs.length->x∈xs->xs[i]?=G x->Same H1 H->H1 D=B->H D=G (.lst<|(xs.take i).map f)->S σ->g x σ H λd H2=>tif d H2 λc H3 =>
   if c=N then te d H3 λy H4=>CStep D xs.length i (PMap S f xs H1) d y H4 else CSkip D xs.length i (PMap S f xs H1) d H3)
  (hd:∀D H,H1 D=B->Same H1 H->H D=G (.lst<|xs.map f)->Q 65 H):cBody tn cp g tif te σ0 Q (Itl K a) H1:=by
 apply zjd (K:=K) (a:=a) (xs:=xs) (λD i ys σ H=>PMap S f xs H1 i ys σ H) (zaf I) (λD u=>⟨zba u _,w,R⟩) (λD i ys σ H _ _ _ p=>p.1.seq j) ?_ ?_
 .rintro D i ys σ H x u hi O A Y ⟨r,M,rfl⟩;show hs D i σ H x hi (y0n O) O r u A M
 .rintro D ys σ H u A Y ⟨r,M,rfl⟩;rw[y0h 08]at A;show hd D H u r A
theorem zfa(S:St->Prop)(f:V->V)(I:xs.length<=1000)(j:SqT K H1 a xs)(w:S 031)
  (hs:∀D i σ H x,i<xs.length->x∈xs->xs[i]?=G x->Same H1 H->H1 D=B->H D=G (.lst<|(xs.take i).map f)->S σ->g x σ H λd H2=>tif d H2 λc H3 =>
   if c=N then te d H3 λy H4=>CStep D xs.length i (PMap S f xs H1) d y H4 else CSkip D xs.length i (PMap S f xs H1) d H3)
  (hd:∀D H,H1 D=B->Same H1 H->H D=G (.lst<|xs.map f)->Q 65 H):cBody tn cp g tif te σ0 Q (Itt K a) H1:=by
 apply zxy (K:=K) (a:=a) (xs:=xs) (λD i ys σ H=>PMap S f xs H1 i ys σ H) (zaf I) (λD u=>⟨zba u _,w,R⟩) (λD i ys σ H _ _ _ p=>p.1.seqT j) ?_ ?_
 .rintro D i ys σ H x u hi O A Y ⟨r,M,rfl⟩;show hs D i σ H x hi (y0n O) O r u A M
 .rintro D ys σ H u A Y ⟨r,M,rfl⟩;rw[y0h 08]at A;show hd D H u r A
theorem zbo(I:xs.length<=1000)(O:xs[i]?=G x)(u:H1 D=B)(C:H4 D=G (.lst<|(xs.take i).map f))(r:Same H1 H4)(s2:S d)(e:y=f x):
  CStep D xs.length i (PMap S f xs H1) d y H4:=by
 let hi:i<xs.length:=(y0g.mp O).1;apply cstep (zaf I) hi C (by rw[y01,y0w];omega) ⟨r.wr u _,s2,?_⟩;rw[y19,O,y0v,e];rfl
def PFil(S:St->Prop)(p:V->Bool)(f:V->V)(xs:List V)(H1:Hp)(i:Nat)(ys:List V)(σ:St)(H:Hp):Prop:=Same H1 H/\S σ/\ys=((xs.take i).filter p).map f
theorem cf_tup(S:St->Prop)(p:V->Bool)(f:V->V)(I:xs.length<=1000)(j:SqT K H1 a xs)(w:S 031)
  (hs:∀D i σ H x,i<xs.length->x∈xs->xs[i]?=G x->Same H1 H->H1 D=B->H D=G (.lst<|((xs.take i).filter p).map f)->S σ->g x σ H λd H2=>tif d H2 λc H3 =>
   if c=N then te d H3 λy H4=>CStep D xs.length i (PFil S p f xs H1) d y H4 else CSkip D xs.length i (PFil S p f xs H1) d H3)
  (hd:∀D H,H1 D=B->Same H1 H->H D=G (.lst<|(xs.filter p).map f)->Q 65 H):cBody tn cp g tif te σ0 Q (Itt K a) H1:=by
 apply zxy (K:=K) (a:=a) (xs:=xs) (λD i ys σ H=>PFil S p f xs H1 i ys σ H) (zaf I) (λD u=>⟨zba u _,w,R⟩) (λD i ys σ H _ _ _ p=>p.1.seqT j) ?_ ?_
 .rintro D i ys σ H x u hi O A Y ⟨r,M,rfl⟩;show hs D i σ H x hi (y0n O) O r u A M
 .rintro D ys σ H u A Y ⟨r,M,rfl⟩;rw[y0h 08]at A;show hd D H u r A
theorem cf_step(I:xs.length<=1000)(O:xs[i]?=G x)(E:p x=N)(u:H1 D=B)(C:H4 D=G (.lst<|((xs.take i).filter p).map f))(r:Same H1 H4)(s2:S d)(e:y=f x):
  CStep D xs.length i (PFil S p f xs H1) d y H4:=by
 let hi:i<xs.length:=(y0g.mp O).1;apply cstep (zaf I) hi C ?_ ⟨r.wr u _,s2,?_⟩
 .rw[y01];let:=y1y p<|xs.take i;rw[y0w]at this;omega
 .rw[y19,O,y1z,y0v,e];simp[E]
theorem zt2(O:xs[i]?=G x)(E:p x=Fa)(U:H3 D=G (.lst<|((xs.take i).filter p).map f))(g3:Same H1 H3)(s2:S d):
  CSkip D xs.length i (PFil S p f xs H1) d H3:=by
 let hi:i<xs.length:=(y0g.mp O).1;apply cskip hi U ?_ ⟨g3,s2,?_⟩
 .rw[y01];let:=y1y p<|xs.take i;rw[y0w]at this;omega
 .rw[y19,O,y1z];simp[E]
end
section
variable {X:Cx}{k:Nat}{H:Hp}{a b:Ad}{xs ys:List V}
theorem eqV_str(a b:Str):eqV (.str a) (.str b)=decide (a=b):=by
 by_cases h:a=b
 .subst h;simp[eqV]
 .simp[eqV,h]
theorem zgl(xs:List Str):(xs.map V.str).all flatV=N:=by
 rw[y0u];intro x O;let(z,_,rfl):=y0e.mp O;rfl
def rEqS(K:Frag):R2:=λx y H Q=>∃(a b:Ad) (xs ys:List Str),x=.ref a/\y=.ref b/\SqL K H a (xs.map V.str)/\SqL K H b (ys.map V.str)/\Q (.bl<|decide (xs=ys)) H
def rNeS(K:Frag):R2:=λx y H Q=>∃(a b:Ad) (xs ys:List Str),x=.ref a/\y=.ref b/\SqL K H a (xs.map V.str)/\SqL K H b (ys.map V.str)/\Q (.bl<|!decide (xs=ys)) H
theorem zvd(d:SqL X.K H a xs)(U:SqL X.K H b []):RcOk X (k+1) H 07 47 (decide (xs=[])):=by
 cases xs with
 |nil =>
  let r:=zhl (k:=k) d U R (λ_=>N) λj L _=>by simp at L
  show r
 |cons x r=>show zkc d U 06
def rSlTN(K:Frag):V->Option Int->Option Int->Hp->VK->Prop:=λx lo hi H Q=>∃a xs,x=.ref a/\SqT K H a xs/\
 ¬(HT.sIx xs.length 0 lo=0/\HT.sIx xs.length xs.length hi=xs.length)/\∀p H',New H p (.tup<|cutL xs lo hi) H'->Q 09 H'
theorem zyc:SlR X (rSlTN X.K):=λpins s σ H x v M vu lo hi Y Q I T hs f J h=>by
 let(a,xs,e,O,j,q):=h;show sl_tup pins s σ H x v M vu lo hi Y Q I T hs f J ⟨a,xs,e,O,j,λp E=>q p _<|.mk' E _⟩
def rStrB(f:Str->Bool):V->List V->Hp->VK->Prop:=λx vs H Q=>∃z,x=.str z/\vs=[]/\Q (.bl<|f z) H
end
section
variable {K:Frag}{h:Heap}{mg:Y1}
theorem glt_mk(X:K.In h)(Gq:h.Ns ir mg)(a:PySem.W.nsIn K ir x=G (G 09))
  (l:K.lookup p=G ⟨.type "tuple",j,.seq its n,Y⟩) (z:its.size<=ii) (r:Vals xs its.toList):∃q,GlV mg x (.ref q)/\∀H,SqT K H q xs :=
 ⟨p,⟨_,PySem.W.mg_of X Gq a,R⟩,λH=>.inr ⟨_,its,n,l,R,R,z,r⟩⟩
end
section
variable {X:Cx}(K:Frag)
theorem zpe(h:X.K=K:=by rfl):OpR X (i4 .In) (rIn K Fa):=h▸zrz
theorem ziu(h:X.K=K:=by rfl):OpR X (i4 .NotIn) (rIn K N):=h▸zkn
theorem zbc(h:X.K=K:=by rfl):IxR X (rIxL K):=h▸ix_list
theorem zah(h:X.K=K:=by rfl):IxR X (rIxT K):=h▸ix_tup
theorem zq2(h:X.K=K:=by rfl):SlR X (rSlLN K):=h▸zux
theorem zuw(h:X.K=K:=by rfl):SlR X (rSlTN K):=h▸zyc
def rLen:List V->Hp->VK->Prop:=λxs H Q=>∃p ys,xs=[.ref p]/\(SqL K H p ys\/SqT K H p ys)/\Q (.int<|List.length ys) H
theorem zen(h:X.K=K:=by rfl):CallR X (.builtin "len") (rLen K):=h▸zld
def rAll:List V->Hp->VK->Prop:=λxs H Q=>∃(p:Ad) (bs:List Bool),xs=[.ref p]/\SqL K H p 016/\Q (.bl<|bs.all id) H
theorem zlh(C:X.calm=N)(h:X.K=K:=by rfl):CallR X (.builtin "all") (rAll K):=h▸zm5 C
def rAny:List V->Hp->VK->Prop:=λxs H Q=>∃(p:Ad) (bs:List Bool),xs=[.ref p]/\SqL K H p 016/\Q (.bl<|bs.any id) H
theorem zlg(C:X.calm=N)(h:X.K=K:=by rfl):CallR X (.builtin "any") (rAny K):=h▸zm4 C
def rSum:List V->Hp->VK->Prop:=λxs H Q=>∃(p:Ad) (ns:List Int),xs=[.ref p]/\SqL K H p 025/\Q (.int ns.sum) H
theorem zem(C:X.calm=N)(h:X.K=K:=by rfl):CallR X (.builtin "sum") (rSum K):=h▸zk7 C
def rListOf:List V->Hp->VK->Prop:=λxs H Q=>∃p ys,xs=[.ref p]/\(SqL K H p ys\/SqT K H p ys)/\∀l H',New H l 50 H'->Q (.ref l) H'
theorem zg4(h:X.K=K:=by rfl):CallR X (.type "list") (rListOf K):=h▸zji
theorem za2(Y:PE X l tl)(h:X.K=K:=by rfl):PI X r l (iList K tl):=h▸zyw Y
theorem zbw(Y:PE X l tl)(h:X.K=K:=by rfl):PI X r l (iTup K tl):=h▸pi_tup Y
variable {o e:Expr}{es:List Expr}{to:TE}{t:TA}{name:Str}{apos cpos:Pos}{T id:String}{r:V->List V->Hp->VK->Prop}
theorem zy3(pa:PlainAttrs T)(slot:Slot T name id)(C:typeOf (.builtin id)=pure (.type "method_descriptor"))(M:MtR X id r)(D:PE X o to)(h:X.K=K:=by rfl)
  (g:attributeBase o name X.env (eval o X.env)=eval o X.env:=by rfl) (f:(apos.endLine==cpos.line)=N:=by rfl):PE X (.Call (.Attribute o name apos) [] [] cpos) (tBM0 K T r to):=h▸pe_bm0 pa slot C M D g f
theorem zbq(pa:PlainAttrs T)(slot:Slot T name id)(C:typeOf (.builtin id)=pure (.type "method_descriptor"))(M:MtR X id r)(D:PE X o to)(d:PA X (e::es) t)(h:X.K=K:=by rfl)
  (g:attributeBase o name X.env (eval o X.env)=eval o X.env:=by rfl)
  (u:((jh cpos<|iq (e::es) X.env).all (λx=>!x.1)&&(backToKw cpos<|keywordEach [] X.env).all (λx=>x.1.isSome)
   && decide ((e::es).length+([]:List jW).length+(if([]:List jW).isEmpty then 0 else 1)<30))=N:=by rfl)
  (f:(apos.endLine==cpos.line)=N:=by rfl) (L:notStar e=N:=by rfl) (J:es.all notStar=N:=by rfl) :
  PE X (.Call (.Attribute o name apos) (e::es) [] cpos) (tBM K T r to t):=h▸pe_bm pa slot C M D d g u f (zap L) (zbh J)
end
section
variable {P:ik}{w:World}{A:io}{E:Y0}{s:ig}
theorem zml(st:s.heap.IsTupleIter j t k)(c:s.heap.IsTuple t its)(U:its[k]?=G y)
  (q:∀h',h'.IsTupleIter j t (k+1)->Heap.SameBut j s.heap h'->Q y {s with heap:=h'}):wpAny (model P w) A (Builtin.SmallTypes.nextOf<|.ref j) Q E s:=by
 let(i,f,g,d):=id st;let(r,l,_,p,L):=c;unfold Builtin.SmallTypes.nextOf;apply ia<|i7 (name:=Str.ofString "__next__") st.typeIs F.slot_tuple_iterator_next (i0 F.slot_tuple_iterator_next st.typeIs F.entry_tuple_iterator_next ?_<|F.args_tuple_iterator_next_1 _);change wpAny _ _ (field (.ref j) 0>>=_) _ _ s;apply ia<|iB f d (x:=.ref t) R ?_;change wpAny _ _ (if(Va.ref t==Va.none)=N then _ else _) _ _ s;rw[Xp<|show¬(Va.ref t==Va.none)=N from y0f];change wpAny _ _ (field (.ref j) 1>>=_) _ _ s;apply ia<|iB f d (x:=.int k 0) R ?_;change wpAny _ _ (seqItems? (.ref t)>>=_) _ _ s;apply ia<|iC l L ?_;simp only[y1m,U];apply ia<|iG f d 06 (ib ⟨y,R,ib<|q _ ?_ (Heap.SameBut.update ..)⟩);show⟨_,y1g _ f<|Obj.isFreed_of_fields (Obj.data_mapFields d _),(Obj.cls_mapFields ..).trans g,by rw[Obj.data_mapFields d];simp[i9]⟩
theorem zps(H:A.handled=B)(st:s.heap.IsTupleIter j t k)(c:s.heap.IsTuple t its)(U:its[k]?=B)
  (q:∀h' e,Heap.ExtBut j s.heap h'->(∃o,h'.get? e=G o/\o.cls=.type "StopIteration")->E (.ref e) {s with heap:=h'}):wpAny (model P w) A (Builtin.SmallTypes.nextOf<|.ref j) Q E s:=by
 let(i,f,g,d):=id st;let(r,l,_,p,L):=c;unfold Builtin.SmallTypes.nextOf;apply ia<|i7 (name:=Str.ofString "__next__") st.typeIs F.slot_tuple_iterator_next (i0 F.slot_tuple_iterator_next st.typeIs F.entry_tuple_iterator_next ?_<|F.args_tuple_iterator_next_1 _);change wpAny _ _ (field (.ref j) 0>>=_) _ _ s;apply ia<|iB f d (x:=.ref t) R ?_;change wpAny _ _ (if(Va.ref t==Va.none)=N then _ else _) _ _ s;rw[Xp<|show¬(Va.ref t==Va.none)=N from y0f];change wpAny _ _ (field (.ref j) 1>>=_) _ _ s;apply ia<|iB f d (x:=.int k 0) R ?_;change wpAny _ _ (seqItems? (.ref t)>>=_) _ _ s;apply ia<|iC l L ?_;simp only[y1m,U];apply ia<|jm (ia<|iG f d 06 ?_);change wpAny _ _ (newExc (.type "StopIteration") []>>=_) _ _ _;apply ia ?_;simp only[newExc,newTuple];apply ia<|i5 ?_ (by size_fits);apply ia (m:=jD _ _)<|wpAny_of_eq (a:=Va.none) (by simp only[jD];rfl) ?_;apply i5 ?_ (by size_fits);simp only[raiseNew];apply ia<|wpAny_handled ?_;rw[show A.in1.handled=B from H];apply ia<|ib (wpAny_throw<|q _ _ (((Heap.SameBut.update ..).extBut.push _).push _) ⟨_,y0b _ R,R⟩)
end
def IsSq(h:Heap)(l:Bool)(t:Ad)(its:Array Va):Prop:=cond l (h.IsList t its)<|h.IsTuple t its
noncomputable abbrev itn(l:Bool):String:=cond l "list_iterator" "tuple_iterator"
def IsSi(h:Heap)(l:Bool)(j t:Ad)(k:Nat):Prop:=∃o,h.get? j=G o/\o.cls=.type (itn l)/\o.data=.fields #[.ref t,.int k 0]
def SqB(K:Frag)(l:Bool)(H:Hp)(a:Ad)(xs:List V):Prop:=cond l (SqL K H a xs)<|SqT K H a xs
abbrev IsZipF(h:Heap)(z ti ro:Ad)(M f1:Va):Prop:=h.get? z=G {cls:=.type "zip",dict:=B,data:=.fields #[M,f1,.bool Fa,.ref ti,.ref ro],slots:=#[]}
theorem zpx(h:Q (s.heap.get? a) s):wpAny M A (loadIfAlive a) Q E s:=λ_ _ _=>h
structure ZipG(l1 l2:Bool)(h:Heap)(z ti ro j1 j2 t1 t2:Ad)(i:Nat):Prop where
 z:∃f0 f1,IsZipF h z ti ro f0 f1/\(f0=Va.none\/∃a:Ad,f0=i9 a)
 ti:jN h ti (.ref j1)<|.ref j2
 ro:∃a b,jN h ro a b
 j1:IsSi h l1 j1 t1 i
 j2:IsSi h l2 j2 t2 i
section
variable {P:ik}{w:World}{A:io}{E:Y0}{s:ig}{h h':Heap}{l l1 l2:Bool}{z ti ro j1 j2 t1 t2:Ad}{i:Nat}{its its1 its2:Array Va}{a b j t:Ad}
theorem IsSq.at(x:IsSq h l t its)(k:∀o,h.get? t=G o->h'.get? t=G o):IsSq h' l t its:=by cases l<;>show let⟨o,e,r⟩:=x;⟨o,k o e,r⟩
theorem IsSq.ext(x:IsSq h l t its)(k:Heap.ExtBut b h h')(n:t≠b):IsSq h' l t its:=x.at λo e=>k t o n e
theorem IsSq.lt(x:IsSq h l t its):t<h.objs.size:=by cases l<;>show let⟨_,e,_⟩:=x;y0c e
theorem IsSi.at(x:IsSi h l j t i)(k:∀o,h.get? j=G o->h'.get? j=G o):IsSi h' l j t i:=let⟨o,e,r⟩:=x;⟨o,k o e,r⟩
theorem IsSi.ext(x:IsSi h l j t i)(k:Heap.ExtBut b h h')(n:j≠b):IsSi h' l j t i:=x.at λo e=>k j o n e
theorem zix(st:IsSi s.heap l j t i)(c:IsSq s.heap l t its)(U:its[i]?=G y)
  (q:∀h',IsSi h' l j t (i+1)->Heap.SameBut j s.heap h'->Q y {s with heap:=h'}):wpAny (model P w) A (Builtin.SmallTypes.nextOf<|.ref j) Q E s:=by
 cases l
 .exact zml st c U q
 .exact wpAny_nextOf_list_item st c U q
theorem zxj(H:A.handled=B)(st:IsSi s.heap l j t i)(c:IsSq s.heap l t its)(U:its[i]?=B)
  (q:∀h' e,Heap.ExtBut j s.heap h'->(∃o,h'.get? e=G o/\o.cls=.type "StopIteration")->E (.ref e) {s with heap:=h'}):wpAny (model P w) A (Builtin.SmallTypes.nextOf<|.ref j) Q E s:=by
 cases l
 .exact zps H st c U q
 .exact wpAny_nextOf_list_end H st c U q
theorem it_sq(x:IsSq s.heap l t its)(q:Q 011 {s with heap:=s.heap.push {cls:=.type<|itn l,data:=.fields #[.ref t,.int 0 0]} }):wpAny (model P w) A (jV<|.ref t) Q E s:=by
 cases l
 .exact wpAny_pyIter_tuple x q
 .exact jb x q
theorem ZipG.move(Z:ZipG l1 l2 h z ti ro j1 j2 t1 t2 i)(k:∀c∈[z,ti,ro,j1,j2],∀o,h.get? c=G o->h'.get? c=G o):ZipG l1 l2 h' z ti ro j1 j2 t1 t2 i :=
 let⟨M,f1,p,T⟩:=Z.z;let⟨u,v,d⟩:=Z.ro
 ⟨⟨M,f1,k z 06 _ p,T⟩,k ti 06 _ Z.ti,⟨u,v,k ro 06 _ d⟩,Z.j1.at λo e=>k j1 06 o e,Z.j2.at λo e=>k j2 06 o e⟩
theorem ZipG.there(Z:ZipG l1 l2 h z ti ro j1 j2 t1 t2 i):∀c∈[z,ti,ro,j1,j2],∃o,h.get? c=G o/\∀v,o.data ≠ .cell v:=λc C=>by
 let(M,f1,p,T):=Z.z;let(u,v,d):=Z.ro;let(Q,g,_,J):=Z.j1;let(H,U,_,I):=Z.j2;simp only[y09,y0o,or_false]at C;rcases C with rfl|rfl|rfl|rfl|rfl
 .exact⟨_,p,λv q=>nomatch q⟩
 .exact⟨_,Z.ti,λv q=>nomatch q⟩
 .exact⟨_,d,λv q=>nomatch q⟩
 .exact⟨_,g,λv q=>by rw[J]at q;cases q⟩
 .exact⟨_,U,λv q=>by rw[I]at q;cases q⟩
theorem ZipG.lt(Z:ZipG l1 l2 h z ti ro j1 j2 t1 t2 i)(C:c∈[z,ti,ro,j1,j2]):c<h.objs.size:=let⟨_,e,_⟩:=Z.there c C;y0c e
theorem zhp(hz:IsZipF s.heap z ti ro M f1)(T:M=Va.none\/∃a:Ad,M=i9 a)(q:∀b h' g1,IsZipF h' z ti ro M g1->Heap.SameBut z s.heap h'->Q b {s with heap:=h'}):
  wpAny 78 A (Builtin.SmallTypes.ownedTupleIsFree<|.ref z) Q E s:=by
 unfold Builtin.SmallTypes.ownedTupleIsFree;apply ia<|iB hz R (x:=M) R ?_;rcases T with rfl|⟨a,rfl⟩
 .exact ib<|q N s.heap f1 hz (Heap.SameBut.refl _ _)
 .change wpAny _ _ (loadIfAlive _>>=_) _ _ _;apply ia<|zpx ?_;cases s.heap.get? (Int.toNat (a:Int))with
  |none =>
   rw[Xq<|show(B:Option Obj).isNone=N from rfl];show ib<|q N s.heap f1 hz (Heap.SameBut.refl _ _)
  |some o =>
   rw[Xp<|show¬(G o:Option Obj).isNone=N from y0f];apply ia<|iB hz R (x:=f1) R ?_;by_cases c:(f1 !=Va.bool N)=N
   .rw[Xq c];show ia<|iN hz 06 λh' y r=>ib<|q Fa h' (.bool N) y r
   .rw[Xp c];show ib<|q Fa s.heap f1 hz (Heap.SameBut.refl _ _)
theorem zx0{x y:Va}{Q:Y0}(D:jE z ti ro j1 j2 t1 t2)(Z:ZipG l1 l2 s.heap z ti ro j1 j2 t1 t2 i)(r:IsSq s.heap l1 t1 its1)(p2:IsSq s.heap l2 t2 its2)(O:its1[i]?=G x)(hy:its2[i]?=G y)
  (q:∀h',ZipG l1 l2 h' z ti ro j1 j2 t1 t2 (i+1)->jN h' s.heap.objs.size x y->h'.objs.size=s.heap.objs.size+1->066->
   Q 011 {s with heap:=h'}):wpAny (model P w) A (Builtin.«zip.__next__» ⟨[.ref z],[]⟩) (λfin s'=>∃v,fin=.done (.ret v)/\Q v s') E s:=by
 let(f0,f1,p,T):=Z.z;let(a,b,hro):=Z.ro;let off:∀{c},c∉[z,ti,ro,j1,j2]->c≠z/\c≠ro/\c≠j1/\c≠j2:=λh=>⟨λe=>h (by simp[e]),λe=>h (by simp[e]),λe=>h (by simp[e]),λe=>h<|by simp[e]⟩;change wpAny _ _ (field (.ref z) 2>>=_) _ _ _;apply ia<|iB p R (x:=.bool Fa) R ?_;change wpAny _ _ (field (.ref z) 3>>=_) _ _ _;apply ia<|iB p R (x:=.ref ti) R ?_;apply ia<|iC Z.ti R ?_;change wpAny _ _ (Builtin.SmallTypes.ownedTupleIsFree (.ref z)>>=_) _ _ _;apply ia<|zhp p T λfree h0 g1 z0 g=>?_;cases free with
 |true =>
  rw[Xq rfl];apply ia<|jm ?_;apply ia<|iB z0 R (x:=.ref ro) R ?_;apply ia<|iN z0 06 λd hza f=>?_;replace hza:IsZipF d z ti ro .ellipsis g1:=hza;let f:=g.trans f;apply ia ?_;simp only[List.zipIdx_cons,List.zipIdx_nil,y2c,y2x];apply ia<|ia (jO ?_);change wpAny _ _ (Builtin.SmallTypes.nextOf (.ref j1)>>=_) _ _ _;apply ia<|zix (Z.j1.ext f.extBut D.i1z) (r.ext f.extBut D.l1z) O λU b1 Y=>ib ?_;let rob:jN U ro a b:=Y.extBut _ _ D.TOi1<|f.extBut _ _ D.TOz hro;apply ia<|iC rob R ?_;apply ia<|wpAny_updateSeq_pair rob λC roc H=>?_;replace roc:jN C ro x b:=roc;apply ia<|jK (ib ?_);apply ia<|ia (jO ?_);change wpAny _ _ (Builtin.SmallTypes.nextOf (.ref j2)>>=_) _ _ _;apply ia<|zix (((Z.j2.ext f.extBut D.i2z).ext Y.extBut D.i12.symm).ext H.extBut D.TOi2.symm) (((p2.ext f.extBut D.l2z).ext Y.extBut D.l2i1).ext H.extBut D.l2TO) hy λhd I u=>ib ?_;let rod:jN hd ro x b:=u.extBut _ _ D.TOi2 roc;apply ia<|iC rod R ?_;apply ia<|wpAny_updateSeq_pair rod λL roe gy=>?_;replace roe:jN L ro x y:=roe;apply ia<|jK (ib<|ib ?_);apply ia<|iC roe R ?_;apply ia<|jZ ?_;let sz:L.objs.size=s.heap.objs.size:=by rw[gy.1,u.1,H.1,Y.1,f.1]
  let ze:IsZipF L z ti ro .ellipsis g1:=gy.extBut _ _ D.TOz.symm<|u.extBut _ _ D.i2z.symm (H.extBut _ _ D.TOz.symm<|Y.extBut _ _ D.i1z.symm hza);let ke:∀c o,c≠z/\c≠ro/\c≠j1/\c≠j2->s.heap.get? c=G o->L.get? c=G o:=λc o ⟨c1,c2,c3,c4⟩ e =>
   gy.extBut _ _ c2 (u.extBut _ _ c4<|H.extBut _ _ c2 (Y.extBut _ _ c3<|f.extBut _ _ c1 e))
  let zlt:z<L.objs.size:=y0c ze;change wpAny _ _ (Builtin.SmallTypes.ownedTupleHandOut (.ref z) (.ref L.objs.size)>>=_) _ _ _;apply ia ?_;unfold Builtin.SmallTypes.ownedTupleHandOut;apply ia<|iN (y04 _ ze) 06 λhg zg hsg=>?_;replace zg:IsZipF hg z ti ro (i9 L.objs.size) g1:=zg;apply iN zg 06 λM zk hsk=>?_;let up:∀c o,c≠z->L.get? c=G o->M.get? c=G o:=λc o c1 e=>hsk.extBut _ _ c1<|hsg.extBut _ _ c1 (y04 _ e);let J:jN M L.objs.size x y:=hsk.extBut _ _ (y29 zlt)<|hsg.extBut _ _ (y29 zlt) (y0b _ R);let gv:M.objs.size=L.objs.size+1:=by rw[hsk.1,hsg.1,y18]
  rw[sz]at J gv;apply ib ⟨_,R,?_⟩;change Q (.ref L.objs.size) _;rw[sz];show q M ⟨⟨_,_,zk,.inr ⟨_,R⟩⟩,up _ _ D.TIz<|ke _ _ ⟨D.TIz,D.TITO,D.TIi1,D.TIi2⟩ Z.ti,⟨_,_,up _ _ D.TOz roe⟩,(((b1.ext H.extBut D.TOi1.symm).ext u.extBut D.i12).ext gy.extBut D.TOi1.symm).at λo e=>up _ o D.i1z e,(I.ext gy.extBut D.TOi2.symm).at λo e=>up _ o D.i2z e⟩ J gv
   λc o n e=>up c o (off n).1<|ke c o (off n) e
 |false =>
  rw[Xp y0f];apply ia ?_;rw[←Array.forIn_toList];simp only[y2c,y2x];apply ia<|ia (im ?_);change wpAny _ _ (Builtin.SmallTypes.nextOf (.ref j1)>>=_) _ _ _;apply ia<|zix (Z.j1.ext g.extBut D.i1z) (r.ext g.extBut D.l1z) O λU b1 Y=>ib ?_;apply ib ?_;apply ia<|ia (im ?_);change wpAny _ _ (Builtin.SmallTypes.nextOf (.ref j2)>>=_) _ _ _;apply ia<|zix ((Z.j2.ext g.extBut D.i2z).ext Y.extBut D.i12.symm) ((p2.ext g.extBut D.l2z).ext Y.extBut D.l2i1) hy λhd I u=>ib ?_;apply ib<|ib ?_;apply ia<|jZ ?_ (show(2:Nat)<=ii by decide);let sz:hd.objs.size=s.heap.objs.size:=by rw[u.1,Y.1,g.1]
  let J:jN (hd.push {cls:=.type "tuple",data:=.seq #[x,y]}) hd.objs.size x y:=y0b _ rfl;let gv:(hd.push {cls:=.type "tuple",data:=.seq #[x,y]}).objs.size=hd.objs.size+1:=y18 ..;rw[sz]at J gv;apply ib ⟨_,R,?_⟩;change Q (.ref hd.objs.size) _;rw[sz];let ke:∀c o,c≠z/\c≠j1/\c≠j2->s.heap.get? c=G o->(hd.push {cls:=.type "tuple",data:=.seq #[x,y]}).get? c=G o:=λc o n e =>
   y04 _ (u.extBut _ _ n.2.2<|Y.extBut _ _ n.2.1 (g.extBut _ _ n.1 e))
  show q _ ⟨⟨_,_,y04 _<|u.extBut _ _ D.i2z.symm (Y.extBut _ _ D.i1z.symm z0),T⟩,ke _ _ ⟨D.TIz,D.TIi1,D.TIi2⟩ Z.ti,⟨_,_,ke _ _ ⟨D.TOz,D.TOi1,D.TOi2⟩ hro⟩,(b1.ext u.extBut D.i12).at λo e=>y04 _ e,I.at λo e=>y04 _ e⟩ J gv
   λc o n e=>ke c o ⟨(off n).1,(off n).2.2⟩ e
theorem zn_end(H:A.handled=B)(D:jE z ti ro j1 j2 t1 t2)(Z:ZipG l1 l2 s.heap z ti ro j1 j2 t1 t2 i)(r:IsSq s.heap l1 t1 its1)(O:its1[i]?=B)
  (q:∀h' e,066->(∃o,h'.get? e=G o/\o.cls=.type "StopIteration")->E (.ref e) {s with heap:=h'}):wpAny (model P w) A (Builtin.«zip.__next__» ⟨[.ref z],[]⟩) Q E s:=by
 let(M,f1,p,T):=Z.z;change wpAny _ _ (field (.ref z) 2>>=_) _ _ _;apply ia<|iB p R (x:=.bool Fa) R ?_;change wpAny _ _ (field (.ref z) 3>>=_) _ _ _;apply ia<|iB p R (x:=.ref ti) R ?_;apply ia<|iC Z.ti R ?_;change wpAny _ _ (Builtin.SmallTypes.ownedTupleIsFree (.ref z)>>=_) _ _ _;apply ia<|zhp p T λfree h0 g1 y g=>?_;cases free with
 |true =>
  rw[Xq rfl];apply ia<|jm ?_;apply ia<|iB y R (x:=.ref ro) R ?_;apply ia<|iN y 06 λd u f=>?_;replace u:IsZipF d z ti ro .ellipsis g1:=u;let f:=g.trans f;apply ia ?_;simp only[List.zipIdx_cons,List.zipIdx_nil,y2c,y2x];apply ia<|ia (jO ?_);change wpAny _ _ (Builtin.SmallTypes.nextOf (.ref j1)>>=_) _ _ _;apply ia<|zxj H (Z.j1.ext f.extBut D.i1z) (r.ext f.extBut D.l1z) O λU e Y ⟨v,I,L⟩=>?_;let J:IsZipF U z ti ro .ellipsis g1:=Y _ _ D.i1z.symm u;let nez:e≠z:=λz'=>by
   subst z';rw[J]at I;cases I;simp at L
  apply iN J 06 λC _ hsc=>?_;show q _ _ (λc o n x=>hsc.extBut _ _ (λe=>n<|by simp[e])<|Y _ _ (λe=>n<|by simp[e]) (f.extBut _ _ (λe=>n<|by simp[e]) x)) ⟨v,hsc.extBut _ _ nez I,L⟩
 |false =>
  rw[Xp y0f];apply ia ?_;rw[←Array.forIn_toList];simp only[y2c,y2x];apply ia<|ia (im ?_);change wpAny _ _ (Builtin.SmallTypes.nextOf (.ref j1)>>=_) _ _ _;apply ia<|zxj H (Z.j1.ext g.extBut D.i1z) (r.ext g.extBut D.l1z) O λU e Y ex=>?_;show q _ _ (λc o n x=>Y _ _ (λe=>n<|by simp[e])<|g.extBut _ _ (λe=>n<|by simp[e]) x) ex
theorem zql(D:jE z ti ro j1 j2 t1 t2)(Z:ZipG l1 l2 s.heap z ti ro j1 j2 t1 t2 i)(r:IsSq s.heap l1 t1 its1)(M:IsSq s.heap l2 t2 its2)(O:its1[i]?=G x)(U:its2[i]?=G y)
  (q:∀h',ZipG l1 l2 h' z ti ro j1 j2 t1 t2 (i+1)->jN h' s.heap.objs.size x y->h'.objs.size=s.heap.objs.size+1->066->
   Q (G 011) {s with heap:=h'}):wpAny (model P w) A (j6<|.ref z) Q E s:=by
 let u:s.TypeIs (.ref z) "zip":=let⟨_,_,p,_⟩:=Z.z;⟨_,p,R⟩;unfold j6;show ia<|jP (i7 (name:=Str.ofString "__next__") u F.slot_zip_next<|i0 F.slot_zip_next u F.entry_zip_next (zx0 D Z r M O U λh' a b c d=>ib<|q h' a b c d) (F.args_zip_next_1 _))
theorem zw9(H:A.handled=B)(D:jE z ti ro j1 j2 t1 t2)(Z:ZipG l1 l2 s.heap z ti ro j1 j2 t1 t2 i)(r:IsSq s.heap l1 t1 its1)(O:its1[i]?=B)
  (q:∀h',066->Q B {s with heap:=h'}):wpAny (model P w) A (j6<|.ref z) Q E s:=by
 let u:s.TypeIs (.ref z) "zip":=let⟨_,_,p,_⟩:=Z.z;⟨_,p,R⟩;unfold j6;apply ia<|jP (i7 (name:=Str.ofString "__next__") u F.slot_zip_next<|i0 F.slot_zip_next u F.entry_zip_next (zn_end H D Z r O λh' e k ⟨v,I,L⟩=>?_) (F.args_zip_next_1 _));show ia<|jx (T:="StopIteration") (b:=N) ⟨v,I,L⟩ isSubtype_stop (ib<|q _ k)
theorem go_zip(Z:ZipG l1 l2 s.heap z ti ro j1 j2 t1 t2 i)(D:jE z ti ro j1 j2 t1 t2)
  (q:∀h',ZipG l1 l2 h' z ti ro j1 j2 t1 t2 i->Heap.SameBut z s.heap h'->Q () {s with heap:=h'}):wpAny (model P w) A (iY (.Tuple d c pos) (.ref z)<|.ref T) Q E s:=by
 let(M,f1,p,x):=Z.z;unfold iY;apply ia<|lm p ?_;change wpAny _ _ (if _=N then _ else _) Q E s;split
 .refine ia<|jm ?_;change wpAny _ _ (setField (.ref z) 0 .none) Q E s;show iN p 06 λh' y r=>q h' ⟨⟨_,_,y,.inl R⟩,r.extBut _ _ D.TIz Z.ti,let⟨u,v,e⟩:=Z.ro;⟨u,v,r.extBut _ _ D.TOz e⟩,Z.j1.ext r.extBut D.i1z,Z.j2.ext r.extBut D.i2z⟩ r
 .exact ib<|q _ Z (Heap.SameBut.refl _ _)
theorem zn8(Z:ZipG l1 l2 s.heap z ti ro j1 j2 t1 t2 i)(h:Q (.ref z) s):wpAny 78 A (jV<|.ref z) Q E s:=by
 let u:s.TypeIs (.ref z) "zip":=let⟨_,_,p,_⟩:=Z.z;⟨_,p,R⟩;apply ju u F.slot_zip_iter<|i0 F.slot_zip_iter u F.entry_zip_iter ?_ (F.args_zip_iter_1 _);change wpAny _ _ (ret<|.ref z) _ _ s;show ib ⟨_,R,"zip",_,u,F.slot_zip_next.lookup,h⟩
end
abbrev zt1(l:Bool)(h:Heap)(a:Ad):Heap:=h.push {cls:=.type<|itn l,data:=.fields #[.ref a,.int 0 0]}
abbrev zt3(l1 l2:Bool)(h:Heap)(a b:Ad):Heap:=(zt1 l2 (zt1 l1 h a) b).push {cls:=.type "tuple",data:=.seq #[.ref h.objs.size,.ref (zt1 l1 h a).objs.size]}
abbrev zt4(l1 l2:Bool)(h:Heap)(a b:Ad):Heap:=(zt3 l1 l2 h a b).push {cls:=.type "tuple",data:=.seq #[.none,.none]}
abbrev zt5(l1 l2:Bool)(h:Heap)(a b:Ad):Heap:=(zt4 l1 l2 h a b).push {cls:=.type "zip",data:=.fields #[.none,.bool Fa,.bool Fa,.ref (zt1 l2 (zt1 l1 h a) b).objs.size,.ref (zt3 l1 l2 h a b).objs.size]}
theorem zt_new(l1 l2:Bool)(a b:Ad)(xs ys:Array Va):Meets (Builtin.«zip.__new__» ⟨[.type "zip",.ref a,.ref b],[]⟩) (λ_ Rq s=>IsSq s.heap l1 a xs/\IsSq s.heap l2 b ys/\Rq (.ok<|.ret (.ref (zt4 l1 l2 s.heap a b).objs.size)) {s with heap:=zt5 l1 l2 s.heap a b}) :=
 .of_wp λprog w A Rq s h=>by
  let(hp,g,d,tk,os):=s;let(ha,hb,h):=h;let hsub:=sub_zip;let hA:IsSq (Shared.heap ⟨hp,g,d,tk,os⟩) l1 a xs:=ha;let hB:IsSq (Shared.heap ⟨hp.push {cls:=.type<|itn l1,data:=.fields #[.ref a,.int 0 0]},g,d,tk,os⟩) l2 b ys:=hb.at λo e=>y04 _ e
  wp_walk using it_sq hA,it_sq hB
  show⟨_,R,h⟩
theorem zqk(d:IsSq s.heap l1 a xs)(U:IsSq s.heap l2 b ys)
  (q:∀h',IsZip h' (s.heap.objs.size+4) (s.heap.objs.size+2) (s.heap.objs.size+3) .none->ZipG l1 l2 h' (s.heap.objs.size+4) (s.heap.objs.size+2) (s.heap.objs.size+3) s.heap.objs.size 052 a b 0->h'.objs.size=s.heap.objs.size+5->(∀c o,s.heap.get? c=G o->h'.get? c=G o)->Q (.ref<|s.heap.objs.size+4) {s with heap:=h'}) :
  wpAny 78 A (call (.type "zip") [.ref a,.ref b]) Q E s:=by
 apply callType_new F.called_zip 04 (F.typeCall_zip_2 _ _) (F.newCall_zip_2 _ _) (λobj=>F.args_object_init_3 obj _ _) F.entry_zip_new (zt_new l1 l2 a b xs ys) ⟨d,U,?_⟩;let s1:(zt1 l1 s.heap a).objs.size=s.heap.objs.size+1:=y18 ..;let s2:(zt1 l2 (zt1 l1 s.heap a) b).objs.size=s.heap.objs.size+2:=by rw[y18,s1]
 let j:(zt3 l1 l2 s.heap a b).objs.size=s.heap.objs.size+3:=by rw[y18,s2]
 let p:(zt4 l1 l2 s.heap a b).objs.size=s.heap.objs.size+4:=by rw[y18,j]
 let s5:(zt5 l1 l2 s.heap a b).objs.size=s.heap.objs.size+5:=by rw[y18,p]
 let f:(zt5 l1 l2 s.heap a b).get? (zt4 l1 l2 s.heap a b).objs.size=G _:=y0b _ rfl;let up:∀c o,(zt3 l1 l2 s.heap a b).get? c=G o->(zt5 l1 l2 s.heap a b).get? c=G o:=λc o e=>y04 _<|y04 _ e;let g:(zt5 l1 l2 s.heap a b).get? (zt3 l1 l2 s.heap a b).objs.size=G _:=y04 _<|y0b _ R;let i:=up _ _<|y0b _ R;let L:=up (zt1 l1 s.heap a).objs.size _<|y04 _ (y0b _ R);let l:=up s.heap.objs.size _<|y04 _ (y04 _<|y0b _ R);rw[s2,j,p]at f;rw[s1,s2]at i;rw[j]at g;rw[s1]at L;change _/\_;rw[p];show⟨⟨_,f,R⟩,q _ f ⟨⟨_,_,f,.inl R⟩,i,⟨_,_,g⟩,⟨_,l,R,R⟩,⟨_,L,R,R⟩⟩ s5 λc o x=>up _ _<|y04 _ (y04 _<|y04 _ x)⟩
section
variable {X:Cx}{pins:Y2}{σ:St}{H:Hp}{s:ig}{h':Heap}
theorem Inv.turnedL{t':Nat}{L:List Ad}(I:02 H s)(k:∀b o,b∉L->s.heap.get? b=G o->h'.get? b=G o)(i:∀b∈L,FpOk X pins H b):02 H {s with heap:=h',toks:=t'}:=by
 let y:∀b u,H b=G u->b∉L:=λb u e z=>by rw[(i b z).1]at e;cases e
 apply I.step (g':=s.gens) (d':=s.drawn) (ch:=L) (λb U=>?_) (λb o _ _ C e _=>k b o C e) (λb o _ _ C e _=>⟨o.slots,k b o C e⟩) (λ_ _ _ _ n=>n)
  (λb o C e=>⟨o,k b o C e⟩) (λ_ _ e=>e) (λ_ _ _ e=>e) (λ_ _ _ e=>e) (λm M=>?_) (λb u e=>?_) I.bare
 .let(_,f1,_,g,Q,J):=i b U;show⟨g,f1,Q,J⟩
 .let(o,l,ep,D,r):=M;show⟨o,l,ep,k _ o (λz=>(i _ z).2.1 R) D,r⟩
 .refine(I.hok b u e).stay (λc v C q=>k c v ?_ q) (λ_ q=>q) (λ_ _ _ _ _ q=>q) λ_ _ q=>q;rcases C with z|z
  .rw[z];show y b u e
  .exact y c _ z
theorem Inv.turnedNew{t':Nat}{L:List Ad}{p:Ad}{o:HO}(I:02 H s)(k:∀b u,b∉L->s.heap.get? b=G u->h'.get? b=G u)(i:∀b∈L,FpOk X pins H b)(E:s.heap.objs.size<=p)(new:ObjOk X.prog X.w (upd H p o) h' p o)
  (Y:∀b∈L,∃u,h'.get? b=G u):02 (upd H p o) {s with heap:=h',toks:=t'}:=by
 let w:H p=B:=I.hok.fresh E;let y:∀b u,H b=G u->b∉L:=λb u e z=>by rw[(i b z).1]at e;cases e
 let ne:∀b u,H b=G u->upd H p o b=G u:=λb u e=>by rw[zam<|zav e w];show e
 apply I.step (g':=s.gens) (d':=s.drawn) (ch:=L) (λb U=>?_) (λb u _ _ C e _=>k b u C e) (λb u _ _ C e _=>⟨u.slots,k b u C e⟩) (λb u _ e z=>?_)
  (λb u C e=>⟨u,k b u C e⟩) (λb xs e=>ne b _ e) (λb ob u e=>ne b _ e) (λb _ _ e=>ne b _ e) (λm M=>?_) (λb u e=>?_) I.bare
 .let(_,f1,_,g,Q,J):=i b U;show⟨g,f1,Q,J⟩
 .rw[zam<|y0j (y0p (y0c e) E)];show z
 .let(ob,l,ep,D,r):=M;show⟨ob,l,ep,k _ ob (λz=>(i _ z).2.1 R) D,r⟩
 .by_cases U:b=p
  .subst U;rw[zar]at e;cases e;show new
  .rw[zam U]at e;apply(I.hok b u e).stay (λc v C q=>k c v ?_ q) (λc q=>ne c _ q) (λc _ _ _ _ q=>ne c _ q) λc xs q=>ne c _ q;rcases C with z|z
   .rw[z];show y b u e
   .exact y c _ z
end
section
variable {X:Cx}{pins:Y2}{σ:St}{H H':Hp}{s:ig}{l:Bool}{a:Ad}{xs ys:List V}
theorem Inv.sq(I:02 H s)(h:SqB X.K l H a xs):∃its:List Va,Vals xs its/\IsSq s.heap l a its.toArray:=by
 cases l
 .exact let⟨its,r,p,_⟩:=I.tuple h;⟨its,r,p⟩
 .exact let⟨its,r,p,_⟩:=I.list h;⟨its,r,p.isList⟩
theorem Inv.sq_inj(I:02 H s)(h:SqB X.K l H a xs)(h':SqB X.K l H a ys):xs=ys:=by
 cases l
 .exact I.tuple_inj h h'
 .exact I.list_inj h h'
theorem zle(C:c∈[n+4,n+2,n+3,n,n+1]):n<=c:=by
 simp only[y09,y0o,or_false]at C;omega
theorem star2{a b:Expr}{env:Env}(L:notStar a=N)(J:notStar b=N):iq [a,b] env=[(Fa,eval a env),(Fa,eval b env)]:=by rw[zap L,zap J,starEach.eq_def]
end
noncomputable def ItB(K:Frag)(l1 l2:Bool)(a b:Ad):It :=
 ⟨λi H=>∃xs ys x y,SqB K l1 H a xs/\SqB K l2 H b ys/\xs[i]?=G x/\ys[i]?=G y,
  λi H v H'=>∃p x y,v=.ref p/\New H p (.tup [x,y]) H'/\(∀xs,SqB K l1 H a xs->xs[i]?=G x)/\∀ys,SqB K l2 H b ys->ys[i]?=G y,
  λi H=>∃xs ys,SqB K l1 H a xs/\SqB K l2 H b ys/\xs.length<=i⟩
theorem zuo{P:ik}{w:World}{K:Frag}{l1 l2:Bool}{elts:List Expr}{x1}{tpos:Pos}(z ti ro j1 j2 a b:Ad)(D:jE z ti ro j1 j2 a b):
  Turn P w K 042 (ItB K l1 l2 a b) [z,ti,ro,j1,j2] z (λi h=>ZipG l1 l2 h z ti ro j1 j2 a b i) where
 mem:=by simp
 obj:=λi h st=>st.there
 keep:=λi h h' st k=>st.move k
 item:=by
  intro X hP j p hc i pins s σ H E I T st hg;subst hP j p;let(xs,ys,x,y,O,U,ex,ey):=hg;let(Q,r1,r):=I.sq O;let(g,l,M):=I.sq U;let(u,C,f):=r1.get ex;let(v,hv,d):=l.get ey;apply zql D st r M (x:=u) (y:=v) (by simpa using C) (by simpa using hv) λL Z1 q1 sz1 A=>⟨_,R,?_⟩;apply go_zip Z1 D λJ dw sb2=>?_;let a6:∀c∈[z,ti,ro,j1,j2],c≠s.heap.objs.size:=λc hc=>y0j<|st.lt hc;let I2:02 (upd H s.heap.objs.size<|.tup [x,y]) {s with heap:=J,toks:=s.toks}:=I.turnedNew (λc o hc e=>sb2.extBut _ _ (λq=>hc<|by simp[q])<|A c o hc e) T 08
   ⟨zaf 06,[u,v],.cons f<|.cons d .nil,⟨_,sb2.extBut _ _ (Ne.symm<|a6 z 06) q1,R,_,R⟩⟩ λc hc=>let⟨o,e,_⟩:=dw.there c hc;⟨o,e⟩
  apply⟨.ref s.heap.objs.size,_,I2,R,⟨_,x,y,R,.mk' I.fresh _,λws j=>by rw[I.sq_inj j O];show ex,λws j=>by rw[I.sq_inj j U];show ey⟩,dw,λc hc=>?_⟩;rw[zam<|a6 c hc];show(T c hc).1
 done:=by
  intro X hP j p hc i pins s σ H E I T st hg;subst hP j p;let(xs,ys,O,U,Y):=hg;let(Q,r1,r):=I.sq O;show zw9 021 D st r (by simpa[←r1.length]using Y) λh' k=>⟨R,I.turnedL (t':=s.toks) k T⟩
 self:=λ_ _ _ _ _ st h=>zn8 st h
def iZB(K:Frag)(l1 l2:Bool)(l:TA):TI:=λσ H Rq=>l σ H λvs H1=>∃a b,vs=[.ref a,.ref b]/\(∃xs,SqB K l1 H1 a xs)/\(∃ys,SqB K l2 H1 b ys)/\Rq (ItB K l1 l2 a b) H1
theorem zrm{X:Cx}{l1 l2:Bool}{elts:List Expr}{x1}{tpos:Pos}{a b:Expr}{l:TA}{p pos:Pos}(y:Gl X "zip")(M:X.mg "zip"=B)(ha:PA X [a,b] l)(L:notStar a=N)(J:notStar b=N):PI X 042 (.Call (.Name "zip" p) [a,b] [] pos) (iZB X.K l1 l2 l):=by
 intro pins s σ H Rq I h;let w:iq [b] X.env=[(Fa,eval b X.env)]:=by rw[zap J,starEach.eq_def]
 apply Call_<|zdq I y M boot_zip (PyProof.Rows.callWith_type1 (thn 051 λus s1 zz=>ex5 zz λvs H1 I1 r1 E=>?_) (by rw[star2 L J,w])<|by rw[w];rfl);let(r,i,e,(xs,O),(ys,U),q):=E;subst e;let(u,v,rfl,f,d):=vals2 r1;cases(show u=Va.ref r from f);cases(show v=Va.ref i from d);let(Q,_,j):=I1.sq O;let(g,_,D):=I1.sq U;apply zqk j D λh' _ Z sz k=>zn8 Z ?_;show⟨_,[s1.heap.objs.size+4,s1.heap.objs.size+2,s1.heap.objs.size+3,s1.heap.objs.size,s1.heap.objs.size+1],_,_,H1,R,I1.kept (t':=s1.toks) k,zuo _ _ _ _ _ r i<|zipApart_new j.lt D.lt,Z,λc C=>I1.fpOk (zle C)<|I1.hok.fresh (zle C),q⟩
noncomputable def Itz(K:Frag)(a b:Ad):It :=
 ⟨λi H=>∃xs ys x y,SqT K H a xs/\SqT K H b ys/\xs[i]?=G x/\ys[i]?=G y,
  λi H v H'=>∃p x y,v=.ref p/\New H p (.tup [x,y]) H'/\(∀xs,SqT K H a xs->xs[i]?=G x)/\∀ys,SqT K H b ys->ys[i]?=G y,
  λi H=>∃xs ys,SqT K H a xs/\SqT K H b ys/\xs.length<=i⟩
def iZip(K:Frag)(l:TA):TI:=λσ H Rq=>l σ H λvs H1=>∃a b,vs=[.ref a,.ref b]/\(∃xs,SqT K H1 a xs)/\(∃ys,SqT K H1 b ys)/\Rq (Itz K a b) H1
theorem pi_zip{X:Cx}{elts:List Expr}{x1}{tpos:Pos}{a b:Expr}{l:TA}{p pos:Pos}(y:Gl X "zip")(M:X.mg "zip"=B)(d:PA X [a,b] l)(L:notStar a=N:=by rfl)(J:notStar b=N:=by rfl):PI X 042 (.Call (.Name "zip" p) [a,b] [] pos) (iZip X.K l):=zrm (l1:=Fa) (l2:=Fa) y M d L J
theorem zyv{X:Cx}(K:Frag){elts:List Expr}{x1}{tpos:Pos}{a b:Expr}{l:TA}{p pos:Pos}(y:Gl X "zip")(M:X.mg "zip"=B)(d:PA X [a,b] l)(h:X.K=K:=by rfl)(L:notStar a=N:=by rfl)(J:notStar b=N:=by rfl):
  PI X 042 (.Call (.Name "zip" p) [a,b] [] pos) (iZip K l):=h▸pi_zip y M d L J
theorem zd0{X:Cx}(K:Frag){l:List Expr}{k:Nat}{t:TGs}{n:Nat}{pos:Pos}(C:X.calm=N)(h:PGs X l t)(p:X.K=K:=by rfl)
  (I:(jr l X.env).length=n:=by rfl) (M:(jr l X.env).findIdx? (·.1)=B:=by rfl):PG X (.Tuple l k pos) (gTup K n t):=p▸pg_tup C h I M
section
variable {tn:List Str}{cp:Y6}{g:TG}{tif:TT}{te:TE}{σ0:St}{Q:VK}{H1:Hp}{K:Frag}{a b:Ad}{xs ys:List V}
theorem cz_map(S:St->Prop)(f:Nat->V)(I:xs.length<=1000)(Y:xs.length=ys.length)(o:SqT K H1 a xs)(U:SqT K H1 b ys)(w:S 031)
  (hs:∀D i σ H H' p x y,xs[i]?=G x->ys[i]?=G y->Same H1 H->H1 D=B->H D=G (.lst<|(020).map f)->S σ->New H p (.tup [x,y]) H'->g 09 σ H' λd H2=>tif d H2 λc H3 =>
   if c=N then te d H3 λv H4=>CStep D xs.length i (λi z σ H=>Same H1 H/\S σ/\z=(020).map f) d v H4 else CSkip D xs.length i (λi z σ H=>Same H1 H/\S σ/\z=(020).map f) d H3)
  (hd:∀D H,H1 D=B->Same H1 H->H D=G (.lst<|(039).map f)->Q 65 H):cBody tn cp g tif te σ0 Q (Itz K a b) H1:=by
 apply zt6 xs.length (λD i z σ H=>Same H1 H/\S σ/\z=(020).map f) (zaf I) (λD u=>⟨zba u _,w,R⟩) (λD i z σ H u hi A p=>⟨xs,ys,xs[i],ys[i],p.1.seqT o,p.1.seqT U,by simp[hi],by simp[Y▸hi]⟩)
  (λD z σ H u A p=>⟨xs,ys,p.1.seqT o,p.1.seqT U,y05 _⟩) ?_ ?_
 .rintro D i z σ H v H' u hi A j ⟨r,M,rfl⟩ ⟨p,x,y,rfl,e,ex,T⟩;show hs D i σ H H' p x y (ex _<|r.seqT o) (T _<|r.seqT U) r u A M e
 .rintro D z σ H u A j ⟨r,M,rfl⟩;show hd D H u r A
theorem zmu{S:St->Prop}{f:Nat->V}{D:Ad}{i:Nat}{v:V}{d:St}{H4:Hp}(I:xs.length<=1000)(hi:i<xs.length)(u:H1 D=B)(C:H4 D=G (.lst<|(020).map f))(r:Same H1 H4)(s2:S d)(e:v=f i):
  CStep D xs.length i (λi z σ H=>Same H1 H/\S σ/\z=(020).map f) d v H4:=by
 apply cstep (zaf I) hi C (by rw[y01,y0x];show y05 _) ⟨r.wr u _,s2,?_⟩;rw[y2h,y0v,e];rfl
end
def DctK(K:Frag)(w:World)(a:Ad)(f:Str->Option V):Prop:=(a==iK)=Fa/\∃(l:Array DictEntry) (n:Nat),K.lookup a=G ⟨.type "dict",B,.dict l n,#[]⟩/\PySem.W.KeysLit w.params l.toList/\∀x,RelO (f x)<|lq Va.isStrOf l x
section
variable {X:Cx}(K:Frag)(w:World)
def rInD(neg:Bool):R2:=λx y H Q=>∃z a f,x=.str z/\y=.ref a/\DctK K w a f/\Q (.bl<|if neg then !(f z).isSome else(f z).isSome) H
theorem zkm(p:X.K=K:=by rfl)(j:X.w=w:=by rfl):OpR X (i4 .NotIn) (rInD K w N):=by
 subst p j;intro pins s σ H x y v u Q I T O h;let(z,a,f,rfl,rfl,(lo,l,n,Y,M,D),q):=h;let(t,rfl):=T;cases(show u=Va.ref a from O);apply wpAny_notIn_of (strKind_is X.prog X.w z t) lo (PySem.W.mapOf_K (prog:=X.prog) I.kIn Y M) ?_;rw[←(D z).isSome_eq];show⟨.bl _,H,I.tok _,R,q⟩
def rIxD:R2:=λx y H Q=>∃a z f v,x=.ref a/\y=.str z/\DctK K w a f/\f z=G v/\Q v H
theorem ix_dct(p:X.K=K:=by rfl)(j:X.w=w:=by rfl):IxR X (rIxD K w):=by
 subst p j;intro U d pins s σ H x y v u Q I T O h hs;let(a,z,f,r,rfl,rfl,(lo,l,n,Y,M,D),e,q):=h;cases(show v=Va.ref a from T);let(t,rfl):=O;let A:=PySem.W.mapOf_K (prog:=X.prog) I.kIn Y M;let(w',g,c):=RelO.some_of (v:=r) (o:=lq Va.isStrOf l z) (by rw[←e];show D z);show tail_any A.typeIs slot_dict_getitem.lookup (wpAny_getItem_of (strKind_is X.prog X.w z t) A g ⟨r,H,I.tok _,c,q⟩) hs
end
section
variable {tn:List Str}{cp:Y6}{g:TG}{tif:TT}{te:TE}{σ0:St}{Q:VK}{H1:Hp}{K:Frag}{a:Ad}{xs:List V}
theorem zmy(S:St->Prop)(f:Nat->V)(I:xs.length<=1000)(j:SqL K H1 a xs)(w:S 031)
  (hs:∀D i σ H x,i<xs.length->xs[i]?=G x->Same H1 H->H1 D=B->H D=G (.lst<|(020).map f)->S σ->g x σ H λd H2=>tif d H2 λc H3 =>
   if c=N then te d H3 λv H4=>CStep D xs.length i (λi z σ H=>Same H1 H/\S σ/\z=(020).map f) d v H4 else CSkip D xs.length i (λi z σ H=>Same H1 H/\S σ/\z=(020).map f) d H3)
  (hd:∀D H,H1 D=B->Same H1 H->H D=G (.lst<|(039).map f)->Q 65 H):cBody tn cp g tif te σ0 Q (Itl K a) H1:=by
 apply zjd (K:=K) (a:=a) (xs:=xs) (λD i z σ H=>Same H1 H/\S σ/\z=(020).map f) (zaf I) (λD u=>⟨zba u _,w,R⟩) (λD i ys σ H _ _ _ p=>p.1.seq j) ?_ ?_
 .rintro D i ys σ H x u hi O A Y ⟨r,M,rfl⟩;show hs D i σ H x hi O r u A M
 .rintro D ys σ H u A Y ⟨r,M,rfl⟩;show hd D H u r A
end
variable {X:Cx}
section
variable {X:Cx}{k:Nat}{H:Hp}{a b:Ad}{xs ys:List V}
theorem eqV_int(a b:Int):eqV (.int a) (.int b)=decide (a=b):=by
 by_cases h:a=b
 .subst h;simp[eqV]
 .simp[eqV,h]
theorem zuj:∀(xs ys:List Int),(xs.length==ys.length&&(039).all λj=>eqV ((xs.map V.int).getD j .non)<|(ys.map V.int).getD j .non)=decide (xs=ys)
 |[],[]=>rfl
 |[],y::ys=>by simp
 |x::xs,[]=>by simp
 |x::xs,y::ys=>by
  let Q:=zuj xs ys;let e:(List.range (x::xs).length).all (λj=>eqV (((x::xs).map V.int).getD j .non)<|((y::ys).map V.int).getD j .non) =
    (decide (x=y)&&(039).all λj=>eqV ((xs.map V.int).getD j .non)<|(ys.map V.int).getD j .non):=by
   rw[y0i,y2t,y2d,y2z];show congrArg (· && _)<|eqV_int x y
  rw[e];let C:((x::xs).length==(y::ys).length)=(xs.length==ys.length):=by simp
  rw[C];by_cases O:x=y
  .subst O;rw[Xg R,y1i,Q];simp
  .rw[Xf O,y1h,y2f];simp[O]
theorem zk0(xs:List Int):(xs.map V.int).all flatV=N:=by
 rw[y0u];intro x O;let(z,_,rfl):=y0e.mp O;rfl
def rEqI(K:Frag):R2:=λx y H Q=>∃(a b:Ad) (xs ys:List Int),x=.ref a/\y=.ref b/\SqL K H a (xs.map V.int)/\SqL K H b (ys.map V.int)/\Q (.bl<|decide (xs=ys)) H
def rNeI(K:Frag):R2:=λx y H Q=>∃(a b:Ad) (xs ys:List Int),x=.ref a/\y=.ref b/\SqL K H a (xs.map V.int)/\SqL K H b (ys.map V.int)/\Q (.bl<|!decide (xs=ys)) H
theorem op_neI(f:X.A.units+8<cLine):OpR X (i4 .NotEq) (rNeI X.K):=by
 intro pins s σ H x y v u Q I T O h;let(a,b,xs,ys,rfl,rfl,L,J,q):=h;cases(show v=Va.ref a from T);cases(show u=Va.ref b from O);let(us,r1,r,_):=I.list L;let(vs,l,M,_):=I.list J;let l1:=r1.length;let l2:=l.length;let c:X.A.units<cLine:=by omega
 by_cases Y:us.length=vs.length
 .let z:=SeqAt.RcNeAt.lists (A:=X.A) (s:=s) (e:=λj=>eqV ((xs.map V.int).getD j .non)<|(ys.map V.int).getD j .non) r.isList M.isList (by rw[y06,y06];show Y) c λj L J=>by
   rw[y06]at L J;let(g1,E):=r1.at L;let(o,i):=l.at J;let g:(xs.map V.int).getD j .non=(xs.map V.int)[j]:=by rw[y02,y00 g1];rfl
   let C:(ys.map V.int).getD j .non=(ys.map V.int)[j]:=by rw[y02,y00 o];rfl
   rw[g,C];apply zh2 (by simpa using E) (by simpa using i) ?_ ?_
   .exact y0u.mp (zk0 xs) _<|y0k g1
   .exact y0u.mp (zk0 ys) _<|y0k o
  let e:=zuj xs ys;rw[y01]at l1 l2;rw[show(xs.length==ys.length)=N by simp;omega,y1i]at e;rw[y06,←l1,e]at z;show z _ _ _ _ ⟨.bl<|!decide (xs=ys),H,I,R,q⟩
 .let z:=SeqAt.RcNeAt.lists_lengths (A:=X.A) (s:=s) r.isList M.isList (by rw[y06,y06];simpa using Y) c;let e:decide (xs=ys)=Fa:=Xf λh=>by rw[h,y01]at l1;rw[y01]at l2;omega
  rw[e]at q;show z _ _ _ _ ⟨.bl N,H,I,R,q⟩
variable (K:Frag)
theorem zza(C:X.A.units+8<cLine)(h:X.K=K:=by rfl):OpR X (i4 .NotEq) (rNeI K):=h▸op_neI C
end
section
variable {tn:List Str}{cp:Y6}{g:TG}{tif:TT}{te:TE}{σ0:St}{Q:VK}{H1:Hp}{lo:Int}{n:Nat}
def PRng(S:St->Prop)(f:Nat->V)(H1:Hp)(i:Nat)(ys:List V)(σ:St)(H:Hp):Prop:=Same H1 H/\S σ/\ys=(020).map f
theorem zts(S:St->Prop)(f:Nat->V)(I:n<=1000)(w:S 031)
  (hs:∀D i σ H,i<n->Same H1 H->H1 D=B->H D=G (.lst<|(020).map f)->S σ->g (.int<|lo+i) σ H λd H2=>tif d H2 λc H3 =>
   if c=N then te d H3 λv H4=>CStep D n i (PRng S f H1) d v H4 else CSkip D n i (PRng S f H1) d H3)
  (hd:∀D H,H1 D=B->Same H1 H->H D=G (.lst<|(List.range n).map f)->Q 65 H):cBody tn cp g tif te σ0 Q (Itr lo n) H1:=by
 apply zt6 n (λD=>PRng S f H1) (zaf I) (λD u=>⟨zba u _,w,R⟩) (λD i ys σ H _ hi _ _=>hi) (λD ys σ H _ _ _=>y05 _) ?_ ?_
 .rintro D i ys σ H x H' u hi A Y ⟨r,M,rfl⟩ ⟨rfl,rfl⟩;show hs D i σ _ hi r u A M
 .rintro D ys σ H u A Y ⟨r,M,rfl⟩;show hd D H u r A
theorem zmv(I:n<=1000)(hi:i<n)(u:H1 D=B)(C:H4 D=G (.lst<|(020).map f))(r:Same H1 H4)(s2:S d)(e:v=f i):CStep D n i (PRng S f H1) d v H4:=by
 subst e;apply cstep (zaf I) hi C 06 ⟨r.wr u _,s2,?_⟩;rw[y2h,y0v];rfl
end
def TupS(H H':Hp):Prop:=∀b xs,H b=G 98->H' b=G 98
theorem Same.tups(g:Same H H'):TupS H H':=λb xs e=>g b _ e
theorem TupS.refl(H:Hp):TupS H H:=λ_ _ e=>e
theorem TupS.trans(a:TupS H H1)(b:TupS H1 H2):TupS H H2:=λc xs e=>b c xs<|a c xs e
theorem TupS.wr(h:H p=G 91)(o:HO):TupS H (upd H p o):=λb ys e=>by rw[zam<|zsg e h (by intro z;cases z)];show e
theorem li_at{h h':Heap}(x:h.IsListIter j a i)(k:∀o,h.get? j=G o->h'.get? j=G o):h'.IsListIter j a i:=by
 let(o,e,r):=x;show⟨o,k o e,r⟩
theorem li_ext{h h':Heap}(x:h.IsListIter j a i)(k:Heap.ExtBut b h h')(n:j≠b):h'.IsListIter j a i:=li_at x λo e=>k j o n e
noncomputable def ItzL(K:Frag)(a b:Ad):It :=
 ⟨λi H=>∃xs ys x y,SqL K H a xs/\SqT K H b ys/\xs[i]?=G x/\ys[i]?=G y,
  λi H v H'=>∃p x y,v=.ref p/\New H p (.tup [x,y]) H'/\(∀xs,SqL K H a xs->xs[i]?=G x)/\∀ys,SqT K H b ys->ys[i]?=G y,
  λi H=>∃xs ys,SqL K H a xs/\SqT K H b ys/\xs.length<=i⟩
def iZipL(K:Frag)(l:TA):TI:=λσ H Rq=>l σ H λvs H1=>∃a b,vs=[.ref a,.ref b]/\(∃xs,SqL K H1 a xs)/\(∃ys,SqT K H1 b ys)/\Rq (ItzL K a b) H1
theorem zyu{X:Cx}{elts:List Expr}{x1}{tpos:Pos}{a b:Expr}{l:TA}{p pos:Pos}(y:Gl X "zip")(M:X.mg "zip"=B)(d:PA X [a,b] l)(L:notStar a=N:=by rfl)(J:notStar b=N:=by rfl):PI X 042 (.Call (.Name "zip" p) [a,b] [] pos) (iZipL X.K l):=zrm (l1:=N) (l2:=Fa) y M d L J
theorem zvi{X:Cx}(K:Frag){elts:List Expr}{x1}{tpos:Pos}{a b:Expr}{l:TA}{p pos:Pos}(y:Gl X "zip")(M:X.mg "zip"=B)(d:PA X [a,b] l)(h:X.K=K:=by rfl)(L:notStar a=N:=by rfl)(J:notStar b=N:=by rfl):
  PI X 042 (.Call (.Name "zip" p) [a,b] [] pos) (iZipL K l):=h▸zyu y M d L J
noncomputable def Ite(K:Frag)(a:Ad):It :=
 ⟨λi H=>∃xs x,SqL K H a xs/\xs[i]?=G x,λi H v H'=>∃p x,v=.ref p/\New H p (.tup [.int (i:Int),x]) H'/\∀xs,SqL K H a xs->xs[i]?=G x,λi H=>∃xs,SqL K H a xs/\xs.length<=i⟩
theorem zqq{P:ik}{w:World}{K:Frag}{elts:List Expr}{x1}{tpos:Pos}(e it a:Ad)(D:e≠it):
  Turn P w K 042 (Ite K a) [e,it] e (λi h=>(∃old,IsEnum h e it (i:Int) old)/\h.IsListIter it a i) where
 mem:=by simp
 obj:=λi h st c hc=>by
  let((old,U),o1,g,M,d1):=st;simp only[y09,y0o,or_false]at hc;rcases hc with rfl|rfl
  .exact⟨_,U,λv q=>nomatch q⟩
  .exact⟨_,g,λv q=>by rw[d1]at q;cases q⟩
 keep:=λi h h' st k=>⟨let⟨old,U⟩:=st.1;⟨old,k e 06 _ U⟩,li_at st.2 λo z=>k it 06 o z⟩
 item:=by
  intro X l j p hc i pins s σ H E I T st y;subst l j p;let(xs,x,O,ex):=y;let(its,r,f,_):=I.list O;let(u,hu,ru):=r.get ex;let((old,U),si):=st;apply wpAny_pyNext_enum_item U si f.isList (x:=u) (by simpa using hu) D λL eo1 si1 q1 sz1 A=>⟨_,R,?_⟩;apply wpAny_letOwnedTupleGo_enum eo1 λJ C d=>?_;let a6:∀c∈[e,it],c≠s.heap.objs.size:=λc hc=>by
   simp only[y09,y0o,or_false]at hc;rcases hc with rfl|rfl
   .exact y0j<|y0c U
   .let(o,z,_):=si;show y0j<|y0c z
  let k2:∀c o,c∉[e,it]->s.heap.get? c=G o->J.get? c=G o:=λc o hc z =>
   d.extBut _ _ (λq=>hc<|by simp[q]) (A c o (λq=>hc<|by simp[q]) (λq=>hc<|by simp[q]) z)
  let gz:=d.extBut _ _ (Ne.symm<|a6 e 06) q1;let si2:J.IsListIter it a (i+1):=li_ext si1 d.extBut<|Ne.symm D;let Q:IsEnum J e it ((i+1:Nat):Int) u:=by rw[show((i+1:Nat):Int)=(i:Int)+1 by omega];show C
  let there:∀c∈[e,it],∃o,J.get? c=G o:=λc hc=>by
   simp only[y09,y0o,or_false]at hc;rcases hc with rfl|rfl
   .exact⟨_,C⟩
   .let(o,z,_):=si2;show⟨o,z⟩
  let I2:02 (upd H s.heap.objs.size<|.tup [.int (i:Int),x]) {s with heap:=J,toks:=s.toks+1}:=I.turnedNew k2 T (y05 _) ⟨zaf (by simp),[.int i s.toks,u],.cons ⟨_,R⟩<|.cons ru .nil,⟨_,gz,R,_,R⟩⟩ there;apply⟨.ref s.heap.objs.size,_,I2,R,⟨_,x,R,.mk' I.fresh _,λws j=>by rw[I.list_inj j O];show ex⟩,⟨⟨_,Q⟩,si2⟩,λc hc=>?_⟩;rw[zam<|a6 c hc];show(T c hc).1
 done:=by
  intro X l j p hc i pins s σ H E I T st y;subst l j p;let(xs,O,Y):=y;let(its,r,f,_):=I.list O;let l1:=r.length;let((old,U),si):=st;show wpAny_pyNext_enum_end 021 U si f.isList (by simp;omega) λh' k=>⟨R,I.turnedL (t':=s.toks) (λc o hc z=>k c o (λq=>hc<|by simp[q]) z) T⟩
 self:=λ_ _ _ _ _ st h=>let⟨_,U⟩:=st.1;wpAny_pyIter_enum U h
def iEnum(K:Frag)(l:TA):TI:=λσ H Rq=>l σ H λvs H1=>∃a,vs=[.ref a]/\(∃xs,SqL K H1 a xs)/\Rq (Ite K a) H1
theorem zyx{X:Cx}{elts:List Expr}{x1}{tpos:Pos}{a:Expr}{l:TA}{p pos:Pos}(y:Gl X "enumerate")(M:X.mg "enumerate"=B)(ha:PA X [a] l)(L:notStar a=N:=by rfl):PI X 042 (.Call (.Name "enumerate" p) [a] [] pos) (iEnum X.K l):=by
 intro pins s σ H Rq I h;let hs:iq [a] X.env=[(Fa,eval a X.env)]:=by rw[zap L,starEach.eq_def]
 apply Call_<|zdq I y M boot_enumerate (PyProof.Rows.callWith_type1 (thn 051 λus s1 zz=>ex5 zz λvs H1 I1 r1 E=>?_) hs R);let(r,e,(xs,O),q):=E;subst e;let(u,rfl,f):=vals1 r1;cases(show u=Va.ref r from f);let(its,_,j,_):=I1.list O;apply call_enumerate_list j.isList λh' U d sz k=>wpAny_pyIter_enum U ?_;apply⟨_,[s1.heap.objs.size+1,s1.heap.objs.size],_,_,H1,R,I1.kept (t':=s1.toks) k,zqq _ _ r<|Nat.succ_ne_self _,⟨⟨_,U⟩,d⟩,λc C=>?_,q⟩;let v:s1.heap.objs.size<=c:=by
  simp only[y09,y0o,or_false]at C;rcases C with rfl|rfl
  .exact Nat.le_add_right _ _
  .exact y05 _
 show I1.fpOk v<|I1.hok.fresh v
theorem zir{X:Cx}(K:Frag){elts:List Expr}{x1}{tpos:Pos}{a:Expr}{l:TA}{p pos:Pos}(y:Gl X "enumerate")(M:X.mg "enumerate"=B)(d:PA X [a] l)(h:X.K=K:=by rfl)(L:notStar a=N:=by rfl):
  PI X 042 (.Call (.Name "enumerate" p) [a] [] pos) (iEnum K l):=h▸zyx y M d L
theorem zkv:jl (.type "list") "keys"=pure B:=am_miss_of_fast 21
theorem no_keys
  (hx:s.heap.get? a=G {cls:=.type "list",dict:=B,data:=.seq xs k,slots:=sl}) (hA:A.handled=B)
  (h:∀h' tk,(∀b o,s.heap.get? b=G o->h'.get? b=G o)->Q B {s with heap:=h',toks:=tk}):wpAny (model prog w) A (getAttr? (.ref a) "keys") Q E s:=by
 let(hp,g,d,tk,os):=s;let hT:∀tk',(⟨hp,g,d,tk',os⟩:ig).TypeIs 07 "list":=λ_=>⟨_,hx,R⟩;let f1:=sub_AttributeError;let f3:=F.slot_list_getattribute.lookup;let f4:=F.slot_list_getattribute.bind 07;let f5:=am_list_getattr_none;unfold getAttr? getAttrBy? getAttrBy
 repeat (any_goals (first|assumption|show hT _|((with_reducible show wpAny _ _ (call (Va.builtin "list.__getattribute__") _ _) _ _ _);apply iQ F.slot_list_getattribute (hT _) am_entry_list_getattribute (F.args_list_getattribute_2 _ _) (meets_getattribute_miss_list a xs k sl "keys" _ zkv 21 04) ⟨hx,hA,λh' tk' e hx'=>?_⟩)|wp_step))
 let(t',u',he):=hx'.there;change wpAny _ _ (getattributeRaised _ _ _ _ _ _ _) _ _ _;unfold getattributeRaised
 repeat (any_goals (first|assumption|wp_step))
 show h _ _ hx'.keeps
theorem zbv:entryFor table "dict.update.loop"=G Builtin.«dict.update.loop»:=entryFor_of_tree (by kernel_rfl)
theorem za6:plainId "dict.update.loop"=N:=by decide+kernel
section
variable {P:ik}{w:World}{κ:Type}[DecidableEq κ]{knd:KeyKind P w κ}{A:io}{Rq:Result->ig->Prop}{it:Ad}{fp wr:List Ad}{Gq:Array jB->Array jB->Prop}{n:Nat}{Pv:Nat->Va->Prop}{St:Nat->ig->Prop}
def PairsAt(knd:KeyKind P w κ)(h:Heap)(a:List Ad)(Pv:Nat->Va->Prop)(kvs:List<|κ×Va):Prop:=∀i v k u,Pv i v->kvs[i]?=G (k,u)->∃p O,v=.ref p/\p∉a/\knd.is k O=N/\h.IsTuple p #[O,u]
theorem PairsAt.kept(x:PairsAt knd h a Pv kvs)(k:∀b o,b∉a->h.get? b=G o->h'.get? b=G o):PairsAt knd h' a Pv kvs:=λi v k' u pv e=>by
 let(p,O,g,C,j,o,D,r):=x i v k' u pv e;show⟨p,O,g,C,j,o,k p o C D,r⟩
theorem zp9(W:WalksS P w A.in1 it fp wr Gq n Pv St)(a:Ad)(d:a∉fp)(kvs:List<|κ×Va)(I:kvs.length=n)(hz:n<=ii):
  ∀(m i:Nat) (j:Int) (J:Tok) (s:ig),n-i=m->i<=n->St i s->PairsAt knd s.heap (a::wr) Pv kvs->s.heap.DictOf knd a (merged []<|kvs.take i)->(∀s',Moved (a::wr) Gq s s'->s'.heap.DictOf knd a (merged [] kvs)->Rq (.ok<|.ret .none) s')->
   jc 78 A (.builtin "dict.update.loop" ⟨[.ref a,.ref it,.int j J,.none],[]⟩) Rq s:=by
 let f:a∉wr:=λh=>d<|W.sub _ h;let up:∀b∈wr,b∈a::wr:=λb h=>y07 _ h;let g:∀{h h':Heap} {l:List (κ×Va)},h.DictOf knd a l->(∀o,h.get? a=G o->h'.get? a=G o)->h'.DictOf knd a l:=λx k=>let⟨o,es,ep,D,r⟩:=x;⟨o,es,ep,k o D,r⟩;intro m
 induction m with
 |zero =>
  intro i j J s hm hi st pa x q;obtain rfl:i=n:=by omega
  rw[y0h<|y4l I]at x;apply iD zbv ?_;rw[Around.under_plainId za6 _];apply ia<|W.done s _ _ st λs' c=>?_;change wpAny _ _ (Builtin.Dict.addKeywords a []>>=_) _ _ _;show ia<|ib (ib<|q s' (c.mono up) (g x λo e=>c.heap a _ f e))
 |succ m Q =>
  intro i j J s hm hi st pa x q;let lt:i<n:=by omega
  let M:kvs[i]?=G (kvs[i].1,kvs[i].2):=by simp[I,lt]
  apply iD zbv ?_;rw[Around.under_plainId za6 _];apply ia<|W.item i s _ _ lt st λv s' pv Y c=>?_;let u:=g (h':=s'.heap) x λo e=>c.heap a _ f e;let y:PairsAt knd s'.heap (a::wr) Pv kvs:=pa.kept λb o U e=>c.heap b o (λz=>U<|up b z) e;let(p,O,rfl,E,is,o,D,C,z,hd):=y i v _ _ pv M;apply ia<|im (ia ?_);apply wpAny_tryCatch (m:=Builtin.Dict.pairItems<|Va.ref p) ?_;unfold Builtin.Dict.pairItems;apply ia<|jo (T:="tuple") ⟨o,D,C⟩ ?_;rw[Xq<|show(Va.type "tuple"==Va.type "list"||Va.type "tuple"==Va.type "tuple")=N from rfl];apply ia<|iC D hd (ib ?_);change wpAny _ _ (holding [O,kvs[i].2]<|dictSet a O kvs[i].2) _ _ _;let len:=merged_length_le ([]:List<|κ×Va)<|kvs.take i;rw[y0w,y1k]at len;apply im<|wpAny_dictSet_pairs (hsz:=by omega) is u λh' x2 sb=>?_;rw[←merged_take_succ [] kvs i _ M]at x2;let L:∀b o,b∉a::wr->s'.heap.get? b=G o->h'.get? b=G o:=λb o U e=>by rw[sb.2 b λh=>U<|h▸y0a];show e
  apply ib ⟨iT za6 _,Q (i+1) (j+1) _ _ 00 lt (W.frame _ s' _ _ Y (y3m _) λb U o e=>?_) (y.kept L) x2 λs2 H x4=>?_⟩
  .rw[sb.2 b λh=>d<|h▸U];show e
  .exact q s2 (Moved.trans W.gtrans ((c.mono up).then_heap (y3m _) λb o U e=>L b o U e) H) x4
end
section
variable {P:ik}{w:World}{κ:Type}[DecidableEq κ]{knd:KeyKind P w κ}{A:io}{E:Y0}{s:ig}
theorem zk2(H:A.handled=B)(Y:s.heap.get? l=G {cls:=.type "list",dict:=B,data:=.seq its n,slots:=sl})(M:kvs.length=its.size)(hz:its.size<=ii)
  (hi:∀(i:Nat) v k u,its[i]?=G v->kvs[i]?=G (k,u)->∃p O,v=.ref p/\knd.is k O=N/\s.heap.IsTuple p #[O,u])
  (h:∀(h':Heap) (J:Nat),h'.DictOf knd s.heap.objs.size (merged [] kvs)->(∀b o,s.heap.get? b=G o->h'.get? b=G o)->Q 011 {s with heap:=h',toks:=J}) :
  wpAny 78 A (call (.type "dict") [.ref l]) Q E s:=by
 apply callType_codes (Q₁:=λobj s₁=>obj=.ref s.heap.objs.size/\s₁={s with heap:=s.heap.push {cls:=.type "dict",data:=.dict #[]} }) F.kt_called_dict (F.kt_typeCall_dict_1 _) F.entry_dict_init (kt_code_dict_new _ ⟨R,R⟩) ?_;rintro obj s₁ ⟨rfl,rfl⟩;let d:(s.heap.push {cls:=.type "dict",data:=.dict #[]}).DictOf knd s.heap.objs.size []:=Heap.DictOf.new s.heap;let y:(s.heap.push {cls:=.type "dict",data:=.dict #[]}).get? l=G {cls:=.type "list",dict:=B,data:=.seq its n,slots:=sl}:=y04 _ Y;apply⟨d.typeIs,F.args_dict_init_2 _ _,?_⟩;unfold Builtin.«dict.__init__»;apply ia ?_;unfold Builtin.Dict.selfAndRest;apply ia<|wpAny_notOrdered_dict d.typeIs ?_;change wpAny _ _ (pure (s.heap.objs.size,[Va.ref l])) _ _ _;apply ib ?_;change wpAny _ _ (Builtin.Dict.updateFrom "dict.__init__" s.heap.objs.size (.ref l) [] .none) _ _ _;unfold Builtin.Dict.updateFrom;apply ia<|jo (T:="list") ⟨_,y,R⟩ ?_;rw[Xq 04];apply ia<|no_keys y (by simp[H]) λL tk1 k1=>?_;rw[Xq<|show(B:Option Va).isNone=N from rfl];apply ia<|jm (ia ?_);let c:L.IsList l its:=⟨_,k1 _ _ y,R,n,R⟩;apply jb c ?_;let ll:l<s.heap.objs.size:=y0c Y;let q:s.heap.objs.size<L.objs.size:=by
  let(o,_,_,D,_):=d;show y0c<|k1 _ _ D
 let f:A.in1.in1.handled=B:=by simp[H]
 let lt1:l<L.objs.size:=y1n ll q;let nf:s.heap.objs.size∉[L.objs.size,l]:=λz=>by
  rcases y09.mp z with z|z
  .exact Xa z<|y0j q
  .exact Xa (y0l.mp z)<|y29 ll
 let up:∀b o,s.heap.get? b=G o->(L.push {cls:=.type "list_iterator",data:=.fields #[.ref l,.int 0 0]}).get? b=G o:=λb o e=>y04 _<|k1 _ _ (y04 _ e);apply ib ⟨iT za6 _,zp9 (knd:=knd) (A:=A.in1) ((Walks.list f _ l (y0j lt1) its).toS) s.heap.objs.size nf kvs M hz (its.size-0) 0 0 _ _ R (y13 _) ⟨⟨_,y0b _ R,R,R⟩,c.push _⟩ ?pa ?x0 ?q0⟩
 case pa =>
  intro i v k u pv e;let(p,O,g,C,o,D,r):=hi i v k u pv e;let lp:=y0c D;apply⟨p,O,g,λz=>?_,C,o,up p o D,r⟩;rcases y09.mp z with z|z
  .exact Xa z<|y0j lp
  .exact Xa (y0l.mp z)<|y0j (y1n lp q)
 case x0 =>
  let(o,es,ep,D,r):=d;show⟨o,es,ep,y04 _<|k1 _ _ D,r⟩
 case q0 =>
  intro s' mv x';let(h',g',d',U,x):=s';let j:g'=s.gens:=mv.gens;let a:d'=s.drawn:=mv.drawn;let eo:x=s.os:=mv.os;subst j;subst a;subst eo;apply⟨R,h h' U x' λb o e=>mv.heap b o (λz=>?_)<|up b o e⟩;let I:=y0c e;rcases y09.mp z with z|z
  .exact Xa z<|y0j I
  .exact Xa (y0l.mp z)<|y0j (y1n I q)
end
theorem DGet.b{H:Hp}{a:Ad}{kvs:List (Key×V)}{b:Bool}(e:H a=G (.dK kvs)):DGet H a (.bl b) (valV kvs<|.inl (blI b)):=.inl ⟨kvs,_,.inl e,.inr ⟨b,R,R⟩,R⟩
theorem DPut.b{H:Hp}{a:Ad}{kvs:List (Key×V)}{b:Bool}{v:V}(e:H a=G (.dK kvs))(Y:kvs.length<ii):DPut H a (.bl b) v (upd H a<|.dK (putK kvs (.inl<|blI b) v)):=.inl ⟨kvs,_,e,.inr ⟨b,R,R⟩,Y,R⟩
theorem DGet.n{H:Hp}{a:Ad}{kvs:List (Key×V)}{n:Int}(e:H a=G (.dK kvs)):DGet H a (.int n) (valV kvs<|.inl n):=DGet.k (k:=.inl n) e
theorem DPut.n{H:Hp}{a:Ad}{kvs:List (Key×V)}{n:Int}{v:V}(e:H a=G (.dK kvs))(Y:kvs.length<ii):DPut H a (.int n) v (upd H a<|.dK (putK kvs (.inl n) v)):=DPut.k (k:=.inl n) e Y
def rInDc(neg:Bool):R2:=λy x H Q=>∃a o,x=.ref a/\DGet H a y o/\Q (.bl<|if neg then !o.isSome else o.isSome) H
section
variable {X:Cx}{o i value:Expr}{pos pos':Pos}{td ty tv:TE}
theorem zdg(C:X.A.units+8<cLine):OpR X (i4 .NotIn) (rInDc N):=by
 intro pins s σ H y x v u Q I O T h;let(a,o,rfl,g,q):=h;obtain rfl:u=Va.ref a:=T;show Qas 00 I g O λj A=>⟨.bl<|!o.isSome,H,A,R,q⟩
theorem zfn(C:X.A.units+8<cLine)(D:PE X o td)(hi:PE X i ty)(hs:NoSl i):PE X (.Subscript o i pos) (tDGet td ty):=zy1 00 D hi hs
theorem zfl(C:X.A.units+8<cLine)(D:PE X o td)(hi:PE X i ty)(hv:PE X value tv)(hs:jS value (G<|.Subscript o i pos') pos.line X.env=pure Fa):
  PS X (.Assign [.Subscript o i pos'] value pos) (sDPut td ty tv):=zyn 00 D hi hv hs
def tDNewN:TE:=λ_ H Q=>∀p H',New H p (.dK []) H'->Q 09 H'
def tDNewTN:TE:=λ_ H Q=>∀p H',New H p (.dT []) H'->Q 09 H'
theorem zvl:PE X (.Dict [] [] pos) tDNewN:=λpins s σ H Q I h=>zvm pins s σ H Q I λp E=>h p _<|.mk' E _
theorem zrq:PE X (.Dict [] [] pos) tDNewTN:=λpins s σ H Q I h=>zvk pins s σ H Q I λp E=>h p _<|.mk' E _
def rLenD:List V->Hp->VK->Prop:=λxs H Q=>∃a kvs,xs=[V.ref a]/\H a=G (.dK kvs)/\Q (.int kvs.length) H
theorem zqg:CallR X (.builtin "len") rLenD:=zt9
end
section
variable {prog:ik}{w:World}{κ:Type}[DecidableEq κ]{knd:HeapKind prog w κ}{A:io}{E:Y0}{s:ig}
theorem zmp(d:Ad)(hd:(d==iK)=Fa):
  MeetsIn prog w (Builtin.«dict.__len__» ⟨[.ref d],[]⟩) (λ_ Rq s=>∃xs,s.heap.DictOfH knd d xs/\Rq (.ok<|.ret (.int xs.length s.toks)) {s with toks:=s.toks+1}) :=
 .of_wp λA Rq s ⟨xs,M,h⟩=>by
  let(o,l,ep,D,C,a,L,_):=M;change wpAny _ _ (dictSize d>>=_) _ _ s;unfold dictSize;apply ia<|ia (wpAny_dictEntries D a<|ib ?_);change wpAny _ _ (Builtin.Dict.pendingCount d>>=_) _ _ s;apply ia<|wpAny_pendingCount_other hd (wpAny_ret_mkInt ?_);let e:l.size=xs.length:=by rw[←y11,L,y01]
  rw[Nat.add_zero,e];show h
theorem zpz(hd:(d==iK)=Fa)(M:s.heap.DictOfH knd d xs)(f:(xs.length:Int)<2^63)(u:s.TypeIs (.ref d) "dict")
  (h:Q (.int xs.length<|s.toks+1) {s with toks:=s.toks+1+1}):wpAny (model prog w) A (call (.builtin "len") [.ref d]) Q E s:=by
 apply Calls.call_function_entry kind_len plain_len entry_len (args_len1 _) ?_;unfold Builtin.«len»;apply ia (m:=oneArg "len" _)<|ib ?_;apply ia (m:=callSpecial? (.ref d) (Str.ofString "__len__"))<|i7 (name:=Str.ofString "__len__") u PySem.F.slot_dict_len (call_meetsIn PySem.F.slot_dict_len u PySem.F.entry_dict_len (PySem.F.args_dict_len_1 _) (zmp d hd) ⟨xs,M,?_⟩);change wpAny _ _ _ _ _ {s with toks:=s.toks+1};apply ia<|im (ib<|ia (jK ?_));change wpAny _ _ (if((xs.length:Nat):Int)<0 then _ else _) _ _ _;rw[Xp 00];change wpAny _ _ (if((xs.length:Nat):Int)>=2^63 then _ else _) _ _ _;rw[Xp 00];show ia<|wpAny_mkInt (ib ⟨_,R,h⟩)
end
def rLenT:List V->Hp->VK->Prop:=λxs H Q=>∃a kvs,xs=[V.ref a]/\H a=G (.dT kvs)/\Q (.int kvs.length) H
theorem zt8:CallR X (.builtin "len") rLenT:=by
 intro pins s σ H xs us Q I r h;let(a,kvs,rfl,d,q):=h;let(u,rfl,f):=vals1 r;cases f;let(z,hd,ys,rel,i):=dt_of I.hok d;let e:=Paired.length rel;let O:s.TypeIs 07 "dict":=by let(o,_,_,D,C,_):=id i;show⟨o,D,C.1⟩
 apply zpz hd i (by rw[jz]at z;omega) O ?_;rw[←e];show⟨.int kvs.length,H,I.tok _,⟨_,R⟩,q⟩
def PairV(H:Hp)(r:V)(D:Key×V):Prop:=∃t,r=.ref t/\H t=G (.tup [kV D.1,D.2])
theorem zkk(ok:HOk P w H h):∀{rs:List V} {kvs:List (Key×V)} {us:List Va},i8 (PairV H) rs kvs->Vals rs us->
  ∃z:List<|Key×Va,KV kvs z/\∀(i:Nat) v k u,us[i]?=G v->z[i]?=G (k,u)->∃p O,v=.ref p/\(023).is k O=N/\h.IsTuple p #[O,u]
 |_,_,_,.nil,.nil=>⟨[],.nil,λi v k u e _=>by simp at e⟩
 |_,_,_,.cons (b:=D) ⟨t,I,A⟩ pr,.cons d vs=>by
  let(z,L,J):=zkk ok pr vs;subst I;cases(show _=Va.ref t from d);let(_,its,x,c):=ok t _ A;cases x with
  |cons r1 f =>
   cases f with
   |cons l f =>
    cases f;rename_i O Y;apply⟨(D.1,Y)::z,.cons ⟨R,l⟩ L,λi v k u g C=>?_⟩;cases i with
    |zero =>
     simp only[y4d,Option.some.injEq,Prod.mk.injEq]at g C;let(rfl,rfl):=C;show⟨t,O,g.symm,zsu r1,c⟩
    |succ i =>
     simp only[y1s]at g C;show J i v k u g C
def rDictOf(K:Frag):List V->Hp->VK->Prop:=λxs H Q=>∃(p:Ad) (rs:List V) (kvs:List<|Key×V),xs=[.ref p]/\SqL K H p rs/\i8 (PairV H) rs kvs/\kvs.length<=1000/\∀d H',New H d (.dK<|mergeK [] kvs) H'->Q (.ref d) H'
theorem zlf(hc:X.calm=N):CallR X (.type "dict") (rDictOf X.K):=by
 intro pins s σ H xs us Q I r h;let(p,rs,kvs,rfl,O,pr,hz,q):=h;let(u,rfl,T):=vals1 r;cases(show u=Va.ref p from T);let(vs,d,(o,n,D,l,a,c),_):=I.list O;let(z,e,j):=zkk I.hok pr d;let l1:=d.length;let l2:=Paired.length pr;let w:=e.length;let(oc,A,f,y):=o;simp only at l a c;subst l;subst a;subst c;apply zk2 (knd:=mixKind X.prog X.w) (kvs:=z) 021 D (by rw[y06];omega) (by rw[y06];show zaf 00) (λi v k u g C=>j i v k u (by simpa using g) C) λh' J x k=>?_;let M:KV (mergeK [] kvs) (merged [] z):=KV.merge e .nil;let Y:=zcq kvs [];rw[y1k]at Y;show⟨.ref s.heap.objs.size,_,I.laid (t':=J) k 08<|ztg (zaf 00) (beq_eq_false_iff_ne.mpr<|Ne.symm (y0j I.big)) M x,R,q _ _<|.mk' I.fresh _⟩
theorem zjk(K:Frag)(C:X.calm=N)(h:X.K=K:=by rfl):CallR X (.type "dict") (rDictOf K):=h▸zlf C
theorem zgf:∀(i acc:List<|Key×V) (k:Key),k∉i.map (·.1)->valV (mergeK acc i) k=valV acc k
 |[],_,_,_=>rfl
 |D::i,acc,k,h=>by
  rw[y0m,y09,not_or]at h;change valV (mergeK (putK acc D.1 D.2) i) k=_;rw[zgf i _ k h.2,znb,Xp h.1]
theorem zn2:∀(i acc:List<|Key×V) (k:Key) (v:V),(i.map (·.1)).Nodup->(k,v)∈i->valV (mergeK acc i) k=G v
 |[],_,_,_,_,h=>nomatch h
 |D::i,acc,k,v,I,h=>by
  rw[y0m,y1o]at I;change valV (mergeK (putK acc D.1 D.2) i) k=_;rcases y09.mp h with rfl|h
  .rw[zgf i _ _ I.1,znb,Xq rfl]
  .exact zn2 i _ k v I.2 h
def rMaxL(K:Frag):List V->Hp->VK->Prop:=λxs H Q=>∃(p:Ad) (ns:List Int),xs=[.ref p]/\SqL K H p 025/\0<ns.length/\∀M,M∈ns->(∀a∈ns,a<=M)->Q (.int M) H
theorem zqe(hc:X.calm=N):CallR X (.builtin "max") (rMaxL X.K):=by
 intro pins s σ H xs us Q I r h;let(p,ns,rfl,O,D,q):=h;let(u,rfl,T):=vals1 r;cases(show u=Va.ref p from T);let(vs,l,f,_):=I.list O;let hi:=zey l;let(xs,e):=hi.allInts.items;let y:s.heap.IsList p (intItems xs):=e▸f.isList;let c:ns=xs.toList.map (·.1):=by
  rw[←nums_intItems,←e];show(show numsOf vs.toArray.toList=ns from hi.numsOf).symm
 let hsz:0<xs.size:=by rw[c,y01,y11]at D;show D
 apply max_intList 021 y hsz λv h' z hv M=>?_;let(t,rfl):=intItems_at hv;let(L,J):=argBest_gt (numAt xs)<|xs.size-1;apply⟨.int _,H,I.kept M,⟨_,R⟩,q _ ?_ λa d=>?_⟩
 .rw[c,numAt_eq];show getD_mem (by rw[y01,y11];omega)
 .rw[c]at d;let(j,g,rfl):=mem_getD d;rw[y01,y11]at g;rw[←numAt_eq];show J j 00
theorem zm2(K:Frag)(C:X.calm=N)(h:X.K=K:=by rfl):CallR X (.builtin "max") (rMaxL K):=h▸zqe C
def rIndex(K:Frag):V->List V->Hp->VK->Prop:=λx vs H Q=>∃(p:Ad) (ns:List Int) (k:Int),x=.ref p/\vs=[.int k]/\SqL K H p 025/\k∈ns/\ns.length<=1000/\Q (.int (ns.idxOf k:Nat)) H
theorem zwf:MtR X "list.index" (rIndex X.K):=by
 intro pins s σ H x xs v us Q I T rs h;let(p,ns,k,rfl,rfl,O,M,hz,q):=h;cases T;let(u,rfl,t,rfl):=vals1 rs;let(vs,d,f,_):=I.list O;let hi:=zey d;let((cls,i,data,Y),D,C,n,hd):=f.isList;simp only at C hd;subst C hd;let L:=hi.length;let g:ns.idxOf k<ns.length:=y1d.mpr M;apply iQ PySem.F.slot_list_index ⟨_,D,R⟩ PySem.F.entry_list_index (PySem.F.args_list_index_2 _ _)
  (SeqAt.list_indexAt p vs.toArray n i Y (.int k t) (isInt k) (ns.idxOf k) (by simpa[L]using g) 00 ?_ ?_) ⟨D,λy U=>(eq_isInt k t hi y<|by simpa using U).at _ _,?_⟩
 .change isInt k vs[ns.idxOf k]=N;rw[isInt_at k hi _ 00 g];simpa using y2g g
 .intro j a o;change isInt k vs[j]=Fa;rw[isInt_at k hi j (by simpa using a) 00];show ne_of_lt_idxOf o _
 .exact⟨.int _,H,I.tok _,⟨_,R⟩,q⟩
theorem zsj(K:Frag)(h:X.K=K:=by rfl):MtR X "list.index" (rIndex K):=h▸zwf
def rCatTN(K:Frag):R2:=λx y H Q=>∃a b xs ys,x=.ref a/\y=.ref b/\SqT K H a xs/\SqT K H b ys/\xs≠[]/\ys≠[]/\xs.length+ys.length<=ii/\∀p H',New H p (.tup<|xs++ys) H'->Q 09 H'
theorem zvw:OpR X (iF .Add) (rCatTN X.K):=λpins s σ H x y v u Q I T c h=>by
 let(a,b,xs,ys,g,C,d,U,O,j,hz,q):=h;show zzc pins s σ H x y v u Q I T c ⟨a,b,xs,ys,g,C,d,U,O,hz,λz=>Xa z j,λ_ p E=>q p _<|.mk' E _⟩
theorem zr1(K:Frag)(h:X.K=K:=by rfl):OpR X (iF .Add) (rCatTN K):=h▸zvw
section
variable {tn:List Str}{cp:Y6}{g:TG}{tif:TT}{te:TE}{σ0:St}{Q:VK}{H1:Hp}{n:Nat}
def PGen(S:St->Prop)(Gq:Nat->V->Hp->Prop)(H1:Hp)(i:Nat)(ys:List V)(σ:St)(H:Hp):Prop:=Same H1 H/\S σ/\ys.length=i/\∀j y,ys[j]?=G y->Gq j y H
theorem zjc(S:St->Prop)(Gq:Nat->V->Hp->Prop)(I:n<=1000)(w:S 031)(l:∀i H,i<n->Same H1 H->J.go i H)(a:∀H,Same H1 H->J.stop n H)
  (hs:∀D i ys σ H x H',i<n->Same H1 H->H1 D=B->H D=G 50->ys.length=i->(∀j y,ys[j]?=G y->Gq j y H)->S σ->J.yld i H x H'->g x σ H' λd H2=>tif d H2 λc H3 =>
   if c=N then te d H3 λv H4=>CStep D n i (PGen S Gq H1) d v H4 else CSkip D n i (PGen S Gq H1) d H3)
  (hd:∀D ys H,H1 D=B->Same H1 H->H D=G 50->ys.length=n->(∀j y,ys[j]?=G y->Gq j y H)->Q 65 H):cBody tn cp g tif te σ0 Q J H1:=by
 apply zt6 n (λD=>PGen S Gq H1) (zaf I) (λD u=>⟨zba u _,w,R,λj y e=>by simp at e⟩) (λD i ys σ H _ hi _ p=>l i H hi p.1) (λD ys σ H _ _ p=>a H p.1) ?_ ?_
 .rintro D i ys σ H x H' u hi A Y ⟨r,M,z,q⟩ U;show hs D i ys σ H x H' hi r u A z q M U
 .rintro D ys σ H u A Y ⟨r,M,z,q⟩;show hd D ys H u r A z q
theorem zcs(a:∀j y H H',TupS H H'->Gq j y H->Gq j y H')(I:n<=1000)(hi:i<n)(u:H1 D=B)(C:H4 D=G 50)(Y:ys.length=i)
  (U:∀j y,ys[j]?=G y->Gq j y H) (ts:TupS H H4) (r:Same H1 H4) (s2:S d) (e:Gq i v H4):CStep D n i (PGen S Gq H1) d v H4:=by
 apply cstep (zaf I) hi C 00 ⟨r.wr u _,s2,by simp[Y],λj y O=>?_⟩;by_cases h:j<ys.length
 .rw[y16 h]at O;show a j y _ _ (ts.trans<|TupS.wr C _)<|U j y O
 .rw[y12 00]at O;let s:j-ys.length=0:=by
   cases q:j-ys.length with
   |zero=>rfl
   |succ k=>rw[q]at O;simp at O
  rw[s]at O;simp at O;subst O;rw[show j=i by omega];show a i _ _ _ (TupS.wr C _) e
end
theorem zna{K:Frag}{a:Ad}{xs:List V}{i:Nat}{H H':Hp}{v:V}(O:SqL K H a xs)(y:(Ite K a).yld i H v H'):∃p x,v=.ref p/\New H p (.tup [.int (i:Int),x]) H'/\xs[i]?=G x:=by
 let(p,x,e,n,h):=y;show⟨p,x,e,n,h xs O⟩
theorem zul{K:Frag}{a b:Ad}{xs ys:List V}{i:Nat}{H H':Hp}{v:V}(O:SqL K H a xs)(U:SqT K H b ys)(z:(ItzL K a b).yld i H v H'):∃p x y,v=.ref p/\New H p (.tup [x,y]) H'/\xs[i]?=G x/\ys[i]?=G y:=by
 let(p,x,y,e,n,L,J):=z;show⟨p,x,y,e,n,L xs O,J ys U⟩
def tDisp1T(J c:TE):TE:=λσ H Q=>∀p H1,New H p (.dT []) H1->J σ H1 λy H2=>c σ H2 λz H3=>H3 p=G (.dT [])/\∃b ks,y=.ref b/\H3 b=G (.tup<|ks.map kV)/\Q 09 (upd H3 p<|.dT [(ks,z)])
theorem zrr{tk c:TE}(C:X.A.units+8<cLine)(M:PE X k tk)(hv:PE X v c):PE X (.Dict [G k] [v] pos) (tDisp1T tk c):=by
 intro pins s σ H Q I q;let I1:=I.laid (a:=s.heap.objs.size) (o:=.dT []) (h':=s.heap.push {cls:=.type "dict",data:=.dict #[]}) (t':=s.toks) (λ_ _ q=>y04 _ q) 08<|zoj s.heap I.big;let e:(evalEachOpt [G k] X.env).zip ((evalEach [v] X.env).map λv=>do let x ←v;standAt pos;pure x)=[(eval k X.env,do let x ←eval v X.env;standAt pos;pure x)].map λp=>(G p.1,p.2):=rfl;rw[arm_eval_Dict,e,dictDisplay_pairs _ 06 06];apply ia<|iS (ia ?_);unfold subDict;apply ia<|wpAny_alloc (ia<|im ?_);rw[Xq 06];apply ia<|evalPairs_cons ?_;apply thn (M pins _ σ _ _ I1<|q _ _ (.mk' I.fresh _)) λD s2 zz=>ex5 zz λy H2 w O i=>?_;apply ia<|thn (hv pins s2 σ H2 _ w i) λY j zz=>ex5 zz λz H3 I3 r zq=>?_;let(ep,b,ks,T,L,g):=zq;subst T;obtain rfl:D=Va.ref b:=O;apply ia<|iS (ib<|evalPairs_nil (im ?_));rw[y2c];let(zz,hd,xs,rel,dd):=dt_of I3.hok ep;cases rel;apply ia<|ia ?_;change wpAny _ _ (dictSet s.heap.objs.size (Va.ref b) Y>>=_) _ _ _;apply ia<|wpAny_dictSet_heap (knd:=jQ<|mixKind X.prog X.w) (hsz:=by rw[y1k];show y13 _) (show X.A.units<cLine by omega) (zkw I3.hok L) dd λh' U hs=>ib ?_;dsimp only;rw[y2x];apply ib<|ib (ib<|ib ?_);let(o,l,d,A,J,f,h4,u,E):=U;apply⟨.ref s.heap.objs.size,_,zi8 I3 (by rw[ep];show True.intro) hs ⟨o,A⟩ ?_,R,g⟩;apply⟨zaf 06,hd,storedH [] ks b Y,?_,o,l,d,A,J,f,h4,E⟩;change i8 _ [(ks,z)] [(ks,b,Y)];apply .cons ⟨R,?_,r⟩ .nil;rw[zam<|zsg L ep (λz=>nomatch z)];show L
def NeOk(X:Cx)(k:Nat)(H:Hp)(x y:V)(b:Bool):Prop:=∀(pins:Y2) (σ:St) (s:ig) (A:io) (u v:Va),A.units+k<cLine->02 H s->RelV x u->RelV y v->SeqAt.RcNeAt A s u v b
def rNeM(X:Cx):R2:=λx y H Q=>∃c,NeOk X 8 H x y c/\Q (.bl c) H
def rRange2:List V->Hp->VK->Prop:=λxs H Q=>∃i j:Int,xs=[.int i,.int j]/\∀p H',New H p (.rng i j) H'->Q 09 H'
def rListRng:List V->Hp->VK->Prop:=λxs H Q=>∃(p:Ad) (i j:Int),xs=[.ref p]/\H p=G (.rng i j)/\(0<=i/\i<=j/\j<=1000)/\∀l H',New H l (.lst<|(List.range (j-i).toNat).map λ(k:Nat)=>V.int<|i+k) H'->Q (.ref l) H'
def rRepN:R2:=λx y H Q=>∃l k xs,x=.ref l/\y=.int k/\H l=G 91/\-(2^63)<=k/\k<2^63/\xs.length*k.toNat<=ii/\∀p H',New H p (.lst (List.replicate k.toNat xs).flatten) H'->Q 09 H'
theorem zy9:OpR X (iF .Mult) rRepN:=λpins s σ H x y v u Q I T O h=>by
 let(l,k,xs,g,C,L,J,f,w,q):=h;show op_rep pins s σ H x y v u Q I T O ⟨l,k,xs,g,C,L,J,f,w,λp E=>q p _<|.mk' E _⟩
theorem zog{q:Type}(x:q):∀n:Nat,(List.replicate n [x]).flatten=List.replicate n x
 |0=>rfl
 |n+1=>by rw[y25,y2w,zog x n,y25];rfl
noncomputable def Itez(K:Frag)(a b:Ad):It :=
 ⟨λi H=>∃xs ys x y,SqT K H a xs/\SqT K H b ys/\xs[i]?=G x/\ys[i]?=G y,
  λi H v H'=>∃p r H1 x y,v=.ref r/\New H p (.tup [x,y]) H1/\New H1 r (.tup [.int (i:Int),.ref p]) H'/\(∀xs,SqT K H a xs->xs[i]?=G x)/\∀ys,SqT K H b ys->ys[i]?=G y,
  λi H=>∃xs ys,SqT K H a xs/\SqT K H b ys/\xs.length<=i⟩
def iEZ(K:Frag)(l:TA):TI:=λσ H Rq=>l σ H λvs H1=>∃a b,vs=[.ref a,.ref b]/\(∃xs,SqT K H1 a xs)/\(∃ys,SqT K H1 b ys)/\Rq (Itez K a b) H1
section
variable {tn:List Str}{cp:Y6}{g:TG}{tif:TT}{te:TE}{σ0:St}{Q:VK}{H1:Hp}{lo:Int}{n:Nat}
def PRnF(S:St->Prop)(p:Nat->Bool)(f:Nat->V)(H1:Hp)(i:Nat)(ys:List V)(σ:St)(H:Hp):Prop:=Same H1 H/\S σ/\ys=((020).filter p).map f
theorem crf_map(S:St->Prop)(p:Nat->Bool)(f:Nat->V)(I:n<=1000)(w:S 031)
  (hs:∀D i σ H,i<n->Same H1 H->H1 D=B->H D=G (.lst<|((020).filter p).map f)->S σ->g (.int<|lo+i) σ H λd H2=>tif d H2 λc H3 =>
   if c=N then te d H3 λv H4=>CStep D n i (PRnF S p f H1) d v H4 else CSkip D n i (PRnF S p f H1) d H3)
  (hd:∀D H,H1 D=B->Same H1 H->H D=G (.lst<|((List.range n).filter p).map f)->Q 65 H):cBody tn cp g tif te σ0 Q (Itr lo n) H1:=by
 apply zt6 n (λD=>PRnF S p f H1) (zaf I) (λD u=>⟨zba u _,w,R⟩) (λD i ys σ H _ hi _ _=>hi) (λD ys σ H _ _ _=>y05 _) ?_ ?_
 .rintro D i ys σ H x H' u hi A Y ⟨r,M,rfl⟩ ⟨rfl,rfl⟩;show hs D i σ _ hi r u A M
 .rintro D ys σ H u A Y ⟨r,M,rfl⟩;show hd D H u r A
theorem ztr(p:Nat->Bool)(f:Nat->V)(i:Nat):(((020).filter p).map f).length<=i:=by
 rw[y01];let:=y1y p 020;rw[y0x]at this;show this
theorem zwz(I:n<=1000)(hi:i<n)(E:p i=N)(u:H1 D=B)(C:H4 D=G (.lst<|((020).filter p).map f))(r:Same H1 H4)(s2:S d)(e:v=f i):CStep D n i (PRnF S p f H1) d v H4:=by
 subst e;apply cstep (zaf I) hi C (ztr p f i) ⟨r.wr u _,s2,?_⟩;rw[y2h,y1z,y0v];simp[E]
theorem zw0(hi:i<n)(E:p i=Fa)(U:H3 D=G (.lst<|((020).filter p).map f))(g3:Same H1 H3)(s2:S d):CSkip D n i (PRnF S p f H1) d H3:=by
 apply cskip hi U (ztr p f i) ⟨g3,s2,?_⟩;rw[y2h,y1z];simp[E]
end
def rCatTE:R2:=λx y H Q=>∃a b xs ys,x=.ref a/\y=.ref b/\H a=G 98/\H b=G (.tup ys)/\xs.length+ys.length<=ii/\∀p H',Same H H'->H' p=G (.tup<|xs++ys)->Q 09 H'
noncomputable def without(h:Heap):List Ad->Heap
 |[]=>h
 |b::L=>without (h.update b λ_=>{cls:=.none,data:=.freed}) L
theorem zp3(h:Heap)(a:Ad):(h.update a λ_=>{cls:=.none,data:=.freed}).get? a=B:=by
 let(objs,l):=h;change(match(objs.modify a λ_=>({cls:=.none,data:=.freed}:Obj))[a]? with
  |some ⟨_,_,.freed,_⟩=>B
  |o=>o)=B
 by_cases h:a<objs.size
 .rw[y1p (by simpa using h),Array.getElem_modify];simp
 .rw[y3e<|by simpa using h]
theorem zds(b:Ad):∀(L:List Ad) (h:Heap),(without h L).get? b=if b∈L then B else h.get? b
 |[],h=>by simp[without]
 |c::L,h=>by
  rw[without,zds b L];by_cases U:b∈L
  .rw[Xq U,Xq<|y07 _ U]
  .rw[Xp U];by_cases C:b=c
   .subst C;rw[Xq y0a,zp3]
   .rw[Xp (by simp[C,U]),y1b _ _<|Ne.symm C]
theorem zda(U:b∈L):(without h L).get? b=B:=by rw[zds,Xq U]
theorem zci(U:b∉L):(without h L).get? b=h.get? b:=by rw[zds,Xp U]
theorem zib(h:Heap)(L:List Ad):(without h L).StaysIn h:=λb o e=>by
 by_cases U:b∈L
 .rw[zda U]at e;cases e
 .rw[zci U]at e;show e
theorem zgj{h base a:Heap}:∀{l:List Env},h.FunFrames base l->(∀b∈frs l,a.get? b=B)->h.FunFrames a l
 |[],_,_=>trivial
 |env::rest,⟨M,⟨L,o,T,I,q,hd⟩,D⟩,k=>by
  let e:frs (env::rest)=L::frs rest:=by change List.filterMap _ (env::rest)=_;rw[y27,T];rfl
  rw[e]at k;show⟨M,⟨L,o,T,k L y0a,q,hd⟩,zgj D λb U=>k b<|y07 _ U⟩
def Flown(w:Heap)(H:Hp)(h:Heap)(a:Ad)(cls:Va):Prop :=
 ∃(v:Obj) (vs:Array Va) (T:Ad) (j:Obj) (ts:Array Va),h.get? a=G v/\v.cls=cls/\v.data=.fields vs/\vs[1]?=G (.ref T)/\T≠a/\h.get? T=G j/\j.data=.fields ts/\ts[3]?=G .none/\
  w.get? a=B/\w.get? T=B/\H a=B/\H T=B
def CXE(P:ik)(w:World):CXT:=λouter H s E e s'=>∃(a:Ad) (cls:Va) (H':Hp),e=.ref a/\s'.os=s.os/\j8 s'.gens/\Un (frs outer) [] H H' s.heap s'.heap/\HOk P w H' s'.heap/\Flown s.heap H' s'.heap a cls/\E cls (G a) H'
theorem zmj(x:ObjOk P w H h a o):∃ob,h.get? a=G ob:=by
 induction o with
 |lst xs=>let(_,_,_,_,e):=x;show⟨_,e⟩
 |tup xs=>let(_,_,_,ob,e,_):=x;show⟨_,e⟩
 |dK kvs=>let(_,_,_,_,ob,_,_,e,_):=x;show⟨_,e⟩
 |dT kvs=>let(_,_,_,_,ob,_,_,e,_):=x;show⟨_,e⟩
 |set S n=>let(ob,_,_,_,e,_):=x;show⟨_,e⟩
 |ins C dx fs=>let(_,_,_,e,_):=x;show⟨_,e⟩
 |own _=>show x
 |xd fs=>let(_,(ob,l,ep,e,_),_):=x;show⟨_,e⟩
 |rng lo hi=>let(_,_,_,e):=x;show⟨_,e⟩
 |frz ob u=>show⟨_,x.1⟩
 |tbl qs ps=>let(_,e,_):=x;show⟨_,e⟩
 |met f y=>show⟨_,x⟩
 |ext s=>show x.2.1
section
variable {X:Cx}{pins:Y2}{σ:St}{H:Hp}{s:ig}{Ex:Y0}
theorem zwg(I:02 H s)(O:X.ex=[])(i:∀b∈L,X.s₀.heap.get? b=B/\H b=B)
  (l1:(without s.heap<|frs X.stack++L).StaysIn l) (l2:l.FunFrames (without s.heap<|frs X.stack++L) X.stack) (l3:l.Traced (without s.heap<|frs X.stack++L) a cls)
  (l4:∀b o,s.heap.get? b=G o->(∀vs,o.data ≠ .fields vs)->∃Y,l.get? b=G {o with slots:=Y}) (d:a∈L) (q:E cls (G a) H) :
  CXE X.prog X.w X.outer X.H₀ X.s₀ E 07 {s with heap:=l}:=by
 let(v,p,T,oT,ts,y,D,t3,t4,r,t6,A,t8,t9):=l3;let hTf:T∉frs X.stack:=λz=>by
  let(_,o,g,e2):=l2.mem z;rw[A]at g;cases g;show e2 _ t8
 let nx:∀b,b∉X.ex:=λb z=>by rw[O]at z;cases z
 let st:∀b o,b∉frs X.stack->b∉L->s.heap.get? b=G o->l.get? b=G o:=λb o h1 J e=>l1 b o (by rw[zci λz=>(y1c.mp z).elim h1 J];show e);let out:∀b o,X.s₀.heap.get? b=G o->b∉frs X.outer->b∉frs X.stack:=λb o e h z=>by
  rcases y09.mp (I.stkSub b z)with w|w
  .exact y0j (y0p (y0c e) I.ok.above) w
  .exact h w
 let nL:∀b o,X.s₀.heap.get? b=G o->b∉L:=λb o e z=>by rw[(i b z).1]at e;cases e
 let T0:X.s₀.heap.get? T=B:=by
  cases e:X.s₀.heap.get? T with
  |none=>rfl
  |some o =>
   let(Q,f):=I.base.there T o e<|nx T;rw[zci λz=>(y1c.mp z).elim hTf<|nL T o e]at r;rw[r]at f;cases f
 let HT:H T=B:=by
  cases e:H T with
  |none=>rfl
  |some o =>
   let(Q,f):=zmj<|I.hok T o e;by_cases hTL:T∈L
   .rw[(i T hTL).2]at e;cases e
   .rw[zci λz=>(y1c.mp z).elim hTf hTL]at r;rw[r]at f;cases f
 apply⟨a,cls,H,R,I.os,I.bare,⟨λb o e n U _=>?_,λb o e n U _=>?_,λb o e n _=>I.base.free b o e n<|nx b,λb o e _=>?_,I.base.tups,I.base.frzs,I.base.tbls⟩,λb o e=>?_,⟨v,p,T,oT,ts,y,D,t3,t4,t6,A,t8,t9,(i a d).1,T0,(i a d).2,HT⟩,q⟩
 .exact st b o (out b o e U) (nL b o e)<|I.base.keep b o e n U (nx b)
 .let(Y,g):=I.base.slot b o e n U<|nx b;let(_,Q,e2,M):=I.ok.funs.mem U;rw[e]at e2;cases e2;let(sl',j):=l4 b _ g M;show⟨sl',j⟩
 .let(Q,g):=I.base.there b o e<|nx b;by_cases U:b∈frs X.stack
  .let(_,o2,e2,_):=l2.mem U;show⟨o2,e2⟩
  .exact⟨Q,st b Q U (nL b o e) g⟩
 .refine(I.hok b o e).stay (λc u C x=>st c u (λz=>?_) (λz=>?_) x) (λ_ z=>z) (λ_ _ _ _ _ z=>z) λ_ _ z=>z
  .let:=I.stkFree c z;rcases C with rfl|C
   .rw[this]at e;cases e
   .rw[this]at C;cases C
  .let:=(i c z).2;rcases C with rfl|C
   .rw[this]at e;cases e
   .rw[this]at C;cases C
theorem zhz(I:02 H s)(O:X.ex=[])(hs:X.stack=X.env::X.outer)(x:X.env.frame=G X.env.locals)(c:CXE X.prog X.w X.stack H s E' e s')(q:∀a cls H',E' cls (G a) H'->E cls (G a) H'):
  wpAny 20 X.A (lz X.env e) (λ_ d=>CXE X.prog X.w X.outer X.H₀ X.s₀ E e d) Ex s':=by
 let(a,cls,H',rfl,os,bare,un,hok,(v,vs,T,j,ts,y,D,Y,u,t6,A,C,i,n1,n2,p,J),ee):=c;let r:02 H' s':=I.call' os un hok bare λb z=>nomatch z;let g:∀b,s.heap.get? b=B->X.s₀.heap.get? b=B:=λb z=>by
  cases e:X.s₀.heap.get? b with
  |none=>rfl
  |some o =>
   let(Q,f):=I.base.there b o e (λz=>by rw[O]at z;cases z);rw[z]at f;cases f
 apply wpAny_leaving_next (base:=without s'.heap<|frs X.stack++[a,T]) (outer:=X.outer) (L:=X.env.locals) (cls:=cls) (by rw[←hs];show I.ok.frames) (by rw[←hs];show zgj r.stack λb U=>zda<|y3j _ U) x
  ⟨v,vs,T,j,ts,y,D,Y,u,zda<|y15 _ 06,t6,A,C,i⟩ (zib _ _) (zda<|y15 _ 06) λl ⟨l1,l2,w,M⟩=>?_
 rw[←hs]at l2;show zwg (L:=[a,T]) r O (λb U=>by
  simp only[y09,y0o,or_false]at U;rcases U with rfl|rfl
  .exact⟨g _ n1,p⟩
  .exact⟨g _ n2,J⟩) l1 l2 w M 06 (q _ _ _ ee)
end
structure Rs(X:Cx)(E:XK):Prop where
 ex:X.ex=[]
 st:X.stack=X.env::X.outer
 fr:X.env.frame=G X.env.locals
 xe:∀e s',wpAny 20 X.A (lz X.env e) (λ_ s''=>CXE X.prog X.w X.outer X.H₀ X.s₀ E e s'') (λe' s''=>CXE X.prog X.w X.outer X.H₀ X.s₀ E e' s'') s'->X.xe e s'
def tRaise(E:XK)(cls:Va)(t:TA):TS:=λD σ H=>t σ H λvs H1=>vs.length<=ii/\∀a,H1 a=B->E cls (G a) H1
theorem Fun.okE{P:ik}{w:World}{K:Frag}{mg:Y1}{base:Heap}{x qual:Str}{st:Stmt}{f:Ad}{fd:i6}{Nq ps:List Str}{k:Nat}{sp:Sp}(F:Fun K x qual st f fd)(S:FnScope Nq ps 66)(len:∀vs H Q E,sp vs H Q E->vs.length=ps.length)
  (i:∀(l:Va) (A:io) (outer:List Env) (s:ig) (H:Hp) (vs:List V) (Q:VK) (E:XK),Room k (A.deeper<|jd qual 66 s.heap.objs.size f l)->sp vs H Q E->Rs (cxOf (CXE P w) P w K mg base Nq qual 66 f l A outer s H E) E->
   ∃t,PSs (cxOf (CXE P w) P w K mg base Nq qual 66 f l A outer s H E) (defBody st) t/\t {nx:=λ_ H'=>Q .non H',rt:=Q} 026 H):FnOk P w K mg base (CXE P w) (k+1) f fd ps sp:=by
 let(oc,j,kV,doc,r,g,l,ct,z,rfl,lk,hcd):=F.ex;show fn_of lk hcd S len λA outer s H vs Q E D a=>i l A outer s H vs Q E D a ⟨R,R,R,λ_ _ h=>h⟩
open PySem PySem.Spec PyProof.Rows PySem.Calls
section
variable {X:Cx}{pins:Y2}{σ:St}{H:Hp}{s:ig}
def ExcIs(a:Ad)(cls:Va)(h:Heap):Prop:=∃(o:Obj) (vs:Array Va),h.get? a=G o/\o.cls=cls/\o.data=.fields vs
noncomputable def excO(a:Ad)(cls:Va):HO:=.ext<|ExcIs a cls
end
open PySem PySem.Spec PyProof.Rows PySem.W
structure KExc(K:Frag)(C:Ad):Prop where
 ga:findIn K (.ref C) "__getattribute__"=G (G<|.builtin "BaseException.__getattribute__")
 gn:findIn K (.ref C) "__getattr__"=G B
 cl:findIn K (.ref C) "__class__"=G (G<|.builtin "object.__class__")
 mb:mroIn K C (.type "BaseException")=G N
 mo:mroIn K C (.type "object")=G N
 ic:hasDictIn K C=N
def rIsX(K:Frag):List V->Hp->VK->Prop:=λxs H Q=>∃a C S b,xs=[.ref a,.ref S]/\H a=G (excO a<|.ref C)/\KExc K C/\kitOne K (.ref C) (.ref S)=G b/\Q (.bl b) H
def rIsXT(K:Frag):List V->Hp->VK->Prop:=λxs H Q=>∃a C T b,xs=[.ref a,.ty T]/\H a=G (excO a<|.ref C)/\KExc K C/\kitOne K (.ref C) (.type T)=G b/\Q (.bl b) H
open PySem PySem.Spec PyProof.Rows PySem.W PySem.Calls
section
variable {X:Cx}{pins:Y2}{σ:St}{H:Hp}{s:ig}{k:Nat}{fa:Ad}{fd:i6}{ps:List Str}{sp:Sp}
def tTry(K:Frag)(S:Ad)(sp:Sp)(i j:Nat)(t:TA)(ts:TS):TS:=λD σ H=>t σ H λvs H1=>sp vs H1 (λv H2=>D.nx (σ.set i<|G v) H2) λcls e H2=>∀a,e=G a->∃C,cls=.ref C/\mroIn K C (.ref S)=G N/\
 ∀H3,Same H2 H3->H3 a=G (excO a cls)->ts {nx:=λM H'=>(∃v,M[j]?=G (G v))/\D.nx (M.set j B) H',rt:=λ_ _=>False} (σ.set j<|G 07) H3
end
structure CalE(P:ik)(w:World)(K:Frag)(mg:Y1)(base:Heap)(n:Nat)(x:Str)(ps:List Str)(sp:Sp):Prop where
 ex:∃f fd,FnOk P w K mg base (CXE P w) n f fd ps sp/\Binds K fd ps []/\PySem.W.keepIn K 61=N/\mg x=G 61
theorem Dfn.calE{P:ik}{w:World}{K:Frag}{mg:Y1}{base:Heap}{x:Str}{st:Stmt}{Nq ps:List Str}{k:Nat}{sp:Sp}(d:Dfn K mg x st ps)(S:FnScope Nq ps 66)(len:∀vs H Q E,sp vs H Q E->vs.length=ps.length)
  (i:∀(f:Ad) (l:Va) (A:io) (outer:List Env) (s:ig) (H:Hp) (vs:List V) (Q:VK) (E:XK),Room k (A.deeper<|jd x 66 s.heap.objs.size f l)->sp vs H Q E->Rs (cxOf (CXE P w) P w K mg base Nq x 66 f l A outer s H E) E->
   ∃t,PSs (cxOf (CXE P w) P w K mg base Nq x 66 f l A outer s H E) (defBody st) t/\t {nx:=λ_ H'=>Q .non H',rt:=Q} 026 H):CalE P w K mg base (k+1) x ps sp:=by
 let(f,fd,F,b,m):=d.ex;show⟨f,fd,F.okE S len<|i f,b,F.kp,m⟩
section
variable {X:Cx}{pins:Y2}{σ:St}{H:Hp}{s:ig}{k:Nat}{fa:Ad}{fd:i6}{ps:List Str}{sp:Sp}
def tTryN(K:Frag)(S:Ad)(sp:Sp)(t:TA)(ts:TS):TS:=λD σ H=>t σ H λvs H1=>sp vs H1 (λv H2=>D.nx σ H2) λcls e H2=>∀a,e=G a->∃C,cls=.ref C/\mroIn K C (.ref S)=G N/\
 ∀H3,Same H2 H3->ts {nx:=D.nx,rt:=λ_ _=>False} σ H3
end
section
variable {X:Cx}{pins:Y2}{σ:St}{H:Hp}{s:ig}{k:Nat}{fa:Ad}{fd:i6}{ps:List Str}{sp:Sp}
def tTryX(K:Frag)(S:Ad)(sp:Sp)(i:Nat)(t:TA)(ts:TS):TS:=λD σ H=>t σ H λvs H1=>sp vs H1 (λv H2=>D.nx (σ.set i<|G v) H2) λcls e H2=>∀a,e=G a->∃C,cls=.ref C/\mroIn K C (.ref S)=G N/\
 ∀H3,Same H2 H3->ts {nx:=D.nx,rt:=λ_ _=>False} σ H3
end
end L2
namespace SS
open PySem PySem.Spec PyProof.Rows L2
noncomputable def SMALL:Str:="abcdefghijklmnopqrstuvwxyz"
noncomputable def GREAT:Str:="ABCDEFGHIJKLMNOPQRSTUVWXYZ"
noncomputable def FIGS:Str:="0123456789"
noncomputable def signIn(c:Nat)(z:Str):Bool:=!(Builtin.Str.occurrences z ⟨#[c]⟩ 0 z.length 1).isEmpty
def nameB(z a:Str):Bool:=match z.cps.toList with
 |[]=>Fa
 |c::r=>decide (r.length<=3)&&signIn c a&&r.all λd=>signIn d FIGS
def isNm(x:V)(a:Str):Bool:=match x with
 |.str z=>nameB z a
 |_=>Fa
def zx9:Sp:=λvs H Q _=>∃x a k,vs=[x,.str a]/\Kd H x k/\(∀z,x=.str z->z.length<=1000)/\∀H',Same H H'->Q (.bl<|isNm x a) H'
def zie(a:Str):Sp:=λvs H Q _=>∃x k,vs=[x]/\Kd H x k/\(∀z,x=.str z->z.length<=1000)/\∀H',Same H H'->Q (.bl<|isNm x a) H'
structure Nam(z letters:Str):Prop where
 ex:∃d ds,z.cps.toList=d::ds/\d∈letters.cps.toList/\ds.length<=3/\∀x∈ds,x∈FIGS.cps.toList
theorem zq3(c:Nat)(z:Str):signIn c z=decide (c∈z.cps.toList):=PySem.StrLaws.found_one z c
def Thing(H:Hp)(y:V):Prop:=(∃k,Kd H y k)/\∀z,y=.str z->z.length<=1000
theorem Thing.same(h:Thing H y)(g:Same H H'):Thing H' y:=⟨let⟨k,q⟩:=h.1;⟨k,q.same g⟩,h.2⟩
theorem Thing.str(h:z.length<=1000):Thing H (.str z):=⟨⟨_,.str z⟩,λC e=>by cases e;show h⟩
theorem Thing.tup(e:H a=G 98):Thing H 07:=⟨⟨_,.tup e⟩,λC e=>by cases e⟩
def isName(x:V):Bool:=isNm x SMALL||isNm x GREAT
def zuv:Sp:=λvs H Q _=>∃x,vs=[x]/\Thing H x/\∀H',Same H H'->Q (.bl<|isName x) H'
theorem zex(h:isName x=N):∃z,x=.str z:=by
 cases x with
 |str z=>show⟨z,R⟩
 |_=>show Xa h (by simp[isName,isNm])
def frameB(xs:List V):Bool:=decide (xs.length<=4)&&xs.all isName&&decide xs.Nodup
def frB(H:Hp)(x:V):Bool:=match x with
 |.ref a=>match H a with
  |some (.lst xs)=>frameB xs
  |_=>Fa
 |_=>Fa
def Things(H:Hp)(xs:List V):Prop:=xs.length<=1000/\∀y∈xs,Thing H y
def zyb:Sp:=λvs H Q _=>∃x,vs=[x]/\Thing H x/\(∀a xs,x=.ref a->H a=G 91->Things H xs)/\∀H',Same H H'->Q (.bl<|frB H x) H'
theorem zhv:∀{xs:List V},xs.all isName=N->∃ks:List Key,xs=ks.map kV/\(xs.Nodup↔ks.Nodup)
 |[],_=>⟨[],R,by simp⟩
 |x::r,h=>by
  rw[y2d,y08]at h;let(z,rfl):=zex h.1;let(ks,e,n):=zhv h.2;apply⟨Sum.inr z::ks,by rw[y0m,←e];rfl,?_⟩;rw[y1o,y1o,n];apply and_congr_left λ_=>not_congr ?_;rw[e,y0e];constructor
  .rintro⟨k,M,e⟩;let:k=Sum.inr z:=kV_inj<|e.trans R;show this▸M
  .exactλM=>⟨_,M,R⟩
inductive zls(K:Frag)(vs:List V)(H:Hp)(Q:VK)(_E:XK):Prop
 |mk (a:Ad) (ns:List Int) (k:Int):(vs=[.ref a,.int k])->(SqL K H a<|ns.map V.int)->(0<=k)->(∀c,Q (.int c) H)->zls K vs H Q _E
theorem zcc(f:q->p)(xs:List q)(lo hi:Option Int):cutL (xs.map f) lo hi=(cutL xs lo hi).map f:=by
 unfold cutL;rw[y01,y39,List.map_drop]
inductive Sy where
 |bare (w n m:Str)
 |neg (s:Sy)
 |two (w:Str) (s t:Sy)
 |qu (w n:Str) (s:Sy)
noncomputable def rowWords:List Str:=["ahead","next"]
def treeWords:List Str:=["left","right","above"]
def bareWords:List Str:=["in","same","within","ahead","next","left","right","above"]
noncomputable def Sy.depth:Sy->Nat
 |.bare _ _ _=>1
 |.neg s=>s.depth+1
 |.two _ s t=>max s.depth t.depth+1
 |.qu _ _ s=>s.depth+1
noncomputable def Sy.parts:Sy->Nat
 |.bare _ _ _=>1
 |.neg s=>s.parts+1
 |.two _ s t=>s.parts+t.parts+1
 |.qu _ _ s=>s.parts+1
theorem Sy.depth_pos:∀s:Sy,1<=s.depth
 |.bare _ _ _=>y05 _
 |.neg s=>by unfold Sy.depth;omega
 |.two _ s t=>by unfold Sy.depth;omega
 |.qu _ _ s=>by unfold Sy.depth;omega
inductive Rep(H:Hp):V->Sy->Prop where
 |bare {a:Ad} {w n m:Str} (hw:w∈bareWords) (e:H a=G (.tup [.str w,.str n,.str m])):Rep H (.ref a)<|.bare w n m
 |neg {a:Ad} {x:V} {s:Sy} (e:H a=G (.tup [.str "not",x])) (h:Rep H x s):Rep H (.ref a)<|.neg s
 |two {a:Ad} {w:Str} {x y:V} {s t:Sy} (hw:w∈(["and","or"]:List Str)) (e:H a=G (.tup [.str w,x,y])) (h1:Rep H x s) (h2:Rep H y t):Rep H (.ref a)<|.two w s t
 |qu {a:Ad} {w n:Str} {x:V} {s:Sy} (hw:w∈(["some","all"]:List Str)) (e:H a=G (.tup [.str w,.str n,x])) (h:Rep H x s):Rep H (.ref a)<|.qu w n s
theorem Rep.same(r:Rep H v s)(g:Same H H'):Rep H' v s:=by
 induction r with
 |bare j e=>show .bare j<|g _ _ e
 |neg e _ Q=>show .neg (g _ _ e) Q
 |two j e _ _ p y=>show .two j (g _ _ e) p y
 |qu j e _ Q=>show .qu j (g _ _ e) Q
theorem Rep.tup(r:Rep H v s):∃a xs,v=.ref a/\H a=G 98:=by
 cases r with
 |bare j e=>show⟨_,_,R,e⟩
 |neg e _=>show⟨_,_,R,e⟩
 |two j e _ _=>show⟨_,_,R,e⟩
 |qu j e _=>show⟨_,_,R,e⟩
theorem zud:∀w∈bareWords,inV (.str w) [.str "some",.str "all"]=Fa:=by decide+kernel
theorem zsv:∀w∈(["and","or"]:List Str),inV (.str w) [.str "some",.str "all"]=Fa:=by decide+kernel
theorem zup:∀w∈(["some","all"]:List Str),¬w=("not":Str):=by decide+kernel
theorem zjt:∀w∈(["some","all"]:List Str),inV (.str w) [.str "some",.str "all"]=N:=by decide+kernel
theorem zv8:inV (.str "not") [.str "some",.str "all"]=Fa:=by decide+kernel
theorem zeg(z:Str)(l:List Str):inV (.str z) (l.map V.str)=decide (z∈l):=by
 induction l with
 |nil=>rfl
 |cons y r Q =>
  let e:inV (.str z) ((y::r).map V.str)=(eqV (.str y) (.str z)||inV (.str z) (r.map V.str)):=rfl;rw[e,Q,eqV_str];by_cases h:z=y
  .subst h;simp
  .let h':¬y=z:=λq=>h q.symm;simp[h,h']
noncomputable def isT(H:Hp)(x:V):Bool:=match x with
 |.ref a=>match H a with
  |some (.tup _)=>N
  |_=>Fa
 |_=>Fa
theorem Kd.isT(h:Kd H x k):subT k "tuple"=isT H x:=by
 cases h with
 |lst e=>simp only[SS.isT,e];decide
 |tup e=>simp only[SS.isT,e];decide
 |dK e=>simp only[SS.isT,e];decide
 |_=>rfl
def zck:Sp:=λvs H Q _=>∃a xs,vs=[.ref a]/\H a=G 98/\xs.length<=1000/\(∀y∈xs,∃k,Kd H y k)/\∀D H',H D=B->Same H H'->H' D=G (.lst<|xs.filter (isT H))->Q 65 H'
noncomputable def Sy.inner:Sy->List Sy
 |.bare _ _ _=>[]
 |.neg s=>[s]
 |.two _ s t=>[s,t]
 |.qu _ _ s=>[s]
theorem Rep.kd(r:Rep H v s):Kd H v "tuple":=by
 let(a,xs,rfl,e):=r.tup;show .tup e
theorem Rep.isT(r:Rep H v s):isT H v=N:=by
 let(a,xs,rfl,e):=r.tup;simp only[SS.isT,e]
theorem Rep.items(r:Rep H v s):∃a xs,v=.ref a/\H a=G 98/\xs.length<=3/\(∀y∈xs,∃k,Kd H y k)/\i8 (Rep H) (xs.filter<|SS.isT H) s.inner:=by
 cases r with
 |bare j e =>
  apply⟨_,_,R,e,y05 _,λy U=>?_,.nil⟩;simp only[y09,y0o,or_false]at U;rcases U with rfl|rfl|rfl<;>show⟨_,.str _⟩
 |neg e h =>
  apply⟨_,_,R,e,by simp,λy U=>?_,?_⟩
  .simp only[y09,y0o,or_false]at U;rcases U with rfl|rfl
   .exact⟨_,.str _⟩
   .exact⟨_,h.kd⟩
  .rw[y22 (by simp[SS.isT]),y21 h.isT];show .cons h .nil
 |two j e L J =>
  apply⟨_,_,R,e,by simp,λy U=>?_,?_⟩
  .simp only[y09,y0o,or_false]at U;rcases U with rfl|rfl|rfl
   .exact⟨_,.str _⟩
   .exact⟨_,L.kd⟩
   .exact⟨_,J.kd⟩
  .rw[y22 (by simp[SS.isT]),y21 L.isT,y21 J.isT];show .cons L<|.cons J .nil
 |qu j e h =>
  apply⟨_,_,R,e,by simp,λy U=>?_,?_⟩
  .simp only[y09,y0o,or_false]at U;rcases U with rfl|rfl|rfl
   .exact⟨_,.str _⟩
   .exact⟨_,.str _⟩
   .exact⟨_,h.kd⟩
  .rw[y22 (by simp[SS.isT]),y22 (by simp[SS.isT]),y21 h.isT];show .cons h .nil
noncomputable def Sy.isBare:Sy->Bool
 |.bare _ _ _=>N
 |_=>Fa
def zf1:Sp:=λvs H Q _=>∃v s,vs=[v]/\Rep H v s/\∀H',Same H H'->Q (.bl s.isBare) H'
theorem Paired.at:∀{xs:List q} {ys:List p} {i:Nat} {x:q},i8 Rq xs ys->xs[i]?=G x->∃y,ys[i]?=G y/\Rq x y
 |_,_,_,_,.nil,h=>by simp at h
 |_,_,0,_,.cons h _,e=>by simp at e;subst e;show⟨_,R,h⟩
 |_,_,i+1,_,.cons _ h,e=>by simp only[y1s]at e ⊢;show Paired.at h e
theorem Paired.len:∀{xs:List q} {ys:List p},i8 Rq xs ys->xs.length=ys.length
 |_,_,.nil=>rfl
 |_,_,.cons _ h=>by rw[y0i,y0i,Paired.len h]
theorem zgi{s t:Sy}(h:t∈s.inner):t.depth<s.depth/\t.parts<s.parts:=by
 cases s with
 |bare w n m=>show nomatch h
 |neg s=>rw[y0l.mp h];show⟨y2p _,y2p _⟩
 |two w s1 s2 =>
  let h:t=s1\/t=s2:=by simpa[Sy.inner]using h
  let g:(Sy.two w s1 s2).depth=max s1.depth s2.depth+1:=rfl;let C:(Sy.two w s1 s2).parts=s1.parts+s2.parts+1:=rfl;rcases h with rfl|rfl<;>(rw[g,C];omega)
 |qu w n s=>rw[y0l.mp h];show⟨y2p _,y2p _⟩
theorem zf7{q:Type}{xs:List q}(h:1<=xs.length):¬(HT.sIx xs.length 0 (G 1)=0/\HT.sIx xs.length xs.length B=xs.length):=λz=>by
 let e:HT.sIx xs.length 0 (G ((1:Nat):Int))=min 1 xs.length:=HT.sIx_nat ..;let f:HT.sIx xs.length 0 (G 1)=min 1 xs.length:=e;rw[f]at z;omega
def isPl(z:Str):Bool:=isNm (.str z) SMALL
def isSt(z:Str):Bool:=isNm (.str z) GREAT
theorem nm_ex(h:isNm (.str z) l=N):∃c r,z.cps.toList=c::r/\r.length<=3/\c∈l.cps.toList/\∀d∈r,d∈FIGS.cps.toList:=by
 simp only[isNm,nameB]at h;split at h
 .cases h
 .rename_i c r e;rw[y08,y08,zq3,decide_eq_true_eq,decide_eq_true_eq,y0u]at h;show⟨c,r,e,h.1.1,h.1.2,λd hd=>by have:=h.2 d hd;rw[zq3,decide_eq_true_eq]at this;show this⟩
theorem zpt(h:isName (.str z)=N):isPl z=N\/isSt z=N:=by
 unfold isName at h;rw[y3h]at h;show h
theorem zk4(s:Sy):(Sy.neg s).depth=s.depth+1/\(Sy.neg s).parts=s.parts+1:=⟨R,R⟩
theorem zk3(w:Str)(s t:Sy):(Sy.two w s t).depth=max s.depth t.depth+1/\(Sy.two w s t).parts=s.parts+t.parts+1:=⟨R,R⟩
theorem zi7(w n:Str)(s:Sy):(Sy.qu w n s).depth=s.depth+1/\(Sy.qu w n s).parts=s.parts+1:=⟨R,R⟩
def forms:List (Str×List Str):=[("in",["place","set"]),("same",["place","place"]),("within",["set","set"]),("ahead",["place","place"]),("next",["place","place"]),("left",["place","place"]),("right",["place","place"]),("above",["place","place"]),
 ("not",["saying"]),("and",["saying","saying"]),("or",["saying","saying"]),("some",["name","saying"]),("all",["name","saying"])]
def sortB(a:V->Bool)(x:V)(s:Str):Bool:=if s="place" then isNm x SMALL else if s="set" then isNm x GREAT else if s="name" then isName x else a x
def zipB(a:V->Bool):List V->List Str->Bool
 |[],[]=>N
 |x::xs,s::c=>sortB a x s&&zipB a xs c
 |_,_=>Fa
def formH(H:Hp):Nat->V->Bool
 |0,_=>Fa
 |n+1,.ref a=>match H a with
  |some (.tup (.str w::r))=>match forms.lookup w with
   |some c=>zipB (formH H n) r c
   |none=>Fa
  |_=>Fa
 |_+1,_=>Fa
def Exp(H:Hp):Nat->V->Prop
 |0,v=>Thing H v
 |n+1,v=>Thing H v/\∀a xs,v=.ref a->H a=G 98->xs.length<=1000/\∀x∈xs,Exp H n x
theorem Exp.thing:∀{n:Nat} {v:V},Exp H n v->Thing H v
 |0,_,h=>h
 |_+1,_,h=>h.1
theorem Thing.same_tup(h:Thing H 07)(g:Same H H')(e:H' a=G 98):H a=G 98:=by
 let((k,M),_):=h;cases M with
 |lst z=>rw[g _ _ z]at e;cases e
 |tup z=>rw[g _ _ z]at e;cases e;show z
 |dK z=>rw[g _ _ z]at e;cases e
theorem Exp.same(g:Same H H'):∀{n:Nat} {v:V},Exp H n v->Exp H' n v
 |0,_,h=>Thing.same h g
 |n+1,v,h=>⟨h.1.same g,λa xs l e=>by
  subst l;let(L,J):=h.2 a xs R<|h.1.same_tup g e;show⟨L,λx O=>(J x O).same g⟩⟩
theorem zg7:∀{xs:List V} {c:List Str},(∀x∈xs,f x=g x)->zipB f xs c=zipB g xs c
 |[],[],_=>rfl
 |[],_::_,_=>rfl
 |_::_,[],_=>rfl
 |x::xs,s::c,h=>by
  change(sortB f x s&&zipB f xs c)=(sortB g x s&&zipB g xs c);rw[zg7 λy U=>h y<|y07 _ U];unfold sortB;rw[h x y0a]
theorem ze0(g:Same H H'):∀{n:Nat} {v:V},Exp H n v->formH H' n v=formH H n v
 |0,_,_=>rfl
 |n+1,v,h=>by
  cases v with
  |ref a =>
   let((k,M),_):=h.1;cases M with
   |lst z=>simp only[formH,z,g _ _ z]
   |dK z=>simp only[formH,z,g _ _ z]
   |tup z =>
    rename_i xs;let O:=(h.2 a xs R z).2;simp only[formH,z,g _ _ z];cases xs with
    |nil=>rfl
    |cons x r =>
     cases x with
     |str wd =>
      simp only[];cases forms.lookup wd with
      |none=>rfl
      |some c=>show zg7 λy U=>ze0 g<|O y (y07 _ U)
     |_=>rfl
  |_=>rfl
theorem zm9:∀{xs:List V} {c:List Str},xs.length≠c.length->zipB f xs c=Fa
 |[],[],h=>Xa R h
 |[],_::_,_=>rfl
 |_::_,[],_=>rfl
 |x::xs,s::c,h=>by
  change(sortB f x s&&zipB f xs c)=Fa;rw[zm9 λz=>h (congrArg (· + 1) z),y2f]
theorem zg6:∀{xs:List V} {c:List Str},xs.length=c.length->zipB f xs c=(039).all λi=>sortB f (xs.getD i .non) (c.getD i "")
 |[],[],_=>rfl
 |[],_::_,h=>nomatch h
 |_::_,[],h=>nomatch h
 |x::xs,s::c,h=>by
  change(sortB f x s&&zipB f xs c)=_;rw[zg6<|Nat.succ.inj h,y0i,y2t,y2d,y2z];rfl
def zig(n:Nat):Sp:=λvs H Q _=>∃v,vs=[v,.int n]/\Exp H n v/\∀H',Same H H'->Q (.bl<|formH H n v) H'
def zlr(n:Nat):Sp:=λvs H Q _=>∃v s,vs=[v,.str s,.int n]/\Exp H n v/\∀H',Same H H'->Q (.bl<|sortB (formH H n) v s) H'
def sp_sort':Nat->Sp
 |0=>λ_ _ _ _=>False
 |n+1=>zlr n
def wfB:Sy->Bool
 |.bare w n m=>if w="in" then isPl n&&isSt m else if w="within" then isSt n&&isSt m else isPl n&&isPl m
 |.neg s=>wfB s
 |.two _ s t=>wfB s&&wfB t
 |.qu _ n s=>isName (.str n)&&wfB s
noncomputable def letB(c:List Str)(d:Nat):List Str->Sy->Bool
 |a,.bare w n m=>decide (a.length<=d)&&decide (w∉c)&&(decide (n∈a)&&decide (m∈a))
 |a,.neg s=>decide (a.length<=d)&&decide (("not":Str)∉c)&&letB c d a s
 |a,.two w s t=>decide (a.length<=d)&&decide (w∉c)&&(letB c d a s&&letB c d a t)
 |a,.qu w n s=>decide (a.length<=d)&&decide (w∉c)&&(decide (n∉a)&&letB c d (a++[n]) s)
theorem Rep.det(r:Rep H v s)(q:Rep H v t):s=t:=by
 induction r generalizing t with
 |bare j e =>
  cases q with
  |bare g f=>rw[e]at f;cases f;rfl
  |neg f _=>rw[e]at f;cases f
  |two g f L _=>rw[e]at f;cases f;cases L
  |qu g f L=>rw[e]at f;cases f;cases L
 |neg e _ Q =>
  cases q with
  |bare g f=>rw[e]at f;cases f
  |neg f h'=>rw[e]at f;cases f;rw[Q h']
  |two g f _ _=>rw[e]at f;cases f
  |qu g f _=>rw[e]at f;cases f
 |two j e L J p y =>
  cases q with
  |bare g f=>rw[e]at f;cases f;cases L
  |neg f _=>rw[e]at f;cases f
  |two g f a b=>rw[e]at f;cases f;rw[p a,y b]
  |qu g f b=>rw[e]at f;cases f;cases L
 |qu j e h Q =>
  cases q with
  |bare g f=>rw[e]at f;cases f;cases h
  |neg f _=>rw[e]at f;cases f
  |two g f a b=>rw[e]at f;cases f;cases a
  |qu g f b=>rw[e]at f;cases f;rw[Q b]
end SS
set_option maxHeartbeats 1000000
namespace SS
open PySem PySem.Spec PyProof.Rows L2
section
variable {f:V->Bool}{x y:V}{r:List V}{s1 s2:Str}
theorem zf6:sortB f x "place"=isNm x SMALL:=Xq R
theorem zf5:sortB f x "set"=isNm x GREAT:=by unfold sortB;rw[Xp 21,Xq rfl]
theorem zqy:sortB f x "name"=isName x:=by unfold sortB;rw[Xp 21,Xp 21,Xq rfl]
theorem zdw:sortB f x "saying"=f x:=by unfold sortB;rw[Xp 21,Xp 21,Xp 21]
theorem zip_one:zipB f r [s1]=N↔∃x,r=[x]/\sortB f x s1=N:=by
 cases r with
 |nil=>simp[zipB]
 |cons x r =>
  cases r with
  |nil=>simp[zipB]
  |cons y r=>simp[zipB]
theorem zip_two:zipB f r [s1,s2]=N↔∃x y,r=[x,y]/\sortB f x s1=N/\sortB f y s2=N:=by
 cases r with
 |nil=>simp[zipB]
 |cons x r =>
  cases r with
  |nil=>simp[zipB]
  |cons y r =>
   cases r with
   |nil =>
    rw[show zipB f [x,y] [s1,s2]=(sortB f x s1&&(sortB f y s2&&N))from rfl,y4f,y08];show⟨λh=>⟨x,y,R,h⟩,λ⟨u,a,e,h⟩=>by cases e;show h⟩
   |cons z r=>simp[zipB]
theorem zhs(h:isNm x l=N):∃z,x=.str z:=by
 cases x with
 |str z=>show⟨z,R⟩
 |_=>cases h
end
theorem zwp(h:forms.lookup wd=G c):(wd="in"/\c=(["place","set"]:List Str))\/(wd="within"/\c=(["set","set"]:List Str))\/(wd∈bareWords/\¬wd=("in":Str)/\¬wd=("within":Str)/\c=(["place","place"]:List Str))\/
  (wd="not"/\c=(["saying"]:List Str))\/(wd∈(["and","or"]:List Str)/\c=(["saying","saying"]:List Str))\/(wd∈(["some","all"]:List Str)/\c=(["name","saying"]:List Str)):=by
 let m:=mem_of_lookup' h;simp only[forms,y09,y0o,or_false,Prod.mk.injEq]at m;rcases m with⟨rfl,rfl⟩|⟨rfl,rfl⟩|⟨rfl,rfl⟩|⟨rfl,rfl⟩|⟨rfl,rfl⟩|⟨rfl,rfl⟩|⟨rfl,rfl⟩|⟨rfl,rfl⟩|⟨rfl,rfl⟩|⟨rfl,rfl⟩|⟨rfl,rfl⟩|⟨rfl,rfl⟩|⟨rfl,rfl⟩
 .exact .inl ⟨R,R⟩
 .exact .inr<|.inr (.inl ⟨by decide+kernel,by decide+kernel,by decide+kernel,R⟩)
 .exact .inr<|.inl ⟨R,R⟩
 .exact .inr<|.inr (.inl ⟨by decide+kernel,by decide+kernel,by decide+kernel,R⟩)
 .exact .inr<|.inr (.inl ⟨by decide+kernel,by decide+kernel,by decide+kernel,R⟩)
 .exact .inr<|.inr (.inl ⟨by decide+kernel,by decide+kernel,by decide+kernel,R⟩)
 .exact .inr<|.inr (.inl ⟨by decide+kernel,by decide+kernel,by decide+kernel,R⟩)
 .exact .inr<|.inr (.inl ⟨by decide+kernel,by decide+kernel,by decide+kernel,R⟩)
 .exact .inr<|.inr (.inr<|.inl ⟨R,R⟩)
 .exact .inr<|.inr (.inr<|.inr (.inl ⟨by decide+kernel,R⟩))
 .exact .inr<|.inr (.inr<|.inr (.inl ⟨by decide+kernel,R⟩))
 .exact .inr<|.inr (.inr<|.inr (.inr ⟨by decide+kernel,R⟩))
 .exact .inr<|.inr (.inr<|.inr (.inr ⟨by decide+kernel,R⟩))
theorem zp6:∀wd∈bareWords,forms.lookup wd=G (if wd=("in":Str)then(["place","set"]:List Str)else if wd=("within":Str)then(["set","set"]:List Str)else(["place","place"]:List Str)):=by decide+kernel
theorem zp5:∀wd∈(["and","or"]:List Str),forms.lookup wd=G (["saying","saying"]:List Str):=by decide+kernel
theorem zp4:∀wd∈(["some","all"]:List Str),forms.lookup wd=G (["name","saying"]:List Str):=by decide+kernel
theorem zs3:forms.lookup ("not":Str)=G (["saying"]:List Str):=by decide+kernel
theorem zdn:∀{n:Nat} {v:V},formH H n v=N->∃s,Rep H v s/\wfB s=N/\s.depth<=n
 |0,_,h=>by cases h
 |n+1,v,h=>by
  cases v with
  |ref a =>
   simp only[formH]at h;split at h
   .rename_i wd r e;split at h
    .rename_i c hs;rcases zwp hs with⟨rfl,rfl⟩|⟨rfl,rfl⟩|⟨j,I,o,rfl⟩|⟨rfl,rfl⟩|⟨j,rfl⟩|⟨j,rfl⟩
     .let(x,y,rfl,L,J):=zip_two.mp h;rw[zf6]at L;rw[zf5]at J;let(T,rfl):=zhs L;let(p,rfl):=zhs J;apply⟨.bare "in" T p,.bare 21 e,?_,y2n<|y13 _⟩;change(if _ then _ else _)=N;rw[Xq R,y08];show⟨L,J⟩
     .let(x,y,rfl,L,J):=zip_two.mp h;rw[zf5]at L J;let(T,rfl):=zhs L;let(p,rfl):=zhs J;apply⟨.bare "within" T p,.bare 21 e,?_,y2n<|y13 _⟩;change(if _ then _ else if _ then _ else _)=N;rw[Xp 21,Xq R,y08];show⟨L,J⟩
     .let(x,y,rfl,L,J):=zip_two.mp h;rw[zf6]at L J;let(T,rfl):=zhs L;let(p,rfl):=zhs J;apply⟨.bare wd T p,.bare j e,?_,y2n<|y13 _⟩;change(if _ then _ else if _ then _ else _)=N;rw[Xp I,Xp o,y08];show⟨L,J⟩
     .let(x,rfl,L):=zip_one.mp h;rw[zdw]at L;let(s,r,d,E):=zdn L;show⟨.neg s,.neg e r,d,y2n E⟩
     .let(x,y,rfl,L,J):=zip_two.mp h;rw[zdw]at L J;let(s,r,d,E):=zdn L;let(t,q,w,f):=zdn J;apply⟨.two wd s t,.two j e r q,?_,y2n<|Nat.max_le.mpr ⟨E,f⟩⟩;change(wfB s&&wfB t)=N;rw[d,w];rfl
     .let(x,y,rfl,L,J):=zip_two.mp h;rw[zqy]at L;rw[zdw]at J;let(T,rfl):=zex L;let(t,q,w,f):=zdn J;apply⟨.qu wd T t,.qu j e q,?_,y2n f⟩;change(isName _&&wfB t)=N;rw[L,w];rfl
    .cases h
   .cases h
  |_=>cases h
theorem znq(r:Rep H v s):∀{n:Nat},wfB s=N->s.depth<=n->formH H n v=N:=by
 induction r with
 |bare j e =>
  rename_i a wd I i;intro n h d;cases n with
  |zero=>show Xa d (by change¬1<=0;decide)
  |succ n =>
   simp only[formH,e,zp6 wd j];by_cases M:wd=("in":Str)
   .rw[Xq M];let h':(isPl I&&isSt i)=N:=by have z:(if _ then _ else _)=N:=h;rw[Xq M]at z;show z
    rw[y08]at h';show zip_two.mpr ⟨_,_,R,by rw[zf6];show h'.1,by rw[zf5];show h'.2⟩
   .rw[Xp M];by_cases A:wd=("within":Str)
    .rw[Xq A];let h':(isSt I&&isSt i)=N:=by have z:(if _ then _ else if _ then _ else _)=N:=h;rw[Xp M,Xq A]at z;show z
     rw[y08]at h';show zip_two.mpr ⟨_,_,R,by rw[zf5];show h'.1,by rw[zf5];show h'.2⟩
    .rw[Xp A];let h':(isPl I&&isPl i)=N:=by have z:(if _ then _ else if _ then _ else _)=N:=h;rw[Xp M,Xp A]at z;show z
     rw[y08]at h';show zip_two.mpr ⟨_,_,R,by rw[zf6];show h'.1,by rw[zf6];show h'.2⟩
 |neg e _ Q =>
  intro n h d;cases n with
  |zero=>show Xa d<|y3i _
  |succ n =>
   simp only[formH,e,zs3];show zip_one.mpr ⟨_,R,by rw[zdw];show Q h<|y3c d⟩
 |two j e _ _ p y =>
  rename_i s t _ _;intro n h d;cases n with
  |zero=>show Xa d<|y3i _
  |succ n =>
   let d':=Nat.max_le.mp<|y3c d;let h':(wfB s&&wfB t)=N:=h;rw[y08]at h';simp only[formH,e,zp5 _ j];show zip_two.mpr ⟨_,_,R,by rw[zdw];show p h'.1 d'.1,by rw[zdw];show y h'.2 d'.2⟩
 |qu j e _ Q =>
  rename_i L _ s _;intro n h d;cases n with
  |zero=>show Xa d<|y3i _
  |succ n =>
   let h':(isName (.str L)&&wfB s)=N:=h;rw[y08]at h';simp only[formH,e,zp4 _ j];show zip_two.mpr ⟨_,_,R,by rw[zqy];show h'.1,by rw[zdw];show Q h'.2<|y3c d⟩
def zfj(n:Nat):Sp:=λvs H Q _=>∃v s,vs=[v]/\Rep H v s/\s.depth<n/\∀H',Same H H'->Q (.int s.parts) H'
def AnySay(H:Hp)(v:V)(s:Sy):Prop:=Rep H v s/\wfB s=N/\s.depth<=12/\s.parts<=60
def zf4:Sp:=λvs H Q _=>∃v,vs=[v]/\Exp H 12 v/\∀b H',Same H H'->(b=N↔∃s,AnySay H v s)->Q (.bl b) H'
def zj4(K:Frag)(bw:List Str)(n:Nat):Sp:=λvs H Q _=>∃v a c s tl mo,vs=[v,.ref a,.ref c,.int (mo:Nat)]/\Rep H v s/\s.depth<n/\H a=G (.lst<|List.map V.str tl)/\tl.length+s.depth<=300/\(∀H,SqT K H c<|bw.map V.str)/\∀H',Same H H'->Q (.bl<|letB bw mo tl s) H'
def SayOk(H:Hp)(bw:List Str)(mo:Nat)(v r:V):Prop:=∃a tl s,r=.ref a/\H a=G (.lst<|List.map V.str tl)/\frameB (List.map V.str tl)=N/\AnySay H v s/\letB bw mo tl s=N
def znk(bw:List Str)(mo:Nat):Sp:=λvs H Q _=>∃v r,vs=[v,r]/\Exp H 12 v/\Thing H r/\(∀a xs,r=.ref a->H a=G 91->Things H xs)/\∀b H',Same H H'->(b=N↔SayOk H bw mo v r)->Q (.bl b) H'
structure Forms(K:Frag)(w:World)(fa:Ad):Prop where
 ex:∃f,DctK K w fa f/\∀x,(∃ss b,forms.lookup x=G ss/\f x=G 47/\∀H,SqT K H b<|List.map V.str ss)\/(forms.lookup x=B/\f x=B)
noncomputable def wordOf:Sy->Str
 |.bare w _ _=>w
 |.neg _=>"not"
 |.two w _ _=>w
 |.qu w _ _=>w
def letR(c:List Str)(d:Nat)(a:List Str):Sy->Bool
 |.bare _ n m=>decide (n∈a)&&decide (m∈a)
 |.neg s=>letB c d a s
 |.two _ s t=>letB c d a s&&letB c d a t
 |.qu _ n s=>decide (n∉a)&&letB c d (a++[n]) s
theorem letB_eq(bw:List Str)(mo:Nat)(tl:List Str)(s:Sy):letB bw mo tl s=(decide (tl.length<=mo)&&decide (wordOf s∉bw)&&letR bw mo tl s):=by cases s<;>rfl
theorem zpy(a:∀w n t,s ≠ .qu w n t)(U:s.isBare=Fa):letR bw mo tl s=s.inner.all (letB bw mo tl):=by
 cases s with
 |bare w n m=>cases U
 |neg s=>simp[Sy.inner,letR]
 |two w s t=>simp[Sy.inner,letR]
 |qu w n t=>show Xa R<|a w n t
theorem zc9:∀(l:List Sy),((List.range l.length).map λi=>((l[i]?).map f).getD N).all id=l.all f
 |[]=>rfl
 |x::r=>by
  rw[y0i,y2t,y0m,y0q,y2d,y2d,←zc9 r];rfl
theorem zhu:∀{xs:List V},xs.all isName=N->∃tl:List Str,xs=tl.map V.str
 |[],_=>⟨[],R⟩
 |x::r,h=>by
  rw[y2d,y08]at h;let(z,rfl):=zex h.1;let(tl,e):=zhu h.2;show⟨z::tl,by rw[y0m,←e]⟩
theorem frB_ex(h:frB H x=N):∃a tl,x=.ref a/\H a=G (.lst<|List.map V.str tl)/\frameB (List.map V.str tl)=N/\tl.length<=4:=by
 cases x with
 |ref a =>
  simp only[frB]at h;split at h
  .rename_i xs e;let h':=h;unfold frameB at h';rw[y08,y08,decide_eq_true_eq]at h';let(tl,rfl):=zhu h'.1.2;show⟨a,tl,R,e,h,by have:=h'.1.1;rw[y01]at this;show this⟩
  .cases h
 |_=>cases h
open L2
theorem znf:∀{a b:List PySem.Str},a.map V.str=b.map V.str->a=b
 |[],[],_=>rfl
 |[],_::_,h=>by cases h
 |_::_,[],h=>by cases h
 |x::a,y::b,h=>by
  rw[y0m,y0m,List.cons.injEq]at h;rw[V.str.inj h.1,znf h.2]
inductive Lit where
 |str (z:Str)
 |oth
 |tnil
 |tcons (x r:Lit)
 deriving DecidableEq
def Oth(H:Hp)(v:V):Prop:=∃k,Kd H v k/\k≠"str"/\k≠"tuple"
def LitAt(H:Hp):Lit->V->Prop
 |.str z,v=>v=.str z/\z.length<=1000
 |.oth,v=>Oth H v
 |.tnil,v=>∃a,v=.ref a/\H a=G (.tup [])
 |.tcons x r,v=>∃a y ys,v=.ref a/\H a=G (.tup (y::ys))/\ys.length<=100/\LitAt H x y/\Items H r ys
where Items (H:Hp):Lit->List V->Prop
 |.tcons x r,ys=>∃z zs,ys=z::zs/\LitAt H x z/\Items H r zs
 |.tnil,ys=>ys=[]
 |_,_=>False
abbrev Items:=LitAt.Items
theorem Oth.same(g:Same H H')(h:Oth H v):Oth H' v:=let⟨k,z,r⟩:=h;⟨k,z.same g,r⟩
mutual
theorem LitAt.same(g:Same H H'):∀{l:Lit} {v:V},LitAt H l v->LitAt H' l v
 |.str z,_,h=>h
 |.oth,_,h=>Oth.same g h
 |.tnil,_,⟨a,e,h⟩=>⟨a,e,g _ _ h⟩
 |.tcons x r,_,⟨a,y,ys,e,h,Y,L,J⟩=>⟨a,y,ys,e,g _ _ h,Y,LitAt.same g L,Items.same g J⟩
theorem Items.same(g:Same H H'):∀{l:Lit} {ys:List V},Items H l ys->Items H' l ys
 |.tcons x r,_,⟨z,zs,e,L,J⟩=>⟨z,zs,e,LitAt.same g L,Items.same g J⟩
 |.tnil,_,h=>h
 |.str _,_,h=>h
 |.oth,_,h=>h
end
theorem LitAt.thing:∀{l:Lit} {v:V},LitAt H l v->Thing H v
 |.str z,_,⟨e,h⟩=>by subst e;show .str h
 |.oth,v,⟨k,h,L,_⟩=>⟨⟨k,h⟩,λz e=>by subst e;cases h;show Xa R L⟩
 |.tnil,_,⟨a,e,h⟩=>by subst e;show .tup h
 |.tcons x r,_,⟨a,y,ys,e,h,_,_,_⟩=>by subst e;show .tup h
mutual
theorem LitAt.exp:∀(n:Nat) {l:Lit} {v:V},LitAt H l v->Exp H n v
 |0,_,_,h=>h.thing
 |n+1,.str z,_,h=>⟨h.thing,λa xs e _=>by rw[h.1]at e;cases e⟩
 |n+1,.oth,v,h=>⟨h.thing,λa xs e f=>by
  subst e;let(k,M,_,J):=h;show Xa (M.inj<|.tup f) J⟩
 |n+1,.tnil,_,h=>⟨h.thing,λa xs e f=>by
  let(s,g,C):=h;rw[e]at g;cases g;rw[C]at f;cases f;show⟨y13 _,λx O=>nomatch O⟩⟩
 |n+1,.tcons x r,_,h=>⟨h.thing,λa xs e f=>by
  let(s,y,ys,g,C,Y,L,J):=h;rw[e]at g;cases g;rw[C]at f;cases f;apply⟨by rw[y0i];omega,λu O=>?_⟩;rcases y09.mp O with rfl|O
  .exact LitAt.exp n L
  .exact Items.exp n J u O⟩
theorem Items.exp:∀(n:Nat) {l:Lit} {ys:List V},Items H l ys->∀y∈ys,Exp H n y
 |n,.tcons x r,_,⟨z,zs,e,L,J⟩,y,U=>by
  subst e;rcases y09.mp U with rfl|U
  .exact LitAt.exp n L
  .exact Items.exp n J y U
 |n,.tnil,_,h,y,U=>by rw[show _=[]from h]at U;show nomatch U
 |n,.str _,_,h,y,U=>False.elim h
 |n,.oth,_,h,y,U=>False.elim h
end
theorem zeb(h:isNm (.str z) l=N):z.length<=4:=by
 let(c,r,e,Y,_):=nm_ex h;rw[zlp,e,y0i];omega
theorem zwc(h:isName (.str z)=N):z.length<=4:=(zpt h).elim zeb zeb
theorem zln:∀w∈bareWords,w.length<=1000:=by decide+kernel
theorem zum(h:wfB (.bare w n m)=N):n.length<=4/\m.length<=4:=by
 let h':(if w=("in":Str)then isPl n&&isSt m else if w=("within":Str)then isSt n&&isSt m else isPl n&&isPl m)=N:=h;split at h'
 .rw[y08]at h';show⟨zeb h'.1,zeb h'.2⟩
 .split at h'
  .rw[y08]at h';show⟨zeb h'.1,zeb h'.2⟩
  .rw[y08]at h';show⟨zeb h'.1,zeb h'.2⟩
theorem Exp.str(h:z.length<=1000):∀n,Exp H n (.str z)
 |0=>Thing.str h
 |n+1=>⟨Thing.str h,λa xs e=>by cases e⟩
theorem Exp.tup(e:H a=G 98)(Y:xs.length<=1000)(h:∀x∈xs,Exp H n x):Exp H (n+1) 07 :=
 ⟨Thing.tup e,λs c l f=>by cases l;rw[e]at f;cases f;show⟨Y,h⟩⟩
theorem Rep.exp(r:Rep H v s):wfB s=N->∀n,Exp H n v:=by
 induction r with
 |bare j e =>
  intro h n;let(l1,l2):=zum h;cases n with
  |zero=>show Thing.tup e
  |succ n =>
   apply Exp.tup e 06 λx O=>?_;simp only[y09,y0o,or_false]at O;rcases O with rfl|rfl|rfl
   .exact Exp.str (zln _ j) n
   .exact Exp.str 00 n
   .exact Exp.str 00 n
 |neg e _ Q =>
  intro h n;cases n with
  |zero=>show Thing.tup e
  |succ n =>
   apply Exp.tup e 06 λx O=>?_;simp only[y09,y0o,or_false]at O;rcases O with rfl|rfl
   .exact Exp.str 21 n
   .exact Q h n
 |two j e _ _ p y =>
  rename_i w _ _ s t _ _;intro h n;let h':(wfB s&&wfB t)=N:=h;rw[y08]at h';cases n with
  |zero=>show Thing.tup e
  |succ n =>
   apply Exp.tup e 06 λx O=>?_;simp only[y09,y0o,or_false]at O;rcases O with rfl|rfl|rfl
   .refine Exp.str ?_ n;let:∀w∈(["and","or"]:List Str),w.length<=1000:=by decide+kernel
    show this w j
   .exact p h'.1 n
   .exact y h'.2 n
 |qu j e _ Q =>
  rename_i w L _ s _;intro h n;let h':(isName (.str L)&&wfB s)=N:=h;rw[y08]at h';cases n with
  |zero=>show Thing.tup e
  |succ n =>
   apply Exp.tup e 06 λx O=>?_;simp only[y09,y0o,or_false]at O;rcases O with rfl|rfl|rfl
   .refine Exp.str ?_ n;let:∀w∈(["some","all"]:List Str),w.length<=1000:=by decide+kernel
    show this w j
   .exact Exp.str (by have:=zwc h'.1;omega) n
   .exact Q h'.2 n
theorem zfw{tl:List Str}(Y:tl.length<=1000)(h:∀z∈tl,z.length<=1000):Things H (tl.map V.str):=by
 apply⟨by rw[y01];show Y,λy U=>?_⟩;let(z,a,rfl):=y0e.mp U;show .str<|h z a
section
variable {K:Frag}{w:World}{h:Heap}{mg:Y1}
theorem sqt_mk(l:K.lookup p=G ⟨.type "tuple",j,.seq its n,Y⟩)(z:its.size<=ii)(r:Vals xs its.toList):∀H,SqT K H p xs :=
 λH=>.inr ⟨_,its,n,l,R,R,z,r⟩
def Entry(K:Frag)(e:DictEntry)(p:Str×List Str):Prop:=(∃t,e.key=.str p.1 t)/\∃b,e.val=.ref b/\∀H,SqT K H b<|List.map V.str p.2
theorem zc4:∀{l:List DictEntry} {ps:List (Str×List Str)},i8 (Entry K) l ps->∀x,(∃c b,ps.lookup x=G c/\lq Va.isStrOf l.toArray x=G 47/\∀H,SqT K H b<|List.map V.str c)\/(ps.lookup x=B/\lq Va.isStrOf l.toArray x=B)
 |_,_,.nil,x=>.inr ⟨R,by simp[lq]⟩
 |e::l,p::ps,.cons ⟨⟨t,I⟩,b,a,U⟩ r,x=>by
  let Q:=zc4 r x;unfold lq at Q ⊢;rw[List.find?_toArray]at Q ⊢;rw[y10,y2k];by_cases h:x=p.1
  .subst h;let g:Va.isStrOf p.1 e.key=N:=by rw[I];simp[Va.isStrOf]
   rw[g,beq_self_eq_true];show .inl ⟨_,b,R,congrArg G a,U⟩
  .let h':¬p.1=x:=λq=>h q.symm;let g:Va.isStrOf x e.key=Fa:=by rw[I];simp[Va.isStrOf,h']
   let C:(x==p.1)=Fa:=by simp[h]
   rw[g,C];show Q
theorem forms_mk(X:K.In h)(Gq:h.Ns ir mg)(a:PySem.W.nsIn K ir "FORMS"=G (G 09))(lo:(p==iK)=Fa)(l:K.lookup p=G ⟨.type "dict",B,.dict T n,#[]⟩)
  (M:PySem.W.KeysLit w.params T.toList) (L:i8 (Entry K) T.toList forms):∃q,GlV mg "FORMS" (.ref q)/\Forms K w q:=by
 apply⟨p,⟨_,PySem.W.mg_of X Gq a,R⟩,⟨λx=>match lq Va.isStrOf T x with|some (.ref b)=>G 47|_=>B,⟨lo,T,n,l,M,λx=>?_⟩,λx=>?_⟩⟩
 .rcases zc4 L x with⟨c,b,g,C,_⟩|⟨g,C⟩
  .simp only[C];show R
  .simp only[C];show trivial
 .rcases zc4 L x with⟨c,b,g,C,U⟩|⟨g,C⟩
  .exact .inl ⟨c,b,g,by simp only[C],U⟩
  .exact .inr ⟨g,by simp only[C]⟩
end
end SS
namespace SM
structure Mc where
 w:Nat
 ways:List (List Nat)
 ends:List Bool
noncomputable abbrev mM:=Mc.mk
structure Mc.Ok(m:Mc):Prop where
 wid:m.w<=4
 pos:0<m.ends.length
 few:m.ends.length<=100
 len:m.ways.length=m.ends.length
 line:∀l∈m.ways,l.length=2^m.w
 room:∀l∈m.ways,∀r∈l,r<m.ends.length
abbrev Mc.n(m:Mc):Nat:=m.ends.length
def Mc.go(m:Mc)(r l:Nat):Nat:=(m.ways.getD r []).getD l 0
noncomputable def Mc.fin(m:Mc)(r:Nat):Bool:=m.ends.getD r Fa
theorem Mc.Ok.at{m:Mc}(ok:m.Ok)(D:r<m.ends.length)(Y:l<2^m.w):∃line,m.ways[r]?=G line/\line[l]?=G (m.go r l)/\m.go r l<m.ends.length:=by
 let L:r<m.ways.length:=by rw[ok.len];show D
 let g:m.ways[r]?=G m.ways[r]:=y00 L;let J:l<m.ways[r].length:=by rw[ok.line _<|y0k L];show Y
 let C:m.ways[r][l]?=G m.ways[r][l]:=y00 J;let j:m.go r l=m.ways[r][l]:=by
  simp only[Mc.go,y02,g,y0y,C]
 show⟨_,g,by rw[j];show C,by rw[j];show ok.room _ (y0k L) _<|y0k J⟩
theorem Mc.Ok.go_lt{m:Mc}(ok:m.Ok)(D:r<m.n)(Y:l<2^m.w):m.go r l<m.n:=let⟨_,_,_,h⟩:=ok.at D Y;h
theorem Mc.fin_at{m:Mc}(D:r<m.ends.length):m.ends[r]?=G (m.fin r):=by
 unfold Mc.fin;rw[y02,y00 D,y0y]
def Mc.run(m:Mc)(r:Nat)(row:List Nat):Nat:=row.foldl m.go r
def Mc.path(m:Mc):Nat->List Nat->List Nat
 |r,[]=>[r]
 |r,l::ls=>r::m.path (m.go r l) ls
theorem Mc.run_snoc(m:Mc)(r:Nat)(row:List Nat)(l:Nat):m.run r (row++[l])=m.go (m.run r row) l:=by unfold Mc.run;rw[y2v];rfl
theorem Mc.run_cons(m:Mc)(r l:Nat)(row:List Nat):m.run r (l::row)=m.run (m.go r l) row:=rfl
theorem Mc.path_snoc(m:Mc):∀(row:List Nat) (r l:Nat),m.path r (row++[l])=m.path r row++[m.go (m.run r row) l]
 |[],r,l=>rfl
 |x::row,r,l=>by
  change r::m.path (m.go r x) (row++[l])=r::m.path (m.go r x) row++_;rw[path_snoc m row];rfl
theorem Mc.path_last(m:Mc):∀(row:List Nat) (r:Nat),∃J,m.path r row=J++[m.run r row]
 |[],r=>⟨[],R⟩
 |x::row,r=>by
  let(J,e):=path_last m row<|m.go r x;show⟨r::J,by change r::m.path (m.go r x) row=_;rw[e];rfl⟩
theorem Mc.path_len(m:Mc):∀(row:List Nat) (r:Nat),(m.path r row).length=row.length+1
 |[],r=>rfl
 |x::row,r=>by change(m.path (m.go r x) row).length+1=_;rw[path_len m row];rfl
theorem Mc.Ok.run_lt{m:Mc}(ok:m.Ok):∀(row:List Nat) (r:Nat),r<m.ends.length->(∀l∈row,l<2^m.w)->m.run r row<m.ends.length
 |[],r,h,_=>h
 |x::row,r,h,Y=>by
  let(_,_,_,J):=ok.at h<|Y x y0a;show run_lt ok row (m.go r x) J λl z=>Y l<|y07 _ z
theorem zrh(n:Nat):(2:Int)^n=((2^n:Nat):Int):=by
 induction n with
 |zero=>rfl
 |succ n Q=>rw[Int.pow_succ,Nat.pow_succ,Q];omega
theorem zb0(h:w<=4):1<=2^w/\2^w<=16:=by
 let:w=0\/w=1\/w=2\/w=3\/w=4:=by omega
 rcases this with rfl|rfl|rfl|rfl|rfl<;>decide
def Mc.Row(m:Mc)(row:List Nat):Prop:=∀l∈row,l<2^m.w
def Par(m:Mc)(r:Nat)(O:Mc)(r':Nat):Prop:=∀row,m.Row row->m.fin (m.run r row)=O.fin (O.run r' row)
theorem Mc.Row.cons{m:Mc}(Y:l<2^m.w)(h:m.Row row):m.Row (l::row):=λx O=>by
 rcases y09.mp O with rfl|O
 .exact Y
 .exact h x O
theorem Mc.Row.nil(m:Mc):m.Row []:=λ_ h=>nomatch h
theorem Par.go{m O:Mc}(h:Par m r O r')(Y:l<2^m.w):Par m (m.go r l) O (O.go r' l):=λrow D=>h (l::row)<|D.cons Y
theorem Par.symm(h:Par m r O r')(j:m.w=O.w):Par O r' m r:=λrow D=>(h row λl Y=>by rw[j];show D l Y).symm
theorem Par.trans(h:Par m r O r')(h':Par O r' a r'')(j:m.w=O.w):Par m r a r'':=λrow D=>(h row D).trans (h' row λl Y=>by rw[←j];show D l Y)
theorem Par.fin(h:Par m r O r'):m.fin r=O.fin r':=h []<|Mc.Row.nil m
theorem Par.of(Rq:Nat->Nat->Prop)(T:∀r r',Rq r r'->m.fin r=a.fin r')(y:∀r r' l,Rq r r'->l<2^m.w->Rq (m.go r l) (a.go r' l))(h:Rq r r'):Par m r a r':=λrow=>by
 induction row generalizing r r' with
 |nil=>showλ_=>T r r' h
 |cons l row Q=>showλD=>Q (y r r' l h<|D l y0a) λx O=>D x<|y07 _ O
def Lex(r' l' r l:Nat):Prop:=r'<r\/(r'=r/\l'<l)
structure Mc.Ord(m:Mc):Prop where
 grow:∀r l b,r<m.n->l<2^m.w->0<b->b<m.go r l->∃r' l',l'<2^m.w/\Lex r' l' r l/\m.go r' l'=b
 par:∀b,0<b->b<m.n->∃r' l',r'<b/\l'<2^m.w/\m.go r' l'=b
structure Canon(m:Mc):Prop where
 ord:m.Ord
 dist:∀i j,i<m.n->j<m.n->Par m i m j->i=j
theorem zh8{i m2:Mc}(j:i.w=m2.w)(A:Canon m2)(a:Par i 0 m2 0)(c:r<m2.n)(J:m2.Ok)(Y:l<2^i.w)(pr:Par i r m2 r)
  (d:∀r',r'<r->Par i r' m2 r'/\∀l,l<2^i.w->i.go r' l=m2.go r' l) (g:∀l',l'<l->i.go r l'=m2.go r l') (h:i.go r l<m2.go r l):False:=by
 let D:l<2^m2.w:=by rw[←j];show Y
 let U:=J.go_lt c D;let f:=pr.go Y;let fin:Par i (i.go r l) m2 (i.go r l)->False:=λp=>by
  let q:=(p.symm j).trans f j.symm;let:=A.dist _ _ 00 U q;omega
 by_cases w:i.go r l=0
 .rw[w]at fin;show fin a
 .let(r',l',y,u,e):=A.ord.grow r l (i.go r l) c D 00 h;rw[←j]at y;rcases u with o|⟨rfl,o⟩
  .let(p,q):=d r' o;let z:=p.go y;rw[q l' y,e]at z;show fin z
  .let z:=pr.go y;rw[g l' o,e]at z;show fin z
theorem zd4(j:i.w=m2.w)(u:i.Ok)(H:m2.Ok)(M:Canon i)(A:Canon m2)(a:Par i 0 m2 0)(r:Nat)(L:r<i.n)(J:r<m2.n):Par i r m2 r/\∀l,l<2^i.w->i.go r l=m2.go r l:=by
 induction r using Nat.strongRecOn with
 |_ r Q =>
  let d:∀r',r'<r->Par i r' m2 r'/\∀l,l<2^i.w->i.go r' l=m2.go r' l:=λr' h=>Q r' h 00 00;let pr:Par i r m2 r:=by
   by_cases w:r=0
   .subst w;show a
   .let(r',l',I,y,e):=M.ord.par r 00 L;let(p,q):=d r' I;let z:=p.go y;rw[←q l' y,e]at z;show z
  apply⟨pr,λl=>?_⟩
  induction l using Nat.strongRecOn with
  |_ l g =>
   intro Y;let c:∀l',l'<l->i.go r l'=m2.go r l':=λl' h=>g l' h 00;rcases Nat.lt_trichotomy (i.go r l) (m2.go r l)with h|h|h
   .exact(zh8 j A a J H Y pr d c h).elim
   .exact h
   .refine(zh8 j.symm M (a.symm j) L u (by rw[←j];show Y) (pr.symm j) (λr' I=>?_) (λl' y=>(c l' y).symm) h).elim;let(p,q):=d r' I;show⟨p.symm j,λl Y=>(q l<|by rw[j];show Y).symm⟩
theorem Mc.ext_go{i m2:Mc}(u:i.Ok)(H:m2.Ok)(j:i.w=m2.w)(I:i.n=m2.n)(y:∀r l,r<i.n->l<2^i.w->i.go r l=m2.go r l)(T:∀r,r<i.n->i.fin r=m2.fin r):i=m2:=by
 let g:i.ways=m2.ways:=by
  apply y2q (by rw[u.len,H.len];show I) λr L J=>?_;apply y2q (by rw[u.line _<|y0k L,H.line _<|y0k J,j]) λl f w=>?_;let D:r<i.n:=by rw[u.len]at L;show L
  let Y:l<2^i.w:=by rw[u.line _<|y0k L]at f;show f
  let:=y r l D Y;unfold Mc.go at this;simpa[y02,y00 L,y00 J,y00 f,y00 w]using this
 let C:i.ends=m2.ends:=by
  apply y2q I λr L J=>?_;let:=T r L;unfold Mc.fin at this;simpa[y02,y00 L,y00 J]using this
 cases i;cases m2
 simp_all
theorem zon{i m2:Mc}(j:i.w=m2.w)(u:i.Ok)(H:m2.Ok)(M:Canon i)(A:Canon m2)(a:Par i 0 m2 0):m2.n<=i.n:=by
 apply y2e λh=>?_;let r:0<i.n:=u.pos;let(r',l',I,y,e):=A.ord.par i.n r h;let c:l'<2^i.w:=by rw[j];show y
 let z:=(zd4 j u H M A a r' I 00).2 l' c;let:=u.go_lt I c;omega
theorem zc5(j:i.w=m2.w)(u:i.Ok)(H:m2.Ok)(M:Canon i)(A:Canon m2)(a:Par i 0 m2 0):i=m2:=by
 let I:i.n=m2.n:=Nat.le_antisymm (zon j.symm H u A M<|a.symm j)<|zon j u H M A a;apply Mc.ext_go u H j I (λr l D Y=>(zd4 j u H M A a r D 00).2 l Y) λr D=>(zd4 j u H M A a r D 00).1.fin
def ix(xs:List Nat)(i:Nat):Nat:=xs.getD i 0
theorem zcr(h:i<xs.length):xs[i]?=G (ix xs i):=by
 unfold ix;rw[y02,y00 h,y0y]
theorem zwj(h:xs[i]?=G v):ix xs i=v:=by unfold ix;rw[y02,h];rfl
theorem zef(h:i<xs.length):ix xs i∈xs:=y0n<|zcr h
theorem zi1(h:v∈xs):∃i,i<xs.length/\ix xs i=v:=by
 let(i,hi,e):=y1l h;show⟨i,hi,zwj<|by rw[y00 hi,e]⟩
theorem zxs(h:i<xs.length):ix (xs++ys) i=ix xs i:=by
 unfold ix;rw[y02,y02,y16 h]
theorem zsw(xs:List Nat)(v:Nat):ix (xs++[v]) xs.length=v:=by simp[ix]
theorem zxr(I:xs.Nodup)(hi:i<xs.length)(g:j<xs.length)(e:ix xs i=ix xs j):i=j:=by
 let L:=zcr hi;rw[e,←zcr g]at L;show(List.getElem?_inj hi I).mp L
structure Come(m:Mc)(rooms:List Nat)(at' l:Nat):Prop where
 nd:rooms.Nodup
 zero:ix rooms 0=0
 pos:0<rooms.length
 lt:∀r∈rooms,r<m.n
 disc:∀b,0<b->b<rooms.length->∃r' l',r'<b/\l'<2^m.w/\Lex r' l' at' l/\m.go (ix rooms r') l'=ix rooms b
 clos:∀r l',r<rooms.length->l'<2^m.w->Lex r l' at' l->∃t,t<rooms.length/\ix rooms t=m.go (ix rooms r) l'/\
  ∀b,0<b->b<t->∃r'' l'',l''<2^m.w/\Lex r'' l'' r l'/\r''<rooms.length/\m.go (ix rooms r'') l''=ix rooms b
theorem Come.start(h:0<m.n):Come m [0] 0 0 :=
 ⟨by simp,R,by simp,λr D=>by rw[y0l.mp D];show h,λb w L=>by simp at L;omega,λr l' _ _ u=>by rcases u with z|⟨_,z⟩<;>omega⟩
theorem zn4(h:Lex r l' a<|l+1):Lex r l' a l\/(r=a/\l'=l):=by
 rcases h with h|⟨h,h'⟩
 .exact .inl<|.inl h
 .by_cases e:l'=l
  .exact .inr ⟨h,e⟩
  .exact .inl<|.inr ⟨h,by omega⟩
theorem zxo(h:Lex r l' a l):Lex r l' a (l+1):=h.imp id λ⟨h,h'⟩=>⟨h,by omega⟩
theorem Come.old(c:Come m rooms a l)(d:a<rooms.length)(M:m.go (ix rooms a) l∈rooms):Come m rooms a (l+1):=by
 apply⟨c.nd,c.zero,c.pos,c.lt,λb w L=>?_,λr l' D y u=>?_⟩
 .let(r',l',J,f,C,E):=c.disc b w L;show⟨r',l',J,f,zxo C,E⟩
 .rcases zn4 u with u|⟨rfl,rfl⟩
  .exact c.clos r l' D y u
  .let(t,p,I):=zi1 M;apply⟨t,p,I,λb w L=>?_⟩;let(r',j,J,f,C,E):=c.disc b w 00;show⟨r',j,f,C,by omega,E⟩
theorem Come.new(c:Come m rooms a l)(d:a<rooms.length)(Y:l<2^m.w)(I:m.go (ix rooms a) l<m.n)(M:¬m.go (ix rooms a) l∈rooms):Come m (rooms++[m.go (ix rooms a) l]) a (l+1):=by
 let len:(rooms++[m.go (ix rooms a) l]).length=rooms.length+1:=by simp
 let up:∀{r:Nat},r<rooms.length->ix (rooms++[m.go (ix rooms a) l]) r=ix rooms r:=λh=>zxs h;apply⟨?_,by rw[up c.pos];show c.zero,by omega,λr D=>?_,λb w L=>?_,λr l' D o u=>?_⟩
 .refine y3r.mpr ⟨c.nd,by simp,λx O y s=>?_⟩;rw[y0l.mp s];intro e;rw[e]at O;show M O
 .rcases y1c.mp D with h|h
  .exact c.lt r h
  .rw[y0l.mp h];show I
 .by_cases U:b<rooms.length
  .let(r',l',J,f,C,E):=c.disc b w U;show⟨r',l',J,f,zxo C,by rw[up 00,up U];show E⟩
  .let e:b=rooms.length:=by omega
   subst e;show⟨a,l,d,Y,.inr ⟨R,by omega⟩,by rw[up d,zsw]⟩
 .rcases zn4 u with u|⟨rfl,rfl⟩
  .let i:r<rooms.length:=by rcases u with z|⟨z,_⟩<;>omega
   let(t,p,q,g):=c.clos r l' i o u;apply⟨t,by omega,by rw[up p,up i];show q,λb w L=>?_⟩;let(r'',j,J,f,C,E):=g b w L;show⟨r'',j,J,f,by omega,by rw[up C,up 00];show E⟩
  .refine⟨rooms.length,by omega,by rw[zsw,up d],λb w L=>?_⟩;let(r',j,J,f,C,E):=c.disc b w L;show⟨r',j,f,C,by omega,by rw[up 00,up L];show E⟩
theorem Come.turn(c:Come m rooms a<|2^m.w):Come m rooms (a+1) 0:=by
 let up:∀{r l:Nat},l<2^m.w->Lex r l (a+1) 0->Lex r l a (2^m.w):=λ{r l} Y u=>by
  rcases u with z|⟨_,z⟩
  .by_cases e:r=a
   .exact .inr ⟨e,Y⟩
   .exact .inl 00
  .omega
 apply⟨c.nd,c.zero,c.pos,c.lt,λb w L=>?_,λr l' D y u=>c.clos r l' D y<|up y u⟩;let(r',l',J,f,C,E):=c.disc b w L;apply⟨r',l',J,f,?_,E⟩;rcases C with z|⟨z,_⟩
 .exact .inl 00
 .exact .inl 00
theorem zdh:∀{xs:List Nat} {n:Nat},xs.Nodup->(∀x∈xs,x<n)->xs.length<=n
 |xs,0,_,h=>by cases xs with|nil=>show y05 _|cons x r=>show Xa (h x y0a)<|y32 _
 |xs,n+1,I,h=>by
  let L:(xs.erase n).length<=n:=zdh (I.erase n) λx O=>by
   let J:=h x<|List.mem_of_mem_erase O;let f:x≠n:=λe=>by rw[e]at O;show(List.Nodup.not_mem_erase I) O
   omega
  by_cases M:n∈xs
  .let J:=y4b M;let f:=y4g M;omega
  .rw[List.erase_of_not_mem M]at L;omega
def picked(m:Mc)(rooms:List Nat)(g:Nat->Nat):Mc:=⟨m.w,rooms.map λr=>(m.ways.getD r []).map g,rooms.map m.fin⟩
theorem zcn(m:Mc)(rooms:List Nat)(g:Nat->Nat):(033).n=rooms.length:=by simp[picked,Mc.n]
theorem zhm(m:Mc)(g:Nat->Nat)(h:i<rooms.length):(033).fin i=m.fin (ix rooms i):=by
 unfold picked Mc.fin;simp only[y02,y03];rw[zcr h];rfl
theorem zke{m:Mc}(ok:m.Ok){rooms:List Nat}(g:Nat->Nat)(h:i<rooms.length)(D:ix rooms i<m.n)(Y:l<2^m.w):(033).go i l=g (m.go (ix rooms i) l):=by
 let(line,J,C,j):=ok.at D Y;let w:m.ways.getD (ix rooms i) []=line:=by rw[y02,J];rfl
 unfold picked;rw[Mc.go];simp only[y02,y03];rw[zcr h];simp only[y1j,y0y];rw[J];simp only[y0y,y03];rw[C];rfl
theorem zkd{m:Mc}(ok:m.Ok){rooms:List Nat}(w:0<rooms.length)(T:rooms.length<=100)(D:∀r∈rooms,r<m.n)(z:∀r l,r∈rooms->l<2^m.w->g (m.go r l)<rooms.length):(033).Ok:=by
 apply⟨ok.wid,by simpa[picked]using w,by simpa[picked]using T,by simp[picked],λline Y=>?_,λline Y x O=>?_⟩
 .let(r,A,rfl):=y0e.mp Y;let L:r<m.ways.length:=by rw[ok.len];show D r A
  rw[y01,y02,y00 L,y0y];show ok.line _<|y0k L
 .let(r,A,rfl):=y0e.mp Y;let(y,o,rfl):=y0e.mp O;let L:r<m.ways.length:=by rw[ok.len];show D r A
  rw[y02,y00 L,y0y]at o;let(l,J,C):=y1l o;rw[ok.line _<|y0k L]at J;let f:=z r l A J;let(line,j,u,_):=ok.at (D r A) J;rw[y00 L]at j;cases j;rw[y00 (by rw[ok.line _<|y0k L];show J),C]at u;cases u;simpa[picked]using f
theorem zgo(ok:m.Ok)(c:Come m rooms rooms.length 0)(y:∀i,i<rooms.length->g (ix rooms i)=i):
  (033).Ok/\(033).Ord/\Par m 0 033 0/\rooms.length<=m.n:=by
 let v:rooms.length<=m.n:=zdh c.nd c.lt;let o:∀{i:Nat},i<rooms.length->ix rooms i<m.n:=λh=>c.lt _<|zef h;let clo:∀r l,r<rooms.length->l<2^m.w->∃t,t<rooms.length/\ix rooms t=m.go (ix rooms r) l/\∀b,0<b->b<t->∃r'' j,j<2^m.w/\Lex r'' j r l/\r''<rooms.length/\m.go (ix rooms r'') j=ix rooms b :=
  λr l D Y=>c.clos r l D Y<|.inl D
 let x:∀{i l:Nat},i<rooms.length->l<2^m.w->∀t,t<rooms.length->m.go (ix rooms i) l=ix rooms t->(033).go i l=t:=λhi Y t p e=>by
  rw[zke ok g hi (o hi) Y,e];show y t p
 apply⟨zkd ok c.pos (by have:m.n<=100:=ok.few;omega) c.lt λr l A Y=>?_,⟨λr l b D Y w U=>?_,λb w U=>?_⟩,?_,v⟩
 .let(i,hi,rfl):=zi1 A;let(t,p,I,_):=clo i l hi Y;rw[←I,y t p];show p
 .rw[zcn]at D;let(t,p,I,a):=clo r l D Y;rw[x D Y t p I.symm]at U;let(r'',j,L,J,f,C):=a b w U;show⟨r'',j,L,J,x f L b 00 C⟩
 .rw[zcn]at U;let(r',l',L,J,f,C):=c.disc b w U;show⟨r',l',L,J,x 00 J b U C⟩
 .refine Par.of (λr i=>i<rooms.length/\ix rooms i=r) (λr i ⟨hi,e⟩=>?_) (λr i l ⟨hi,e⟩ Y=>?_) ⟨c.pos,c.zero⟩
  .rw[zhm m g hi,e]
  .let(t,p,I,_):=clo i l hi Y;rw[x hi Y t p I.symm,←e];show⟨p,I⟩
structure Srt(ns:List Nat):Prop where
 grow:∀i,i<ns.length->∀b,b<ix ns i->∃j,j<i/\ix ns j=b
theorem Srt.le(h:Srt ns)(i:Nat)(hi:i<ns.length):ix ns i<=i:=by
 induction i using Nat.strongRecOn with
 |_ i Q =>
  by_cases w:ix ns i=0
  .omega
  .let(j,g,e):=h.grow i hi (ix ns i-1) 00;let:=Q j g 00;omega
theorem zxc(hs:Srt s)(T:Srt f)(Y:s.length=f.length)(ref:∀i j,i<s.length->j<s.length->ix f i=ix f j->ix s i=ix s j):∀v i,i<s.length->ix s i=v->v<=ix f i
 |0,_,_,_=>y13 _
 |v+1,i,hi,e=>by
  let Q:=zxc hs T Y ref v;apply y2e λo=>?_;let y:∀j,j<i->ix s j=v->False:=λj=>by
   induction j using Nat.strongRecOn with
   |_ j c =>
    intro g O;let L:=Q j 00 O;let J:ix f j≠ix f i:=λz=>by have:=ref j i 00 hi z;omega
    let(k,M,I):=T.grow j 00 (ix f i) 00;let U:=ref k i 00 hi I;let(d,l,a):=hs.grow k 00 v 00;show c d 00 00 a
  let(j,g,O):=hs.grow i hi v 00;show y j g O
theorem zxb:∀{s f:List Nat},s.length=f.length->(∀i,i<s.length->ix s i<=ix f i)->s.sum<=f.sum/\(s.sum=f.sum->s=f)
 |[],[],_,_=>⟨y05 _,λ_=>rfl⟩
 |[],_::_,h,_=>by simp at h
 |_::_,[],h,_=>by simp at h
 |x::s,y::f,h,g=>by
  let L:=g 0 06;let J:x<=y:=L;let(U,C):=zxb (s:=s) (f:=f) (by simpa using h) λi hi=>by
   let:=g (i+1) (by simpa using hi);simpa[ix]using this
  apply⟨by simp only[y3o];omega,λe=>?_⟩;simp only[y3o]at e;rw[show x=y by omega,C 00]
theorem zjv:∀{s:List Nat} {n:Nat},(∀x∈s,x<=n)->s.sum<=s.length*n
 |[],n,_=>by simp
 |x::s,n,h=>by
  let L:=h x y0a;let J:=zjv (s:=s) (n:=n) λy U=>h y<|y07 _ U;simp only[y3o,y0i,y4k];omega
structure Sorts(m:Mc)(ns:List Nat):Prop where
 srt:Srt ns
 len:ns.length=m.n
 fin:∀i j,i<m.n->j<m.n->ix ns i=ix ns j->m.fin i=m.fin j
 sep:∀i j,i<m.n->j<m.n->Par m i m j->ix ns i=ix ns j
def Stable(m:Mc)(ns:List Nat):Prop:=∀i j l,i<m.n->j<m.n->l<2^m.w->ix ns i=ix ns j->ix ns (m.go i l)=ix ns (m.go j l)
structure Firsts(ns fs:List Nat):Prop where
 lt:∀s,s<fs.length->ix fs s<ns.length
 is:∀s,s<fs.length->ix ns (ix fs s)=s
 le:∀s j,s<fs.length->j<ns.length->ix ns j=s->ix fs s<=j
 all:∀i,i<ns.length->ix ns i<fs.length
theorem quotient{m:Mc}(ok:m.Ok)(ord:m.Ord){ns fs:List Nat}(S:Sorts m ns)(st:Stable m ns)(F:Firsts ns fs):
  (picked m fs<|ix ns).Ok/\Canon (picked m fs<|ix ns)/\Par m 0 (picked m fs<|ix ns) 0/\fs.length<=m.n:=by
 let o:∀{s:Nat},s<fs.length->ix fs s<m.n:=λh=>by rw[←S.len];show F.lt _ h
 let w:0<fs.length:=by have:=F.all 0 (by rw[S.len];show ok.pos);omega
 let all:∀{i:Nat},i<m.n->ix ns i<fs.length:=λh=>F.all _ (by rw[S.len];show h);let mono:∀{a b:Nat},a<fs.length->b<fs.length->a<b->ix fs a<ix fs b:=λ{a b} d U hab=>by
  let e:=F.is b U;let(j,g,O):=S.srt.grow (ix fs b) (F.lt b U) a 00;let:=F.le a j d (by have:=F.lt b U;omega) O;omega
 let k7:∀{a b:Nat},a<fs.length->b<fs.length->ix fs a<ix fs b->a<b:=λ{a b} d U h=>by
  rcases Nat.lt_trichotomy a b with z|z|z
  .exact z
  .subst z;omega
  .let:=mono U d z;omega
 let v:fs.length<=m.n:=by
  let L:=F.is (fs.length-1) 00;let J:=o (s:=fs.length-1) 00;let f:=S.srt.le _ (by rw[S.len];show J);omega
 let x:∀{s l:Nat},s<fs.length->l<2^m.w->(picked m fs<|ix ns).go s l=ix ns (m.go (ix fs s) l):=λhs Y=>zke ok _ hs (o hs) Y;let thr:∀{i l:Nat},i<m.n->l<2^m.w->(picked m fs<|ix ns).go (ix ns i) l=ix ns (m.go i l):=λ{i l} hi Y=>by
  rw[x (all hi) Y];show st _ _ l (o<|all hi) hi Y<|F.is _ (all hi)
 let hok:(picked m fs<|ix ns).Ok:=zkd ok w (by have:m.n<=100:=ok.few;omega) (λr A=>by let(s,hs,rfl):=zi1 A;show o hs) λr l A Y=>by
  let(s,hs,rfl):=zi1 A;show all<|ok.go_lt (o hs) Y
 let par:∀{i:Nat},i<m.n->Par m i (picked m fs<|ix ns) (ix ns i):=λ{i} hi=>by
  apply Par.of (λr s=>r<m.n/\s=ix ns r) (λr s ⟨D,e⟩=>?_) (λr s l ⟨D,e⟩ Y=>?_) ⟨hi,R⟩
  .rw[e,zhm m _<|all D];show S.fin _ _ D (o<|all D) (F.is _<|all D).symm
  .exact⟨ok.go_lt D Y,by rw[e,thr D Y]⟩
 apply⟨hok,⟨⟨λs l b hs Y U Q=>?_,λb U T=>?_⟩,λi j hi g p=>?_⟩,?_,v⟩
 .rw[zcn]at hs;rw[x hs Y]at Q;let ht:=ok.go_lt (o hs) Y;let d:=all ht;let H:b<fs.length:=by omega
  let L:ix fs b<m.go (ix fs s) l:=by
   let J:=mono H d Q;let f:=F.le _ _ d (by rw[S.len];show ht) rfl;omega
  let h0':0<ix fs b:=by
   let:=F.is b H;by_cases z:ix fs b=0
   .let E:=S.srt.le 0 (by rw[S.len];show ok.pos);rw[z]at this;omega
   .omega
  let(r',l',y,u,e):=ord.grow (ix fs s) l (ix fs b) (o hs) Y h0' L;let I:r'<m.n:=by have:=o hs;rcases u with z|⟨z,_⟩<;>omega
  apply⟨ix ns r',l',y,?_,by rw[thr I y,e];show F.is b H⟩;rcases u with z|⟨z,C⟩
  .refine .inl<|k7 (all I) hs ?_;let:=F.le _ r' (all I) (by rw[S.len];show I) rfl;omega
  .exact .inr ⟨by rw[z];show F.is s hs,C⟩
 .rw[zcn]at T;let h0':0<ix fs b:=by
   let:=F.is b T;by_cases z:ix fs b=0
   .let E:=S.srt.le 0 (by rw[S.len];show ok.pos);rw[z]at this;omega
   .omega
  let(r',l',I,y,e):=ord.par (ix fs b) h0'<|o T;let c:r'<m.n:=by have:=o T;omega
  apply⟨ix ns r',l',k7 (all c) T ?_,y,by rw[thr c y,e];show F.is b T⟩;let:=F.le _ r' (all c) (by rw[S.len];show c) rfl;omega
 .rw[zcn]at hi g;let p1:=par<|o hi;let M:=par<|o g;rw[F.is i hi]at p1;rw[F.is j g]at M;let q:Par m (ix fs i) m (ix fs j):=(p1.trans p R).trans (M.symm R) rfl;let z:=S.sep _ _ (o hi) (o g) q;rw[F.is i hi,F.is j g]at z;show z
 .let p:=par ok.pos;let e:ix ns 0=0:=by have:=S.srt.le 0 (by rw[S.len];show ok.pos);omega
  rw[e]at p;show p
structure Num{α:Type}(marks:List α)(ns:List Nat):Prop where
 len:ns.length=marks.length
 eq:∀i j a b,marks[i]?=G a->marks[j]?=G b->(ix ns i=ix ns j↔a=b)
 srt:Srt ns
theorem zlu{m:Mc}(Nq:Num m.ends ns):Sorts m ns:=by
 apply⟨Nq.srt,Nq.len,λi j hi g e=>?_,λi j hi g p=>?_⟩
 .exact(Nq.eq i j _ _ (Mc.fin_at hi)<|Mc.fin_at g).mp e
 .exact(Nq.eq i j _ _ (Mc.fin_at hi)<|Mc.fin_at g).mpr p.fin
def markOf(m:Mc)(ns:List Nat)(i:Nat):List Nat:=ix ns i::(m.ways.getD i []).map (ix ns)
theorem mark_eq(ok:m.Ok)(hi:i<m.n)(g:j<m.n):markOf m ns i=markOf m ns j↔ix ns i=ix ns j/\∀l,l<2^m.w->ix ns (m.go i l)=ix ns (m.go j l):=by
 let L:i<m.ways.length:=by rw[ok.len];show hi
 let J:j<m.ways.length:=by rw[ok.len];show g
 let a:=ok.line _<|y0k L;let L2:=ok.line _<|y0k J;unfold markOf;rw[List.cons.injEq];apply and_congr_right λ_=>?_;unfold Mc.go;simp only[y02,y00 L,y00 J,y0y];apply⟨λe l Y=>?_,λh=>?_⟩
 .let z:=congrArg (λq=>q[l]?) e;simp only[y03]at z;rw[y00 00,y00 00]at z ⊢;simpa using z
 .refine y2q (by rw[y01,y01,a,L2]) λl f C=>?_;rw[y01]at f C;let z:=h l 00;rw[y00 f,y00 C]at z;rw[y30,y30];simpa using z
theorem zhi{m:Mc}(ok:m.Ok){ns fs:List Nat}(S:Sorts m ns)(Nq:Num ((List.range m.n).map<|markOf m ns) fs):Sorts m fs/\(∀i j,i<ns.length->j<ns.length->ix fs i=ix fs j->ix ns i=ix ns j)/\(fs=ns->Stable m ns):=by
 let at':∀{i:Nat},i<m.n->((List.range m.n).map<|markOf m ns)[i]?=G (markOf m ns i):=λh=>by rw[y03,y17 h];rfl
 let eq:∀{i j:Nat},i<m.n->j<m.n->(ix fs i=ix fs j↔ix ns i=ix ns j/\∀l,l<2^m.w->ix ns (m.go i l)=ix ns (m.go j l)):=λhi g=>(Nq.eq _ _ _ _ (at' hi)<|at' g).trans<|mark_eq ok hi g;apply⟨⟨Nq.srt,by rw[Nq.len];simp,λi j hi g e=>S.fin i j hi g ((eq hi g).mp e).1,λi j hi g p=>(eq hi g).mpr ⟨S.sep i j hi g p,λl Y=>S.sep _ _ (ok.go_lt hi Y) (ok.go_lt g Y)<|p.go Y⟩⟩,λi j hi g e=>?_,λe i j l hi g Y h=>?_⟩
 .rw[S.len]at hi g;show((eq hi g).mp e).1
 .subst e;show((eq hi g).mp h).2 l Y
theorem zoz(S:Sorts m ns)(S':Sorts m fs)(ref:∀i j,i<ns.length->j<ns.length->ix fs i=ix fs j->ix ns i=ix ns j)(ne:fs≠ns):ns.sum<fs.sum/\fs.sum<=m.n*m.n:=by
 let Y:ns.length=fs.length:=by rw[S.len,S'.len]
 let(L,J):=zxb Y λi hi=>zxc S.srt S'.srt Y ref _ i hi rfl;apply⟨Nat.lt_of_le_of_ne L λe=>ne (J e).symm,?_⟩;let f:=zjv (s:=fs) (n:=m.n) λx O=>by
  let(i,hi,rfl):=zi1 O;let:=S'.srt.le i hi;let:=S'.len;omega
 rw[S'.len]at f;show f
section
variable {α:Type}[DecidableEq α]
def news:List α->List α->List α
 |acc,[]=>acc
 |acc,x::r=>news (if x∈acc then acc else acc++[x]) r
theorem zge:∀(xs acc:List α) (x:α),news acc (xs++[x])=if x∈news acc xs then news acc xs else news acc xs++[x]
 |[],acc,x=>rfl
 |y::r,acc,x=>zge r _ x
theorem zb4:∀(xs acc:List α) (x:α),x∈news acc xs↔x∈acc\/x∈xs
 |[],acc,x=>by simp[news]
 |y::r,acc,x=>by
  unfold news;rw[zb4 r _ x];by_cases h:y∈acc
  .rw[Xq h];simp only[y09];apply⟨λz=>z.imp id .inr,λz=>z.elim .inl λz=>z.elim (λe=>.inl<|e▸h) .inr⟩
  .rw[Xp h];simp only[y1c,y09,y0o,or_false];show or_assoc
theorem zmm:∀(xs acc:List α),acc.Nodup->(news acc xs).Nodup
 |[],acc,h=>h
 |y::r,acc,h=>by
  unfold news;apply zmm r _ ?_;by_cases j:y∈acc
  .rw[Xq j];show h
  .rw[Xp j];apply y3r.mpr ⟨h,by simp,λa d b U=>?_⟩;rw[y0l.mp U];intro e;show j<|e▸d
theorem zfo:∀(xs acc:List α),(news acc xs).length<=acc.length+xs.length
 |[],acc=>by simp[news]
 |y::r,acc=>by
  unfold news;let:=zfo r<|if y∈acc then acc else acc++[y];by_cases U:y∈acc
  .rw[Xq U]at this ⊢;simp only[y0i];omega
  .rw[Xp U]at this ⊢;simp only[y0d,y0i,y1k]at this ⊢;omega
theorem zdj:∀(xs acc:List α),∃t,news acc xs=acc++t
 |[],acc=>⟨[],by simp[news]⟩
 |y::r,acc=>by
  unfold news;let(t,e):=zdj r<|if y∈acc then acc else acc++[y];by_cases U:y∈acc
  .rw[Xq U]at e ⊢;show⟨t,e⟩
  .rw[Xp U]at e ⊢;show⟨[y]++t,by rw[e,y24]⟩
theorem zn1:∀(xs ys acc:List α),news acc (xs++ys)=news (news acc xs) ys
 |[],ys,acc=>rfl
 |x::r,ys,acc=>zn1 r ys _
noncomputable def nOf(ds:List α)(x:α):Nat:=ds.idxOf x
noncomputable def nxt(ds:List α)(x:α):List α:=if x∈ds then ds else ds++[x]
theorem zse{ds:List α}{x:α}(h:x∈ds):nxt ds x=ds:=Xq h
theorem zmk{ds:List α}{x:α}(h:¬x∈ds):nxt ds x=ds++[x]:=Xp h
theorem zwb(xs:List α)(x:α):news [] (xs++[x])=nxt (news [] xs) x:=zge xs [] x
theorem zkr{xs:List α}(h:xs[i]?=G x):news [] (xs.take<|i+1)=nxt (news []<|xs.take i) x:=by rw[y19,h,y28,zwb]
theorem zi4{xs ys:List α}(h:x∈xs):(xs++ys).idxOf x=xs.idxOf x:=by rw[List.idxOf_append,Xq h]
theorem zxk(marks:List α):Num marks (marks.map<|nOf (news [] marks)):=by
 change Num marks (marks.map λx=>(news [] marks).idxOf x);let at':∀{i:Nat} {a:α},marks[i]?=G a->ix (marks.map λx=>(news [] marks).idxOf x) i=(news [] marks).idxOf a:=λh=>zwj (by rw[y03,h];rfl);let mem:∀{a:α},a∈marks->a∈news [] marks:=λh=>(zb4 marks [] _).mpr<|.inr h;apply⟨y01 _,λi j a b d U=>?_,⟨λi hi b U=>?_⟩⟩
 .rw[at' d,at' U];apply⟨λe=>?_,λe=>by rw[e]⟩;let L:=y1d.mpr<|mem (y0n d);let J:=y1d.mpr<|mem (y0n U);let g:=y2g L;let C:=y2g J;rw[←g,←C];congr 1
 .rw[y01]at hi;let O:marks[i]?=G marks[i]:=y00 hi;rw[at' O]at U;let em:marks=marks.take i++marks[i]::marks.drop (i+1):=by rw[←y4a hi,y3g]
  let r:news [] marks=news (if marks[i]∈news [] (marks.take i)then news [] (marks.take i)else news [] (marks.take i)++[marks[i]]) (marks.drop<|i+1):=by
   conv=>lhs;rw[em]
   rw[zn1];rfl
  let(t,I):=zdj (marks.drop<|i+1)<|if marks[i]∈news [] (marks.take i)then news [] (marks.take i)else news [] (marks.take i)++[marks[i]];rw[←r]at I;let H:b<(news []<|marks.take i).length:=by
   by_cases c:marks[i]∈news [] (marks.take i)
   .rw[Xq c]at I;rw[I,zi4 c]at U;let:=y1d.mpr c;omega
   .rw[Xp c]at I;rw[I,zi4 06,List.idxOf_append,Xp c]at U;simp at U;omega
  let p:∃t',news [] marks=news [] (marks.take i)++t':=by
   by_cases c:marks[i]∈news [] (marks.take i)
   .rw[Xq c]at I;show⟨t,I⟩
   .rw[Xp c]at I;show⟨[marks[i]]++t,by rw[I,y24]⟩
  let(t',o):=p;let M:(news []<|marks.take i)[b]∈marks.take i:=by
   rcases(zb4 (marks.take i) [] _).mp (y0k H)with h|h
   .exact nomatch h
   .exact h
  let(j,q,f):=y1l M;rw[y0w]at q;rw[List.getElem_take]at f;apply⟨j,by omega,?_⟩;let l:marks[j]?=G (news []<|marks.take i)[b]:=by rw[y00 00,f]
  rw[at' l,o,zi4<|y0k H];show List.Nodup.idxOf_getElem (zmm _ _ y3l) b H
end
theorem idx_le:∀(ns:List Nat) (s j:Nat),ns[j]?=G s->ns.idxOf s<=j
 |[],_,_,h=>by simp at h
 |x::ns,s,0,h=>by
  simp only[y4d,Option.some.injEq]at h;subst h;simp
 |x::ns,s,j+1,h=>by
  simp only[y1s]at h;let Q:=idx_le ns s j h;rw[y2b];cases O:x==s with
  |true=>simp
  |false=>simp;omega
theorem zn9(h:s∈ns):ns.idxOf s<ns.length/\ix ns (ns.idxOf s)=s:=by
 let L:=y1d.mpr h;show⟨L,zwj<|by rw[y00 L,y2g L]⟩
theorem zta(S:Srt ns)(c:M∈ns)(v:∀a∈ns,a<=M):Firsts ns ((List.range<|M+1).map λs=>ns.idxOf s)/\∀s,s<=M->s∈ns:=by
 let mem:∀s,s<=M->s∈ns:=λs hs=>by
  by_cases e:s=M
  .rw[e];show c
  .let(i,hi,r):=zi1 c;let(j,g,O):=S.grow i hi s 00;rw[←O];show zef 00
 let at':∀{s:Nat},s<M+1->ix ((List.range<|M+1).map λs=>ns.idxOf s) s=ns.idxOf s:=λ{s} h=>zwj (by rw[y03,y17 h];rfl);let len:((List.range<|M+1).map λs=>ns.idxOf s).length=M+1:=by simp
 apply⟨⟨λs hs=>?_,λs hs=>?_,λs j hs g e=>?_,λi hi=>?_⟩,mem⟩
 .rw[len]at hs;rw[at' hs];show(zn9<|mem s 00).1
 .rw[len]at hs;rw[at' hs];show(zn9<|mem s 00).2
 .rw[len]at hs;rw[at' hs];show idx_le ns s j (by rw[zcr g,e])
 .rw[len];let:=v _<|zef hi;omega
structure Red(m m':Mc):Prop where
 ok:m'.Ok
 w:m'.w=m.w
 canon:Canon m'
 par:Par m 0 m' 0
 le:m'.n<=m.n
theorem red_of(ok:m.Ok)(c:Come m rooms rooms.length 0)(y:∀i,i<rooms.length->g (ix rooms i)=i)(S:Sorts 033 ns)(st:Stable 033 ns)(F:Firsts ns fs):
  Red m (picked 033 fs<|ix ns):=by
 let(u,a,r,l1):=zgo ok c y;let(H,A,M,l2):=quotient u a S st F;apply⟨H,R,A,r.trans M R,?_⟩;rw[zcn]at l2 ⊢;omega
def turned(m:Mc):Mc:=⟨m.w,m.ways,m.ends.map λb=>!b⟩
theorem zqo(ok:m.Ok):(turned m).Ok:=by
 let e:(turned m).ends.length=m.ends.length:=y01 _;apply⟨ok.wid,?_,?_,?_,ok.line,λl Y r D=>?_⟩
 .rw[e];show ok.pos
 .rw[e];show ok.few
 .rw[e];show ok.len
 .rw[e];show ok.room l Y r D
theorem zov(m:Mc)(r:Nat)(row:List Nat):(turned m).run r row=m.run r row:=rfl
theorem zow{m:Mc}{r:Nat}(h:r<m.n):(turned m).fin r=!m.fin r:=by
 let e:=Mc.fin_at h;unfold turned Mc.fin;rw[y02,y03,e];rfl
open PySem PySem.Spec PyProof.Rows L2 SS
noncomputable abbrev nV(n:Nat):V:=.int (n:Int)
def Line(H:Hp)(v:V)(l:List Nat):Prop:=∃a,v=.ref a/\H a=G (.tup<|l.map nV)
def RepM(H:Hp)(a:Ad)(m:Mc):Prop:=∃(b c:Ad) (rs:List V),H a=G (.tup [nV m.w,.ref b,.ref c])/\H b=G (.tup rs)/\i8 (Line H) rs m.ways/\H c=G (.tup<|m.ends.map V.bl)
theorem Line.ts(h:Line H v l)(g:TupS H H'):Line H' v l:=let⟨a,e,z⟩:=h;⟨a,e,g _ _ z⟩
theorem RepM.ts(h:RepM H a m)(g:TupS H H'):RepM H' a m:=by
 let(b,c,rs,L,J,f,C):=h;show⟨b,c,rs,g _ _ L,g _ _ J,L2.Paired.mapP f λ_ _ z=>z.ts g,g _ _ C⟩
theorem RepM.same(h:RepM H a m)(g:Same H H'):RepM H' a m:=h.ts g.tups
theorem Paired.at2:∀{xs:List q} {ys:List p} {i:Nat} {y:p},i8 Rq xs ys->ys[i]?=G y->∃x,xs[i]?=G x/\Rq x y
 |_,_,_,_,.nil,h=>by simp at h
 |_,_,0,_,.cons h _,e=>by simp at e;subst e;show⟨_,R,h⟩
 |_,_,i+1,_,.cons _ h,e=>by simp only[y1s]at e ⊢;show Paired.at2 h e
theorem Paired.snoc:∀{xs:List q} {ys:List p} {x:q} {y:p},i8 Rq xs ys->Rq x y->i8 Rq (xs++[x]) (ys++[y])
 |_,_,_,_,.nil,h=>.cons h .nil
 |_,_,_,_,.cons h t,z=>.cons h<|Paired.snoc t z
def zqw(K:Frag):Sp:=λvs H Q _=>∃(a b:Ad) (m:Mc) (row:List Nat),vs=[.ref a,.ref b]/\RepM H a m/\m.Ok/\SqL K H b (row.map nV)/\(∀l∈row,l<2^m.w)/\row.length<=300/\
 ∀D H',H D=B->Same H H'->H' D=G (.lst<|(m.path 0 row).map nV)->Q 65 H'
def zni(K:Frag):Sp:=λvs H Q _=>∃(a b:Ad) (m:Mc) (row:List Nat),vs=[.ref a,.ref b]/\RepM H a m/\m.Ok/\SqL K H b (row.map nV)/\(∀l∈row,l<2^m.w)/\row.length<=300/\
 ∀H',Same H H'->Q (.bl<|m.fin (m.run 0 row)) H'
theorem zn3(l:List Nat):l.map nV=(l.map λ(n:Nat)=>(n:Int)).map V.int:=by rw[y0q];rfl
theorem zb2:∀{xs:List q} {ys:List p},xs.length=ys.length->(∀(j:Nat) x y,xs[j]?=G x->ys[j]?=G y->Rq x y)->i8 Rq xs ys
 |[],[],_,_=>.nil
 |[],_::_,h,_=>by simp at h
 |_::_,[],h,_=>by simp at h
 |x::xs,y::ys,h,f=>.cons (f 0 x y R R)<|zb2 (by simpa using h) λj a b g C=>f (j+1) a b (by simpa using g) (by simpa using C)
theorem nodup_map_on{q p:Type}{f:q->p}:∀{l:List q},(∀a∈l,∀b∈l,f a=f b->a=b)->l.Nodup->(l.map f).Nodup
 |[],_,_=>y3l
 |x::l,h,I=>by
  rw[y1o]at I;rw[y0m,y1o];apply⟨λz=>?_,nodup_map_on (λa d b U=>h a (y07 _ d) b<|y07 _ U) I.2⟩;let(y,o,e):=y0e.mp z;let:=h y (y07 _ o) x y0a e;rw[this]at o;show I.1 o
theorem ze8:∀{a b:List Nat},(a.map λ(n:Nat)=>(n:Int))=(b.map λ(n:Nat)=>(n:Int))->a=b
 |[],[],_=>rfl
 |[],_::_,h=>nomatch h
 |_::_,[],h=>nomatch h
 |x::a,y::b,h=>by
  rw[y0m,y0m,List.cons.injEq]at h;rw[ze8 h.2,show x=y by have:=h.1;omega]
theorem zoa(k:Nat):∀ns:List Nat,(ns.map λ(n:Nat)=>(n:Int)).idxOf (k:Int)=ns.idxOf k
 |[]=>rfl
 |x::ns=>by
  rw[y0m,y2b,y2b,zoa k ns];by_cases h:x=k
  .subst h;simp
  .let L:(x==k)=Fa:=by simp[h]
   let J:((x:Int)==(k:Int))=Fa:=by simp;omega
   rw[L,J]
def Lk(H:Hp)(b:Ad)(l:List Nat)(g:Nat->Nat):Prop :=
 (∃kvs:List<|Key×V,H b=G (.dK kvs)/\∀r∈l,valV kvs (.inl (r:Int))=G (nV<|g r))\/∃ns:List Nat,H b=G (.lst<|ns.map nV)/\∀r∈l,ns[r]?=G (g r)
theorem Lk.same(h:Lk H b l g)(s:Same H H'):Lk H' b l g:=by
 rcases h with⟨kvs,e,z⟩|⟨ns,e,z⟩
 .exact .inl ⟨kvs,s _ _ e,z⟩
 .exact .inr ⟨ns,s _ _ e,z⟩
def zhc:Sp:=λvs H Q _=>∃(a:Ad) (m:Mc),vs=[.ref a]/\RepM H a m/\m.Ok/\∀D rooms H',H D=B->Same H H'->H' D=G (.lst<|rooms.map nV)->Come m rooms rooms.length 0->Q 65 H'
def zeq:Sp:=λvs H Q _=>∃(a b:Ad) (l:List Nat) (g:Nat->Nat),vs=[.ref a,.ref b]/\H a=G (.tup<|l.map nV)/\l.length<=16/\Lk H b l g/\∀p H',Same H H'->H' p=G (.tup<|(l.map g).map nV)->Q 09 H'
def zj0:Sp:=λvs H Q _=>∃(a b c:Ad) (m:Mc) (rooms:List Nat) (g:Nat->Nat),vs=[.ref a,.ref b,.ref c]/\RepM H a m/\m.Ok/\H b=G (.lst<|rooms.map nV)/\rooms.length<=100/\(∀r∈rooms,r<m.n)/\
 (∀r∈rooms,Lk H c (m.ways.getD r []) g)/\∀p H',Same H H'->RepM H' p 033->Q 09 H'
def zj2:Sp:=λvs H Q _=>∃(a:Ad) (bs:List Bool),vs=[.ref a]/\H a=G (.tup 016)/\bs.length<=100/\∀D ns H',H D=B->Same H H'->H' D=G (.lst<|ns.map nV)->Num bs ns->Q 65 H'
def zj1:Sp:=λvs H Q _=>∃(a:Ad) (rs:List V) (Y:List<|List Nat),vs=[.ref a]/\H a=G (.lst rs)/\i8 (Line H) rs Y/\Y.length<=100/\∀D ns H',H D=B->Same H H'->H' D=G (.lst<|ns.map nV)->Num Y ns->Q 65 H'
def zdu:Sp:=λvs H Q E=>zj2 vs H Q E\/zj1 vs H Q E
def znl:Sp:=λvs H Q _=>∃(a b:Ad) (m:Mc) (ns:List Nat),vs=[.ref a,.ref b]/\RepM H a m/\m.Ok/\H b=G (.lst<|ns.map nV)/\Sorts m ns/\
 ∀D fs H',H D=B->Same H H'->H' D=G (.lst<|fs.map nV)->Num ((List.range m.n).map<|markOf m ns) fs->Q 65 H'
section
variable {α κ:Type}[DecidableEq α][DecidableEq κ]
def tabF(O:α->κ):Nat->List α->List (κ×V)
 |_,[]=>[]
 |n,x::r=>(O x,nV n)::tabF O (n+1) r
theorem zju(O:α->κ):∀(ds:List α) (n:Nat) (d:α),tabF O n (ds++[d])=tabF O n ds++[(O d,nV<|n+ds.length)]
 |[],n,d=>rfl
 |x::r,n,d=>by
  change(O x,nV n)::tabF O (n+1) (r++[d])=_;rw[zju O r];change _=(O x,nV n)::(tabF O (n+1) r++[(O d,nV<|n+(r.length+1))]);rw[show n+1+r.length=n+(r.length+1) by omega]
theorem zdd(O:α->κ):∀(ds:List α) (n:Nat),(tabF O n ds).length=ds.length
 |[],_=>rfl
 |x::r,n=>by change(tabF O (n+1) r).length+1=r.length+1;rw[zdd O r]
theorem zic{O:α->κ}(inj:∀a b,O a=O b->a=b)(x:α):∀(ds:List α) (n:Nat),valV (tabF O n ds) (O x)=if x∈ds then G (nV<|n+ds.idxOf x)else B
 |[],n=>by simp[tabF,znc]
 |y::r,n=>by
  change valV ((O y,nV n)::tabF O (n+1) r) (O x)=_;by_cases h:y=x
  .subst h;rw[zbf R,Xq y0a];simp
  .rw[zbg λe=>h<|inj _ _ e,zic inj x r<|n+1];let e:(x∈y::r)↔x∈r:=by simp[y09,Ne.symm h]
   by_cases D:x∈r
   .rw[Xq D,Xq<|e.mpr D,y2b,show(y==x)=Fa by simp[h],cond_false,show n+1+r.idxOf x=n+(r.idxOf x+1) by omega]
   .rw[Xp D,Xp λz=>D<|e.mp z]
theorem zeo{O:α->κ}(inj:∀a b,O a=O b->a=b){x:α}{ds:List α}(h:x∈ds):valV (tabF O 0 ds) (O x)=G (nV<|nOf ds x):=by
 rw[zic inj x ds 0,Xq h,y3w];rfl
theorem zfg{O:α->κ}(inj:∀a b,O a=O b->a=b){x:α}{ds:List α}(h:¬x∈ds):valV (tabF O 0 ds) (O x)=B:=by
 rw[zic inj x ds 0,Xp h]
theorem zid{O:α->κ}(inj:∀a b,O a=O b->a=b){x:α}{ds:List α}(h:¬x∈ds):putK (tabF O 0 ds) (O x) (V.int ((tabF O 0 ds).length:Int))=tabF O 0 (ds++[x]):=by
 rw[znv _<|zfg inj h,zju,zdd,y3w]
end
def keyB(b:Bool):Key:=.inl<|blI b
def keyL(l:List Nat):List Key:=l.map λ(n:Nat)=>(Sum.inl (n:Int):Key)
theorem zfp(a b:Bool)(e:keyB a=keyB b):a=b:=blI_inj<|Sum.inl.inj e
theorem zb6:∀(a b:List Nat),keyL a=keyL b->a=b
 |[],[],_=>rfl
 |[],_::_,h=>nomatch h
 |_::_,[],h=>nomatch h
 |x::a,y::b,h=>by
  rw[keyL,keyL,y0m,y0m,List.cons.injEq]at h;rw[zb6 a b h.2];let e:(x:Int)=(y:Int):=Sum.inl.inj h.1;rw[show x=y by omega]
theorem zkx(l:List Nat):(keyL l).map kV=l.map nV:=by unfold keyL;rw[y0q];rfl
def knT(rooms:List Nat):List (Key×V):=rooms.map λ(r:Nat)=>((Sum.inl (r:Int):Key),V.bl N)
theorem knT_len(rooms:List Nat):(knT rooms).length=rooms.length:=y01 _
theorem zmr(r:Nat):∀rooms:List Nat,valV (knT rooms) (.inl (r:Int))=if r∈rooms then G (V.bl N)else B
 |[]=>by simp[knT,znc]
 |x::rooms=>by
  change valV (((Sum.inl (x:Int):Key),V.bl N)::knT rooms) (.inl (r:Int))=_;by_cases h:x=r
  .subst h;rw[zbf R,Xq y0a]
  .rw[zbg λe=>h (by have:=Sum.inl.inj e;omega),zmr r rooms];let e:(r∈x::rooms)↔r∈rooms:=by simp[y09,Ne.symm h]
   by_cases D:r∈rooms
   .rw[Xq D,Xq<|e.mpr D]
   .rw[Xp D,Xp λz=>D<|e.mp z]
theorem knT_put{r:Nat}{rooms:List Nat}(h:¬r∈rooms):putK (knT rooms) (.inl (r:Int)) (V.bl N)=knT (rooms++[r]):=by
 rw[znv _<|by rw[zmr,Xp h]];simp[knT]
theorem TupS.wrT(h:H p=G (.dT kvs))(o:HO):TupS H (upd H p o):=λb ys e=>by rw[zam<|zsg e h (by intro z;cases z)];show e
end SM
namespace L2
theorem zjb{pos f:Pos}(l:List Va)(h:TriplesOk l):jv f (l++[i9 pos.line,i9 pos.col,v])=match jv f l with
  |some x=>G x
  |none=>if((pos.line:Int)==(f.line:Int)&&(pos.col:Int)==(f.col:Int))=N then G v else B:=by
 fun_induction TriplesOk l with
 |case1=>simp[jv,i9]
 |case2 a t b u x rest Q =>
  simp only[y1u,jv];split
  .rfl
  .exact Q h
 |case3 l L J=>show h.elim
def TabOk(H:Hp)(P:Ad)(qs:Y3):Prop:=∃ps:Array Va,H P=G (.tbl qs ps)
theorem TabOk.same(T:TabOk H P qs)(g:Same H H'):TabOk H' P qs:=let⟨ps,h⟩:=T;⟨ps,g _ _ h⟩
def KCode(K:Frag)(c P:Ad):Prop:=∃o vs f u d r a text p,K.lookup c=G o/\o.cls=.type "code"/\o.data=.fields vs/\vs[11]?=G (.ref P)/\vs.getD 11 .none=.ref P/\vs.getD 18 .none=.str f u/\
 vs.getD 7 .none=.int d r/\vs.getD 9 .none=.bool a/\vs.getD 10 .none=.int text p/\c≠P
section
variable {X:Cx}{pins:Y2}{σ:St}{H:Hp}{s:ig}
theorem fn_code(I:02 H s)(C:X.env.code=.ref c)(y:KCode X.K c P)
  (T:TabOk H P qs) (A:(pos,qual)∈qs) (hone:∀p∈qs,p.1.line=pos.line->p.1.col=pos.col->p.2=qual)
  (h:∀c' o H' s',02 H' s'->H' c'=G (.frz o<|.own c')->CodeObj o qual->Same H H'->Q (.ref c') s') :
  wpAny 20 X.A (functionCode X.env pos line name qual params scope body) Q E s:=by
 let(ps0,hP):=T;let(i,hop,htr,hcs):=I.hok P _ hP;let(oc,vs,f,tf,d,r,inF,text,tt,lk,l,hd,h11',h11,h18,h7,h9,h10,af):=y;let D:s.heap.get? c=G oc:=I.kIn c oc lk;generalize d9:ps0++i=ps at hop htr hcs;cases hf:jv pos ps.toList with
 |some v =>
  let(c',o,rfl,L,co):=hcs _ A v hf;unfold functionCode codeAt;rw[C,Xp<|show¬((Va.ref c==Va.none)=N)from y0f];apply ia<|jG D hd ?_;rw[h11];apply ia<|jG hop R ?_;rw[hf];show ib<|h c' o H s I L co λ_ _ e=>e
 |none =>
  let ic:s.heap.IsCode c P ps:=⟨oc,vs,f,tf,d,r,inF,text,tt,_,D,hd,h11,h18,h7,h9,h10,hop,R,htr,af⟩;apply wpAny_functionCodeX C ic ⟨⟨oc,vs,D,l,hd,h11'⟩,hop⟩ hf λc' h' J O hge a6 hic hrec l8 _=>?_;let(c₂,o',vs',t',e,L,ak,hv'):=hrec;cases e;let nPn:∀b,H b=B->b≠P:=λb e z=>by rw[z,hP]at e;cases e
  let hcn:H c'=B:=I.hok.fresh hge;let nc:∀b u,H b=G u->b≠c':=λb u e z=>by rw[z,hcn]at e;cases e
  let nP:∀b u,H b=G u->(∀a b,u ≠ .tbl a b)->b≠P:=λb u e n z=>by rw[z,hP]at e;cases e;show n _ _ R
  let up:∀b u,H b=G u->upd H c' (.frz o'<|.own c') b=G u:=λb u e=>by rw[zam<|nc b u e];show e
  let co:CodeObj o' qual:=⟨vs',t',ak,hv'⟩;let I':02 (upd H c'<|.frz o' (.own c')) {s with heap:=h',toks:=J}:=by
   apply I.un ⟨λb o e n _ _=>O b o (nPn b n) e,λb o e n _ _=>⟨o.slots,O b o (nPn b n) e⟩,λb o e n _=>?_,λb o e _=>?_,λb xs e=>up b _ e,λb o u e=>up b _ e,λb qs ps e=>up b _ e⟩ λb u e=>?_
   .rw[zam<|y0j (y0p (y0c e) hge)];show n
   .by_cases U:b=P
    .subst U;show⟨_,l8.2⟩
    .exact⟨o,O b o U e⟩
   .by_cases U:b=c'
    .subst U;rw[zar]at e;cases e;show⟨L,_,L⟩
    .rw[zam U]at e;by_cases hbP:b=P
     .subst hbP;rw[hP]at e;cases e;let Y:(ps++#[i9 pos.line,i9 pos.col,Va.ref c']).toList=ps.toList++[i9 pos.line,i9 pos.col,.ref c']:=by simp
      let e2:ps0++(i++#[i9 pos.line,i9 pos.col,Va.ref c'])=ps++#[i9 pos.line,i9 pos.col,Va.ref c']:=by rw[←Array.append_assoc,d9]
      apply⟨i++#[i9 pos.line,i9 pos.col,.ref c'],by rw[e2];show l8.2,by rw[e2,Y];show TriplesOk_snoc _ _ _ _ htr,λp hp v e=>?_⟩;rw[e2,Y,zjb _ htr]at e;cases hv:jv p.1 ps.toList with
      |some x =>
       rw[hv]at e;cases e;let(M,o1,g,e2,j):=hcs p hp _ hv;show⟨M,o1,g,up M _ e2,j⟩
      |none =>
       rw[hv]at e;simp only at e;split at e
       .rename_i hh;cases e;rw[y08]at hh;let g:pos.line=p.1.line:=by have:=hh.1;simp at this;omega
        let e2:pos.col=p.1.col:=by have:=hh.2;simp at this;omega
        show⟨c',o',R,zar,by rw[hone p hp g.symm e2.symm];show co⟩
       .cases e
     .refine(I.hok b u e).stay (λc w C q=>O c w ?_ q) (λc q=>up c _ q) (λc _ _ _ _ q=>up c _ q) λc xs q=>up c _ q;rcases C with rfl|C
      .exact hbP
      .exact nP c _ C λ_ _ z=>nomatch z
  show h c' o' _ _ I' zar co up
def cloFd(name qual:Str)(params:iL)(body:lA)(scope:Scope)(cl:Y4)(ct cd r:Va):i6 :=
 {name,qualname:=qual,params,body,scope,globals:=ir,closure:=cl,closureTuple:=ct,code:=cd,builtins:=jg,defaults:=.none,kwdefaults:=.none,annotations:=B,pyModule:=r,doc:=.none}
def BltK(base:Heap)(mg:Y1):Prop:=∃j o,mg "__builtins__"=G (.ref j)/\j≠jg/\base.get? j=G o/\o.cls=.type "module"/\o.dict=G jg/\o.data=.plain
def NoDoc:lA->Prop
 |.stmts b=>docOf b=B
 |.expr _=>True
structure Made(X:Cx)(H H':Hp)(name qual:Str)(params:iL)(body:lA)(scope:Scope)(f:Ad):Prop where
 old:Same H H'
 new:H f=B
 ex:∃cl ct c' oc pm,(∀x c,cl.lookup x=G c->X.env.cells.lookup x=G c)/\(∀p∈scope.names,p.2=.free->∃c,cl.lookup p.1=G c)/\H' c'=G (.frz oc<|.own c')/\CodeObj oc qual/\
  H' f=G (.frz {cls:=.type "function",data:=.func (cloFd name qual params body scope cl ct (.ref c') pm)} (.own f))
theorem zmq(I:02 H s)(C:X.env.code=.ref c)(kc:KCode X.K c P)(i:BltK X.base X.mg)
  (J:∀p∈scope.names,p.2=.free->X.env.kindOf p.1=G .cell\/X.env.kindOf p.1=G .free) (nd:NoDoc body)
  (T:TabOk H P qs) (A:(pos,qual)∈qs) (q:∀p∈qs,p.1.line=pos.line->p.1.col=pos.col->p.2=qual)
  (h:∀f H' s',02 H' s'->Made X H H' name qual params body scope f->Q 61 s') :
  wpAny 20 X.A (makeFunction name qual params body scope X.env [] [] [] pos line) Q E s:=by
 let(cl,l,d,cy):=zh4 (scope:=scope) (env:=X.env) λp hp hf=>I.ok.has p.1<|J p hp hf;let(j,ob,b1,b2,v,x,Y,D):=i;let tail:∀(ct:Va) (s1:ig),02 H s1->wpAny 20 X.A (do
   let fd:i6:={name,qualname:=qual,params,body,scope,globals:=X.env.globals,closure:=cl,closureTuple:=ct,code:=←functionCode X.env pos line name qual params scope body,builtins:=←builtinsFor X.env.globals X.env.builtins,defaults:=.none,kwdefaults:=.none,annotations:=B,pyModule:=(←nsGet X.env.globals "__name__").getD .none,doc:=←match body with|.stmts b=>(match docOf b with|some s=>mkText s|none=>pure .none)|.expr _=>pure .none}
   newObj (.type "function") (.func fd)) Q E s1:=by
  intro ct s1 I1;apply ia<|fn_code I1 C kc T A q λc' oc H' s' U g co up=>?_;let y:s'.heap.Ns X.env.globals X.mg:=by rw[U.ok.glob];show U.mod.glob.keeps U.bk
  apply ia<|wpAny_builtinsFor y b1 b2 (U.bk j ob v) x Y D ?_;apply ia<|wpAny_nsGet y ?_;let fin:wpAny 20 X.A (newObj (.type "function")<|.func {name,qualname:=qual,params,body,scope,globals:=X.env.globals,closure:=cl,closureTuple:=ct,code:=.ref c',builtins:=jg,defaults:=.none,kwdefaults:=.none,annotations:=B,pyModule:=(X.mg "__name__").getD .none,doc:=.none}) Q E s':=by
   apply i5 ?_ (by size_fits);rw[U.ok.glob];let r:H' s'.heap.objs.size=B:=U.fresh;let O:H s'.heap.objs.size=B:=by
    cases e:H s'.heap.objs.size with
    |none=>rfl
    |some u=>rw[up _ u e]at r;cases r
   let M:∀b u,H' b=G u->b≠s'.heap.objs.size:=λb u e z=>by rw[z,r]at e;cases e
   let w:=U.laid (a:=s'.heap.objs.size) (o:=.frz {cls:=.type "function",data:=.func (cloFd name qual params body scope cl ct (.ref c')<|(X.mg "__name__").getD .none)} (.own s'.heap.objs.size)) (t':=s'.toks)
    (h':=s'.heap.push {cls:=.type "function",data:=.func (cloFd name qual params body scope cl ct (.ref c')<|(X.mg "__name__").getD .none)}) (λb u e=>y04 _ e) 08 ⟨y0b _ R,_,y0b _ R⟩
   apply h _ _ _ w ⟨λb u e=>by rw[zam<|M b u (up b u e)];show up b u e,O,cl,ct,c',oc,_,d,cy,by rw[zam<|M c' _ g];show g,co,zar⟩
  cases body with
  |expr e=>show ia<|ib fin
  |stmts b =>
   let nd':docOf b=B:=nd;apply ia ?_;change wpAny _ _ (match docOf b with|some s=>mkText s|none=>pure .none) _ _ _;rw[nd'];show ib fin
 rw[makeFunction_eq];simp only[List.isEmpty_nil,if_true,List.zip_nil_right,List.filterMap_nil];apply ia<|ib (ia<|ib (ia<|ib ?_));unfold makeTail;rw[l];apply ia<|ib ?_;change wpAny _ _ (if cl.isEmpty=N then _ else _) _ _ _;by_cases L:cl.isEmpty=N
 .rw[Xq L];show ia<|ib (tail .none s I)
 .rw[Xp L];apply ia<|wpAny_newTextTuple ?_;show(tail _ _<|I.kept (t':=s.toks) λb o e=>y04 _ e)
end
noncomputable def fnO(fd:i6)(f:Ad):HO:=.frz {cls:=.type "function",data:=.func fd} (.own f)
def Frz(H H':Hp):Prop:=∀b o u,H b=G (.frz o u)->H' b=G (.frz o u)
theorem Frz.refl(H:Hp):Frz H H:=λ_ _ _ e=>e
theorem Frz.trans(a:Frz H H1)(b:Frz H1 H2):Frz H H2:=λc o u e=>b c o u<|a c o u e
theorem Same.frz(g:Same H H'):Frz H H':=λb o u e=>g _ _ e
def CloH(P:ik)(w:World)(K:Frag)(mg:Y1)(base:Heap)(k:Nat)(H:Hp)(f:Ad)(n:Nat)(sp:Sp):Prop :=
 ∀(A:io) (outer:List Env) (s:ig) (H':Hp) (us:List Va) (vs:List V) (Q:VK),Room k A->Env0 P w K mg base A outer s H'->Frz H H'->Vals vs us->vs.length=n->sp vs H' Q E0->
  jc 78 A (.call 61 019) (CR CX0 outer P w H' s Q E0) s
theorem CloH.mono{P:ik}{w:World}{K:Frag}{mg:Y1}{base:Heap}{k:Nat}{H H1:Hp}{f:Ad}{n:Nat}{sp:Sp}(c:CloH P w K mg base k H f n sp)(g:Frz H H1):CloH P w K mg base k H1 f n sp :=
 λA outer s H' us vs Q D I L=>c A outer s H' us vs Q D I<|g.trans L
def tCallV(P:ik)(w:World)(K:Frag)(mg:Y1)(base:Heap)(k n:Nat)(sp:Sp)(i:Nat)(t:TA):TE:=λσ H Q=>∃f fd,σ[i]?=G (G 61)/\H f=G (fnO fd f)/\
 t σ H λvs H1=>H1 f=G (fnO fd f)/\CloH P w K mg base k H1 f n sp/\vs.length=n/\sp vs H1 Q E0
theorem zi0(f:Ad)(fd:i6):PySem.W.keepIn [059] 61=N:=by
 unfold PySem.W.keepIn;simp[List.lookup]
theorem zvo{X:Cx}{x:Str}{i k n:Nat}{sp:Sp}{p pos:Pos}{e:Expr}{es:List Expr}{t:TA}(hN:X.Nq[i]?=G x)(hv:Vis X.env.scope x)(D:Room k X.A)(d:PA X (e::es) t)
  (hd:010=Fa:=by decide) (hcd:046=Fa:=by decide) (L:iq (e::es) X.env=036::iq es X.env:=by rfl) (z:(jh pos<|iq es X.env).any (·.1)=Fa:=by rfl) :
  PE X 024 (tCallV X.prog X.w X.K X.mg X.base k n sp i t):=by
 intro pins s σ H Q I h;let(f,fd,hs,T,h):=h;infer_instance;let(g,C):=zq;subst g C;cases(show u=Va.ref f from r1);let l:∀{H2:Hp} {s2:ig},02 H2 s2->H2 f=G (fnO fd f)->PySem.W.Frag.In [059] s2.heap:=λ{H2 s2} w j a o e=>by
  simp only[List.lookup]at e;split at e
  .rename_i q;cases e;rw[beq_iff_eq.mp q];show(w.hok f _ j).1
  .cases e
 apply PySem.W.callWith_K (K:=[059]) (h₀:=s1.heap) (l I1 T) (zi0 f fd) (thn (d pos pins s1 σ H1 _ I1 h) λus s2 ⟨vs,H2,w,r,j,c,Y,q⟩=>⟨l w j,?_⟩) L z;apply ji<|iI (c X.A X.stack s2 H2 us vs Q D w.env0 (Frz.refl _) r Y q) λr s' A=>?_;cases r with
 |error e=>show False.elim A
 |ok O =>
  cases O with
  |ret u=>show w.after A
  |next=>show False.elim A
  |brk=>show False.elim A
  |cont=>show False.elim A
def tDef(X:Cx)(P:Ad)(qs:Y3)(name qual:Str)(params:iL)(body:lA)(scope:Scope)(j:Nat):TS:=λD σ H=>TabOk H P qs/\∀f H',Made X H H' name qual params body scope f->D.nx (σ.set j<|G 61) H'
def tLam(X:Cx)(P:Ad)(qs:Y3)(name qual:Str)(params:iL)(body:lA)(scope:Scope):TE:=λσ H Q=>TabOk H P qs/\∀f H',Made X H H' name qual params body scope f->Q 61 H'
section
variable {X:Cx}{c P:Ad}{qs:Y3}{pos:Pos}{name qual:Str}{params:iL}{scope:Scope}
theorem zrp(C:X.env.code=.ref c)(y:KCode X.K c P)(i:BltK X.base X.mg)(J:∀p∈scope.names,p.2=.free->X.env.kindOf p.1=G .cell\/X.env.kindOf p.1=G .free)
  (A:(pos,qual)∈qs) (q:∀p∈qs,p.1.line=pos.line->p.1.col=pos.col->p.2=qual) (hd:params.defaults=[]) (L:params.kw_defaults=[]) (a:X.env.qual++"<lambda>"=qual) :
  PE X (.Lambda params body scope pos) (tLam X P qs "<lambda>" qual params (.expr body) scope):=by
 intro pins s σ H Q I h;let(T,h):=h;rw[arm_eval_Lambda];let l:defaultsOf params X.env=([],[]):=by rw[defaultsOf_eq,hd,L];rfl
 simp only[l];apply ia<|ib (ia<|im (ib ?_));rw[a];show zmq I C y i J trivial T A q λf H' s' U M=>⟨.ref f,H',U,R,h f H' M⟩
theorem zyp(C:X.env.code=.ref c)(y:KCode X.K c P)(i:BltK X.base X.mg)(J:∀p∈scope.names,p.2=.free->X.env.kindOf p.1=G .cell\/X.env.kindOf p.1=G .free)(nd:docOf body=B)
  (A:(pos,qual)∈qs) (q:∀p∈qs,p.1.line=pos.line->p.1.col=pos.col->p.2=qual) (hd:params.defaults=[]) (L:params.kw_defaults=[]) (d:∀e,annTrees params B e=[]) (a:lw X.env name name=qual)
  (hN:X.Nq.Nodup) (g:X.Nq[j]?=G name) (O:X.env.scope.names.lookup name=G .local):PS X 070 072:=by
 intro pins s σ H D I h;let(T,h):=h;rw[exec_def];let l:defaultsOf params X.env=([],[]):=by rw[defaultsOf_eq,hd,L];rfl
 simp only[l,d,a];apply ia<|iS (ia<|im (ia<|ib (ia<|im (ib<|im (ia<|ib ?_)))));apply zmq I C y i J nd T A q λf H' s' U M=>ia<|iS (ia<|wpAny_bindName ?_);show zde U hN g (.inl O) (v:=.ref f) R (λs2 w=>ib ⟨_,H',w,h f H' M⟩)<|.inr O
end
def CellOf(X:Cx)(b:Ad):Prop:=∃x,X.env.cells.lookup x=G b
def Adopted(X:Cx)(σ:St)(H Hq:Hp):Prop:=(∀b,¬CellOf X b->Hq b=H b)/\(∀b,CellOf X b->H b=B)/\(∀x y c,X.env.cells.lookup x=G c->X.env.cells.lookup y=G c->x=y)/\∀x c,X.env.cells.lookup x=G c->∃o v,Hq c=G 012/\o.data=.cell v/\
 ∀(i:Nat) y,X.Nq[i]?=G x->σ[i]?=G (G y)->(X.env.kindOf x=G .cell\/X.env.kindOf x=G .free)->∃u,RelV y u/\v=G u
open Classical in
noncomputable def dropX(X:Cx)(H:Hp):Hp:=λb=>if CellOf X b then B else H b
def tCallA(X:Cx)(sp:Sp)(t:TA):TE:=λσ H Q=>t σ H λvs H1=>∀Hq,Adopted X σ H1 Hq->sp vs Hq (λv H2=>Q v<|dropX X H2) E0
theorem zvq{X:Cx}{k:Nat}{f:Ad}{fd:i6}{ps:List Str}{sp:Sp}{x:Str}{p pos:Pos}{e:Expr}{es:List Expr}{t:TA}(F:FnOk X.prog X.w X.K X.mg X.base CX0 k f fd ps sp)(D:Room k X.A)(hg:Gl X x)(hm:X.mg x=G 61)(M:PySem.W.keepIn X.K 61=N)(U:Binds X.K fd ps [])
  (bi:∀x,X.fn x=N) (ha:PA X (e::es) t) (w:010=Fa:=by decide) (L:iq (e::es) X.env=036::iq es X.env:=by rfl) (aq:(jh pos<|iq es X.env).any (·.1)=Fa:=by rfl) :
  PE X 024 (tCallA X sp t):=by
 classical
 intro pins s σ H Q I h;apply iA<|zd2 I hg hm ?_ w;apply PySem.W.callWith_K (h₀:=X.base) I.ok.mod.kin M (thn 051 λus s1 zz=>ex5 zz λvs H1 I1 r q=>⟨I1.kIn,?_⟩) L aq;letI Hq:Hp:=λb=>if CellOf X b then(s1.heap.get? b).map λo=>.frz o (.own b)else H1 b
 let E:∀b,¬CellOf X b->Hq b=H1 b:=λb n=>Xp n;let q2:∀x c,X.env.cells.lookup x=G c->∃o v,s1.heap.get? c=G o/\o.data=.cell v/\Hq c=G 012:=λx c e=>by
  let(v,o,ho,hd):=I1.cell x c e;show⟨o,v,ho,hd,by change(if CellOf X c then _ else _)=_;rw[Xq ⟨x,e⟩,ho];rfl⟩
 let tr:∀b u,H1 b=G u->¬CellOf X b:=λb u e ⟨x,z⟩=>by rw[I1.freeC x b z]at e;cases e
 let ad:Adopted X σ H1 Hq:=⟨E,λb ⟨x,z⟩=>I1.freeC x b z,I1.ok.inj,λx c e=>by
  let(o,v,ho,hd,A):=q2 x c e;apply⟨o,v,A,hd,λi y g e2 j=>?_⟩;let(m,hn,Y):=I1.loc;let(u,ru,l):=Y i x y g e2 (by rcases j with z|z;show .inr<|.inl z;show .inr<|.inr z);rcases l with⟨z,_⟩|⟨_,c',ai,o',ah,ak⟩
  .rcases j with y'|y'<;>(rw[z]at y';cases y')
  .rw[e]at ai;cases ai;rw[ho]at ah;cases ah;rw[hd]at ak;cases ak;show⟨u,ru,R⟩⟩
 let low:∀b,CellOf X b->X.s₀.heap.objs.size<=b:=λb ⟨x,e⟩=>I1.ok.cab x b (bi x) e;let db:∀b∈frs X.stack,¬CellOf X b:=λb U ⟨x,e⟩=>by
  rcases y09.mp (I1.stkSub b U)with z|z
  .exact I1.cne x b e z
  .let(_,o,ho,_):=I1.ok.funs.mem z;show Xa (y0p (y0c ho)<|low b ⟨x,e⟩)<|y1q _
 let up:∀b u,H1 b=G u->Hq b=G u:=λb u e=>by rw[E b<|tr b u e];show e
 let hokq:HOk X.prog X.w Hq s1.heap:=λb u e=>by
  by_cases C:CellOf X b
  .let(x,ex):=C;let(o,v,ho,hd,A):=q2 x b ex;rw[A]at e;cases e;show⟨ho,o,ho⟩
  .rw[E b C]at e;show(I1.hok b u e).stay (λ_ _ _ z=>z) (λc z=>up c _ z) (λc _ _ _ _ z=>up c _ z) λc xs z=>up c _ z
 let e0:=I1.env0;let e0q:Env0 X.prog X.w X.K X.mg X.base X.A X.stack s1 Hq:=⟨e0.frames,e0.mod,λb o e=>⟨(030).1,by
  rw[E b λC=>Xa (y0p (y0c e)<|y14 I1.ok.bsz (low b C))<|y1q _];show(030).2⟩,e0.bsz,e0.funs,λb U=>by rw[E b<|db b U];show e0.frf b U,hokq,e0.bare⟩
 let Y:us.length=ps.length:=by rw[←r.length];show F.len _ _ _ _<|q Hq ad
 apply ji<|iI (F.run X.A X.stack s1 Hq 019 us vs _ E0 D e0q (by have:=U s1 us I1.kIn (by rw[y1t];show Y);rw[y1t]at this;show this) r<|q Hq ad) λr s' A=>?_;cases r with
 |error e=>show False.elim A
 |ok fl =>
  cases fl with
  |next=>show False.elim A
  |brk=>show False.elim A
  |cont=>show False.elim A
  |ret u =>
   let(v,H2,os,bare,un,dc,d,qq):=A;let c2:∀x c,X.env.cells.lookup x=G c->∃o,s1.heap.get? c=G o/\H2 c=G 012/\s'.heap.get? c=G o:=λx c e=>by
    let(o,v,ho,hd,A):=q2 x c e;let z:=un.frzs c o _ A;show⟨o,ho,z,(dc c _ z).1⟩
   let J:∀b,¬CellOf X b->dropX X H2 b=H2 b:=λb n=>Xp n;let nmC:∀b o u q,CodeObj o q->H2 b=G (.frz o u)->¬CellOf X b:=λb o u q ⟨vs,t,hv,_⟩ e ⟨x,z⟩=>by
    let(o',ah,z2,_):=c2 x b z;rw[z2]at e;cases e;let(v,o3,ho,hd):=I1.cell x b z;rw[ah]at ho;cases ho;rw[hv]at hd;cases hd
   let nm:∀b u,H2 b=G u->(∀o a,u ≠ .frz o a)->¬CellOf X b:=λb u e n ⟨x,z⟩=>by
    let(o,_,z2,_):=c2 x b z;rw[z2]at e;cases e;show n _ _ R
   apply I1.after ⟨v,dropX X H2,os,bare,⟨λb o e n T O=>?_,λb o e n T O=>?_,λb o e n O=>?_,λb o e O=>?_,λb xs e=>?_,λb o a e=>?_,λb qs ps e=>?_⟩,λb u e=>?_,d,qq⟩
   .by_cases C:CellOf X b
    .let(x,ex):=C;let(o',ah,_,z):=c2 x b ex;rw[e]at ah;cases ah;show z
    .exact un.keep b o e (by rw[E b C];show n) T O
   .exact un.slot b o e (by rw[E b<|db b T];show n) T O
   .by_cases C:CellOf X b
    .exact Xq C
    .rw[J b C];show un.free b o e (by rw[E b C];show n) O
   .exact un.there b o e O
   .rw[J b<|tr b _ e];show un.tups b xs<|up b _ e
   .rw[J b<|tr b _ e];show un.frzs b o a<|up b _ e
   .rw[J b<|tr b _ e];show un.tbls b qs ps<|up b _ e
   .let C:¬CellOf X b:=λC=>by
     let:dropX X H2 b=B:=Xq C;rw[this]at e;cases e
    rw[J b C]at e;show(dc b u e).stay (λ_ _ _ z=>z) (λc z=>by rw[J c<|nm c _ z λ_ _ y=>nomatch y];show z) (λc o a q co z=>by rw[J c<|nmC c o a q co z];show z) λc xs z=>by rw[J c<|nm c _ z λ_ _ y=>nomatch y];show z
theorem zho:∀{xs:List q} {ys:List p},i8 Rq xs ys->xs.length=ys.length
 |_,_,.nil=>rfl
 |_,_,.cons _ t=>by rw[y0i,y0i,zho t]
theorem zt7:∀{xs:List q} {ys:List p} {i:Nat} {x:q} {y:p},i8 Rq xs ys->xs[i]?=G x->ys[i]?=G y->Rq x y
 |_,_,_,_,_,.nil,e,_=>by simp at e
 |_,_,0,_,_,.cons r _,g,C=>by simp at g C;subst g C;show r
 |_,_,i+1,_,_,.cons _ t,g,C=>zt7 (i:=i) t (by simpa using g) (by simpa using C)
def envL(qual:Str)(scope:Scope)(cl:Y4)(L f:Ad)(cd:Va):Env :=
 {scope:=scope,locals:=L,globals:=ir,cells:=cl,qual:=qual++".<locals>.",func:=G f,code:=cd,frame:=G L,builtins:=jg}
def InCl(cl:Y4)(b:Ad):Prop:=∃x,cl.lookup x=G b
open Classical in
noncomputable def dropL(cl:Y4)(H:Hp):Hp:=λb=>if InCl cl b then B else H b
open Classical in
noncomputable def mixL(cl:Y4)(H H2:Hp):Hp:=λb=>if InCl cl b then H b else H2 b
noncomputable def cxL(P:ik)(w:World)(K:Frag)(mg:Y1)(base:Heap)(Nq:List Str)(qual:Str)(scope:Scope)(cl:Y4)(f:Ad)(cd:Va)(A:io)(outer:List Env)(s:ig)(H:Hp):Cx where
 prog:=P
 w:=w
 K:=K
 mg:=mg
 base:=base
 A:=A.deeper<|envL qual scope cl s.heap.objs.size f cd
 Nq:=Nq
 s₀:=s
 H₀:=dropL cl H
 env:=envL qual scope cl s.heap.objs.size f cd
 outer:=outer
 stack:=envL qual scope cl s.heap.objs.size f cd::outer
 ex:=[]
 calm:=N
 fn:=λ_=>Fa
 pn:=[]
 xe:=λ_ _=>False
structure CloScope(own ps cap:List Str)(sc:Scope):Prop where
 kind:sc.kind=.function
 co:sc.isCoroutine=Fa
 gen:sc.isGenerator=Fa
 nocell:∀y∈sc.names,y.2 ≠ .cell
 pre:own.take ps.length=ps
 nd:ps.Nodup
 par:∀x∈ps,sc.names.lookup x=G .local
 cap:∀x∈cap,sc.names.lookup x=G .free
def Caps(H:Hp)(cl:Y4)(cap:List Str)(cv:List V):Prop:=i8 (λx v=>∃c o u,cl.lookup x=G c/\H c=G 012/\o.data=.cell (G u)/\RelV v u) cap cv
noncomputable def stL(own:List Str)(vs cv:List V):St:=vs.map G++List.replicate (own.length-vs.length) B++cv.map G
section
variable {P:ik}{w:World}{K:Frag}{mg:Y1}{base:Heap}{A:io}{outer:List Env}{s:ig}{H:Hp}{own ps cap:List Str}{qual:Str}{scope:Scope}{cl:Y4}{f:Ad}{cd:Va}{vs cv:List V}{us:List Va}
theorem zby(l:∀x c,cl.lookup x=G c->∃o v,H c=G 012/\o.data=.cell v)(e:H b=G u)(n:∀o a,u ≠ .frz o a):¬InCl cl b:=λ⟨x,z⟩=>by
 let(o,v,p,_):=l x b z;rw[p]at e;cases e;show n _ _ R
theorem zte(l:∀x c,cl.lookup x=G c->∃o v,H c=G 012/\o.data=.cell v)(co:CodeObj o q)(e:H b=G (.frz o a)):¬InCl cl b:=λ⟨x,z⟩=>by
 let(o,v,p,M):=l x b z;rw[p]at e;cases e;let(vs,t,hv,_):=co;rw[hv]at M;cases M
end
section
variable {prog:ik}{w:World}{A:io}{Rq:Result->ig->Prop}{s:ig}
theorem zja(h:wpAny 95 (A.deeper env) (eval e env) (λv s'=>Rq (.ok<|.ret v) s') (λe s'=>wpAny 95 (A.deeper env) (lz env e) (λ_ d=>Rq (.error e) d) (λf d=>Rq (.error f) d) s') s):
  jc 95 A (.expr e env) Rq s:=by
 apply jq ?_;change wpAny _ (A.deeper env) (do point;ret (←(eval e env).onRaise (lz env))) _ _ s;show ia<|wpAny_point (ia<|jO (iw h (λv s' h'=>ib h') λ_ _ h'=>h'))
theorem zek(d:A.depth<jX)(D:s.heap.get? a=G o)(p:o.data=.func fd)(q:fd.scope.isCoroutine=Fa)(j:fd.scope.isGenerator=Fa)(i:fd.body=.expr body)(hcd:s.heap.CodeRec fd.code fd.qualname)
  (h:wpAny 95 A.in1 (je fd args) (λbinds s₁ =>
   wpAny 95 A.in1 (jH fd.scope fd.globals fd.closure binds (fd.qualname++".<locals>.") (G a) fd.code B fd.builtins)
    (λenv s₂=>s₂.heap.NoLimit/\jc 95 A (.expr body env) Rq s₂) (λe s'=>Rq (.error e) s') s₁) (λe s'=>Rq (.error e) s') s) :
  jc 95 A (.call 07 args) Rq s:=by
 apply jq ?_;change wpAny _ A.in1 (callAny 07 args) _ _ s;simp only[callAny];apply ia<|lm D ?_;let(c,oc,vs,r,C,f,l,M):=hcd;simp only[p,callFunction,q,j,i,C];rw[C]at h;apply ia (m:=field (.ref c) 1)<|iB f l M (ia<|ib ?_);show ia (iw h (λbinds s₁ h₁=>ia (iw h₁ (λenv s₂ g=>ia (wpAny_enterFrame g.1 d
  (ib<|And.intro R g.2))) λ_ _ h'=>h')) λ_ _ h'=>h')
end
section
variable {P:ik}{w:World}{K:Frag}{mg:Y1}{base:Heap}{H:Hp}{own ps cap:List Str}{name qual:Str}{params:iL}{scope:Scope}{cl:Y4}{f c':Ad}{oc:Obj}{ct pm:Va}{cv:List V}{k:Nat}{sp:Sp}
theorem Caps.frz(g:Frz H H'):∀{cap:List Str} {cv:List V},Caps H cl cap cv->Caps H' cl cap cv
 |_,_,.nil=>.nil
 |_,_,.cons ⟨c,o,u,J,C,j⟩ t=>.cons ⟨c,o,u,J,g _ _ _ C,j⟩<|Caps.frz g t
end
theorem zbt:∀(ns:List<|Str×jj) (n:Nat) (cl:Y4),iu n ns cl=iu n ns []++cl
 |[],_,_=>rfl
 |(x,k)::r,n,cl=>by
  unfold iu;split
  .rw[zbt r (n+1) ((x,n)::cl),zbt r (n+1) [(x,n)]];simp
  .exact zbt r n cl
theorem zce:∀(ns:List<|Str×jj) (n:Nat) {x:Str} {c:Ad},(x,c)∈iu n ns []->(x,NameKind.cell)∈ns
 |[],_,_,_,h=>nomatch h
 |(y,k)::r,n,x,c,h=>by
  unfold iu at h;split at h
  .rename_i M;rw[zbt]at h;rcases y1c.mp h with z|z
   .exact y07 _<|zce r (n+1) z
   .cases y0l.mp z;rw[beq_iff_eq.mp M];show y0a
  .exact y07 _<|zce r n h
theorem zdl{q:Type}{x:Str}:∀{a b:List (Str×q)},(a++b).lookup x=(a.lookup x).or (b.lookup x)
 |[],_=>rfl
 |(y,v)::r,b=>by
  rw[y1u,y10,y10];cases x==y with
  |true=>rfl
  |false=>show zdl
section
variable {M:Model}{A:io}{E:Y0}{s₀ s:ig}{m cm:Y1}{env:Env}{ow:Y4}
theorem putL(x:jy s₀ env.locals m ow cm s)(L:env.scope.kind=.function)(Y:env.kindOf n=G .local)
  (q:∀t,jy s₀ env.locals (λy=>if y=n then G v else m y) ow cm t->Q () t):wpAny M A (jR env n v) Q E s:=by
 let(j,t0,g):=x.toInCall.same;apply wpAny_storeName_local Y x.toInCall.ns (λg1 gn i=>q _ {toInCall:=⟨⟨g1,t0+1,by rw[g]⟩,gn,λb o e=>?_,x.toInCall.fresh⟩,cell:=λk c C=>?_,apart:=x.apart,above:=x.above}) (by rw[L];rfl)
 .let lt:=y0c e;let fr:=x.toInCall.fresh;show i.extBut b o (y0j<|y0p lt fr)<|x.toInCall.keep b o e
 .let a:=x.above k c<|mem_of_lookup' C;show(x.cell k c C).sameBut i<|y29 a
theorem putC(x:jy s₀ env.locals m ow cm s)(L:env.scope.kind=.function)(Y:env.kindOf n=G .cell)(D:ow.lookup n=G c)(C:env.cells.lookup n=G c)
  (q:∀t,jy s₀ env.locals m ow (λy=>if y=n then G v else cm y) t->Q () t):wpAny M A (jR env n v) Q E s:=by
 let a:=x.above n c<|mem_of_lookup' D;let(j,t0,g):=x.toInCall.same;apply wpAny_storeName_cell L Y C (x.cell n c D) λg1 l i=>q _ {toInCall:=⟨⟨g1,t0,by rw[g]⟩,x.toInCall.ns.sameBut i<|y0j a,λb o e=>?_,x.toInCall.fresh⟩,cell:=λk d hd=>?_,apart:=x.apart,above:=x.above}
 .let lt:=y0c e;let fr:=x.toInCall.fresh;show i.extBut b o (y0j<|y1n (y0p lt fr) a)<|x.toInCall.keep b o e
 .by_cases f:k=n
  .rw[f,D]at hd;cases hd;rw[Xq f];show l
  .rw[Xp f];apply(x.cell k d hd).sameBut i λe=>f ?_;rw[e]at hd;show name_of_addr x.apart (mem_of_lookup' hd)<|mem_of_lookup' D
theorem bindM(f:Str×Va->PUnit->Sem (ForInStep PUnit))(T:∀n v u,f (n,v) u=(do jR env n v;pure (.yield ⟨⟩)))(L:env.scope.kind=.function)(a:∀n c,ow.lookup n=G c->env.cells.lookup n=G c):
  ∀(bs:List<|Str×Va) (m cm:Y1) (s:ig) (Q:PUnit->ig->Prop),jy s₀ env.locals m ow cm s->(∀y∈bs,env.kindOf y.1=G .local\/(env.kindOf y.1=G .cell/\∃c,ow.lookup y.1=G c))->
   (∀t,jy s₀ env.locals (bindL env.kindOf bs m) ow (bindC env.kindOf bs cm) t->Q ⟨⟩ t)->wpAny M A (forIn bs ⟨⟩ f) Q E s
 |[],m,cm,s,Q,x,_,q=>by rw[y2x];show ib<|q s x
 |(n,v)::r,m,cm,s,Q,x,U,q=>by
  rw[y2c,T];let J:=λy j=>U y<|y07 _ j;rcases U (n,v) y0a with z|⟨z,c,C⟩
  .refine ia<|ia (putL x L z λt I=>ib<|bindM f T L a r _ _ t Q I J λD O=>q D ?_);rw[bindL,bindC,Xq z,Xq z];show O
  .let d:¬env.kindOf n=G .local:=by rw[z];decide
   apply ia<|ia (putC x L z C (a n c C) λt I=>ib<|bindM f T L a r _ _ t Q I J λD O=>q D ?_);rw[bindL,bindC,Xp d,Xp d];show O
theorem newEnvM{cl:Y4}{code:Va}(L:scope.kind=.function)
  (U:∀y∈bs,scope.names.lookup y.1=G .local\/scope.names.lookup y.1=G .cell)
  (q:∀t,jy s s.heap.objs.size (bindL (λx=>scope.names.lookup x) bs λ_=>B) 038 (bindC (λx=>scope.names.lookup x) bs λ_=>B) t->
   Q (newEnv scope s.heap.objs.size globals 048 qual func code B builtins) t):wpAny M A (jH scope globals cl bs qual func code B builtins) Q E s:=by
 simp only[jH,Option.isSome_none,y35,if_false];apply ia<|wpAny_alloc (ia<|wpAny_layCells _ (λname kind cells=>by cases a:kind==NameKind.cell<;>simp[a]) _ _ _ _ ?_);let d:=cellsFrom_ok scope.names (s.heap.push {cls:=.type "frame",data:=.dict #[]}) 052 [] ⟨λ_ _ z=>(nomatch z),.nil⟩ (by rw[y18];show y05 _);rw[y18]at d;rw[show({s with heap:=s.heap.push {cls:=.type "frame",data:=.dict #[]} }:ig).heap.objs.size=s.heap.objs.size+1 from y18 ..,zbt];apply ia<|bindM (s₀:=s) (ow:=iu 052 scope.names []) (env:=newEnv scope s.heap.objs.size globals 048 qual func code B builtins) _ (λ_ _ _=>rfl) L (λn c e=>?_) bs (λ_=>B) (λ_=>B) _ _ ?_ (λy j=>?_) λt x=>ib<|q t x
 .change(048).lookup n=G c;rw[zdl,e];rfl
 .refine {toInCall:=⟨⟨_,_,R⟩,(Heap.Ns.new s.heap<|.type "frame").keeps<|pushCells_keeps _ _,λb o e=>pushCells_keeps _ _ b o<|y04 _ e,y05 _⟩,cell:=λn c e=>(d.empty n c<|mem_of_lookup' e).1,apart:=d.apart,above:=λn c e=>?_};let:=(d.empty n c e).2;show this
 .rcases U y j with z|z
  .exact .inl z
  .exact .inr ⟨z,zdo z⟩
end
def envM(qual:Str)(scope:Scope)(cl:Y4)(L f:Ad)(cd:Va):Env :=
 {scope:=scope,locals:=L,globals:=ir,cells:=iu (L+1) scope.names []++cl,qual:=qual++".<locals>.",func:=G f,code:=cd,frame:=G L,builtins:=jg}
noncomputable def cxM(P:ik)(w:World)(K:Frag)(mg:Y1)(base:Heap)(Nq:List Str)(qual:Str)(scope:Scope)(cl:Y4)(f:Ad)(cd:Va)(A:io)(outer:List Env)(s:ig)(H:Hp):Cx where
 prog:=P
 w:=w
 K:=K
 mg:=mg
 base:=base
 A:=A.deeper<|envM qual scope cl s.heap.objs.size f cd
 Nq:=Nq
 s₀:=s
 H₀:=dropL cl H
 env:=envM qual scope cl s.heap.objs.size f cd
 outer:=outer
 stack:=envM qual scope cl s.heap.objs.size f cd::outer
 ex:=[]
 calm:=N
 fn:=λx=>scope.names.lookup x==G .cell
 pn:=[]
 xe:=λ_ _=>False
structure CloScopeM(own ps cap:List Str)(sc:Scope):Prop where
 kind:sc.kind=.function
 co:sc.isCoroutine=Fa
 gen:sc.isGenerator=Fa
 pre:own.take ps.length=ps
 nd:ps.Nodup
 par:∀x∈ps,sc.names.lookup x=G .local\/sc.names.lookup x=G .cell
 cap:∀x∈cap,sc.names.lookup x=G .free
 one:∀y∈sc.names,y.2=.cell->sc.names.lookup y.1=G .cell
section
variable {P:ik}{w:World}{K:Frag}{mg:Y1}{base:Heap}{A:io}{outer:List Env}{s s1:ig}{H:Hp}{own ps cap:List Str}{qual:Str}{scope:Scope}{cl:Y4}{f:Ad}{cd:Va}{vs cv:List V}{us:List Va}
theorem zi2(S:CloScopeM own ps cap scope)(hd:A.handled=B)(e0:Env0 P w K mg base A outer s H)(Y:vs.length=ps.length)(au:ps.length<=own.length)(r:Vals vs us)
  (l:∀x c,cl.lookup x=G c->∃o v,H c=G 012/\o.data=.cell v) (ae:∀p∈scope.names,p.2=.free->∃c,cl.lookup p.1=G c) (inj:∀x y c,cl.lookup x=G c->cl.lookup y=G c->x=y) (a9:Caps H cl cap cv)
  (xc:jy s s.heap.objs.size (bindL (λx=>scope.names.lookup x) 018 λ_=>B) 038 (bindC (λx=>scope.names.lookup x) 018 λ_=>B) s1) :
  Inv (cxM P w K mg base (own++cap) qual scope cl f cd A outer s H) [] (stL own vs cv) (dropL cl H) s1:=by
 classical
 let(L,tk,rfl,M):=xc.done;let J:∀b,¬InCl cl b->dropL cl H b=H b:=λb n=>Xp n;let dn:∀b,H b=B->dropL cl H b=B:=λb e=>by
  by_cases C:InCl cl b
  .exact Xq C
  .rw[J b C];show e
 let noA:∀b:Ad,b∉(cxM P w K mg base (own++cap) qual scope cl f cd A outer s H).ex:=λb z=>Xa (show b∈([]:List Ad)from z) 06;let at':∀x c,cl.lookup x=G c->∃o v,s.heap.get? c=G o/\o.data=.cell v:=λx c e=>by
  let(o,v,z,zd):=l x c e;show⟨o,v,(e0.hok c _ z).1,zd⟩
 let I:HOk P w (dropL cl H) s.heap:=λb u e=>by
  let C:¬InCl cl b:=λC=>by
   let:dropL cl H b=B:=Xq C;rw[this]at e;cases e
  rw[J b C]at e;show(e0.hok b u e).stay (λ_ _ _ z=>z) (λc z=>by rw[J c<|zby l z λ_ _ y=>nomatch y];show z) (λc o a q co z=>by rw[J c<|zte l co z];show z) λc xs z=>by rw[J c<|zby l z λ_ _ y=>nomatch y];show z
 let two:∀x c,(048).lookup x=G c->((038).lookup x=G c/\s.heap.objs.size<c)\/((038).lookup x=B/\cl.lookup x=G c/\c<s.heap.objs.size):=λx c e=>by
  rw[zdl]at e;cases z:(iu (s.heap.objs.size+1) scope.names []).lookup x with
  |some y =>
   rw[z]at e;cases e;show .inl ⟨R,xc.above x c<|mem_of_lookup' z⟩
  |none =>
   rw[z]at e;let e':cl.lookup x=G c:=e;let(o,v,D,_):=at' x c e';show .inr ⟨R,e',y0c D⟩
 let k8:∀x,scope.names.lookup x=G .free->(038).lookup x=B:=λx O=>by
  cases z:(iu (s.heap.objs.size+1) scope.names []).lookup x with
  |none=>rfl
  |some y =>
   let:=S.one (x,.cell) (zce _ _<|mem_of_lookup' z) rfl;rw[O]at this;cases this
 apply⟨⟨e0.mod,S.kind,R,R,y05 _,λx y c O hy=>?_,λx O=>?_,λx c O C=>?_,λ_=>hd,Around.frames_deeper e0.frames,.inr ⟨R,R⟩,λb z=>Xa z<|noA b,λb o e=>⟨(030).1,dn b (030).2⟩,e0.bsz,λb _ _=>noA b,λb z=>Xa z<|noA b,e0.funs,λb U=>dn b<|e0.frf b U⟩,
  rfl,e0.bare,Un.kept M,⟨_,xc.toInCall.ns,λi x v g e2 j=>?_⟩,λx c e=>?_,I.fresh 08,λx c e=>?_,λp E=>Xa (show p∈([]:Y2)from E) 06,I.kept M,?_⟩
 .rcases two x c O with⟨T,z2⟩|⟨_,T,z2⟩<;>rcases two y c hy with⟨z3,z4⟩|⟨_,z3,z4⟩
  .exact name_of_addr xc.apart (mem_of_lookup' T)<|mem_of_lookup' z3
  .exact Xa (y1n z2 z4)<|y1q _
  .exact Xa (y1n z4 z2)<|y1q _
  .exact inj x y c T z3
 .let O:scope.names.lookup x=G .cell\/scope.names.lookup x=G .free:=O;change∃c,(048).lookup x=G c;rw[zdl];rcases O with z|z
  .let(c,e):=zdo (n:=s.heap.objs.size+1) z;show⟨c,by rw[e];rfl⟩
  .let(c,e):=ae (x,.free) (mem_of_lookup' z) rfl;show⟨c,by rw[k8 x z];show e⟩
 .let hx':scope.names.lookup x=G .cell:=beq_iff_eq.mp O;let(c',e):=zdo (n:=s.heap.objs.size+1) hx';rcases two x c C with⟨T,z2⟩|⟨T,_⟩
  .exact y1r z2
  .rw[e]at T;cases T
 .let av:(own++cap)[i]?=G x:=g;let Q:(vs.map G++List.replicate (own.length-vs.length) B++cv.map G)[i]?=G (G v):=e2;let lo:(vs.map G++List.replicate (own.length-vs.length) (B:Option V)).length=own.length:=by rw[y0d,y01,y2j];omega
  by_cases hi:i<own.length
  .rw[y16 00]at Q;by_cases hv:i<vs.length
   .rw[y16 (by simpa using hv),y03]at Q;rw[y16 hi]at av;let d:vs[i]?=G v:=by
     cases q:vs[i]? with
     |none=>rw[q]at Q;cases Q
     |some z=>rw[q]at Q;show congrArg G<|Option.some.inj (Option.some.inj Q)
    let(u,hu,ru):=r.get d;let E:ps[i]?=G x:=by rw[←S.pre,y4c 00];show av
    apply⟨u,ru,?_⟩;rcases S.par x (y0n E)with k|k
    .exact .inl ⟨k,zgs S.nd E hu k⟩
    .let(c,e):=zdo (n:=s.heap.objs.size+1) k;let qc:=xc.cell x c e;rw[zgt S.nd E hu<|by change scope.names.lookup x≠_;rw[k];decide]at qc;apply .inr ⟨.inl k,c,?_,qc⟩;change(048).lookup x=G c;rw[zdl,e];rfl
   .rw[y12 (by simpa using y2e hv),y3a]at Q;split at Q<;>cases Q
  .rw[y12 00,lo,y03]at Q;rw[y12 00]at av;let d:cv[i-own.length]?=G v:=by
    cases q:cv[i-own.length]? with
    |none=>rw[q]at Q;cases Q
    |some z=>rw[q]at Q;show congrArg G<|Option.some.inj (Option.some.inj Q)
   let(c,o,u,C,hz,ak,ru):=zt7 a9 av d;let hf':=S.cap x<|y0n av;apply⟨u,ru,.inr ⟨.inr hf',c,?_,o,M c o (e0.hok c _ hz).1,ak⟩⟩;change(048).lookup x=G c;rw[zdl,k8 x hf'];show C
 .rcases two x c e with⟨T,z2⟩|⟨_,T,z2⟩
  .exact⟨_,xc.cell x c T⟩
  .let(o,v,D,ak):=at' x c T;show⟨v,o,M c o D,ak⟩
 .rcases two x c e with⟨T,z2⟩|⟨_,T,z2⟩
  .exact I.fresh<|y1r z2
  .exact Xq ⟨x,T⟩
 .let:=zho a9;change(vs.map G++List.replicate (own.length-vs.length) B++cv.map G).length=(own++cap).length;rw[y0d,y0d,y01,y2j,y01,y0d];omega
theorem zel{Nq:List Str}{pins:Y2}{M:St}{H2:Hp}{s':ig}{v:V}{u:Va}{Q:VK}(I:Env0 P w K mg base A outer s H)(l:∀x c,cl.lookup x=G c->∃o v,H c=G 012/\o.data=.cell v)
  (J:Inv (cxM P w K mg base Nq qual scope cl f cd A outer s H) pins M H2 s') (d:RelV v u) (q:022->Q v (mixL cl H H2)):CE outer P w H s Q u s':=by
 classical
 let E:∀b,¬InCl cl b->dropL cl H b=H b:=λb n=>Xp n;let i:∀b,¬InCl cl b->mixL cl H H2 b=H2 b:=λb n=>Xp n;let r:∀b,H b=B->¬InCl cl b:=λb e ⟨x,z⟩=>by
  let(o,v,p,_):=l x b z;rw[p]at e;cases e
 let un:Un (frs outer) [] (dropL cl H) H2 s.heap s'.heap:=J.base;let g:∀x c,cl.lookup x=G c->∃o,H c=G 012/\s'.heap.get? c=G o/\H2 c=B:=λx c e=>by
  let(o,v,z,_):=l x c e;let D:=(I.hok c _ z).1;let Y:dropL cl H c=B:=Xq ⟨x,e⟩;let nf:c∉frs outer:=λU=>by rw[I.frf c U]at z;cases z
  show⟨o,z,un.keep c o D Y nf 06,un.free c o D Y 06⟩
 let L:∀b u,H2 b=G u->¬InCl cl b:=λb u e ⟨x,z⟩=>by
  let(_,_,_,p):=g x b z;rw[p]at e;cases e
 apply⟨v,mixL cl H H2,J.os,J.bare,⟨λb o e n T O=>un.keep b o e (by rw[E b<|r b n];show n) T O,λb o e n T O=>un.slot b o e (by rw[E b<|r b n];show n) T O,λb o e n O=>by rw[i b<|r b n];show un.free b o e (by rw[E b<|r b n];show n) O,un.there,λb xs e=>?_,λb o a e=>?_,λb qs ps e=>?_⟩,λb u e=>?_,d,q λb ⟨x,z⟩=>let⟨_,_,_,p⟩:=g x b z;p⟩
 .let C:=zby l e λ_ _ y=>nomatch y;rw[i b C];show un.tups b xs (by rw[E b C];show e)
 .by_cases C:InCl cl b
  .change(if InCl cl b then H b else H2 b)=_;rw[Xq C];show e
  .rw[i b C];show un.frzs b o a (by rw[E b C];show e)
 .let C:=zby l e λ_ _ y=>nomatch y;rw[i b C];show un.tbls b qs ps (by rw[E b C];show e)
 .by_cases C:InCl cl b
  .let j:H b=G u:=by rw[←e];show(Xq C).symm
   let(x,z):=C;let(o,z1,p,_):=g x b z;rw[z1]at j;cases j;show⟨p,o,p⟩
  .rw[i b C]at e;show(J.hok b u e).stay (λ_ _ _ z=>z) (λc z=>by rw[i c<|L c _ z];show z) (λc _ _ _ _ z=>by rw[i c<|L c _ z];show z) λc xs z=>by rw[i c<|L c _ z];show z
end
section
variable {P:ik}{w:World}{K:Frag}{mg:Y1}{base:Heap}{H:Hp}{own ps cap:List Str}{name qual:Str}{params:iL}{scope:Scope}{cl:Y4}{f c':Ad}{oc:Obj}{ct pm:Va}{cv:List V}{k:Nat}{sp:Sp}
theorem zty(S:CloScopeM own ps cap scope)(au:ps.length<=own.length)(T:H f=G (fnO 069 f))(C:H c'=G (.frz oc<|.own c'))(co:CodeObj oc qual)
  (l:∀x c,cl.lookup x=G c->∃o v,H c=G 012/\o.data=.cell v) (ae:∀p∈scope.names,p.2=.free->∃c,cl.lookup p.1=G c) (inj:∀x y c,cl.lookup x=G c->cl.lookup y=G c->x=y) (E:Caps H cl cap cv)
  (j:∀us:List Va,us.length=ps.length->je 069 019=pure 018)
  (i:∀(A:io) (outer:List Env) (s:ig) (H':Hp) (vs:List V) (Q:VK),Room k (A.deeper<|envM qual scope cl s.heap.objs.size f (.ref c'))->Frz H H'->vs.length=ps.length->sp vs H' Q E0->
   ∃t,PE (cxM P w K mg base (own++cap) qual scope cl f (.ref c') A outer s H') body t/\t (stL own vs cv) (dropL cl H') (λv H2=>022->Q v 029)):CloH P w K mg base (k+1) H f ps.length sp:=by
 intro A outer s H' us vs Q D e0 L r Y a;let c9:s.heap.NoLimit:=e0.mod.nolimit.keeps λb o e=>(030).1;let ho:=(e0.hok f _<|L _ _ _ T).1;let cu:=(e0.hok c' _<|L _ _ _ C).1;let(ws,t',O,M):=co;let k9:us.length=ps.length:=by rw[←r.length];show Y
 let g:∀x c,cl.lookup x=G c->∃o v,H' c=G 012/\o.data=.cell v:=λx c e=>let⟨o,v,z,d⟩:=l x c e;⟨o,v,L _ _ _ z,d⟩;apply zek D.depth ho R S.co S.gen R ⟨c',oc,ws,t',R,cu,O,M⟩ ?_;rw[j us k9];apply ib<|newEnvM S.kind (λy U=>S.par y.1 (y26<|show(y.1,y.2)∈ps.zip us from U).1) λs1 x=>?_;apply⟨c9.keeps x.toInCall.keep,zja ?_⟩;let(t,ht,hq):=i A outer s H' vs Q (D.deeper _) L Y a;let I:=zi2 (qual:=qual) (f:=f) (cd:=.ref c') S D.hd e0 Y au r g ae inj (E.frz L) x;show iw (ht [] _ _ _ _ I hq) (λu s' ⟨v,H2,J,rv,q⟩=>zel e0 g J rv q) λ_ _ z=>z.elim
theorem zh5(S:CloScopeM own ps cap scope)(au:ps.length<=own.length)(T:H f=G (fnO 054 f))(C:H c'=G (.frz oc<|.own c'))(co:CodeObj oc qual)
  (l:∀x c,cl.lookup x=G c->∃o v,H c=G 012/\o.data=.cell v) (ae:∀p∈scope.names,p.2=.free->∃c,cl.lookup p.1=G c) (inj:∀x y c,cl.lookup x=G c->cl.lookup y=G c->x=y) (E:Caps H cl cap cv)
  (j:∀us:List Va,us.length=ps.length->je 054 019=pure 018)
  (i:∀(A:io) (outer:List Env) (s:ig) (H':Hp) (vs:List V) (Q:VK),Room k (A.deeper<|envM qual scope cl s.heap.objs.size f (.ref c'))->Frz H H'->vs.length=ps.length->sp vs H' Q E0->
   ∃t,PSs (cxM P w K mg base (own++cap) qual scope cl f (.ref c') A outer s H') body t/\t {nx:=λ_ H2=>022->Q .non 029,rt:=λv H2=>022->Q v 029} (stL own vs cv) (dropL cl H')):CloH P w K mg base (k+1) H f ps.length sp:=by
 intro A outer s H' us vs Q D e0 L r Y a;let c9:s.heap.NoLimit:=e0.mod.nolimit.keeps λb o e=>(030).1;let ho:=(e0.hok f _<|L _ _ _ T).1;let cu:=(e0.hok c' _<|L _ _ _ C).1;let(ws,t',cd1,cd2):=co;let k9:us.length=ps.length:=by rw[←r.length];show Y
 let g:∀x c,cl.lookup x=G c->∃o v,H' c=G 012/\o.data=.cell v:=λx c e=>let⟨o,v,z,d⟩:=l x c e;⟨o,v,L _ _ _ z,d⟩;apply iW D.depth ho R S.co S.gen R ⟨c',oc,ws,t',R,cu,cd1,cd2⟩ ?_;rw[j us k9];apply ib<|newEnvM S.kind (λy U=>S.par y.1 (y26<|show(y.1,y.2)∈ps.zip us from U).1) λs1 x=>?_;apply⟨c9.keeps x.toInCall.keep,j9 ?_⟩;let(t,ht,hq):=i A outer s H' vs Q (D.deeper _) L Y a;let I:=zi2 (qual:=qual) (f:=f) (cd:=.ref c') S D.hd e0 Y au r g ae inj (E.frz L) x;apply iw (ht [] _ _ _ _ I hq) (λO s' hs=>?_) λ_ _ z=>z.elim;cases O with
 |ret u =>
  let(v,M,H2,J,rv,q):=hs;show zel e0 g J rv q
 |next =>
  let(M,H2,J,q):=hs;show zel (v:=V.non) (u:=Va.none) e0 g J R q
 |brk =>
  let(_,_,_,q):=hs;show False.elim q
 |cont =>
  let(_,_,_,q):=hs;show False.elim q
end
theorem zfb:∀{ns:List (Str×jj)} (n:Nat),(∀y∈ns,y.2 ≠ .cell)->iu n ns []=[]
 |[],_,_=>rfl
 |(x,k)::r,n,h=>by
  unfold iu;rw[Xp λz=>h (x,k) y0a<|beq_iff_eq.mp z];show zfb n λy U=>h y<|y07 _ U
section
variable {P:ik}{w:World}{K:Frag}{mg:Y1}{base:Heap}{A:io}{outer:List Env}{s:ig}{H:Hp}{Nq own ps cap:List Str}{name qual:Str}{params:iL}{scope:Scope}{cl:Y4}{f c' L:Ad}{cd ct pm:Va}{cv:List V}{k:Nat}{sp:Sp}{oc:Obj}
theorem CloScope.m(S:CloScope own ps cap scope):CloScopeM own ps cap scope:=⟨S.kind,S.co,S.gen,S.pre,S.nd,λx h=>.inl<|S.par x h,S.cap,λy U e=>Xa e<|S.nocell y U⟩
theorem zoi(n:∀y∈scope.names,y.2 ≠ .cell):envM qual scope cl L f cd=envL qual scope cl L f cd:=by unfold envM envL;rw[zfb _ n];rfl
theorem ztn(n:∀y∈scope.names,y.2 ≠ .cell):cxM P w K mg base Nq qual scope cl f cd A outer s H=cxL P w K mg base Nq qual scope cl f cd A outer s H:=by
 let e:(λx=>scope.names.lookup x==G .cell)=λ_=>Fa:=funext λx=>by
  cases z:scope.names.lookup x==G NameKind.cell with
  |false=>rfl
  |true=>show Xa R<|n _ (mem_of_lookup'<|beq_iff_eq.mp z)
 unfold cxM cxL;rw[zoi n,e]
theorem newEnvL(S:CloScope own ps cap scope)(U:∀y∈bs,scope.names.lookup y.1=G .local)
  (q:∀t,jy s s.heap.objs.size (bindL (λx=>scope.names.lookup x) bs λ_=>B) 038 (bindC (λx=>scope.names.lookup x) bs λ_=>B) t->Q (envL qual scope cl s.heap.objs.size f cd) t):wpAny M A (jH scope ir cl bs (qual++".<locals>.") (G f) cd B jg) Q E s :=
 newEnvM S.kind (λy j=>.inl<|U y j) λt x=>by have z:=q t x;rw[←zoi S.nocell]at z;show z
theorem zw5(S:CloScope own ps cap scope)(U:ps.length<=own.length)(T:H f=G (fnO 069 f))(C:H c'=G (.frz oc<|.own c'))(co:CodeObj oc qual)
  (l:∀x c,cl.lookup x=G c->∃o v,H c=G 012/\o.data=.cell v) (J:∀p∈scope.names,p.2=.free->∃c,cl.lookup p.1=G c) (inj:∀x y c,cl.lookup x=G c->cl.lookup y=G c->x=y) (E:Caps H cl cap cv)
  (j:∀us:List Va,us.length=ps.length->je 069 019=pure 018)
  (i:∀(A:io) (outer:List Env) (s:ig) (H':Hp) (vs:List V) (Q:VK),Room k 055->Frz H H'->vs.length=ps.length->sp vs H' Q E0->
   ∃t,PE (cxL P w K mg base (own++cap) qual scope cl f (.ref c') A outer s H') body t/\t (stL own vs cv) (dropL cl H') (λv H2=>022->Q v 029)):CloH P w K mg base (k+1) H f ps.length sp :=
 zty S.m U T C co l J inj E j λA outer s H' vs Q D=>by rw[ztn S.nocell];rw[zoi S.nocell]at D;show i A outer s H' vs Q D
theorem ztx(S:CloScope own ps cap scope)(U:ps.length<=own.length)(T:H f=G (fnO 054 f))(C:H c'=G (.frz oc<|.own c'))(co:CodeObj oc qual)
  (l:∀x c,cl.lookup x=G c->∃o v,H c=G 012/\o.data=.cell v) (J:∀p∈scope.names,p.2=.free->∃c,cl.lookup p.1=G c) (inj:∀x y c,cl.lookup x=G c->cl.lookup y=G c->x=y) (E:Caps H cl cap cv)
  (j:∀us:List Va,us.length=ps.length->je 054 019=pure 018)
  (i:∀(A:io) (outer:List Env) (s:ig) (H':Hp) (vs:List V) (Q:VK),Room k 055->Frz H H'->vs.length=ps.length->sp vs H' Q E0->
   ∃t,PSs (cxL P w K mg base (own++cap) qual scope cl f (.ref c') A outer s H') body t/\t {nx:=λ_ H2=>022->Q .non 029,rt:=λv H2=>022->Q v 029} (stL own vs cv) (dropL cl H')):CloH P w K mg base (k+1) H f ps.length sp :=
 zh5 S.m U T C co l J inj E j λA outer s H' vs Q D=>by rw[ztn S.nocell];rw[zoi S.nocell]at D;show i A outer s H' vs Q D
end
structure FunC(K:Frag)(x:Str)(st:Stmt)(f:Ad)(fd:i6)(c:Ad):Prop where
 ex:∃(oc:Va) (od:Option Ad) (kV doc pm:Va) (an:Option Ad) (ct:Va) (osl:Y8),
  fd=PySem.W.fnOf x x (defArgs st) (defBody st) 66 .none kV doc pm an (.ref c) ct/\K.lookup f=G ⟨oc,od,.func fd,osl⟩/\PySem.W.codeIn K (.ref c) x=N
 kp:PySem.W.keepIn K 61=N
structure DfnC(K:Frag)(mg:Y1)(x:Str)(st:Stmt)(ps:List Str)(c P:Ad):Prop where
 ex:∃f fd,FunC K x st f fd c/\Binds K fd ps []/\mg x=G 61
 code:KCode K c P
theorem kcode_mk{K:Frag}(l:K.lookup c=G ⟨.type "code",j,.fields vs,Y⟩)
  (o:vs[11]?=G (.ref P)) (w:vs[18]?=G (.str f u)) (x:vs[7]?=G (.int d r)) (s:vs[9]?=G (.bool a)) (q:vs[10]?=G (.int text p)) (ne:c≠P):KCode K c P:=by
 let g:∀{i:Nat} {v:Va},vs[i]?=G v->vs.getD i .none=v:=λ{i v} e=>by rw[Array.getD_eq_getD_getElem?,e];rfl
 show⟨_,vs,f,u,d,r,a,text,p,l,R,R,o,g o,g w,g x,g s,g q,ne⟩
theorem dfnc_mk{K:Frag}{h:Heap}{mg:Y1}{x:Str}{st:Stmt}{ps:List Str}{f c P:Ad}{oc:Va}{j an:Option Ad}{z:Y8}{kV doc pm ct:Va}(X:K.In h)(Gq:h.Ns ir mg)
  (a:PySem.W.nsIn K ir x=G (G 61)) (l:K.lookup f=G ⟨oc,j,.func<|PySem.W.fnOf x x (defArgs st) (defBody st) 66 .none kV doc pm an (.ref c) ct,z⟩)
  (cd:PySem.W.codeIn K (.ref c) x=N) (k:PySem.W.keepIn K 61=N) (y:KCode K c P)
  (U:∀(kV doc pm:Va) (an:Option Ad) (cdv ct:Va) (us:List Va),us.length=ps.length->je 062 019=pure 018):DfnC K mg x st ps c P :=
 ⟨⟨f,_,⟨⟨oc,j,kV,doc,pm,an,ct,z,R,l,cd⟩,k⟩,(zob l cd k).binds U,PySem.W.mg_of X Gq a⟩,y⟩
section
variable {P:ik}{w:World}{K:Frag}{mg:Y1}{base:Heap}
theorem DfnC.cal{x:Str}{st:Stmt}{Nq ps:List Str}{k:Nat}{sp:Sp}{c C:Ad}(d:DfnC K mg x st ps c C)(S:FnScope Nq ps 66)(len:∀vs H Q E,sp vs H Q E->vs.length=ps.length)
  (i:∀(f:Ad) (A:io) (outer:List Env) (s:ig) (H:Hp) (vs:List V) (Q:VK) (E:XK),Room k (A.deeper<|jd x 66 s.heap.objs.size f (.ref c))->sp vs H Q E->
   ∃t,PSs (057).nox (defBody st) t/\t {nx:=λ_ H'=>Q .non H',rt:=Q} 026 H):03 (k+1) x ps sp:=by
 let(f,fd,F,b,m):=d.ex;let(oc,j,kV,doc,r,g,ct,z,rfl,lk,hcd):=F.ex;apply⟨f,_,fn_of lk hcd S len λA outer s H vs Q E D a=>?_,b,F.kp,m⟩;let(t,h,q):=i f A outer s H vs Q E D a;show⟨t,h.nox,q⟩
end
def TabFor(q:ik)(K:Frag)(mg:Y1)(b:Ad):Prop:=∃d∈recsOf q,∃f oc j fd z c,mg d.name=G 61/\K.lookup f=G ⟨oc,j,.func fd,z⟩/\fd.code=.ref c/\KCode K c b
theorem DfnC.tab{q:ik}{K:Frag}{mg:Y1}{x:Str}{st:Stmt}{ps:List Str}{c b:Ad}(d:DfnC K mg x st ps c b)(O:((recsOf q).any λr=>r.name==x)=N):TabFor q K mg b:=by
 let(r,D,e):=y1v.mp O;let(f,fd,F,_,m):=d.ex;let(oc,j,kV,doc,a,g,ct,z,rfl,lk,hcd):=F.ex;show⟨r,D,f,oc,j,_,z,c,by rw[beq_iff_eq.mp e];show m,lk,R,d.code⟩
def TabsOf(q:ik)(mg:Y1)(h:Heap):Prop:=∀d∈recsOf q,∃a o fd c P,mg d.name=G 07/\h.get? a=G o/\o.data=.func fd/\fd.code=.ref c/\h.IsCode c P #[]/\h.TableAt c P #[]
theorem TabFor.at{K:Frag}{h:Heap}(t:TabFor q K mg b)(X:K.In h)(T:TabsOf q mg h):∃c,h.TableAt c b #[]:=by
 let(d,hd,f,oc,A,fd,z,c,m,lk,x,y):=t;let(a,o,i,c',v,O,D,E,C,_,l):=T d hd;rw[m]at O;cases O;rw[X f _ lk]at D;cases D;cases E;rw[x]at C;cases C;let(o,vs,_,_,_,_,_,_,_,r,_,p,e,_):=y;let((H,s,g,U,j,u),w):=id l;rw[X c o r]at g;cases g;rw[p]at j;cases j;rw[e]at u;cases u;show⟨c,l⟩
def OnlyT(ts:List<|Ad×List (Pos×Str))(H:Hp):Prop:=(∀b,H b=B\/(∃o xs,H b=G (.frz o 91))\/∃qs,ts.lookup b=G qs/\H b=G (.tbl qs #[]))/\∀b qs,ts.lookup b=G qs->H b=G (.tbl qs #[])
theorem OnlyT.tab(h:OnlyT ts H)(e:ts.lookup b=G qs):TabOk H b qs:=⟨#[],h.2 b qs e⟩
theorem zsq{K:Frag}{s₁:ig}{vs:List Va}{ns:List Int}{ts:List (Ad×List (Pos×Str))}
  (KX:K.In s₁.heap) (cw:s₁.heap.Ns ir mg) (U:s₁.heap.Ns jg mb) (hbb:∀x:Str,x≠"__name__"->mb x=ja x) (hlim:s₁.heap.NoLimit) (y:s₁.gens=#[])
  (ha:s₁.heap.get? a=G {cls:=.type "list",data:=.seq vs.toArray}) (hi:jJ vs ns) (Y:ns.length<=ii) (D:Room k li)
  (hbm:BltK s₁.heap mg) (hts:∀b qs,ts.lookup b=G qs->∃c,s₁.heap.TableAt c b #[]) (hKt:∀b qs,ts.lookup b=G qs->K.lookup b=B)
  (F:∀base:Heap,K.In base->base.Ns ir mg->BltK base mg->FnOk P w K mg base CX k fa fd [x] sp) (j:∀(s:ig) (u:Va),lh s fd ⟨[u],[]⟩ [(x,u)])
  (hsp:∀H:Hp,OnlyT ts H->SqL K H a 025->sp [.ref a] H (λv _=>v=.bl N) λ_ _ _=>False)
  (hCX:∀H e s',CX [] H s₁ (λ_ _ _=>False) e s'->False) :
  jc 78 li (.call (.ref fa) ⟨[.ref a],[]⟩) (λr s'=>r=.ok (.ret<|.bool N)/\OldK s₁.heap s'.heap/\s'.os=s₁.os/\j8 s'.gens) s₁:=by
 let rv:=zjq hi;let lenV:=hi.length;let la:∀H:Hp,OnlyT ts H->SqL K H a 025->HOk P w H s₁.heap->(∀b,H b≠B->b=a\/∃qs,ts.lookup b=G qs)->(H a≠B->K.lookup a=B)->
   jc 78 li (.call (.ref fa) ⟨[.ref a],[]⟩) (λr s'=>r=.ok (.ret<|.bool N)/\OldK s₁.heap s'.heap/\s'.os=s₁.os/\j8 s'.gens) s₁:=by
  intro H hO hS hok hA hK;let A:∀{b:Ad} {o:Obj},s₁.heap.get? b=G o->H b=B->(hidT s₁.heap H).get? b=G o:=λe n=>zwn e n;let noT:∀{b:Ad} {o:Obj},s₁.heap.get? b=G o->(∀q n,o.data ≠ .seq q n)->(∀ps,o.data ≠ .fields ps\/o.cls ≠ .none)->H b=B:=λ{b o} e I n2=>by
   cases q:H b with
   |none=>rfl
   |some u =>
    rcases hA b (by rw[q];simp)with f|⟨qs,f⟩
    .subst f;rw[ha]at e;cases e;show Xa R<|I _ _
    .let(c,_,T):=hts b qs f;rw[T]at e;cases e;rcases n2 #[]with z|z
     .exact Xa R z
     .exact Xa R z
  let Q:∀{b:Ad} {o:Obj} {es:Array DictEntry} {ep:Nat},s₁.heap.get? b=G o->o.data=.dict es ep->H b=B:=λ{b o es ep} e d=>noT e (λq n z=>by rw[d]at z;cases z) λps=>.inl λz=>by rw[d]at z;cases z
  let nsK:∀{b:Ad} {m:Y1},s₁.heap.Ns b m->(hidT s₁.heap H).Ns b m:=λ{b m} ⟨o,es,ep,e,d,r⟩=>⟨o,es,ep,A e<|Q e d,d,r⟩;let hKb:K.In (hidT s₁.heap H):=λb o e=>A (KX b o e) (by
   cases q:H b with
   |none=>rfl
   |some u =>
    rcases hA b (by rw[q];simp)with f|⟨qs,f⟩
    .subst f;rw[hK<|by rw[q];simp]at e;cases e
    .rw[hKt b qs f]at e;cases e)
  let hBb:BltK (hidT s₁.heap H) mg:=by
   let(bm,o,b1,b2,b3,b4,b5,b6):=hbm;show⟨bm,o,b1,b2,A b3 (noT b3 (λq n z=>by rw[b6]at z;cases z) λps=>.inl λz=>by rw[b6]at z;cases z),b4,b5,b6⟩
  let hM:Mod K mg (hidT s₁.heap H):=⟨hKb,nsK cw,⟨mb,nsK U,hbb⟩,let⟨mc,L,J⟩:=hlim;⟨mc,nsK L,J⟩⟩;let e0:Env0 P w K mg (hidT s₁.heap H) li [] s₁ H:=⟨R,hM,λb o e=>of_hidT e,y4l<|zs1 _ _,trivial,λb U=>Xa (show b∈([]:List Ad)from U) 06,hok,.of_eq y⟩;apply iI ((F _ hKb (nsK cw) hBb).run li [] s₁ H ⟨[.ref a],[]⟩ [.ref a] [.ref a] _ _ D e0 (j s₁ 07) (.cons R .nil)<|hsp H hO hS) λr s' h=>?_;cases r with
  |error e=>show(hCX H e s' h).elim
  |ok O =>
   cases O with
   |next=>show False.elim h
   |brk=>show False.elim h
   |cont=>show False.elim h
   |ret u =>
    let(v,H',os,bare,un,l9,r',q):=h;let q':v=.bl N:=q;subst q';obtain rfl:u=Va.bool N:=r';let was:∀b o,s₁.heap.get? b=G o->asItWas s₁.heap s'.heap b o:=λb o e=>by
     rcases hO.1 b with z|⟨ob,xs,z⟩|⟨qs,l,z⟩
     .exact .inl<|un.keep b o e z (by intro z;show Xa (show b∈([]:List Ad)from z) 06) 06
     .let z2:=un.frzs b ob _ z;let(g,_):=hok b _ z;let(C,_):=l9 b _ z2;rw[e]at g;cases g;show .inl C
     .let z2:=un.tbls b qs _ z;let(i,C,_):=l9 b _ z2;let(c,ta):=hts b qs l;let T:=ta.2;rw[T]at e;cases e;show .inr<|.inl ⟨ta.isCodeTable,R,#[],i,R,C⟩
    show⟨R,⟨was,λb o e=>un.there b o e 06⟩,os,bare⟩
 let neA:∀qs,ts.lookup a=G qs->False:=λqs e=>by
  let(c,_,T):=hts a qs e;rw[T]at ha;cases ha
 let ka:∀(H:Hp) b qs,ts.lookup b=G qs->ObjOk P w H s₁.heap b (.tbl qs #[]):=λH b qs e=>by
  let(c,_,T):=hts b qs e;show⟨#[],by simpa using T,trivial,λp E v z=>by simp[jv]at z⟩
 letI HT:Hp:=λb=>(ts.lookup b).map λqs=>.tbl qs #[];let fk:∀b qs,ts.lookup b=G qs->HT b=G (.tbl qs #[]):=λb qs e=>by change(ts.lookup b).map _=_;rw[e];rfl
 let dy:∀b,ts.lookup b=B->HT b=B:=λb e=>by change(ts.lookup b).map _=_;rw[e];rfl
 cases M:K.lookup a with
 |some o =>
  let e:=KX a o M;rw[ha]at e;cases e;apply la HT ⟨λb=>?_,fk⟩ (.inr ⟨_,vs.toArray,_,M,R,R,R,by rw[y06,lenV];show Y,by simpa using rv⟩) (λb u z=>?_) (λb z=>?_) λz=>?_
  .cases e:ts.lookup b with
   |none=>show .inl<|dy b e
   |some qs=>show .inr<|.inr ⟨qs,R,fk b qs e⟩
  .cases e:ts.lookup b with
   |none=>rw[dy b e]at z;cases z
   |some qs=>rw[fk b qs e]at z;cases z;show ka _ b qs e
  .cases e:ts.lookup b with
   |none=>show Xa (dy b e) z
   |some qs=>show .inr ⟨qs,R⟩
  .cases e:ts.lookup a with
   |none=>show Xa (dy a e) z
   |some qs=>show(neA qs e).elim
 |none =>
  letI H1:Hp:=λb=>if b=a then G (.frz {cls:=.type "list",data:=.seq vs.toArray} (.lst 025))else HT b
  let h1a:H1 a=G (.frz {cls:=.type "list",data:=.seq vs.toArray} (.lst 025)):=Xq rfl;let h1b:∀b,b≠a->H1 b=HT b:=λb e=>Xp e;apply la H1 ⟨λb=>?_,λb qs e=>?_⟩ (.inl<|.inr ⟨{cls:=.type "list",data:=.seq vs.toArray},h1a⟩) (λb u z=>?_) (λb z=>?_) λ_=>M
  .by_cases U:b=a
   .subst U;show .inr<|.inl ⟨_,_,h1a⟩
   .rw[h1b b U];cases e:ts.lookup b with
    |none=>show .inl<|dy b e
    |some qs=>show .inr<|.inr ⟨qs,R,fk b qs e⟩
  .rw[h1b b λz=>neA qs<|z▸e];show fk b qs e
  .by_cases U:b=a
   .subst U;rw[h1a]at z;cases z;show⟨ha,by rw[y01];show Y,vs,_,rv,ha⟩
   .rw[h1b b U]at z;cases e:ts.lookup b with
    |none=>rw[dy b e]at z;cases z
    |some qs=>rw[fk b qs e]at z;cases z;show ka _ b qs e
  .by_cases U:b=a
   .exact .inl U
   .rw[h1b b U]at z;cases e:ts.lookup b with
    |none=>show Xa (dy b e) z
    |some qs=>show .inr ⟨qs,R⟩
theorem walk_ofT{l:PySem.W.OpenLaw}{n k:Nat}{q:ik}{c:List Str}{T:(Str->Option Va)->Heap->Prop}{Q:World->Heap->Prop}{d:DefRec}{K:Params->Frag}{CX:CXT}{sp:Frag->List (Ad×List (Pos×Str))->Sp}{x:Str}
  (I:l.most=G n) (M:n<=ii) (E:d.params.defaults=[]) (D:Room k li)
  (hY:∀(w:World) (h:Heap),Q w h->(K w.params).In h)
  (F:∀(w:World) (mg:Y1) (g:Ad) (h:Heap),(K w.params).In h->h.Ns ir mg->mg d.name=G (.ref g)->
   ∃(fd:i6) (ts:List<|Ad×List (Pos×Str)),(∀(s:ig) (u:Va),lh s fd ⟨[u],[]⟩ [(x,u)])/\(∀b qs,ts.lookup b=G qs->TabFor q (K w.params) mg b/\(K w.params).lookup b=B)/\
    ∀base:Heap,(K w.params).In base->base.Ns ir mg->BltK base mg->FnOk l.prog w (K w.params) mg base CX k g fd [x] (sp (K w.params) ts))
  (hsp:∀(K:Frag) (ts:List<|Ad×List (Pos×Str)) (H:Hp) (a:Ad) (ns:List Int),ns.length<=n->OnlyT ts H->SqL K H a 025->sp K ts [.ref a] H (λv _=>v=.bl N) λ_ _ _=>False)
  (A:∀(H:Hp) (s:ig) (e:Va) (s':ig),CX [] H s (λ_ _ _=>False) e s'->False) :
  PySem.W.WalkO q c T Q l.row.toRowW d [] (λf vs=>PySem.call f vs):=by
 apply Att.attach_call I E λw s₀ s₁ mg mb g o r cd doc a vs ns Gq Y ho hd hcd O z i L y=>?_;let KX:=hY w _ Y;let(fd,ts,U,p,J):=F w mg g _ KX Gq.T.g O;show zsq KX Gq.T.g Gq.T.b Gq.T.builtins Gq.T.nolimit y z i (y14 L M) D Gq.T.bmain (λb qs e=>(p b qs e).1.at KX Gq.T.tab) (λb qs e=>(p b qs e).2) J U (λH C j=>hsp (K w.params) ts H a ns L C j) λH e s'=>A H s₁ e s'
theorem zxn:∀{ts:List (Ad×List (Pos×Str))} {b:Ad} {qs:Y3},ts.lookup b=G qs->(b,qs)∈ts
 |[],_,_,e=>by simp at e
 |(a,q)::ts,b,qs,e=>by
  rw[y10]at e;split at e
  .rename_i z;cases e;rw[show b=a from beq_iff_eq.mp z];show y0a
  .exact y07 _<|zxn e
theorem ts_all{ts:List (Ad×List (Pos×Str))}{Rq:Ad->Prop}(h:∀p∈ts,Rq p.1):∀b qs,ts.lookup b=G qs->Rq b:=λb qs e=>h (b,qs)<|zxn e
theorem zc1{X:Cx}{n k:Nat}{x:Str}{ps:List Str}{sp:Sp}{p pos:Pos}{e:Expr}{es:List Expr}{t:TA}(C:Cal X.prog X.w X.K X.mg X.base n x ps sp)(D:Room k X.A)(v:n<=k)(y:Gl X x)(r:∀x,X.fn x=N)(d:PA X (e::es) t)(w:010=Fa:=by decide)
  (L:notStar e=N:=by rfl) (J:es.all notStar=N:=by rfl):PE X 024 (tCallA X sp t):=by
 let(f,fd,F,b,kp,m):=C.ex;show zvq F (D.mono v) y m kp b r d w (zap L)<|zbh J
theorem zrt{X:Cx}{x:Str}(i k n:Nat)(sp:Sp){m:Nat}{p pos:Pos}{e:Expr}{es:List Expr}{t:TA}(D:Room m X.A)(v:k<=m)(d:PA X (e::es) t)(hN:X.Nq[i]?=G x:=by rfl)(hv:Vis X.env.scope x:=by first|show Or.inl rfl|show Or.inr (Or.inl R)|show Or.inr (Or.inr R))
  (hd:010=Fa:=by decide) (hcd:046=Fa:=by decide) (L:notStar e=N:=by rfl) (J:es.all notStar=N:=by rfl) :
  PE X 024 (tCallV X.prog X.w X.K X.mg X.base k n sp i t):=zvo hN hv (D.mono v) d hd hcd (zap L)<|zbh J
noncomputable def freeOk(env:Env)(a:Scope):Bool:=a.names.all λp=>p.2 !=.free||(env.kindOf p.1==G .cell||env.kindOf p.1==G .free)
theorem freeOk.of(h:freeOk env a=N):∀p∈a.names,p.2=.free->env.kindOf p.1=G .cell\/env.kindOf p.1=G .free:=λp E e=>by
 let q:=y0u.mp h p E;rw[e]at q;simpa using q
noncomputable def oneOk(qs:Y3)(pos:Pos)(qual:Str):Bool:=qs.any (λp=>p.1.line==pos.line&&p.1.col==pos.col&&p.1.endLine==pos.endLine&&p.1.endCol==pos.endCol&&p.2==qual)&&qs.all λp=>p.1.line !=pos.line||p.1.col !=pos.col||p.2==qual
theorem oneOk.one(h:oneOk qs pos qual=N):∀p∈qs,p.1.line=pos.line->p.1.col=pos.col->p.2=qual:=λp E g C=>by
 let q:=y0u.mp (y08 _ _▸h:_/\_).2 p E;rw[g,C]at q;simpa using q
theorem oneOk.mem(h:oneOk qs pos qual=N):(pos,qual)∈qs:=by
 let(p,E,e):=y1v.mp (y08 _ _▸h:_/\_).1;simp only[y08,beq_iff_eq]at e;let((((g,C),j),u),T):=e;let:p=(pos,qual):=by
  let((a,b,c,d),z):=p;let(s,i,c',d'):=pos;simp only at g C j u T;subst g C j u T;rfl
 rw[←this];show E
section
variable {X:Cx}{c P:Ad}{qs:Y3}{pos:Pos}{params:iL}{scope:Scope}
theorem zkg(qual:Str){body:Expr}(C:X.env.code=.ref c)(y:KCode X.K c P)(i:BltK X.base X.mg)(J:freeOk X.env scope=N)(A:oneOk qs pos qual=N)(hd:params.defaults=[]:=by rfl)(M:params.kw_defaults=[]:=by rfl)(a:X.env.qual++"<lambda>"=qual:=by rfl):
  PE X (.Lambda params body scope pos) (tLam X P qs "<lambda>" qual params (.expr body) scope):=zrp C y i (freeOk.of J) (oneOk.mem A) (oneOk.one A) hd M a
theorem zxe(qual:Str)(C:X.env.code=.ref c)(y:KCode X.K c P)(i:BltK X.base X.mg)(J:freeOk X.env scope=N)(A:oneOk qs pos qual=N)(hN:X.Nq.Nodup)(g:X.Nq[j]?=G name)(O:X.env.scope.names.lookup name=G .local)(nd:docOf body=B:=by rfl)
  (hd:params.defaults=[]:=by rfl) (M:params.kw_defaults=[]:=by rfl) (d:∀e,annTrees params B e=[]:=by intro e;rfl) (a:lw X.env name name=qual:=by rfl) :
  PS X 070 072:=zyp C y i (freeOk.of J) nd (oneOk.mem A) (oneOk.one A) hd M d a hN g O
end
open Classical
theorem Adopted.same(ad:Adopted X σ H1 Hq)(g:Same Hq H2):Same H1 (dropX X H2):=λb u e=>by
 let C:¬CellOf X b:=λC=>by rw[ad.2.1 b C]at e;cases e
 change(if CellOf X b then B else H2 b)=G u;rw[Xp C];show g b u (by rw[ad.1 b C];show e)
theorem Adopted.up(ad:Adopted X σ H1 Hq):Same H1 Hq:=λb u e=>by
 let C:¬CellOf X b:=λC=>by rw[ad.2.1 b C]at e;cases e
 rw[ad.1 b C];show e
theorem Adopted.keep(ad:Adopted X σ H1 Hq)(g:Same Hq H2)(e:H2 b=G u)(n:∀o a,u ≠ .frz o a):dropX X H2 b=G u:=by
 let C:¬CellOf X b:=λ⟨x,z⟩=>by
  let(o,v,L,_):=ad.2.2.2 x b z;rw[g _ _ L]at e;cases e;show n _ _ R
 change(if CellOf X b then B else H2 b)=G u;rw[Xp C];show e
def SameN(H H':Hp):Prop:=∀b u,H b=G u->(∀o a,u ≠ .frz o a)->H' b=G u
section
variable {cl:Y4}{H:Hp}
def ClOk(cl:Y4)(H:Hp):Prop:=∀x c,cl.lookup x=G c->∃o v,H c=G 012/\o.data=.cell v
theorem ClOk.n(l:ClOk cl H):SameN H (dropL cl H):=λb u e n=>by
 change(if InCl cl b then B else H b)=G u;rw[Xp<|zby l e n];show e
theorem ClOk.tab(l:ClOk cl H)(T:TabOk H P qs):TabOk (dropL cl H) P qs:=let⟨ps,e⟩:=T;⟨ps,l.n _ _ e λ_ _ z=>nomatch z⟩
theorem zb5(g:Same (dropL cl H) H2):Same H (mixL cl H H2):=λb u e=>by
 change(if InCl cl b then H b else H2 b)=G u;by_cases C:InCl cl b
 .rw[Xq C];show e
 .rw[Xp C];show g b u (by change(if InCl cl b then B else H b)=G u;rw[Xp C];show e)
theorem ze7(g:∀b,InCl cl b->H2 b=B):Same H2 (mixL cl H H2):=λb u e=>by
 change(if InCl cl b then H b else H2 b)=G u;rw[Xp λC=>by rw[g b C]at e;cases e];show e
end
def CapAt(X:Cx)(σ:St)(cap:List Str)(cv:List V):Prop:=i8 (λx v=>∃i:Nat,X.Nq[i]?=G x/\σ[i]?=G (G v)/\(X.env.kindOf x=G .cell\/X.env.kindOf x=G .free)) cap cv
theorem zgp(ad:Adopted X σ H1 Hq){cl:Y4}(L:∀x c,cl.lookup x=G c->X.env.cells.lookup x=G c):∀{cap:List Str} {cv:List V},(∀x∈cap,∃c,cl.lookup x=G c)->CapAt X σ cap cv->Caps Hq cl cap cv
 |_,_,_,.nil=>.nil
 |x::_,_::_,C,.cons ⟨i,g,d,j⟩ t=>by
  let(c,a):=C x y0a;let(o,v,T,p,M):=ad.2.2.2 x c<|L x c a;let(u,f,rfl):=M i _ g d j;show .cons ⟨c,o,u,a,T,p,f⟩<|zgp ad L (λy U=>C y<|y07 _ U) t
section
variable {X:Cx}{H H1 H1' Hq:Hp}{σ:St}{name qual:Str}{params:iL}{scope:Scope}{f:Ad}{own ps cap:List Str}{cv:List V}{k:Nat}{sp:Sp}
theorem Made.fn(M:Made X H H1 name qual params body scope f):∃fd,H1 f=G (fnO fd f):=by
 let(cl,ct,c',oc,r,_,_,_,_,h):=M.ex;show⟨_,h⟩
theorem zfq{cl:Y4}(ad:Adopted X σ H1' Hq)(l1:∀x c,cl.lookup x=G c->X.env.cells.lookup x=G c)(L:Frz Hq H'):Frz H1' (dropL cl H'):=λb o u e=>by
 let r:¬InCl cl b:=λ⟨x,z⟩=>by rw[ad.2.1 b ⟨x,l1 x b z⟩]at e;cases e
 change(if InCl cl b then B else H' b)=_;rw[Xp r];show L _ _ _<|ad.up _ _ e
theorem Made.clo_e(M:Made X H H1 name qual params (.expr body) scope f)(g:Same H1 H1')(ad:Adopted X σ H1' Hq)(S:CloScope own ps cap scope)(U:ps.length<=own.length)(E:CapAt X σ cap cv)
  (j:∀(cl:Y4) (ct cd r:Va) (us:List Va),us.length=ps.length->je (cloFd name qual params (.expr body) scope cl ct cd r) 019=pure 018)
  (i:∀(cl:Y4) (c':Ad) (A:io) (outer:List Env) (s:ig) (H':Hp) (vs:List V) (Q:VK),Room k 055->ClOk cl H'->Frz Hq H'->Frz H1' (dropL cl H')->vs.length=ps.length->sp vs H' Q E0->
   ∃t,PE (cxL X.prog X.w X.K X.mg X.base (own++cap) qual scope cl f (.ref c') A outer s H') body t/\t (stL own vs cv) (dropL cl H') (λv H2=>022->Q v 029)):CloH X.prog X.w X.K X.mg X.base (k+1) Hq f ps.length sp:=by
 let(cl,ct,c',oc,r,l1,l2,w,q,u):=M.ex;let l:ClOk cl Hq:=λx c e=>let⟨o,v,T,p,_⟩:=ad.2.2.2 x c<|l1 x c e;⟨o,v,T,p⟩;let up:=ad.up;apply zw5 S U (up _ _<|g _ _ u) (up _ _<|g _ _ w) q l l2 (λx y c J C=>ad.2.2.1 x y c (l1 x c J)<|l1 y c C) (zgp ad l1 (λx O=>l2 (x,.free) (mem_of_lookup'<|S.cap x O) R) E) (j cl ct _ r) λA outer s H' vs Q D L Y a=>?_;show i cl c' A outer s H' vs Q D (λx c e=>let⟨o,v,z,d⟩:=l x c e;⟨o,v,L _ _ _ z,d⟩) L (zfq ad l1 L) Y a
theorem Made.clo_s(M:Made X H H1 name qual params (.stmts body) scope f)(g:Same H1 H1')(ad:Adopted X σ H1' Hq)(S:CloScope own ps cap scope)(U:ps.length<=own.length)(E:CapAt X σ cap cv)
  (j:∀(cl:Y4) (ct cd r:Va) (us:List Va),us.length=ps.length->je (cloFd name qual params (.stmts body) scope cl ct cd r) 019=pure 018)
  (i:∀(cl:Y4) (c':Ad) (A:io) (outer:List Env) (s:ig) (H':Hp) (vs:List V) (Q:VK),Room k 055->ClOk cl H'->Frz Hq H'->Frz H1' (dropL cl H')->vs.length=ps.length->sp vs H' Q E0->
   ∃t,PSs (cxL X.prog X.w X.K X.mg X.base (own++cap) qual scope cl f (.ref c') A outer s H') body t/\t {nx:=λ_ H2=>022->Q .non 029,rt:=λv H2=>022->Q v 029} (stL own vs cv) (dropL cl H')):CloH X.prog X.w X.K X.mg X.base (k+1) Hq f ps.length sp:=by
 let(cl,ct,c',oc,r,l1,l2,w,q,u):=M.ex;let l:ClOk cl Hq:=λx c e=>let⟨o,v,T,p,_⟩:=ad.2.2.2 x c<|l1 x c e;⟨o,v,T,p⟩;let up:=ad.up;apply ztx S U (up _ _<|g _ _ u) (up _ _<|g _ _ w) q l l2 (λx y c J C=>ad.2.2.1 x y c (l1 x c J)<|l1 y c C) (zgp ad l1 (λx O=>l2 (x,.free) (mem_of_lookup'<|S.cap x O) R) E) (j cl ct _ r) λA outer s H' vs Q D L Y a=>?_;show i cl c' A outer s H' vs Q D (λx c e=>let⟨o,v,z,d⟩:=l x c e;⟨o,v,L _ _ _ z,d⟩) L (zfq ad l1 L) Y a
end
end L2
namespace SM
open PySem PySem.Spec PyProof.Rows L2 SS
theorem SameN.tups(g:SameN H H'):TupS H H':=λb xs e=>g b _ e λ_ _ z=>nomatch z
theorem zra{t:TE}{Q:VK}{H:Hp}{σ:L2.St}(M:L2.St)(e:σ=M)(h:t M H Q):t σ H Q:=by rw[e];show h
theorem zgm{cl:Y4}{H H2:Hp}{D:Ad}{u:HO}(h:dropL cl H D=B)(e:H2 D=G u)(n:∀b,InCl cl b->H2 b=B):H D=B:=by
 classical
 let r:¬InCl cl D:=λz=>by rw[n D z]at e;cases e
 unfold dropL at h;rw[Xp r]at h;show h
def zif(Rq:Hp->Prop)(J:List Nat->Prop)(y:List Nat->List Nat->Prop):Sp:=λvs H Q _=>∃(b:Ad) (ns:List Nat),vs=[.ref b]/\Rq H/\H b=G (.lst<|ns.map nV)/\J ns/\
 ∀D fs H',H D=B->Same H H'->H' D=G (.lst<|fs.map nV)->y ns fs->Q 65 H'
def zha(P:ik)(w:World)(K:Frag)(mg:Y1)(base:Heap):Sp:=λvs H Q _=>∃(e f:Ad) (fd:i6) (bs:List Bool) (Rq:Hp->Prop) (J:List Nat->Prop) (y:List Nat->List Nat->Prop) (l:List Nat->Nat),
 vs=[.ref e,.ref f]/\H e=G (.tup 016)/\bs.length<=100/\H f=G (fnO fd f)/\CloH P w K mg base 3 H f 1 (zif Rq J y)/\Rq H/\(∀H1 H2,Same H1 H2->Rq H1->Rq H2)/\(∀ns,Num bs ns->J ns)/\
 (∀ns,J ns->ns.length<=100)/\(∀ns fs,J ns->y ns fs->J fs/\(fs≠ns->l fs<l ns))/\∀D ns H',Same H H'->H' D=G (.lst<|ns.map nV)->J ns->y ns ns->Q 65 H'
def zdt(C:Ad)(qs:Y3):Sp:=λvs H Q _=>∃(a:Ad) (m:Mc),vs=[.ref a]/\TabOk H C qs/\RepM H a m/\m.Ok/\∀p O H',Same H H'->RepM H' p O->Red m O->Q 09 H'
def zya(K:Frag)(ts:List<|Ad×List (Pos×Str)):Sp:=λvs H Q _=>∃(a:Ad) (ns:List Int),vs=[.ref a]/\SqL K H a 025/\ns.length<=63/\OnlyT ts H/\∀H',Q (.bl N) H'
def zhe(C:Ad)(qs:Y3):Sp:=λvs H Q _=>∃(a:Ad) (m:Mc),vs=[.ref a]/\TabOk H C qs/\RepM H a m/\m.Ok/\∀p O H',Same H H'->RepM H' p O->Red (turned m) O->Q 09 H'
def sprd(m:Mc)(f:Nat->Nat)(W:Nat):Mc:=⟨W,m.ways.map λline=>(List.range<|2^W).map λl=>line.getD (f l) 0,m.ends⟩
theorem zx7(ok:m.Ok)(D:r<m.n)(Y:l<2^W):(sprd m f W).go r l=m.go r (f l):=by
 let L:r<m.ways.length:=by rw[ok.len];show D
 simp only[Mc.go,sprd,y02,y03,y00 L,y1j,y0y,y17 Y]
theorem zlq(ok:m.Ok)(c:W<=4)(T:∀l,l<2^W->f l<2^m.w):(sprd m f W).Ok:=by
 apply⟨c,ok.pos,ok.few,?_,λd Y=>?_,λd Y r D=>?_⟩
 .change(m.ways.map _).length=m.ends.length;rw[y01];show ok.len
 .let(line,_,rfl):=y0e.mp Y;rw[y01,y0x];rfl
 .let(line,a,rfl):=y0e.mp Y;let(l,h,rfl):=y0e.mp D;let L:=T l<|y0s.mp h;let J:f l<line.length:=by rw[ok.line line a];show L
  change line.getD (f l) 0<m.ends.length;rw[y02,y00 J,y0y];show ok.room line a _<|y0k J
theorem zfh(ok:m.Ok)(T:∀l,l<2^W->f l<2^m.w):∀(row:List Nat) (r:Nat),r<m.n->(∀l∈row,l<2^W)->(sprd m f W).run r row=m.run r (row.map f)
 |[],_,_,_=>rfl
 |l::row,r,D,h=>by
  let Y:=h l y0a;rw[Mc.run_cons,y0m,Mc.run_cons,zx7 ok D Y];show zfh ok T row _ (ok.go_lt D<|T l Y) λx O=>h x<|y07 _ O
theorem zut(m:Mc)(f:Nat->Nat)(W r:Nat):(sprd m f W).fin r=m.fin r:=rfl
def loI(l:Int):List Nat->Nat->Int
 |[],_=>0
 |t::ts,i=>Builtin.bitAnd (l/2^t) 1*2^i+loI l ts (i+1)
def loL(l:Int):List Nat->Nat->List Int
 |[],_=>[]
 |t::ts,i=>Builtin.bitAnd (l/2^t) 1*2^i::loL l ts (i+1)
theorem zsp(l:Int):∀(ts:List Nat) (i:Nat),(loL l ts i).sum=loI l ts i
 |[],_=>rfl
 |t::ts,i=>by rw[loL,loI,y3o,zsp l ts]
theorem zxm(l:Int):∀(ts:List Nat) (i j:Nat),(loL l ts i)[j]?=ts[j]?.map λt=>Builtin.bitAnd (l/2^t) 1*2^(i+j)
 |[],_,_=>by simp[loL]
 |t::ts,i,0=>by simp[loL]
 |t::ts,i,j+1=>by
  rw[loL,y1s,zxm l ts,y1s];congr 1;funext t;rw[show i+1+j=i+(j+1) by omega]
noncomputable def back(bs:List Nat):Nat:=bs.reverse.foldl (λf b=>2*f+b) 0
theorem zuc:∀l,l<32->∀t,t<5->(Builtin.bitAnd ((l:Nat):Int) 1).natAbs<2/\(Builtin.bitAnd (((l:Nat):Int)/2^t) 1).natAbs<2:=by decide+kernel
def zf0:Sp:=λvs H Q _=>∃(l:Nat) (a:Ad) (ts:List Nat),vs=[nV l,.ref a]/\l<32/\H a=G (.lst<|ts.map nV)/\ts.length<=5/\(∀t∈ts,t<=4)/\∀H',Same H H'->Q (.int<|loI l ts 0) H'
noncomputable def cnt(m:Mc):Nat->Nat->Nat
 |0,r=>if m.fin r=N then 1 else 0
 |k+1,r=>((m.ways.getD r []).map<|cnt m k).sum
def cl(m:Mc)(k:Nat):List Nat:=(List.range m.ends.length).map<|cnt m k
theorem go_lt{m:Mc}(ok:m.Ok)(D:r<m.ends.length)(Y:l<2^m.w):m.go r l<m.ends.length:=by
 let(_,_,_,h):=ok.at D Y;show h
def NoLen(H:Hp)(v:V)(n:Int):Prop:=(∃r:Int,v=.int r/\¬(0<=r/\r<n))\/∃k,Kd H v k/\k≠"int"
def zjy:Sp:=λvs H Q _=>∃v,vs=[v]/\((∃r:Int,v=.int r/\Q (.bl N) H)\/∃k,Kd H v k/\k≠"int"/\Q (.bl Fa) H)
inductive zf3(vs:List V)(H:Hp)(Q:VK)(_E:XK):Prop
 |mk (v:V) (n:Int):(vs=[v,.int n])->(((∃r:Int,v=.int r/\0<=r/\r<n/\Q (.bl N) H)\/(NoLen H v n/\Q (.bl Fa) H)))->zf3 vs H Q _E
end SM
namespace L2
open PySem PySem.Spec PyProof.Rows PySem.W PySem.Calls
section
variable {X:Cx}{pins:Y2}{σ:St}{H:Hp}{s:ig}{k:Nat}{fa:Ad}{fd:i6}{ps:List Str}{sp:Sp}
def tTryA(K:Frag)(S:Ad)(sp:Sp)(j:Nat)(t:TA)(ts:TS):TS:=λD σ H=>t σ H λvs H1=>sp vs H1 (λv H2=>D.nx σ H2) λcls e H2=>∀a,e=G a->∃C,cls=.ref C/\mroIn K C (.ref S)=G N/\
 ∀H3,Same H2 H3->H3 a=G (excO a cls)->ts {nx:=λM H'=>(∃v,M[j]?=G (G v))/\D.nx (M.set j B) H',rt:=λ_ _=>False} (σ.set j<|G 07) H3
end
end L2
namespace SM
open PySem PySem.Spec PyProof.Rows L2 SS
def isP(z:Str):Bool:=isNm (.str z) SMALL
def NmOk(z:Str):Prop:=Nam z SMALL\/Nam z GREAT
def FrOk(names:List Str):Prop:=names.length<=4/\∀z∈names,NmOk z
theorem zv9(h:NmOk z):z.length<=1000:=by
 let O:∀l,Nam z l->z.length<=1000:=λl Y=>by
  let(d,ds,e,_,f,_):=Y.ex;let:z.length=z.cps.toList.length:=by simp[Str.length]
  rw[this,e,y0i];omega
 rcases h with h|h
 .exact O _ h
 .exact O _ h
theorem zhw(e:z.cps.toList=d::ds)(L:d∈l.cps.toList)(J:ds.length<=3)(f:∀x∈ds,x∈FIGS.cps.toList):Nam z l:=⟨d,ds,e,L,J,f⟩
open PySem
noncomputable def rowWords:List Str:=["in","same","within","ahead","next"]
noncomputable def bst(wd:Str)(l:Nat)(one a:Bool):Nat :=
 if l<=1 then l else if l=2 then
  (if wd="within" then(if one && !a then 0 else 2)
  else if !one&&(!a||decide (wd="in"))then 2
  else if decide (wd="in")||decide (wd="same")then(if one&&a then 1 else 0)
  else if a then 0 else if wd="ahead" then 1 else 3)
 else if one then 1 else 0
noncomputable def bit(c k:Nat):Bool:=c/2^k%2==1
def bstep(wd:Str)(i j:Nat)(l c:Nat):Nat:=if l<=1 then l else if l=2 then bst wd 2 (bit c i) (bit c j)else bst wd 3 (bit c j) (bit c j)
def brun(wd:Str)(i j:Nat)(l:Nat)(row:List Nat):Nat:=row.foldl (bstep wd i j) l
noncomputable def aend(wd:Str)(l:Nat):Bool:=decide (l=1)||(decide (l=2)&&decide (wd="within"))
theorem zua:brun wd i j l (c::r)=brun wd i j (bstep wd i j l c) r:=rfl
end SM
namespace L2
theorem zc0{X:Cx}{x:Str}(P:ik)(w:World)(K:Frag)(mg:Y1)(base:Heap)(i k n:Nat)(sp:Sp){m:Nat}{p pos:Pos}{e:Expr}{es:List Expr}{t:TA}(D:Room m X.A)(v:k<=m)(d:PA X (e::es) t)(g:X.prog=P:=by rfl)(C:X.w=w:=by rfl)(j:X.K=K:=by rfl)(u:X.mg=mg:=by rfl)(T:X.base=base:=by rfl)
  (hN:X.Nq[i]?=G x:=by rfl) (hv:Vis X.env.scope x:=by first|show Or.inl rfl|show Or.inr (Or.inl R)|show Or.inr (Or.inr R))
  (hd:010=Fa:=by decide) (hcd:046=Fa:=by decide) (L:notStar e=N:=by rfl) (J:es.all notStar=N:=by rfl) :
  PE X 024 (tCallV P w K mg base k n sp i t):=by
 subst g C j u T;show zrt i k n sp D v d hN hv hd hcd L J
section
variable {X:Cx}
def rRepT:R2:=λx y H Q=>∃l k v,x=.ref l/\y=.int k/\H l=G (.tup [v])/\1<=k/\k<=64/\(k=1->Q (.ref l) H)/\(2<=k->∀p H',New H p (.tup<|List.replicate k.toNat v) H'->Q 09 H')
end
noncomputable def Itr3(lo c:Int)(n:Nat):It:=⟨λi _=>i<n,λi H x H'=>H'=H/\x=.int (lo+i*c),λi _=>n<=i⟩
def iRng3(l:TA):TI:=λσ H Rq=>l σ H λvs H1=>∃i j c:Int,vs=[.int i,.int j,.int c]/\c≠0/\Builtin.Range.small i j c=N/\(j-i).natAbs<1000/\c.natAbs<1000/\0<=Builtin.Range.rangeSize i j c/\Rq (Itr3 i c (Builtin.Range.rangeSize i j c).toNat) H1
section
variable {X:Cx}{k:Nat}{H:Hp}{x y:V}{a b:Ad}{xs ys:List V}
def rLeL(X:Cx):R2:=λx y H Q=>∃(a b:Ad) (xs ys:List Int) (j:Nat) (p q:Int),x=.ref a/\y=.ref b/\SqL X.K H a (xs.map V.int)/\SqL X.K H b (ys.map V.int)/\xs.take j=ys.take j/\xs[j]?=G p/\ys[j]?=G q/\p≠q/\Q (.bl<|decide (p<=q)) H
def rNotInD(X:Cx):R2:=λx y H Q=>∃(p:Ad) (xs:List V) (e:Nat->Bool),y=.ref p/\SqL X.K H p xs/\(∀j (h:j<xs.length),EqOk X 7 H xs[j] x<|e j)/\Q (.bl<|!(039).any e) H
end
theorem fb_enum{K:Frag}{a:Ad}{xs:List V}{g:TG}{c:TS}{D:Ends}{j:St}{H1:Hp}(Pv:Nat->St->Hp->Prop)(w:Pv 0 j H1)(Y:∀i σ H,i<=xs.length->Pv i σ H->SqL K H a xs)
  (hs:∀i x σ H p H2,xs[i]?=G x->Pv i σ H->New H p (.tup [.int (i:Int),x]) H2->g 09 σ H2 λd H2=>c {D with nx:=Pv<|i+1,ct:=Pv<|i+1,bk:=D.nx} d H2)
  (hd:∀σ H,Pv xs.length σ H->D.nx σ H):fBody g c D j (Ite K a) H1:=by
 apply⟨λi m σ H=>m=xs.length-i/\i<=xs.length/\Pv i σ H,⟨xs.length,by simp,y13 _,w⟩,?_⟩;rintro i m σ H ⟨rfl,hi,p⟩;let E:=Y i σ H hi p;by_cases o:i<xs.length
 .refine .inr ⟨⟨xs,xs[i],E,y00 o⟩,Pv<|i+1,λM H' f=>⟨xs.length-(i+1),by omega,R,o,f⟩,λx H' y=>?_⟩;let(r,u,e,I,ex):=y;subst e;show hs i u σ H r H' (ex xs E) p I
 .let e:i=xs.length:=by omega
  subst e;show .inl ⟨⟨xs,E,y05 _⟩,hd σ H p⟩
section
variable {X:Cx}{H H1 H1' Hq:Hp}{σ:St}{name qual:Str}{params:iL}{scope:Scope}{f:Ad}{own ps cap:List Str}{cv:List V}{k:Nat}{sp:Sp}
theorem Made.clo_sM(M:Made X H H1 name qual params (.stmts body) scope f)(g:Same H1 H1')(ad:Adopted X σ H1' Hq)(S:CloScopeM own ps cap scope)(U:ps.length<=own.length)(E:CapAt X σ cap cv)
  (j:∀(cl:Y4) (ct cd r:Va) (us:List Va),us.length=ps.length->je (cloFd name qual params (.stmts body) scope cl ct cd r) 019=pure 018)
  (i:∀(cl:Y4) (c':Ad) (A:io) (outer:List Env) (s:ig) (H':Hp) (vs:List V) (Q:VK),Room k (A.deeper<|envM qual scope cl s.heap.objs.size f (.ref c'))->ClOk cl H'->Frz Hq H'->Frz H1' (dropL cl H')->vs.length=ps.length->sp vs H' Q E0->
   ∃t,PSs (cxM X.prog X.w X.K X.mg X.base (own++cap) qual scope cl f (.ref c') A outer s H') body t/\t {nx:=λ_ H2=>022->Q .non 029,rt:=λv H2=>022->Q v 029} (stL own vs cv) (dropL cl H')):CloH X.prog X.w X.K X.mg X.base (k+1) Hq f ps.length sp:=by
 let(cl,ct,c',oc,r,l1,l2,w,q,u):=M.ex;let l:ClOk cl Hq:=λx c e=>let⟨o,v,T,p,_⟩:=ad.2.2.2 x c<|l1 x c e;⟨o,v,T,p⟩;let up:=ad.up;apply zh5 S U (up _ _<|g _ _ u) (up _ _<|g _ _ w) q l l2 (λx y c J C=>ad.2.2.1 x y c (l1 x c J)<|l1 y c C) (zgp ad l1 (λx O=>l2 (x,.free) (mem_of_lookup'<|S.cap x O) R) E) (j cl ct _ r) λA outer s H' vs Q D L Y a=>?_;show i cl c' A outer s H' vs Q D (λx c e=>let⟨o,v,z,d⟩:=l x c e;⟨o,v,L _ _ _ z,d⟩) L (zfq ad l1 L) Y a
end
theorem idx_le:∀(zs:List Str) (m:Nat) (h:m<zs.length),zs.idxOf zs[m]<=m
 |y::r,0,h=>by simp
 |y::r,m+1,h=>by
  rw[y2b];let:=idx_le r m (by simpa using h);cases(y==(y::r)[m+1])
  .simp only[cond_false,y4h];omega
  .simp
def rIndexT(K:Frag):V->List V->Hp->VK->Prop:=λx vs H Q=>∃(p:Ad) (zs:List Str) (z:Str),x=.ref p/\vs=[.str z]/\SqL K H p (zs.map V.str)/\z∈zs/\zs.length<=1000/\Q (.int ((zs.idxOf z:Nat):Int)) H
theorem zsi(r:X.A.units+8<cLine):MtR X "list.index" (rIndexT X.K):=by
 intro pins s σ H x xs v us Q I T rs h;let(p,zs,z,rfl,rfl,O,M,hz,q):=h;cases T;let(u,rfl,t,rfl):=vals1 rs;let(vs,d,l,_):=I.list O;let L:=d.length;rw[y01]at L;let hv:∀(i:Nat) (hi:i<zs.length),∃(h:i<vs.length) (t:Tok),vs[i]=.str zs[i] t:=λi hi=>by
  let(h',y):=d.at (j:=i) 00;rw[y30]at y;let(t,e):=(show∃t,vs[i]=Va.str zs[i] t from y);show⟨by omega,t,e⟩
 let((cls,E,data,Y),D,C,n,hd):=l.isList;simp only at C hd;subst C hd;let g:zs.idxOf z<zs.length:=y1d.mpr M;letI f:Va->Bool:=λ|.str b _=>decide (b=z)|_=>Fa
 apply iQ PySem.F.slot_list_index ⟨_,D,R⟩ PySem.F.entry_list_index (PySem.F.args_list_index_2 _ _)
  (SeqAt.list_indexAt p vs.toArray n E Y (.str z t) f (zs.idxOf z) (by simp;omega) 00 ?_ ?_) ⟨D,λy U=>?_,?_⟩
 .let(h,t',e):=hv _ g;change f vs[zs.idxOf z]=N;rw[e];show Xg<|y2g g
 .intro m A o;let a:m<zs.length:=by simp at A;omega
  let(h,t',e):=hv m a;change f vs[m]=Fa;rw[e];apply Xf λc=>?_;let J:zs.idxOf z<=m:=by
   rw[←c];show idx_le zs m a
  omega
 .let(i,hi,rfl):=y1l (show y∈vs by simpa using U);let(h,t',e):=hv i 00;rw[e];show zk1 (X:=X) (k:=0) (H:=H) (x:=.str zs[i]) (y:=.str z) R R pins σ s X.A.in1 _ _ (by change X.A.units+1+0<cLine;omega) I ⟨t',R⟩ ⟨t,R⟩
 .exact⟨.int _,H,I.tok _,⟨_,R⟩,q⟩
theorem zpu(K:Frag)(C:X.A.units+8<cLine)(h:X.K=K:=by rfl):MtR X "list.index" (rIndexT K):=h▸zsi C
def gLst(K:Frag)(n:Nat)(t:TGs):TG:=λv σ H Q=>∃a xs,v=.ref a/\SqL K H a xs/\xs.length=n/\t xs σ H Q
end L2
namespace SM
structure Thg where
 w:Nat
 step:List Nat->List (List Nat)
 fin:List Nat->Bool
def Thg.run(T:Thg)(t:List Nat)(row:List Nat):List Nat:=row.foldl (λt l=>(013).getD l []) t
theorem Thg.run_cons(T:Thg)(t:List Nat)(l:Nat)(row:List Nat):T.run t (l::row)=T.run ((013).getD l []) row:=rfl
structure Fnd(T:Thg)(Gq:List Nat->Prop)(first:List Nat)(fs:List<|List Nat)(at':Nat):Prop where
 nd:fs.Nodup
 hd:fs[0]?=G first
 good:∀t∈fs,Gq t
 le:at'<=fs.length
 clo:∀t∈fs.take at',∀u∈T.step t,u∈fs
def expl(T:Thg)(fs:List<|List Nat):Mc:=⟨T.w,fs.map λt=>(013).map<|nOf fs,fs.map T.fin⟩
theorem Fnd.start(h:Gq first):Fnd T Gq first [first] 0 :=
 ⟨by simp,R,λt p=>by rw[y0l.mp p];show h,y13 _,λt p=>by simp at p⟩
theorem news_hd{q:Type}[DecidableEq q]{acc xs:List q}{i:Nat}{x:q}(h:acc[i]?=G x):(news acc xs)[i]?=G x:=by
 let(t,e):=zdj xs acc;rw[e,y16 (y0g.mp h).1];show h
theorem Fnd.next(h:Fnd T Gq first fs at')(e:fs[at']?=G t)(y:∀u∈T.step t,Gq u):Fnd T Gq first (news fs 013) (at'+1):=by
 let o:=(y0g.mp e).1;let(tl,ep):=zdj 013 fs;apply⟨zmm _ _ h.nd,news_hd h.hd,λu C=>?_,by rw[ep,y0d];omega,λu C v hv=>?_⟩
 .rcases(zb4 _ _ _).mp C with z|z
  .exact h.good u z
  .exact y u z
 .rw[ep,y40 00,y19,e,y28]at C;rcases y1c.mp C with z|z
  .exact(zb4 _ _ _).mpr<|.inl (h.clo u z v hv)
  .rw[y0l.mp z]at hv;show(zb4 _ _ _).mpr<|.inr hv
theorem zwd{q:Type}[DecidableEq q]{fs xs:List q}{u:q}(h:u∈fs):nOf (news fs xs) u=nOf fs u:=by
 let(t,e):=zdj xs fs;change List.idxOf u (news fs xs)=List.idxOf u fs;rw[e];show zi4 h
theorem zqm(h:Fnd T Gq first fs at')(e:fs[at']?=G t):
  (((news fs 013).take<|at'+1).map λu=>(T.step u).map<|nOf (news fs 013))=((fs.take at').map λu=>(T.step u).map<|nOf fs)++[(013).map<|nOf (news fs 013)]:=by
 let o:=(y0g.mp e).1;let(tl,ep):=zdj 013 fs;let g:(news fs 013).take (at'+1)=fs.take at'++[t]:=by rw[ep,y40 00,y19,e,y28]
 rw[g,y0v,y0m,y2y];congr 1;apply y1x λu C=>y1x λv hv=>zwd<|h.clo u C v hv
section
variable {T:Thg}{Gq:List Nat->Prop}{first:List Nat}{fs:List (List Nat)}
theorem zdm{q:Type}[DecidableEq q]:∀{xs:List q} {x:q},x∈xs->xs[nOf xs x]?=G x
 |y::ys,x,h=>by
  by_cases e:y=x
  .subst e;simp[nOf]
  .let h':x∈ys:=by
    rcases y09.mp h with z|z
    .exact Xa z.symm e
    .exact z
   change(y::ys)[List.idxOf x (y::ys)]?=G x;rw[y2b,show(y==x)=Fa by simp[e],cond_false,y1s];show zdm h'
theorem expl_ok(j:T.w<=4)(h:Fnd T Gq first fs fs.length)(Y:fs.length<=100)(hs:∀t,Gq t->(013).length=2^T.w):(expl T fs).Ok:=by
 let w:0<fs.length:=(y0g.mp h.hd).1;let C:∀t∈fs,∀u∈T.step t,u∈fs:=λt p u f=>h.clo t (by rw[y0h 08];show p) u f;apply {pos:=?_,wid:=j,few:=?_,len:=?_,line:=?_,room:=?_}
 .simpa[expl]using w
 .simpa[expl]using Y
 .simp[expl]
 .intro line M;let(t,p,rfl):=y0e.mp M;rw[y01];show hs t<|h.good t p
 .intro line M r D;let(t,p,rfl):=y0e.mp M;let(u,f,rfl):=y0e.mp D;change nOf fs u<(fs.map T.fin).length;rw[y01];show(y0g.mp<|zdm (C t p u f)).1
theorem zws(p:t∈fs):(expl T fs).fin (nOf fs t)=T.fin t:=by
 change(fs.map T.fin).getD (nOf fs t) Fa=_;rw[y02,y03,zdm p];rfl
theorem expl_go(h:Fnd T Gq first fs fs.length)(hs:∀t,Gq t->(013).length=2^T.w)(p:t∈fs)(Y:l<2^T.w):(013).getD l []∈fs/\(expl T fs).go (nOf fs t) l=nOf fs ((013).getD l []):=by
 let D:l<(013).length:=by rw[hs t<|h.good t p];show Y
 let j:(013).getD l []=013[l]:=by rw[y02,y00 D];rfl
 apply⟨?_,?_⟩
 .rw[j];show h.clo t (by rw[y0h 08];show p) _<|y0k D
 .change((fs.map λt=>(013).map<|nOf fs).getD (nOf fs t) []).getD l 0=_;rw[y02,y02,y03,zdm p,y1j,y0y,y03,y00 D,j];rfl
theorem zoh(h:Fnd T Gq first fs fs.length)(hs:∀t,Gq t->(013).length=2^T.w):∀(row:List Nat) {t:List Nat},t∈fs->(∀l∈row,l<2^T.w)->T.run t row∈fs/\(expl T fs).run (nOf fs t) row=nOf fs (T.run t row)
 |[],t,p,_=>⟨p,R⟩
 |l::row,t,p,D=>by
  let(L,J):=expl_go h hs p<|D l y0a;rw[Mc.run_cons,Thg.run_cons,J];show zoh h hs row L λx O=>D x<|y07 _ O
theorem zp7(h:Fnd T Gq first fs fs.length)(hs:∀t,Gq t->(013).length=2^T.w)(row:List Nat)(D:∀l∈row,l<2^T.w):(expl T fs).fin ((expl T fs).run 0 row)=T.fin (T.run first row):=by
 let M:first∈fs:=y0n h.hd
 let w:nOf fs first=0:=by
  let e:=h.hd;cases fs with
  |nil=>simp at e
  |cons x r=>simp at e;subst e;simp[nOf]
 let(L,J):=zoh h hs row M D;rw[w]at J;rw[J,zws L]
end
theorem news_snoc'{q:Type}[DecidableEq q](acc xs:List q)(x:q):news acc (xs++[x])=nxt (news acc xs) x:=zge xs acc x
theorem zht{q:Type}[DecidableEq q]{acc xs:List q}{i:Nat}{x:q}(h:xs[i]?=G x):news acc (xs.take<|i+1)=nxt (news acc<|xs.take i) x:=by rw[y19,h,y28,news_snoc']
theorem zdi{q:Type}[DecidableEq q]:∀{xs ys:List q},xs.Nodup->(∀x∈xs,x∈ys)->xs.length<=ys.length
 |[],_,_,_=>y13 _
 |x::xs,ys,I,h=>by
  rw[y1o]at I;let O:=h x y0a;let:=zdi (ys:=ys.erase x) I.2 λy U=>(List.mem_erase_of_ne λe=>I.1<|by rw[←e];show U).mpr<|h y (y07 _ U);rw[y4b O]at this;let:=y4g O;rw[y0i];omega
def pairT(i m2:Mc)(Y:Bool->Bool->Bool):Thg:=⟨i.w,λt=>((i.ways.getD (ix t 0) []).zip<|m2.ways.getD (ix t 1) []).map λp=>[p.1,p.2],λt=>Y (i.fin<|ix t 0)<|m2.fin (ix t 1)⟩
def PairG(i m2:Mc)(t:List Nat):Prop:=∃a b,t=[a,b]/\a<i.n/\b<m2.n
def pairsL(i m2:Mc):List (List Nat):=(List.range i.n).flatMap λa=>(List.range m2.n).map λb=>[a,b]
theorem zpb(h:PairG i m2 t):t∈pairsL i m2:=by
 let(a,b,rfl,d,U):=h;show y42.mpr ⟨a,y0s.mpr d,y0e.mpr ⟨b,y0s.mpr U,R⟩⟩
theorem zpc(i m2:Mc):(pairsL i m2).length=i.n*m2.n:=by
 unfold pairsL
 induction i.n with
 |zero=>simp
 |succ n Q=>rw[y2h,List.flatMap_append,y0d,Q];simp[y4k]
theorem zvs(h:Fnd (pairT i m2 Y) (PairG i m2) first fs k):fs.length<=i.n*m2.n:=by
 rw[←zpc];show zdi h.nd λt p=>zpb<|h.good t p
section
variable {m1 m2:Mc}{op:Bool->Bool->Bool}
theorem zdb{m:Mc}(ok:m.Ok)(D:r<m.n):∃line,m.ways[r]?=G line/\m.ways.getD r []=line/\line.length=2^m.w/\∀x∈line,x<m.n:=by
 let h:r<m.ways.length:=by rw[ok.len];show D
 show⟨m.ways[r],y00 h,by rw[y02,y00 h];rfl,ok.line _<|y0k h,ok.room _<|y0k h⟩
theorem zrx(Q:m1.Ok)(H:m2.Ok)(j:m1.w=m2.w)(h:PairG m1 m2 t):((pairT m1 m2 op).step t).length=2^m1.w/\∀u∈(pairT m1 m2 op).step t,PairG m1 m2 u:=by
 let(a,b,rfl,d,U):=h;let(l1,_,g,I,r1):=zdb Q d;let(l2,_,C,o,l):=zdb H U;change(((m1.ways.getD a []).zip<|m2.ways.getD b []).map λp=>[p.1,p.2]).length=_/\∀u∈((m1.ways.getD a []).zip<|m2.ways.getD b []).map λp=>[p.1,p.2],_;rw[g,C];apply⟨by rw[y01,y44,I,o,j,Nat.min_self],λu f=>?_⟩;let((x,y),E,rfl):=y0e.mp f;let:=y26 E;show⟨x,y,R,r1 x this.1,l y this.2⟩
theorem zny(u:m1.Ok)(H:m2.Ok)(j:m1.w=m2.w):∀(row:List Nat) {a b:Nat},a<m1.n->b<m2.n->(∀l∈row,l<2^m1.w)->(pairT m1 m2 op).run [a,b] row=[m1.run a row,m2.run b row]
 |[],a,b,_,_,_=>rfl
 |l::row,a,b,d,U,D=>by
  let Y:=D l y0a;let(l1,f1,g,I,r1):=zdb u d;let(l2,q,C,o,c):=zdb H U;let L:l<l1.length:=by rw[I];show Y
  let J:l<l2.length:=by rw[o,←j];show Y
  let T:((pairT m1 m2 op).step [a,b]).getD l []=[m1.go a l,m2.go b l]:=by
   change(((m1.ways.getD a []).zip<|m2.ways.getD b []).map λp=>[p.1,p.2]).getD l []=[(m1.ways.getD a []).getD l 0,(m2.ways.getD b []).getD l 0];rw[g,C,y02,y03,show(l1.zip l2)[l]?=G (l1[l],l2[l])from y49.mpr ⟨y00 L,y00 J⟩];rw[y02,y02,y00 L,y00 J];rfl
  rw[Thg.run_cons,T,Mc.run_cons,Mc.run_cons];show zny u H j row (u.go_lt d Y) (H.go_lt U<|by rw[←j];show Y) λx O=>D x<|y07 _ O
end
open PySem PySem.Spec PyProof.Rows L2 SS
inductive zes(vs:List V)(H:Hp)(Q:VK)(_E:XK):Prop
 |mk (b:Ad) (tl:List Str):(vs=[.ref b])->(H b=G (.lst<|tl.map V.str))->(tl.length<=4)->((∀z∈tl,z.length<=4))->(frameB (tl.map V.str)=N)->(∀H',Same H H'->Q .non H')->zes vs H Q _E
def fcnt(row:List Nat)(k:Nat):Nat:=(row.filter λl=>l/2^k%2==1).length
def fitP(ps:List Nat)(row:List Nat):Bool:=ps.all λk=>fcnt row k==1
theorem ztb(row:List Nat)(l k:Nat):fcnt (row++[l]) k=fcnt row k+if l/2^k%2==1 then 1 else 0:=by
 unfold fcnt;rw[y1z,y0d];by_cases h:(l/2^k%2==1)=N
 .rw[y21 (p:=λl=>l/2^k%2==1) h,Xq h];rfl
 .rw[y22 (p:=λl=>l/2^k%2==1) h,Xp h];rfl
def psOf(bs:List Bool):List Nat:=(List.range bs.length).filter λk=>bs.getD k Fa
def bools:Nat->List (List Bool)
 |0=>[[]]
 |n+1=>(bools n).flatMap λl=>[Fa::l,N::l]
theorem zgr:∀(bs:List Bool),bs∈bools bs.length
 |[]=>by simp[bools]
 |b::bs=>by
  let Q:=zgr bs;change b::bs∈(bools bs.length).flatMap λl=>[Fa::l,N::l];apply y42.mpr ⟨bs,Q,?_⟩;cases b<;>simp
theorem ps_lt(bs:List Bool):∀k∈psOf bs,k<bs.length:=λk M=>y0s.mp (y2a.mp M).1
def justM:Mc:=mM 1 [[0,1],[1,2],[2,2]] [Fa,N,Fa]
def anyM:Mc:=mM 0 [[0]] [N]
theorem zms:justM.Ok:=by
 apply⟨by decide,by decide,by decide,by decide,?_,?_⟩
 .intro l Y;simp only[justM,y09,y0o,or_false]at Y;rcases Y with rfl|rfl|rfl<;>rfl
 .intro l Y r D;simp only[justM,y09,y0o,or_false]at Y;rcases Y with rfl|rfl|rfl<;>(simp only[y09,y0o,or_false]at D;change r<3;omega)
theorem zuh:anyM.Ok:=by
 apply⟨by decide,by decide,by decide,by decide,?_,?_⟩
 .intro l Y;simp only[anyM,y09,y0o,or_false]at Y;rw[Y];rfl
 .intro l Y r D;simp only[anyM,y09,y0o,or_false]at Y;rw[Y]at D;rw[y0l.mp D];decide
def bitN(t l:Nat):Nat:=l/2^t%2
theorem just_go:∀r,r<3->∀b,b<2->justM.go r b=min 2 (r+b):=by decide
theorem zn6(t:Nat):∀(row:List Nat) (r:Nat),r<=2->justM.run r (row.map<|bitN t)=min 2 (r+fcnt row t)
 |[],r,D=>by change r=min 2 (r+0);omega
 |l::row,r,D=>by
  let U:bitN t l<2:=y31 _ 04;rw[y0m,Mc.run_cons,just_go r 00 _ U,zn6 t row _ 00];let e:fcnt (l::row) t=bitN t l+fcnt row t:=by
   unfold fcnt bitN;by_cases h:(l/2^t%2==1)=N
   .rw[y21 (p:=λl=>l/2^t%2==1) h,y0i];let:=beq_iff_eq.mp h;omega
   .rw[y22 (p:=λl=>l/2^t%2==1) h];let L:¬l/2^t%2=1:=λz=>h<|beq_iff_eq.mpr z;let:l/2^t%2<2:=y31 _ 04;omega
  rw[e];omega
theorem zwi:∀r,r<=2->justM.fin r=(r==1):=by decide
theorem zp0(t:Nat)(row:List Nat):justM.fin (justM.run 0<|row.map (bitN t))=(fcnt row t==1):=by
 rw[zn6 t row 0 04,zwi _ 00];by_cases h:fcnt row t=1
 .rw[h];rfl
 .rw[show(fcnt row t==1)=Fa by simp[h],show(min 2 (0+fcnt row t)==1)=Fa by rw[beq_eq_false_iff_ne];omega]
theorem zug:∀row:List Nat,(∀l∈row,l=0)->anyM.run 0 row=0
 |[],_=>rfl
 |l::row,h=>by
  rw[Mc.run_cons,h l y0a];show zug row λx O=>h x<|y07 _ O
def sofar(bs:List Bool)(i:Nat):List Bool:=(List.range bs.length).map λk=>decide (k<i)&&bs.getD k Fa
theorem zcw(bs:List Bool)(i:Nat):(sofar bs i).length=bs.length:=by simp[sofar]
theorem zcl(bs:List Bool)(i k:Nat)(M:k<bs.length):(sofar bs i).getD k Fa=(decide (k<i)&&bs.getD k Fa):=by
 unfold sofar;rw[y02,y03,y17 M];rfl
theorem zqz(bs:List Bool):sofar bs bs.length=bs:=by
 apply y2q (zcw bs _) λk L J=>?_;let:=zcl bs bs.length k J;rw[Xg J,y1i,y02,y00 L,y02,y00 J]at this;show this
theorem zi5(bs:List Bool)(row:List Nat):fitP (psOf bs) row=N↔∀k,k<bs.length->bs.getD k Fa=N->fcnt row k=1:=by
 unfold fitP psOf;rw[y0u];constructor
 .intro h k M U;show beq_iff_eq.mp<|h k (y2a.mpr ⟨y0s.mpr M,U⟩)
 .intro h k M;let(L,J):=y2a.mp M;show beq_iff_eq.mpr<|h k (y0s.mp L) J
theorem zs8(bs:List Bool)(row:List Nat):fitP (psOf<|sofar bs 0) row=N:=(zi5 _ _).mpr λk M U=>by
 rw[zcw]at M;rw[zcl bs 0 k M]at U;simp at U
theorem zs9(hi:i<bs.length)(U:bs.getD i Fa=N)(row:List Nat):fitP (psOf<|sofar bs (i+1)) row=(fitP (psOf<|sofar bs i) row&&(fcnt row i==1)):=by
 rw[y1e,y08,zi5,zi5,zcw,zcw,beq_iff_eq];constructor
 .intro h;apply⟨λk M z=>h k M ?_,h i hi ?_⟩
  .rw[zcl bs i k M,y08,decide_eq_true_eq]at z;rw[zcl bs _ k M,y08,decide_eq_true_eq];show⟨by omega,z.2⟩
  .rw[zcl bs _ i hi,y08,decide_eq_true_eq];show⟨by omega,U⟩
 .rintro⟨L,J⟩ k M z;rw[zcl bs _ k M,y08,decide_eq_true_eq]at z;by_cases c:k=i
  .rw[c];show J
  .exact L k M (by rw[zcl bs _ k M,y08,decide_eq_true_eq];show⟨by omega,z.2⟩)
theorem zs7(hi:i<bs.length)(U:bs.getD i Fa=Fa):sofar bs (i+1)=sofar bs i:=by
 apply y1x λk M=>?_;by_cases c:k=i
 .rw[c,U,y2f,y2f]
 .congr 1;show decide_eq_decide.mpr ⟨λz=>by omega,λz=>by omega⟩
theorem zg3(ok:m.Ok)(h:m.n=1):Canon m:=by
 apply⟨⟨λr l b D Y U o=>?_,λb U I=>?_⟩,λi j hi g _=>?_⟩
 .let:=ok.go_lt D Y;omega
 .omega
 .omega
theorem zbz(u x:List Nat)(k:Nat):fcnt (u++x) k=fcnt u k+fcnt x k:=by unfold fcnt;rw[y1z,y0d]
def codeF(ps u:List Nat):Option (List Bool):=if ps.any (λk=>decide (2<=fcnt u k))=N then B else G ((List.range 4).map λk=>decide (k∈ps)&&(fcnt u k==1))
theorem zw3(ps u:List Nat):codeF ps u∈B::(bools 4).map G:=by
 unfold codeF;split
 .exact y0a
 .exact y07 _<|List.mem_map_of_mem (by simpa using zgr ((List.range 4).map λk=>decide (k∈ps)&&(fcnt u k==1)))
theorem zej(h:ps.any (λk=>decide (2<=fcnt u k))=N)(x:List Nat):fitP ps (u++x)=Fa:=by
 let(k,M,e):=y1v.mp h;let e:=of_decide_eq_true e;apply y3u.mpr ⟨k,M,λz=>?_⟩;let z:=eq_of_beq z;rw[zbz]at z;omega
theorem zw4(E:∀k∈ps,k<4)(e:codeF ps u=codeF ps v)(x:List Nat):fitP ps (u++x)=fitP ps (v++x):=by
 unfold codeF at e;split at e
 .rename_i h;split at e
  .rename_i h';rw[zej h,zej h']
  .cases e
 .rename_i h;split at e
  .cases e
  .rename_i h';let e:=List.map_inj_left.mp<|Option.some.inj e;let f:∀{u:List Nat},¬ps.any (λk=>decide (2<=fcnt u k))=N->∀k∈ps,fcnt u k<2:=λh k M=>Nat.lt_of_not_le λz=>h<|y1v.mpr ⟨k,M,Xg z⟩;unfold fitP;rw[y1e,y0u,y0u];let O:∀k∈ps,fcnt u k=fcnt v k:=λk M=>by
    let z:=e k<|y0s.mpr (E k M);rw[Xg M,y1i,y1i,y1e,beq_iff_eq,beq_iff_eq]at z;let a:=f h k M;let b:=f h' k M;omega
   show⟨λg k M=>by rw[zbz,←O k M,←zbz];show g k M,λg k M=>by rw[zbz,O k M,←zbz];show g k M⟩
theorem zns{m:Mc}(o:m.Ord):∀r,r<m.n->∃u,m.Row u/\m.run 0 u=r:=λr=>by
 induction r using Nat.strongRecOn with
 |_ r Q =>
  intro D;by_cases h:r=0
  .exact⟨[],.nil m,h.symm⟩
  .let(r',l,I,Y,e):=o.par r (Nat.pos_of_ne_zero h) D;let(u,f,a):=Q r' I<|y1n I D;apply⟨u++[l],λx O=>?_,by rw[m.run_snoc,a,e]⟩;rcases y1c.mp O with O|O
   .exact f x O
   .rw[y0l.mp O];show Y
theorem zs6{bs:List Bool}(h:bs.length<=4){m:Mc}(c:Canon m)(t:∀row,m.Row row->m.fin (m.run 0 row)=fitP (psOf bs) row):m.n<=17:=by
 let Rq:=zns c.ord;let E:∀k∈psOf bs,k<4:=λk M=>y0p (ps_lt bs k M) h;letI f:=λr=>if h:r<m.n then Classical.choose (Rq r h)else[]
 let nd:((List.range m.n).map λr=>codeF (psOf bs)<|f r).Nodup:=nodup_map_on (λa d b U e=>by
  let d:=y0s.mp d;let U:=y0s.mp U;let k:∀r (D:r<m.n),m.Row (f r)/\m.run 0 (f r)=r:=λr D=>by
   change m.Row (dite _ _ _)/\m.run 0 (dite _ _ _)=r;rw[dif_pos D];show Classical.choose_spec<|Rq r D
  let w:∀r (D:r<m.n) x,m.Row x->m.fin (m.run r x)=fitP (psOf bs) (f r++x):=λr D x O=>by
   rw[←t _ λl Y=>(y1c.mp Y).elim ((k r D).1 l)<|O l];unfold Mc.run;rw[y2v];show congrArg (λz=>m.fin<|List.foldl m.go z x) (k r D).2.symm
  show c.dist a b d U λx O=>by rw[w a d x O,w b U x O,zw4 E e]) y41
 let:=zdi nd (ys:=B::(bools 4).map G) λx O=>by
  let(r,_,rfl):=y0e.mp O;show zw3 _ _
 simpa[bools]using this
end SM
namespace L2
section
variable {X:Cx}{pins:Y2}{σ:St}
theorem Same.sqB{K:Frag}{H H':Hp}{l:Bool}{a:Ad}{xs:List V}(g:Same H H')(h:SqB K l H a xs):SqB K l H' a xs:=by
 cases l
 .exact g.seqT h
 .exact g.seq h
def PairsL(H:Hp)(xs ys:List V)(ps:List Ad):Prop:=∀(j:Nat) p,ps[j]?=G p->∃x y,xs[j]?=G x/\ys[j]?=G y/\H p=G (.tup [x,y])
abbrev LstAt(h:Heap)(S:Ad)(ps:List Ad)(c:Nat):Prop:=h.get? S=G {cls:=.type "list",dict:=B,data:=.seq (ps.map Va.ref).toArray c,slots:=#[]}
theorem zx1(af:xs.length=ys.length)(hn:xs.length<=1000)(D:jE z ti ro j1 j2 a b)(A:io)(hh:A.in1.handled=B)(hS:S∉[z,ti,ro,j1,j2])(res:Va)(H0:Hp):
  ∀(k i:Nat) (s:ig) (H:Hp) (c:Nat) (ps:List Ad),xs.length-i=k->i<=xs.length->02 H s->Same H0 H->(∀c∈[S,z,ti,ro,j1,j2],FpOk X pins H c)->SqB X.K l1 H a xs->SqB X.K l2 H b ys->ZipG l1 l2 s.heap z ti ro j1 j2 a b i->LstAt s.heap S ps c->ps.length=i->PairsL H xs ys ps->
  (∀s' H' ps' c',02 H' s'->Same H0 H'->FpOk X pins H' S->LstAt s'.heap S ps' c'->ps'.length=xs.length->PairsL H' xs ys ps'->Rq (.ok<|.ret res) s')->
  jc 20 A (.builtin "list.extend.loop" ⟨[.ref S,.ref z,res],[]⟩) Rq s:=by
 intro k
 induction k with
 |zero =>
  intro i s H c ps M hi I g T d U Z hL Y E hR;let cg:i=xs.length:=by omega
  let(d8,r1,r):=I.sq d;let(its2,l,p2):=I.sq U;let l1:=r1.length;apply iD F.entry_extend_loop ?_;rw[Around.under_plainId F.plain_extend_loop _];change wpAny _ A.in1 (j6 (.ref z)>>=_) _ _ s;apply ia<|zw9 hh D Z r (by simp;omega) λh' kk=>?_;show ib<|hR _ H ps c (I.turnedL (t':=s.toks) kk λb U=>T b<|y07 _ U) g (T S<|y0a ..) (kk _ _ hS hL) 00 E
 |succ k Q =>
  intro i s H c ps M hi I g T d U Z hL Y E hR;let a6:i<xs.length:=by omega
  let de:i<ys.length:=by omega
  let(d8,r1,r):=I.sq d;let(its2,l,p2):=I.sq U;let(u,hu,f):=r1.get<|y00 a6;let(v,hv,rv):=l.get<|y00 de;apply iD F.entry_extend_loop ?_;rw[Around.under_plainId F.plain_extend_loop _];change wpAny _ A.in1 (j6 (.ref z)>>=_) _ _ s;apply ia<|zql D Z r p2 (x:=u) (y:=v) (by simpa using hu) (by simpa using hv) λL Z1 q1 sz1 kk=>?_;let hS':=kk _ _ hS hL;let Slt:S<s.heap.objs.size:=y0c hL;change wpAny _ A.in1 (jA S (·.push 011)>>=_) _ _ _;apply ia ?_;apply iZ hS' R (ib ⟨iT F.plain_extend_loop _,?_⟩) (by have:=small1000 (n:=ps.length) 00;simp;show y1r this) (by have:=small1000 (n:=ps.length) 00;simp;show y1r this);let oth:∀c o,c≠S->L.get? c=G o->(L.update S (Obj.mapSeq (·.push 011))).get? c=G o:=λc o C e=>(y1b _ _<|Ne.symm C).trans e;let hSn:=y1g (Obj.mapSeq (·.push 011)) hS' rfl;generalize L.update S (Obj.mapSeq (·.push 011))=J at oth hSn;let zS:∀c∈[z,ti,ro,j1,j2],c≠S:=λc C e=>hS<|e▸C;let gz:jN J s.heap.objs.size u v:=oth _ _ (y29 Slt) q1;let Z2:ZipG l1 l2 J z ti ro j1 j2 a b (i+1):=Z1.move λc C o e=>oth c o (zS c C) e;let k2:∀c o,c∉[S,z,ti,ro,j1,j2]->s.heap.get? c=G o->J.get? c=G o:=λc o C e=>oth c o (λq=>C<|by simp[q])<|kk c o (λq=>C<|y07 _ q) e;let there:∀c∈[S,z,ti,ro,j1,j2],∃o,J.get? c=G o:=λc C=>by
   rcases y09.mp C with rfl|C
   .exact⟨_,hSn⟩
   .exact let⟨o,e,_⟩:=Z2.there c C;⟨o,e⟩
  let w:02 (upd H s.heap.objs.size<|.tup [xs[i],ys[i]]) {s with heap:=J,toks:=s.toks}:=I.turnedNew k2 T (y05 _) ⟨zaf (by simp),[u,v],.cons f<|.cons rv .nil,⟨_,gz,R,_,R⟩⟩ there;let ae:H s.heap.objs.size=B:=I.hok.fresh 08;let g2:Same H (upd H s.heap.objs.size<|.tup [xs[i],ys[i]]):=zba ae _;let hlt':∀c∈[S,z,ti,ro,j1,j2],c≠s.heap.objs.size:=λc C=>by
   rcases y09.mp C with rfl|C
   .exact y0j Slt
   .exact y0j<|Z.lt C
  apply Q (i+1) _ _ (c+1) (ps++[s.heap.objs.size]) 00 00 w (g.trans g2) (λc C=>?_) (g2.sqB d) (g2.sqB U) Z2 (by change J.get? S=_;rw[hSn];simp[Obj.mapSeq]) (by simp[Y]) (λj p O=>?_) hR
  .let(f0,f1,f2,f3,f4,f5):=T c C;show⟨by rw[zam<|hlt' c C];show f0,f1,f2,f3,f4,f5⟩
  .by_cases hj:j<ps.length
   .rw[y16 hj]at O;let(x,y,e1,e2,e3):=E j p O;show⟨x,y,e1,e2,g2 _ _ e3⟩
   .let hj2:j<(ps++[s.heap.objs.size]).length:=(y0g.mp O).1;rw[y0d,y0r]at hj2;let e:j=ps.length:=by omega
    subst e;rw[y12 08,y3f]at O;injection O with O
    subst O;rw[Y];show⟨_,_,y00 a6,y00 de,zar⟩
theorem Inv.take(I:02 H s)(f:FpOk X pins H a)(w:X.s₀.heap.get? a=B)(new:ObjOk X.prog X.w (upd H a o) s.heap a o):02 (upd H a o) s:=by
 let(d,g,_,_,j,E):=f;let up:∀b u,H b=G u->upd H a o b=G u:=λb u e=>by rw[zam λz=>by rw[z,d]at e;cases e];show e
 apply⟨I.ok,I.os,I.bare,⟨I.base.keep,I.base.slot,λb ob e k O=>?_,I.base.there,λb xs e=>up _ _<|I.base.tups b xs e,λb ob u e=>up _ _<|I.base.frzs b ob u e,λb qs ps e=>up _ _<|I.base.tbls b qs ps e⟩,I.loc,I.cell,by rw[zam<|Ne.symm g];show I.free,λx c e=>by rw[zam<|j x c e];show I.freeC x c e,λp i=>?_,λb u e=>?_,I.len⟩
 .rw[zam λz=>by rw[z,w]at e;cases e];show I.base.free b ob e k O
 .let(e,k,r):=I.pin p i;show⟨e,by rw[zam<|E p i];show k,r⟩
 .by_cases U:b=a
  .subst U;rw[zar]at e;cases e;show new
  .rw[zam U]at e;show(I.hok b u e).stay (λ_ _ _ q=>q) (λc q=>up c _ q) (λc _ _ _ _ q=>up c _ q) λc xs q=>up c _ q
theorem zot:jl (.type "zip") "__len__"=pure B:=by rw[iJ,iz];kernel_rfl
theorem zlm:jl (.type "zip") "__length_hint__"=pure B:=by rw[iJ,iz];kernel_rfl
theorem zkb:∀(ps:List Ad),Vals (ps.map V.ref) (ps.map Va.ref)
 |[]=>.nil
 |_::ps=>.cons R<|zkb ps
theorem zjg(hc:X.calm=N)(af:xs.length=ys.length)(hn:xs.length<=1000)(D:jE z ti ro j1 j2 a b)(I:02 H s)(T:∀c∈[z,ti,ro,j1,j2],FpOk X pins H c)(d:SqB X.K l1 H a xs)(U:SqB X.K l2 H b ys)
  (zf:IsZip s.heap z ti ro .none) (Z:ZipG l1 l2 s.heap z ti ro j1 j2 a b 0) (q:∀L ps H',H L=B->Same H H'->H' L=G (.lst<|ps.map V.ref)->ps.length=xs.length->PairsL H' xs ys ps->Q (.ref L) H') :
  wpAny 20 X.A (call (.type "list") [.ref z]) 028 X.xe s:=by
 let hSf:s.heap.objs.size∉[z,ti,ro,j1,j2]:=λM=>y1q _<|Z.lt M;apply callType_codes (Q₁:=λobj s₁=>obj=.ref s.heap.objs.size/\s₁={s with heap:=s.heap.push {cls:=.type "list",data:=.seq #[]} }) F.called_list (F.typeCall_list_1 _) F.entry_list_init
  (code_list_new _ ⟨R,R⟩) λobj s₁ h₁=>?_
 let(rfl,rfl):=h₁;let hS:(s.heap.push {cls:=.type "list",data:=.seq #[]}).get? s.heap.objs.size=G {cls:=.type "list",data:=.seq #[]}:=y0b _ rfl;let kp:∀c o,s.heap.get? c=G o->(s.heap.push {cls:=.type "list",data:=.seq #[]}).get? c=G o:=λc o e=>y04 _ e;let w:X.s₀.heap.get? s.heap.objs.size=B:=by
  cases e:X.s₀.heap.get? s.heap.objs.size with
  |none=>rfl
  |some o=>show Xa (y0c e)<|Nat.not_lt.mpr I.sz
 let fS:FpOk X pins H s.heap.objs.size:=I.fpOk 08<|I.hok.fresh 08;generalize s.heap.objs.size=S at *;generalize s.heap.push {cls:=.type "list",data:=.seq #[]}=E at hS kp;let I1:02 H {s with heap:=E,toks:=s.toks}:=I.kept kp;apply⟨⟨_,hS,R⟩,F.args_list_init_2 _ _,?_⟩;change wpAny _ X.A.in1.in1 (do let old ←Builtin.List.listItems (.ref S);Builtin.List.listUpdate (.ref S) (λ_=>#[]);letGo old.toList.reverse;Builtin.List.listExtendWith (.ref S) (.ref z) .none) _ _ _;let zS:z≠S:=λe=>hSf (by simp[e]);apply ia ?_;unfold Builtin.List.listItems;apply ia<|iC hS R (ib ?_);change wpAny _ X.A.in1.in1 (jA S (λ_=>#[])>>=λ_=>letGo (#[]:Array Va).toList.reverse>>=λ_=>Builtin.List.listExtendWith (.ref S) (.ref z) .none) _ _ _;apply ia<|iZ hS R ?_;let l:=y1g (Obj.mapSeq λ_=>(#[]:Array Va)) hS rfl;let oth:∀b o,b≠S->E.get? b=G o->(E.update S<|Obj.mapSeq (λ_=>(#[]:Array Va))).get? b=G o:=λb o U e=>(y1b _ _<|Ne.symm U).trans e;apply ia<|jK ?_;generalize E.update S (Obj.mapSeq λ_=>(#[]:Array Va))=J at l oth;let z2:IsZip J z ti ro .none:=oth _ _ zS<|kp _ _ zf;let u:Shared.TypeIs {s with heap:=J} (.ref z) "zip":=⟨_,z2,R⟩;unfold Builtin.List.listExtendWith;apply ia<|jo u ?_;let g:Builtin.List.listSameRef (.ref S) (.ref z)=Fa:=by simp[Builtin.List.listSameRef,Ne.symm zS]
 let C:(Va.type "zip"==Va.type "list")=Fa:=by decide
 let e3:(Va.type "zip"==Va.type "tuple")=Fa:=by decide
 simp only[g,C,e3,y3b,y35,if_false];apply ia<|wpAny_pyIter_zip z2 ?_;apply ia<|im ?_;unfold Builtin.List.listLengthHint;apply ia<|iP u zot ?_;change wpAny _ X.A.in1.in1 (specialOf (Va.ref z) (Str.ofString "__length_hint__")>>=_) _ _ _;apply ia<|iP u zlm ?_;apply ib ?_;change wpAny _ X.A.in1.in1 (rule "list.extend.makes-room">>=λ_=>Builtin.List.listTouch (.ref S)>>=λ_ =>
  again (.builtin "list.extend.loop" ⟨[.ref S,.ref z,.none],[]⟩)) _ _ _
 apply ia<|jm ?_;apply ia ?_;change wpAny _ X.A.in1.in1 (jA S (·.push .none)>>=λ_=>jA S (·.pop)) _ _ _;apply ia<|iZ l R ?_;let kf:=y1g (Obj.mapSeq (·.push Va.none)) l rfl;apply iZ (hz:=by seq_fits) kf R ?_;let O:=y1g (Obj.mapSeq (·.pop)) kf rfl;let m3:∀b o,b≠S->J.get? b=G o->((J.update S (Obj.mapSeq (·.push Va.none))).update S (Obj.mapSeq (·.pop))).get? b=G o :=
  λb o U e=>(y1b _ _<|Ne.symm U).trans<|(y1b _ _<|Ne.symm U).trans e
 generalize(J.update S (Obj.mapSeq (·.push Va.none))).update S (Obj.mapSeq (·.pop))=f at O m3;let keep:∀b o,b≠S->s.heap.get? b=G o->f.get? b=G o:=λb o U e=>m3 b o U<|oth b o U (kp b o e);let A:02 H {s with heap:=f,toks:=s.toks}:=I.turnedL (L:=[S]) (λb o U e=>keep b o (λz=>U<|by simp[z]) e) λb U=>by rw[y0l.mp U];show fS
 let Z3:ZipG l1 l2 f z ti ro j1 j2 a b 0:=Z.move λc hc o e=>keep c o (λq=>hSf<|q▸hc) e;apply ib ⟨iT F.plain_extend_loop _,zx1 af hn D X.A.in1 021 hSf .none H xs.length 0 _ H _ [] R (y13 _) A 017 (λc hc=>?_) d U Z3 O R (λj p e=>by simp at e) λs' H' r c' I' g' f' i Y hp'=>?_⟩
 .rcases y09.mp hc with rfl|hc
  .exact fS
  .exact T c hc
 .refine⟨R,.ref S,upd H' S<|.lst (r.map V.ref),I'.take f' w ⟨by rw[y01];show zaf 00,_,c',zkb r,i⟩,R,?_⟩;let g2:Same H' (upd H' S<|.lst (r.map V.ref)):=zba f'.1 _;show q S r _ fS.1 (g'.trans g2) zar Y λj p e=>by
   let(x,y,v,a2,a3):=hp' j p e;show⟨x,y,v,a2,g2 _ _ a3⟩
end
def tListZipB(K:Frag)(l1 l2:Bool)(l:TA):TE:=λσ H Q=>l σ H λvs H1=>∃a b xs ys,vs=[.ref a,.ref b]/\SqB K l1 H1 a xs/\SqB K l2 H1 b ys/\xs.length=ys.length/\xs.length<=1000/\
 ∀L ps H',H1 L=B->Same H1 H'->H' L=G (.lst<|ps.map V.ref)->ps.length=xs.length->PairsL H' xs ys ps->Q (.ref L) H'
theorem zkf(C:X.calm=N)(j:Gl X "list")(o:X.mg "list"=B)(x:Gl X "zip")(T:X.mg "zip"=B)(d:PA X [a,b] l)(L:notStar a=N)(J:notStar b=N):
  PE X (.Call (.Name "list" p) [.Call (.Name "zip" M) [a,b] [] i] [] pos) (tListZipB X.K l1 l2 l):=by
 intro pins s σ H Q I h;let w:iq [b] X.env=[(Fa,eval b X.env)]:=by rw[zap J,starEach.eq_def]
 let hz:iq [.Call (.Name "zip" M) [a,b] [] i] X.env=[(Fa,eval (.Call (.Name "zip" M) [a,b] [] i) X.env)]:=by rw[zap R,starEach.eq_def]
 apply Call_<|zdq I j o boot_list (PyProof.Rows.callWith_type1 ?_ hz R);rw[hz];apply Calls.spliced_cons<|iw (Call_<|zdq I x T boot_zip (PyProof.Rows.callWith_type1 (thn (d i pins s σ H _ I h) λus s1 zz=>ex5 zz λvs H1 I1 r1 E=>?_) (by rw[star2 L J,w])<|by rw[w];rfl)) (λv s2 A=>Calls.spliced_nil A) λ_ _ e=>e;let(r,z,xs,ys,e,O,U,D,hn,q):=E;subst e;let(u,v,rfl,f,rv):=vals2 r1;cases(show u=Va.ref r from f);cases(show v=Va.ref z from rv);let(d8,_,y):=I1.sq O;let(g,_,Y):=I1.sq U;show zqk y Y λh' zf Z sz k=>zjg C D hn (zipApart_new y.lt Y.lt) (I1.kept (t':=s1.toks) k) (λc C=>I1.fpOk (zle C)<|I1.hok.fresh (zle C)) O U zf Z q
def tListZip(K:Frag)(l:TA):TE:=λσ H Q=>l σ H λvs H1=>∃a b xs ys,vs=[.ref a,.ref b]/\SqT K H1 a xs/\SqT K H1 b ys/\xs.length=ys.length/\xs.length<=1000/\
 ∀L ps H',H1 L=B->Same H1 H'->H' L=G (.lst<|ps.map V.ref)->ps.length=xs.length->PairsL H' xs ys ps->Q (.ref L) H'
theorem zl9{X:Cx}{a b:Expr}{l:TA}{p M pos i:Pos}(C:X.calm=N)(j:Gl X "list")(o:X.mg "list"=B)(x:Gl X "zip")(T:X.mg "zip"=B)(d:PA X [a,b] l)(L:notStar a=N:=by rfl)(J:notStar b=N:=by rfl):
  PE X (.Call (.Name "list" p) [.Call (.Name "zip" M) [a,b] [] i] [] pos) (tListZip X.K l):=zkf (l1:=Fa) (l2:=Fa) C j o x T d L J
end L2
namespace SM
open PySem PySem.Spec PyProof.Rows L2 SS
def zfz:Sp:=λvs H Q _=>∃(a b:Ad) (rs:List V) (ls fs:List<|List Nat),vs=[.ref a,.ref b]/\H a=G (.lst rs)/\i8 (Line H) rs ls/\ls.length<=16/\H b=G (.dT<|tabF keyL 0 fs)/\(∀l∈ls,l∈fs)/\∀p H',Same H H'->H' p=G (.tup<|(ls.map<|nOf fs).map nV)->Q 09 H'
def zdf(Rq:Hp->Prop)(T:Thg)(Gq:List Nat->Prop):Sp:=λvs H Q _=>∃(a:Ad) (t:List Nat),vs=[.ref a]/\Rq H/\H a=G (.tup<|t.map nV)/\Gq t/\∀D rs H',H D=B->Same H H'->H' D=G (.lst rs)->i8 (Line H') rs 013->Q 65 H'
def zfi(Rq:Hp->Prop)(T:Thg)(Gq:List Nat->Prop):Sp:=λvs H Q _=>∃(a:Ad) (t:List Nat),vs=[.ref a]/\Rq H/\H a=G (.tup<|t.map nV)/\Gq t/\∀H',Same H H'->Q (.bl<|T.fin t) H'
def zfk(Y:Bool->Bool->Bool):Sp:=λvs H Q _=>∃a b:Bool,vs=[.bl a,.bl b]/\Q (.bl<|Y a b) H
def ExQ(T:Thg)(t0:List Nat)(H:Hp)(Q:VK):Prop:=∀p O H',Same H H'->RepM H' p O->O.Ok->O.w=T.w->Canon O->(∀row,(∀l∈row,l<2^T.w)->O.fin (O.run 0 row)=T.fin (T.run t0 row))->Q 09 H'
def zdv(P:ik)(w:World)(K:Frag)(mg:Y1)(base:Heap)(C:Ad)(qs:Y3):Sp:=λvs H Q _=>∃(a d c:Ad) (fd i:i6) (T:Thg) (Gq:List Nat->Prop) (Rq:Hp->Prop) (t0:List Nat),
 vs=[nV T.w,.ref a,.ref d,.ref c]/\TabOk H C qs/\H a=G (.tup<|t0.map nV)/\H d=G (fnO fd d)/\H c=G (fnO i c)/\CloH P w K mg base 4 H d 1 (zdf Rq T Gq)/\CloH P w K mg base 4 H c 1 (zfi Rq T Gq)/\Rq H/\(∀H1 H2,Same H1 H2->Rq H1->Rq H2)/\T.w<=4/\Gq t0/\
 (∀t,Gq t->(013).length=2^T.w/\∀u∈T.step t,Gq u)/\(∀fs k,Fnd T Gq t0 fs k->fs.length<=100)/\ExQ T t0 H Q
def EndsK(K:Frag)(H:Hp)(c:Ad)(bs:List Bool):Prop:=H c=G (.tup 016)\/∀H',SqT K H' c 016
theorem EndsK.sq{K:Frag}{H:Hp}{c:Ad}{bs:List Bool}(h:EndsK K H c bs):SqT K H c 016:=h.elim .of λz=>z H
theorem EndsK.ts{K:Frag}{H H':Hp}{c:Ad}{bs:List Bool}(h:EndsK K H c bs)(g:TupS H H'):EndsK K H' c bs:=h.imp (g _ _) id
def RepMK(K:Frag)(H:Hp)(a:Ad)(m:Mc):Prop:=∃(b c:Ad) (rs:List V),H a=G (.tup [nV m.w,.ref b,.ref c])/\H b=G (.tup rs)/\i8 (Line H) rs m.ways/\EndsK K H c m.ends
theorem RepM.k{K:Frag}{H:Hp}{a:Ad}{m:Mc}(h:RepM H a m):RepMK K H a m:=let⟨b,c,rs,L,J,f,C⟩:=h;⟨b,c,rs,L,J,f,.inl C⟩
theorem RepMK.ts{K:Frag}{H H':Hp}{a:Ad}{m:Mc}(h:RepMK K H a m)(g:TupS H H'):RepMK K H' a m:=by
 let(b,c,rs,L,J,f,C):=h;show⟨b,c,rs,g _ _ L,g _ _ J,L2.Paired.mapP f λ_ _ z=>z.ts g,C.ts g⟩
theorem RepMK.same{K:Frag}{H H':Hp}{a:Ad}{m:Mc}(h:RepMK K H a m)(g:Same H H'):RepMK K H' a m:=h.ts g.tups
def CMach(K:Frag)(a:Ad)(m:Mc):Prop:=∃(b c:Ad) (ls:List Ad),(∀H,SqT K H a [nV m.w,.ref b,.ref c])/\(∀H,SqT K H b<|ls.map V.ref)/\i8 (λl line=>∀H,SqT K H l<|line.map nV) ls m.ways/\∀H,SqT K H c<|m.ends.map V.bl
theorem cm_mk{K:Frag}{h:Heap}{m:Mc}{ls:List Ad}(X:K.In h)(Gq:h.Ns ir mg)(a:PySem.W.nsIn K ir x=G (G 09))(E:∀H,SqT K H p [nV m.w,.ref b,.ref c])(U:∀H,SqT K H b<|ls.map V.ref)(Y:i8 (λl line=>∀H,SqT K H l<|line.map nV) ls m.ways)(C:∀H,SqT K H c<|m.ends.map V.bl):∃q,GlV mg x (.ref q)/\CMach K q m :=
 ⟨p,⟨.ref p,PySem.W.mg_of X Gq a,R⟩,b,c,ls,E,U,Y,C⟩
def ze3(K:Frag):Sp:=λvs H Q _=>∃(a b:Ad) (l line:List Nat),vs=[.ref a,.ref b]/\H a=G (.lst<|l.map nV)/\l.length<=32/\(∀H',SqT K H' b<|line.map nV)/\(∀x∈l,x<line.length)/\
 ∀p H',Same H H'->H' p=G (.tup<|(l.map λx=>line.getD x 0).map nV)->Q 09 H'
def zep(K:Frag):Sp:=λvs H Q _=>∃(a b:Ad) (m:Mc) (ts:List Nat) (W:Nat) (f:Nat->Nat),vs=[.ref a,.ref b,nV W]/\CMach K a m/\m.Ok/\H b=G (.lst<|ts.map nV)/\ts.length<=5/\(∀t∈ts,t<=4)/\W<=4/\
 (∀l:Nat,l<2^W->loI (l:Int) ts 0=(f l:Int)/\f l<2^m.w)/\∀p H',Same H H'->RepMK K H' p (sprd m f W)->Q 09 H'
def zer(P:ik)(w:World)(K:Frag)(mg:Y1)(base:Heap)(e:Ad)(c:Y3)(U:Ad)(d:Y3):Sp:=λvs H Q _=>∃(a b f:Ad) (fd:i6) (i m2:Mc) (Y:Bool->Bool->Bool),
 vs=[.ref a,.ref b,.ref f]/\TabOk H e c/\TabOk H U d/\RepMK K H a i/\RepMK K H b m2/\i.Ok/\m2.Ok/\i.w=m2.w/\i.n*m2.n<=100/\H f=G (fnO fd f)/\CloH P w K mg base 2 H f 2 (zfk Y)/\
 ∀p O H',Same H H'->RepM H' p O->O.Ok->O.w=i.w->Canon O->(∀row,i.Row row->O.fin (O.run 0 row)=Y (i.fin<|i.run 0 row) (m2.fin<|m2.run 0 row))->Q 09 H'
def zet(K:Frag)(e:Ad)(c:Y3)(U:Ad)(d:Y3)(u:Ad)(f:Y3)(Y:Bool->Bool->Bool):Sp:=λvs H Q _=>∃(a b:Ad) (i m2:Mc),
 vs=[.ref a,.ref b]/\TabOk H e c/\TabOk H U d/\TabOk H u f/\RepMK K H a i/\RepMK K H b m2/\i.Ok/\m2.Ok/\i.w=m2.w/\i.n*m2.n<=100/\
 ∀p O H',Same H H'->RepM H' p O->O.Ok->O.w=i.w->Canon O->(∀row,i.Row row->O.fin (O.run 0 row)=Y (i.fin<|i.run 0 row) (m2.fin<|m2.run 0 row))->Q 09 H'
def bsOf(names:List Str):List Bool:=names.map isP
structure FitR(names:List Str)(m:Mc):Prop where
 ok:m.Ok
 canon:Canon m
 w:m.w=names.length
 takes:∀row,m.Row row->m.fin (m.run 0 row)=fitP (psOf<|bsOf names) row
def zih(K:Frag)(e:Ad)(c:Y3)(U:Ad)(d:Y3)(u:Ad)(f:Y3):Sp:=λvs H Q _=>∃(a:Ad) (names:List Str),vs=[.ref a]/\TabOk H e c/\TabOk H U d/\TabOk H u f/\H a=G (.lst<|names.map V.str)/\FrOk names/\
 ∀p m H',Same H H'->RepMK K H' p m->FitR names m->Q 09 H'
theorem bit_lo:∀t,t<4->∀l:Nat,l<16->loI (l:Int) [t] 0=(bitN t l:Int):=by decide+kernel
theorem bsOf_at(h:names[i]?=G z):(bsOf names).getD i Fa=isP z:=by
 unfold bsOf;rw[y02,y03,h];rfl
theorem zoo(names:List Str):(bsOf names).length=names.length:=y01 _
def eachM:Mc:=mM 2 [[0,1,0,0],[1,1,1,1]] [N,Fa]
def aheadM:Mc:=mM 2 [[0,1,2,2],[1,1,1,1],[2,2,2,2]] [Fa,N,Fa]
def nextM:Mc:=mM 2 [[0,1,3,3],[3,3,2,2],[2,2,2,2],[3,3,3,3]] [Fa,Fa,N,Fa]
def ruleM(wd:Str):Mc:=if wd="ahead" then aheadM else if wd="next" then nextM else eachM
def ruleW(wd:Str):Str:=if wd="ahead" then "ahead" else if wd="next" then "next" else "within"
def seen2(i j c:Nat):Nat:=(bit c i).toNat+2*(bit c j).toNat
theorem zwu:eachM.Ok:=⟨by decide,by decide,by decide,by decide,by decide,by decide⟩
theorem zuk:aheadM.Ok:=⟨by decide,by decide,by decide,by decide,by decide,by decide⟩
theorem zwa:nextM.Ok:=⟨by decide,by decide,by decide,by decide,by decide,by decide⟩
theorem zvb(wd:Str):(ruleM wd).Ok/\(ruleM wd).w=2/\(ruleM wd).n<=4:=by
 unfold ruleM;split
 .exact⟨zuk,R,by decide⟩
 .split
  .exact⟨zwa,R,by decide⟩
  .exact⟨zwu,R,by decide⟩
theorem zu0(i j c:Nat):seen2 i j c<4:=by unfold seen2;cases bit c i<;>cases bit c j<;>decide
theorem zu1{i j c:Nat}(hi:i<4)(g:j<4)(C:c<16):loI (c:Int) [i,j] 0=(seen2 i j c:Int):=by
 let h:∀(i j:Fin 4) (c:Fin 16),loI ((c.val:Nat):Int) [i.val,j.val] 0=((seen2 i.val j.val c.val:Nat):Int):=by decide+kernel
 show h ⟨i,hi⟩ ⟨j,g⟩ ⟨c,C⟩
def bstB(wd:Str)(l:Nat)(b1 b2:Bool):Nat:=if l<=1 then l else if l=2 then bst wd 2 b1 b2 else bst wd 3 b2 b2
theorem sim{m:Mc}{wd:Str}{rel:List (Nat×Nat)}(hs:∀p∈rel,∀b1 b2:Bool,(m.go p.1<|b1.toNat+2*b2.toNat,bstB wd p.2 b1 b2)∈rel){i j:Nat}:∀(row:List Nat) (s l:Nat),(s,l)∈rel->(m.run s<|row.map (seen2 i j),brun wd i j l row)∈rel
 |[],s,l,h=>h
 |c::r,s,l,h=>by
  rw[y0m,Mc.run_cons,zua];show sim hs r _ _<|hs (s,l) h (bit c i) (bit c j)
theorem zva(wd:Str)(i j:Nat)(row:List Nat):(ruleM wd).fin ((ruleM wd).run 0<|row.map (seen2 i j))=aend (ruleW wd) (brun (ruleW wd) i j 2 row):=by
 unfold ruleM ruleW;split
 .let z:=sim (m:=aheadM) (wd:="ahead") (rel:=[(0,2),(1,1),(2,0)]) 21 (i:=i) (j:=j) row 0 2 04;let f:∀p∈([(0,2),(1,1),(2,0)]:List<|Nat×Nat),aheadM.fin p.1=aend "ahead" p.2:=by decide+kernel
  show f _ z
 .split
  .let z:=sim (m:=nextM) (wd:="next") (rel:=[(0,2),(1,3),(2,1),(3,0)]) 21 (i:=i) (j:=j) row 0 2 04;let f:∀p∈([(0,2),(1,3),(2,1),(3,0)]:List<|Nat×Nat),nextM.fin p.1=aend "next" p.2:=by decide+kernel
   show f _ z
  .let z:=sim (m:=eachM) (wd:="within") (rel:=[(0,2),(1,0)]) 21 (i:=i) (j:=j) row 0 2 04;let f:∀p∈([(0,2),(1,0)]:List<|Nat×Nat),eachM.fin p.1=aend "within" p.2:=by decide+kernel
   show f _ z
structure BareM(tl:List Str)(wd:Str)(i j:Nat)(m:Mc):Prop where
 ok:m.Ok
 canon:Canon m
 w:m.w=tl.length
 fin:∀row,m.Row row->m.fin (m.run 0 row)=(aend (ruleW wd) (brun (ruleW wd) i j 2 row)&&fitP (psOf<|bsOf tl) row)
def zqt(K:Frag):Sp:=λvs H Q _=>∃wd:Str,vs=[.str wd]/\∀p,CMach K p (ruleM wd)->Q 09 H
theorem zue(Bq:BareM tl wd i j M)(a:BareM tl wd i j M'):M=M':=by
 apply zc5 (by rw[Bq.w,a.w]) Bq.ok a.ok Bq.canon a.canon λrow D=>?_;rw[Bq.fin row D,a.fin row λc C=>by rw[a.w,←Bq.w];show D c C]
end SM
namespace PySem.F
theorem slot_revit_next:Slot "list_reverseiterator" "__next__" "list_reverseiterator.__next__" :=
 .of (owner:="list_reverseiterator") (n:="__next__") (by rw[iJ,iz];kernel_rfl) 21 21 21
  (by first|show .inl (by decide+kernel)|show .inr (by decide+kernel)) (by rw[iH];kernel_rfl)
theorem slot_revit_iter:Slot "list_reverseiterator" "__iter__" "list_reverseiterator.__iter__" :=
 .of (owner:="list_reverseiterator") (n:="__iter__") (by rw[iJ,iz];kernel_rfl) 21 21 21
  (by first|show .inl (by decide+kernel)|show .inr (by decide+kernel)) (by rw[iH];kernel_rfl)
theorem entry_revit_iter:entryFor table "list_reverseiterator.__iter__"=G Builtin.«dict_keyiterator.__iter__» :=
 entryFor_alias (id':="dict_keyiterator.__iter__") (by kernel_rfl) (by first|rfl|decide+kernel|(unfold String.splitOn;simp+decide [String.splitOnAux])) (by decide+kernel) (by kernel_rfl)
theorem args_revit_iter(a:Va):argsOk "list_reverseiterator.__iter__" ⟨[a],[]⟩:=by unfold argsOk;kernel_rfl
theorem zec:mroOf (.type "reversed")=pure [.type "reversed",.type "object"]:=by rw[mroOf_type];kernel_rfl
theorem zdp:jl (.type "reversed") "__new__"=pure (G<|.builtin "reversed.__new__"):=by rw[iJ,iz];kernel_rfl
theorem zdx:Slot "reversed" "__init__" "object.__init__" :=
 .of (owner:="object") (n:="__init__") (by rw[iJ,iz];kernel_rfl) 21 21 21
  (by first|show .inl (by decide+kernel)|show .inr (by decide+kernel)) (by rw[iH];kernel_rfl)
theorem called_reversedZ:TypeCalled "reversed" "reversed.__new__" "object.__init__" :=
 ⟨by decide+kernel,by decide+kernel,⟨_,_,zec⟩,madeBy_type zec zdp 21,by decide+kernel,by rw[iH];kernel_rfl,zdx⟩
theorem typeCall_reversed_1Z(a:Va):checkTypeCall "reversed" ⟨[a],[]⟩=pure ():=by kernel_rfl
theorem newCall_reversed_1Z(a:Va):jT "reversed.__new__" ⟨[.type "reversed",a],[]⟩=pure ():=by kernel_rfl
theorem entry_reversed_newZ:entryFor table "reversed.__new__"=G Builtin.«reversed.__new__»:=entryFor_of_tree (by kernel_rfl)
theorem sub_reversedZ:isSubtype (.type "reversed") (.type "reversed")=pure N:=by rw[iH];kernel_rfl
theorem sub_revit_reversedZ:isSubtype (.type "list_reverseiterator") (.type "reversed")=pure Fa:=by rw[iH];kernel_rfl
end PySem.F
namespace L2
section
variable {prog:ik}{w:World}{A:io}{E:Y0}{s:ig}
def IsRev(h:Heap)(it a:Ad)(i:Int):Prop:=h.get? it=G {cls:=.type "list_reverseiterator",data:=.fields #[.ref a,i9 i]}
theorem IsRev.typeIs(x:IsRev s.heap it a i):s.TypeIs 96 "list_reverseiterator":=⟨_,x,R⟩
theorem zwk(x:IsRev s.heap it a i)(h:Q 96 s):wpAny 95 A (jV 96) Q E s:=by
 apply ju x.typeIs F.slot_revit_iter<|i0 F.slot_revit_iter x.typeIs F.entry_revit_iter ?_ (F.args_revit_iter _);change wpAny _ _ (ret 96) _ _ s;show ib ⟨_,R,"list_reverseiterator",_,x.typeIs,F.slot_revit_next.lookup,h⟩
theorem zee(l:Ad)(items:Array Va)(n:Nat)(dct:Option Ad)(sl:Y8):
  Meets (Builtin.«reversed.__new__» ⟨[.type "reversed",.ref l],[]⟩) (λ_ Rq s=>s.heap.get? l=G {cls:=.type "list",dict:=dct,data:=.seq items n,slots:=sl}/\
   Rq (.ok<|.ret 011) {s with heap:=s.heap.push {cls:=.type "list_reverseiterator",data:=.fields #[.ref l,i9<|(items.size:Int)-1]} }) :=
 .of_wp λprog w A Rq s h=>by
  let(hp,g,d,tk,os):=s;let(hl,h):=h;let hsub:=F.sub_reversedZ;let hL:Heap.IsList (Shared.heap ⟨hp,g,d,tk,os⟩) l items:=⟨_,hl,R,n,R⟩;let hT:Shared.TypeIs ⟨hp,g,d,tk,os⟩ (.ref l) "list":=⟨_,hl,R⟩;let hlk:=F.slot_list_reversed.lookup;let hbd:=F.slot_list_reversed.bind<|.ref l
  wp_walk using AutoSeq1.wpAny_loadPart' hl
  apply j0 F.slot_list_reversed.plain F.entry_list_reversed<|F.slot_list_reversed.check _ _ _ _ _ _ _ _ hT (F.args_list_reversed_1 _) ?_
  wp_walk using AutoSeq1.wpAny_loadPart' hl
  show⟨_,R,h⟩
theorem zg5(ft:TypeCalled T newId initId)
  (hct:checkTypeCall T ⟨args,[]⟩=pure ()) (hcn:jT newId ⟨.type T::args,[]⟩=pure ())
  (entryN:entryFor table newId=G Bn) (g:Meets (Bn ⟨.type T::args,[]⟩) S) (hno:isSubtype (.type T') (.type T)=pure Fa)
  (h:S A.in1 (wants Q₁ E) s) (hnext:∀obj s₁,Q₁ obj s₁->s₁.TypeIs obj T'/\Q obj s₁) :
  wpAny 95 A (call (.type T) args) Q E s:=by
 let(c,tl,hmro):=ft.mro;let hmade:=ft.made;let hsub:=ft.sub;apply ji<|jq ?_;change wpAny _ _ (callAny (.type T) _) _ _ _;apply ib ⟨Code.quiet_builtin _ 21,iD F.entry_type_call ?_⟩;rw[Around.under_plain (weight_type_call_type T args [])<|units_type_call_type T args []];let h1:=ft.notType;let h2:=ft.canCreate
 repeat (any_goals (first|assumption|wp_step))
 apply iI (j0 ft.plain entryN<|wpAny_of_eq hcn (g prog w A.in1 _ s h)) λr s₁ hr=>?_;cases r with
 |error e=>show hr
 |ok fl =>
  cases fl with
  |ret obj =>
   let(hT,hq):=hnext _ _ hr
   repeat (any_goals (first|assumption|wp_step))
  |_=>show hr.elim
theorem zjf(i:s.heap.IsList l items)
  (h:∀h',IsRev h' s.heap.objs.size l ((items.size:Int)-1)->(∀b o,s.heap.get? b=G o->h'.get? b=G o)->Q 011 {s with heap:=h'}) :
  wpAny 95 A (call (.type "reversed") [.ref l]) Q E s:=by
 let((c,a,L,T),Y,C,n,hd):=i;replace C:c=.type "list":=C;replace hd:L=.seq items n:=hd;subst C hd;apply zg5 (Q₁:=λv s₁=>v=.ref s.heap.objs.size/\s₁={s with heap:=s.heap.push {cls:=.type "list_reverseiterator",data:=.fields #[.ref l,i9<|(items.size:Int)-1]} }) F.called_reversedZ (F.typeCall_reversed_1Z _) (F.newCall_reversed_1Z _) F.entry_reversed_newZ (zee l items n a T) F.sub_revit_reversedZ ⟨Y,R,R⟩ ?_;rintro obj s₁ ⟨rfl,rfl⟩;show⟨⟨_,y0b _ R,R⟩,h _ (y0b _ R) λb o e=>y04 _ e⟩
end
def Itv(K:Frag)(a:Ad)(n:Nat):It :=
 ⟨λi H=>i<n/\∃xs x,SqL K H a xs/\xs[n-1-i]?=G x,λi H x H'=>H'=H/\∀xs,SqL K H a xs->xs[n-1-i]?=G x,λi H=>n=i⟩
def iRev(K:Frag)(l:TA):TI:=λσ H Rq=>l σ H λvs H1=>∃a,vs=[.ref a]/\∃xs,SqL K H1 a xs/\Rq (Itv K a xs.length) H1
theorem zjl:ja "reversed"=G (.type "reversed"):=by rfl
open PySem
abbrev Rise(xs:Array Nat):Prop:=xs.toList.Pairwise (· < ·)
theorem zil(h:Rise xs)(a:i<j)(g:j<xs.size):xs.getD i 0<xs.getD j 0:=by
 let:=List.pairwise_iff_getElem.mp h i j (by simpa using y1n a g) (by simpa using g) a;simp only[Array.getElem_toList]at this;rw[Array.getD,Array.getD,dif_pos<|y1n a g,dif_pos g];show this
theorem zjn(h:Rise xs)(j:Nat):∀(a lo hi:Nat),lo<=hi->hi<=xs.size->hi-lo<=a->(∀i,i<lo->xs.getD i 0<j)->(∀i,hi<=i->i<xs.size->j<=xs.getD i 0)->
  SetTable.below.go xs j a lo hi<=xs.size/\(∀i,i<SetTable.below.go xs j a lo hi->xs.getD i 0<j)/\∀i,SetTable.below.go xs j a lo hi<=i->i<xs.size->j<=xs.getD i 0
 |0,lo,hi,L,J,f,C,E=>by
  let e:lo=hi:=by omega
  unfold SetTable.below.go;show⟨by omega,C,λi d=>E i 00⟩
 |a+1,lo,hi,L,J,f,C,E=>by
  unfold SetTable.below.go;by_cases c:lo<hi
  .rw[Xq c];let M:(lo+hi)/2<xs.size:=by omega
   let e:xs.getD ((lo+hi)/2) j=xs.getD ((lo+hi)/2) 0:=by rw[Array.getD,Array.getD,dif_pos M,dif_pos M]
   change _/\_/\_;simp only;by_cases A:xs.getD ((lo+hi)/2) j<j
   .rw[Xq A];apply zjn h j a ((lo+hi)/2+1) hi 00 J 00 (λi d=>?_) E;by_cases c3:i=(lo+hi)/2
    .rw[c3,←e];show A
    .exact y1n (zil h (j:=(lo+hi)/2) 00 M) (by rw[←e];show A)
   .rw[Xp A];apply zjn h j a lo ((lo+hi)/2) 00 00 00 C λi d hs=>?_;by_cases c3:i=(lo+hi)/2
    .rw[c3,←e];omega
    .let:=zil h (i:=(lo+hi)/2) (j:=i) 00 hs;rw[e]at A;omega
  .rw[Xp c];show⟨by omega,C,λi d=>E i 00⟩
theorem ze2(h:Rise xs)(j:Nat):SetTable.below xs j<=xs.size/\(∀i,i<SetTable.below xs j->xs.getD i 0<j)/\∀i,SetTable.below xs j<=i->i<xs.size->j<=xs.getD i 0 :=
 zjn h j xs.size 0 xs.size (y13 _) 08 00 (λi hi=>Xa hi<|y32 _) λi L J=>by omega
theorem zqi(h:Rise xs)(hi:i<xs.size):SetTable.below xs (xs.getD i 0+1)=i+1:=by
 let(L,J,f):=ze2 h<|xs.getD i 0+1;by_cases c:SetTable.below xs (xs.getD i 0+1)<=i
 .let:=f i c hi;omega
 .by_cases A:SetTable.below xs (xs.getD i 0+1)=i+1
  .exact A
  .let:=J (i+1) 00;let:=zil h (i:=i) (j:=i+1) 00 00;omega
theorem zqh(h:Rise xs):SetTable.below xs 0=0:=by
 let(L,J,f):=ze2 h 0;by_cases c:SetTable.below xs 0=0
 .exact c
 .let:=J 0 00;omega
theorem zi3(xs:Array q)(p:Nat)(x:q):(SetTable.insertAt xs p x).toList=xs.toList.take p++x::xs.toList.drop p:=by
 unfold SetTable.insertAt;rw[Array.toList_append,y3v,Array.toList_extract,Array.toList_extract];simp;show y0h 06
theorem zl3(h:Rise xs)(g:xs[SetTable.below xs j]? ≠ G j):Rise (SetTable.insertAt xs (SetTable.below xs j) j):=by
 let(L,J,f):=ze2 h j;change(SetTable.insertAt xs (SetTable.below xs j) j).toList.Pairwise (· < ·);rw[zi3];generalize SetTable.below xs j=p at *;let at':∀i (hi:i<xs.size),xs.getD i 0=xs.toList[i]'(by simpa using hi):=λi hi=>by rw[Array.getD,dif_pos hi];simp
 let l:∀i,p<=i->i<xs.size->j<xs.getD i 0:=λi E hi=>by
  let v:=f i E hi;by_cases c:i=p
  .subst c;let D:xs.getD i 0≠j:=λe=>g (by rw[y1p hi,←e,Array.getD,dif_pos hi];rfl);omega
  .let C:=f p 08 00;let:=zil h (i:=p) (j:=i) 00 hi;omega
 apply List.pairwise_append.mpr ⟨h.sublist<|List.take_sublist _ _,y3p.mpr ⟨λy U=>?_,h.sublist<|List.drop_sublist _ _⟩,λx O y U=>?_⟩
 .let(i,hi,e):=y1l U;rw[List.getElem_drop]at e;let d:p+i<xs.size:=by rw[y20]at hi;simp at hi;omega
  rw[←e,←at' _ d];show l _ 00 d
 .let a:x<j:=by
   let(i,hi,e):=y1l O;rw[List.getElem_take]at e;let d:i<p/\i<xs.size:=by rw[y0w]at hi;simp at hi;omega
   rw[←e,←at' _ d.2];show J i d.1
  rcases y09.mp U with rfl|U
  .exact a
  .let(i,hi,e):=y1l U;rw[List.getElem_drop]at e;let d:p+i<xs.size:=by rw[y20]at hi;simp at hi;omega
   rw[←e,←at' _ d];let:=l (p+i) 00 d;omega
structure Tb(led:Bool)(t:jn):Prop where
 rise:Rise t.place
 led:t.led=led
 dum:t.dummies=#[]
theorem zus(f m:Nat)(led:Bool):Tb led (.fresh f m led):=⟨List.Pairwise.nil,R,R⟩
theorem zdc(h:Tb led t)(n:Nat):Tb led (t.standIn n):=⟨by
 change(Array.range n).toList.Pairwise (· < ·);rw[Array.toList_range];show y3d,h.led,R⟩
theorem tb_or(h:Tb led t)(n:Nat):Tb led (t.orStandIn n):=by
 unfold SetTable.orStandIn;split
 .exact h
 .exact zdc h n
theorem zxl{t:jn}(h:t.dummies=#[])(j:Nat):SetTable.has t.dummies j=Fa:=by
 rw[h];unfold SetTable.has;rfl
theorem zf9{t:jn}(hd:t.dummies=#[])(hashAt:Nat->Int)(h:Int):∀(a:Nat) (p:SetTable.Probe) (j:Nat) (d:Option Nat),p.dummy=B->SetTable.probe.go t hashAt h a p=G (.empty j d)->d=B/\t.slot j=.empty
 |0,p,j,d,_,e=>by unfold SetTable.probe.go at e;cases e
 |a+1,p,j,d,E,e=>by
  unfold SetTable.probe.go at e;let f:∀q:SetTable.Probe,(t.advance q).dummy=q.dummy:=λq=>by unfold SetTable.advance;split<;>rfl
  cases c:t.slot p.j with
  |empty =>
   rw[c]at e;simp only[Option.some.injEq,SetTable.Met.empty.injEq]at e;let(rfl,rfl):=e;show⟨E,c⟩
  |dummy =>
   exfalso;unfold SetTable.slot at c;simp only[zxl hd]at c;split at c<;>cases c
  |live i =>
   rw[c]at e;simp only at e;split at e
   .cases e
   .exact zf9 hd hashAt h a _ j d (by rw[f];show E) e
theorem tb_put{t:jn}(h:Tb led t)(g:t.slot j=.empty):Tb led (t.put j).1:=by
 apply⟨zl3 h.rise λe=>?_,h.led,?_⟩
 .unfold SetTable.slot at g;simp only[e,beq_self_eq_true,if_true]at g;cases g
 .change(if SetTable.has t.dummies j then _ else t.dummies)=#[];rw[zxl h.dum];show h.dum
theorem zqr(h:Tb led t)(l:Array<|Int×Va)(k:Int)(x:Va):Tb led (layNew t l k x).2.1/\(layNew t l k x).2.2.1=Fa:=by
 unfold layNew;cases c:t.freeSlot k with
 |none=>show⟨zdc h _,R⟩
 |some p =>
  let(slot,wd):=p;unfold SetTable.freeSlot at c;cases A:t.probe (λ_=>k+1) k (t.probeStart k)with
  |none=>rw[A]at c;cases c
  |some m =>
   rw[A]at c;cases m with
   |candidate j i nx=>cases c
   |empty j d =>
    let(rfl,L):=zf9 h.dum _ _ _ _ _ _ R A;simp only[Option.some.injEq,Prod.mk.injEq]at c;let(rfl,rfl):=c;show⟨tb_or (tb_put h L) _,R⟩
theorem zsr{led plain:Bool}(e:SetTable.laid d f g led plain hs=G (t,o)):Tb led t:=by
 unfold SetTable.laid at e;cases c:SetTable.layClean d hs with
 |none=>rw[c]at e;cases e
 |some owner =>
  rw[c]at e;simp only[Option.bind_eq_bind,Option.bind_some,Option.pure_def,Option.some.injEq,Prod.mk.injEq]at e;let(rfl,rfl):=e;apply⟨?_,R,R⟩;change List.Pairwise (· < ·) (List.map (λx:Nat×Nat=>x.1) ((List.range<|d+1).filterMap λj=>(owner.getD j B).map (j,·)));let:∀l:List Nat,((l.filterMap λj=>(owner.getD j B).map (j,·)).map (·.1)).Sublist l:=λl=>by
   induction l with
   |nil=>show List.Sublist.refl _
   |cons a l Q =>
    rw[y27];cases c3:owner.getD a B with
    |none=>show .cons _ Q
    |some v=>show .cons_cons _ Q
  show y3d.sublist<|this _
theorem zuq(h:Tb led t)(l:Array<|Int×Va)(n:Nat):Tb led (lg t l n).2.1:=by
 unfold lg;cases c:t.relaid (l.map (·.1)) n with
 |none=>show zdc h _
 |some p =>
  let(t',o):=p;let:=zsr c;rw[h.led]at this;simp only;split
  .exact this
  .exact zdc h _
theorem zrl(next:Nat->Nat):∀(a k:Nat) (left:List q) (out:Array q),left.length=a->(pickOrder.go next a k left out).toList.Perm (out.toList++left)
 |0,k,left,out,h=>by
  unfold pickOrder.go;rw[List.length_eq_zero_iff.mp h,y1t]
 |a+1,k,left,out,h=>by
  unfold pickOrder.go;let o:next k%left.length<left.length:=y31 _ 00
  rw[y00 o];simp only;apply(zrl next a (k+1) (left.eraseIdx (next k%left.length)) (out.push left[next k%left.length])<|by rw[y46 o];omega).trans ?_;rw[y3v,y24,y4m];apply List.Perm.append_left _ ?_;generalize next k%left.length=i at o
  let e:left=left.take i++left[i]::left.drop (i+1):=by rw[y4i,y3g]
  conv=>rhs;rw[e]
  rw[y3t];show(List.perm_middle).symm
theorem zrk(next:Nat->Nat)(xs:Array q):(pickOrder next xs).toList.Perm xs.toList:=by
 let:=zrl next xs.size 0 xs.toList #[] (by simp)
 rw[show(#[]:Array q).toList=[]from rfl,y2i]at this;show this
section
variable {P:ik}{w:World}{T:Type}[DecidableEq T]{knd:KeyKind P w T}{A:io}{E:Y0}{s:ig}{led:Bool}
def SetT(knd:KeyKind P w T)(led:Bool)(h:Heap)(a:Ad)(S:T->Bool)(n:Nat):Prop :=
 ∃o l ep t,h.get? a=G o/\o.ExactSet/\o.data=.set l ep t/\(ElemsOf knd l.toList/\∀k,S k=N↔∃e∈l.toList,knd.is k e.2=N)/\(l.size<iV/\t.fits l.size=N/\l.size=n)/\Tb led t/\l.toList.Pairwise λx y=>∀k,knd.is k x.2=N->knd.is k y.2=Fa
theorem SetT.kept(x:SetT knd led h a S n)(k:∀o,h.get? a=G o->h'.get? a=G o):SetT knd led h' a S n :=
 let⟨o,l,ep,t,e,r⟩:=x;⟨o,l,ep,t,k o e,r⟩
theorem SetT.congr(x:SetT knd led h a S n)(e:∀k,S k=S' k)(r:n=n'):SetT knd led h a S' n':=by
 let:S=S':=funext e;subst this;subst r;show x
theorem zur(h:Tb led t):Tb led {t with plain:=Fa}:=⟨h.rise,h.led,h.dum⟩
theorem zh9{l l':List (Int×Va)}(h:l.Pairwise λx y=>∀k,knd.is k x.2=N->knd.is k y.2=Fa)(p:l'.Perm l):l'.Pairwise λx y=>∀k,knd.is k x.2=N->knd.is k y.2=Fa :=
 p.symm.pairwise h λ{x y} z k M=>by
  cases c:knd.is k x.2 with
  |false=>rfl
  |true=>rw[z k c]at M;cases M
theorem znp{h:Heap}{o:Obj}(D:h.get? a=G o)(O:o.ExactSet)(hd:o.data=.set l ep t){fs:Array (Int×Va)}{u:jn}
  (L:ElemsOf knd fs.toList) (J:∀k,S k=N↔∃e∈fs.toList,knd.is k e.2=N) (f:fs.size<iV) (C:u.fits fs.size=N) (c:Tb led u) (H:fs.toList.Pairwise λx y=>∀k,knd.is k x.2=N->knd.is k y.2=Fa) :
  (h.update a<|Obj.putSet fs u).get? a=G {o with data:=.set fs (ep+1) u}/\SetT knd led (h.update a<|Obj.putSet fs u) a S fs.size :=
 let z:=(SetOf_store (knd:=knd) (S':=S) D O hd L J f C).1
 ⟨z,_,fs,ep+1,u,z,O,R,⟨L,J⟩,⟨f,C,R⟩,c,H⟩
theorem zno{g:Bool->Sem Unit}(z:∀(b:Bool) (s1:ig) (Rq:Unit->ig->Prop),Rq () s1->wpAny 78 A (g b) Rq E s1){a:Ad}{o:Obj}{l:Array (Int×Va)}{ep:Nat}{t:jn}
  (D:s.heap.get? a=G o) (O:o.ExactSet) (hd:o.data=.set l ep t) {fs:Array (Int×Va)} {u:jn} {S:T->Bool} (L:ElemsOf knd fs.toList) (J:∀k,S k=N↔∃e∈fs.toList,knd.is k e.2=N)
  (U:fs.size<iV) (C:u.fits fs.size=N) (c:Tb led u) (H:fs.toList.Pairwise λx y=>∀k,knd.is k x.2=N->knd.is k y.2=Fa) {wd:Bool} {Rq:Option Bool->ig->Prop}
  (h:∀h',Heap.SameBut a s.heap h'->SetT knd led h' a S fs.size->Rq (G N) {s with heap:=h'}) :
  wpAny 78 A (do
    storeSet a fs u
    if(!wd&&u.tooFull)=N then do
      g (lg u fs<|SetTable.grown fs.size).2.2
      storeSet a (lg u fs<|SetTable.grown fs.size).1 (lg u fs<|SetTable.grown fs.size).2.1
      pure (G N)
     else pure (G N)) Rq E s:=by
 apply ia<|wpAny_storeSet_of D hd ?_ (fits_of_scanBound U);let(Q,I):=znp (S:=S) D O hd L J U C c H;let b1:=Heap.SameBut.update s.heap a<|Obj.putSet fs u;split
 .let p:=relayAll_perm u fs<|SetTable.grown fs.size;let f:=relayAll_fits u fs<|SetTable.grown fs.size;let d:=zuq c fs<|SetTable.grown fs.size;generalize lg u fs (SetTable.grown fs.size)=Z at p f d ⊢;let(i,v,Y):=Z;dsimp only at p f d ⊢;let sz:i.size=fs.size:=by rw[←y11,p.length_eq,y11]
  let r:i.size<iV:=by rw[sz];show U
  apply ia<|z _ _ _ (ia<|wpAny_storeSet_of Q R ?_ (fits_of_scanBound r));let(_,j):=znp (knd:=knd) (S:=S) Q O R (L.perm p) (λk'=>(J k').trans ⟨λ⟨e,m,q⟩=>⟨e,p.mem_iff.mpr m,q⟩,λ⟨e,m,q⟩=>⟨e,p.mem_iff.mp m,q⟩⟩) r f d<|zh9 H p;rw[sz]at j;show ib<|h _ (b1.trans<|Heap.SameBut.update _ a _) j
 .exact ib<|h _ b1 I
theorem zyh{a:Ad}{S:T->Bool}{n:Nat}{k:T}{x:Va}{Q:Bool->ig->Prop}(M:knd.is k x=N)(hs:x.scannable=N)(x0:SetT knd led s.heap a S n)(room:n+1<iV)
  (h:∀h',Heap.SameBut a s.heap h'->SetT knd led h' a (λk'=>S k'||decide (k'=k)) (if S k then n else n+1)->Q (!S k) {s with heap:=h'}):wpAny (model P w) A (setAddHashed a x<|knd.hash k) Q E s:=by
 let(o,l,ep,t,D,O,hd,(L,J),(f,C,I),tb,H):=id x0;unfold setAddHashed setAddHashedIn;apply im<|ia (iO D hd C ?_);dsimp only;rw[byScan_of hs f L];simp only[↓reduceIte];unfold setAddByScan;apply ia<|ia (jm<|ia (wpAny_setScan_of M D hd C L ?_));cases c:List.findIdx? (λe=>knd.is k e.2) l.toList with
 |some j =>
  dsimp only;let(g,hp,_):=List.findIdx?_eq_some_iff_getElem.mp c;let p:S k=N:=(J k).mpr ⟨_,y0k g,hp⟩;let z:=h s.heap (Heap.SameBut.refl a s.heap) (x0.congr (λk'=>by
   cases e:S k' with
   |true=>rfl
   |false=>rw[y4e,eq_comm,decide_eq_false_iff_not];intro q;rw[q,p]at e;cases e) (by rw[p];rfl))
  rw[p]at z;apply ib<|ib ?_;cases s;show z
 |none =>
  dsimp only;let no:=List.findIdx?_eq_none_iff.mp c;let p:S k=Fa:=y1f.mpr λz=>by
   let(e,m,q):=(J k).mp z;rw[no e m]at q;cases q
  let d:=layNew_perm t l (knd.hash k) x;let v:=layNew_fits t l (knd.hash k) x;let(lt,ld):=zqr tb l (knd.hash k) x;generalize layNew t l (knd.hash k) x=Z at d v lt ld ⊢;let(fs,u,wd,Y):=Z;dsimp only at d v lt ld ⊢;rw[y3v]at d;let i1:ElemsOf knd fs.toList:=(L.push M hs).perm d;let i2:∀k',(S k'||decide (k'=k))=N↔∃e∈fs.toList,knd.is k' e.2=N:=mem_push_iff M J d;let sz:fs.size=n+1:=by rw[←y11,d.length_eq,y0d,y11,I];rfl
  let r:fs.size<iV:=by rw[sz];show room
  let ip:fs.toList.Pairwise λx y=>∀k,knd.is k x.2=N->knd.is k y.2=Fa:=by
   apply zh9 (List.pairwise_append.mpr ⟨H,List.pairwise_singleton _ _,λy U z hz k' i=>?_⟩) d;rw[y0l.mp hz];cases q:knd.is k' x with
   |false=>rfl
   |true =>
    let e:=knd.inj x k' k q M;rw[e,no y U]at i;cases i
  let fin:∀h',Heap.SameBut a s.heap h'->SetT knd led h' a (λk'=>S k'||decide (k'=k)) fs.size->Q N {s with heap:=h'}:=λh' b z=>by
   let:=h h' b;rw[p]at this;rw[sz]at z;show this z
  apply ia ?_;let gw:∀(b:Bool) (s1:ig) (Rq:Unit->ig->Prop),Rq () s1->wpAny 78 A (match b with|true=>rule "set.scan.the-table-gave-way"|false=>pure ()) Rq E s1:=λb s1 Rq q=>by cases b<;>first|show ib q|show jm q
  apply gw _ _ _ ?_;split
  .refine ia ?_;rw[hashByValue_scannable 8 hs];apply ib<|zno (led:=led) gw D O hd i1 i2 r ?_ ?_ ip λh' b z=>?_
   .split
    .exact v
    .exact SetTable.fits_plain_off v
   .split
    .exact lt
    .exact zur lt
   .dsimp only;show ib<|fin h' b z
  .refine ia<|ib ?_;simp only[↓reduceIte];apply zno (led:=led) gw D O hd i1 i2 r v lt ip λh' b z=>?_;dsimp only;show ib<|fin h' b z
end
theorem slot_setit_next:Slot "set_iterator" "__next__" "set_iterator.__next__" :=
 .of (owner:="set_iterator") (n:="__next__") (by rw[iJ,iz];kernel_rfl) 21 21 21 (by first|show .inl (by decide+kernel)|show .inr (by decide+kernel)) (by rw[iH];kernel_rfl)
theorem zcu:entryFor table "set_iterator.__next__"=G Builtin.«set_iterator.__next__»:=entryFor_of_fast (by kernel_rfl)
theorem zc8(v:Va):argsOk "set_iterator.__next__" ⟨[v],[]⟩:=by unfold argsOk;kernel_rfl
theorem zg2:entryFor table "set.__iter__"=G Builtin.«frozenset.__iter__»:=entryFor_alias (id':="frozenset.__iter__") (by kernel_rfl) R 21 (by kernel_rfl)
noncomputable def byT(w:World):Bool:=w.params.followText "set-order"
inductive Way where
 |text
 |drawn (pt:Ad) (pl:List Nat)
 |place
noncomputable def ordOf(w:World)(a:Ad)(l:Array<|Int×Va)(ep:Nat):Way->List (Int×Va)
 |.text=>(pickOrder (w.params.setOrder a ep) l).toList
 |.drawn _ f=>f.filterMap λi=>l[i]?
 |.place=>l.toList
def WayOk(w:World)(l:Array<|Int×Va)(t:jn):Way->Prop
 |.text=>byT w=N
 |.drawn _ f=>byT w=Fa/\(!t.plain&&decide (l.size>1))=N/\f.Perm (List.range l.size)
 |.place=>byT w=Fa/\(!t.plain&&decide (l.size>1))=Fa
def FirstIs(h:Heap)(t:jn)(i:Nat)(v:Va):Way->Prop
 |.text=>v=.int 0 0
 |.drawn pt f=>v=.ref pt/\∃o n,h.get? pt=G o/\o.data=.seq (f.map λj:Nat=>i9 j).toArray n
 |.place=>∃j:Nat,v=.int j 0/\SetTable.below t.place j=i
structure SetSt(w:World)(it a:Ad)(es:Array<|Int×Va)(ep:Nat)(t:jn)(y:Way)(i:Nat)(h:Heap):Prop where
 st:∃o,h.get? a=G o/\o.data=.set es ep t
 it:∃o v,h.get? it=G o/\o.cls=.type "set_iterator"/\o.data=.fields #[v,.int i 0,.ref a,.int es.size 0,.int ep 0]/\FirstIs h t i v y
theorem zs5{q p:Type}{f:q->Option p}{g:q->p}:∀(l:List q),(∀x∈l,f x=G (g x))->l.filterMap f=l.map g
 |[],_=>rfl
 |x::l,h=>by rw[y27,h x y0a,y0m,zs5 l λy U=>h y<|y07 _ U]
section
variable {P:ik}{w:World}{A:io}{E:Y0}{s:ig}
theorem zit(h:WayOk w l t y):(ordOf w a l ep y).Perm l.toList:=by
 cases y with
 |text=>show zrk _ _
 |place=>show .refl _
 |drawn pt f =>
  let e:l.toList=(List.range l.size).filterMap λi=>l[i]?:=by
   apply y23 λi=>?_;let:((List.range l.size).filterMap λi=>l[i]?)=(List.range l.size).map λi=>l.getD i default:=by
    apply zs5 _ λi hi=>?_;rw[y1p<|y0s.mp hi,Array.getD,dif_pos<|y0s.mp hi];rfl
   rw[this,y03];by_cases hi:i<l.size
   .rw[y17 hi,y2l,y1p hi,y1j,Array.getD,dif_pos hi];rfl
   .rw[y0t (by simpa using hi),y0t<|by simpa using hi];rfl
  rw[e];show h.2.2.filterMap _
theorem zqb(I:n≠0)(h:∀i d,i<n->Q i {s with drawn:=d}):wpAny M A (choose a n) Q E s :=
 λe p c=>⟨I,h _ _<|y31 _ (Nat.pos_of_ne_zero I)⟩
theorem zww(n:Nat):∀(xs:List q) (s:ig) (Q:List q->ig->Prop),xs.length=n->(∀ys d,ys.Perm xs->Q ys {s with drawn:=d})->wpAny M A (drawOrder n xs) Q E s:=by
 induction n with
 |zero =>
  intro xs s Q I h;cases List.eq_nil_of_length_eq_zero I;unfold drawOrder;show ib<|h [] s.drawn (.refl _)
 |succ n g =>
  intro xs s Q I h;cases xs with
  |nil=>cases I
  |cons x xs =>
   unfold drawOrder;apply ia<|zqb 06 λi d hi=>?_;rw[y00 hi];simp only;apply ia<|g _ _ _ (by rw[y46 hi];omega) λys d' p=>?_;apply ib<|h _ d' ?_;generalize Y:x::xs=l at hi p ⊢;let e:l=l.take i++l[i]::l.drop (i+1):=by rw[y4i,y3g]
   rw[y3t]at p
   conv=>rhs;rw[e]
   show(List.Perm.cons _ p).trans List.perm_middle.symm
theorem SetSt.ty{it a:Ad}{l:Array (Int×Va)}{ep:Nat}{t:jn}{y:Way}{i:Nat}(x:SetSt w it a l ep t y i s.heap):s.TypeIs 96 "set_iterator":=let⟨o,_,D,C,_⟩:=x.it;⟨o,D,C⟩
theorem zb7{h:Heap}{o:Obj}{vs:Array Va}(D:h.get? a=G o)(hd:o.data=.fields vs)(i:Nat)(x:Va):∃Q,(h.update a (Obj.mapFields (·.setIfInBounds i x))).get? a=G Q/\Q.cls=o.cls/\Q.data=.fields (vs.setIfInBounds i x) :=
 ⟨_,y1g _ D<|Obj.isFreed_of_fields (Obj.data_mapFields hd _),Obj.cls_mapFields ..,by rw[Obj.data_mapFields hd]⟩
theorem zx4{M:Model}{q:Type}{c:Prop}[Decidable c]{x y:Sem q}{Q:q->ig->Prop}(C:c)(h:wpAny M A x Q E s):wpAny M A (if c then x else y) Q E s:=by rw[Xq C];show h
theorem zqn{M:Model}{q:Type}{c:Prop}[Decidable c]{x y:Sem q}{Q:q->ig->Prop}(C:¬c)(h:wpAny M A y Q E s):wpAny M A (if c then x else y) Q E s:=by rw[Xp C];show h
theorem ze4(D:s.heap.get? a=G o)(hd:o.data=.set l ep t)(T:t.fits l.size=N)(U:byT w=N)
  (q:Q (((ordOf w a l ep .text)[i]?).map λe=>(e.2,j)) s):wpAny 78 A (setNext a j i ep) Q E s:=by
 unfold setNext;apply ia<|iO D hd T ?_;dsimp only;unfold ly;apply ia<|ia (jf<|ib ?_);apply zx4 U<|zqn 06 ?_;unfold setWalk;apply ia<|ia (iO D hd T ?_);dsimp only;unfold ly;apply ia<|ia (jf<|ib ?_);apply zx4 U ?_;apply ia<|jf (ib<|ib ?_);let e:(ordOf w a l ep .text)[i]?=(pickOrder (w.params.setOrder a ep) l)[i]?:=by change(pickOrder (w.params.setOrder a ep) l).toList[i]?=_;rw[y2l]
 rw[e]at q;show q
theorem zd8(D:s.heap.get? a=G o)(hd:o.data=.set l ep t)(T:t.fits l.size=N)(U:byT w=Fa)(O:(!t.plain&&decide (l.size>1))=Fa)(u:Tb (!byT w) t)
  (q:Q (match l[SetTable.below t.place j]?,t.place[SetTable.below t.place j]? with|some (_,x),G j=>G (x,j+1)|_,_=>B) s):wpAny 78 A (setNext a j i ep) Q E s:=by
 unfold setNext;apply ia<|iO D hd T ?_;dsimp only;unfold ly;apply ia<|ia (jf<|ib ?_);apply zqn (λz=>by rw[show byT w=N from z]at U;cases U)<|zqn (λz=>by rw[show(!t.plain&&decide (l.size>1))=N from z]at O;cases O) ?_;let Y:t.led=N:=by rw[u.led,U];rfl
 apply ia ?_;apply zqn (c:=(!t.led && !l.isEmpty)=N) (by rw[Y];simp)<|ib (ib q)
theorem zuz(U:WayOk w l t y)(c:Tb (!byT w) t)(T:t.fits l.size=N)(st:SetSt w it a l ep t y i s.heap)(D:a≠it)(hpt:∀pt f,y=.drawn pt f->pt≠it)(O:(ordOf w a l ep y)[i]?=G (k,x))
  (q:∀h',SetSt w it a l ep t y (i+1) h'->Heap.SameBut it s.heap h'->Q (G x) {s with heap:=h'}):wpAny (model P w) A (j6<|.ref it) Q E s:=by
 let ty:=st.ty;let((oa,d,da),oi,v,hi,ci,C,fi):=st;unfold j6;apply ia<|jP (i7 (name:=Str.ofString "__next__") ty slot_setit_next<|i0 slot_setit_next ty zcu ?_ (zc8 _));unfold Builtin.«set_iterator.__next__»;apply ia<|ib ?_;apply ia<|jG hi C ?_;dsimp only;apply ia<|j7 d da T ?_;rw[Xp 06];simp only[y1m];cases y with
 |text =>
  let r:v=.int 0 0:=fi;subst r;dsimp only;apply ia<|ze4 d da T U ?_;rw[O];dsimp only[y1j];apply ia<|iG hi C 06 ?_;let(u,L,M,d1):=zb7 hi C 0<|i9 ((0:Int).toNat:Int);apply ia<|iG L d1 06 ?_;let(H,J,c2,I):=zb7 L d1 1<|i9 ((i:Int)+1);let p:=(Heap.SameBut.update s.heap it (Obj.mapFields (·.setIfInBounds 0 (i9 ((0:Int).toNat:Int))))).trans (Heap.SameBut.update _ it (Obj.mapFields (·.setIfInBounds 1 (i9<|(i:Int)+1))));apply ib ⟨x,R,ib<|q _ ⟨⟨oa,by rw[p.2 a D];show d,da⟩,H,.int 0 0,J,by rw[c2,M,ci],by rw[I];rfl,R⟩ p⟩
 |drawn pt f =>
  let(r,Y,n,hp,dp):=fi;subst r;dsimp only;apply ia<|iC hp dp ?_;dsimp only;obtain⟨j,g,hjx⟩:∃j,f[i]?=G j/\l[j]?=G (k,x):=by
   let e:ordOf w a l ep (.drawn pt f)=f.map λj=>l.getD j default:=zs5 _ λj g=>by
    let:=y0s.mp<|U.2.2.mem_iff.mp g;rw[y1p this,Array.getD,dif_pos this];rfl
   rw[e,y03]at O;let(j,g,ej):=y1a.mp O;let o:=y0s.mp<|U.2.2.mem_iff.mp (y0n g);apply⟨j,g,?_⟩;rw[y1p o];rw[Array.getD,dif_pos o]at ej;show congrArg G ej
  let hj':(f.map λj:Nat=>i9 j).toArray[i]?=G (.int j 0):=by
   rw[List.getElem?_toArray,y03,g];rfl
  rw[hj'];dsimp only;unfold setNextDrawn;apply ia<|ia (iO d da T ?_);dsimp only;apply zqn 06 ?_;simp only[y1m,hjx];apply ib ?_;apply ia<|iG hi C 06 ?_;let(H,J,c2,I):=zb7 hi C 1<|i9 ((i:Int)+1);let p:=Heap.SameBut.update s.heap it (Obj.mapFields (·.setIfInBounds 1 (i9<|(i:Int)+1)));apply ib ⟨x,R,ib<|q _ ⟨⟨oa,by rw[p.2 a D];show d,da⟩,H,.ref pt,J,by rw[c2,ci],by rw[I];rfl,R,Y,n,by rw[p.2 pt<|hpt pt f R];show hp,dp⟩ p⟩
 |place =>
  let(j,r,fb):=fi;subst r;dsimp only;apply ia<|zd8 d da T U.1 U.2 c ?_;let hx':l[i]?=G (k,x):=by
   let:l.toList[i]?=G (k,x):=O;rw[y2l]at this;show this
  let o:i<l.size:=(Array.getElem?_eq_some_iff.mp hx').1;let hpz:t.place.size=l.size:=by
   simp only[SetTable.fits,y08,beq_iff_eq]at T;show T.1
  let z:t.place[i]?=G (t.place.getD i 0):=by rw[y1p 00,Array.getD,dif_pos 00];rfl
  rw[y1m,fb,hx',z];dsimp only;apply ia<|iG hi C 06 ?_;let(u,L,M,d1):=zb7 hi C 0<|i9 ((t.place.getD i 0+1:Nat):Int);apply ia<|iG L d1 06 ?_;let(H,J,c2,I):=zb7 L d1 1<|i9 ((i:Int)+1);let p:=(Heap.SameBut.update s.heap it (Obj.mapFields (·.setIfInBounds 0 (i9 ((t.place.getD i 0+1:Nat):Int))))).trans (Heap.SameBut.update _ it (Obj.mapFields (·.setIfInBounds 1 (i9<|(i:Int)+1))));apply ib ⟨x,R,ib<|q _ ⟨⟨oa,by rw[p.2 a D];show d,da⟩,H,_,J,by rw[c2,M,ci],by rw[I];rfl,t.place.getD i 0+1,R,zqi c.rise 00⟩ p⟩
theorem zij{it:Ad}{L:Heap}{Q:Y9}{Rq:Fin->ig->Prop}(H:A.handled=B)(g:Heap.ExtBut it s.heap L)(q:∀h',Heap.ExtBut it s.heap h'->Q B {s with heap:=h'}):
  wpAny 78 A.in1 (newExc (.type "StopIteration") []>>=raiseNew) Rq (λe s'=>wpAny 78 A (isInstance e (.type "StopIteration")>>=λb=>if b=N then pure B else throw e) Q E s') {s with heap:=L}:=by
 apply ia ?_;simp only[newExc,newTuple];apply ia<|i5 (ia (m:=jD _ _)<|wpAny_of_eq (a:=Va.none) (by first|rfl|(simp only[jD];rfl)) (i5 ?_<|by size_fits)) (by size_fits);simp only[raiseNew];apply ia<|wpAny_handled ?_;rw[show A.in1.handled=B from H];apply ia<|ib (wpAny_throw ?_);apply ia<|jx (s:={s with heap:=_}) (T:="StopIteration") (b:=N) ⟨_,y0b _ R,R⟩ isSubtype_stop ?_;show ib<|q _ ((g.push _).push _)
theorem zyg(H:A.handled=B)(U:WayOk w l t y)(c:Tb (!byT w) t)(T:t.fits l.size=N)(st:SetSt w it a l ep t y l.size s.heap)
  (q:∀h',Heap.ExtBut it s.heap h'->Q B {s with heap:=h'}):wpAny (model P w) A (j6<|.ref it) Q E s:=by
 let ty:=st.ty;let((e,d,p),I,v,hi,D,C,z):=st;unfold j6;apply ia<|jP (i7 (name:=Str.ofString "__next__") ty slot_setit_next<|i0 slot_setit_next ty zcu ?_ (zc8 _));unfold Builtin.«set_iterator.__next__»;apply ia<|ib ?_;apply ia<|jG hi C ?_;dsimp only;apply ia<|j7 d p T ?_;rw[Xp 06];simp only[y1m];let i:t.place.size=l.size:=by
  simp only[SetTable.fits,y08,beq_iff_eq]at T;show T.1
 cases y with
 |text =>
  let r:v=.int 0 0:=z;subst r;dsimp only;apply ia<|ze4 d p T U ?_;rw[y0t<|by rw[(zit (a:=a) (ep:=ep) U).length_eq];simp];dsimp only[Option.map_none];show ia<|iG hi C 06 (zij H (Heap.SameBut.update ..).extBut q)
 |drawn pt f =>
  let(r,Y,n,O,dp):=z;subst r;dsimp only;apply ia<|iC O dp ?_;dsimp only;rw[y3e<|by rw[y06,y01,U.2.2.length_eq,y0x];show y05 _];dsimp only;change wpAny _ _ (setField 96 0 (i9 0)>>=λ_=>setField 96 2 Va.none>>=λ_=>(newExc (.type "StopIteration") []>>=raiseNew)) _ _ s;let(u,L,M,J):=zb7 hi C 0<|i9 0;apply ia<|iG hi C 06 ?_;apply ia<|iG L J 06 ?_;show zij (s:=s) H ((Heap.SameBut.update s.heap it _).trans<|Heap.SameBut.update _ it _).extBut q
 |place =>
  let(j,r,g):=z;subst r;dsimp only;apply ia<|zd8 d p T U.1 U.2 c ?_;rw[y1m,g,y3e 08];dsimp only;show ia<|iG hi C 06 (zij H (Heap.SameBut.update ..).extBut q)
theorem SetSt.kept{it a:Ad}{l:Array (Int×Va)}{ep:Nat}{t:jn}{y:Way}{i:Nat}{h h':Heap}(x:SetSt w it a l ep t y i h)(k:∀b o,(b=it\/b=a\/∃f,y=.drawn b f)->h.get? b=G o->h'.get? b=G o):SetSt w it a l ep t y i h':=by
 let((e,d,p),I,v,hi,D,C,z):=x;apply⟨⟨e,k a e (.inr 015) d,p⟩,I,v,k it I 015 hi,D,C,?_⟩;cases y with
 |text=>show z
 |place=>show z
 |drawn pt f =>
  let(r,Y,n,O,dp):=z;show⟨r,Y,n,k pt Y (.inr<|.inr ⟨f,R⟩) O,dp⟩
noncomputable def Way.fp:Way->List Ad
 |.drawn pt _=>[pt]
 |_=>[]
theorem Way.mem_fp{y:Way}:(∃f,y=.drawn b f)↔b∈y.fp:=by
 cases y with
 |text=>show⟨λ⟨_,h⟩=>(nomatch h),λh=>(nomatch h)⟩
 |place=>show⟨λ⟨_,h⟩=>(nomatch h),λh=>(nomatch h)⟩
 |drawn pt f =>
  constructor
  .rintro⟨a,h⟩;cases h;show y0l.mpr R
  .intro h;rw[y0l.mp h];show⟨f,R⟩
theorem Walks.set(H:A.handled=B)(D:a≠it)(r:∀pt f,y=.drawn pt f->pt≠it)(j:WayOk w l t y)(c:Tb (!byT w) t)(T:t.fits l.size=N)(d:∀(s:ig) (Q:Y0) (E:Y0),s.TypeIs 96 "set_iterator"->Q 96 s->wpAny 78 A (jV 96) Q E s):
  Walks P w A it (it::a::y.fp) [it] l.size (λi v=>∃k,(ordOf w a l ep y)[i]?=G (k,v)) (λi h=>SetSt w it a l ep t y i h) where
 sub:=λb U=>by rw[y0l.mp U];show y0a
 frame:=λi h h' x k=>x.kept λb o U e=>k b (by
  rcases U with rfl|rfl|U
  .exact y0a
  .exact y07 _ y0a
  .exact y07 _<|y07 _ (Way.mem_fp.mp U)) o e
 item:=λi s Q E hi x q=>by
  let Y:i<(ordOf w a l ep y).length:=by rw[(zit (a:=a) (ep:=ep) j).length_eq];simpa using hi
  apply zuz j c T x D r (y00 Y) λh' u p=>q _ h' s.toks ⟨_,y00 Y⟩ u λb o U e=>?_;rw[p.2 b λz=>U<|by rw[z];show y0l.mpr R];show e
 done:=λs Q E x q=>zyg H j c T x λh' g=>q h' s.toks λb o U e=>g b o (λz=>U<|by rw[z];show y0l.mpr R) e
 self:=λi s Q E x q=>d s Q E x.ty q
end
local instance (priority:=10000):BEq Key:=instBEqOfDecidableEq
section
variable {prog:ik}{w:World}{A:io}{E:Y0}{s:ig}
theorem zlx(a:Va)
  (h:Q₁ 011 {s with heap:=s.heap.push {cls:=.type "set",dict:=B,data:=.set #[] 0 (.fresh 0 0<|!byT w)} }) :
  jc 95 A (.call (.builtin "set.__new__") ⟨[.type "set",a],[]⟩) (wants Q₁ E) s:=by
 apply jq ?_;change wpAny _ A.in1 (do jT "set.__new__" ⟨[.type "set",a],[]⟩;again (.builtin "set.__new__" ⟨[.type "set",a],[]⟩)) _ _ s;apply ia<|wpAny_of_eq (F.newCall_set_1 a) (ib ⟨iT F.plain_set_new _,iD F.entry_set_new ?_⟩);rw[Around.under_plainId F.plain_set_new _];unfold Builtin.«set.__new__» Builtin.Frozenset.newClass;let hsub:=sub_set_self;let(hp,g,d,tk,os):=s;dsimp only
 wp_walk
 apply jf<|ib ?_;dsimp only;simp only[newObj];apply ia<|wpAny_alloc (ib ?_);show ib h
end
section
variable {P:ik}{w:World}{A:io}{Rq:Result->ig->Prop}{it:Ad}{fp wr:List Ad}{Gq:Array jB->Array jB->Prop}{n:Nat}{Pv:Nat->Va->Prop}{St:Nat->ig->Prop}
def SetTs(P:ik)(w:World)(h:Heap)(a:Ad)(ks:List Int):Prop:=∃n,n<=ks.length/\SetT (jU P w) (!byT w) h a (λk=>decide (k∈ks)) n
theorem SetTs.kept(x:SetTs P w h a ks)(k:∀o,h.get? a=G o->h'.get? a=G o):SetTs P w h' a ks:=let⟨n,l,x⟩:=x;⟨n,l,SetT.kept x k⟩
theorem zu2(h:(jU P w).is k v=N):v.scannable=N:=by
 let(t,rfl):=Va.isInt_shape h;rfl
theorem zye(a:Ad)(M:m<iV):SetR (jU P w) a m (λh ks=>SetTs P w h a ks):=⟨λx k=>x.kept k,λ{A E s ks k v Q} is Y ⟨f,c,x⟩ q=>by
 apply zyh (knd:=jU P w) is (zu2 is) x 00 λh' p O=>q h' _ p ⟨_,?_,SetT.congr O (λk'=>?_) R⟩
 .rw[y0d,y0r];split<;>omega
 .rw[y1e];simp only[y3h,decide_eq_true_eq,y1c,y0l]⟩
end
section
variable {P:ik}{w:World}{A:io}{E:Y0}{s:ig}
theorem zj6(H:A.handled=B)(Y:s.heap.IsList l its)(M:ks.length=its.size)(hi:∀(i:Nat) v k,its[i]?=G v->ks[i]?=G k->(jU P w).is k v=N)
  (U:its.size+1<iV)
  (h:∀(h':Heap) (J:Nat),SetTs P w h' s.heap.objs.size ks->067->Q 011 {s with heap:=h',toks:=J}) :
  wpAny 78 A (call (.type "set") [.ref l]) Q E s :=
 zq4 (Lp:=λled=>led=!byT w) H Y M hi (zye _ U) (λh led e a=>by
  subst e;let(o,T,ep,t,D,O,hd,c,f):=(setObjOf_fresh (knd:=jU P w)<|!byT w).setOf a (by unfold iV;omega);let d:o=_:=(Option.some.inj<|a.symm.trans D).symm;subst d;let p:Data.set #[] 0 (.fresh 0 0<|!byT w)=Data.set T ep t:=hd;injection p with g C j
  subst g;subst C;subst j;show⟨0,y05 _,_,_,_,_,a,O,R,⟨c,λk=>by simp⟩,f.2,zus _ _ _,.nil⟩) (zlx (.ref l) ⟨_,R,R,R⟩) h
end
section
variable {P:ik}{w:World}{A:io}{E:Y0}{s:ig}
theorem zjo(v:Va):argsOk "set.__iter__" ⟨[v],[]⟩:=by unfold argsOk;kernel_rfl
theorem zo9(D:s.heap.get? a=G o)(O:o.ExactSet)(C:o.cls=.type "set")(hd:o.data=.set l ep t)(T:t.fits l.size=N)(c:Tb (!byT w) t)(I:l.size<=ii)
  (q:∀(it:Ad) (y:Way) (h':Heap) (d:Drawn),WayOk w l t y->a≠it->(∀pt pl,y=.drawn pt pl->pt≠it/\s.heap.objs.size<=pt)->s.heap.objs.size<=it->SetSt w it a l ep t y 0 h'->(∀b u,s.heap.get? b=G u->h'.get? b=G u)->Q 96 {s with heap:=h',drawn:=d}) :
  wpAny 78 A (jV 07) Q E s:=by
 let hT:s.TypeIs 07 "set":=⟨o,D,C⟩;apply ju hT F.slot_set_iter<|i0 F.slot_set_iter hT zg2 ?_ (zjo _);unfold Builtin.«frozenset.__iter__» Builtin.Frozenset.slot0 slotArgs;apply ia<|ia (ib ?_);unfold Builtin.Frozenset.addrOf;apply ib ?_;unfold Builtin.Frozenset.sizeOf;apply ia<|ia (j7 D hd T<|ib ?_);unfold setDrawn;apply ia<|ia (iO D hd T ?_);dsimp only;unfold ly;apply ia<|ia (jf<|ib (ib ?_));let fin:∀(s2:ig) (v:Va) (y:Way),WayOk w l t y->(∀b u,s.heap.get? b=G u->s2.heap.get? b=G u)->s2={s with heap:=s2.heap,drawn:=s2.drawn}->s.heap.objs.size<=s2.heap.objs.size->FirstIs s2.heap t 0 v y->(∀pt pl,y=.drawn pt pl->s.heap.objs.size<=pt/\pt<s2.heap.objs.size)->
   wpAny 78 A.in1 (do let e ←setEpoch a;let f ←newFields "set_iterator" [v,i9 0,.ref a,i9 l.size,i9 e];ret f) (λfin s'=>∃v,fin=PySem.Fin.done (.ret v)/\∃T' r,s'.TypeIs v T'/\jl (Va.type T') (Str.ofString "__next__")=pure (G r)/\Q v s') E s2:=by
  intro s2 v y hy M x le hv p;let(J,g2,d2,Y,os2):=s2;let g:g2=s.gens:=congrArg Shared.gens x;let e2:Y=s.toks:=congrArg Shared.toks x;let j:os2=s.os:=congrArg Shared.os x;subst g;subst e2;subst j;unfold setEpoch;apply ia<|ia (iO (M a o D) hd T<|ib ?_);unfold newFields;apply ia<|i5 (ib ⟨_,R,"set_iterator",_,⟨_,y0b _ R,R⟩,slot_setit_next.lookup,?_⟩);let lt:a<J.objs.size:=y0c<|M a o D;let i:∀b u,J.get? b=G u->(J.push {cls:=.type "set_iterator",data:=.fields #[v,.int 0 0,.ref a,.int l.size 0,.int ep 0]}).get? b=G u:=λb u e=>y04 _ e;apply q _ y _ d2 hy (y0j lt) (λpt pl e=>⟨y0j (p pt pl e).2,(p pt pl e).1⟩) le ⟨⟨o,i a o<|M a o D,hd⟩,⟨_,v,y0b _ R,R,R,?_⟩⟩ λb u e=>i b u<|M b u e;cases y with
  |text=>show hv
  |place=>show hv
  |drawn pt pl =>
   let(e,H,n2,L,z):=hv;show⟨e,H,n2,i _ _ L,z⟩
 change wpAny _ _ (if(!byT w&&(!t.plain&&decide (l.size>1)))=N then _ else _) _ _ _;cases U:byT w with
 |true =>
  rw[Xp 06];apply ia<|ib ?_;show fin s _ .text U (λ_ _ e=>e) R 08 R λ_ _ e=>nomatch e
 |false =>
  cases hp:(!t.plain&&decide (l.size>1))with
  |false =>
   rw[Xp 06];apply ia<|ib ?_;show fin s _ .place ⟨U,hp⟩ (λ_ _ e=>e) R 08 ⟨0,R,zqh c.rise⟩ λ_ _ e=>nomatch e
  |true =>
   rw[Xq 06];apply ia<|zww l.size (List.range l.size) s _ y0x λys d pm=>?_;let yl:ys.length=l.size:=by rw[pm.length_eq,y0x]
   apply ia<|jZ ?_ (by rw[y01,yl];show I);apply fin _ _ (.drawn s.heap.objs.size ys) ⟨U,hp,pm⟩ (λ_ _ e=>y04 _ e) R ?_ ⟨R,_,_,y0b _ R,R⟩ λpt pl e=>?_
   .change _<=(Heap.push _ _).objs.size;rw[y18];show y3m _
   .cases e;apply⟨y05 _,?_⟩;change _<(Heap.push _ _).objs.size;rw[y18];show y2p _
end
section
variable {P:ik}{w:World}{A:io}{E:Y0}{s:ig}
theorem zcx:Slot "set_iterator" "__iter__" "set_iterator.__iter__" :=
 .of (owner:="set_iterator") (n:="__iter__") (by rw[iJ,iz];kernel_rfl) 21 21 21 (by first|show .inl (by decide+kernel)|show .inr (by decide+kernel)) (by rw[iH];kernel_rfl)
theorem zff:entryFor table "set_iterator.__iter__"=G Builtin.«dict_keyiterator.__iter__» :=
 entryFor_alias (id':="dict_keyiterator.__iter__") (by kernel_rfl) R 21 (by kernel_rfl)
theorem zgu(v:Va):argsOk "set_iterator.__iter__" ⟨[v],[]⟩:=by unfold argsOk;kernel_rfl
theorem zo2:jl (.type "set") (Str.ofString "__len__")=pure (G<|.builtin "set.__len__"):=F.slot_set_len.lookup
theorem zmx(hh:A.handled=B)(ho:s.heap.get? a=G o)(hx:o.ExactSet)(hc:o.cls=.type "set")(hd:o.data=.set es ep t)(hf:t.fits es.size=N)(tb:Tb (!byT w) t)(hn:es.size<=ii)
  (q:∀(vs:List Va) (h':Heap) (d:Drawn) (tk:Nat),vs.Perm (es.toList.map (·.2))->s.heap.objs.size<=h'.objs.size->s.toks<=tk->(∀b u,s.heap.get? b=G u->h'.get? b=G u)->Q vs {s with heap:=h',drawn:=d,toks:=tk}) :
  wpAny 78 A (collect 07) Q E s:=by
 let la:a<s.heap.objs.size:=y0c ho;unfold collect;apply ia<|wpAny_runValue (iD F.entry_proto_collect ?_);rw[Around.under_plainId F.plain_proto_collect _];change wpAny _ A.in1 (newList []>>=λl=>again<|.builtin "list.__iadd__" ⟨[l,.ref a],[]⟩) _ _ s;apply ia<|i5 ?_;apply ib ⟨iT F.plain_list_iadd _,iD F.entry_list_iadd ?_⟩;rw[Around.under_plainId F.plain_list_iadd _];let hS₁:(s.heap.push {cls:=.type "list",data:=.seq ([]:List Va).toArray}).get? s.heap.objs.size=G {cls:=.type "list",data:=.seq ([]:List Va).toArray}:=y0b _ rfl;let ha₁:(s.heap.push {cls:=.type "list",data:=.seq ([]:List Va).toArray}).get? a=G o:=y04 _ ho;let h1:Builtin.List.listSameRef 011 07=Fa:=by simp[Builtin.List.listSameRef,y29 la]
 change wpAny _ A.in1 (Builtin.List.listExtendWith 011 07 011) _ _ _;unfold Builtin.List.listExtendWith;let hT:Shared.TypeIs {s with heap:=s.heap.push {cls:=.type "list",data:=.seq ([]:List Va).toArray} } (.ref a) "set":=⟨o,ha₁,hc⟩;apply ia<|jo hT ?_;rw[Xp<|by rw[h1];decide];apply ia<|zo9 (s:={s with heap:=s.heap.push {cls:=.type "list",data:=.seq ([]:List Va).toArray} }) ha₁ hx hc hd hf tb hn λit y h2 d wo hne hpt hit st k2=>?_;apply ia<|im ?_;let hT2:Shared.TypeIs {s with heap:=h2,drawn:=d} (.ref a) "set":=⟨o,k2 a o ha₁,hc⟩;unfold Builtin.List.listLengthHint;apply ia<|iP hT2 zo2 ?_;generalize hid:("set.__len__":String)=id0
 (fail_if_success (clear hid id0))
 wp_delta
 rw[show splitId id0=G ("set","__len__")from by subst hid;decide+kernel];subst hid;apply ia<|jx (b:=N) hT2 (by rw[iH];kernel_rfl) ?_;rw[Xp 04];apply zx4 21 ?_;apply ia<|jo hT2 (ib ?_);change wpAny _ A.in1 (rule "list.extend.makes-room">>=λ_=>Builtin.List.listTouch 011>>=λ_ =>
  again (.builtin "list.extend.loop" ⟨[.ref s.heap.objs.size,.ref it,.ref s.heap.objs.size],[]⟩)) _ _ _
 apply ia<|jm ?_;let hS2:=k2 _ _ hS₁;apply ia ?_;change wpAny _ A.in1 (jA s.heap.objs.size (·.push .none)>>=λ_=>jA s.heap.objs.size (·.pop)) _ _ _;apply ia<|iZ hS2 R ?_;let hS₂:=y1g (Obj.mapSeq (·.push Va.none)) hS2 rfl;apply iZ hS₂ R ?_;let hS₃:=y1g (Obj.mapSeq (·.pop)) hS₂ rfl;let oth:∀b o,b≠s.heap.objs.size->h2.get? b=G o->((h2.update s.heap.objs.size (Obj.mapSeq (·.push Va.none))).update s.heap.objs.size (Obj.mapSeq (·.pop))).get? b=G o :=
  λb o hb e=>(y1b _ _<|Ne.symm hb).trans<|(y1b _ _<|Ne.symm hb).trans e
 let hself:∀(s:ig) (Q:Y0) (E:Y0),s.TypeIs 96 "set_iterator"->Q 96 s->wpAny 78 A.in1 (jV 96) Q E s:=λs Q E hT q=>by
  apply ju hT zcx<|i0 zcx hT zff ?_ (zgu _);change wpAny _ _ (ret 96) _ _ s;show ib ⟨_,R,"set_iterator",_,hT,slot_setit_next.lookup,q⟩
 let sz1:(s.heap.push {cls:=.type "list",data:=.seq ([]:List Va).toArray}).objs.size=s.heap.objs.size+1:=y18 ..;let hit':s.heap.objs.size+1<=it:=by rw[←sz1];show hit
 let ptne:∀b,b∈y.fp->b≠s.heap.objs.size:=λb hb=>by
  let(pl,e):=Way.mem_fp.mpr hb;let:=(hpt b pl e).2;let z:s.heap.objs.size+1<=b:=by rw[←sz1];show this
  show y29 z
 let W:=(Walks.set (P:=P) (A:=A.in1) (ep:=ep) hh hne (λpt pl e=>(hpt pt pl e).1) wo tb hf hself).toS;let hSf:s.heap.objs.size∉it::a::y.fp:=λhm=>by
  rcases y09.mp hm with z|hm
  .exact y0j hit' z
  rcases y09.mp hm with z|hm
  .exact y29 la z
  .exact ptne _ hm R
 apply ib ⟨iT F.plain_extend_loop _,codeAny_extend_loopS W hn _ hSf _ es.size 0 _ _ _ R (y13 _) ?_ hS₃ (ItemsOf.nil _) λs' acc' c' hm hS' hacc=>?_⟩
 .refine st.kept λb u hb e=>oth b u ?_ e;rcases hb with rfl|rfl|hb
  .exact y29 hit'
  .exact y0j la
  .exact ptne b<|Way.mem_fp.mp hb
 change wpAny _ A (load s.heap.objs.size>>=_) _ _ s';apply ia<|lm hS' (ib ?_);let(h',g',d',tk',os'):=s';let eg:g'=s.gens:=hm.gens;let ed:d'=d:=hm.drawn;let eo:os'=s.os:=hm.os;subst eg;subst ed;subst eo;let op:=zit (a:=a) (ep:=ep) wo;let ol:(ordOf w a es ep y).length=es.size:=by rw[op.length_eq,y11]
 let hacc':acc'.toList=(ordOf w a es ep y).map (·.2):=by
  apply y23 λj=>?_;rw[y03,y2l];cases e:acc'[j]? with
  |none =>
   let:acc'.size<=j:=Array.getElem?_eq_none_iff.mp e;rw[hacc.1]at this;rw[y0t 00];rfl
  |some v =>
   let(k,hk):=hacc.2 j v e;rw[hk];rfl
 apply q _ h' d' tk' (by rw[hacc'];show op.map _) (y1r<|y0c hS') hm.toks λb u e=>?_;let lb:b<s.heap.objs.size:=y0c e;apply hm.heap b u (λhb=>?_)<|oth b u (y0j lb) (k2 b u<|y04 _ e);rcases y09.mp hb with z|z
 .exact y0j lb z
 .rw[y0l.mp z]at lb;show Xa (y1n lb hit')<|y1q _
end
noncomputable def iv:Va->Int
 |.int i _=>i
 |_=>0
theorem zsz:∀{l:List Va},(∀v∈l,∃i t,v=.int i t)->jJ l (l.map iv)
 |[],_=>.nil
 |v::r,h=>by
  let(i,t,rfl):=h v y0a;show .cons i t<|zsz λv hv=>h v<|y07 _ hv
section
variable {P:ik}{w:World}{A:io}{E:Y0}{s:ig}
theorem zg1{l:List Int}(L:l.Pairwise (·<=·))(J:l.Nodup):l.Pairwise (· < ·):=by
 let:=List.Pairwise.and L J;show this.imp λ⟨a,b⟩=>by omega
theorem zo0{ks:List Int}(H:A.handled=B)(x:SetTs P w s.heap a ks)(h64:ks.length<64)
  (q:∀(L:Ad) (vs:List Va) (ns:List Int) (n:Nat) (h':Heap) (d:Drawn) (tk:Nat),jJ vs ns->ns.Pairwise (· < ·)->(∀k,k∈ns↔k∈ks)->s.heap.objs.size<=L->h'.get? L=G (seqObj "list" vs.toArray n)->s.toks<=tk->(∀b u,s.heap.get? b=G u->h'.get? b=G u)->Q (.ref L) {s with heap:=h',drawn:=d,toks:=tk}) :
  wpAny 78 A (call (.builtin "sorted") [.ref a]) Q E s:=by
 let(n,I,o,l,ep,t,D,O,hd,(h1,J),(h3,C,hsz),c,ap):=x;apply Calls.call_function_entry kind_sorted plain_sorted entry_sorted (args_sorted1 _) ?_;unfold Builtin.«sorted»;apply ia (m:=checkCount "sorted" 1 1 _)<|ib ?_;apply ia<|zmx H D O O.1 hd C c (show l.size<=ii by unfold ii;omega) λvs h' d tk r le Y M=>?_;let hint:∀v∈vs,∃i t,v=.int i t:=λv hv=>by
  let(e,he,rfl):=y0e.mp<|r.mem_iff.mp hv;let((k,M,_),_):=h1 e he;let(t,e):=Va.isInt_shape M;show⟨k,t,e⟩
 let hI:=zsz hint;let vl:vs.length<64:=by
  rw[r.length_eq,y01,y11];omega
 apply ia<|wpAny_newList ?_;let p:(h'.push<|seqObj "list" vs.toArray 0).get? h'.objs.size=G (seqObj "list" vs.toArray 0):=y0b _ rfl;change wpAny _ _ _ _ _ {s with heap:=h'.push<|seqObj "list" vs.toArray 0,drawn:=d,toks:=tk};apply ia<|im (i0 slot_list_sort ⟨_,p,R⟩ entry_list_sort (list_sort_tree p hI vl λout T a1 j a3=>⟨_,R,?_⟩)<|args_list_sort _);let g:∀e∈l.toList,(jU P w).is (iv e.2) e.2=N:=λe he=>by
  let((k,M,_),_):=h1 e he;let(t,f):=Va.isInt_shape M;rw[f]at M ⊢;show M
 let pe:T.Perm (l.toList.map λe=>iv e.2):=by
  apply j.trans ?_;let:=r.map iv;rwa[y0q]at this
 let(ne,hat):=sortedHeap_at (out:=out) p;apply ib ⟨_,R,q _ out.toList T ne _ d tk a1 (zg1 a3 ?_) (λk=>?_) le hat Y λb u e=>?_⟩
 .refine pe.nodup_iff.mpr ?_;rw[List.Nodup,List.pairwise_map];apply List.Pairwise.imp_of_mem (λ{x y} O U z e=>?_) ap;let h:=z _<|g x O;rw[e,g y U]at h;cases h
 .rw[pe.mem_iff,y0e];let:=J k;rw[decide_eq_true_eq]at this;rw[this];constructor
  .rintro⟨e,he,rfl⟩;show⟨e,he,g e he⟩
  .rintro⟨e,he,M⟩;let(t,f):=Va.isInt_shape M;show⟨e,he,by rw[f];rfl⟩
 .let lb:b<h'.objs.size:=y0p (y0c e) le;apply(sortedHeap_old (y0j lb) ?_).trans<|y04 _ (M b u e);rw[y18];show y2u lb
end
theorem Inv.drew{X:Cx}{pins:Y2}{σ:St}{H:Hp}{s:ig}(I:02 H s)(d:Drawn):02 H {s with drawn:=d}:=by
 let(L,J,f,C,E,i,v,g,c,a,e):=I;show⟨L,J,f,C,E,i,v,g,c,a,e⟩
noncomputable def setI(P:ik)(w:World)(a:Ad)(ns:List Int):HO:=.ext λh=>SetTs P w h a ns
theorem zla(hc:X.calm=N):CallR X (.type "set") (λxs H Q=>∃(p:Ad) (ns:List Int),xs=[.ref p]/\SqL X.K H p 025/\ns.length<=1000/\∀a,H a=B->Q 07 (upd H a<|setI X.prog X.w a ns)):=by
 intro pins s σ H xs us Q I r h;let(p,ks,rfl,O,hz,q):=h;let(u,rfl,T):=vals1 r;cases(show u=Va.ref p from T);let(vs,d,f,_):=I.list O;let j:=d.length;rw[y01]at j;apply zj6 (ks:=ks) 021 f.isList (by rw[y06];show j) (λi v k g C=>?_) (by rw[y06];unfold iV;omega) λh' z x k=>?_
 .let w:vs[i]?=G v:=by simpa using g
  let(u,e,q):=d.get (i:=i) (x:=V.int k) (by rw[y03,C];rfl);rw[w]at e;cases e;let(t,rfl):=q;change Va.isInt k (.int k t)=N;unfold Va.isInt;simp
 .refine⟨.ref s.heap.objs.size,_,I.laid (t':=z) (λb u e=>k b u (y0c e) e) 08 ?_,R,q _ I.fresh⟩;let(n,y,o,l,ep,t,D,rest):=id x;show⟨x,⟨o,D⟩,λL J c A=>c.kept A⟩
theorem zg8:∀{vs:List Va} {ns:List Int},jJ vs ns->Vals 025 vs
 |_,_,.nil=>.nil
 |_,_,.cons n t h=>.cons ⟨t,R⟩<|zg8 h
def rSortS(P:ik)(w:World):List V->Hp->VK->Prop:=λxs H Q=>∃(p:Ad) (ns:List Int),xs=[.ref p]/\H p=G (setI P w p ns)/\ns.length<64/\∀(Y:List Int),Y.Pairwise (· < ·)->(∀k,k∈Y↔k∈ns)->∀L H',New H L (.lst<|Y.map V.int) H'->Q (.ref L) H'
theorem zgq(hc:X.calm=N):CallR X (.builtin "sorted") (rSortS X.prog X.w):=by
 intro pins s σ H xs us Q I r h;let(p,ns,rfl,O,hz,q):=h;let(u,rfl,T):=vals1 r;cases(show u=Va.ref p from T);let(x,_):=I.hok p _ O;apply zo0 021 x hz λL vs Y n h' d J v j E le a e k=>?_;let M:Vals (Y.map V.int) vs:=zg8 v;let c:H L=B:=I.hok.fresh le;apply⟨.ref L,_,(I.laid (t':=J) (o:=.lst<|Y.map V.int) k le ⟨?_,vs,n,M,a⟩).drew d,R,q Y j E L _<|New.mk' c _⟩;rw[y01];let nd:Y.Nodup:=j.imp λh=>by omega
 let:Y.length<=ns.length:=nd.length_le_of_subset λy U=>(E y).mp U;show zaf 00
end L2
namespace SM
open PySem PySem.Spec PyProof.Rows L2 SS
def Rising(l:List Nat):Prop:=l.Pairwise (· < ·)
theorem zev(Y:Rising l)(h:∀x∈l,x<n):l.length<=n:=by
 let nd:l.Nodup:=Y.imp λh=>y0j h;let:=zdi (ys:=List.range n) nd λx O=>y0s.mpr<|h x O;simpa using this
theorem zhk:∀{a b:List Nat},Rising a->Rising b->(∀x,x∈a↔x∈b)->a=b
 |[],[],_,_,_=>rfl
 |[],y::s,_,_,h=>by have:=(h y).mpr y0a;cases this
 |x::r,[],_,_,h=>by have:=(h x).mp y0a;cases this
 |x::r,y::s,d,U,h=>by
  let v:=y3p.mp d;let b1:=y3p.mp U;let e:x=y:=by
   rcases y09.mp ((h x).mp y0a)with z|z
   .exact z
   .rcases y09.mp ((h y).mpr y0a)with C|C
    .exact C.symm
    .let:=v.1 y C;let:=b1.1 x z;omega
  subst e;congr 1;apply zhk v.2 b1.2 λz=>⟨λhz=>?_,λhz=>?_⟩
  .rcases y09.mp ((h z).mp<|y07 _ hz)with q|q
   .let:=v.1 z hz;omega
   .exact q
  .rcases y09.mp ((h z).mpr<|y07 _ hz)with q|q
   .let:=b1.1 z hz;omega
   .exact q
def comeL(m:Mc)(rs ls:List Nat):List Nat:=(List.range m.n).filter λk=>rs.any λr=>ls.any λl=>m.go r l==k
theorem ze9:Rising (comeL m rs ls):=List.Pairwise.filter _ y3d
theorem zw2(h:k∈comeL m rs ls):k<m.n:=y0s.mp (y2a.mp h).1
theorem ztu(y:∀r∈rs,∀l∈ls,m.go r l<m.n):k∈comeL m rs ls↔∃r∈rs,∃l∈ls,m.go r l=k:=by
 unfold comeL;rw[y2a,y1v,y0s];constructor
 .rintro⟨_,r,D,h⟩;let(l,Y,e):=y1v.mp h;show⟨r,D,l,Y,by simpa using e⟩
 .rintro⟨r,D,l,Y,rfl⟩;show⟨y r D l Y,r,D,y1v.mpr ⟨l,Y,by simp⟩⟩
def put0(l t:Nat):Nat:=l+l/2^t*2^t
theorem put_lt:∀w,w<5->∀t,t<w->∀l,l<2^(w-1)->put0 l t+2^t<2^w:=by decide+kernel
def dropT(m:Mc)(t:Nat):Thg:=⟨m.w-1,λrs=>(List.range<|2^(m.w-1)).map λl=>comeL m rs [put0 l t,put0 l t+2^t],λrs=>rs.any m.fin⟩
def DropG(m:Mc)(rs:List Nat):Prop:=Rising rs/\∀r∈rs,r<m.n
theorem drop_step:((dropT m t).step rs).length=2^(dropT m t).w/\∀u∈(dropT m t).step rs,DropG m u:=by
 apply⟨by simp[dropT],λu C=>?_⟩;let(l,_,rfl):=y0e.mp C;show⟨ze9,λk M=>zw2 M⟩
def zqx:Sp:=λvs H Q _=>∃(l t:Nat),vs=[nV l,nV t]/\l<16/\t<=4/\∀p H',New H p (.tup [nV<|put0 l t,nV<|put0 l t+2^t]) H'->Q 09 H'
def zf2:Sp:=λvs H Q _=>∃(a b c:Ad) (m:Mc) (rs ls:List Nat),vs=[.ref a,.ref b,.ref c]/\RepM H a m/\m.Ok/\H b=G (.tup<|rs.map nV)/\H c=G (.tup<|ls.map nV)/\(∀r∈rs,r<m.n)/\(∀l∈ls,l<2^m.w)/\rs.length<=12/\ls.length<=2/\
 ∀p (Y:List Nat) H',Same H H'->H' p=G (.tup<|Y.map nV)->Y.Pairwise (· < ·)->(∀k,k∈Y↔∃r∈rs,∃l∈ls,m.go r l=k)->Q 09 H'
section
variable {S:Type}[DecidableEq S]
theorem simG{m:Mc}{step:S->Nat->S}{fin:S->Bool}{rel:List (Nat×S)}(hs:∀p∈rel,∀l,l<2^m.w->(m.go p.1 l,step p.2 l)∈rel)(T:∀p∈rel,m.fin p.1=fin p.2):∀(row:List Nat) (r:Nat) (s:S),(r,s)∈rel->m.Row row->m.fin (m.run r row)=fin (row.foldl step s)
 |[],r,s,h,_=>T _ h
 |l::row,r,s,h,D=>by
  rw[Mc.run_cons,y0z];show simG hs T row _ _ (hs _ h l<|D l y0a) λx O=>D x<|y07 _ O
def bfs(step:S->Nat->S)(m:Mc):Nat->List (Nat×S)->List (Nat×S)->List (Nat×S)
 |0,_,done=>done
 |_+1,[],done=>done
 |n+1,p::t,done=>if p∈done then bfs step m n t done else bfs step m n ((List.range<|2^m.w).map (λl=>(m.go p.1 l,step p.2 l))++t) (p::done)
def relS(m:Mc)(step:S->Nat->S)(g:S):List (Nat×S):=bfs step m 1000 [(0,g)] []
def chkS(m:Mc)(step:S->Nat->S)(fin:S->Bool)(g:S):Bool :=
 let rel:=relS m step g;decide ((0,g)∈rel)&&rel.all λp=>((List.range<|2^m.w).all λl=>decide ((m.go p.1 l,step p.2 l)∈rel))&&(m.fin p.1==fin p.2)
theorem ztz{m:Mc}{step:S->Nat->S}{fin:S->Bool}{g:S}(h:chkS m step fin g=N):(0,g)∈relS m step g/\(∀p∈relS m step g,∀l,l<2^m.w->(m.go p.1 l,step p.2 l)∈relS m step g)/\∀p∈relS m step g,m.fin p.1=fin p.2:=by
 unfold chkS at h;simp only[y08,decide_eq_true_eq,y0u,y0s,beq_iff_eq]at h;show⟨h.1,λp E l Y=>(h.2 p E).1 l Y,λp E=>(h.2 p E).2⟩
theorem zch{m:Mc}{step:S->Nat->S}{fin:S->Bool}{g:S}(h:chkS m step fin g=N)(row:List Nat)(D:m.Row row):m.fin (m.run 0 row)=fin (row.foldl step g):=by
 let(w,hs,T):=ztz h;show simG hs T row 0 g w D
end
def okMB(m:Mc):Bool:=decide (m.w<=4)&&decide (0<m.ends.length)&&decide (m.ends.length<=100)&&decide (m.ways.length=m.ends.length)&&m.ways.all λl=>decide (l.length=2^m.w)&&l.all λr=>decide (r<m.ends.length)
theorem zsc(h:okMB m=N):m.Ok:=by
 unfold okMB at h;simp only[y08,decide_eq_true_eq,y0u]at h;let((((a,b),c),d),e):=h;show⟨a,b,c,d,λl Y=>(e l Y).1,λl Y r D=>(e l Y).2 r D⟩
def cstep(ps:List Nat)(d:List Nat)(c:Nat):List Nat:=List.zipWith (λk a=>min 2<|a+if c/2^k%2==1 then 1 else 0) ps d
theorem zia(f:Nat->Nat->Nat)(g:Nat->Nat):∀ps:List Nat,List.zipWith f ps (ps.map g)=ps.map λk=>f k (g k)
 |[]=>rfl
 |p::ps=>by rw[y0m,List.zipWith_cons_cons,zia f g ps];rfl
theorem cfold(ps:List Nat):∀(row pre:List Nat),row.foldl (cstep ps) (ps.map λk=>min 2<|fcnt pre k)=ps.map λk=>min 2 (fcnt (pre++row) k)
 |[],pre=>by rw[y1t];rfl
 |c::row,pre=>by
  rw[y0z,show pre++c::row=(pre++[c])++row by simp,←cfold ps row (pre++[c])];congr 1;unfold cstep;rw[zia];apply y1x λk _=>?_;rw[ztb];generalize fcnt pre k=a;split<;>omega
def c0(ps:List Nat):List Nat:=ps.map λ_=>0
def cfin(d:List Nat):Bool:=d.all λa=>a==1
theorem zgk{A Bq:Type}(f:A->Nat->A)(g:Bq->Nat->Bq):∀(row:List Nat) (a:A) (b:Bq),row.foldl (λ(p:A×Bq) l=>(f p.1 l,g p.2 l)) (a,b)=(row.foldl f a,row.foldl g b)
 |[],_,_=>rfl
 |l::row,a,b=>by rw[y0z,zgk f g row];rfl
def chkMet(a b m:Mc):Bool:=chkS m (λ(p:Nat×Nat) l=>(a.go p.1 l,b.go p.2 l)) (λp=>a.fin p.1&&b.fin p.2) (0,0)
theorem zt0(h:chkMet a b m=N)(row:List Nat)(D:m.Row row):m.fin (m.run 0 row)=(a.fin (a.run 0 row)&&b.fin (b.run 0 row)):=by
 rw[zch h row D,zgk];rfl
def dstep(a:Mc)(t:Nat)(s:List Nat)(l:Nat):List Nat:=((dropT a t).step s).getD l []
def chkDrop(a:Mc)(t:Nat)(m:Mc):Bool:=chkS m (dstep a t) (dropT a t).fin [0]&&decide ((relS m (dstep a t) [0]).length<=100)&&decide (m.w=a.w-1)
structure DropR(a:Mc)(t:Nat)(Rq:List<|List Nat):Prop where
 hd:[0]∈Rq
 clo:∀s∈Rq,∀u∈(dropT a t).step s,u∈Rq
 few:Rq.length<=100
theorem zh6(h:chkDrop a t m=N):m.w=a.w-1/\(∃Rq,DropR a t Rq)/\∀row,m.Row row->m.fin (m.run 0 row)=(dropT a t).fin ((dropT a t).run [0] row):=by
 unfold chkDrop at h;simp only[y08,decide_eq_true_eq]at h;let((L,J),f):=h;let(c0,M,_):=ztz L;apply⟨f,⟨(relS m (dstep a t) [0]).map Prod.snd,y0e.mpr ⟨_,c0,R⟩,λs hs u C=>?_,by rw[y01];show J⟩,λrow D=>zch L row D⟩;let(p,E,rfl):=y0e.mp hs;let(l,Y,e):=y1l C;let y:l<2^m.w:=by rw[f];let:=(drop_step (m:=a) (t:=t) (rs:=p.2)).1;rw[this]at Y;show Y
 apply y0e.mpr ⟨_,M p E l y,?_⟩;change((dropT a t).step p.2).getD l []=u;rw[y02,y00 Y,e];rfl
structure Frm(tl:List Str):Prop where
 ok:FrOk tl
 four:∀z∈tl,z.length<=4
def mcost:Sy->Nat
 |.bare _ _ _=>1
 |.neg s=>mcost s+1
 |.two _ s t=>max (mcost s) (mcost t)+1
 |.qu w _ s=>if w="all" then mcost s+4 else mcost s+1
end SM
namespace L2
abbrev Key2:=Key ⊕ List Key
def rIskT(K:Frag):List V->Hp->VK->Prop:=λxs H Q=>∃x T k,xs=[x,.ty T]/\T∈["str","list","tuple","bool","int","dict"]/\(Kd H x k\/k="tuple"/\∃a ys,x=.ref a/\SqT K H a ys)/\Q (.bl<|subT k T) H
end L2
namespace SM
open PySem PySem.Spec PyProof.Rows L2 SS
structure LA where
 p:Ad
 dx:Ad
 pf:Ad
 pn:Ad
 ps:Ad
end SM
namespace L2
section
variable {X:Cx}{pins:Y2}{σ:St}{H:Hp}{s:ig}
open Classical in
theorem Inv.froze(I:02 H s)(r:∀x,X.fn x=N):∃Hq,Adopted X σ H Hq/\HOk X.prog X.w Hq s.heap/\(∀b u,H b=G u->Hq b=G u)/\(∀b,¬CellOf X b->Hq b=H b)/\∀b,CellOf X b->X.s₀.heap.objs.size<=b:=by
 letI Hq:Hp:=λb=>if CellOf X b then(s.heap.get? b).map λo=>.frz o (.own b)else H b
 let E:∀b,¬CellOf X b->Hq b=H b:=λb n=>Xp n;let M:∀x c,X.env.cells.lookup x=G c->∃o v,s.heap.get? c=G o/\o.data=.cell v/\Hq c=G 012:=λx c e=>by
  let(v,o,D,hd):=I.cell x c e;show⟨o,v,D,hd,by change(if CellOf X c then _ else _)=_;rw[Xq ⟨x,e⟩,D];rfl⟩
 let d:∀b u,H b=G u->¬CellOf X b:=λb u e ⟨x,z⟩=>by rw[I.freeC x b z]at e;cases e
 let ad:Adopted X σ H Hq:=⟨E,λb ⟨x,z⟩=>I.freeC x b z,I.ok.inj,λx c e=>by
  let(o,v,D,hd,A):=M x c e;apply⟨o,v,A,hd,λi y g U j=>?_⟩;let(m,J,Y):=I.loc;let(u,w,l):=Y i x y g U (by rcases j with z|z;show .inr<|.inl z;show .inr<|.inr z);rcases l with⟨z,_⟩|⟨_,c',L,Q,f,p⟩
  .rcases j with a|a<;>(rw[z]at a;cases a)
  .rw[e]at L;cases L;rw[D]at f;cases f;rw[hd]at p;cases p;show⟨u,w,R⟩⟩
 let T:∀b,CellOf X b->X.s₀.heap.objs.size<=b:=λb ⟨x,e⟩=>I.ok.cab x b (r x) e;let up:∀b u,H b=G u->Hq b=G u:=λb u e=>by rw[E b<|d b u e];show e
 apply⟨Hq,ad,λb u e=>?_,up,E,T⟩;by_cases C:CellOf X b
 .let(x,ex):=C;let(o,v,D,hd,A):=M x b ex;rw[A]at e;cases e;show⟨D,o,D⟩
 .rw[E b C]at e;show(I.hok b u e).stay (λ_ _ _ z=>z) (λc z=>up c _ z) (λc _ _ _ _ z=>up c _ z) λc xs z=>up c _ z
end
section
variable {P:ik}{w:World}{K:Frag}{mg:Y1}{base:Heap}
theorem DfnC.calR{x:Str}{st d1:Stmt}{Nq ps:List Str}{k j:Nat}{sp:Sp}{c Pt:Ad}{y:Str}{py pr:Pos}(d:DfnC K mg x st ps c Pt)(S:FnScope Nq ps 66)(len:∀vs H Q E,sp vs H Q E->vs.length=ps.length)
  (U:defBody st=[d1,.Return (G<|.Name y py) pr]) (hj:Nq[j]?=G y) (hv:Vis 66 y) (hdb:(y==("__debug__":Str))=Fa) (hcd:(y==("__classdict__":Str))=Fa)
  (i:∀(f:Ad) (A:io) (outer:List Env) (s:ig) (H:Hp) (vs:List V) (Q:VK) (E:XK),Room k (A.deeper<|jd x 66 s.heap.objs.size f (.ref c))->sp vs H Q E->
   ∃t,PS 057 d1 t/\
    t {nx:=λσ H'=>∃v,σ[j]?=G (G v)/\∀Hq,Adopted 057 σ H' Hq->Q v Hq,rt:=λ_ _=>False} 026 H):03 (k+1) x ps sp:=by
 let(f,fd,F,b,m):=d.ex;let(oc,od,kV,doc,pm,an,ct,osl,rfl,lk,hcd'):=F.ex;apply⟨f,_,⟨len,λA outer s H args us vs Q E D e0 bn r a=>?_⟩,b,F.kp,m⟩;let Y:=len _ _ _ _ a;let KX:K.In s.heap:=e0.mod.kin.keeps λb o e=>(030).1;let c9:s.heap.NoLimit:=e0.mod.nolimit.keeps λb o e=>(030).1;let cc:∀y∈ps.zip us,(66).names.lookup y.1=G .local\/((66).names.lookup y.1=G .cell/\((iu 052 (66).names []).lookup y.1).isSome=N):=λ⟨n,v⟩ hy=>by
  rcases S.par n (y26 hy).1 with q|q
  .exact .inl q
  .exact .inr ⟨q,PySem.W.cellsFrom_some _ _ _<|.inl q⟩
 apply iW D.depth (KX _ _ lk) R S.co S.gen R (PySem.W.codeRec_of KX hcd')<|bn _ _ _ _ ?_;apply jk S.kind cc λenv L s1 x1=>?_;subst L;apply⟨c9.keeps x1.toInCall.keep,j9 ?_⟩;let(t,p,hq):=i f A outer s H vs Q E (D.deeper _) a;let I:Inv 057 [] 026 H s1:=zgg S D.hd e0 Y r x1;let key:wpAny 78 (A.deeper<|jd x 66 s.heap.objs.size f (.ref c)) (execs (defBody st)<|jd x 66 s.heap.objs.size f (.ref c))
   (λfl s'=>∃u,fl=.ret u/\CE outer P w H s Q u s') (057).xe s1:=by
  rw[U];apply iU<|thn (p [] s1 026 H _ I hq) λfl s2 hs=>?_;cases fl with
  |ret u=>let(_,_,_,_,_,q):=hs;show False.elim q
  |brk=>let(_,_,_,q):=hs;show False.elim q
  |cont=>let(_,_,_,q):=hs;show False.elim q
  |next =>
   let(M,H',J,v,l,q):=hs;apply iU<|wpAny_Return_some (thn (zhn (X:=cxOf CX0 P w K mg base Nq x 66 f (.ref c) A outer s H E) (pos:=py) hj hv hdb hcd [] s2 M H' (λz Hz=>z=v/\Hz=H') J<|zfv l ⟨R,R⟩) λu s3 ⟨z,Hz,J3,rz,g,e2⟩=>?_);subst g e2;let(Hq,ad,hok,up,nc,T):=J3.froze λ_=>rfl;let un:=J3.base;let old:∀b o,s.heap.get? b=G o->¬CellOf 057 b:=λb o e C=>Xa (y0p (y0c e)<|T b C)<|y1q _;show⟨u,R,z,Hq,J3.os,J3.bare,⟨un.keep,un.slot,λb o e n O=>by rw[nc b<|old b o e];show un.free b o e n O,un.there,λb xs e=>up _ _<|un.tups b xs e,λb o u e=>up _ _<|un.frzs b o u e,λb qs ps e=>up _ _<|un.tbls b qs ps e⟩,hok,rz,q Hq ad⟩
 apply iw key (λfl s' hs=>?_) λe s' hs=>hs;let(u,rfl,h):=hs;show h
end
section
variable {X:Cx}{c P:Ad}{qs:Y3}{name qual:Str}{params:iL}{scope:Scope}{pos:Pos}
theorem zvf(C:X.env.code=.ref c)(y:KCode X.K c P)(i:BltK X.base X.mg)(J:∀p∈scope.names,p.2=.free->X.env.kindOf p.1=G .cell\/X.env.kindOf p.1=G .free)(nd:docOf body=B)
  (A:(pos,qual)∈qs) (q:∀p∈qs,p.1.line=pos.line->p.1.col=pos.col->p.2=qual) (hd:params.defaults=[]) (L:params.kw_defaults=[]) (d:∀e,annTrees params B e=[]) (a:lw X.env name name=qual)
  (hN:X.Nq.Nodup) (g:X.Nq[j]?=G name) (O:Loc X.env.scope name) (x:X.fn name=N):PS X 070 072:=by
 intro pins s σ H D I h;let(T,h):=h;rw[exec_def];let l:defaultsOf params X.env=([],[]):=by rw[defaultsOf_eq,hd,L];rfl
 simp only[l,d,a];apply ia<|iS (ia<|im (ia<|ib (ia<|im (ib<|im (ia<|ib ?_)))));apply zmq I C y i J nd T A q λf H' s' U M=>ia<|iS (ia<|wpAny_bindName ?_);show zde U hN g O (v:=.ref f) R (λs2 w=>ib ⟨_,H',w,h f H' M⟩)<|.inl x
theorem zyo(qual:Str)(C:X.env.code=.ref c)(y:KCode X.K c P)(i:BltK X.base X.mg)(J:freeOk X.env scope=N)(A:oneOk qs pos qual=N)(hN:X.Nq.Nodup)(g:X.Nq[j]?=G name)(O:Loc X.env.scope name)(T:X.fn name=N)(nd:docOf body=B:=by rfl)
  (hd:params.defaults=[]:=by rfl) (M:params.kw_defaults=[]:=by rfl) (d:∀e,annTrees params B e=[]:=by intro e;rfl) (a:lw X.env name name=qual:=by rfl) :
  PS X 070 072:=zvf C y i (freeOk.of J) nd (oneOk.mem A) (oneOk.one A) hd M d a hN g O T
end
def FnNd(Nq:List Str):Prop:=Nq.Nodup
instance (Nq:List Str):Decidable (FnNd Nq):=inferInstanceAs<|Decidable Nq.Nodup
theorem FnNd.nd(h:FnNd Nq):Nq.Nodup:=h
structure CalF(P:ik)(w:World)(K:Frag)(mg:Y1)(base:Heap)(n:Nat)(f:Ad)(ps:List Str)(sp:Sp):Prop where
 ex:∃fd,FnOk P w K mg base CX0 n f fd ps sp/\Binds K fd ps []/\PySem.W.keepIn K 61=N
theorem Cal.fn{P:ik}{w:World}{K:Frag}{mg:Y1}{base:Heap}{n:Nat}{x:Str}{ps:List Str}{sp:Sp}(C:03 n x ps sp):∃f,CalF P w K mg base n f ps sp/\mg x=G 61:=by
 let(f,fd,F,b,k,m):=C.ex;show⟨f,⟨fd,F,b,k⟩,m⟩
def tCallG(f:Ad)(sp:Sp)(i:Nat)(t:TA):TE:=λσ H Q=>σ[i]?=G (G 61)/\t σ H λvs H1=>sp vs H1 Q E0
theorem zco{X:Cx}{x:Str}{i k n:Nat}{f:Ad}{ps:List Str}{sp:Sp}{p pos:Pos}{e:Expr}{es:List Expr}{t:TA}(C:CalF X.prog X.w X.K X.mg X.base n f ps sp)(D:Room k X.A)(v:n<=k)(d:PA X (e::es) t)(hN:X.Nq[i]?=G x:=by rfl)(hv:Vis X.env.scope x:=by first|show Or.inl rfl|show Or.inr (Or.inl R)|show Or.inr (Or.inr R))
  (hd:010=Fa:=by decide) (hcd:046=Fa:=by decide) (L:notStar e=N:=by rfl) (J:es.all notStar=N:=by rfl) :
  PE X 024 (tCallG f sp i t):=by
 intro pins s σ H Q I h;let(fd,F,b,M):=C.ex;let(hs,h):=h;infer_instance;let(g,U):=zq;subst g U;cases(show u=Va.ref f from r1);apply PySem.W.callWith_K (h₀:=X.base) I1.ok.mod.kin M (thn (d pos pins s1 σ _ _ I1 h) λus s2 zz=>ex5 zz λvs H2 w r q=>⟨w.kIn,?_⟩) (zap L)<|zbh J;show znr F (D.mono v) b .nil pass0 w r (by rw[y1t];show q)
def CloHE(P:ik)(w:World)(K:Frag)(mg:Y1)(base:Heap)(k:Nat)(H:Hp)(f:Ad)(n:Nat)(sp:Sp):Prop :=
 ∀(A:io) (outer:List Env) (s:ig) (H':Hp) (us:List Va) (vs:List V) (Q:VK) (E:XK),Room k A->Env0 P w K mg base A outer s H'->Frz H H'->Vals vs us->vs.length=n->sp vs H' Q E->
  jc 78 A (.call 61 019) (CR (CXE P w) outer P w H' s Q E) s
theorem CloHE.mono{P:ik}{w:World}{K:Frag}{mg:Y1}{base:Heap}{k:Nat}{H H1:Hp}{f:Ad}{n:Nat}{sp:Sp}(c:CloHE P w K mg base k H f n sp)(g:Frz H H1):CloHE P w K mg base k H1 f n sp :=
 λA outer s H' us vs Q E D I L=>c A outer s H' us vs Q E D I<|g.trans L
def EL(cl:Y4)(H:Hp)(E:XK):XK:=λc a H2=>022->E c a (mixL cl H H2)
noncomputable def cxLE(P:ik)(w:World)(K:Frag)(mg:Y1)(base:Heap)(Nq:List Str)(qual:Str)(scope:Scope)(cl:Y4)(f:Ad)(cd:Va)(A:io)(outer:List Env)(s:ig)(H:Hp)(E:XK):Cx :=
 (cxL P w K mg base Nq qual scope cl f cd A outer s H).wish λe s'=>wpAny 78 (A.deeper<|envL qual scope cl s.heap.objs.size f cd) (lz (envL qual scope cl s.heap.objs.size f cd) e) (λ_ d=>CXE P w outer (dropL cl H) s (EL cl H E) e d) (λj d=>CXE P w outer (dropL cl H) s (EL cl H E) j d) s'
section
variable {P:ik}{w:World}{K:Frag}{mg:Y1}{base:Heap}{A:io}{outer:List Env}{s:ig}{H:Hp}{own ps cap:List Str}{qual:Str}{scope:Scope}{cl:Y4}{f:Ad}{cd:Va}{vs cv:List V}{us:List Va}
theorem zku{s':ig}(I:Env0 P w K mg base A outer s H)(l:ClOk cl H)(un:Un (frs outer) [] (dropL cl H) H2 s.heap s'.heap)(hok:HOk P w H2 s'.heap):
  Un (frs outer) [] H (mixL cl H H2) s.heap s'.heap/\HOk P w (mixL cl H H2) s'.heap/\022/\∀x c,cl.lookup x=G c->∃o,H c=G 012/\s.heap.get? c=G o/\s'.heap.get? c=G o/\∃v,o.data=.cell v:=by
 classical
 let J:∀b,¬InCl cl b->dropL cl H b=H b:=λb n=>Xp n;let i:∀b,¬InCl cl b->mixL cl H H2 b=H2 b:=λb n=>Xp n;let r:∀b,H b=B->¬InCl cl b:=λb e ⟨x,z⟩=>by
  let(o,v,p,_):=l x b z;rw[p]at e;cases e
 let g:∀x c,cl.lookup x=G c->∃o,H c=G 012/\s.heap.get? c=G o/\s'.heap.get? c=G o/\H2 c=B/\∃v,o.data=.cell v:=λx c e=>by
  let(o,v,z,q):=l x c e;let D:=(I.hok c _ z).1;let Y:dropL cl H c=B:=Xq ⟨x,e⟩;let M:c∉frs outer:=λU=>by rw[I.frf c U]at z;cases z
  show⟨o,z,D,un.keep c o D Y M 06,un.free c o D Y 06,v,q⟩
 let L:∀b u,H2 b=G u->¬InCl cl b:=λb u e ⟨x,z⟩=>by
  let(_,_,_,_,p,_):=g x b z;rw[p]at e;cases e
 apply⟨⟨λb o e n T O=>un.keep b o e (by rw[J b<|r b n];show n) T O,λb o e n T O=>un.slot b o e (by rw[J b<|r b n];show n) T O,λb o e n O=>by rw[i b<|r b n];show un.free b o e (by rw[J b<|r b n];show n) O,un.there,λb xs e=>?_,λb o a e=>?_,λb qs ps e=>?_⟩,λb u e=>?_,λb ⟨x,z⟩=>(let⟨_,_,_,_,p,_⟩:=g x b z;p),λx c e=>let⟨o,a1,j,E,_,d⟩:=g x c e;⟨o,a1,j,E,d⟩⟩
 .let C:=zby l e λ_ _ y=>nomatch y;rw[i b C];show un.tups b xs (by rw[J b C];show e)
 .by_cases C:InCl cl b
  .change(if InCl cl b then H b else H2 b)=_;rw[Xq C];show e
  .rw[i b C];show un.frzs b o a (by rw[J b C];show e)
 .let C:=zby l e λ_ _ y=>nomatch y;rw[i b C];show un.tbls b qs ps (by rw[J b C];show e)
 .by_cases C:InCl cl b
  .let e':H b=G u:=by rw[←e];show(Xq C).symm
   let(x,z):=C;let(o,Q,_,p,_):=g x b z;rw[Q]at e';cases e';show⟨p,o,p⟩
  .rw[i b C]at e;show(hok b u e).stay (λ_ _ _ z=>z) (λc z=>by rw[i c<|L c _ z];show z) (λc _ _ _ _ z=>by rw[i c<|L c _ z];show z) λc xs z=>by rw[i c<|L c _ z];show z
theorem ztm(e0:Env0 P w K mg base A outer s H)(l:ClOk cl H)(h:CXE P w outer (dropL cl H) s (EL cl H E) e s'):CXE P w outer H s E e s':=by
 classical
 let(a,cls,H2,rfl,os,bare,un,hok,(v,vs,T,j,ts,y,D,Y,u,Q,c,U,C,I,g,L,J),d):=h;let(r,M,O,q):=zku e0 l un hok;let out:∀b,s.heap.get? b=B->¬InCl cl b:=λb e ⟨x,z⟩=>by
  let(o,_,p,_):=q x b z;rw[e]at p;cases p
 let i:∀b,¬InCl cl b->mixL cl H H2 b=H2 b:=λb n=>Xp n;show⟨a,cls,mixL cl H H2,R,os,bare,r,M,⟨v,vs,T,j,ts,y,D,Y,u,Q,c,U,C,I,g,(i a<|out a I).trans L,(i T<|out T g).trans J⟩,d O⟩
end
section
variable {P:ik}{w:World}{K:Frag}{mg:Y1}{base:Heap}{H:Hp}{own ps cap:List Str}{name qual:Str}{params:iL}{scope:Scope}{cl:Y4}{f c':Ad}{oc:Obj}{ct pm:Va}{cv:List V}{k:Nat}{sp:Sp}
theorem zqa(S:CloScope own ps cap scope)(au:ps.length<=own.length)(T:H f=G (fnO 054 f))(C:H c'=G (.frz oc<|.own c'))(co:CodeObj oc qual)
  (l:ClOk cl H) (ae:∀p∈scope.names,p.2=.free->∃c,cl.lookup p.1=G c) (inj:∀x y c,cl.lookup x=G c->cl.lookup y=G c->x=y) (a9:Caps H cl cap cv)
  (j:∀us:List Va,us.length=ps.length->je 054 019=pure 018)
  (i:∀(A:io) (outer:List Env) (s:ig) (H':Hp) (vs:List V) (Q:VK) (E:XK),Room k 055->Env0 P w K mg base A outer s H'->Frz H H'->ClOk cl H'->vs.length=ps.length->sp vs H' Q E->Rs (cxLE P w K mg base (own++cap) qual scope cl f (.ref c') A outer s H' E) (EL cl H' E)->
   ∃t,PSs (cxLE P w K mg base (own++cap) qual scope cl f (.ref c') A outer s H' E) body t/\t {nx:=λ_ H2=>022->Q .non 029,rt:=λv H2=>022->Q v 029} (stL own vs cv) (dropL cl H')):CloHE P w K mg base (k+1) H f ps.length sp:=by
 intro A outer s H' us vs Q E D e0 L r Y a;let KX:K.In s.heap:=e0.mod.kin.keeps λb o e=>(030).1;let c9:s.heap.NoLimit:=e0.mod.nolimit.keeps λb o e=>(030).1;let ho:=(e0.hok f _<|L _ _ _ T).1;let cu:=(e0.hok c' _<|L _ _ _ C).1;let(ws,t',cd1,cd2):=co;let k9:us.length=ps.length:=by rw[←r.length];show Y
 let g:ClOk cl H':=λx c e=>let⟨o,v,z,d⟩:=l x c e;⟨o,v,L _ _ _ z,d⟩;apply iW D.depth ho R S.co S.gen R ⟨c',oc,ws,t',R,cu,cd1,cd2⟩ ?_;rw[j us k9];apply ib<|newEnvL S (λy U=>S.par y.1 (y26<|show(y.1,y.2)∈ps.zip us from U).1) λs1 x=>?_;apply⟨c9.keeps x.toInCall.keep,j9 ?_⟩;let(t,ht,hq):=i A outer s H' vs Q E (D.deeper _) e0 L g Y a ⟨R,R,R,λ_ _ h=>h⟩;let I:=zi2 (qual:=qual) (f:=f) (cd:=.ref c') S.m D.hd e0 Y au r g ae inj (a9.frz L) x;rw[ztn S.nocell]at I;apply iw (ht [] _ _ _ _ (I.wish _) hq) (λO s' hs=>?_) λe s' hs=>iw hs (λ_ s'' z=>ztm e0 g z) λe' s'' z=>ztm e0 g z;let hs:=SP.unwish hs;cases O with
 |ret u =>
  let(v,M,H2,J,rv,q):=hs;show zel e0 g (by rw[ztn S.nocell];show J) rv q
 |next =>
  let(M,H2,J,q):=hs;show zel (v:=V.non) (u:=Va.none) e0 g (by rw[ztn S.nocell];show J) R q
 |brk =>
  let(_,_,_,q):=hs;show False.elim q
 |cont =>
  let(_,_,_,q):=hs;show False.elim q
end
section
variable {X:Cx}{H H1 H1' Hq:Hp}{σ:St}{name qual:Str}{params:iL}{scope:Scope}{f:Ad}{own ps cap:List Str}{cv:List V}{k:Nat}{sp:Sp}
theorem Made.clo_sE(M:Made X H H1 name qual params (.stmts body) scope f)(g:Same H1 H1')(ad:Adopted X σ H1' Hq)(S:CloScope own ps cap scope)(U:ps.length<=own.length)(d:CapAt X σ cap cv)
  (j:∀(cl:Y4) (ct cd r:Va) (us:List Va),us.length=ps.length->je (cloFd name qual params (.stmts body) scope cl ct cd r) 019=pure 018)
  (i:∀(cl:Y4) (c':Ad) (A:io) (outer:List Env) (s:ig) (H':Hp) (vs:List V) (Q:VK) (E:XK),Room k 055->Env0 X.prog X.w X.K X.mg X.base A outer s H'->ClOk cl H'->Frz Hq H'->Frz H1' (dropL cl H')->vs.length=ps.length->sp vs H' Q E->Rs (cxLE X.prog X.w X.K X.mg X.base (own++cap) qual scope cl f (.ref c') A outer s H' E) (EL cl H' E)->
   ∃t,PSs (cxLE X.prog X.w X.K X.mg X.base (own++cap) qual scope cl f (.ref c') A outer s H' E) body t/\t {nx:=λ_ H2=>022->Q .non 029,rt:=λv H2=>022->Q v 029} (stL own vs cv) (dropL cl H')):CloHE X.prog X.w X.K X.mg X.base (k+1) Hq f ps.length sp:=by
 let(cl,ct,c',oc,r,l1,l2,w,q,u):=M.ex;let l:ClOk cl Hq:=λx c e=>let⟨o,v,T,p,_⟩:=ad.2.2.2 x c<|l1 x c e;⟨o,v,T,p⟩;let up:=ad.up;apply zqa S U (up _ _<|g _ _ u) (up _ _<|g _ _ w) q l l2 (λx y c J C=>ad.2.2.1 x y c (l1 x c J)<|l1 y c C) (zgp ad l1 (λx O=>l2 (x,.free) (mem_of_lookup'<|S.cap x O) R) d) (j cl ct _ r) λA outer s H' vs Q E D I L z Y a Rq=>?_;show i cl c' A outer s H' vs Q E D I z L (zfq ad l1 L) Y a Rq
end
section
variable {X:Cx}
def tCallVE(P:ik)(w:World)(K:Frag)(mg:Y1)(base:Heap)(k n:Nat)(sp:Sp)(E:XK)(i:Nat)(t:TA):TE:=λσ H Q=>∃f fd,σ[i]?=G (G 61)/\H f=G (fnO fd f)/\
 t σ H λvs H1=>H1 f=G (fnO fd f)/\CloHE P w K mg base k H1 f n sp/\vs.length=n/\sp vs H1 Q E
theorem zwr{pins:Y2}{σ:St}{f:Ad}{fd:i6}{H2:Hp}{s2:ig}(w:02 H2 s2)(j:H2 f=G (fnO fd f)):PySem.W.Frag.In [059] s2.heap:=λa o e=>by
 simp only[List.lookup]at e;split at e
 .rename_i q;cases e;rw[beq_iff_eq.mp q];show(w.hok f _ j).1
 .cases e
theorem zrs{x:Str}{i k n:Nat}{sp:Sp}{E:XK}{p pos:Pos}{e:Expr}{es:List Expr}{t:TA}(Rq:Rs X E)(hN:X.Nq[i]?=G x)(hv:Vis X.env.scope x)(D:Room k X.A)(d:PA X (e::es) t)
  (hd:010=Fa:=by decide) (hcd:046=Fa:=by decide) (L:notStar e=N:=by rfl) (J:es.all notStar=N:=by rfl) :
  PE X 024 (tCallVE X.prog X.w X.K X.mg X.base k n sp E i t):=by
 intro pins s σ H Q I h;let(f,fd,hs,T,h):=h;infer_instance;let(g,C):=zq;subst g C;cases(show u=Va.ref f from r1);apply PySem.W.callWith_K (K:=[059]) (h₀:=s1.heap) (zwr I1 T) (zi0 f fd) (thn (d pos pins s1 σ H1 _ I1 h) λus s2 ⟨vs,H2,w,r,j,c,Y,q⟩=>⟨zwr w j,?_⟩) (zap L)<|zbh J;apply ji<|iI (c X.A X.stack s2 H2 us vs Q E D w.env0 (Frz.refl _) r Y q) λr s' A=>?_;cases r with
 |error e=>show Rq.xe e s'<|zhz w Rq.ex Rq.st Rq.fr A λ_ _ _ z=>z
 |ok O =>
  cases O with
  |ret u=>show w.after A
  |next=>show False.elim A
  |brk=>show False.elim A
  |cont=>show False.elim A
end
section
variable {P:ik}{w:World}{cl:Y4}
theorem zh3{st:List Env}{H1 H2 Hq:Hp}{h h':Heap}(E:∀b,¬InCl cl b->Hq b=H1 b)(q0:∀b,InCl cl b->H1 b=B)(M:∀x c,cl.lookup x=G c->∃o v,h.get? c=G o/\o.data=.cell v/\Hq c=G 012)(d:∀b∈frs st,¬InCl cl b)
  (un:Un (frs st) [] Hq H2 h h') (g:HOk P w H2 h'):Un (frs st) [] H1 (dropL cl H2) h h'/\HOk P w (dropL cl H2) h':=by
 classical
 let j:∀x c,cl.lookup x=G c->∃o v,h.get? c=G o/\o.data=.cell v/\H2 c=G 012/\h'.get? c=G o:=λx c e=>by
  let(o,v,D,hd,A):=M x c e;let z:=un.frzs c o _ A;show⟨o,v,D,hd,z,(g c _ z).1⟩
 let J:∀b,¬InCl cl b->dropL cl H2 b=H2 b:=λb n=>Xp n;let I:∀b u,H1 b=G u->¬InCl cl b:=λb u e C=>by rw[q0 b C]at e;cases e
 let up:∀b u,H1 b=G u->Hq b=G u:=λb u e=>by rw[E b<|I b u e];show e
 let i:∀b o u q,CodeObj o q->H2 b=G (.frz o u)->¬InCl cl b:=λb o u q ⟨vs,t,hv,_⟩ e ⟨x,z⟩=>by
  let(Q,v,f,hd,p,_):=j x b z;rw[p]at e;cases e;rw[hv]at hd;cases hd
 let L:∀b u,H2 b=G u->(∀o a,u ≠ .frz o a)->¬InCl cl b:=λb u e n ⟨x,z⟩=>by
  let(o,_,_,_,p,_):=j x b z;rw[p]at e;cases e;show n _ _ R
 apply⟨⟨λb o e n T O=>?_,λb o e n T O=>?_,λb o e n O=>?_,λb o e O=>?_,λb xs e=>?_,λb o a e=>?_,λb qs ps e=>?_⟩,λb u e=>?_⟩
 .by_cases C:InCl cl b
  .let(x,ex):=C;let(Q,_,f,_,_,z):=j x b ex;rw[e]at f;cases f;show z
  .exact un.keep b o e (by rw[E b C];show n) T O
 .exact un.slot b o e (by rw[E b<|d b T];show n) T O
 .by_cases C:InCl cl b
  .exact Xq C
  .rw[J b C];show un.free b o e (by rw[E b C];show n) O
 .exact un.there b o e O
 .rw[J b<|I b _ e];show un.tups b xs<|up b _ e
 .rw[J b<|I b _ e];show un.frzs b o a<|up b _ e
 .rw[J b<|I b _ e];show un.tbls b qs ps<|up b _ e
 .let C:¬InCl cl b:=λC=>by
   let:dropL cl H2 b=B:=Xq C;rw[this]at e;cases e
  rw[J b C]at e;show(g b u e).stay (λ_ _ _ z=>z) (λc z=>by rw[J c<|L c _ z λ_ _ y=>nomatch y];show z) (λc o a q co z=>by rw[J c<|i c o a q co z];show z) λc xs z=>by rw[J c<|L c _ z λ_ _ y=>nomatch y];show z
theorem mix_frz(g:Frz (dropL cl H) H1):Frz H (mixL cl H H1):=λb o u e=>by
 classical
 change(if InCl cl b then H b else H1 b)=_;by_cases C:InCl cl b
 .rw[Xq C];show e
 .rw[Xp C];show g b o u (by change(if InCl cl b then B else H b)=_;rw[Xp C];show e)
theorem ztd(q0:∀b,InCl cl b->H1 b=B)(g:Same (mixL cl H H1) H2):Same H1 (dropL cl H2):=λb u e=>by
 classical
 let C:¬InCl cl b:=λC=>by rw[q0 b C]at e;cases e
 change(if InCl cl b then B else H2 b)=G u;rw[Xp C];show g b u (by change(if InCl cl b then H b else H1 b)=G u;rw[Xp C];show e)
end
def tCallVLE(P:ik)(w:World)(K:Frag)(mg:Y1)(base:Heap)(cl:Y4)(M:Hp)(k n:Nat)(sp:Sp)(E:XK)(i:Nat)(t:TA):TE:=λσ H Q=>∃f fd,σ[i]?=G (G 61)/\H f=G (fnO fd f)/\
 t σ H λvs H1=>(∀b,InCl cl b->H1 b=B)->H1 f=G (fnO fd f)/\CloHE P w K mg base k (mixL cl M H1) f n sp/\vs.length=n/\sp vs (mixL cl M H1) (λv H2=>Q v<|dropL cl H2) λc a H2=>EL cl M E c a<|dropL cl H2
theorem zbx{P:ik}{w:World}{K:Frag}{mg:Y1}{base:Heap}{Nq:List Str}{qual:Str}{scope:Scope}{cl:Y4}{f0:Ad}{cd:Va}{A:io}{outer:List Env}{s0:ig}{H0:Hp}{E:XK}
  {x:Str} {i k n:Nat} {sp:Sp} {p pos:Pos} {e:Expr} {es:List Expr} {t:TA} (e0:Env0 P w K mg base A outer s0 H0) (l:ClOk cl H0) (Rq:Rs 056<|EL cl H0 E) (hN:Nq[i]?=G x) (hv:Vis scope x)
  (D:Room k (056).A) (d:PA 056 (e::es) t)
  (hd:010=Fa:=by decide) (hcd:046=Fa:=by decide) (L:notStar e=N:=by rfl) (J:es.all notStar=N:=by rfl) :
  PE 056 024 (tCallVLE P w K mg base cl H0 k n sp E i t):=by
 classical
 intro pins s σ H Q I h;let(f,fd,hs,hf,h):=h;infer_instance;let(g,e2):=zq;subst g e2;cases(show u=Va.ref f from r1);apply PySem.W.callWith_K (K:=[059]) (h₀:=s1.heap) (zwr I1 hf) (zi0 f fd) (thn (d pos pins s1 σ H1 _ I1 h) λus s2 zz=>ex5 zz λvs H2 I2 r q=>?_) (zap L)<|zbh J;let un2:Un (frs outer) [] (dropL cl H0) H2 s0.heap s2.heap:=I2.base;let(p1,M,p3,p4):=zku e0 l un2 I2.hok;let(hf2,c,Y,q):=q p3;apply⟨zwr I2 hf2,?_⟩;let m1:∀b,¬InCl cl b->mixL cl H0 H2 b=H2 b:=λb n=>Xp n;let mz:∀b,InCl cl b->mixL cl H0 H2 b=H0 b:=λb n=>Xq n;let ie:=I2.env0;let db:∀b∈frs (cxLE P w K mg base Nq qual scope cl f0 cd A outer s0 H0 E).stack,¬InCl cl b:=λb U ⟨x,z⟩=>by
  let(o,a1,j,_):=p4 x b z;rcases y09.mp (I2.stkSub b U)with w'|w'
  .let a6:b<s0.heap.objs.size:=y0c j;rw[w']at a6;show y1q _<|show s0.heap.objs.size<s0.heap.objs.size from a6
  .rw[e0.frf b w']at a1;cases a1
 let e0q:Env0 P w K mg base (056).A (056).stack s2 (mixL cl H0 H2):=⟨ie.frames,ie.mod,λb o e=>⟨(ie.bs b o e).1,by
  by_cases C:InCl cl b
  .rw[mz b C];show(030).2
  .rw[m1 b C];show(ie.bs b o e).2⟩,ie.bsz,ie.funs,λb U=>by rw[m1 b<|db b U];show ie.frf b U,M,ie.bare⟩
 let c1:∀x c,cl.lookup x=G c->∃o v,s2.heap.get? c=G o/\o.data=.cell v/\mixL cl H0 H2 c=G 012:=λx c e=>by
  let(o,a1,j,a3,v,a4):=p4 x c e;show⟨o,v,a3,a4,by rw[mz c ⟨x,e⟩];show a1⟩
 apply ji<|iI (c _ _ s2 (mixL cl H0 H2) us vs _ _ D e0q (Frz.refl _) r Y q) λr s' hq=>?_;cases r with
 |error e =>
  let(a,cls,H3,rfl,os,bare,un,kg,(oe,vs',T,oT,ts,y,t2,t3,t4,t5,t6,t7,t8,n1,n2,g1,g2),ee):=hq;let(d1,d2):=zh3 m1 p3 c1 db un kg;let dn:∀b,H3 b=B->dropL cl H3 b=B:=λb e=>by
   by_cases C:InCl cl b
   .exact Xq C
   .exact(Xp C).trans e
  show Rq.xe _ s'<|zhz (E':=EL cl H0 E) I2 Rq.ex Rq.st Rq.fr ⟨a,cls,dropL cl H3,R,os,bare,d1,d2,⟨oe,vs',T,oT,ts,y,t2,t3,t4,t5,t6,t7,t8,n1,n2,dn _ g1,dn _ g2⟩,ee⟩ λ_ _ _ z=>z
 |ok O =>
  cases O with
  |ret u =>
   let(v,H3,os,bare,un,kg,rv,qq):=hq;let(d1,d2):=zh3 m1 p3 c1 db un kg;show I2.after ⟨v,dropL cl H3,os,bare,d1,d2,rv,qq⟩
  |next=>show False.elim hq
  |brk=>show False.elim hq
  |cont=>show False.elim hq
def rSortF(P:ik)(w:World):List V->Hp->VK->Prop:=λxs H Q=>∃(p:Ad) (ns F:List Int),xs=[.ref p]/\H p=G (setI P w p ns)/\F.length<64/\(∀k∈ns,k∈F)/\∀(Y:List Int),Y.Pairwise (· < ·)->(∀k,k∈Y↔k∈ns)->∀L H',New H L (.lst<|Y.map V.int) H'->Q (.ref L) H'
open PyProof.Rows.LSm
end L2
namespace SM
open PySem PySem.Spec PyProof.Rows L2 SS
def bareS:Sy:=.bare "in" "x" "X"
def g3:Sy:=.qu "some" "y"<|.qu "some" "z" bareS
theorem Rep.ts(r:Rep H v s)(g:TupS H H'):Rep H' v s:=by
 induction r with
 |bare j e=>show .bare j<|g _ _ e
 |neg e _ Q=>show .neg (g _ _ e) Q
 |two j e _ _ p y=>show .two j (g _ _ e) p y
 |qu j e _ Q=>show .qu j (g _ _ e) Q
theorem ClOk.same{cl:Y4}{H H':Hp}(h:ClOk cl H)(g:Same H H'):ClOk cl H':=λx c e=>let⟨o,v,z,d⟩:=h x c e;⟨o,v,g _ _ z,d⟩
def znn(K:Frag)(e:Ad)(c:Y3)(U:Ad)(d:Y3)(u:Ad)(f:Y3):Sp:=λvs H Q _=>∃(v:V) (b:Ad) (tl:List Str) (wd n m:Str),vs=[v,.ref b]/\TabOk H e c/\TabOk H U d/\TabOk H u f/\Rep H v (.bare wd n m)/\H b=G (.lst<|tl.map V.str)/\Frm tl/\n∈tl/\m∈tl/\wd∈SM.rowWords/\
 ∀p M H',Same H H'->RepM H' p M->BareM tl wd (tl.idxOf n) (tl.idxOf m) M->Q 09 H'
def znm(e:Ad)(c:Y3)(y:Ad)(qd:Y3):Sp:=λvs H Q _=>∃(a:Ad) (m:Mc) (t:Nat),vs=[.ref a,nV t]/\TabOk H e c/\TabOk H y qd/\RepM H a m/\m.Ok/\m.n<=12/\t<m.w/\(∃Rq,DropR m t Rq)/\ExQ (dropT m t) [0] H Q
end SM
namespace SS
open PySem PySem.Spec PyProof.Rows L2
noncomputable abbrev ch(s:Str):List Nat:=s.cps.toList
theorem zxx(a b:Str):ch (a++b)=ch a++ch b:=by
 change(a++b).cps.toList=_;rw[Str.cps_append,Array.toList_append]
def cutAt(c:Nat):List Nat->List (List Nat)
 |[]=>[[]]
 |x::l=>if x=c then[]::cutAt c l else match cutAt c l with
  |p::r=>(x::p)::r
  |[]=>[[x]]
theorem zom(c:Nat):∀l,cutAt c l≠[]
 |[]=>by simp[cutAt]
 |x::l=>by
  unfold cutAt;split
  .simp
  .split<;>simp
theorem zcg(h:¬x=c):∃p r,cutAt c l=p::r/\cutAt c (x::l)=(x::p)::r:=by
 cases e:cutAt c l with
 |nil=>show Xa e<|zom c l
 |cons p r=>show⟨p,r,R,by rw[cutAt,Xp h,e]⟩
def joinAt(z:List Nat):List (List Nat)->List Nat
 |[]=>[]
 |[p]=>p
 |p::q::r=>p++z++joinAt z (q::r)
theorem zm0(z:Str):∀l:List Str,ch (Str.join z l)=joinAt (ch z) (l.map ch)
 |[]=>rfl
 |[p]=>rfl
 |p::q::r=>by
  let Q:=zm0 z (q::r);change ch (p++z++Str.join z (q::r))=ch p++ch z++joinAt (ch z) (ch q::r.map ch);rw[zxx,zxx,Q];rfl
theorem ztq(c:Nat):∀a b:List Nat,cutAt c (a++c::b)=cutAt c a++cutAt c b
 |[],b=>by simp[cutAt]
 |x::a,b=>by
  let Q:=ztq c a b;by_cases h:x=c
  .rw[y1u,cutAt,Xq h,Q,cutAt,Xq h,y1u]
  .let(p,r,g,C):=zcg (l:=a) h;let(f,r',w,d):=zcg (l:=a++c::b) h;rw[Q,g,y1u]at w;injection w with E i
   rw[y1u,d,C,←E,←i,y1u]
theorem zi9:∀{a:List Nat},c∉a->cutAt c a=[a]
 |[],_=>rfl
 |x::a,h=>by
  let L:¬x=c:=λe=>h<|e▸y0a;let(p,r,g,C):=zcg (l:=a) L;rw[zi9 λm=>h<|y07 _ m]at g;injection g with E i
  rw[C,←E,←i]
theorem zol(c:Nat):∀parts:List<|List Nat,parts≠[]->(∀p∈parts,c∉p)->cutAt c (joinAt [c] parts)=parts
 |[],h,_=>Xa R h
 |[p],_,h=>zi9<|h p (y0l.mpr R)
 |p::q::r,_,h=>by
  let Q:=zol c (q::r) 06 λa d=>h a<|y07 _ d;change cutAt c (p++[c]++joinAt [c] (q::r))=_;rw[y24,y4m,ztq,Q,zi9<|h p y0a];rfl
theorem zuu(x y:Str):Txt.split x y≠[]:=by
 unfold Txt.split;split
 .simp
 .split
  .simp
  .rw[StrLaws.partsBetween_eq];let(p,r,e):=StrLaws.partsFrom_ne x y.length 0<|Builtin.Str.occurrences x y 0 x.length (x.length+1);rw[e];simp
theorem zjx(x:Str)(c:Nat):(Txt.split x ⟨#[c]⟩).map ch=cutAt c (ch x):=by
 let h:=zm0 ⟨#[c]⟩<|Txt.split x ⟨#[c]⟩;rw[StrLaws.join_split]at h;rw[h];apply(zol c _ (λe=>zuu x ⟨#[c]⟩<|List.map_eq_nil_iff.mp e) λp E=>?_).symm;let(q,a,rfl):=y0e.mp E;show StrLaws.split_free x c q a
theorem split_len(x:Str)(c:Nat):(Txt.split x ⟨#[c]⟩).length=(cutAt c<|ch x).length:=by rw[←zjx,y01]
theorem ztp(c:Nat):∀l:List Nat,(cutAt c l).length<=l.length+1
 |[]=>by simp[cutAt]
 |x::l=>by
  let Q:=ztp c l;by_cases h:x=c
  .rw[cutAt,Xq h,y0i,y0i];omega
  .let(p,r,g,C):=zcg (l:=l) h;rw[g,y0i]at Q;rw[C,y0i,y0i];omega
def each(c:Nat)(z:List Nat)(l:List Nat):List Nat:=l.flatMap λk=>if k=c then z else[k]
theorem zn7(c:Nat)(z:List Nat):∀l,joinAt z (cutAt c l)=each c z l
 |[]=>rfl
 |x::l=>by
  let Q:=zn7 c z l;by_cases h:x=c
  .rw[cutAt,Xq h];cases e:cutAt c l with
   |nil=>show Xa e<|zom c l
   |cons p r =>
    change[]++z++joinAt z (p::r)=_;rw[←e,Q,y2i];unfold each;rw[y2m,Xq h]
  .let(p,r,g,C):=zcg (l:=l) h;rw[C];let j:joinAt z ((x::p)::r)=x::joinAt z (p::r):=by cases r<;>rfl
   rw[j,←g,Q];unfold each;rw[y2m,Xp h];rfl
theorem zcy(x z:Str)(c:Nat):ch (Txt.replace x ⟨#[c]⟩ z)=each c (ch z) (ch x):=by
 rw[StrLaws.replace_one,zm0,zjx,zn7]
def padOf(k:Nat):List Nat:=if k=40 then[32,40,32]else if k=41 then[32,41,32]else[k]
def padL(l:List Nat):List Nat:=l.flatMap padOf
theorem zvt(l:List Nat):each 41 [32,41,32] (each 40 [32,40,32] l)=padL l:=by
 unfold each padL;rw[List.flatMap_assoc];apply congrArg (λf=>List.flatMap f l)<|funext λk=>?_;unfold padOf;by_cases L:k=40
 .rw[Xq L,Xq L];rfl
 .rw[Xp L,Xp L];by_cases J:k=41
  .rw[Xq J];subst J;rfl
  .rw[Xp J];simp[J]
theorem zvu(l:List Nat):(padL l).length<=3*l.length:=by
 induction l with
 |nil=>simp[padL]
 |cons x l Q =>
  let:padL (x::l)=padOf x++padL l:=by unfold padL;rw[y2m]
  rw[this,y0d,y0i];let:(padOf x).length<=3:=by unfold padOf;split<;>(try split)<;>simp
  omega
theorem zwt(hz:z.length<=3)(l:List Nat):(each c z l).length<=3*l.length:=by
 induction l with
 |nil=>simp[each]
 |cons x l Q =>
  let:each c z (x::l)=(if x=c then z else[x])++each c z l:=by unfold each;rw[y2m]
  rw[this,y0d,y0i];let:(if x=c then z else[x]).length<=3:=by split<;>simp[*]
  omega
def wordsT(x:Str):List Str:=(Txt.split (Txt.replace (Txt.replace x "(" " ( ") ")" " ) ") " ").filter λp=>decide (p≠"")
theorem ch_lit1:ch ("(":Str)=[40]/\ch (" ( ":Str)=[32,40,32]/\ch (")":Str)=[41]/\ch (" ) ":Str)=[32,41,32]/\ch (" ":Str)=[32]:=by decide+kernel
theorem lit1:("(":Str)=⟨#[40]⟩/\(")":Str)=⟨#[41]⟩/\(" ":Str)=⟨#[32]⟩:=by decide+kernel
theorem zy6(x:Str):ch (Txt.replace (Txt.replace x "(" " ( ") ")" " ) ")=padL (ch x):=by
 let(_,L,_,J,_):=ch_lit1;rw[lit1.1,lit1.2.1,zcy,zcy,L,J,zvt]
def toksS:Sy->List Str
 |.bare w n m=>[n,w,m]
 |.neg s=>"not"::toksS s
 |.two w s t=>"("::(toksS s++w::(toksS t++[(")":Str)]))
 |.qu w n s=>w::n::toksS s
def wdB:Sy->Bool
 |.bare w _ _=>decide (w∈bareWords)
 |.neg s=>wdB s
 |.two w s t=>decide (w∈(["and","or"]:List Str))&&(wdB s&&wdB t)
 |.qu w _ s=>decide (w∈(["some","all"]:List Str))&&wdB s
structure Plain(z:Str):Prop where
 ne:ch z≠[]
 b:32∉ch z
 o:40∉ch z
 c:41∉ch z
 l:z.length<=6
theorem zn0{z l:Str}(Y:∀c∈ch l,c≠32/\c≠40/\c≠41)(h:isNm (.str z) l=N):Plain z:=by
 let T:∀c∈FIGS.cps.toList,c≠32/\c≠40/\c≠41:=by decide+kernel
 let(c,r,e,f,C,D):=nm_ex h;let all:∀d∈ch z,d≠32/\d≠40/\d≠41:=λd hd=>by
  rw[show ch z=c::r from e]at hd;rcases y09.mp hd with rfl|hd
  .exact Y _ C
  .exact T d<|D d hd
 show⟨by rw[show ch z=c::r from e];simp,λm=>(all _ m).1 R,λm=>(all _ m).2.1 R,λm=>(all _ m).2.2 R,by have:=zeb h;omega⟩
theorem ziq{z:Str}(h:isPl z=N):Plain z:=zn0 21 h
theorem zio{z:Str}(h:isSt z=N):Plain z:=zn0 21 h
theorem nm_no{z l:Str}(h:isNm (.str z) l=N):z≠"not"/\z≠"some"/\z≠"all":=by
 let(c,r,e,f,C,D):=nm_ex h;let O:∀y:Str,(match ch y with|_::d::_=>!(FIGS.cps.toList.contains d)|_=>Fa)=N->z≠y:=λy U a=>by
  subst a;rw[show ch z=c::r from e]at U;cases r with
  |nil=>cases U
  |cons d r' =>
   let:=D d y0a;simp only[List.contains_iff_mem.mpr this]at U;cases U
 show⟨O _ 21,O _ 21,O _ 21⟩
theorem zx2{w n m:Str}(h:wfB (.bare w n m)=N):(Plain n/\n≠"not"/\n≠"some"/\n≠"all")/\Plain m:=by
 let h':(if w=("in":Str)then isPl n&&isSt m else if w=("within":Str)then isSt n&&isSt m else isPl n&&isPl m)=N:=h;split at h'
 .rw[y08]at h';show⟨⟨ziq h'.1,nm_no h'.1⟩,zio h'.2⟩
 .split at h'
  .rw[y08]at h';show⟨⟨zio h'.1,nm_no h'.1⟩,zio h'.2⟩
  .rw[y08]at h';show⟨⟨ziq h'.1,nm_no h'.1⟩,ziq h'.2⟩
theorem zd7(z:Str):z.length=(ch z).length:=zlp z
theorem zd6:∀s:Sy,(toksS s).length<=4*s.parts
 |.bare w n m=>by change 3<=4;omega
 |.neg s=>by have:=zd6 s;have:=zk4 s;change(_::toksS s).length<=_;rw[y0i];omega
 |.two w s t=>by
  let:=zd6 s;let:=zd6 t;let:=zk3 w s t;change(_::(toksS s++w::(toksS t++[(")":Str)]))).length<=_;simp only[y0i,y0d,y1k];omega
 |.qu w n s=>by have:=zd6 s;have:=zi7 w n s;change(_::_::toksS s).length<=_;rw[y0i,y0i];omega
end SS
namespace L2
theorem upT{q:Type}{M:Model}{A:io}{t:Sem q}{Q:q->ig->Prop}{E:Y0}{s:ig}(p:1<=s.toks)(h:wpAny M A t Q E s):wpAny M A t (λa s'=>1<=s'.toks/\Q a s') E s :=
 iw (wpAny_toks_of p h) (λ_ _ z=>z) λ_ _ z=>z.2
def PET(X:Cx)(e:Expr)(t:TE):Prop:=∀(pins:Y2) (s:ig) (σ:St) (H:Hp) (Q:VK),1<=s.toks->02 H s->t σ H Q->wpAny 20 X.A (eval e X.env) 028 X.xe s
def PAT(X:Cx)(l:List Expr)(t:TA):Prop:=∀(pos:Pos) (pins:Y2) (s:ig) (σ:St) (H:Hp) (Q:List V->Hp->Prop),1<=s.toks->02 H s->t σ H Q->wpAny 20 X.A (spliced<|jh pos (iq l X.env)) (AP X pins σ Q) X.xe s
def PST(X:Cx)(st:Stmt)(t:TS):Prop:=∀(pins:Y2) (s:ig) (σ:St) (H:Hp) (D:Ends),1<=s.toks->02 H s->t D σ H->wpAny 20 X.A (exec st X.env) (SP X pins D) X.xe s
def PSsT(X:Cx)(st:List Stmt)(t:TS):Prop:=∀(pins:Y2) (s:ig) (σ:St) (H:Hp) (D:Ends),1<=s.toks->02 H s->t D σ H->wpAny 20 X.A (execs st X.env) (SP X pins D) X.xe s
section
variable {X:Cx}{a b e:Expr}{es rest:List Expr}{ta tb te:TE}{tA tB':TT}{tu:TA}{pos:Pos}
theorem PE.t(h:PE X e te):PET X e te:=λpins s σ H Q _ I j=>h pins s σ H Q I j
theorem PA.t(h:PA X es tu):PAT X es tu:=λq pins s σ H Q _ I j=>h q pins s σ H Q I j
theorem PS.t{st:Stmt}{t:TS}(h:PS X st t):PST X st t:=λpins s σ H D _ I j=>h pins s σ H D I j
theorem PSs.t{st:List Stmt}{t:TS}(h:PSs X st t):PSsT X st t:=λpins s σ H D _ I j=>h pins s σ H D I j
variable {st:Stmt}{sts:List Stmt}{t u:TS}
theorem zfm(L:PST X st t)(J:PSsT X sts u):PSsT X (st::sts) (tSeq t u):=λpins s σ H D p I j=>by
 apply iU<|thn (upT p<|L pins s σ H {D with nx:=u D} p I j) λO s' z=>?_;let(c,z):=z;cases O with
 |next=>let(M,H',U,C):=z;show J pins s' M H' D c U C
 |ret _=>show z
 |brk=>show z
 |cont=>show z
theorem zyr(L:PST X st t):PSsT X [st] t:=λpins s σ H D p I j=>by
 apply iU<|thn (L pins s σ H D p I j) λO s' z=>?_;cases O with
 |next=>show jp z
 |ret _=>show z
 |brk=>show z
 |cont=>show z
theorem zyq(L:PET X e te):PST X (.Return (G e) pos) (tRet te):=λpins s σ H D p I j =>
 wpAny_Return_some (thn (L pins s σ H _ p I j) λv s1 zz=>ex5 zz λx H1 I1 r1 E=>⟨x,σ,H1,I1,r1,E⟩)
theorem zrg{i:Nat}{x:Str}{f:Pos}(hN:X.Nq.Nodup)(hi:X.Nq[i]?=G x)(O:Loc X.env.scope x)(L:PET X e te)(hs:jS e (G<|.Name x f) pos.line X.env=pure Fa:=by rfl)
  (T:X.fn x=N\/X.env.scope.names.lookup x=G .local:=by first|show .inl rfl|show .inr rfl|assumption):PST X (.Assign [.Name x f] e pos) (tAsg te<|gName i):=λpins s σ H D p I j =>
 wpAny_Assign_Name (thn (L pins s σ H _ p I j) λv s1 zz=>ex5 zz λy H1 I1 r1 E=>zde I1 hN hi O r1 (λs2 w=>⟨_,H1,w,E⟩) T) hs
theorem zvv(d:PET X e te)(D:PAT X es tu)(h:notStar e=N:=by rfl):PAT X (e::es) (tCons te tu):=λq pins s σ H Q p I j=>by
 rw[zap h];change wpAny _ _ (spliced (036::jh q (iq es X.env))) _ _ s;apply Calls.spliced_cons<|thn (upT p<|d pins s σ H _ p I j) λv s1 ⟨T,x,H1,I1,r1,E⟩=>?_;show thn (D q pins s1 σ H1 _ T I1 E) λus s2 zz=>ex5 zz λxs H2 w l i=>⟨x::xs,H2,w,.cons r1 l,i⟩
end
def PEU(X:Cx)(e:Expr)(t:TE):Prop:=∀(pins:Y2) (s:ig) (σ:St) (H:Hp) (Q:VK),02 H s->t σ H Q->wpAny 20 X.A (eval e X.env) (λv s'=>1<=s'.toks/\EP X pins σ Q v s') X.xe s
def PAU(X:Cx)(l:List Expr)(t:TA):Prop:=∀(pos:Pos) (pins:Y2) (s:ig) (σ:St) (H:Hp) (Q:List V->Hp->Prop),02 H s->t σ H Q->wpAny 20 X.A (spliced<|jh pos (iq l X.env)) (λv s'=>1<=s'.toks/\AP X pins σ Q v s') X.xe s
section
variable {X:Cx}{a b e:Expr}{es:List Expr}{ta tb te:TE}{tu:TA}{pos:Pos}{st:Stmt}{sts:List Stmt}{t u:TS}
theorem zy5{i:Int}{k:Nat}:PEU X (.Constant (.int i) k pos) (tC<|.int i):=λpins s σ H Q I j=>wpAny_Constant_int ⟨y43 _ _,.int i,H,I.tok _,⟨_,R⟩,j⟩
theorem paU_hd(d:PEU X e te)(D:PA X es tu)(h:notStar e=N:=by rfl):PAU X (e::es) (tCons te tu):=λq pins s σ H Q I j=>by
 rw[zap h];change wpAny _ _ (spliced (036::jh q (iq es X.env))) _ _ s;apply Calls.spliced_cons<|thn (d pins s σ H _ I j) λv s1 ⟨T,x,H1,I1,r1,E⟩=>?_;show thn (upT T<|D q pins s1 σ H1 _ I1 E) λus s2 ⟨c,xs,H2,w,l,i⟩=>⟨c,x::xs,H2,w,.cons r1 l,i⟩
theorem zxg{Y:Operator}{r:R2}(D:OpR X (iF Y) r)(d:PEU X a ta)(U:PE X b tb):PEU X (.BinOp a Y b pos) (tOp r ta tb):=λpins s σ H Q I j =>
 wpAny_BinOp (thn (d pins s σ H _ I j) λv s1 ⟨T,x,H1,I1,r1,E⟩=>thn (upT T<|U pins s1 σ H1 _ I1 E) λu s2 ⟨c,y,H2,w,l,i⟩=>upT c<|D pins s2 σ H2 x y v u Q w r1 l i)
end
theorem PSsT.noxT{X:Cx}{st:List Stmt}{t:TS}(h:PSsT X.nox st t):PSsT X st t:=λpins s σ H D p I j=>iw (h pins s σ H D p (I.wish _) j) (λ_ _ q=>q.unwish) λ_ _ z=>False.elim z
structure FnOkT(P:ik)(w:World)(K:Frag)(mg:Y1)(base:Heap)(CX:CXT)(k:Nat)(f:Ad)(fd:i6)(ps:List Str)(sp:Sp):Prop where
 len:∀vs H Q E,sp vs H Q E->vs.length=ps.length
 run:∀(A:io) (outer:List Env) (s:ig) (H:Hp) (args:Args) (us:List Va) (vs:List V) (Q:VK) (E:XK),1<=s.toks->Room k A->Env0 P w K mg base A outer s H->lh s fd args 018->Vals vs us->sp vs H Q E->
  jc 78 A (.call 61 args) (CR CX outer P w H s Q E) s
theorem fn_ofT{CX:CXT}{P:ik}{w:World}{K:Frag}{mg:Y1}{base:Heap}{k:Nat}{f:Ad}{name qual:Str}{params:iL}{body:List Stmt}{scope:Scope}{dV kV doc pm cdv ct oc:Va}{an j:Option Ad}
  {z:Y8} {Nq ps:List Str} {sp:Sp} (lk:K.lookup f=G ⟨oc,j,.func 068,z⟩) (hcd:PySem.W.codeIn K cdv qual=N) (S:FnScope Nq ps scope)
  (len:∀vs H Q E,sp vs H Q E->vs.length=ps.length)
  (i:∀(A:io) (outer:List Env) (s:ig) (H:Hp) (vs:List V) (Q:VK) (E:XK),Room k (A.deeper<|jd qual scope s.heap.objs.size f cdv)->sp vs H Q E->
   ∃t,PSsT 058 body t/\t {nx:=λ_ H'=>Q .non H',rt:=Q} 026 H) :
  FnOkT P w K mg base CX (k+1) f 068 ps sp:=by
 apply⟨len,λA outer s H args us vs Q E p D e0 U r a=>?_⟩;let Y:=len _ _ _ _ a;let KX:K.In s.heap:=e0.mod.kin.keeps λb o e=>(030).1;let c:s.heap.NoLimit:=e0.mod.nolimit.keeps λb o e=>(030).1;let g:∀y∈ps.zip us,scope.names.lookup y.1=G .local\/(scope.names.lookup y.1=G .cell/\((038).lookup y.1).isSome=N):=λ⟨n,v⟩ l=>by
  rcases S.par n (y26 l).1 with q|q
  .exact .inl q
  .exact .inr ⟨q,PySem.W.cellsFrom_some _ _ _<|.inl q⟩
 apply iW D.depth (KX _ _ lk) R S.co S.gen R (PySem.W.codeRec_of KX hcd)<|U _ _ _ _ ?_;apply thn (upT p<|jk (Q:=λenv s1=>env=jd qual scope s.heap.objs.size f cdv/\jy s s.heap.objs.size (bindL (jd qual scope s.heap.objs.size f cdv).kindOf 018 λ_=>B) 038 (bindC (jd qual scope s.heap.objs.size f cdv).kindOf 018 λ_=>B) s1) S.kind g λenv L s1 x=>⟨L,by subst L;show x⟩) λenv s1 ⟨T,L,x⟩=>?_;subst L;apply⟨c.keeps x.toInCall.keep,j9 ?_⟩;let(t,HT,C):=i A outer s H vs Q E (D.deeper _) a;let I:Inv 058 [] 026 H s1:=zgg S D.hd e0 Y r x;apply iw (HT [] s1 026 H _ T I C) (λO s' hs=>?_) λe s' hs=>hs;let fin:∀{M:St} {H':Hp} {v:V} {u:Va},Inv 058 [] M H' s'->RelV v u->Q v H'->CE outer P w H s Q u s' :=
  λ{M H' v u} J d q=>⟨v,H',J.os,J.bare,J.base,J.hok,d,q⟩
 cases O with
 |ret u =>
  let(v,M,H',J,d,q):=hs;show fin J d q
 |next =>
  let(M,H',J,q):=hs;show fin (v:=V.non) (u:=Va.none) J R q
 |brk =>
  let(_,_,_,q):=hs;show False.elim q
 |cont =>
  let(_,_,_,q):=hs;show False.elim q
section
variable {P:ik}{w:World}{K:Frag}{mg:Y1}{base:Heap}
theorem Fun.okT{x qual:Str}{st:Stmt}{f:Ad}{fd:i6}{Nq ps:List Str}{k:Nat}{sp:Sp}(F:Fun K x qual st f fd)(S:FnScope Nq ps 66)(len:∀vs H Q E,sp vs H Q E->vs.length=ps.length)
  (i:∀(l:Va) (A:io) (outer:List Env) (s:ig) (H:Hp) (vs:List V) (Q:VK) (E:XK),Room k (A.deeper<|jd qual 66 s.heap.objs.size f l)->sp vs H Q E->
   ∃t,PSsT (cxOf CX0 P w K mg base Nq qual 66 f l A outer s H E).nox (defBody st) t/\t {nx:=λ_ H'=>Q .non H',rt:=Q} 026 H):FnOkT P w K mg base CX0 (k+1) f fd ps sp:=by
 let(oc,j,kV,doc,r,g,l,ct,z,rfl,lk,hcd):=F.ex;apply fn_ofT lk hcd S len λA outer s H vs Q E D a=>?_;let(t,h,q):=i l A outer s H vs Q E D a;show⟨t,h.noxT,q⟩
structure CalT(P:ik)(w:World)(K:Frag)(mg:Y1)(base:Heap)(n:Nat)(x:Str)(ps:List Str)(sp:Sp):Prop where
 ex:∃f fd,FnOkT P w K mg base CX0 n f fd ps sp/\Binds K fd ps []/\PySem.W.keepIn K 61=N/\mg x=G 61
theorem Dfn.calT{x:Str}{st:Stmt}{Nq ps:List Str}{k:Nat}{sp:Sp}(d:Dfn K mg x st ps)(S:FnScope Nq ps 66)(len:∀vs H Q E,sp vs H Q E->vs.length=ps.length)
  (i:∀(f:Ad) (l:Va) (A:io) (outer:List Env) (s:ig) (H:Hp) (vs:List V) (Q:VK) (E:XK),Room k (A.deeper<|jd x 66 s.heap.objs.size f l)->sp vs H Q E->
   ∃t,PSsT (cxOf CX0 P w K mg base Nq x 66 f l A outer s H E).nox (defBody st) t/\t {nx:=λ_ H'=>Q .non H',rt:=Q} 026 H):CalT P w K mg base (k+1) x ps sp:=by
 let(f,fd,F,b,m):=d.ex;show⟨f,fd,F.okT S len<|i f,b,F.kp,m⟩
end
section
variable {X:Cx}{n k:Nat}{x:Str}{ps:List Str}{sp:Sp}{p pos:Pos}{e:Expr}{es:List Expr}{t:TA}
theorem zkj(C:Cal X.prog X.w X.K X.mg X.base n x ps sp)(D:Room k X.A)(v:n<=k)(y:Gl X x)(d:PAT X (e::es) t)(w:010=Fa:=by decide)
  (L:notStar e=N:=by rfl) (J:es.all notStar=N:=by rfl):PET X 024 (tCall sp [] E0 t):=λpins s σ H Q A I j=>by
 let(f,fd,F,b,kp,m):=C.ex;apply iA<|zd2 I y m ?_ w;apply PySem.W.callWith_K (h₀:=X.base) I.ok.mod.kin kp (thn (d pos pins s σ H _ A I j) λus s1 zz=>ex5 zz λvs H1 I1 r q=>⟨I1.kIn,?_⟩) (zap L)<|zbh J;show znr F (D.mono v) b .nil pass0 I1 r q
theorem zki(C:CalT X.prog X.w X.K X.mg X.base n x ps sp)(D:Room k X.A)(v:n<=k)(y:Gl X x)(d:PAT X (e::es) t)(w:010=Fa:=by decide)
  (L:notStar e=N:=by rfl) (J:es.all notStar=N:=by rfl):PET X 024 (tCall sp [] E0 t):=λpins s σ H Q A I j=>by
 let(f,fd,F,b,kp,m):=C.ex;apply iA<|zd2 I y m ?_ w;apply PySem.W.callWith_K (h₀:=X.base) I.ok.mod.kin kp (thn (upT A<|d pos pins s σ H _ A I j) λus s1 ⟨T,vs,H1,I1,r,q⟩=>⟨I1.kIn,?_⟩) (zap L)<|zbh J;let l:Vals (vs++[]) (us++[]):=r.append .nil;let Y:(us++[]).length=ps.length:=by rw[←l.length];show F.len _ _ _ _ q
 apply ji<|iI (F.run X.A X.stack s1 H1 019 (us++[]) (vs++[]) Q E0 T (D.mono v) I1.env0 (b s1 us I1.kIn Y) l q) λres s' z=>?_;cases res with
 |error _=>show z.elim
 |ok O =>
  cases O with
  |ret _=>show I1.after z
  |next=>show z.elim
  |brk=>show z.elim
  |cont=>show z.elim
end
section
variable {X:Cx}{o:Expr}{to:TE}
def tReplace(to:TE)(y z:Str):TE:=λσ H Q=>to σ H λx H1=>∃v,x=.str v/\(y==z)=Fa/\v.length+(v.length+1)*z.length<=16777216/\Q (.str<|Txt.replace v y z) H1
theorem zga{y z:Str}{A L:Nat}{r M e d:Pos}(D:PET X o to)
  (g:attributeBase o "replace" X.env (eval o X.env)=eval o X.env:=by rfl) (f:(e.endLine==d.line)=N:=by rfl)
  (u:((jh d<|iq [.Constant (.str y) A r,.Constant (.str z) L M] X.env).all (λx=>!x.1)&&(backToKw d<|keywordEach [] X.env).all (λx=>x.1.isSome)
   && decide (([.Constant (.str y) A r,.Constant (.str z) L M]:List Expr).length+([]:List jW).length+(if([]:List jW).isEmpty then 0 else 1)<30))=N:=by rfl) :
  PET X (.Call (.Attribute o "replace" e) [.Constant (.str y) A r,.Constant (.str z) L M] [] d) (tReplace to y z):=λpins s σ H Q p I j=>by
 apply wpAny_Call_method_late g u f R<|thn (upT p<|D pins s σ H _ p I j) λv s1 ⟨T,x,H1,I1,r1,E⟩=>?_;let(C,rfl,l,U,q):=E;let(t0,rfl):=r1;apply⟨"str","str.replace",PySem.F.plainAttrs_str,PySem.F.slot_str_replace,PySem.F.type_str_replace,typeIs_str _ _ _,?_,?_⟩
 .exactλa c=>nomatch c
 .let hs:iq [Expr.Constant (.str y) A r,Expr.Constant (.str z) L M] X.env=[(Fa,eval (Expr.Constant (.str y) A r) X.env),(Fa,eval (Expr.Constant (.str z) L M) X.env)]:=by rw[zap R,zap R,starEach.eq_def]
  rw[hs];apply Calls.callWith_builtin R<|Calls.evalArgs_plain (Calls.spliced_cons<|wpAny_Constant_str (x:=y) (k:=A) (pos:=r) (Calls.spliced_cons<|wpAny_Constant_str (x:=z) (k:=L) (pos:=M) (Calls.spliced_nil ?_)));let w:s1.toks≠0:=by omega
  let Y:s1.toks+1≠0:=by omega
  let i:s1.toks≠s1.toks+1:=by omega
  show SC.replace w Y i l U λt' O=>⟨.str _,H1,(I1.tok _:02 H1 {s1 with toks:=O}),⟨_,R⟩,q⟩
def rSplit:V->List V->Hp->VK->Prop:=λx vs H Q=>∃(z y:Str),x=.str z/\vs=[.str y]/\(y.length==0)=Fa/\z.length<=ii/\(Txt.split z y).length<=100000/\∀p H',New H p (.lst<|(Txt.split z y).map V.str) H'->Q 09 H'
theorem zjp:∀(l:List<|Str×Tok),Vals ((l.map (·.1)).map V.str) (strValues l)
 |[]=>.nil
 |p::l=>.cons ⟨p.2,R⟩<|zjp l
theorem zwe:MtR X "str.split" rSplit:=by
 intro pins s σ H x xs v us Q I T rs h;let(z,y,rfl,rfl,U,hz,Y,q):=h;let(t,rfl):=T;let(u,rfl,t',rfl):=vals1 rs;let fin:∀(l:List<|Str×Tok) (O:Nat),l.map (·.1)=Txt.split z y->EP X pins σ Q 011 {s with heap:=s.heap.push {cls:=.type "list",data:=.seq (strValues l).toArray},toks:=O}:=λl O e=>by
  let a:l.length=(Txt.split z y).length:=by rw[←e,y01]
  apply⟨.ref s.heap.objs.size,_,I.laid (o:=.lst<|(Txt.split z y).map V.str) (λb o L=>y04 _ L) 08 ?_,R,q _ _<|.mk' I.fresh _⟩;show⟨by rw[y01];show y14 Y 04,strValues l,0,by rw[←e];show zjp l,y0b _ R⟩
 cases M:(decide (z.length<y.length)||decide (Builtin.Str.strKind z<Builtin.Str.strKind y))
 .cases A:(Builtin.Str.occurrences z y 0 z.length<|z.length+1).isEmpty
  .let j:Txt.split z y=Builtin.Str.partsBetween z (Builtin.Str.occurrences z y 0 z.length<|z.length+1) y.length:=(Xp<|ne_true_of_eq_false M).trans<|Xp (ne_true_of_eq_false A);apply iQ PySem.F.slot_str_split (typeIs_str _ _ _) PySem.F.entry_str_split (PySem.F.args_str_split_2 _ _) (meets_str_split_sep z y t t' M U A hz<|by rw[←j];show y14 Y 04) ?_;change EP X pins σ Q _ {s with toks:=_,heap:=s.heap.push {cls:=.type "list",data:=.seq (strsFrom s.toks<|Builtin.Str.partsBetween z (Builtin.Str.occurrences z y 0 z.length<|z.length+1) y.length).toArray} };rw[strsFrom_eq];show fin (numbered s.toks _) _<|(numbered_texts _ _).trans j.symm
  .exact iQ PySem.F.slot_str_split (typeIs_str _ _ _) PySem.F.entry_str_split (PySem.F.args_str_split_2 _ _) (meets_str_split_not_found z y t t' M U A)
    (fin [(z,t)] s.toks ((Xp<|ne_true_of_eq_false M).trans<|Xq A).symm)
 .exact iQ PySem.F.slot_str_split (typeIs_str _ _ _) PySem.F.entry_str_split (PySem.F.args_str_split_2 _ _) (meets_str_split_cannot_occur z y t t' M)<|fin [(z,t)] s.toks (Xq M).symm
def rJoin(K:Frag):V->List V->Hp->VK->Prop:=λx vs H Q=>∃(z:Str) (p:Ad) (l:List Str),x=.str z/\vs=[.ref p]/\SqL K H p (l.map V.str)/\JoinOk z l=N/\Q (.str<|Txt.join z l) H
end
theorem zo7:jl (.type "list_reverseiterator") "__len__"=pure B:=by rw[iJ,iz];kernel_rfl
theorem slot_rev_hint:Slot "list_reverseiterator" "__length_hint__" "list_reverseiterator.__length_hint__" :=
 .of (owner:="list_reverseiterator") (n:="__length_hint__") (by rw[iJ,iz];kernel_rfl) 21 21 21
  (by first|show .inl (by decide+kernel)|show .inr (by decide+kernel)) (by rw[iH];kernel_rfl)
theorem zft{n:Nat}(h:n<=100000):n<=ii:=y14 h 04
section
variable {K:Frag}{a:Ad}{xs:List V}{tn:List Str}{cp:Y6}{g:TG}{tif:TT}{te:TE}{σ0:St}{H1:Hp}{Q:VK}
theorem zw7(S:St->Prop)(p:V->Bool)(f:V->V)(I:xs.length<=100000)(j:SqL K H1 a xs)(w:S 031)
  (hs:∀D i σ H x,i<xs.length->x∈xs->xs[i]?=G x->Same H1 H->H1 D=B->H D=G (.lst<|((xs.take i).filter p).map f)->S σ->g x σ H λd H2=>tif d H2 λc H3 =>
   if c=N then te d H3 λy H4=>CStep D xs.length i (PFil S p f xs H1) d y H4 else CSkip D xs.length i (PFil S p f xs H1) d H3)
  (hd:∀D H,H1 D=B->Same H1 H->H D=G (.lst<|(xs.filter p).map f)->Q 65 H):cBody tn cp g tif te σ0 Q (Itl K a) H1:=by
 apply zjd (K:=K) (a:=a) (xs:=xs) (λD i ys σ H=>PFil S p f xs H1 i ys σ H) (zft I) (λD u=>⟨zba u _,w,R⟩) (λD i ys σ H _ _ _ p=>p.1.seq j) ?_ ?_
 .rintro D i ys σ H x u hi O A Y ⟨r,M,rfl⟩;show hs D i σ H x hi (y0n O) O r u A M
 .rintro D ys σ H u A Y ⟨r,M,rfl⟩;rw[y0h 08]at A;show hd D H u r A
theorem zw6{S:St->Prop}{p:V->Bool}{f:V->V}{D:Ad}{i:Nat}{x y:V}{d:St}{H4:Hp}(I:xs.length<=100000)(O:xs[i]?=G x)(E:p x=N)(u:H1 D=B)(C:H4 D=G (.lst<|((xs.take i).filter p).map f))(r:Same H1 H4)(s2:S d)(e:y=f x):
  CStep D xs.length i (PFil S p f xs H1) d y H4:=by
 let hi:i<xs.length:=(y0g.mp O).1;apply cstep (zft I) hi C ?_ ⟨r.wr u _,s2,?_⟩
 .rw[y01];let:=y1y p<|xs.take i;rw[y0w]at this;omega
 .rw[y19,O,y1z,y0v,e];simp[E]
end
section
variable {X:Cx}{pins:Y2}{σ:St}{H:Hp}{s:ig}
theorem zwm{it a:Ad}{i:Int}{A:io}{E:Y0}{prog:ik}{w:World}{Q:Bool->ig->Prop}(x:IsRev s.heap it a i)(h:Q Fa s):wpAny 95 A (Builtin.List.listLengthHint 96) Q E s:=by
 unfold Builtin.List.listLengthHint;apply ia<|iP x.typeIs zo7 ?_;change wpAny _ A (specialOf (Va.ref it) (Str.ofString "__length_hint__")>>=_) _ _ _;apply ia<|iP x.typeIs slot_rev_hint.lookup ?_;generalize hid:("list_reverseiterator.__length_hint__":String)=id0
 wp_delta
 rw[show splitId id0=G ("list_reverseiterator","__length_hint__")from by subst hid;decide+kernel];subst hid;apply ia<|jx (T:="list_reverseiterator") (b:=N) x.typeIs (by rw[iH];kernel_rfl) ?_;apply wpAny_ite_split (λno=>Xa no 04) λ_=>?_;apply wpAny_ite_split (λ_=>?_) λno=>Xa 21 no;show wpAny_ite_split (λno=>Xa no 21) λ_=>ib h
theorem zvc{xs:List V}{its acc:List Va}(d:Vals xs its)(Y:acc.length=its.length)(h:∀j v,acc[j]?=G v->its[its.length-1-j]?=G v):Vals xs.reverse acc:=by
 let e:acc=its.reverse:=by
  apply y23 λj=>?_;by_cases g:j<its.length
  .rw[List.getElem?_reverse g,y00 (show j<acc.length by omega),h j _<|y00 _]
  .rw[y0t 00,y0t<|by rw[List.length_reverse];omega]
 rw[e];show d.reverse
theorem zjh{it a:Ad}{xs:List V}{Q:VK}(hc:X.calm=N)(hn:xs.length<=100000)(I:02 H s)(T:FpOk X pins H it)(d:SqL X.K H a xs)(hit:IsRev s.heap it a<|(xs.length:Int)-1)
  (q:∀L H',New H L (.lst xs.reverse) H'->Q (.ref L) H'):wpAny 20 X.A (call (.type "list") [.ref it]) 028 X.xe s:=by
 let(its,rv,f,_):=I.list d;let a8:=rv.length;let i:=f.isList;let ita:a≠it:=λe=>by
  let(o,D,a0,_):=id i;rw[e,show s.heap.get? it=_ from hit]at D;cases D;show Xa a0 06
 let x:s.heap.objs.size∉[it,a]:=λM=>by
  let O:∀c o,s.heap.get? c=G o->c≠s.heap.objs.size:=λc o e=>y0j<|y0c e;let(o,D,_):=id i;simp only[y09,y0o,or_false]at M;rcases M with e|e
  .exact O _ _ hit e.symm
  .exact O _ _ D e.symm
 apply callType_codes (Q₁:=λobj s₁=>obj=.ref s.heap.objs.size/\s₁={s with heap:=s.heap.push {cls:=.type "list",data:=.seq #[]} }) F.called_list (F.typeCall_list_1 _) F.entry_list_init
  (code_list_new _ ⟨R,R⟩) λobj s₁ h₁=>?_
 let(rfl,rfl):=h₁;let hS:(s.heap.push {cls:=.type "list",data:=.seq #[]}).get? s.heap.objs.size=G {cls:=.type "list",data:=.seq #[]}:=y0b _ rfl;let kp:∀c o,s.heap.get? c=G o->(s.heap.push {cls:=.type "list",data:=.seq #[]}).get? c=G o:=λc o e=>y04 _ e;let h0:X.s₀.heap.get? s.heap.objs.size=B:=by
  cases e:X.s₀.heap.get? s.heap.objs.size with
  |none=>rfl
  |some o=>show Xa (y0c e)<|Nat.not_lt.mpr I.sz
 let fS:FpOk X pins H s.heap.objs.size:=I.fpOk 08<|I.hok.fresh 08;generalize s.heap.objs.size=S at *;generalize s.heap.push {cls:=.type "list",data:=.seq #[]}=E at hS kp;apply⟨⟨_,hS,R⟩,F.args_list_init_2 _ _,?_⟩;change wpAny _ X.A.in1.in1 (do let old ←Builtin.List.listItems (.ref S);Builtin.List.listUpdate (.ref S) (λ_=>#[]);letGo old.toList.reverse;Builtin.List.listExtendWith (.ref S) 96 .none) _ _ _;let zS:it≠S:=λe=>x (by simp[e]);let aS:a≠S:=λe=>x (by simp[e]);apply ia ?_;unfold Builtin.List.listItems;apply ia<|iC hS R (ib ?_);change wpAny _ X.A.in1.in1 (jA S (λ_=>#[])>>=λ_=>letGo (#[]:Array Va).toList.reverse>>=λ_=>Builtin.List.listExtendWith (.ref S) 96 .none) _ _ _;apply ia<|iZ hS R ?_;let bp:=y1g (Obj.mapSeq λ_=>(#[]:Array Va)) hS rfl;let oth:∀b o,b≠S->E.get? b=G o->(E.update S<|Obj.mapSeq (λ_=>(#[]:Array Va))).get? b=G o:=λb o U e=>(y1b _ _<|Ne.symm U).trans e;apply ia<|jK ?_;generalize E.update S (Obj.mapSeq λ_=>(#[]:Array Va))=J at bp oth;let keep:∀b o,b≠S->s.heap.get? b=G o->J.get? b=G o:=λb o U e=>oth b o U<|kp b o e;let p:IsRev J it a ((xs.length:Int)-1):=keep _ _ zS hit;let u:Shared.TypeIs {s with heap:=J} (.ref it) "list_reverseiterator":=⟨_,p,R⟩;unfold Builtin.List.listExtendWith;apply ia<|jo u ?_;let g:Builtin.List.listSameRef (.ref S) 96=Fa:=by simp[Builtin.List.listSameRef,Ne.symm zS]
 let C:(Va.type "list_reverseiterator"==Va.type "list")=Fa:=by decide
 let e3:(Va.type "list_reverseiterator"==Va.type "tuple")=Fa:=by decide
 simp only[g,C,e3,y3b,y35,if_false];apply ia<|zwk (s:={s with heap:=J}) p ?_;apply ia<|im (zwm (s:={s with heap:=J}) p ?_);apply wpAny_ite_split (λy=>Xa y 21) λ_=>?_;let W:=(Walks.listRev (prog:=X.prog) (w:=X.w) (A:=X.A.in1.in1) 021 it a ita its.toArray).toS;let sz:its.toArray.size=xs.length:=by rw[y06,←a8]
 apply ib ⟨iT F.plain_extend_loop _,codeAny_extend_loopS W (by rw[sz];show zft hn) S x .none its.toArray.size 0 {s with heap:=J} #[] _ R (y13 _) ⟨y13 _,⟨_,p,R,?_⟩,?_⟩ bp (ItemsOf.nil _) λs' acc' c' M z Y=>?_⟩
 .rw[sz];simp
 .let(o,D,r):=id i;show⟨o,keep _ _ aS D,r⟩
 .let fin:∀b o,b∉[S,it]->s.heap.get? b=G o->s'.heap.get? b=G o:=λb o U e=>M.heap b o U<|keep b o (λq=>U<|by simp[q]) e;let I3:02 H {s with heap:=s'.heap,toks:=s'.toks}:=I.turnedL (L:=[S,it]) fin λb U=>by
   simp only[y09,y0o,or_false]at U;rcases U with rfl|rfl
   .exact fS
   .exact T
  let l:s'={s with heap:=s'.heap,toks:=s'.toks}:=Moved.eq_with (s:={s with heap:=J}) M;let rv2:Vals xs.reverse acc'.toList:=zvc rv (by rw[y11,Y.1,sz,a8]) λj v e=>by
   let:=Y.2 j v (by simpa using e);simpa using this
  rw[l];apply⟨R,.ref S,upd H S<|.lst xs.reverse,I3.take fS h0 ⟨by rw[List.length_reverse];show zft 00,_,c',rv2,?_⟩,R,q S _<|.mk' fS.1 _⟩;simpa using z
end
def tListRev(K:Frag)(l:TA):TE:=λσ H Q=>l σ H λvs H1=>∃a xs,vs=[.ref a]/\SqL K H1 a xs/\xs.length<=100000/\∀L H',New H1 L (.lst xs.reverse) H'->Q (.ref L) H'
theorem zkh{X:Cx}{a:Expr}{l:TA}{p M pos i:Pos}(C:X.calm=N)(j:Gl X "list")(o:X.mg "list"=B)(c:Gl X "reversed")(w:X.mg "reversed"=B)(d:PAT X [a] l)(L:notStar a=N:=by rfl):
  PET X (.Call (.Name "list" p) [.Call (.Name "reversed" M) [a] [] i] [] pos) (tListRev X.K l):=by
 intro pins s σ H Q x I h;let hs:iq [a] X.env=[(Fa,eval a X.env)]:=by rw[zap L,starEach.eq_def]
 let hz:iq [.Call (.Name "reversed" M) [a] [] i] X.env=[(Fa,eval (.Call (.Name "reversed" M) [a] [] i) X.env)]:=by rw[zap R,starEach.eq_def]
 apply Call_<|zdq I j o boot_list (PyProof.Rows.callWith_type1 ?_ hz R);rw[hz];apply Calls.spliced_cons<|iw (Call_<|zdq I c w zjl (PyProof.Rows.callWith_type1 (thn (d i pins s σ H _ x I h) λus s1 zz=>ex5 zz λvs H1 I1 r1 E=>?_) hs R)) (λv s2 A=>Calls.spliced_nil A) λ_ _ e=>e;let(r,xs,e,O,J,q):=E;subst e;let(u,rfl,f):=vals1 r1;cases(show u=Va.ref r from f);let(its,z,y,_):=I1.list O;let Y:=z.length;apply zjf y.isList λh' U k=>?_;apply zjh C J (I1.kept (t':=s1.toks) k) (I1.fpOk 08<|I1.hok.fresh 08) O ?_ q;let g:(its.toArray.size:Int)-1=(xs.length:Int)-1:=by rw[y06,←Y]
 rw[g]at U;show U
theorem zis{X:Cx}(K:Frag){a:Expr}{l:TA}{p M pos i:Pos}(C:X.calm=N)(j:Gl X "list")(o:X.mg "list"=B)(c:Gl X "reversed")(w:X.mg "reversed"=B)(d:PAT X [a] l)(h:X.K=K:=by rfl)(L:notStar a=N:=by rfl):
  PET X (.Call (.Name "list" p) [.Call (.Name "reversed" M) [a] [] i] [] pos) (tListRev K l):=h▸zkh C j o c w d L
end L2
namespace SS
open PySem PySem.Spec PyProof.Rows L2
def SameX(l:Ad)(H H':Hp):Prop:=∀b o,b≠l->H b=G o->H' b=G o
theorem SameX.trans{l:Ad}{H H1 H2:Hp}(a:SameX l H H1)(b:SameX l H1 H2):SameX l H H2:=λc o n h=>b c o n<|a c o n h
theorem SameX.of{l:Ad}{H H':Hp}(g:Same H H'):SameX l H H':=λb o _ h=>g b o h
theorem SameX.upd(l:Ad)(H:Hp)(o:HO):SameX l H (upd H l o):=λb u n h=>by rw[zam n];show h
theorem SameX.same{l:Ad}{M H H':Hp}(g:Same M H)(w:M l=B)(x:SameX l H H'):Same M H':=λb o e=>x b o (λz=>by rw[z,w]at e;cases e)<|g b o e
theorem Rep.sameX{l:Ad}{H H':Hp}{v:V}{s:Sy}{x:List V}(r:Rep H v s)(Y:H l=G (.lst x))(g:SameX l H H'):Rep H' v s:=by
 let O:∀{a xs},H a=G 98->H' a=G 98:=λ{a xs} e=>g a _ (λz=>by rw[z,Y]at e;cases e) e
 induction r with
 |bare j e=>show .bare j<|O e
 |neg e _ Q=>show .neg (O e) Q
 |two j e _ _ p y=>show .two j (O e) p y
 |qu j e _ Q=>show .qu j (O e) Q
def revW(z:List Str):List V:=z.reverse.map V.str
theorem zq9(w:Str)(z:List Str):revW (w::z)=revW z++[.str w]:=by unfold revW;rw[y38,y0v];rfl
def zhh:Sp:=λvs H Q _=>∃z:Str,vs=[.str z]/\z.length<=50000/\∀D H',H D=B->Same H H'->H' D=G (.lst<|((Txt.split z " ").filter λp:Str=>decide (p≠"")).map V.str)->Q 65 H'
def znh:Sp:=λvs H Q _=>∃z:Str,vs=[.str z]/\z.length<=5000/\∀D H',H D=B->Same H H'->H' D=G (.lst<|(wordsT z).map V.str)->Q 65 H'
def zcj:Sp:=λvs H Q _=>∃l:Ad,vs=[.ref l]/\((H l=G (.lst [])/\Q (.str "") H)\/∃(w:Str) (z:List Str),H l=G (.lst<|revW (w::z))/\∀H',SameX l H H'->H' l=G (.lst<|revW z)->Q (.str w) H')
def zfy(n:Nat):Sp:=λvs H Q _=>∃(l:Ad) (s:Sy) (rest:List Str) (d:Nat),vs=[.ref l,.int d]/\d<n/\H l=G (.lst<|revW (toksS s++rest))/\wdB s=N/\wfB s=N/\s.depth<=d/\
 ∀v H',SameX l H H'->H' l=G (.lst<|revW rest)->Rep H' v s->Q v H'
def zfx(n:Nat):Sp:=λvs H Q _=>∃(l:Ad) (w:Str) (s t:Sy) (rest:List Str) (d:Nat),vs=[.ref l,.int d]/\d<n/\H l=G (.lst<|revW (toksS s++w::(toksS t++(")":Str)::rest)))/\w∈(["and","or"]:List Str)/\wdB s=N/\wdB t=N/\wfB s=N/\wfB t=N/\s.depth<=d/\t.depth<=d/\
 ∀v H',SameX l H H'->H' l=G (.lst<|revW rest)->Rep H' v (.two w s t)->Q v H'
def zqu:Sp:=λvs H Q _=>∃(z:Str) (s:Sy),vs=[.str z]/\z.length<=5000/\wordsT z=toksS s/\wdB s=N/\wfB s=N/\s.depth<=12/\s.parts<=60/\∀v H',Same H H'->Rep H' v s->Q v H'
end SS
namespace L2
def mulS(x:Str)(n:Nat):Str:=⟨(List.replicate n x.cps).foldl (· ++ ·) #[]⟩
def rMulS:R2:=λx y H Q=>∃(i:Str) (n:Int),x=.str i/\y=.int n/\0<i.length/\0<=n/\n<=100000/\i.length<=100/\Q (.str<|mulS i n.toNat) H
def rNeS2(X:Cx):R2:=λx y H Q=>∃c,NeOk X 16 H x y c/\Q (.bl c) H
end L2
namespace SM
def pre(m:Mc)(k r l:Nat):Nat:=((List.range l).map λl'=>cnt m k<|m.go r l').sum
end SM
namespace L2
def tLz(t:TS):TS:=t
def tIfZ(c:TT)(t u:TS):TS:=λD σ H=>∀r,r=t->c σ H λb H1=>if b=N then tLz r D σ H1 else u D σ H1
def tIfY(c:TT)(t u:TS):TS:=λD σ H=>∀r,r=u->c σ H λb H1=>if b=N then t D σ H1 else tLz r D σ H1
def tIfX(c:TT)(t u:TS):TS:=λD σ H=>∀r,r=t->∀r',r'=u->c σ H λb H1=>if b=N then tLz r D σ H1 else tLz r' D σ H1
def tSeqZ(t u:TS):TS:=λD σ H=>∀r,r=u->t {D with nx:=tLz r D} σ H
def tCutZ(t u:TS):TS:=λD σ H=>∀r,r=u->∃Pv:St->Hp->Prop,t {D with nx:=Pv} σ H/\∀M H',Pv M H'->tLz r D M H'
theorem itN{A Bq:Prop}(h:Bq):asB (.bl N) λc=>if(!c)=N then A else Bq:=(Xp 04:(if(!N)=N then A else Bq)=Bq)▸h
theorem itO{A Bq:Prop}(h:Bq):asB (.bl Fa) λc=>if c=N then A else Bq:=(Xp 04:(if Fa=N then A else Bq)=Bq)▸h
theorem itB{A Bq:Prop}(h:A):asB (.bl N) λc=>if c=N then A else Bq:=(Xq rfl:(if N=N then A else Bq)=A)▸h
def as1(xs:List V)(k:V->Prop):Prop:=match xs with
 |[x]=>k x
 |_=>False
theorem as1_l{x:V}{k:V->Prop}:as1 [x] k=k x:=rfl
theorem zxz{xs:List V}{k:V->Prop}(h:as1 xs k):∃x,xs=[x]/\k x:=by
 match xs,h with
 |[x],h=>show⟨x,R,h⟩
theorem zm8{xs:List V}{k:Ad->Prop}(h:as1 xs λx=>asR x k):∃p,xs=[.ref p]/\k p:=by
 let(x,rfl,h):=zxz h;let(p,rfl,h):=zcv h;show⟨p,R,h⟩
section
variable {X:Cx}
theorem CallR.weak{f:Va}{r r':List V->Hp->VK->Prop}(c:CallR X f r)(h:∀xs H Q,r' xs H Q->r xs H Q):CallR X f r':=λpins s σ H xs us Q I v q=>c pins s σ H xs us Q I v<|h _ _ _ q
theorem OpR.weak{f:Va->Va->Sem Va}{r r':R2}(c:OpR X f r)(h:∀x y H Q,r' x y H Q->r x y H Q):OpR X f r':=λpins s σ H x y v u Q I T O q=>c pins s σ H x y v u Q I T O<|h _ _ _ _ q
def rEqZ:R2:=λx y H Q=>match x,y with
 |.int a,.int b=>Q (.bl<|decide (a=b)) H
 |.str a,.str b=>Q (.bl<|decide (a=b)) H
 |x,y=>scal x y=N/\Q (.bl<|decide (x=y)) H
def rNeZ:R2:=λx y H Q=>match x,y with
 |.int a,.int b=>Q (.bl<|!decide (a=b)) H
 |.str a,.str b=>Q (.bl<|!decide (a=b)) H
 |x,y=>scal x y=N/\Q (.bl<|!decide (x=y)) H
theorem dec_i(a b:Int):decide (V.int a=V.int b)=decide (a=b):=decide_eq_decide.mpr ⟨λh=>V.int.inj h,λh=>congrArg _ h⟩
theorem dec_s(a b:Str):decide (V.str a=V.str b)=decide (a=b):=decide_eq_decide.mpr ⟨λh=>V.str.inj h,λh=>congrArg _ h⟩
theorem zl7{a b:Int}{H:Hp}{Q:VK}:rEqZ (.int a) (.int b) H Q=Q (.bl<|decide (a=b)) H:=rfl
theorem zl6{a b:Str}{H:Hp}{Q:VK}:rEqZ (.str a) (.str b) H Q=Q (.bl<|decide (a=b)) H:=rfl
theorem zl5{a b:Int}{H:Hp}{Q:VK}:rNeZ (.int a) (.int b) H Q=Q (.bl<|!decide (a=b)) H:=rfl
theorem zl4{a b:Str}{H:Hp}{Q:VK}:rNeZ (.str a) (.str b) H Q=Q (.bl<|!decide (a=b)) H:=rfl
theorem rEqZ_eq{x y:V}{H:Hp}{Q:VK}:rEqZ x y H Q=(scal x y=N/\Q (.bl<|decide (x=y)) H):=by
 cases x<;>cases y<;>first|rfl|(rw[zl7,dec_i];show propext ⟨λh=>⟨R,h⟩,λh=>h.2⟩)|(rw[zl6,dec_s];show propext ⟨λh=>⟨R,h⟩,λh=>h.2⟩)
theorem rNeZ_eq{x y:V}{H:Hp}{Q:VK}:rNeZ x y H Q=(scal x y=N/\Q (.bl<|!decide (x=y)) H):=by
 cases x<;>cases y<;>first|rfl|(rw[zl5,dec_i];show propext ⟨λh=>⟨R,h⟩,λh=>h.2⟩)|(rw[zl4,dec_s];show propext ⟨λh=>⟨R,h⟩,λh=>h.2⟩)
theorem za7:OpR X (i4 .Eq) rEqZ:=op_eq.weak λ_ _ _ _ h=>rEqZ_eq.mp h
theorem zxi:OpR X (i4 .NotEq) rNeZ:=op_ne.weak λ_ _ _ _ h=>rNeZ_eq.mp h
variable (K:Frag)
def rLenZ:List V->Hp->VK->Prop:=λxs H Q=>as1 xs λx=>asR x λp=>∃ys,(SqL K H p ys\/SqT K H p ys)/\Q (.int<|List.length ys) H
theorem zan(h:X.K=K:=by rfl):CallR X (.builtin "len") (rLenZ K):=(zen K h).weak λ_ _ _ h=>let⟨p,e,ys,h⟩:=zm8 h;⟨p,ys,e,h⟩
def rListOfZ:List V->Hp->VK->Prop:=λxs H Q=>as1 xs λx=>asR x λp=>∃ys,(SqL K H p ys\/SqT K H p ys)/\∀l H',New H l 50 H'->Q (.ref l) H'
theorem zqf(h:X.K=K:=by rfl):CallR X (.type "list") (rListOfZ K):=(zg4 K h).weak λ_ _ _ h=>let⟨p,e,ys,h⟩:=zm8 h;⟨p,ys,e,h⟩
def rAllZ:List V->Hp->VK->Prop:=λxs H Q=>as1 xs λx=>asR x λp=>∃bs:List Bool,SqL K H p 016/\Q (.bl<|bs.all id) H
theorem zc7(C:X.calm=N)(h:X.K=K:=by rfl):CallR X (.builtin "all") (rAllZ K):=(zlh K C h).weak λ_ _ _ h=>let⟨p,e,ys,h⟩:=zm8 h;⟨p,ys,e,h⟩
def rInZ(neg:Bool):R2:=λx y H Q=>asR y λp=>∃xs,(SqL K H p xs\/SqT K H p xs)/\flatV x=N/\xs.all flatV=N/\Q (.bl<|if neg then !inV x xs else inV x xs) H
theorem zhq(h:X.K=K:=by rfl):OpR X (i4 .In) (rInZ K Fa):=(zpe K h).weak λ_ _ _ _ h=>let⟨p,e,ys,h⟩:=zcv h;⟨p,ys,e,h⟩
theorem zgc(h:X.K=K:=by rfl):OpR X (i4 .NotIn) (rInZ K N):=(ziu K h).weak λ_ _ _ _ h=>let⟨p,e,ys,h⟩:=zcv h;⟨p,ys,e,h⟩
def rSlLZ:V->Option Int->Option Int->Hp->VK->Prop:=λx lo hi H Q=>asR x λa=>∃xs,SqL K H a xs/\∀p H',New H p (.lst<|cutL xs lo hi) H'->Q 09 H'
theorem zbk(h:X.K=K:=by rfl):SlR X (rSlLZ K):=λpins s σ H x v M vu lo hi Y Q I r hs f J q=>zq2 K h pins s σ H x v M vu lo hi Y Q I r hs f J (let⟨p,e,ys,h⟩:=zcv q;⟨p,ys,e,h⟩)
def rSlTZ:V->Option Int->Option Int->Hp->VK->Prop:=λx lo hi H Q=>asR x λa=>∃xs,SqT K H a xs/\¬(HT.sIx xs.length 0 lo=0/\HT.sIx xs.length xs.length hi=xs.length)/\∀p H',New H p (.tup<|cutL xs lo hi) H'->Q 09 H'
theorem zlv(h:X.K=K:=by rfl):SlR X (rSlTZ K):=λpins s σ H x v M vu lo hi Y Q I r hs f J q=>zuw K h pins s σ H x v M vu lo hi Y Q I r hs f J (let⟨p,e,ys,h⟩:=zcv q;⟨p,ys,e,h⟩)
variable {K}
def rAppZ:V->List V->Hp->VK->Prop:=λx vs H Q=>as1 vs λy=>asR x λl=>∃xs,H l=G 91/\xs.length<ii/\Q .non (upd H l<|.lst (xs++[y]))
theorem za9:MtM X "list.append" rAppZ:=λpins s σ H x xs v us Q I r rs h=>zks pins s σ H x xs v us Q I r rs (let⟨y,e,h⟩:=zxz h;let⟨l,f,xs,h⟩:=zcv h;⟨l,xs,y,f,e,h⟩)
def rCatZ:R2:=λx y H Q=>asR x λl=>asR y λb=>∃xs,H l=G 91/\∃zs,H b=G (.lst zs)/\xs.length+zs.length<=ii/\∀p H',New H p (.lst<|xs++zs) H'->Q 09 H'
theorem zma:OpR X (iF .Add) rCatZ:=op_catN.weak λ_ _ _ _ h=>let⟨l,e,h⟩:=zcv h;let⟨b,f,xs,L,zs,h⟩:=zcv h;⟨l,b,xs,zs,e,f,L,h⟩
def rIskZ:List V->Hp->VK->Prop:=λxs H Q=>match xs with
 |[x,.ty T]=>∃k,Kd H x k/\T∈["str","list","tuple","bool","int","dict"]/\Q (.bl<|subT k T) H
 |_=>False
theorem zrc{x:V}{T:String}{H:Hp}{Q:VK}:rIskZ [x,.ty T] H Q=∃k,Kd H x k/\T∈["str","list","tuple","bool","int","dict"]/\Q (.bl<|subT k T) H:=rfl
theorem zbu:CallR X (.builtin "isinstance") rIskZ:=call_isk.weak λxs H Q h=>by
 match xs,h with
 |[x,.ty T],⟨k,h⟩=>show⟨x,T,k,R,h⟩
def rLeSZ:R2:=λx y H Q=>asS x λi=>asS y λj=>Q (.bl<|!(decide (j.cps.toList<i.cps.toList))) H
end
end L2
namespace SM
def codeP(ps u:List Nat):Option (List Bool):=if ps.any (λk=>decide (2<=fcnt u k))=N then B else G (ps.map λk=>fcnt u k==1)
theorem zli:∀n,(bools n).length=2^n
 |0=>rfl
 |n+1=>by
  change((bools n).flatMap λl=>[Fa::l,N::l]).length=_;rw[List.length_flatMap,show(bools n).map (λl=>[Fa::l,N::l].length)=(bools n).map λ_=>2 from rfl,List.map_const',List.sum_replicate_nat,zli n,Nat.pow_succ]
theorem ztv(ps u:List Nat):codeP ps u∈B::(bools ps.length).map G:=by
 unfold codeP;split
 .exact y0a
 .exact y07 _<|List.mem_map_of_mem (by simpa using zgr (ps.map λk=>fcnt u k==1))
theorem ztw{ps u v:List Nat}(e:codeP ps u=codeP ps v)(x:List Nat):fitP ps (u++x)=fitP ps (v++x):=by
 unfold codeP at e;split at e
 .rename_i h;split at e
  .rename_i h';rw[zej h,zej h']
  .cases e
 .rename_i h;split at e
  .cases e
  .rename_i h';let e:=List.map_inj_left.mp<|Option.some.inj e;let f:∀{u:List Nat},¬ps.any (λk=>decide (2<=fcnt u k))=N->∀k∈ps,fcnt u k<2:=λh k M=>Nat.lt_of_not_le λz=>h<|y1v.mpr ⟨k,M,Xg z⟩;unfold fitP;rw[y1e,y0u,y0u];let O:∀k∈ps,fcnt u k=fcnt v k:=λk M=>by
    let z:=e k M;rw[y1e,beq_iff_eq,beq_iff_eq]at z;let a:=f h k M;let b:=f h' k M;omega
   show⟨λg k M=>by rw[zbz,←O k M,←zbz];show g k M,λg k M=>by rw[zbz,O k M,←zbz];show g k M⟩
theorem fit_nP{ps:List Nat}{m:Mc}(c:Canon m)(t:∀row,m.Row row->m.fin (m.run 0 row)=fitP ps row):m.n<=2^ps.length+1:=by
 let Rq:=zns c.ord;letI f:=λr=>if h:r<m.n then Classical.choose (Rq r h)else[]
 let nd:((List.range m.n).map λr=>codeP ps<|f r).Nodup:=nodup_map_on (λa d b U e=>by
  let d:=y0s.mp d;let U:=y0s.mp U;let k:∀r (D:r<m.n),m.Row (f r)/\m.run 0 (f r)=r:=λr D=>by
   change m.Row (dite _ _ _)/\m.run 0 (dite _ _ _)=r;rw[dif_pos D];show Classical.choose_spec<|Rq r D
  let w:∀r (D:r<m.n) x,m.Row x->m.fin (m.run r x)=fitP ps (f r++x):=λr D x O=>by
   rw[←t _ λl Y=>(y1c.mp Y).elim ((k r D).1 l)<|O l];unfold Mc.run;rw[y2v];show congrArg (λz=>m.fin<|List.foldl m.go z x) (k r D).2.symm
  show c.dist a b d U λx O=>by rw[w a d x O,w b U x O,ztw e]) y41
 let:=zdi nd (ys:=B::(bools ps.length).map G) λx O=>by
  let(r,_,rfl):=y0e.mp O;show ztv _ _
 simpa[zli]using this
end SM
namespace L2
theorem CalE.n{P:ik}{w:World}{K:Frag}{mg:Y1}{base:Heap}{n:Nat}{x:Str}{ps:List Str}{sp:Sp}(C:CalE P w K mg base n x ps sp)(h:∀vs H Q E,sp vs H Q E->sp vs H Q E0):03 n x ps sp:=by
 let(f,fd,F,b,kp,m):=C.ex;apply⟨f,fd,⟨F.len,λA outer s H args us vs Q E D I a Y q=>iI (F.run A outer s H args us vs Q E0 D I a Y<|h _ _ _ _ q) λr s' z=>?_⟩,b,kp,m⟩
 match r,z with
 |.ok (.ret u),z=>show z
 |.error e,⟨_,_,_,_,_,_,_,_,_,z⟩=>show z.elim
end L2
namespace SM
open PySem PySem.Spec PyProof.Rows L2 SS
theorem zsn:∀s:Sy,1<=mcost s
 |.bare _ _ _=>y05 _
 |.neg s=>y43 _ _
 |.two _ s t=>y43 _ _
 |.qu w _ s=>by unfold mcost;split<;>omega
inductive MOr:Sy->List Str->Mc->Prop where
 |bare {wd n m:Str} {tl:List Str} {M:Mc} (f:Frm tl) (hn:n∈tl) (hm:m∈tl) (hw:wd∈SM.rowWords) (Bq:BareM tl wd (tl.idxOf n) (tl.idxOf m) M):MOr (.bare wd n m) tl M
 |and {s t:Sy} {tl:List Str} {M1 M2 M:Mc} (h1:MOr s tl M1) (h2:MOr t tl M2) (o1:M1.Ok) (o2:M2.Ok) (w1:M1.w=tl.length) (w2:M2.w=tl.length) (few:M1.n*M2.n<=100) (ok:M.Ok) (can:Canon M) (hw:M.w=tl.length) (l:∀row,M.Row row->M.fin (M.run 0 row)=(M1.fin (M1.run 0 row)&&M2.fin (M2.run 0 row))):MOr (.two "and" s t) tl M
 |or {s t:Sy} {tl:List Str} {M1 M2 M:Mc} (h1:MOr s tl M1) (h2:MOr t tl M2) (o1:M1.Ok) (o2:M2.Ok) (w1:M1.w=tl.length) (w2:M2.w=tl.length) (few:M1.n*M2.n<=100) (ok:M.Ok) (can:Canon M) (hw:M.w=tl.length) (l:∀row,M.Row row->M.fin (M.run 0 row)=(M1.fin (M1.run 0 row)||M2.fin (M2.run 0 row))):MOr (.two "or" s t) tl M
 |neg {s:Sy} {tl:List Str} {M1 M:Mc} (f:Frm tl) (h1:MOr s tl M1) (o1:M1.Ok) (w1:M1.w=tl.length) (few:M1.n*(2^(psOf<|bsOf tl).length+1)<=100) (ok:M.Ok) (can:Canon M) (hw:M.w=tl.length) (l:∀row,M.Row row->M.fin (M.run 0 row)=(!M1.fin (M1.run 0 row)&&fitP (psOf<|bsOf tl) row)):MOr (.neg s) tl M
 |some {n:Str} {s:Sy} {tl:List Str} {M1 M:Mc} (h1:MOr s (tl++[n]) M1) (o1:M1.Ok) (w1:M1.w=tl.length+1) (few:M1.n<=12) (Rq:∃Rq,DropR M1 tl.length Rq) (ok:M.Ok) (can:Canon M) (hw:M.w=tl.length) (l:∀row,M.Row row->M.fin (M.run 0 row)=(dropT M1 tl.length).fin ((dropT M1 tl.length).run [0] row)):MOr (.qu "some" n s) tl M
 |all {n:Str} {s:Sy} {tl:List Str} {M:Mc} (h:MOr (.neg<|.qu "some" n (.neg s)) tl M):MOr (.qu "all" n s) tl M
theorem mor_len{s:Sy}{tl:List Str}{M:Mc}(h:MOr s tl M):tl.length<=4:=by
 induction h with
 |bare f=>show f.ok.1
 |and _ _ _ _ _ _ _ ok _ j=>rw[←j];show ok.wid
 |or _ _ _ _ _ _ _ ok _ j=>rw[←j];show ok.wid
 |neg f=>show f.ok.1
 |some _ _ _ _ _ ok _ j=>rw[←j];show ok.wid
 |all _ Q=>show Q
structure TabJ(H:Hp)(Pr:Ad)(qr:Y3)(Pp:Ad)(qp:Y3)(Pm:Ad)(qm:Y3)(Pj:Ad)(qj:Y3)(Pd:Ad)(qd:Y3):Prop where
 r:TabOk H Pr qr
 p:TabOk H Pp qp
 m:TabOk H Pm qm
 j:TabOk H Pj qj
 d:TabOk H Pd qd
theorem TabJ.same{H H':Hp}{e:Ad}{c:Y3}{U:Ad}{d:Y3}{u:Ad}{f:Y3}{z:Ad}{i:Y3}{y:Ad}{qd:Y3}(t:TabJ H e c U d u f z i y qd)(g:Same H H'):TabJ H' e c U d u f z i y qd:=⟨t.r.same g,t.p.same g,t.m.same g,t.j.same g,t.d.same g⟩
theorem TabJ.drop{cl:Y4}{H:Hp}{e:Ad}{c:Y3}{U:Ad}{d:Y3}{u:Ad}{f:Y3}{z:Ad}{i:Y3}{y:Ad}{qd:Y3}(t:TabJ H e c U d u f z i y qd)(l:ClOk cl H):TabJ (dropL cl H) e c U d u f z i y qd:=⟨l.tab t.r,l.tab t.p,l.tab t.m,l.tab t.j,l.tab t.d⟩
def zx8(e:Ad)(c:Y3)(U:Ad)(d:Y3)(u:Ad)(f:Y3)(z:Ad)(i:Y3)(y:Ad)(qd:Y3)(n:Nat):Sp:=λvs H Q _=>∃(v:V) (b:Ad) (tl:List Str) (s:Sy) (M:Mc),vs=[v,.ref b]/\TabJ H e c U d u f z i y qd/\Rep H v s/\H b=G (.lst<|tl.map V.str)/\MOr s tl M/\mcost s<=n/\∀p H',Same H H'->RepM H' p M->Q 09 H'
def zj3(P:ik)(w:World)(K:Frag)(mg:Y1)(base:Heap)(g c a d O fp:Ad)(Y:Ad)(j:Y3)(sp:Nat->Sp):Sp:=λvs H Q _=>vs=[.ref g,.ref c,.ref a,.ref d,.ref O,.ref fp]/\TabOk H Y j/\
 ∀f fd H',Same H H'->H' f=G (fnO fd f)->(∀n,CloHE P w K mg base (11+n) H' f 2<|sp n)->Q 61 H'
structure LetF(tl:List Str)(s:Sy):Prop where
 few:tl.length<=4
 len:∀z∈tl,z.length<=4
 fr:frameB (tl.map V.str)=N
 wf:wfB s=N
 dp:s.depth<=12
 pt:s.parts<=60
 ok:letB treeWords 4 tl s=N
def znj:Sp:=λvs H Q _=>∃(v:V) (b:Ad) (tl:List Str) (s:Sy),vs=[v,.ref b]/\Rep H v s/\H b=G (.lst<|tl.map V.str)/\LetF tl s/\∀H',Same H H'->Q .non H'
def zhg(e:Ad)(c:Y3)(U:Ad)(d:Y3)(u:Ad)(f:Y3)(z:Ad)(i:Y3)(y:Ad)(qd:Y3)(Y:Ad)(j:Y3):Sp:=λvs H Q _=>∃(v:V) (b:Ad) (tl:List Str) (s:Sy) (M:Mc),vs=[v,.ref b]/\TabJ H e c U d u f z i y qd/\TabOk H Y j/\Rep H v s/\H b=G (.lst<|tl.map V.str)/\LetF tl s/\MOr s tl M/\mcost s<=16/\∀p H',Same H H'->RepM H' p M->Q 09 H'
end SM
set_option maxHeartbeats 4000000
namespace SM
open PySem PySem.Spec PyProof.Rows L2 SS
section
variable {T:Type}[DecidableEq T]
def nubs(l:List T):List T:=l.foldl (λacc x=>if x∈acc then acc else acc++[x]) []
def numb(l:List T):List Nat:=l.map (nubs l).idxOf
theorem zsf{l:List T}{i j:Nat}{a b:T}(d:l[i]?=G a)(U:l[j]?=G b)(h:(numb l).getD i 0≠(numb l).getD j 0):a≠b:=by
 rintro rfl;apply h ?_;unfold numb;rw[y02,y02,y03,y03,d,U]
end
def rfn(m:Mc)(c:List Nat):List Nat:=numb ((List.range m.n).map λr=>c.getD r 0::(List.range<|2^m.w).map λl=>c.getD (m.go r l) 0)
def moo(m:Mc):Nat->List Nat->List Nat
 |0,c=>c
 |f+1,c=>if rfn m c=c then c else moo m f (rfn m c)
def cls(m:Mc):List Nat:=moo m 100<|numb m.ends
def Pts(m:Mc)(c:List Nat):Prop:=∀i j,i<m.n->j<m.n->c.getD i 0≠c.getD j 0->∃row,m.Row row/\m.fin (m.run i row)≠m.fin (m.run j row)
theorem zyk{m:Mc}(ok:m.Ok){c:List Nat}(h:Pts m c):Pts m (rfn m c):=λi j hi g a=>by
 let e:∀i,i<m.n->((List.range m.n).map λr=>c.getD r 0::(List.range<|2^m.w).map λl=>c.getD (m.go r l) 0)[i]?=G (c.getD i 0::(List.range<|2^m.w).map λl=>c.getD (m.go i l) 0):=λi hi=>by
  rw[y03,y17 hi];rfl
 let ne:=zsf (e i hi) (e j g) a;by_cases w:c.getD i 0=c.getD j 0
 .let L:¬∀l∈List.range (2^m.w),c.getD (m.go i l) 0=c.getD (m.go j l) 0:=λz=>ne (by rw[w];congr 1;show y1x z);let(l,z):=Classical.not_forall.mp L;let(Y,z):=Classical.not_imp.mp z;let Y:=y0s.mp Y;let(row,D,I):=h _ _ (go_lt ok hi Y) (go_lt ok g Y) z;apply⟨l::row,λx O=>?_,by rw[Mc.run_cons,Mc.run_cons];show I⟩;rcases y09.mp O with rfl|O
  .exact Y
  .exact D x O
 .exact h i j hi g w
theorem zre{m:Mc}(ok:m.Ok):∀(f:Nat) {c:List Nat},Pts m c->Pts m (moo m f c)
 |0,_,h=>h
 |f+1,c,h=>by
  unfold moo;split
  .exact h
  .exact zre ok f<|zyk ok h
theorem zyl{m:Mc}(ok:m.Ok):Pts m (cls m):=by
 apply zre ok 100 λi j hi g D=>⟨[],.nil m,?_⟩;let ne:=zsf (y00 hi) (y00 g) D;change m.fin i≠m.fin j;unfold Mc.fin;rw[y02,y02,y00 hi,y00 g];show ne
def pos1(m:Mc)(b:Nat):Nat:=(List.range<|m.n*2^m.w).findIdx λi=>m.go (i/2^m.w) (i%2^m.w)==b
def ordB(m:Mc):Bool:=(List.range m.n).all λb=>decide (b=0)||(decide (pos1 m b<m.n*2^m.w)&&decide (pos1 m b/2^m.w<b)&&(decide (b=1)||decide (pos1 m (b-1)<pos1 m b)))
theorem zrj{m:Mc}{b:Nat}(h:pos1 m b<m.n*2^m.w):m.go (pos1 m b/2^m.w) (pos1 m b%2^m.w)=b:=by
 let:=List.findIdx_getElem (p:=λi=>m.go (i/2^m.w) (i%2^m.w)==b) (xs:=List.range<|m.n*2^m.w) (w:=by rw[y0x];show h);rw[List.getElem_range]at this;show eq_of_beq this
theorem zyt{m:Mc}{i b:Nat}(h:m.go (i/2^m.w) (i%2^m.w)=b)(hi:i<m.n*2^m.w):pos1 m b<=i:=by
 apply y2e λz=>?_;let:=List.not_of_lt_findIdx (p:=λi=>m.go (i/2^m.w) (i%2^m.w)==b) (xs:=List.range<|m.n*2^m.w) (i:=i) z;rw[List.getElem_range]at this;simp[h]at this
theorem zy8{m:Mc}(ok:m.Ok)(h:ordB m=N):m.Ord:=by
 let H:∀b,0<b->b<m.n->pos1 m b<m.n*2^m.w/\pos1 m b/2^m.w<b/\(b=1\/pos1 m (b-1)<pos1 m b):=λb w U=>by
  let z:=y0u.mp h b<|y0s.mpr U;simp only[y3h,y08,decide_eq_true_eq]at z;rcases z with z|⟨⟨T,j⟩,M⟩
  .omega
  .exact⟨T,j,M⟩
 let up:∀d b,0<b->b+d+1<m.n->pos1 m b<pos1 m (b+d+1):=λd=>by
  induction d with
  |zero =>
   intro b w U;rcases(H (b+0+1) (by omega) U).2.2 with z|z
   .omega
   .exact z
  |succ d Q =>
   intro b w U;let T:=Q b w 00;rcases(H (b+(d+1)+1) (by omega) U).2.2 with z|z
   .omega
   .exact y1n T z
 let E:0<2^m.w:=Nat.pow_pos 04;apply⟨λr l b D Y w o=>?_,λb w U=>?_⟩
 .let p:=go_lt ok D Y;let hi:r*2^m.w+l<m.n*2^m.w:=by
   let:=Nat.mul_le_mul_right (2^m.w)<|show r+1<=m.n from D;rw[Nat.add_mul]at this;omega
  let g:(r*2^m.w+l)/2^m.w=r:=by rw[y3x,Nat.mul_add_div E,Nat.div_eq_of_lt Y];rfl
  let C:(r*2^m.w+l)%2^m.w=l:=by rw[y3x,Nat.mul_add_mod,Nat.mod_eq_of_lt Y]
  let a:=zyt (m:=m) (i:=r*2^m.w+l) (b:=m.go r l) (by rw[g,C]) hi;let c:=up (m.go r l-b-1) b w (by rw[show b+(m.go r l-b-1)+1=m.go r l by omega];show p);rw[show b+(m.go r l-b-1)+1=m.go r l by omega]at c;let U:=(H b w<|y1n o p).1;apply⟨pos1 m b/2^m.w,pos1 m b%2^m.w,y31 _ E,?_,zrj U⟩;let q:pos1 m b<r*2^m.w+l:=by omega
  let J:=Nat.div_add_mod (pos1 m b)<|2^m.w;let I:=y31 (pos1 m b) E;let f:pos1 m b/2^m.w<r+1:=by
   rw[Nat.div_lt_iff_lt_mul E,Nat.add_mul];omega
  rcases y3y (pos1 m b/2^m.w) r with z|z
  .exact .inl z
  .let e:pos1 m b/2^m.w=r:=by omega
   apply .inr ⟨e,?_⟩;rw[e,y3x]at J;omega
 .let:=H b w U;show⟨_,_,this.2.1,y31 _ E,zrj this.1⟩
def canB(m:Mc):Bool:=ordB m&&decide (cls m=List.range m.n)
theorem canB_ok{m:Mc}(ok:m.Ok)(h:canB m=N):Canon m:=by
 unfold canB at h;let(L,J):=y3k.mp h;let J:=of_decide_eq_true J;apply⟨zy8 ok L,λi j hi g E=>Classical.byContradiction λne=>?_⟩;let e:∀i,i<m.n->(cls m).getD i 0=i:=λi hi=>by rw[J,y02,y17 hi];rfl
 let(row,D,z):=zyl ok i j hi g (by rw[e i hi,e j g];show ne);show z<|E row D
section
variable {S:Type}[DecidableEq S]
def xpl(w:Nat)(step:S->Nat->S):Nat->List S->Nat->List (List Nat)->List S×List (List Nat)
 |0,a,_,z=>(a,z)
 |f+1,a,i,z=>match a[i]? with
  |none=>(a,z)
  |some s=>match(List.range<|2^w).foldl (λ(p:List S×List Nat) l=>(if step s l∈p.1 then p.1 else p.1++[step s l],p.2++[p.1.idxOf<|step s l])) (a,[])with
   |(c,d)=>xpl w step f c (i+1)<|z++[d]
def rawM(w:Nat)(step:S->Nat->S)(fin:S->Bool)(g:S):Mc:=match xpl w step 100 [g] 0 []with
 |(a,z)=>⟨w,z,a.map fin⟩
def quoC(m:Mc)(c:List Nat):Mc:=⟨m.w,(nubs c).map λk=>(m.ways.getD (c.idxOf k) []).map λx=>c.getD x 0,(nubs c).map λk=>m.fin<|c.idxOf k⟩
end
section
variable {α β:Type}
def fN(n:Nat)(k:Nat->α):α:=match n with|0=>k 0|n+1=>k<|n+1
def fB(b:Bool)(k:Bool->α):α:=match b with|true=>k N|false=>k Fa
def frL(f:β->(β->α)->α):List β->(List β->α)->α
 |[],k=>k []
 |x::xs,k=>f x λx=>frL f xs λxs=>k (x::xs)
def frM(m:Mc)(k:Mc->α):α:=fN m.w λw=>frL (frL fN) m.ways λz=>frL fB m.ends λl=>k ⟨w,z,l⟩
theorem fN_is(n:Nat)(k:Nat->α):fN n k=k n:=by cases n<;>rfl
theorem fB_is(b:Bool)(k:Bool->α):fB b k=k b:=by cases b<;>rfl
theorem zod{f:β->(β->α)->α}(h:∀x k,f x k=k x):∀(l:List β) (k:List β->α),frL f l k=k l
 |[],_=>rfl
 |x::xs,k=>by rw[frL,h,zod h xs]
theorem zoc(m:Mc)(k:Mc->α):frM m k=k m:=by
 unfold frM;rw[fN_is,zod<|zod fN_is,zod fB_is]
end
section
variable {S:Type}[DecidableEq S]
def findM(w:Nat)(step:S->Nat->S)(fin:S->Bool)(g:S):Mc:=frM (rawM w step fin g) λr=>frL fN (cls r) λc=>quoC r c
end
def kept(m:Mc)(w:Nat)(b:Bool):Option Mc:=if okMB m&&canB m&&decide (m.w=w)&&b then G m else B
structure Hld(tl:List Str)(m:Mc):Prop where
 ok:m.Ok
 can:Canon m
 w:m.w=tl.length
theorem ziz{m M:Mc}{w:Nat}{b:Bool}(h:kept m w b=G M):m=M/\M.Ok/\Canon M/\M.w=w/\b=N:=by
 unfold kept at h;split at h
 .rename_i z;cases h;simp only[y08,decide_eq_true_eq]at z;let(((a,c),d),e):=z;show⟨R,zsc a,canB_ok (zsc a) c,d,e⟩
 .cases h
def nms6:List Str:=["x","y","z","X","Y","Z"]
def frmC(tl:List Str):Bool:=decide (tl.length<=4)&&tl.all λz=>decide (z∈nms6)
theorem zs2{tl:List Str}(h:frmC tl=N):Frm tl:=by
 unfold frmC at h;let(L,J):=y3k.mp h;let J:∀z∈tl,z∈nms6:=λz hz=>of_decide_eq_true<|y0u.mp J z hz;let k:∀z∈nms6,NmOk z/\z.length<=4:=λz hz=>by
  simp only[nms6,y09,y0o,or_false]at hz;rcases hz with rfl|rfl|rfl|rfl|rfl|rfl
  .exact⟨.inl<|zhw R 21 04 (by intro x O;cases O),by decide⟩
  .exact⟨.inl<|zhw R 21 04 (by intro x O;cases O),by decide⟩
  .exact⟨.inl<|zhw R 21 04 (by intro x O;cases O),by decide⟩
  .exact⟨.inr<|zhw R 21 04 (by intro x O;cases O),by decide⟩
  .exact⟨.inr<|zhw R 21 04 (by intro x O;cases O),by decide⟩
  .exact⟨.inr<|zhw R 21 04 (by intro x O;cases O),by decide⟩
 show⟨⟨of_decide_eq_true L,λz hz=>(k z<|J z hz).1⟩,λz hz=>(k z<|J z hz).2⟩
section
variable {S:Type}[DecidableEq S]
def stepD(f:S->Nat->S)(z:S)(ps:List Nat)(p:S×List Nat)(l:Nat):S×List Nat:=if(cstep ps p.2 l).any (λa=>a==2)then(z,ps.map λ_=>2)else(f p.1 l,cstep ps p.2 l)
theorem zg9(f:S->Nat->S)(z g:S)(ps:List Nat):∀(row pre:List Nat) (p:S×List Nat),(p=(pre.foldl f g,ps.map λk=>min 2<|fcnt pre k)\/(p=(z,ps.map λ_=>2)/\∃k∈ps,2<=fcnt pre k))->
  (row.foldl (stepD f z ps) p=((pre++row).foldl f g,ps.map λk=>min 2<|fcnt (pre++row) k)\/(row.foldl (stepD f z ps) p=(z,ps.map λ_=>2)/\∃k∈ps,2<=fcnt (pre++row) k))
 |[],pre,p,h=>by rw[y1t];show h
 |c::row,pre,p,h=>by
  rw[y0z,show pre++c::row=(pre++[c])++row by simp];apply zg9 f z g ps row (pre++[c]) _ ?_;rcases h with rfl|⟨rfl,k,M,J⟩
  .let e:=cfold ps [c] pre;unfold stepD;simp only[y0z,List.foldl_nil]at e;rw[e];split
   .rename_i h;apply .inr ⟨R,?_⟩;let(a,d,C):=y1v.mp h;let(k,M,rfl):=y0e.mp d;show⟨k,M,by have:=eq_of_beq C;omega⟩
   .exact .inl (by rw[y2v];rfl)
  .refine .inr ⟨?_,k,M,by rw[zbz];omega⟩;unfold stepD;rw[Xq];apply y1v.mpr ⟨2,?_,R⟩;unfold cstep;rw[zia];show y0e.mpr ⟨k,M,by split<;>rfl⟩
theorem zng(f:S->Nat->S)(z g:S)(ps row:List Nat)(fin:S->Bool):(λp:S×List Nat=>fin p.1&&cfin p.2) (row.foldl (stepD f z ps) (g,c0 ps))=(fin (row.foldl f g)&&fitP ps row):=by
 let e:c0 ps=ps.map λk=>min 2 (fcnt [] k):=by
  unfold c0;apply y1x λk _=>?_;simp[fcnt]
 rcases zg9 f z g ps row [] (g,c0 ps) (.inl<|by rw[e];rfl)with h|⟨h,k,M,J⟩
 .rw[h,y2i];change(fin _&&cfin _)=_;congr 1;unfold cfin fitP;rw[y2z];congr 1;funext k;change(min 2 (fcnt row k)==1)=(fcnt row k==1);generalize fcnt row k=a;rw[y1e,beq_iff_eq,beq_iff_eq];omega
 .rw[h];change(fin z&&cfin _)=_;let L:cfin (ps.map λ_=>2)=Fa:=y3u.mpr ⟨2,y0e.mpr ⟨k,M,R⟩,by decide⟩;let U:fitP ps row=Fa:=y3u.mpr ⟨k,M,λe=>by have:=eq_of_beq e;rw[y2i]at J;omega⟩;rw[L,U,y2f,y2f]
end
def chkBareD(ps:List Nat)(wd:Str)(i j:Nat)(m:Mc):Bool:=chkS m (stepD (bstep (ruleW wd) i j) 0 ps) (λp=>aend (ruleW wd) p.1&&cfin p.2) (2,c0 ps)
theorem zmz{ps:List Nat}{wd:Str}{i j:Nat}{m:Mc}(h:chkBareD ps wd i j m=N)(row:List Nat)(D:m.Row row):m.fin (m.run 0 row)=(aend (ruleW wd) (brun (ruleW wd) i j 2 row)&&fitP ps row):=(zch h row D).trans<|zng _ _ _ _ _ _
def chkNegD(ps:List Nat)(a m:Mc):Bool:=chkS m (stepD a.go 0 ps) (λp=>!a.fin p.1&&cfin p.2) (0,c0 ps)
theorem zqc{ps:List Nat}{a m:Mc}(h:chkNegD ps a m=N)(row:List Nat)(D:m.Row row):m.fin (m.run 0 row)=(!a.fin (a.run 0 row)&&fitP ps row):=(zch h row D).trans<|zng (fin:=λr=>!a.fin r) _ _ _ _ _
def chkJoin(a b m:Mc):Bool:=chkS m (λ(p:Nat×Nat) l=>(a.go p.1 l,b.go p.2 l)) (λp=>a.fin p.1||b.fin p.2) (0,0)
theorem zqd{a b m:Mc}(h:chkJoin a b m=N)(row:List Nat)(D:m.Row row):m.fin (m.run 0 row)=(a.fin (a.run 0 row)||b.fin (b.run 0 row)):=by
 rw[zch h row D,zgk];rfl
def keepB(w:Nat)(ps:List Nat)(wd:Str)(i j:Nat)(m:Mc):Option Mc:=kept m w<|chkBareD ps wd i j m
def fndB(w:Nat)(ps:List Nat)(wd:Str)(i j:Nat):Option Mc:=frM (findM w (stepD (bstep (ruleW wd) i j) 0 ps) (λp=>aend (ruleW wd) p.1&&cfin p.2) (2,c0 ps))<|keepB w ps wd i j
def fndP(o:Bool)(a b:Mc):Mc:=findM a.w (λ(p:Nat×Nat) l=>(a.go p.1 l,b.go p.2 l)) (λp=>if o then a.fin p.1||b.fin p.2 else a.fin p.1&&b.fin p.2) (0,0)
def mkTwo(o:Bool):Option Mc->Option Mc->Option Mc
 |some a,G b=>if a.n*b.n<=100 then frM (fndP o a b) λm=>kept m a.w (if o then chkJoin a b m else chkMet a b m)else B
 |_,_=>B
def mkNeg(ps:List Nat):Option Mc->Option Mc
 |some a=>if a.n*(2^ps.length+1)<=100 then frM (findM a.w (stepD a.go 0 ps) (λp=>!a.fin p.1&&cfin p.2) (0,c0 ps)) λm=>kept m a.w (chkNegD ps a m)else B
 |none=>B
def mkSome(t:Nat):Option Mc->Option Mc
 |some a=>if a.n<=12 then frM (findM t (dstep a t) (dropT a t).fin [0]) λm=>kept m t (chkDrop a t m)else B
 |none=>B
def mkC:Sy->List Str->Option Mc
 |.bare wd n m,tl=>if frmC tl&&decide (n∈tl)&&decide (m∈tl)&&decide (wd∈SM.rowWords)then fndB tl.length (psOf<|bsOf tl) wd (tl.idxOf n) (tl.idxOf m)else B
 |.neg s,tl=>if frmC tl then mkNeg (psOf<|bsOf tl) (mkC s tl)else B
 |.two w s t,tl=>if w="and" then mkTwo Fa (mkC s tl) (mkC t tl)else if w="or" then mkTwo N (mkC s tl) (mkC t tl)else B
 |.qu w n s,tl=>if w="some" then mkSome tl.length (mkC s<|tl++[n])else if w="all" then(if frmC tl&&frmC (tl++[n])then mkNeg (psOf<|bsOf tl) (mkSome tl.length<|mkNeg (psOf<|bsOf (tl++[n])) (mkC s<|tl++[n]))else B)else B
theorem ziy{s:Sy}{tl:List Str}{o:Option Mc}(f:frmC tl=N)(h:∀a,o=G a->MOr s tl a/\Hld tl a){M:Mc}(e:mkNeg (psOf<|bsOf tl) o=G M):MOr (.neg s) tl M/\Hld tl M:=by
 cases o with
 |none=>cases e
 |some a =>
 let(i,L):=h a rfl;simp only[mkNeg,zoc]at e;split at e
 .rename_i few;let(rfl,ok,can,j,b):=ziz e;let j:=j.trans L.w;show⟨.neg (zs2 f) i L.ok L.w few ok can j λrow D=>zqc b row D,ok,can,j⟩
 .cases e
theorem zkt{n:Str}{s:Sy}{tl:List Str}{o:Option Mc}(h:∀a,o=G a->MOr s (tl++[n]) a/\Hld (tl++[n]) a){M:Mc}(e:mkSome tl.length o=G M):MOr (.qu "some" n s) tl M/\Hld tl M:=by
 cases o with
 |none=>cases e
 |some a =>
 let(i,L):=h a rfl;simp only[mkSome,zoc]at e;split at e
 .rename_i few;let(rfl,ok,can,j,b):=ziz e;show⟨.some i L.ok (by rw[L.w,y0d];rfl) few (zh6 b).2.1 ok can j (zh6 b).2.2,ok,can,j⟩
 .cases e
theorem zhx:∀(s:Sy) (tl:List Str) {M:Mc},mkC s tl=G M->MOr s tl M/\Hld tl M
 |.bare wd n m,tl,M,e=>by
  unfold mkC at e;split at e
  .rename_i c;simp only[y08,decide_eq_true_eq]at c;let(((f,I),A),j):=c;rw[fndB,zoc]at e;let(rfl,ok,can,Y,b):=ziz e;show⟨.bare (zs2 f) I A j ⟨ok,can,Y,λrow D=>zmz b row D⟩,ok,can,Y⟩
  .cases e
 |.neg s,tl,M,e=>by
  unfold mkC at e;split at e
  .rename_i f;show ziy f (λa d=>zhx s tl d) e
  .cases e
 |.two w s t,tl,M,e=>by
  unfold mkC at e;let O:∀(o:Bool),mkTwo o (mkC s tl) (mkC t tl)=G M->(∃a b,MOr s tl a/\MOr t tl b/\Hld tl a/\Hld tl b/\a.n*b.n<=100/\(if o then chkJoin a b M else chkMet a b M)=N)/\Hld tl M:=λo e=>by
   let p:=λa=>@zhx s tl a;let y:=λa=>@zhx t tl a;generalize mkC s tl=u at e p;generalize mkC t tl=H at e y
   match u,H,e with
   |some a,G b,e =>
    let(i,L):=p a rfl;let(m2,J):=y b rfl;simp only[mkTwo,zoc]at e;split at e
    .rename_i few;let(rfl,ok,can,j,b):=ziz e;show⟨⟨_,_,i,m2,L,J,few,b⟩,ok,can,j.trans L.w⟩
    .cases e
  split at e
  .rename_i j;subst j;let((a,b,i,m2,L,J,few,c),h):=O _ e;show⟨.and i m2 L.ok J.ok L.w J.w few h.ok h.can h.w λrow D=>zt0 c row D,h⟩
  .split at e
   .rename_i j;subst j;let((a,b,i,m2,L,J,few,c),h):=O _ e;show⟨.or i m2 L.ok J.ok L.w J.w few h.ok h.can h.w λrow D=>zqd c row D,h⟩
   .cases e
 |.qu w n s,tl,M,e=>by
  unfold mkC at e;split at e
  .rename_i j;subst j;show zkt (λa d=>zhx s _ d) e
  .split at e
   .rename_i j;subst j;split at e
    .rename_i f;let(f1,q):=y3k.mp f;let z:=ziy (s:=.qu "some" n<|.neg s) f1 (λa d=>zkt (λb U=>ziy q (λc C=>zhx s _ C) U) d) e;show⟨.all z.1,z.2⟩
    .cases e
   .cases e
abbrev Bts:=List<|Bool×Bool
def pst(k s:Nat)(b:Bool×Bool):Nat:=match k with
 |0=>if b.1 then 1 else s
 |1=>if b.1 then s else 1
 |2=>if s=0 then(if b.1 then 1 else 2)else s
 |3=>if s=0 then(if b.1 then 1 else 0)else if s=1 then(if b.1 then 2 else 0)else 2
 |4=>if b.1 then min 2 (s+1)else s
 |5=>if b.1 && !b.2 then 1 else s
 |6=>if b.1 && !b.2 then 1 else s
 |7=>if b.1 then 1 else if b.2 then 0 else s
 |8=>if s=0 then(if b.1 then 1 else if b.2 then 2 else 0)else s
 |9=>if s=0 then(if b.2 then(if b.1 then 1 else 3)else 0)else if s=1 then(if b.2 then 3 else if b.1 then 2 else 3)else if s=2 then(if b.2 then 3 else 2)else 3
 |10=>1-s
 |_=>if b.1 then min 3 (s+1)else s
def pfn(k s:Nat):Bool:=s==([1,0,1,0,2,0,0,0,1,2,0,2]:List Nat).getD k 0
def plain(k:Nat)(zs:Bts):Bool:=pfn k<|zs.foldl (pst k) 0
def let1(w:Nat)(z:Bool×Bool):Nat:=if w=0 then 0 else if w=1 then z.1.toNat else z.1.toNat+2*z.2.toNat
def wof(k:Nat):Nat:=([1,1,1,1,1,2,2,2,2,2,0,1]:List Nat).getD k 0
def bitsL(l:Nat):Bool×Bool:=(l%2==1,l/2%2==1)
theorem k12{k:Nat}(h:k<12):k=0\/k=1\/k=2\/k=3\/k=4\/k=5\/k=6\/k=7\/k=8\/k=9\/k=10\/k=11:=by omega
theorem zym{k:Nat}(h:k<12)(s:Nat)(z:Bool×Bool):pst k s (bitsL<|let1 (wof k) z)=pst k s z:=by
 let(a,b):=z;rcases k12 h with rfl|rfl|rfl|rfl|rfl|rfl|rfl|rfl|rfl|rfl|rfl|rfl<;>cases a<;>cases b<;>rfl
theorem zoe{k:Nat}(h:k<12):∀(zs:Bts) (s:Nat),(zs.map<|let1 (wof k)).foldl (λs l=>pst k s<|bitsL l) s=zs.foldl (pst k) s
 |[],_=>rfl
 |z::zs,s=>by rw[y0m,y0z,y0z,zym h,zoe h zs]
theorem let_lt{k:Nat}(h:k<12)(z:Bool×Bool):let1 (wof k) z<2^wof k:=by
 let(a,b):=z;rcases k12 h with rfl|rfl|rfl|rfl|rfl|rfl|rfl|rfl|rfl|rfl|rfl|rfl<;>cases a<;>cases b<;>decide
theorem way0:∀(zs:Bts),plain 0 zs=(zs.map (·.1)).any (· ==N):=λzs=>by
 let k:∀(zs:Bts) (s:Nat),(zs.foldl (pst 0) s==1)=((s==1)||(zs.map (·.1)).any (· ==N)):=λzs=>by
  induction zs with
  |nil=>intro s;show(y3b _).symm
  |cons z zs Q =>
   intro s;rw[y0z,Q,y0m,y2s];let(a,b):=z;cases a
   .rfl
   .exact(Bool.or_true _).symm
 show k zs 0
theorem way1:∀(zs:Bts),plain 1 zs=!(zs.map (·.1)).any (· ==Fa):=λzs=>by
 let k:∀(zs:Bts) (s:Nat),(zs.foldl (pst 1) s==0)=((s==0) && !(zs.map (·.1)).any (· ==Fa)):=λzs=>by
  induction zs with
  |nil=>intro s;show(y4f _).symm
  |cons z zs Q =>
   intro s;rw[y0z,Q,y0m,y2s];let(a,b):=z;cases a
   .exact(y2f _).symm
   .rfl
 show k zs 0
theorem way2:∀(zs:Bts),plain 2 zs=decide ((zs.map (·.1)).take 1=[N]):=λzs=>by
 let k:∀(zs:Bts) (s:Nat),s≠0->zs.foldl (pst 2) s=s:=λzs=>by
  induction zs with
  |nil=>intro s _;rfl
  |cons z zs Q=>intro s hs;rw[y0z,show pst 2 s z=s from Xp hs];show Q s hs
 cases zs with
 |nil=>rfl
 |cons z zs =>
  let(a,b):=z;change pfn 2 (zs.foldl (pst 2)<|if a then 1 else 2)=_;cases a
  .rw[Xp 04,k zs 2 04];rfl
  .rw[Xq R,k zs 1 04];rfl
def c3(bs:List Bool)(i:Nat):Prop:=bs[i]?=G N->bs[i+1]?=G Fa
theorem way3(zs:Bts):plain 3 zs=N↔∀i,c3 (zs.map (·.1)) i:=by
 let d:∀zs:Bts,zs.foldl (pst 3) 2=2:=λzs=>by
  induction zs with
  |nil=>rfl
  |cons z zs Q=>show Q
 let k:∀zs:Bts,(pfn 3 (zs.foldl (pst 3) 0)=N↔∀i,c3 (zs.map (·.1)) i)/\(pfn 3 (zs.foldl (pst 3) 1)=N↔(zs.map (·.1))[0]?=G Fa/\∀i,c3 (zs.map (·.1)) i):=λzs=>by
  induction zs with
  |nil=>show⟨⟨λ_ i h=>(nomatch h),λ_=>rfl⟩,⟨λh=>(nomatch h),λh=>(nomatch h.1)⟩⟩
  |cons z zs Q =>
   let(a,b):=z;let c:(∀i,c3 (((a,b)::zs).map (·.1)) i)↔(a=N->(zs.map (·.1))[0]?=G Fa)/\∀i,c3 (zs.map (·.1)) i :=
    ⟨λh=>⟨λe=>h 0 (by rw[e];rfl),λi=>h<|i+1⟩,λh i=>match i with|0=>λe=>h.1 (Option.some.inj e)|i+1=>h.2 i⟩
   cases a
   .refine⟨?_,?_⟩
    .rw[c];show⟨λh=>⟨nofun,Q.1.mp h⟩,λh=>Q.1.mpr h.2⟩
    .rw[c];show⟨λh=>⟨R,nofun,Q.1.mp h⟩,λh=>Q.1.mpr h.2.2⟩
   .refine⟨?_,?_⟩
    .rw[c];show⟨λh=>⟨λ_=>(Q.2.mp h).1,(Q.2.mp h).2⟩,λh=>Q.2.mpr ⟨h.1 R,h.2⟩⟩
    .refine⟨λh=>?_,λh=>nomatch h.1⟩;let h:pfn 3 (zs.foldl (pst 3) 2)=N:=h;rw[d]at h;cases h
 show(k zs).1
theorem zfr(k m:Nat)(M:∀s z,pst k s z=if z.1=N then min m (s+1)else s):∀(zs:Bts) (s:Nat),s<=m->zs.foldl (pst k) s=min m (s+(zs.map (·.1)).count N)
 |[],s,h=>by rw[y2y,List.count_nil];change s=_;omega
 |(a,b)::zs,s,h=>by
  rw[y0z,M,y0m,y33];cases a
  .rw[Xp y0f,zfr k m M zs s h];rfl
  .rw[Xq R,zfr k m M zs _ 00];change min m (min m (s+1)+_)=min m (s+(_+1));omega
theorem way4(zs:Bts):plain 4 zs=decide (1<(zs.map (·.1)).count N):=by
 change(zs.foldl (pst 4) 0==2)=_;rw[zfr 4 2 (λ_ _=>rfl) zs 0 04,y1e,beq_iff_eq,decide_eq_true_eq];omega
theorem way11(zs:Bts):plain 11 zs=decide ((zs.map (·.1)).count N=2):=by
 change(zs.foldl (pst 11) 0==2)=_;rw[zfr 11 3 (λ_ _=>rfl) zs 0 04,y1e,beq_iff_eq,decide_eq_true_eq];omega
theorem way10(zs:Bts):plain 10 zs=decide (zs.length%2=0):=by
 let k:∀(zs:Bts) (s:Nat),s<2->zs.foldl (pst 10) s=(s+zs.length)%2:=λzs=>by
  induction zs with
  |nil=>intro s h;change s=(s+0)%2;omega
  |cons z zs Q =>
   intro s h;rw[y0z,show pst 10 s z=1-s from rfl,Q _ 00,y0i];omega
 change(zs.foldl (pst 10) 0==0)=_;rw[k zs 0 04,y3w,y1e,beq_iff_eq,decide_eq_true_eq]
theorem way56{k:Nat}(M:k=5\/k=6)(zs:Bts):plain k zs=N↔∀z∈zs,z.1=N->z.2=N:=by
 let e:∀s z,pst k s z=if(z.1 && !z.2)=N then 1 else s:=by rcases M with rfl|rfl<;>showλ_ _=>rfl
 let f:∀s,pfn k s=(s==0):=by rcases M with rfl|rfl<;>showλ_=>rfl
 let d:∀zs:Bts,zs.foldl (pst k) 1=1:=λzs=>by
  induction zs with
  |nil=>rfl
  |cons z zs Q=>rw[y0z,e,ite_self];show Q
 unfold plain;rw[f]
 induction zs with
 |nil=>show⟨λ_ z h=>(nomatch h),λ_=>rfl⟩
 |cons z zs Q =>
  let(a,b):=z;rw[y0z,e,List.forall_mem_cons];by_cases h:(a && !b)=N
  .rw[Xq h,d];apply⟨λz=>(nomatch z),λz=>?_⟩;let:=z.1;cases a<;>cases b<;>simp_all
  .rw[Xp h];apply Q.trans ⟨λz=>⟨?_,z⟩,λz=>z.2⟩;cases a<;>cases b<;>simp_all
def ats(bs:List Bool):List Nat:=(List.range bs.length).filter λi=>bs.getD i Fa
theorem zw8(bs:List Bool)(a:Bool):ats (bs++[a])=ats bs++if a then[bs.length]else[]:=by
 unfold ats;rw[y0d,y0r,y2h,y1z];congr 1
 .refine y3s λi hi=>?_;let hi:=y0s.mp hi;rw[y02,y02,y16 hi]
 .rw[List.filter_cons,List.filter_nil,y02,y12 08,y3f];cases a<;>rfl
theorem way7(zs:Bts):plain 7 zs=(match(ats (zs.map (·.1))).getLast? with|none=>N|some i=>((zs.map (·.2)).drop<|i+1).any (· ==N)):=by
 change(zs.foldl (pst 7) 0==0)=_;let lt:∀(bs:List Bool) i,(ats bs).getLast?=G i->i<bs.length:=λbs i h=>y0s.mp (y2a.mp<|List.mem_of_getLast? h).1;let O:∀(rs:Bts),(rs.reverse.foldl (pst 7) 0==0)=(match(ats (rs.reverse.map (·.1))).getLast? with|none=>N|some i=>((rs.reverse.map (·.2)).drop<|i+1).any (· ==N)):=λrs=>by
  induction rs with
  |nil=>rfl
  |cons z rs Q =>
   let(a,b):=z;rw[y38,y2v,y0v,y0v];generalize hs:rs.reverse=zs at Q ⊢;change(pst 7 (zs.foldl (pst 7) 0) (a,b)==0)=match(ats (zs.map (·.1)++[a])).getLast? with|none=>N|some i=>((zs.map (·.2)++[b]).drop<|i+1).any (· ==N)
   rw[zw8];cases a
   .rw[Xp 04,y1t];change((if b=N then 0 else zs.foldl (pst 7) 0)==0)=_;cases e:(ats (zs.map (·.1))).getLast? with
    |none =>
     rw[e]at Q;cases b
     .exact Q
     .rfl
    |some i =>
     rw[e]at Q;let hi:=lt _ _ e;rw[y01]at hi;change _=((zs.map (·.2)++[b]).drop<|i+1).any (· ==N);rw[List.drop_append_of_le_length (by rw[y01];omega),List.any_append];cases b
     .exact Q.trans (y3b _).symm
     .exact(Bool.or_true _).symm
   .rw[Xq R,List.getLast?_append,List.getLast?_singleton];change _=((zs.map (·.2)++[b]).drop ((zs.map (·.1)).length+1)).any (· ==N);rw[y1w 06];rfl
 let:=O zs.reverse;rwa[List.reverse_reverse]at this
theorem fold8:∀(zs:Bts) (s:Nat),s≠0->zs.foldl (pst 8) s=s
 |[],_,_=>rfl
 |z::zs,s,h=>by rw[y0z,show pst 8 s z=s from Xp h];show fold8 zs s h
theorem zun:∀(zs:Bts) (i:Nat),(∀j,j<i->(zs.map (·.1)).getD j Fa=Fa)->(zs.map (·.1))[i]?=G N->plain 8 zs=!((zs.map (·.2)).take i).any (· ==N):=λzs=>by
 unfold plain
 induction zs with
 |nil=>intro i _ h;cases h
 |cons z zs Q =>
  intro i Y hi;let(a,b):=z
  match i with
  |0 =>
   cases(Option.some.inj hi:a=N);change pfn 8 (zs.foldl (pst 8) 1)=N;rw[fold8 zs 1 04];rfl
  |i+1 =>
   let d:a=Fa:=Y 0<|Nat.succ_pos _;subst d;let Q:=Q i (λj g=>Y (j+1) 00) hi;change pfn 8 (zs.foldl (pst 8)<|if b=N then 2 else 0)=!(b::((zs.map (·.2)).take i)).any (· ==N);cases b
   .exact Q
   .rw[Xq R,fold8 zs 2 04];rfl
theorem zx3(zs:Bts)(h:∀j,j<zs.length->(zs.map (·.1)).getD j Fa=Fa):plain 8 zs=Fa:=by
 unfold plain
 induction zs with
 |nil=>rfl
 |cons z zs Q =>
  let(a,b):=z;let d:a=Fa:=h 0<|Nat.succ_pos _;subst d;let Q:=Q λj g=>h (j+1) (by rw[y0i];omega);change pfn 8 (zs.foldl (pst 8)<|if b=N then 2 else 0)=Fa;cases b
  .exact Q
  .rw[Xq R,fold8 zs 2 04];rfl
theorem way9(zs:Bts):plain 9 zs=(decide ((zs.map (·.2)).count N=1)&&decide (((zs.map (·.1)).drop ((zs.map (·.2)).idxOf N)).take 2=[N,N])):=by
 let g3:∀zs:Bts,zs.foldl (pst 9) 3=3:=λzs=>by
  induction zs with
  |nil=>rfl
  |cons z zs Q=>show Q
 let o:∀zs:Bts,(zs.foldl (pst 9) 2==2)=decide ((zs.map (·.2)).count N=0):=λzs=>by
  induction zs with
  |nil=>rfl
  |cons z zs Q =>
   let(a,b):=z;rw[y0z,y0m,y33];cases b
   .exact Q
   .rw[show pst 9 2 (a,N)=3 from rfl,g3];rfl
 unfold plain;change(zs.foldl (pst 9) 0==2)=_
 induction zs with
 |nil=>rfl
 |cons z zs Q =>
  let(a,b):=z;rw[y0z,y0m,y0m,y33,y2b];cases b
  .exact Q
  .change(zs.foldl (pst 9) (if a=N then 1 else 3)==2)=(decide ((zs.map (·.2)).count N+1=1)&&decide ((a::zs.map (·.1)).take 2=[N,N]));cases a
   .rw[Xp 04,g3];simp
   .rw[Xq rfl];cases zs with
    |nil=>rfl
    |cons y zs =>
     let(c,d):=y;rw[y0z,y0m,y0m,y33];cases d
     .cases c
      .rw[show pst 9 1 (Fa,Fa)=3 from rfl,g3];simp
      .rw[show pst 9 1 (N,Fa)=2 from rfl,o];simp
     .rw[show pst 9 1 (c,N)=3 from rfl,g3];simp
def bI(a b:Str):Sy:=.bare "in" a b
def ends63:Sy:=.two "and" (.qu "all" "x"<|.two "or" (.qu "some" "y"<|.bare "ahead" "y" "x") (bI "x" "Z"))<|.qu "all" "x" (.two "or" (.qu "some" "y"<|.bare "ahead" "x" "y")<|.neg (bI "x" "Z"))
def turns63:Sy:=.qu "all" "x"<|.qu "all" "y" (.two "or" (.neg<|.bare "next" "x" "y")<|.two "or" (.two "and" (bI "x" "Z")<|.neg (bI "y" "Z")) (.two "and" (.neg<|bI "x" "Z")<|bI "y" "Z"))
def say63:List (Str×List Str×Sy):=[
 ("some x x in X",["X"],.qu "some" "x"<|bI "x" "X"),
 ("all x x in X",["X"],.qu "all" "x"<|bI "x" "X"),
 ("some x (x in X and not some y y ahead x)",["X"],.qu "some" "x"<|.two "and" (bI "x" "X") (.neg<|.qu "some" "y" (.bare "ahead" "y" "x"))),
 ("all x (not x in X or some y (x next y and not y in X))",["X"],.qu "all" "x"<|.two "or" (.neg<|bI "x" "X") (.qu "some" "y"<|.two "and" (.bare "next" "x" "y") (.neg<|bI "y" "X"))),
 ("some x some y (x ahead y and (x in X and y in X))",["X"],.qu "some" "x"<|.qu "some" "y" (.two "and" (.bare "ahead" "x" "y")<|.two "and" (bI "x" "X") (bI "y" "X"))),
 ("X within Y",["X","Y"],.bare "within" "X" "Y"),
 ("some Z (X within Z and Z within Y)",["X","Y"],.qu "some" "Z"<|.two "and" (.bare "within" "X" "Z") (.bare "within" "Z" "Y")),
 ("all x (not x in X or some y (x ahead y and y in Y))",["X","Y"],.qu "all" "x"<|.two "or" (.neg<|bI "x" "X") (.qu "some" "y"<|.two "and" (.bare "ahead" "x" "y") (bI "y" "Y"))),
 ("some x (x in X and all y (not y in Y or not y ahead x))",["X","Y"],.qu "some" "x"<|.two "and" (bI "x" "X") (.qu "all" "y"<|.two "or" (.neg<|bI "y" "Y") (.neg<|.bare "ahead" "y" "x"))),
 ("(x in X and some y (x next y and y in X))",["X","x"],.two "and" (bI "x" "X")<|.qu "some" "y" (.two "and" (.bare "next" "x" "y")<|bI "y" "X")),
 ("some Z ((all x (some y y ahead x or x in Z) and all x (some y x ahead y or not x in Z)) and all x all y (not x next y or ((x in Z and not y in Z) or (not x in Z and y in Z))))",[],.qu "some" "Z"<|.two "and" ends63 turns63),
 ("some x some y ((not x same y and (x in X and y in X)) and all z ((not z in X or z same x) or z same y))",["X"],.qu "some" "x"<|.qu "some" "y" (.two "and" (.two "and" (.neg<|.bare "same" "x" "y")<|.two "and" (bI "x" "X") (bI "y" "X"))<|.qu "all" "z" (.two "or" (.two "or" (.neg<|bI "z" "X")<|.bare "same" "z" "x")<|.bare "same" "z" "y")))]
def chk63(k:Nat)(s:Sy)(tl:List Str):Bool:=match mkC s tl with
 |some M=>chkS M (λs l=>pst k s<|bitsL l) (pfn k) 0
 |none=>Fa
def Sd63(k:Nat):Prop:=chk63 k (say63.getD k ("",[],.bare "" "" "")).2.2 (say63.getD k ("",[],.bare "" "" "")).2.1=N
theorem zu9:Sd63 0/\Sd63 1/\Sd63 2/\Sd63 3/\Sd63 4/\Sd63 5/\Sd63 6:=by unfold Sd63;decide+kernel
theorem zu8:Sd63 7/\Sd63 8/\Sd63 9:=by unfold Sd63;decide+kernel
theorem zu7:Sd63 10:=by unfold Sd63;decide+kernel
theorem zu6:Sd63 11:=by unfold Sd63;decide+kernel
theorem zu5(k:Nat)(h:k<12):Sd63 k:=by
 let(a,b,c,d,e,f,g):=zu9;let(i,j,l):=zu8;rcases k12 h with rfl|rfl|rfl|rfl|rfl|rfl|rfl|rfl|rfl|rfl|rfl|rfl
 .exact a
 .exact b
 .exact c
 .exact d
 .exact e
 .exact f
 .exact g
 .exact i
 .exact j
 .exact l
 .exact zu7
 .exact zu6
theorem zyj:∀k,k<12->mcost (say63.getD k ("",[],.bare "" "" "")).2.2<=16/\(say63.getD k ("",[],.bare "" "" "")).2.1.length=wof k:=by decide+kernel
theorem zu4:∀p∈say63,p.1.length<=5000/\wordsT p.1=toksS p.2.2/\wdB p.2.2=N/\wfB p.2.2=N/\p.2.2.depth<=12/\p.2.2.parts<=60/\p.2.1.length<=4/\(∀z∈p.2.1,z.length<=4)/\frameB (p.2.1.map V.str)=N/\letB treeWords 4 p.2.1 p.2.2=N:=by decide+kernel
theorem mach63{k:Nat}(h:k<12){p:Str×List Str×Sy}(E:say63[k]?=G p):∃M,MOr p.2.2 p.2.1 M/\M.Ok/\M.w=wof k/\mcost p.2.2<=16/\p.2.1.length=wof k/\∀zs:Bts,M.Row (zs.map<|let1 (wof k))/\M.fin (M.run 0<|zs.map (let1<|wof k))=plain k zs:=by
 let c:=zu5 k h;let z:=zyj k h;unfold Sd63 at c;rw[show say63.getD k ("",[],.bare "" "" "")=p by rw[y02,E];rfl]at z c;let(C,Y):=z;unfold chk63 at c;cases e:mkC p.2.2 p.2.1 with
 |none=>rw[e]at c;cases c
 |some M =>
  rw[e]at c;let(mo,H):=zhx _ _ e;let j:M.w=wof k:=H.w.trans Y;apply⟨M,mo,H.ok,j,C,Y,λzs=>?_⟩;let D:M.Row (zs.map<|let1 (wof k)):=λx O=>by
   let(z,_,rfl):=y0e.mp O;rw[j];show let_lt h z
  show⟨D,by rw[zch c _ D,zoe h];rfl⟩
end SM
namespace L2
section
variable {X:Cx}
def rNeF(K:Frag):R2:=λx y H Q=>∃(a b:Ad) (xs ys:List V),x=.ref a/\y=.ref b/\SqL K H a xs/\SqL K H b ys/\xs.all flatV=N/\ys.all flatV=N/\Q (.bl<|!(xs.length==ys.length&&(039).all λj=>eqV (xs.getD j .non)<|ys.getD j .non)) H
theorem op_neF(f:X.A.units+8<cLine):OpR X (i4 .NotEq) (rNeF X.K):=by
 intro pins s σ H x y v u Q I T O h;let(a,b,xs,ys,rfl,rfl,L,J,f1,d,q):=h;cases(show v=Va.ref a from T);cases(show u=Va.ref b from O);let(us,r1,r,_):=I.list L;let(vs,l,M,_):=I.list J;let l1:=r1.length;let l2:=l.length;let c:X.A.units<cLine:=by omega
 by_cases Y:us.length=vs.length
 .let z:=SeqAt.RcNeAt.lists (A:=X.A) (s:=s) (e:=λj=>eqV (xs.getD j .non)<|ys.getD j .non) r.isList M.isList (by rw[y06,y06];show Y) c λj L J=>by
   rw[y06]at L J;let(g1,E):=r1.at L;let(o,i):=l.at J;let g:xs.getD j .non=xs[j]:=by rw[y02,y00 g1];rfl
   let C:ys.getD j .non=ys[j]:=by rw[y02,y00 o];rfl
   rw[g,C];apply zh2 (by simpa using E) (by simpa using i) ?_ ?_
   .exact y0u.mp f1 _<|y0k g1
   .exact y0u.mp d _<|y0k o
  rw[show(xs.length==ys.length)=N by simp;omega,y1i]at q;rw[y06,←l1]at z;show z _ _ _ _ ⟨.bl<|!((039).all λj=>eqV (xs.getD j .non)<|ys.getD j .non),H,I,R,q⟩
 .let z:=SeqAt.RcNeAt.lists_lengths (A:=X.A) (s:=s) r.isList M.isList (by rw[y06,y06];simpa using Y) c;rw[show(xs.length==ys.length)=Fa by simp;omega,y1h]at q;show z _ _ _ _ ⟨.bl N,H,I,R,q⟩
theorem zzb(K:Frag)(C:X.A.units+8<cLine)(h:X.K=K:=by rfl):OpR X (i4 .NotEq) (rNeF K):=h▸op_neF C
end
theorem zlo:∀{bs:List Bool} {vs:List Va},Vals 016 vs->vs=bs.map Va.bool
 |[],vs,r=>by cases r;rfl
 |b::bs,vs,r=>by
  cases r with
  |cons h r =>
   cases(show _=Va.bool b from h);rw[zlo r];rfl
def isBlK(k:Bool):Va->Bool:=λ|.bool b=>b==k|_=>Fa
theorem zk5(k:Bool):∀bs:List Bool,(bs.map Va.bool).countP (isBlK k)=bs.count k
 |[]=>rfl
 |b::bs=>by
  rw[y0m,List.countP_cons,y33,zk5 k bs];rfl
def rCountB(K:Frag):V->List V->Hp->VK->Prop:=λx vs H Q=>∃(p:Ad) (bs:List Bool) (k:Bool),x=.ref p/\vs=[.bl k]/\SqL K H p 016/\Q (.int ((bs.count k:Nat):Int)) H
theorem zsm{X:Cx}:MtR X "list.count" (rCountB X.K):=by
 intro pins s σ H x xs v us Q I T rs h;let(p,bs,k,rfl,rfl,O,q):=h;cases T;let(u,rfl,w):=vals1 rs;cases(show u=Va.bool k from w);let(vs,d,f,_):=I.list O;let((cls,i,data,Y),D,C,n,hd):=f.isList;simp only at C hd;subst C hd;let l:=zlo d;apply iQ PySem.F.slot_list_count ⟨_,D,R⟩ PySem.F.entry_list_count (PySem.F.args_list_count_2 _ _) (SeqAt.list_countAt p vs.toArray n i Y (.bool k)<|isBlK k) ⟨D,λy U=>?_,?_⟩
 .rw[l]at U;let(b,_,rfl):=y0e.mp<|List.mem_toArray.mp U;show zh2 (y:=.bl b) (x:=.bl k) R R R R
 .refine⟨.int _,H,I.tok _,⟨_,R⟩,?_⟩;rw[show vs.toArray.toList=vs from rfl,l,zk5];show q
theorem zew{X:Cx}(K:Frag)(h:X.K=K:=by rfl):MtR X "list.count" (rCountB K):=h▸zsm
theorem zs0:∀(l:List Bool) (m:Nat) (h:m<l.length),l.idxOf l[m]<=m
 |y::r,0,h=>by simp
 |y::r,m+1,h=>by
  rw[y2b];let:=zs0 r m (by simpa using h);cases(y==(y::r)[m+1])
  .simp only[cond_false,y4h];omega
  .simp
def rIndexB(K:Frag):V->List V->Hp->VK->Prop:=λx vs H Q=>∃(p:Ad) (bs:List Bool) (k:Bool),x=.ref p/\vs=[.bl k]/\SqL K H p 016/\k∈bs/\bs.length<=1000/\Q (.int ((bs.idxOf k:Nat):Int)) H
theorem zsk{X:Cx}:MtR X "list.index" (rIndexB X.K):=by
 intro pins s σ H x xs v us Q I T rs h;let(p,bs,k,rfl,rfl,O,M,hz,q):=h;cases T;let(u,rfl,w):=vals1 rs;cases(show u=Va.bool k from w);let(vs,d,f,_):=I.list O;let((cls,i,data,Y),D,C,n,hd):=f.isList;simp only at C hd;subst C hd;let l:=zlo d;subst l;let g:bs.idxOf k<bs.length:=y1d.mpr M;apply iQ PySem.F.slot_list_index ⟨_,D,R⟩ PySem.F.entry_list_index (PySem.F.args_list_index_2 _ _)
  (SeqAt.list_indexAt p (bs.map Va.bool).toArray n i Y (.bool k) (isBlK k) (bs.idxOf k) (by simpa using g) 00 ?_ ?_) ⟨D,λy U=>?_,?_⟩
 .change isBlK k ((bs.map Va.bool)[bs.idxOf k]'(by rw[y01];show g))=N;rw[y30];show beq_iff_eq.mpr<|y2g g
 .intro m A o;let a:m<bs.length:=by simpa using A
  change isBlK k ((bs.map Va.bool)[m]'(by rw[y01];show a))=Fa;rw[y30];apply beq_eq_false_iff_ne.mpr λc=>?_;let J:bs.idxOf k<=m:=by
   rw[←c];show zs0 bs m a
  omega
 .let(b,_,rfl):=y0e.mp<|List.mem_toArray.mp U;show zh2 (y:=.bl b) (x:=.bl k) R R R R
 .exact⟨.int _,H,I.tok _,⟨_,R⟩,q⟩
theorem zpv{X:Cx}(K:Frag)(h:X.K=K:=by rfl):MtR X "list.index" (rIndexB K):=h▸zsk
theorem zrw{X:Cx}{n k:Nat}{x:Str}{ps:List Str}{sp:Sp}{p pos:Pos}(C:Cal X.prog X.w X.K X.mg X.base n x ps sp)(D:Room k X.A)(v:n<=k)(y:Gl X x)(w:010=Fa:=by decide):PE X (.Call (.Name x p) [] [] pos) (tCall sp [] E0 tNil):=by
 let(f,fd,F,b,kp,m):=C.ex;show zvr F (D.mono v) y m kp b .nil pass0 w
end L2
namespace SM
open PySem PySem.Spec PyProof.Rows L2 SS
abbrev b1(zs:Bts):List V:=(zs.map (·.1)).map V.bl
abbrev b2(zs:Bts):List V:=(zs.map (·.2)).map V.bl
def SayAt(H:Hp)(v:V)(p:Str×List Str×Sy):Prop:=∃t f,v=.ref t/\H t=G (.tup [.str p.1,.ref f])/\H f=G (.lst<|p.2.1.map V.str)
def zqs:Sp:=λvs H Q _=>vs=[]/\∀D xs H',Same H H'->H' D=G 91->i8 (SayAt H') xs say63->Q 65 H'
def zhf:Sp:=λvs H Q _=>∃(k:Nat) (a b:Ad) (zs:Bts),vs=[nV k,.ref a,.ref b]/\k<7/\H a=G (.lst<|b1 zs)/\H b=G (.lst<|b2 zs)/\zs.length<=63/\∀H',Same H H'->Q (.bl<|plain k zs) H'
def zhd:Sp:=λvs H Q _=>∃(k:Nat) (a b:Ad) (zs:Bts),vs=[nV k,.ref a,.ref b]/\k<12/\H a=G (.lst<|b1 zs)/\H b=G (.lst<|b2 zs)/\zs.length<=63/\∀H',Same H H'->Q (.bl<|plain k zs) H'
def zjz(K:Frag):Sp:=λvs H Q _=>∃(k x:Int) (a:Ad) (ns:List Int),vs=[.int k,.ref a,.int x]/\SqL K H a 025/\ns.length<=63/\∀t s i zs H',Same H H'->H' t=G (.tup [.ref s,.ref i])->H' s=G (.lst<|b1 zs)->H' i=G (.lst<|b2 zs)->zs.length<=63->Q (.ref t) H'
def zqv:Sp:=λvs H Q _=>∃(w:Nat) (a b:Ad) (zs:Bts),vs=[.ref a,.ref b,nV w]/\w<=2/\H a=G (.lst<|b1 zs)/\H b=G (.lst<|b2 zs)/\zs.length<=63/\∀D H',Same H H'->H' D=G (.lst<|(zs.map<|let1 w).map nV)->Q 65 H'
def zhb(K:Frag)(e:Ad)(c:Y3)(U:Ad)(d:Y3)(u:Ad)(f:Y3)(z:Ad)(i:Y3)(y:Ad)(qd:Y3)(Y:Ad)(j:Y3):Sp:=λvs H Q _=>∃(k:Nat) (x:Int) (a:Ad) (ns:List Int),vs=[nV k,.ref a,.int x]/\k<12/\SqL K H a 025/\ns.length<=63/\TabJ H e c U d u f z i y qd/\TabOk H Y j/\∀H',Same H H'->Q (.bl N) H'
theorem zfs{q:Type}(xs:List q)(k:Nat):cutL xs B (G (k:Int))=xs.take k:=by
 unfold cutL;rw[HT.sIx_nat,HT.sIx_none,List.drop_zero];rcases y3z k xs.length with h|h
 .rw[y2r h];rfl
 .rw[y2o h,Nat.sub_zero,y0h 08,y0h h]
theorem zwx{q:Type}(xs:List q)(k:Nat):cutL xs (G (k:Int)) B=xs.drop k:=by
 unfold cutL;rw[HT.sIx_nat,HT.sIx_none];rcases y3z k xs.length with h|h
 .rw[y2r h,y0h<|by rw[y20];show y05 _]
 .rw[y2o h,y3f,y48,y1w h]
theorem zto{q:Type}(xs:List q)(k n:Nat):cutL xs (G (k:Int)) (G ((k+n:Nat):Int))=(xs.drop k).take n:=by
 unfold cutL;rw[HT.sIx_nat,HT.sIx_nat];rcases y3z k xs.length with h|h
 .rw[y2r h];rcases y3z (k+n) xs.length with J|J
  .rw[y2r J,Nat.add_sub_cancel_left]
  .rw[y2o J,y0h (by rw[y20];show y05 _),y0h<|by rw[y20];omega]
 .rw[y2o h,y2o 00,y3f,y48,y1w h,List.take_nil]
theorem zwl(t:Bool)(bs:List Bool):inV (.bl t) 016=bs.any (· ==t):=by
 unfold inV;rw[List.any_map];rfl
theorem zc3(bs:List Bool):(016).all flatV=N:=by rw[y2z];show y0u.mpr λ_ _=>rfl
theorem blEq(xs ys:List Bool):((xs.map V.bl).length==(ys.map V.bl).length&&(List.range (xs.map V.bl).length).all λj=>eqV ((xs.map V.bl).getD j .non)<|(ys.map V.bl).getD j .non)=decide (xs=ys):=by
 rw[y1e];simp only[y08,y0u,y0s,beq_iff_eq,decide_eq_true_eq,y01];constructor
 .intro h;apply y23 λj=>?_;rcases y3y j xs.length with g|g
  .let l:j<ys.length:=by omega
   let:=h.2 j 00;simp only[y02,y03,y00 g,y00 l,y1j,y0y]at this;rw[y00 g,y00 l,eq_of_beq this]
  .rw[y0t g,y0t 00]
 .intro h;subst h;apply⟨R,λj g=>?_⟩;simp only[y02,y03,y00 g,y1j,y0y];show beq_self_eq_true _
theorem eq_bl{X:Cx}{H:Hp}{a b:Ad}{xs ys:List Bool}(d:H a=G (.lst<|xs.map V.bl))(U:H b=G (.lst<|ys.map V.bl)):RcOk X 1 H 07 47 (decide (xs=ys)):=by
 let r:=zo8 (X:=X) (.of d) (.of U) (zc3 xs)<|zc3 ys;rw[blEq]at r;show r
theorem zoq(zs:Bts):(b1 zs).length=zs.length:=by rw[y01,y01]
theorem b1_at{zs:Bts}{i:Nat}{z:Bool×Bool}(h:zs[i]?=G z):(b1 zs)[i]?=G (.bl z.1):=by rw[y03,y03,h];rfl
theorem b2_at{zs:Bts}{i:Nat}{z:Bool×Bool}(h:zs[i]?=G z):(b2 zs)[i]?=G (.bl z.2):=by rw[y03,y03,h];rfl
theorem zjm(zs:Bts)(i:Nat)(hi:i<zs.length):∃za J,zs[i]?=G (za,J)/\atI (b1 zs) (0+(i:Int))=G (.bl za)/\atI (b2 zs) (0+(i:Int))=G (.bl J):=⟨_,_,y00 hi,by rw[y34];show zal<|b1_at (y00 hi),by rw[y34];show zal<|b2_at (y00 hi)⟩
theorem itBf{A Bq:Prop}(h:Bq):asB (.bl Fa) λc=>if c=N then A else Bq:=(Xp 04:(if Fa=N then A else Bq)=Bq)▸h
theorem itNf{A Bq:Prop}(h:A):asB (.bl Fa) λc=>if(!c)=N then A else Bq:=(Xq rfl:(if(!Fa)=N then A else Bq)=A)▸h
def ends63t:Str:="(all x (some y y ahead x or x in Z) and all x (some y x ahead y or not x in Z))"
def turns63t:Str:="all x all y (not x next y or ((x in Z and not y in Z) or (not x in Z and y in Z)))"
def two63t:Str:="(not x same y and (x in X and y in X))"
theorem SayAt.same{H H':Hp}{v:V}{p:Str×List Str×Sy}(h:SayAt H v p)(g:Same H H'):SayAt H' v p:=let⟨t,f,e,J,C⟩:=h;⟨t,f,e,g _ _ J,g _ _ C⟩
structure Says(H0 H:Hp)(p:Ad)(n:Nat)(xs:List V):Prop where
 at':H p=G 91
 nil:H0 p=B
 g:Same H0 H
 pr:i8 (SayAt H) xs<|say63.take n
 few:xs.length<=12
 one:∃t r,xs=.ref t::r
theorem Says.app{M H H1 H2:Hp}{p f t:Ad}{n:Nat}{xs:List V}{z:Str}{ns:List Str}{q:Str×List Str×Sy}(S:Says M H p n xs)(I:n<12)(A:say63[n]?=G q)(d:New H f (.lst<|ns.map V.str) H1)(o:New H1 t (.tup [.str z,.ref f]) H2)(y:z=q.1)(l:ns=q.2.1):H2 p=G 91/\xs.length<ii/\Says M (upd H2 p<|.lst (xs++[.ref t])) p (n+1) (xs++[.ref t]):=by
 subst y l;let Y:xs.length<=11:=by
  rw[S.pr.length,y0w];omega
 let ep:H2 p=G 91:=o.g _ _<|d.g _ _ S.at';let r:H2 f=G (.lst<|q.2.1.map V.str):=o.g _ _ d.at';let(t0,r0,s):=S.one;let fp:∀(f:Ad) (ns:List Str),H2 f=G (.lst<|ns.map V.str)->f≠p:=λf ns e h=>by
  rw[h,ep,s]at e;cases ns with
  |nil=>cases e
  |cons a ns=>cases e
 let c:∀(t:Ad) ys,H2 t=G (.tup ys)->t≠p:=λt ys e h=>by rw[h,ep]at e;cases e
 apply⟨ep,small1000 00,zar,S.nil,(S.g.trans<|d.g.trans o.g).wr S.nil _,?_,by rw[y0d,y0r];omega,t0,r0++[.ref t],by rw[s];rfl⟩;rw[y19,A];apply SM.Paired.snoc (L2.Paired.mapP S.pr λv k h=>?_) ⟨t,f,R,?_,?_⟩
 .let(t,f,e,g,C):=h.same<|d.g.trans o.g;show⟨t,f,e,by rw[zam<|c _ _ g];show g,by rw[zam<|fp _ _ C];show C⟩
 .rw[zam<|c _ _ o.at'];show o.at'
 .rw[zam<|fp _ _ r];show r
theorem zxw(zs:Bts)(k:Nat):cutL (b1 zs) B (G (k:Int))=b1 (zs.take k):=by rw[zfs,←y39,←y39]
theorem zxv(zs:Bts)(k:Nat):cutL (b2 zs) B (G (k:Int))=b2 (zs.take k):=by rw[zfs,←y39,←y39]
theorem wof_2:∀k,k<12->wof k<=2:=by decide
end SM
namespace L2
open PySem PySem.Spec PyProof.Rows PySem.W PySem.Calls
section
variable {X:Cx}{a b e:Expr}{es rest:List Expr}{ta tb te:TE}{tA tB':TT}{tu:TA}{pos:Pos}
theorem zy4{Y:Operator}{r:R2}(D:OpR X (iF Y) r)(d:PE X a ta)(U:PEU X b tb):PEU X (.BinOp a Y b pos) (tOp r ta tb):=λpins s σ H Q I j =>
 wpAny_BinOp (thn (d pins s σ H _ I j) λv s1 zz=>ex5 zz λx H1 I1 r1 E=>thn (U pins s1 σ H1 _ I1 E) λu s2 ⟨c,y,H2,w,l,i⟩=>upT c<|D pins s2 σ H2 x y v u Q w r1 l i)
theorem zrv{n k:Nat}{x:Str}{ps:List Str}{sp:Sp}{p:Pos}(C:CalT X.prog X.w X.K X.mg X.base n x ps sp)(D:Room k X.A)(v:n<=k)(y:Gl X x)(d:PAU X (e::es) tu)(w:010=Fa:=by decide)
  (L:notStar e=N:=by rfl) (J:es.all notStar=N:=by rfl):PE X 024 (tCall sp [] E0 tu):=λpins s σ H Q I j=>by
 let(f,fd,F,b,kp,m):=C.ex;apply iA<|zd2 I y m ?_ w;apply PySem.W.callWith_K (h₀:=X.base) I.ok.mod.kin kp (thn (d pos pins s σ H _ I j) λus s1 ⟨T,vs,H1,I1,r,q⟩=>⟨I1.kIn,?_⟩) (zap L)<|zbh J;let l:Vals (vs++[]) (us++[]):=r.append .nil;let Y:(us++[]).length=ps.length:=by rw[←l.length];show F.len _ _ _ _ q
 apply ji<|iI (F.run X.A X.stack s1 H1 019 (us++[]) (vs++[]) Q E0 T (D.mono v) I1.env0 (b s1 us I1.kIn Y) l q) λres s' z=>?_;cases res with
 |error _=>show z.elim
 |ok O =>
  cases O with
  |ret _=>show I1.after z
  |next=>show z.elim
  |brk=>show z.elim
  |cont=>show z.elim
end
open PySem
theorem fitS{n:Nat}{P:List Va->Prop}(h:∀a us,us.length=n->P (a::us)):∀us:List Va,us.length=n+1->P us
 |a::us,e=>h a us<|Nat.succ.inj e
theorem fit0{P:List Va->Prop}(h:P []):∀us:List Va,us.length=0->P us
 |[],_=>h
theorem fit1{P:List Va->Prop}(h:∀a,P [a]):∀us:List Va,us.length=1->P us:=fitS λa=>fit0<|h a
theorem fit2{P:List Va->Prop}(h:∀a b,P [a,b]):∀us:List Va,us.length=2->P us:=fitS λa=>fit1<|h a
theorem fit3{P:List Va->Prop}(h:∀a b c,P [a,b,c]):∀us:List Va,us.length=3->P us:=fitS λa=>fit2<|h a
theorem fit4{P:List Va->Prop}(h:∀a b c d,P [a,b,c,d]):∀us:List Va,us.length=4->P us:=fitS λa=>fit3<|h a
theorem fit5{P:List Va->Prop}(h:∀a b c d e,P [a,b,c,d,e]):∀us:List Va,us.length=5->P us:=fitS λa=>fit4<|h a
theorem fit6{P:List Va->Prop}(h:∀a b c d e f,P [a,b,c,d,e,f]):∀us:List Va,us.length=6->P us:=fitS λa=>fit5<|h a
end L2
namespace K63
open PySem PySem.Spec PyProof.Rows L2 SS SM
local macro_rules| `(tactic|trivial)=>`(tactic|((try dsimp only[tIfZ,tIfY,tIfX,tSeqZ,tCutZ,asI_l,asR_l,asS_l,asB_l,as1_l,zl7,zl6,zl5,zl4,zrc,rLenZ,rListOfZ,rAllZ,rInZ,rSlLZ,rSlTZ,rAppZ,rCatZ,rLeSZ,tReplace,tListRev,rSplit,rJoin,rPop,rMulS,rNeS2,rEqI,rNeI,rInDc,rLenD,rLenT,rDictOf,rMaxL,rIndex,rCatTN,rCatTE,tDNewN,tDNewTN,tDisp1T,rNeM,rRange2,rListRng,rRepN,rPopAt,rSetL,gSub,ipI,tDGet,tDGet2,sDPut,iEnum,iEZ,iZipL,tLam,tCallA,tCallV,tDef,tListZip,rIskT,rIndexT,tCallG,gLst,rSortS,rSortF,tCallVLE,tCallVE,iRev,tTry,tRaise,tTryA,rIsX,rIsXT,rRepT,iRng3,tTryN,tTryX,rLeL,rNotInD,iZip,rInD,rIxD,rLen,rAll,rAny,rSum,rListOf,rEqS,rNeS,rSlTN,rStrB,tTupN,tLstN,rSlLN,rCatN,cxK,cxP,cxW,tSeq,tIfS,tTest,tB,tOp,tUn,tC,tAnd,tOr,tNot,tAndV,tOrV,tNotV,tIf,tNext,tBreak,tCont,tDrop,tRet,tRetN,gName,gNil,gCons,gTup,tAsg,tPar,tAug,rI,rI0,rU,rEq,rNe,tChain,tNil,tCons,tTup,tLst,tCall,tCB,tNoPart,tPart,tSl,rSlT,rSlL,rSlS,rIxL,rIxT,rIxS,rIn,tBM0,tBM,tyV,rAppend,rExtend,rCat,rZfill,rEqD,iList,iTup,iStr,iRng1,iRng2,tYes,tDisp,tPairs,rd_v0,rd_vS,zrb,zxd,znt,znu,List.set_cons_zero,List.set_cons_succ,y2i,y1u,rd_ss,rd_si,rd_is,rd_ii,rd_bb]);(try simp only[tIfZ,tIfY,tIfX,tSeqZ,tCutZ,asI_l,asR_l,asS_l,asB_l,as1_l,zl7,zl6,zl5,zl4,zrc,rLenZ,rListOfZ,rAllZ,rInZ,rSlLZ,rSlTZ,rAppZ,rCatZ,rLeSZ,tReplace,tListRev,rSplit,rJoin,rPop,rMulS,rNeS2,exists_eq',rEqI,rNeI,rInDc,rLenD,rLenT,rDictOf,rMaxL,rIndex,rCatTN,rCatTE,tDNewN,tDNewTN,tDisp1T,rNeM,rRange2,rListRng,rRepN,rPopAt,rSetL,gSub,ipI,tDGet,tDGet2,sDPut,iEnum,iEZ,iZipL,tLam,tCallA,tCallV,tDef,tListZip,rIskT,rIndexT,tCallG,gLst,rSortS,rSortF,tCallVLE,tCallVE,iRev,tTry,tRaise,tTryA,rIsX,rIsXT,rRepT,iRng3,tTryN,tTryX,rLeL,rNotInD,iZip,rInD,rIxD,rLen,rAll,rAny,rSum,rListOf,rEqS,rNeS,rSlTN,rStrB,tTupN,tLstN,rSlLN,rCatN,cxK,cxP,cxW,tSeq,tIfS,tTest,tB,tOp,tUn,tC,tAnd,tOr,tNot,tAndV,tOrV,tNotV,tIf,tNext,tBreak,tCont,tDrop,tRet,tRetN,gName,gNil,gCons,gTup,tAsg,tPar,tAug,rI,rI0,rU,rEq,rNe,tChain,tNil,tCons,tTup,tLst,tCall,tCB,tNoPart,tPart,tSl,rSlT,rSlL,rSlS,rIxL,rIxT,rIxS,rIn,tBM0,tBM,tyV,rAppend,rExtend,rCat,rZfill,rEqD,iList,iTup,iStr,iRng1,iRng2,tYes,tDisp,tPairs,rd_v0,rd_vS,zrb,zxd,znt,znu,List.set_cons_zero,List.set_cons_succ,y2i,y1u,y1t,V.int.injEq,V.str.injEq,V.bl.injEq,V.ref.injEq,V.ty.injEq,List.cons.injEq,and_true,true_and,exists_eq_left,exists_eq_left',exists_and_left,exists_eq,exists_const,if_true,if_false,ite_true,ite_false,rd_ss,rd_si,rd_is,rd_ii,rd_bb,Option.some.injEq,exists_eq_right,exists_eq_right',and_assoc,reduceCtorEq,false_and,and_false,false_or,or_false,exists_false])))
noncomputable def top(i:Nat):Stmt:=PySem.Challenge.pw_setsays_k63_whole_long_rows.main.body.getD i<|.Pass ⟨0,0,0,0⟩
structure Txt(K:Frag)(mg:Y1)(w:World)(tw rw fa cj ca ce co cn:Ad):Prop where
 b_isinstance:mg "isinstance"=B
 b_str:mg "str"=B
 b_tuple:mg "tuple"=B
 b_list:mg "list"=B
 b_int:mg "int"=B
 b_bool:mg "bool"=B
 b_dict:mg "dict"=B
 b_set:mg "set"=B
 b_len:mg "len"=B
 b_any:mg "any"=B
 b_sorted:mg "sorted"=B
 b_ValueError:mg "ValueError"=B
 b_min:mg "min"=B
 b_all:mg "all"=B
 b_sum:mg "sum"=B
 b_max:mg "max"=B
 b_range:mg "range"=B
 b_zip:mg "zip"=B
 b_enumerate:mg "enumerate"=B
 b_reversed:mg "reversed"=B
 g_MOST_COME_TO:GlV mg "MOST_COME_TO"<|.int 100
 g_FIGURES:GlV mg "FIGURES"<|.str FIGS
 g_LONGEST_NAME:GlV mg "LONGEST_NAME"<|.int 4
 g_SMALL_LETTERS:GlV mg "SMALL_LETTERS"<|.str SMALL
 g_GREAT_LETTERS:GlV mg "GREAT_LETTERS"<|.str GREAT
 g_MOST_NAMES:GlV mg "MOST_NAMES"<|.int 4
 g_DEEPEST:GlV mg "DEEPEST"<|.int 12
 g_MOST_PARTS:GlV mg "MOST_PARTS"<|.int 60
 g_TELLING_WORDS:GlV mg "TELLING_WORDS"<|.ref tw
 t_TELLING_WORDS:∀H,SqT K H tw [.str "some",.str "all"]
 g_TREE_WORDS:GlV mg "TREE_WORDS"<|.ref rw
 t_TREE_WORDS:∀H,SqT K H rw [.str "left",.str "right",.str "above"]
 g_FORMS:GlV mg "FORMS"<|.ref fa
 f_FORMS:Forms K w fa
 g_JUST_ONCE:GlV mg "JUST_ONCE"<|.ref cj
 c_JUST_ONCE:CMach K cj justM
 g_ANY_ROW:GlV mg "ANY_ROW"<|.ref ca
 c_ANY_ROW:CMach K ca anyM
 g_EACH_IN:GlV mg "EACH_IN"<|.ref ce
 c_EACH_IN:CMach K ce eachM
 g_COMES_AHEAD:GlV mg "COMES_AHEAD"<|.ref co
 c_COMES_AHEAD:CMach K co aheadM
 g_COMES_NEXT:GlV mg "COMES_NEXT"<|.ref cn
 c_COMES_NEXT:CMach K cn nextM
seal PE PT PW PA PS PSs
section
variable {P:ik}{w:World}{K:Frag}{mg:Y1}{base:Heap}{tw rw fa cj ca ce co cn:Ad}
abbrev Vf:Stmt:=top 10
theorem Qj:FnScope ["machine","rooms","known","at","here","room"] ["machine"] (defScope Vf):={}
variable (T:Txt K mg w tw rw fa cj ca ce co cn)
include T in
theorem zpl(d:Dfn K mg "reached" Vf ["machine"]):03 1 "reached" ["machine"] zhc:=by
 apply d.cal Qj 35 46
 .nofun
 let(a,m,rfl,(b,c,rs,ea,L,pr,ec),ok,q):=h;let C:=zez hr 8 04;let d9:=zb0 ok.wid;let hf:m.n<=100:=ok.few;let at1:atI [nV m.w,V.ref b,V.ref c] 1=G (V.ref b):=zal (j:=1) rfl;apply⟨_,(zab (zat (i:=1) Qj.nd R 39<|zax (pa_c zad zaa))<|zab (zat (i:=2) Qj.nd R 39<|zy0 (zvg zad zbj zys) R R 06 04) (zab (zat (i:=3) Qj.nd R 39 zad)<|zab (zin PassesOwn.never (zak zpd (pv 3) 044 49)<|zab (zat (i:=4) Qj.nd R 39<|zaq (zbc K) (pv 1) (pv 3) (λ_ _=>rfl)) (zab (zcf PassesOwn.never R (zbw K<|zaq 38 (zaq 38 (pv 0) zad λ_ _=>rfl) (pv 4) (λ_ _=>rfl)) (zai (i:=5) Qj.nd 01 36)<|zac (zaz (zak (zdg C) (pv 5) (pv 2)<|by with_unfolding_all rfl) (zab (zfl C (pv 2) (pv 5) zbj R)<|zac (zbm<|zbq K PySem.F.plainAttrs_list PySem.F.slot_list_append PySem.F.type_list_append za9 (pv 1) (pa_c (pv 5) zaa))) zaj))<|zac (ps_aug (i:=3) Qj.nd R 39 zad ip_add))) (zac<|zag (pv 1)))),?_⟩;apply zaw [G 07,B,B,B,B,B] R ?_;trivial;apply⟨by decide,λp H1 I kd nkd=>⟨zar,[((Sum.inl 0:Key),V.bl N)],R,by decide,?_⟩⟩;let npk:p≠kd:=zav I.at' nkd;apply⟨λmm σ H'=>∃(rooms:List Nat) (at':Nat) (v4 v5:Option V),mm=m.n-at'/\Same H H'/\σ=[G 07,G 09,G<|.ref kd,G<|nV at',v4,v5]/\H' p=G (.lst<|rooms.map nV)/\H' kd=G (.dK<|knT rooms)/\Come m rooms at' 0/\at'<=rooms.length,
  ⟨m.n,[0],0,B,B,R,?_,R,?_,?_,Come.start ok.pos,y13 _⟩,?_⟩
 .exact((I.g.trans<|zba nkd _).wr (I.g.free nkd) _)
 .rw[zam npk,zam npk];show I.at'
 .rw[zar];rfl
 rintro mm σ H' ⟨rooms,at',v4,v5,rfl,g,rfl,ep,ek,cm,ha⟩;let hrl:rooms.length<=m.n:=zdh cm.nd cm.lt;trivial;apply⟨_,.inl<|.of ep,?_⟩;rw[y01];by_cases o:at'<rooms.length
 .refine itT (show(at':Int)<(rooms.length:Int) by omega) ⟨λM aa=>∃O,O<m.n-at'/\_,λM aa z=>z,?_⟩;ac_rfl;let de:=cm.lt _<|zef o;let atr:(rooms.map nV)[at']?=G (nV<|ix rooms at'):=by rw[y03,zcr o];rfl
  let am:ix rooms at'<m.ways.length:=by rw[ok.len];show de
  let(v,ev,a2,rfl,e4):=Paired.at2 pr<|y00 am;let D:=ok.line _<|y0k am;apply zk ?_;apply⟨_,.of ep,_,zal atr,_,.of<|g _ _ ea,_,at1,_,.of<|g _ _ L,_,zal ev,⟨_,.of<|g _ _ e4⟩,?_⟩;apply ztc (K:=K) (a:=a2) (xs:=m.ways[ix rooms at'].map nV) (λl σ aa=>Same H aa/\∃(u:List Nat) (v5:Option V),σ=[G 07,G 09,G<|.ref kd,G<|nV at',G<|nV (ix rooms at'),v5]/\aa p=G (.lst<|u.map nV)/\aa kd=G (.dK<|knT u)/\Come m u at' l/\at'<u.length/\ix u at'=ix rooms at')
   ⟨g,rooms,_,R,ep,ek,cm,o,R⟩ (λi σ aa _ z=>.of<|z.1 _ _ e4) ?_ ?_
  .rintro l y σ aa U ⟨g2,u,v5',rfl,fq,x,J,kh,ei⟩;rw[y03]at U;ac_rfl;let(r,er,rfl):=y1a.mp U;let Y:l<2^m.w:=by rw[←D];show(y0g.mp er).1
   let(line,f1,f2,f3):=ok.at de Y;let egl:r=m.go (ix u at') l:=by
    rw[y00 am]at f1;cases f1;rw[er]at f2;rw[ei];show Option.some.inj f2
   let hrl2:u.length<=m.n:=zdh J.nd J.lt;let nn:p≠kd:=zsg fq x (by intro z;cases z);apply zk ?_;trivial;apply⟨_,DGet.n x,?_⟩;rw[zmr];by_cases hm:r∈u
   .rw[Xq hm];apply iteF ⟨g2,u,fq,x,?_,kh,ei⟩;show J.old kh (by rw[←egl];show hm)
   .rw[Xp hm];let hnk:H kd=B:=I.g.free nkd;apply iteT ⟨_,DPut.n x (by rw[knT_len];show small1000 00),.inl ⟨_,.of<|by rw[zam nn];show fq⟩,_,by rw[zam nn];show fq,by rw[y01];show small1000 00,?_⟩;apply⟨(g2.wr hnk _).wr I.nil _,u++[r],?_,?_,?_,by rw[y0d,y0r];omega,by rw[zxs kh];show ei⟩
    .rw[zar,y0v];rfl
    .rw[zam<|Ne.symm nn,zar,knT_put hm]
    .let z:=J.new kh Y (by rw[ei];show f3) (by rw[←egl];show hm);rw[←egl]at z;show z
  .rintro σ aa ⟨g2,u,v5',rfl,fq,x,J,kh,ei⟩;rw[y01,D]at J;let hrl2:u.length<=m.n:=zdh J.nd J.lt;trivial;show⟨_,R,_,R,m.n-(at'+1),by omega,u,at'+1,R,g2,R,fq,x,J.turn,by omega⟩
 .rw[Xf<|show¬(at':Int)<(rooms.length:Int) by omega];let e:at'=rooms.length:=by omega
  subst e;apply iteF ?_;show q p rooms H' I.nil g ep cm
abbrev Q7:Stmt:=top 11
theorem zeu:FnScope ["rooms","numbers"] ["rooms","numbers"] (defScope Q7):={}
include T in
theorem zpj(d:Dfn K mg "renamed" Q7 ["rooms","numbers"]):03 1 "renamed" ["rooms","numbers"] zeq:=by
 apply d.cal zeu 35 46
 .nofun
 let(a,b,l,g,rfl,c,j,lk,q):=h;let C:=zez hr 8 04;rcases lk with⟨kvs,L,hv⟩|⟨ns,L,hv⟩
 .refine⟨_,(zac<|zag (zbp zau 01 T.b_tuple iR<|pa_c (zas ["room"] [(1,"numbers")] 89 01 (zbw K<|pv 0) (λ_ _ _ _ _=>(zai (i:=0) (show List.Nodup (["room","numbers"]:List Str) by decide+kernel) 01 36)) (λ_ _ _ _ _=>za4) λ_ _ _ _ _=>(zfn C (pv 1) (pv 0) λ_ _=>rfl)) zaa)),?_⟩;apply zaw [G 07,G 47] R ?_;trivial;apply⟨⟨_,.of c⟩,zfa (K:=K) (a:=a) (xs:=l.map nV) (λσ=>∃v,σ=[v,G 47]) (λy=>match y with|.int z=>nV (g z.toNat)|v=>v) (by rw[y01];omega) (.of c) ⟨_,R⟩ ?_ ?_⟩
  .rintro D i σ H' x hi M O e u J ⟨v,rfl⟩;let(r,I,rfl):=y0e.mp M;let z:=DGet.n (n:=(r:Int))<|e _ _ L;rw[hv r I]at z;trivial;show⟨_,z,zbo (by rw[y01];omega) O u J e ⟨_,R⟩ R⟩
  intro D H1 u g1 U;let p:H1 D=G (.lst<|(l.map g).map nV):=by rw[U,y0q,y0q];rfl
  show⟨_,R,_,.inl ⟨.of p,λt H2 o=>q t H2 (g1.trans o.g) o.at'⟩⟩
 .refine⟨_,(zac<|zag (zbp zau 01 T.b_tuple iR<|pa_c (zas ["room"] [(1,"numbers")] 89 01 (zbw K<|pv 0) (λ_ _ _ _ _=>(zai (i:=0) (show List.Nodup (["room","numbers"]:List Str) by decide+kernel) 01 36)) (λ_ _ _ _ _=>za4) λ_ _ _ _ _=>(zaq (zbc K) (pv 1) (pv 0) λ_ _=>rfl)) zaa)),?_⟩;apply zaw [G 07,G 47] R ?_;trivial;apply⟨⟨_,.of c⟩,zfa (K:=K) (a:=a) (xs:=l.map nV) (λσ=>∃v,σ=[v,G 47]) (λy=>match y with|.int z=>nV (g z.toNat)|v=>v) (by rw[y01];omega) (.of c) ⟨_,R⟩ ?_ ?_⟩
  .rintro D i σ H' x hi M O e u J ⟨v,rfl⟩;let(r,I,rfl):=y0e.mp M;let z:atI (ns.map nV) (r:Int)=G (nV<|g r):=zal (by rw[y03,hv r I];rfl);trivial;show⟨_,.of<|e _ _ L,_,z,zbo (by rw[y01];omega) O u J e ⟨_,R⟩ R⟩
  intro D H1 u g1 U;let p:H1 D=G (.lst<|(l.map g).map nV):=by rw[U,y0q,y0q];rfl
  show⟨_,R,_,.inl ⟨.of p,λt H2 o=>q t H2 (g1.trans o.g) o.at'⟩⟩
abbrev Vq:Stmt:=top 12
theorem Vd:FnScope ["machine","rooms","numbers","ways","ends"] ["machine","rooms","numbers"] (defScope Vq):={}
include T in
theorem zr6(d:Dfn K mg "picked" Vq ["machine","rooms","numbers"])(Qm:03 1 "renamed" ["rooms","numbers"] zeq):03 2 "picked" ["machine","rooms","numbers"] zj0:=by
 apply d.cal Vd 35 46
 .nofun
 let(a,b,c,m,rooms,g,rfl,(b1,c1,rs,ea,aj,pr,bu),ok,L,b0,hr',lk,q):=h;let d9:=zb0 ok.wid;apply⟨_,(zab (zdy (i:=3) Vd.nd R 39 ["room"] [(2,"numbers"),(0,"machine")] 89 01 (za2 K<|pv 1) (λ_ _ _ _ _=>(zai (i:=0) (show List.Nodup (["room","numbers","machine"]:List Str) by decide+kernel) 01 36)) (λ_ _ _ _ _=>za4) λ_ _ _ _ _=>(zae Qm hr 00 01<|pa_c (zaq 38 (zaq 38 (pv 2) zad λ_ _=>rfl) (pv 0) λ_ _=>rfl) 97))<|zab (zdy (i:=4) Vd.nd R 39 ["room"] [(0,"machine")] 89 01 (za2 K<|pv 1) (λ_ _ _ _ _=>(zai (i:=0) (show List.Nodup (["room","machine"]:List Str) by decide+kernel) 01 36)) (λ_ _ _ _ _=>za4) λ_ _ _ _ _=>(zaq 38 (zaq 38 (pv 1) zad λ_ _=>rfl) (pv 0) λ_ _=>rfl)) (zac<|zag (zay<|pa_c (zaq 38 (pv 0) zad λ_ _=>rfl) (pa_c (zbp zau 01 T.b_tuple iR 037)<|pa_c (zbp zau 01 T.b_tuple iR<|pa_c (pv 4) zaa) zaa)))),?_⟩;apply zaw [G 07,G 47,G<|.ref c,B,B] R ?_;trivial;let wat:∀{i:Nat},i<rooms.length->∃a2,rs[ix rooms i]?=G (.ref a2)/\H a2=G (.tup<|(m.ways.getD (ix rooms i) []).map nV)/\(m.ways.getD (ix rooms i) []).length<=16:=λ{i} hi=>by
  ac_rfl;let am:ix rooms i<m.ways.length:=by rw[ok.len];show hr' _<|zef hi
  let(v2,ev,a2,rfl,e4):=Paired.at2 pr<|y00 am;let eg:m.ways.getD (ix rooms i) []=m.ways[ix rooms i]:=by rw[y02,y00 am];rfl
  apply zk ?_;rw[eg];apply⟨a2,ev,e4,?_⟩;rw[ok.line _<|y0k am];omega
 apply⟨⟨_,.of L⟩,zjc (n:=rooms.length) (λσ=>∃v,σ=[v,G<|.ref c,G 07]) (λj y H=>Line H y<|(m.ways.getD (ix rooms j) []).map g) 00 ⟨_,R⟩ (λi H' hi e=>⟨_,nV<|ix rooms i,.of<|e _ _ L,by rw[y03,zcr hi];rfl⟩) (λH' e=>⟨_,.of<|e _ _ L,by rw[y01];show y05 _⟩) ?_ ?_⟩
 .rintro D i ys σ H1 x H1' hi e u J Y U ⟨v,rfl⟩ ⟨rfl,yx⟩;let ex:=yx _<|.of (e _ _ L);rw[y03,zcr hi]at ex;cases ex;ac_rfl;let(a2,ev,e4,h16):=wat hi;apply zk ?_;trivial;show⟨_,.of<|e _ _ ea,_,zal (j:=1) R,ixm (.of<|e _ _ aj) (zal ev) ⟨a2,c,_,g,R,e _ _ e4,h16,(lk _ (zef hi)).same e,λp H2 o C=>zcs (λj y H H' ts z=>z.ts ts) 00 hi u (o _ _ J) Y U o.tups (e.trans o) ⟨_,R⟩ ⟨p,R,C⟩⟩⟩
 intro D1 ys H1 df g1 eD1 bf hy1;trivial;apply⟨⟨_,.of<|g1 _ _ L⟩,zd3 (K:=K) (a:=b) (xs:=rooms.map nV) (λσ=>∃v,σ=[v,G 07]) (λy=>match y with|.int z=>.bl (m.fin z.toNat)|v=>v) (by rw[y01];omega) (.of<|g1 _ _ L) ⟨_,R⟩ ?_ ?_⟩
 .rintro D i σ H' x hi M O e u J ⟨v,rfl⟩;let(r,mr,rfl):=y0e.mp M;let at3:(m.ends.map V.bl)[r]?=G (.bl<|m.fin r):=by rw[y03,Mc.fin_at<|hr' r mr];rfl
  trivial;show⟨_,.of<|(g1.trans e) _ _ ea,_,zal (j:=2) R,ixm (.of<|(g1.trans e) _ _ bu) (zal at3)<|zbo (by rw[y01];omega) O u J e ⟨_,R⟩ R⟩
 intro D2 H2 bq o b7;let eD2':H2 D2=G (.lst<|(rooms.map m.fin).map V.bl):=by rw[b7,y0q,y0q];rfl
 let I:=g1.trans o;trivial;apply⟨_,.of<|I _ _ ea,_,zca,_,.inl ⟨.of<|o _ _ eD1,λt1 H3 n3=>⟨_,.inl ⟨.of<|n3.g _ _ eD2',λt2 H4 n4=>mkT λt3 H5 n5=>?_⟩⟩⟩⟩;let g25:Same H2 H5:=n3.g.trans<|n4.g.trans n5.g;apply q t3 H5 (I.trans g25) ⟨t1,t2,ys,n5.at',(n4.g.trans n5.g) _ _ n3.at',zb2 (by rw[bf];show(y01 _).symm) λj y l e1 C=>?_,n5.g _ _ n4.at'⟩;let hj:j<rooms.length:=by rw[←bf];show(y0g.mp e1).1
 let ac:G ((m.ways.getD (ix rooms j) []).map g)=G l:=by rw[←C];change _=(rooms.map λr=>(m.ways.getD r []).map g)[j]?;rw[y03,zcr hj];rfl
 cases ac;show(hy1 j y e1).ts (o.trans g25).tups
abbrev Kt:Stmt:=top 13
theorem Qp:FnScope ["marks","numbers","mark"] ["marks"] (defScope Kt):={}
include T in
theorem zme(d:Dfn K mg "numbered" Kt ["marks"]):03 1 "numbered" ["marks"] zdu:=by
 apply d.cal Qp 35 46
 .rcases h with⟨a,bs,rfl,_⟩|⟨a,rs,Y,rfl,_⟩<;>rfl
 let C:=zez hr 8 04;rcases h with⟨a,bs,rfl,c,b0,q⟩|⟨a,rs,Y,rfl,c,pr,b0,q⟩
 .refine⟨_,(zab (zat (i:=1) Qp.nd R (Or.inr R) zvl)<|zab (zcf PassesOwn.never R (zbw K<|pv 0) (zai (i:=2) Qp.nd 01 36)<|zac (zaz (zak (zdg C) (pv 2) (pv 1)<|by with_unfolding_all rfl) (zac<|zfl C (pv 1) (pv 2) (za1 zqg 01 T.b_len iy 97) R) zaj)) (zac<|zag (zas ["mark"] [(1,"numbers")] 89 01 (zbw K<|pv 0) (λ_ _ _ _ _=>(zai (i:=0) (show List.Nodup (["mark","numbers"]:List Str) by decide+kernel) 01 36)) (λ_ _ _ _ _=>za4) λ_ _ _ _ _=>(zfn C (pv 1) (pv 0) λ_ _=>rfl)))),?_⟩;apply zaw [G 07,B,B] R ?_;trivial
  applyλp H1 I=>⟨⟨_,.of<|I.g _ _ c⟩,ztc (K:=K) (a:=a) (xs:=bs.map V.bl) (λi σ H'=>Same H H'/\(∃j,σ=[G 07,G 09,j])/\H' p=G (.dK<|tabF keyB 0 (news []<|bs.take i))) ⟨I.g,⟨B,R⟩,I.at'⟩ (λi σ H' _ z=>.of<|z.1 _ _ c) ?_ ?_⟩
  .rintro i y σ H' U ⟨g,⟨j,rfl⟩,ep⟩;rw[y03]at U;let(x,ex,rfl):=y1a.mp U;let en:=zkr ex;let dg:=zfo (bs.take i) [];rw[y0w,y1k]at dg;trivial;apply⟨_,DGet.b ep,?_⟩;by_cases O:x∈news [] (bs.take i)
   .rw[show valV (tabF keyB 0<|news [] (bs.take i)) (.inl<|blI x)=_ from zeo zfp O];show iteF ⟨g,by rw[en,zse O];show ep⟩
   .rw[show valV (tabF keyB 0<|news [] (bs.take i)) (.inl<|blI x)=_ from zfg zfp O];apply iteT ⟨_,ep,_,DPut.b ep (by rw[zdd];show small1000 00),g.wr I.nil _,?_⟩;rw[zar,en,zmk O];show congrArg (λz=>G<|HO.dK z)<|zid zfp O
  .rintro σ H' ⟨g,⟨j,rfl⟩,ep⟩;rw[y01,y0h 08]at ep;trivial;apply⟨⟨_,.of<|g _ _ c⟩,zfa (K:=K) (a:=a) (xs:=bs.map V.bl) (λσ=>∃v,σ=[v,G 09]) (λy=>match y with|.bl x=>nV (nOf (news [] bs) x)|v=>v) (by rw[y01];omega) (.of<|g _ _ c) ⟨_,R⟩ ?_ ?_⟩
   .rintro D i σ H2 x hi M O e u a7 ⟨v,rfl⟩;let(r,mr,rfl):=y0e.mp M;let tv:valV (tabF keyB 0<|news [] bs) (.inl<|blI r)=_:=zeo zfp<|(zb4 bs [] r).mpr (.inr mr);let z:=DGet.b (b:=r)<|e _ _ ep;rw[tv]at z;trivial;show⟨_,z,zbo (by rw[y01];omega) O u a7 e ⟨_,R⟩ R⟩
   intro D H3 u g3 l;show q D (bs.map<|nOf (news [] bs)) H3 (g.free u) (g.trans g3) (by rw[l,y0q,y0q];rfl)<|zxk bs
 .let hlr:=SS.Paired.len pr;apply⟨_,(zab (zat (i:=1) Qp.nd R (Or.inr R) zrq)<|zab (zcf PassesOwn.never R (za2 K<|pv 0) (zai (i:=2) Qp.nd 01 36)<|zac (zaz (zak (zdg C) (pv 2) (pv 1)<|by with_unfolding_all rfl) (zac<|zfl C (pv 1) (pv 2) (za1 zt8 01 T.b_len iy 97) R) zaj)) (zac<|zag (zas ["mark"] [(1,"numbers")] 89 01 (za2 K<|pv 0) (λ_ _ _ _ _=>(zai (i:=0) (show List.Nodup (["mark","numbers"]:List Str) by decide+kernel) 01 36)) (λ_ _ _ _ _=>za4) λ_ _ _ _ _=>(zfn C (pv 1) (pv 0) λ_ _=>rfl)))),?_⟩;apply zaw [G 07,B,B] R ?_;trivial
  applyλp H1 I=>⟨⟨_,.of<|I.g _ _ c⟩,zi6 (K:=K) (a:=a) (xs:=rs) (λi σ H'=>Same H H'/\(∃j,σ=[G 07,G 09,j])/\H' p=G (.dT<|tabF keyL 0 (news []<|Y.take i))) ⟨I.g,⟨B,R⟩,I.at'⟩ (λi σ H' _ z=>.of<|z.1 _ _ c) ?_ ?_⟩
  .rintro i y σ H' U ⟨g,⟨j,rfl⟩,ep⟩;ac_rfl;let(x,ex,t,rfl,et):=SS.Paired.at pr U;let en:=zkr ex;let dg:=zfo (Y.take i) [];apply zk ?_;rw[y0w,y1k]at dg;let o:H' t=G (.tup<|(keyL x).map kV):=by rw[zkx];show g _ _ et
   trivial;apply⟨_,DGet.t ep o,?_⟩;by_cases O:x∈news [] (Y.take i)
   .rw[show valV (tabF keyL 0<|news [] (Y.take i)) (keyL x)=_ from zeo zb6 O];show iteF ⟨g,by rw[en,zse O];show ep⟩
   .rw[show valV (tabF keyL 0<|news [] (Y.take i)) (keyL x)=_ from zfg zb6 O];apply iteT ⟨_,ep,_,DPut.t ep o (by rw[zdd];show small1000 00),g.wr I.nil _,?_⟩;rw[zar,en,zmk O];show congrArg (λz=>G<|HO.dT z)<|zid zb6 O
  .rintro σ H' ⟨g,⟨j,rfl⟩,ep⟩;rw[y0h 00]at ep;trivial;apply⟨⟨_,.of<|g _ _ c⟩,zmy (K:=K) (a:=a) (xs:=rs) (λσ=>∃v,σ=[v,G 09]) (λi=>nV<|nOf (news [] Y) (Y.getD i [])) 00 (.of<|g _ _ c) ⟨_,R⟩ ?_ ?_⟩
   .rintro D i σ H2 x hi O e u a7 ⟨v,rfl⟩;ac_rfl;let(r,er,t,rfl,et):=SS.Paired.at pr O;let tv:valV (tabF keyL 0<|news [] Y) (keyL r)=_:=zeo zb6<|(zb4 Y [] r).mpr (.inr<|y0n er);let o:H2 t=G (.tup<|(keyL r).map kV):=by rw[zkx];show e _ _<|g _ _ et
    let z:=DGet.t (e _ _ ep) o;apply zk ?_;rw[tv]at z;trivial;apply⟨_,z,cstep (zaf 00) hi a7 06 ⟨e.wr u _,⟨_,R⟩,?_⟩⟩;rw[y2h,y0v,List.map_singleton,y02,er,y0y]
   intro D H3 u g3 l;apply q D (Y.map<|nOf (news [] Y)) H3 (g.free u) (g.trans g3) ?_<|zxk Y;rw[l,hlr];congr 2;apply y2q 06 λi L J=>?_;simp only[y01,y0x]at L;simp[y02,y00 L]
abbrev Q8:Stmt:=top 14
theorem zgy:FnScope ["machine","sorts"] ["machine","sorts"] (defScope Q8):={}
include T in
theorem zv5(d:Dfn K mg "finer_sorts" Q8 ["machine","sorts"])(Qm:03 1 "renamed" ["rooms","numbers"] zeq)(Ku:03 1 "numbered" ["marks"] zdu):03 2 "finer_sorts" ["machine","sorts"] znl:=by
 apply d.cal zgy 35 46
 .nofun
 let(a,b,m,ns,rfl,(b1,M,rs,c,aj,pr,bu),ok,L,S,q):=h;let d9:=zb0 ok.wid;let hf:m.n<=100:=ok.few;let ft:ns.length=m.n:=S.len;let hrs:rs.length=m.n:=by rw[SS.Paired.len pr,ok.len]
 apply⟨_,(zac<|zag (zae Ku hr 00 01<|pa_c (zas ["sort","ways"] [(1,"sorts")] 89 01 (zvi K 01 T.b_zip<|pa_c (pv 1) (pa_c (zaq 38 (pv 0) zad λ_ _=>rfl) zaa)) (λ_ _ _ _ _=>(zd0 K (n:=2) R<|zbe (zai (i:=0) (show List.Nodup (["sort","ways","sorts"]:List Str) by decide+kernel) 01 36) (zbe (zai (i:=1) (show List.Nodup (["sort","ways","sorts"]:List Str) by decide+kernel) 01 36) zdz))) (λ_ _ _ _ _=>za4) λ_ _ _ _ _=>(za0 (zr1 K) (zay 90)<|zae Qm hr 00 01 (pa_c (pv 1)<|pa_c (pv 2) zaa))) zaa)),?_⟩;apply zaw [G 07,G 47] R ?_;trivial;apply⟨_,.of c,_,zal (j:=1) R,_,R,⟨_,.of L⟩,⟨_,.of aj⟩,zjc (n:=m.n) (λσ=>∃v v',σ=[v,v',G 47]) (λj y H=>Line H y<|markOf m ns j) 00 ⟨_,_,R⟩ (λi H' hi e=>?_) (λH' e=>⟨_,_,.of<|e _ _ L,.of<|e _ _ aj,by rw[y01];omega⟩) ?_ ?_⟩
 .let(v2,ev,_):=Paired.at2 pr<|y00 (show i<m.ways.length by rw[ok.len];show hi);show⟨_,_,nV<|ix ns i,v2,.of<|e _ _ L,.of<|e _ _ aj,by rw[y03,zcr 00];rfl,ev⟩
 .rintro D i ys σ H1 x H1' hi e u J Y U ⟨v,v',rfl⟩ yz;ac_rfl;let(p,x1,y1,rfl,I,ex,ey):=zul (.of<|e _ _ L) (.of<|e _ _ aj) yz;apply zk ?_;rw[y03,zcr 00]at ex;cases ex;ac_rfl;let O:i<m.ways.length:=by rw[ok.len];show hi
  let(v2,ev,a2,rfl,e4):=Paired.at2 pr<|y00 O;apply zk ?_;rw[ev]at ey;cases ey;let eg:m.ways.getD i []=m.ways[i]:=by rw[y02,y00 O];rfl
  let bd:=ok.line _<|y0k O;let g1:=e.trans I.g;trivial;apply⟨_,.of I.at',R,_,_,R,_,_,R,R,mkT λt H2 o=>⟨a2,b,m.ways[i],ix ns,R,o.g _ _<|g1 _ _ e4,by omega,.inr ⟨ns,o.g _ _<|g1 _ _ L,λr mr=>zcr<|by rw[ft];show ok.room _ (y0k O) r mr⟩,λp3 H3 g3 e3=>?_⟩⟩;apply⟨_,R,_,.of<|g3 _ _ o.at',_,.of e3,by simp,?_,?_,λp4 H4 n4=>?_⟩
  .intro z;let:=congrArg List.length z;rw[y01,y01,y1k]at this;omega
  .rw[y01,y01,y0r];show zaf 00
  let cz:Same H1' H4:=o.g.trans<|g3.trans n4.g;apply zcs (λj y H H' ts z=>z.ts ts) 00 hi u (cz _ _<|I.g _ _ J) Y U (I.g.trans cz).tups (g1.trans cz) ⟨_,_,R⟩ ⟨p4,R,?_⟩;rw[n4.at'];unfold markOf;rw[eg];rfl
 intro D ys H1 u g1 eD Y U;apply .inr ⟨D,ys,(List.range m.n).map<|markOf m ns,R,eD,zb2 (by rw[Y,y01,y0x]) λj y l g C=>?_,by rw[y01,y0x];omega,λD2 fs H2 bq g2 C Nq=>q D2 fs H2 (g1.free bq) (g1.trans g2) C Nq⟩;let hj:j<m.n:=by rw[←Y];show(y0g.mp g).1
 rw[y03,y17 hj]at C;cases C;show U j y g
abbrev K8:Stmt:=top 15
theorem Qq:FnScope ["ends","part_further","sorts","finer"] ["ends","part_further"] (defScope K8):={}
include T in
theorem zph(d:Dfn K mg "sorts_by" K8 ["ends","part_further"])(Y:03 1 "numbered" ["marks"] zdu):03 4 "sorts_by" ["ends","part_further"] (zha P w K mg base):=by
 apply d.cal Qq 35 46
 .nofun
 let(e,pf,fd,bs,Rq,J,y,l,rfl,ee,U,r,cl,v,x,D,hJl,hnx,q):=h;let hu:=zez hr 8 04;apply⟨_,(zab (zat (i:=2) Qq.nd R 39<|zae Y hr 00 01 90)<|zab (zat (i:=3) Qq.nd R 39<|zc0 P w K mg base 1 3 1 (zif Rq J y) hr 00 (pa_c (pv 2) zaa)) (zab (zin PassesOwn.never (zak (zza K hu) (pv 3) (pv 2) 49)<|zab (zat (i:=2) Qq.nd R 39<|pv 3) (zac<|zat (i:=3) Qq.nd R 39 (zc0 P w K mg base 1 3 1 (zif Rq J y) hr 00<|pa_c (pv 2) zaa)))<|zac (zag<|pv 2))),?_⟩;apply zaw [G<|.ref e,G<|.ref pf,B,B] R ?_;trivial;apply .inl ⟨e,bs,R,ee,U,λp ns H1 c g1 e1 N1=>?_⟩;apply⟨pf,R,fd,g1 _ _ r,g1 _ _ r,cl.mono g1.frz,R,p,ns,R,x _ _ g1 v,e1,D ns N1,λL fs H2 u o C N2=>?_⟩;apply⟨λa σ H'=>∃(ns fs:List Nat) (p L:Ad),a=l ns/\Same H H'/\σ=[G<|.ref e,G<|.ref pf,G<|.ref p,G<|.ref L]/\H' p=G (.lst<|ns.map nV)/\H' L=G (.lst<|fs.map nV)/\J ns/\y ns fs,
  ⟨_,ns,fs,p,L,R,g1.trans o,R,o _ _ e1,C,D ns N1,N2⟩,?_⟩
 rintro a σ H' ⟨ns,fs,p,L,rfl,g,rfl,e1,C,S,Nq⟩;let(S',dn):=hnx ns fs S Nq;trivial;apply⟨fs.map λ(n:Nat)=>(n:Int),.of (by rw[←zn3];show C),ns.map λ(n:Nat)=>(n:Int),.of (by rw[←zn3];show e1),?_⟩;by_cases I:fs=ns
 .rw[Xg<|by rw[I]];apply iteF ?_;show q p ns H' g e1 S<|I▸Nq
 .rw[Xf λz=>I<|ze8 z];apply iteT ⟨λM aa=>∃O,O<l ns/\_,λM aa z=>z,?_⟩;apply⟨pf,R,fd,g _ _ r,g _ _ r,cl.mono g.frz,R,L,fs,R,x _ _ g v,C,S',λD3 fs' H3 bg g3 j N3=>⟨l fs,dn I,fs,R,g.trans g3,fs',L,D3,R,g3 _ _ C,j,S',N3⟩⟩
abbrev Vl:Stmt:=top 16
theorem Q3:FnScope ["machine","rooms","in_order","sorts","firsts"] ["machine"] (defScope Vl):={}
abbrev qs_reduced:List (Pos×Str):=[(⟨58,34,58,80⟩,"reduced.<locals>.<lambda>")]
include T in
theorem zpk{c Pt:Ad}(d:DfnC K mg "reduced" Vl ["machine"] c Pt)(kb:BltK base mg)(Qab:03 1 "reached" ["machine"] zhc)(T1:03 2 "picked" ["machine","rooms","numbers"] zj0)(Te:03 2 "finer_sorts" ["machine","sorts"] znl)(Pu:03 4 "sorts_by" ["ends","part_further"]<|zha P w K mg base):03 5 "reduced" ["machine"] (zdt Pt qs_reduced):=by
 apply d.cal Q3 35 λf A outer s H vs Q E hr h=>?_
 .nofun
 let(a,m,rfl,tab,rm,ok,q):=h;let hf:m.n<=100:=ok.few;apply⟨_,(zab (zat (i:=1) Q3.nd R 39<|zae Qab hr 00 01 90)<|zab (zat (i:=2) Q3.nd R (Or.inr R)<|zae T1 hr 00 01 (pa_c (pv 0)<|pa_c (pv 1) (pa_c (zbp (zjk K R) 01 T.b_dict boot_dict<|pa_c (zas ["number","room"] [] 89 01 (zir K 01 T.b_enumerate 97) (λ_ _ _ _ _=>(zd0 K (n:=2) R<|zbe (zai (i:=0) (show List.Nodup (["number","room"]:List Str) by decide+kernel) 01 36) (zbe (zai (i:=1) (show List.Nodup (["number","room"]:List Str) by decide+kernel) 01 36) zdz))) (λ_ _ _ _ _=>za4) λ_ _ _ _ _=>(zay<|pa_c (pv 1) 90)) zaa) zaa))) (zab (zat (i:=3) Q3.nd R (Or.inr R)<|zc1 Pu hr 00 01 (λ_=>rfl) (pa_c (zaq 38 (pv 2) zad λ_ _=>rfl)<|pa_c (zkg (qs:=qs_reduced) "reduced.<locals>.<lambda>" rfl d.code kb 01 01) zaa))<|zab (zdy (i:=4) Q3.nd R 39 ["sort"] [(3,"sorts")] 89 01 (zbi 01 T.b_range<|pa_c (za0 zcb (za1 (zm2 K R) 01 T.b_max boot_max 037) zad) zaa) (λ_ _ _ _ _=>(zai (i:=0) (show List.Nodup (["sort","sorts"]:List Str) by decide+kernel) 01 36)) (λ_ _ _ _ _=>za4) λ_ _ _ _ _=>(zbq K PySem.F.plainAttrs_list PySem.F.slot_list_index PySem.F.type_list_index (zsj K) (pv 1) 90)) (zac<|zag (zae T1 hr 00 01<|pa_c (pv 2) (pa_c (pv 4) 037))))),?_⟩;apply zaw [G 07,B,B,B,B] R ?_;trivial;apply⟨a,m,R,rm,ok,λD rooms H1 u g1 eD cm=>?_⟩;let hrl:rooms.length<=m.n:=zdh cm.nd cm.lt;apply⟨_,R,⟨_,.of eD⟩,zjc (n:=rooms.length) (λσ=>∃v v',σ=[v,v']) (λj y H=>∃t,y=.ref t/\H t=G (.tup [nV<|ix rooms j,nV j])) 00 ⟨_,_,R⟩ (λi H' hi gg=>⟨_,nV<|ix rooms i,.of<|gg _ _ eD,by rw[y03,zcr hi];rfl⟩) (λH' gg=>⟨_,.of<|gg _ _ eD,by rw[y01];show y05 _⟩) ?_ ?_⟩
 .rintro D' i ys σ H2 x H2' hi gg df bq Y U ⟨v,v',rfl⟩ yz;ac_rfl;let(p,x1,rfl,n1,ex):=zna (.of<|gg _ _ eD) yz;apply zk ?_;rw[y03,zcr hi]at ex;cases ex;trivial;apply⟨_,.of n1.at',R,_,_,R,_,_,R,R,mkT λt H3 n3=>zcs (λj y H H' ts ⟨t,e,z⟩=>⟨t,e,ts _ _ z⟩) 00 hi df (n3.g _ _<|n1.g _ _ bq) Y U (n1.g.trans n3.g).tups (gg.trans<|n1.g.trans n3.g) ⟨_,_,R⟩ ⟨t,R,n3.at'⟩⟩
 intro D2 ys H2 bq o b7 cf d5;let hpo:∀j y (l:Key×V),ys[j]?=G y->((List.range rooms.length).map λi=>((Sum.inl ((ix rooms i:Nat):Int):Key),nV i))[j]?=G l->PairV H2 y l:=λj y l e1 C=>by
  let hj:j<rooms.length:=by rw[←cf];show(y0g.mp e1).1
  rw[y03,y17 hj]at C;cases C;show d5 j y e1
 apply⟨_,R,_,.of b7,(List.range rooms.length).map λi=>((Sum.inl ((ix rooms i:Nat):Int):Key),nV i),zb2 (by rw[cf,y01,y0x]) hpo,by rw[y01,y0x];omega,λdd H3 n3=>?_⟩;ac_rfl;let ao:Same H1 H3:=o.trans n3.g;let hg:∀i,i<rooms.length->rooms.idxOf (ix rooms i)=i:=λi hi=>by
  let(L,J):=zn9<|zef hi;show zxr cm.nd L hi J
 let knd:(((List.range rooms.length).map λi=>((Sum.inl ((ix rooms i:Nat):Int):Key),nV i)).map (·.1)).Nodup:=by
  rw[y0q];apply SM.nodup_map_on (λi hi j hj e=>?_) y41;show zxr cm.nd (y0s.mp hi) (y0s.mp hj) (by have:=Sum.inl.inj e;omega)
 let hlk:∀r∈rooms,Lk H3 dd (m.ways.getD r []) (λx=>rooms.idxOf x):=λr mr=>by
  apply .inl ⟨_,n3.at',λx mx=>zn2 _ [] _ _ knd ?_⟩;let O:x∈rooms:=by
   let(i,hi,rfl):=zi1 mr;let am:ix rooms i<m.ways.length:=by rw[ok.len];show cm.lt _ mr
   rw[y02,y00 am,y0y]at mx;let(l,Y,el):=y1l mx;rw[ok.line _<|y0k am]at Y;let(line,f1,f2,_):=ok.at (cm.lt _ mr) Y;rw[y00 am]at f1;cases f1;rw[y00 (by rw[ok.line _<|y0k am];show Y),el]at f2;let(t,ht,et,_):=cm.clos i l hi Y<|.inl hi;rw[Option.some.inj f2,←et];show zef ht
  let(L,J):=zn9 O;apply y0e.mpr ⟨rooms.idxOf x,y0s.mpr L,?_⟩;rw[J]
 let(d4,ord1,_,_):=zgo ok cm (g:=λx=>rooms.idxOf x) hg;apply zk ?_;apply⟨a,D,dd,m,rooms,λx=>rooms.idxOf x,R,rm.same<|g1.trans ao,ok,ao _ _ eD,by omega,cm.lt,hlk,λp1 H4 g4 cq=>?_⟩;ac_rfl;let(b1,c1,rs1,ea1,aj,dh,bu):=id cq;apply zk ?_;apply ixm (.of ea1) (zal (j:=2) R) ⟨tab.same<|g1.trans (ao.trans g4),λfl H4a M=>?_⟩;intro Hq ad;let gq:Same H4 Hq:=M.old.trans ad.up;let(kj,kl):=M.fn;generalize epm:(picked m rooms λx=>rooms.idxOf x)=bh at d4 ord1 cq ea1 dh bu;let cl:CloH P w K mg base 3 Hq fl 1 (zif (λH=>RepM H p1 bh) (Sorts bh) λns fs=>Num ((List.range bh.n).map<|markOf bh ns) fs):=by
  apply M.clo_e (own:=["coarser"]) (ps:=["coarser"]) (cap:=["in_order"]) (cv:=[.ref p1]) (k:=2) 017 ad ⟨R,R,R,by decide+kernel,R,by decide+kernel,by decide+kernel,by decide+kernel⟩ 08 (.cons ⟨2,R,R,.inl R⟩ .nil) (λcl ct cd pm=>L2.fit1 λ_=>rfl) ?_;rintro clo c' A' ax s' H' vs Q' hr a0 fz ck Y ⟨b,ns,rfl,hR,eb,S,q'⟩;apply⟨_,(zae Te hr 00 01<|pa_c (pv 1) 90),?_⟩;apply zra [G 47,G<|.ref p1] R ?_;trivial;show⟨p1,b,bh,ns,R,hR.ts<|SameN.tups a0.n,d4,a0.n _ _ eb (λ_ _ z=>nomatch z),S,λD5 fs H5 hD5 g5 dl N5 ki=>q' D5 fs (mixL clo H' H5) (zb5 (cl:=clo) (H:=H') g5|> λ_=>by
   let:=zgm hD5 dl ki;show this) (zb5 g5) (ze7 ki _ _ dl) N5⟩
 apply⟨c1,fl,kj,bh.ends,(λH=>RepM H p1 bh),Sorts bh,_,(λns=>bh.n*bh.n-ns.sum),R,gq _ _ bu,d4.few,ad.up _ _ kl,cl,cq.same gq,(λH1 H2 g z=>z.same g),(λns Nq=>zlu Nq),(λns S=>by rw[S.len];show d4.few),(λns fs S Nq=>?_),λD5 ns H5' g5' eD5' S N5=>?_⟩
 .let(S',ref,_):=zhi d4 S Nq;apply⟨S',λI=>?_⟩;let(m1,m2):=zoz S S' ref I;change bh.n*bh.n-fs.sum<bh.n*bh.n-ns.sum;omega
 let st:=(zhi d4 S N5).2.2 rfl;let g5:=M.old.trans<|ad.same g5';let dl:=ad.keep g5' eD5' λ_ _ z=>nomatch z;dsimp only;generalize dropX _ H5'=H5 at g5 dl ⊢;subst epm;let dg:ns.length=rooms.length:=by rw[S.len,zcn]
 apply⟨_,R,ns.map λ(n:Nat)=>(n:Int),.of (by rw[←zn3];show dl),by rw[y01,dg];show cm.pos,λM mM hM=>?_⟩;ac_rfl;let(Mn,mMn,rfl):=y0e.mp mM;let hMl:∀x∈ns,x<=Mn:=λx mx=>by have:=hM _<|y0e.mpr ⟨x,mx,R⟩;omega
 let(F,mem):=zta S.srt mMn hMl;let hMb:Mn<100:=by
  let(i,hi,ei):=zi1 mMn;let:=S.srt.le i hi;omega
 let etn:((Mn:Int)+1-0).toNat=Mn+1:=by omega
 apply zk ?_;apply⟨by omega,by omega,?_⟩;rw[show((Mn:Int)+1).toNat=Mn+1 by omega];apply zts (λσ=>∃v,σ=[v,G<|.ref D5]) (λi=>nV<|ns.idxOf i) 00 ⟨_,R⟩ ?_ ?_
 .rintro D6 i σ H6 hi gg hD6 hD6' ⟨v,rfl⟩;trivial;apply⟨.inl ⟨_,.of<|gg _ _ dl⟩,ns.map λ(n:Nat)=>(n:Int),.of (by rw[←zn3];show gg _ _ dl),y0e.mpr ⟨i,mem i 00,by omega⟩,by rw[y01];omega,?_⟩;apply zmv 00 hi hD6 hD6' gg ⟨_,R⟩ ?_;rw[show(0:Int)+(i:Int)=((i:Nat):Int) by omega,zoa]
 intro D6 H6 hD6 g6 eD6;let eD6':H6 D6=G (.lst<|((List.range<|Mn+1).map λs=>ns.idxOf s).map nV):=by rw[eD6,y0q];rfl
 let fl:∀r∈((List.range<|Mn+1).map λs=>ns.idxOf s),r<(picked m rooms λx=>rooms.idxOf x).n:=λr mr=>by
  let(s',hs,rfl):=zi1 mr;rw[←S.len];show F.lt s' hs
 apply⟨p1,D6,D5,_,_,ix ns,R,cq.same<|g5.trans g6,d4,eD6',by rw[y01,y0x];omega,fl,λr mr=>.inr ⟨ns,g6 _ _ dl,λx mx=>zcr ?_⟩,λp2 H7 g7 dk=>?_⟩
 .rw[S.len];let am:r<(picked m rooms λx=>rooms.idxOf x).ways.length:=by rw[d4.len];show fl r mr
  rw[y02,y00 am,y0y]at mx;show d4.room _ (y0k am) x mx
 .exact q p2 _ H7 (g1.trans<|ao.trans (g4.trans<|g5.trans (g6.trans g7))) dk<|red_of ok cm hg S st F
abbrev Ke:Stmt:=top 79
theorem zgx:FnScope ["_law_script","_law_k"] ["_law_script","_law_k"] (defScope Ke):={}
include T in
theorem ok_cell(d:Dfn K mg "_law_cell_at" Ke ["_law_script","_law_k"]):03 1 "_law_cell_at" ["_law_script","_law_k"] (zls K):=by
 apply d.cal zgx 35 46
 .nofun
 let(a,ns,k,rfl,j,D,q):=h;apply⟨_,(zab (zaz (zak zpd (pv 1) 045 49) (zac<|zag (zaq (zbc K) (pv 0) (pv 1) λ_ _=>rfl)) zaj)<|zac (zag zad)),?_⟩;apply zaw [G 07,G<|.int k] R ?_;trivial;apply⟨_,.inl j,ite2 (λc=>?_) λ_=>q 0⟩;let c':=of_decide_eq_true c;rw[y01]at c';let M:k.toNat<ns.length:=by omega
 let I:k=((k.toNat:Nat):Int):=by omega
 let e:atI 025 ((k.toNat:Nat):Int)=G (.int ns[k.toNat]):=zal (by simp[M]);rw[←I]at e;show⟨_,j,_,e,q _⟩
abbrev Qt:Stmt:=top 81
theorem Qo:FnScope ["_law_way","_law_one","_law_other","_law_k"] ["_law_way","_law_one","_law_other"] (defScope Qt):={}
include T in
theorem zpp(d:Dfn K mg "_law_first_ways" Qt ["_law_way","_law_one","_law_other"]):03 1 "_law_first_ways" ["_law_way","_law_one","_law_other"] zhf:=by
 apply d.cal Qo 35 46
 .nofun
 let(k,a,b,zs,rfl,M,c,L,hz,q):=h;let hu:=zez hr 8 00;apply⟨_,(zab (zaz 034 (zac<|zag (za8 (zhq K) zbj (pv 1)<|by with_unfolding_all rfl)) zaj)<|zab (zaz 034 (zac<|zag (za8 (zgc K) zbj (pv 1)<|by with_unfolding_all rfl)) zaj) (zab (zaz 034 (zac<|zag (za8 (zr0 hu) (zbb (zbk K) (pv 1) zbs<|zbd zad) (zax<|pa_c zbj zaa) 49)) zaj)<|zab (zaz 034 (zab (zcf PassesOwn.never R (zbi 01 T.b_range<|pa_c 044 zaa) (zai (i:=3) Qo.nd 01 36)<|zac (zaz (PW.pt<|zrd (zbr<|zaq (zbc K) (pv 1) (pv 3) (λ_ _=>rfl)) (zl8<|zak (zzb K hu) (zbb (zbk K) (pv 1) (zbd<|za0 zcb (pv 3) zad)<|zbd (za0 zcb (pv 3) zad)) (zax<|pa_c zbj zaa) 49)) 027 zaj)) 027) zaj) (zab (zaz 034 (zac<|zag (za8 zpf (zbq K PySem.F.plainAttrs_list PySem.F.slot_list_count PySem.F.type_list_count (zew K) (pv 1)<|pa_c zbj zaa) zad 49)) zaj)<|zab (zcf PassesOwn.never R (zbi 01 T.b_range<|pa_c 044 zaa) (zai (i:=3) Qo.nd 01 36)<|zac (zaz (PW.pt<|zrd (zbr<|zaq (zbc K) (pv 1) (pv 3) (λ_ _=>rfl)) (zl8<|zct (zbr<|zaq (zbc K) (pv 2) (pv 3) (λ_ _=>rfl)))) 027 zaj)) 027))),?_⟩;apply zaw [G<|nV k,G 07,G 47,B] R ?_;trivial;let Y:=zoq zs;let v:k=0\/k=1\/k=2\/k=3\/k=4\/(k=5\/k=6):=by omega
 let e1:=zjm zs;rcases v with rfl|rfl|rfl|rfl|rfl|h56
 .refine itT R ⟨_,.inl<|.of c,R,zc3 _,?_⟩;rw[zwl,←way0];show q H 017
 .refine itF 04<|itT R ⟨_,.inl<|.of c,R,zc3 _,?_⟩;rw[zwl,←way1];show q H 017
 .refine itF 04<|itF 04 (itT R ⟨_,.of c,λp H1 I=>mkT λp2 H2 o=>?_⟩);rw[zcc,show(G (1:Int))=G ((1:Nat):Int)from rfl,zfs]at I;apply⟨_,(eq_bl (ys:=[N]) (o.g _ _ I.at') o.at').up 04,?_⟩;rw[←way2];show q H2<|I.g.trans o.g
 .refine itF 04<|itF 04 (itF 04<|itT R ⟨_,.inl<|.of c,by rw[Y];omega,by rw[Y];omega,?_⟩);rw[Y];apply zeh (λi σ H'=>Same H H'/\(∃D,σ=[G<|nV 3,G 07,G 47,D])/\∀j,j<i->c3 (zs.map (·.1)) j) ⟨Same.refl _,⟨B,R⟩,λj hj=>Xa hj 00⟩ ?_ ?_
  .rintro i σ H' hi ⟨g,⟨D,rfl⟩,U⟩;let(za,J,y,O,r):=e1 i 00;let u:(zs.map (·.1))[i]?=G za:=by rw[y03,y];rfl
   let nx:c3 (zs.map (·.1)) i->∀j,j<i+1->c3 (zs.map (·.1)) j:=λh j hj=>(y37.mp hj).elim (U j) λe=>e▸h;trivial;apply⟨_,.of<|g _ _ c,_,O,?_⟩;cases za
   .exact itBf ⟨g,nx λh=>by rw[u]at h;cases h⟩
   .refine itB ⟨_,.of<|g _ _ c,λp H1 I=>mkT λp2 H2 o=>?_⟩;rw[zcc,y34,show((i:Int)+1)=((i+1:Nat):Int) by omega,show((i:Int)+2)=((i+1+1:Nat):Int) by omega,zto]at I;apply⟨p,p2,_,_,R,R,.of<|o.g _ _ I.at',.of o.at',zc3 _,zc3 [Fa],?_⟩;rw[show([V.bl Fa]:List V)=[Fa].map V.bl from rfl,blEq];let eq1:((zs.map (·.1)).drop<|i+1).take 1=[Fa]↔(zs.map (·.1))[i+1]?=G Fa:=by
     rw[←List.head?_drop];cases(zs.map (·.1)).drop (i+1)with
     |nil=>show⟨λh=>(nomatch h),λh=>(nomatch h)⟩
     |cons x l=>show⟨λh=>by cases h;rfl,λh=>by cases h;rfl⟩
    let g2:=g.trans<|I.g.trans o.g;by_cases C:((zs.map (·.1)).drop<|i+1).take 1=[Fa]
    .rw[Xg C];show itBf ⟨g2,nx λ_=>eq1.mp C⟩
    .rw[Xf C];apply itB ?_;let:plain 3 zs=Fa:=y1f.mpr λh=>C<|eq1.mpr ((way3 zs).mp h i u);rw[←this];show q H2 g2
  .rintro σ H' ⟨g,⟨D,rfl⟩,U⟩;trivial;let:plain 3 zs=N:=(way3 zs).mpr λi=>by
    rcases y3y i zs.length with h|h
    .exact U i 00
    .intro e;rw[y0t<|by rw[y01];show h]at e;cases e
   rw[←this];show q H' g
 .refine itF 04 (itF 04 (itF 04 (itF 04 (itT R ⟨.inl ⟨_,.of c⟩,a,zs.map (·.1),N,R,R,.of c,?_⟩))));change Q (.bl (decide (1<(((zs.map (·.1)).count N:Nat):Int)))) H;rw[show decide (1<(((zs.map (·.1)).count N:Nat):Int))=plain 4 zs by rw[way4];show decide_eq_decide.mpr ⟨λh=>by omega,λh=>by omega⟩];show q H 017
 .refine itF 00<|itF 00 (itF 00<|itF 00 (itF 00 ⟨_,.inl<|.of c,by rw[Y];omega,by rw[Y];omega,?_⟩));rw[Y];apply zeh (λi σ H'=>H'=H/\(∃D,σ=[G<|nV k,G 07,G 47,D])/\∀j,j<i->∀z,zs[j]?=G z->z.1=N->z.2=N) ⟨R,⟨B,R⟩,λj hj=>Xa hj 00⟩ ?_ ?_
  .rintro i σ H' hi ⟨rfl,⟨D,rfl⟩,U⟩;let(za,J,y,O,r):=e1 i 00;let nx:(za=N->J=N)->∀j,j<i+1->∀z,zs[j]?=G z->z.1=N->z.2=N:=λh j hj z hz=>(y37.mp hj).elim (λh=>U j h z hz) λe=>by
    subst e;rw[y]at hz;cases hz;show h
   trivial;apply⟨_,.of c,_,O,?_⟩;cases za
   .exact itBf (nx λh=>by cases h)
   .refine itB ⟨_,.of L,_,r,?_⟩;cases J
    .refine itNf ?_;let:plain k zs=Fa:=y1f.mpr λh=>by have:=(way56 h56 zs).mp h _ (y0n y) rfl;cases this
     rw[←this];show q H' 017
    .exact itN<|nx λ_=>rfl
  .rintro σ H' ⟨rfl,⟨D,rfl⟩,U⟩;trivial;let:plain k zs=N:=(way56 h56 zs).mpr λz hz=>by
    let(i,hi,e):=y1l hz;show U i 00 z (by rw[y00 hi,e])
   rw[←this];show q H' 017
abbrev Kp:Stmt:=top 82
theorem Qu:FnScope ["_law_way","_law_one","_law_other","_law_last","_law_k","_law_at"] ["_law_way","_law_one","_law_other"] (defScope Kp):={}
include T in
theorem zpm(d:Dfn K mg "_law_plain" Kp ["_law_way","_law_one","_law_other"])(Vv:03 1 "_law_first_ways" ["_law_way","_law_one","_law_other"] zhf):03 2 "_law_plain" ["_law_way","_law_one","_law_other"] zhd:=by
 apply d.cal Qu 35 46
 .nofun
 let(k,a,b,zs,rfl,M,c,eb,hz,q):=h;let C:=zez hr 8 00;apply⟨_,(zab (zaz (zak zpd (pv 0) zad 49) (zac<|zag (zae Vv hr 00 01<|pa_c (pv 0) (pa_c (pv 1)<|pa_c (pv 2) zaa))) zaj)<|zab (zaz 034 (zab (zat (i:=3) Qu.nd R 39<|za0 zma (zax<|pa_c (zro zjs zad) zaa) (zas ["_law_k"] [(1,"_law_one")] 89 01 (zbi 01 T.b_range<|pa_c 044 zaa) (λ_ _ _ _ _=>(zai (i:=0) (show List.Nodup (["_law_k","_law_one"]:List Str) by decide+kernel) 01 36)) (λ_ _ _ _ _=>(zrn<|zbr (zaq (zbc K) (pv 1) (pv 0) λ_ _=>rfl))) λ_ _ _ _ _=>(pv 0)))<|zac (zag<|zyy (za8 zpd (zaq (zbc K) (pv 3) (zro zjs zad) λ_ _=>rfl) zad 49) (zcz<|za8 (zhq K) zbj (zbb (zbk K) (pv 2) (zbd<|za0 zcb (zaq (zbc K) (pv 3) (zro zjs zad) λ_ _=>rfl) zad) zbs) (by with_unfolding_all rfl)))) zaj) (zab (zaz 034 (zab (zcf PassesOwn.never R (zbi 01 T.b_range<|pa_c 044 zaa) (zai (i:=4) Qu.nd 01 36)<|zac (zaz (zbr<|zaq (zbc K) (pv 1) (pv 4) (λ_ _=>rfl)) (zac<|zag (za8 (zgc K) zbj (zbb (zbk K) (pv 2) zbs<|zbd (pv 4))<|by with_unfolding_all rfl)) zaj)) 027) zaj)<|zab (zaz 034 (zab (zaz (zak op_ne (zbq K PySem.F.plainAttrs_list PySem.F.slot_list_count PySem.F.type_list_count (zew K) (pv 2)<|pa_c zbj zaa) zad 49) 027 zaj)<|zab (zat (i:=5) Qu.nd R 39<|zbq K PySem.F.plainAttrs_list PySem.F.slot_list_index PySem.F.type_list_index (zpv K) (pv 2) (pa_c zbj zaa)) (zac<|zag (za8 (zr0 C) (zbb (zbk K) (pv 1) (zbd<|pv 5)<|zbd (za0 zcb (pv 5) zad)) (zax<|pa_c zbj (pa_c zbj zaa)) 49))) zaj) (zab (zaz 034 (zac<|zag (za8 za7 (za0 zc2 044 zad) zad 49)) zaj)<|zac (zag<|za8 op_eq (zbq K PySem.F.plainAttrs_list PySem.F.slot_list_count PySem.F.type_list_count (zew K) (pv 1)<|pa_c zbj zaa) zad 49)))),?_⟩;apply zaw [G<|nV k,G 07,G 47,B,B,B] R ?_;trivial;let Y:=zoq zs;let h12:k<7\/k=7\/k=8\/k=9\/k=10\/k=11:=by omega
 rcases h12 with h|rfl|rfl|rfl|rfl|rfl
 .exact itT 00 ⟨k,a,b,zs,R,h,c,eb,hz,q⟩
 .refine itF 04<|itT R (mkT λp H1 I=>⟨_,.inl<|.of (I.g _ _ c),by rw[Y];omega,by rw[Y];omega,?_⟩);rw[Y];apply crf_map (λσ=>∃v,σ=[v,G 07]) (λi=>(zs.map (·.1)).getD i Fa) (λi=>nV i) 00 ⟨_,R⟩ ?_ ?_
  .rintro D i σ H2 hi g2 u J ⟨v,rfl⟩;let(za,zb,y,O,ez2):=zjm zs i 00;let o1:(zs.map (·.1)).getD i Fa=za:=by rw[y02,y03,y];rfl
   trivial;apply⟨_,.of<|g2 _ _ (I.g _ _ c),_,O,?_⟩;cases za
   .exact itBf<|zw0 hi o1 J g2 ⟨_,R⟩
   .exact itB<|zwz 00 hi o1 u J g2 ⟨_,R⟩ (by rw[y34])
  .intro D H2 u g2 l;let l:H2 D=G (.lst ((ats (zs.map (·.1))).map nV)):=by rw[l];unfold ats;rw[y01];rfl
   let w7:=way7 zs;let hal:(ats (zs.map (·.1))).length<=zs.length:=by
    let:=y1y (λi=>(zs.map (·.1)).getD i Fa) (List.range (zs.map (·.1)).length);rw[y0x]at this;show y14 this (by rw[y01];show y05 _)
   apply⟨_,g2 _ _ I.at',_,l,zaf (by rw[y01,y0r];omega),λz H3 n3=>?_⟩;let g3:Same H H3:=I.g.trans<|g2.trans n3.g;cases e:(ats (zs.map (·.1))).getLast? with
   |none =>
    rw[e]at w7;rw[List.getLast?_eq_none_iff.mp e]at n3;apply⟨_,.of n3.at',_,R,?_⟩;trivial;apply itT 04 ?_;let w7:plain 7 zs=N:=w7;rw[←w7];show q H3 g3
   |some i =>
    rw[e]at w7;let(ini,ei):=List.getLast?_eq_some_iff.mp e;rw[ei,y0v,←y24]at n3;apply⟨_,.of n3.at',_,zfu _ _,?_⟩;trivial;apply itF 00 ⟨_,.of n3.at',_,zfu _ _,?_⟩;trivial;apply⟨_,.of<|g3 _ _ eb,λp4 H4 x=>?_⟩;rw[zcc,show((i:Int)+1)=((i+1:Nat):Int) by omega,zwx]at x;apply⟨_,.inl<|.of x.at',R,zc3 _,?_⟩;let w7:plain 7 zs=((zs.map (·.2)).drop<|i+1).any (· ==N):=w7;rw[zwl,←w7];show q H4<|g3.trans x.g
 .refine itF 04<|itF 04 (itT R ⟨_,.inl<|.of c,by rw[Y];omega,by rw[Y];omega,?_⟩);rw[Y];apply zeh (λi σ H'=>H'=H/\(∃v4,σ=[G<|nV 8,G 07,G 47,B,v4,B])/\∀j,j<i->(zs.map (·.1)).getD j Fa=Fa) ⟨R,⟨B,R⟩,λj g=>Xa g 00⟩ ?_ ?_
  .rintro i σ H' hi ⟨rfl,⟨v4,rfl⟩,U⟩;let(za,zb,y,O,ez2):=zjm zs i 00;let o1:(zs.map (·.1))[i]?=G za:=by rw[y03,y];rfl
   trivial;apply⟨_,.of c,_,O,?_⟩;cases za
   .exact itBf λj g=>(y37.mp g).elim (U j) λe=>by rw[e,y02,o1];rfl
   .refine itB ⟨_,.of eb,λr H1 I=>?_⟩;rw[zcc,y34,zfs]at I;apply⟨_,.inl<|.of I.at',R,zc3 _,?_⟩;rw[zwl,←zun zs i U o1];show q H1 I.g
  .rintro σ H' ⟨rfl,⟨v4,rfl⟩,U⟩;trivial;rw[←zx3 zs λj g=>U j 00];show q H' 017
 .refine itF 04 (itF 04 (itF 04 (itT R ⟨.inl ⟨_,.of eb⟩,b,zs.map (·.2),N,R,R,.of eb,R,ite2 (λaf=>?_) λhe=>?_⟩)))
  .let:plain 9 zs=Fa:=by
    rw[way9,Xf (λh=>by rw[h]at af;show Xa af 04),y1h]
   rw[←this];show q H 017
  .let L:(zs.map (·.2)).count N=1:=by
    let:V.int (((zs.map (·.2)).count N:Nat):Int)=V.int 1:=by simpa using he
    let:=V.int.inj this;omega
   apply⟨.inl ⟨_,.of eb⟩,b,zs.map (·.2),N,R,R,.of eb,List.count_pos_iff.mp 00,by rw[y01];omega,_,R,_,.of c,λr H1 I=>mkT λp2 H2 o=>?_⟩;rw[zcc,show((((zs.map (·.2)).idxOf N:Nat):Int)+2)=(((zs.map (·.2)).idxOf N+2:Nat):Int) by omega,zto]at I;apply⟨_,(eq_bl (ys:=[N,N]) (o.g _ _ I.at') o.at').up 04,?_⟩;let:plain 9 zs=decide (((zs.map (·.1)).drop ((zs.map (·.2)).idxOf N)).take 2=[N,N]):=by rw[way9,Xg L,y1i]
   rw[←this];show q H2<|I.g.trans o.g
 .refine itF 04<|itF 04 (itF 04<|itF 04 (itT R ⟨_,.inl<|.of c,by decide,?_⟩));rw[Y,show decide (((zs.length:Nat):Int)%2=0)=plain 10 zs by rw[way10];show decide_eq_decide.mpr ⟨λh=>by omega,λh=>by omega⟩];show q H 017
 .refine itF 04 (itF 04 (itF 04 (itF 04 (itF 04 ⟨.inl ⟨_,.of c⟩,a,zs.map (·.1),N,R,R,.of c,R,?_⟩))));change Q (.bl (decide (V.int (((zs.map (·.1)).count N:Nat):Int)=V.int 2))) H;rw[show decide (V.int (((zs.map (·.1)).count N:Nat):Int)=V.int 2)=plain 11 zs by rw[way11];show decide_eq_decide.mpr ⟨λh=>by have:=V.int.inj h;omega,λh=>by rw[h];rfl⟩];show q H 017
abbrev Kg:Stmt:=top 83
theorem Qd:FnScope ["_law_way","_law_script","_law_head","_law_one","_law_other","_law_many","_law_k"] ["_law_way","_law_script","_law_head"] (defScope Kg):={}
include T in
theorem zr4(d:Dfn K mg "_law_tracks" Kg ["_law_way","_law_script","_law_head"]):03 1 "_law_tracks" ["_law_way","_law_script","_law_head"] (zjz K):=by
 apply d.cal Qd 35 46
 .nofun
 let(k,x,a,ns,rfl,j,Y,q):=h;let hu:=zez hr 8 00;apply⟨_,(zab (zdy (i:=3) Qd.nd R 39 ["_law_cell"] [] 89 01 (za2 K<|zbb (zbk K) (pv 1) zbs (zbd zad)) (λ_ _ _ _ _=>(zai (i:=0) (show List.Nodup (["_law_cell"]:List Str) by decide+kernel) 01 36)) (λ_ _ _ _ _=>za4) λ_ _ _ _ _=>(za8 za7 (za0 zc2 (pv 0) zad) zad 49))<|zab (zdy (i:=4) Qd.nd R 39 ["_law_cell"] [] 89 01 (za2 K<|zbb (zbk K) (pv 1) zbs (zbd zad)) (λ_ _ _ _ _=>(zai (i:=0) (show List.Nodup (["_law_cell"]:List Str) by decide+kernel) 01 36)) (λ_ _ _ _ _=>za4) λ_ _ _ _ _=>(za8 za7 (za0 zc2 (za0 ziv (pv 0) zad) zad) zad 49)) (zbl (zaz (PW.pt<|zrd 034 (zl8<|zak za7 (za0 zc2 (pv 2) zad) zad 49)) (zac<|zdy (i:=3) Qd.nd R 39 ["_law_cell"] [] 89 01 (za2 K<|zbb (zbk K) (pv 1) zbs (zbd zad)) (λ_ _ _ _ _=>(zai (i:=0) (show List.Nodup (["_law_cell"]:List Str) by decide+kernel) 01 36)) (λ_ _ _ _ _=>za4) (λ_ _ _ _ _=>(za8 za7 (za0 zc2 (pv 0) zad) zad 49))) zaj)<|zbl (zaz 034 (zab (zat (i:=5) Qd.nd R 39<|za0 zgb (za0 zcb zad<|zbp zc6 01 T.b_int boot_int (pa_c (za8 za7 (za0 zc2 (pv 2) zad) zad 49) zaa)) (zbp zc6 01 T.b_int boot_int<|pa_c (za8 za7 (za0 zc2 (pv 2) zad) zad 49) zaa))<|zab (zat (i:=4) Qd.nd R 39<|za0 zy9 (zax<|pa_c zbj zaa) (za1 (zan K) 01 T.b_len iy 037)) (zac<|zcf PassesOwn.never R (zbi 01 T.b_range<|pa_c (pv 5) zaa) (zai (i:=6) Qd.nd 01 36) (zac<|zaz (zak zpf (za1 (zan K) 01 T.b_len iy 037) zad 49) (zac<|zrf zbj (pg_sub (pv 4) (za0 zc2 (za0 ziv (za0 zcb (pv 2)<|za0 zry zad (pv 6)) zad)<|za1 (zan K) 01 T.b_len iy 037) zuy)) zaj))) zaj) (zac<|zag (zay<|pa_c (pv 3) (pa_c (pv 4) zaa))))),?_⟩;apply zaw [G<|.int k,G 07,G<|.int x,B,B,B,B] R ?_;trivial;let hcs:(041).length<=63:=y14 (zwy ns _ _) Y;apply⟨_,j,λr H1 I=>?_⟩;rw[zcc]at I;apply⟨⟨_,.of I.at'⟩,zd3 (K:=K) (a:=r) (xs:=(041).map V.int) (λσ=>∃v,σ=[v]) (λx=>match x with|.int c=>.bl (decide (c%2=1))|_=>.non) (by rw[y01];omega) (.of I.at') ⟨_,R⟩ ?_ ?_⟩
 .rintro D3 i3 σ H4 x hi3 M O gg bg z ⟨v,rfl⟩;let(c,_,rfl):=y0e.mp M;trivial;show⟨by decide,zbo (by rw[y01];omega) O bg z gg ⟨_,R⟩ R⟩
 intro J H2 _ o C;let C:H2 J=G (.lst<|((041).map λc=>decide (c%2=1)).map V.bl):=by rw[C,y0q,y0q];rfl
 let g02:Same H H2:=I.g.trans o;apply⟨_,g02.seq j,λp3 H3 n3=>?_⟩;rw[zcc]at n3;apply⟨⟨_,.of n3.at'⟩,zd3 (K:=K) (a:=p3) (xs:=(041).map V.int) (λσ=>∃v,σ=[v]) (λx=>match x with|.int c=>.bl (decide (c/2%2=1))|_=>.non) (by rw[y01];omega) (.of n3.at') ⟨_,R⟩ ?_ ?_⟩
 .rintro D3 i3 σ H4 x hi3 M O gg bg z ⟨v,rfl⟩;let(c,_,rfl):=y0e.mp M;trivial;show⟨⟨by decide,by decide⟩,by decide,zbo (by rw[y01];omega) O bg z gg ⟨_,R⟩ R⟩
 intro d2 H4 _ g4 u;let u:H4 d2=G (.lst<|((041).map λc=>decide (c/2%2=1)).map V.bl):=by rw[u,y0q,y0q];rfl
 let cz:=n3.g.trans g4;let bv:Same H H4:=g02.trans cz;apply zb9 (λσ H'=>Same H H'/\H' d2=H4 d2/\∃(d:Ad) (bs:List Bool),σ=[G<|.int k,G 07,G<|.int x,G<|.ref d,G<|.ref d2,B,B]/\H' d=G (.lst 016)/\bs.length=(041).length) ?_ ?_
 .trivial;let dn:Same H H4/\∃x:List Bool,H4 J=G (.lst<|x.map V.bl)/\x.length=(041).length:=⟨bv,_,cz _ _ C,y01 _⟩;apply ite2 (λ_=>⟨by decide,ite2 (λ_=>⟨_,bv.seq j,λp5 H5 n5=>?_⟩) λ_=>dn⟩) λ_=>dn;rw[zcc]at n5;apply⟨⟨_,.of n5.at'⟩,zd3 (K:=K) (a:=p5) (xs:=(041).map V.int) (λσ=>∃v,σ=[v]) (λx=>match x with|.int c=>.bl (decide (c%16=1))|_=>.non) (by rw[y01];omega) (.of n5.at') ⟨_,R⟩ ?_ ?_⟩
  .rintro D3 i3 σ H4 x hi3 M O gg bg z ⟨v,rfl⟩;let(c,_,rfl):=y0e.mp M;trivial;show⟨by decide,zbo (by rw[y01];omega) O bg z gg ⟨_,R⟩ R⟩
  intro d3 H6 _ g6 e6;let g46:=n5.g.trans g6;show⟨bv.trans g46,(g46 _ _ u).trans u.symm,d3,R,(041).map λc=>decide (c%16=1),by rw[e6,y0q,y0q];rfl,y01 _⟩
 rintro σ H5 ⟨L,e5,d,bs,rfl,ed,hbs⟩;rw[u]at e5;apply zb9 (λσ H'=>Same H H'/\∃(d':Ad) (D:List Bool) (v5 v6:Option V),σ=[G<|.int k,G 07,G<|.int x,G<|.ref d,G<|.ref d',v5,v6]/\H' d=G (.lst 016)/\H' d'=G (.lst<|D.map V.bl)/\D.length=bs.length) ?_ ?_
 .trivial;apply ite2 (λ_=>⟨by decide,by decide,mkT λr H6 U=>⟨_,.inl<|.of (U.g _ _ ed),_,U.at',?_⟩⟩) λ_=>⟨L,ed,_,e5,by rw[y01,hbs]⟩;let y:(016).length=bs.length:=y01 _;rw[y,y1m,zog];apply⟨by omega,by omega,by rw[y0r];show zaf 00,λp H7 l=>⟨by split<;>split<;>omega,by split<;>split<;>omega,?_⟩⟩;generalize((1+if decide (x%7=0)=N then 1 else 0)-if decide (x%11=0)=N then(1:Int)else 0)=mn;let hpn:H p=B:=(L.trans U.g).free l.nil;let g7:Same H H7:=L.trans<|U.g.trans l.g;let ed7:H7 d=G (.lst 016):=l.g _ _<|U.g _ _ ed;let hdp:d≠p:=λe=>by rw[e]at ed;let:=U.g _ _ ed;rw[l.nil]at this;cases this
  apply zeh (λi σ H'=>Same H H'/\H' d=G (.lst 016)/\(∃v6,σ=[G<|.int k,G 07,G<|.int x,G<|.ref d,G 09,G<|.int mn,v6])/\∃D:List Bool,H' p=G (.lst<|D.map V.bl)/\D.length=bs.length) ⟨g7,ed7,⟨B,R⟩,List.replicate bs.length Fa,by rw[l.at',List.map_replicate],y2j⟩ ?_ ?_
  .rintro i σ H' hi ⟨g,dm,⟨v6,rfl⟩,D,ep,bn⟩;trivial;apply⟨_,.inl<|.of dm,ite2 (λh0=>?_) λ_=>⟨g,dm,D,ep,bn⟩⟩;rw[y]at h0;let h0:=of_decide_eq_true h0;let r0:=y45 ((x+13*(0+(i:Int)))/3) (show(bs.length:Int)≠0 by omega);let r1:=y3q ((x+13*(0+(i:Int)))/3) h0;apply⟨.inl ⟨by decide,by decide⟩,⟨by decide,by decide⟩,_,.inl<|.of dm,by rw[y];show h0,_,ep,((x+13*(0+(i:Int)))/3%(bs.length:Int)).toNat,?_,g.wr hpn _,by rw[zam hdp];show dm,D.set ((x+13*(0+(i:Int)))/3%(bs.length:Int)).toNat N,by rw[zar,List.map_set],by rw[List.length_set];show bn⟩;unfold ixN;rw[y,y01,bn,Xq r0,Xq r1]
  .rintro σ H' ⟨g,dm,⟨v6,rfl⟩,D,ep,bn⟩;show⟨g,p,D,_,_,R,dm,ep,bn⟩
 rintro σ H6 ⟨g6,d',D,v5,v6,rfl,ed,dm,bn⟩;trivial;apply mkT λt H7 l=>q t d d' (bs.zip D) H7 (g6.trans l.g) l.at' ?_ ?_ ?_
 .rw[l.g _ _ ed];change _=G (HO.lst<|((bs.zip D).map Prod.fst).map V.bl);rw[List.map_fst_zip 00]
 .rw[l.g _ _ dm];change _=G (HO.lst<|((bs.zip D).map Prod.snd).map V.bl);rw[List.map_snd_zip 00]
 .rw[y44];omega
abbrev Kc:Stmt:=top 84
theorem zgw:FnScope ["_law_one","_law_other","_law_many"] ["_law_one","_law_other","_law_many"] (defScope Kc):={}
include T in
theorem ok_lets(d:Dfn K mg "_law_letters" Kc ["_law_one","_law_other","_law_many"]):03 1 "_law_letters" ["_law_one","_law_other","_law_many"] zqv:=by
 apply d.cal zgw 35 46
 .nofun
 let(v,a,b,zs,rfl,j,c,L,hz,q):=h;let C:=zez hr 8 00;apply⟨_,(zab (zaz (zak za7 (pv 2) zad 49) (zac<|zag (zas ["_law_bit"] [] 89 01 (za2 K<|pv 0) (λ_ _ _ _ _=>(zai (i:=0) (show List.Nodup (["_law_bit"]:List Str) by decide+kernel) 01 36)) (λ_ _ _ _ _=>za4) λ_ _ _ _ _=>zad)) zaj)<|zab (zaz (zak za7 (pv 2) zad 49) (zac<|zag (zas ["_law_bit"] [] 89 01 (za2 K<|pv 0) (λ_ _ _ _ _=>(zai (i:=0) (show List.Nodup (["_law_bit"]:List Str) by decide+kernel) 01 36)) (λ_ _ _ _ _=>za4) λ_ _ _ _ _=>(zbp zc6 01 T.b_int boot_int 90))) zaj) (zac<|zag (zas ["_law_k"] [(0,"_law_one"),(1,"_law_other")] 89 01 (zbi 01 T.b_range<|pa_c 045 zaa) (λ_ _ _ _ _=>(zai (i:=0) (show List.Nodup (["_law_k","_law_one","_law_other"]:List Str) by decide+kernel) 01 36)) (λ_ _ _ _ _=>za4) λ_ _ _ _ _=>(za0 zcb (zbp zc6 01 T.b_int boot_int<|pa_c (zaq (zbc K) (pv 1) (pv 0) λ_ _=>rfl) zaa)<|za0 zry zad (zbp zc6 01 T.b_int boot_int<|pa_c (zaq (zbc K) (pv 2) (pv 0) λ_ _=>rfl) zaa))))),?_⟩;apply zaw [G 07,G 47,G<|nV v] R ?_;trivial;let Y:=zoq zs;let U:v=0\/v=1\/v=2:=by omega
 rcases U with rfl|rfl|rfl
 .refine itT R ⟨⟨_,.of c⟩,zd3 (K:=K) (a:=a) (xs:=b1 zs) (λσ=>∃v,σ=[v]) (λ_=>nV 0) (by rw[Y];omega) (.of c) ⟨_,R⟩ ?_ ?_⟩
  .rintro g i3 σ H4 x p M O e o z ⟨v,rfl⟩;trivial;show zbo (by rw[Y];omega) O o z e ⟨_,R⟩ R
  .intro g H4 o r I;apply q g H4 r<|I.trans ?_;simp only[y0q];rfl
 .refine itF 04<|itT R ⟨⟨_,.of c⟩,zd3 (K:=K) (a:=a) (xs:=b1 zs) (λσ=>∃v,σ=[v]) (λx=>match x with|.bl t=>nV t.toNat|_=>.non) (by rw[Y];omega) (.of c) ⟨_,R⟩ ?_ ?_⟩
  .rintro g i3 σ H4 x p M O e o z ⟨v,rfl⟩;let(t,_,rfl):=y0e.mp M;trivial;show zbo (by rw[Y];omega) O o z e ⟨_,R⟩ (by cases t<;>rfl)
  .intro g H4 o r I;apply q g H4 r<|I.trans ?_;simp only[y0q];rfl
 .refine itF 04<|itF 04 ⟨_,.inl<|.of c,by rw[Y];omega,by rw[Y];omega,?_⟩;rw[Y];apply zts (λσ=>∃v,σ=[v,G 07,G 47]) (λi=>nV<|let1 2 (zs.getD i (Fa,Fa))) 00 ⟨_,R⟩ ?_ ?_
  .rintro D i σ H1 hi g1 u J ⟨v,rfl⟩;let(za,zb,y,ez1,ez2):=zjm zs i 00;trivial;apply⟨_,.of<|g1 _ _ c,_,ez1,.inr ⟨_,R,_,.of<|g1 _ _ L,_,ez2,.inr ⟨_,R,.inl ⟨by decide,by decide⟩,zmv 00 hi u J g1 ⟨_,R⟩ ?_⟩⟩⟩;rw[y02,y];cases za<;>cases zb<;>rfl
  .intro D H1 u g1 l;apply q D H1 g1<|l.trans ?_;congr 2;apply y23 λi=>?_;rw[y0q,y03,y03];rcases y3y i zs.length with h|h
   .rw[y17 00,y00 h,y1j,y1j,y02,y00 h];rfl
   .rw[y0t h,y0t<|by rw[y0x];omega];rfl
abbrev Q9:Stmt:=top 80
theorem Qe:FnScope ["_law_some","_law_ends","_law_turns","_law_two"] [] (defScope Q9):={}
include T in
theorem zze(d:Dfn K mg "_law_sayings" Q9 []):03 1 "_law_sayings" [] zqs:=by
 apply d.cal Qe 35 46
 .let(rfl,_):=h;rfl
 let(rfl,q):=h;let C:=zez hr 8 00;apply⟨_,(zbl (zat (i:=0) Qe.nd R 39<|zax (pa_c (zay<|pa_c zao (pa_c (zax<|pa_c zao zaa) zaa))<|pa_c (zay<|pa_c zao (pa_c (zax<|pa_c zao zaa) zaa)) zaa))<|zbl 075 (zbl 075<|zbl 075 (zbl (zat (i:=0) Qe.nd R 39<|za0 zma (pv 0) (zax<|pa_c (zay<|pa_c zao (pa_c (zax<|pa_c zao (pa_c zao zaa)) zaa)) (pa_c (zay<|pa_c zao (pa_c (zax<|pa_c zao (pa_c zao zaa)) zaa)) zaa)))<|zbl 074 (zbl 074<|zbl 074 (zbl (zat (i:=1) Qe.nd R 39 zao)<|zbl (zat (i:=2) Qe.nd R 39 zao) (zbl (zbm<|zbq K PySem.F.plainAttrs_list PySem.F.slot_list_append PySem.F.type_list_append za9 (pv 0) (pa_c (zay<|pa_c (za0 zb8 (za0 zb8 (za0 zb8 (za0 zb8 zao<|pv 1) zao)<|pv 2) zao) (pa_c (zax zaa) zaa)) zaa))<|zbl (zat (i:=3) Qe.nd R 39 zao) (zbl (zbm<|zbq K PySem.F.plainAttrs_list PySem.F.slot_list_append PySem.F.type_list_append za9 (pv 0) (pa_c (zay<|pa_c (za0 zb8 (za0 zb8 zao<|pv 3) zao) (pa_c (zax<|pa_c zao zaa) zaa)) zaa))<|zac (zag<|pv 0)))))))),?_⟩;apply zaw [B,B,B,B] R ?_;apply zb9 (λσ H'=>∃p xs,σ=[G 09,B,B,B]/\Says H H' p 2 xs) ?_ ?_
 .trivial;apply mkT λf1 H1 I=>mkT λy H2 o=>mkT λf2 H3 r=>mkT λD H4 x=>mkT λp H5 a=>?_;let j:=r.g.trans<|x.g.trans a.g;apply⟨_,a.at',((I.g.trans o.g).trans<|r.g.trans x.g).free a.nil,I.g.trans<|o.g.trans j,.cons ⟨y,f1,R,j _ _ o.at',j _ _<|o.g _ _ I.at'⟩<|.cons ⟨D,f2,R,a.g _ _ x.at',a.g _ _<|x.g _ _ r.at'⟩ .nil,by simp,_,_,R⟩
 rintro σ H12 ⟨p,xs,rfl,S⟩;apply zb9 (λσ H'=>∃p xs,σ=[G 09,B,B,B]/\Says H H' p 3 xs) ?_ ?_
 .trivial;apply⟨.inl ⟨_,.of S.at'⟩,mkT λf1 H1 I=>mkT λy H2 o=>⟨xs,?_⟩⟩;let Z:=S.app (q:=say63[2]) (ns:=say63[2].2.1) 04 R I o R rfl;show(047)
 rintro σ g ⟨p,xs,rfl,S⟩;apply zb9 (λσ H'=>∃p xs,σ=[G 09,B,B,B]/\Says H H' p 4 xs) ?_ ?_
 .trivial;apply⟨.inl ⟨_,.of S.at'⟩,mkT λf1 H1 I=>mkT λy H2 o=>⟨xs,?_⟩⟩;let Z:=S.app (q:=say63[3]) (ns:=say63[3].2.1) 04 R I o R rfl;show(047)
 rintro σ H14 ⟨p,xs,rfl,S⟩;apply zb9 (λσ H'=>∃p xs,σ=[G 09,B,B,B]/\Says H H' p 5 xs) ?_ ?_
 .trivial;apply⟨.inl ⟨_,.of S.at'⟩,mkT λf1 H1 I=>mkT λy H2 o=>⟨xs,?_⟩⟩;let Z:=S.app (q:=say63[4]) (ns:=say63[4].2.1) 04 R I o R rfl;show(047)
 rintro σ H15 ⟨p,xs,rfl,S⟩;apply zb9 (λσ H'=>∃p xs,σ=[G 09,B,B,B]/\Says H H' p 7 xs) ?_ ?_
 .trivial;apply mkT λf1 H1 I=>mkT λy H2 o=>mkT λf2 H3 r=>mkT λD H4 x=>mkT λl H5 a=>?_;let j:=r.g.trans<|x.g.trans a.g;let L:Same H15 H5:=I.g.trans<|o.g.trans j;let Y:xs.length<=12:=S.few;apply⟨_,L _ _ S.at',_,a.at',zaf (by simp only[y0i,y1k];omega),λM z U=>?_⟩;let(t0,r0,e0):=S.one;let O:xs.length=5:=by rw[S.pr.length];rfl
  let c:=L.trans U.g;apply⟨_,U.at',(S.g.trans L).free U.nil,S.g.trans c,?_,by rw[y0d,O];simp,t0,r0++_,by rw[e0];rfl⟩;let s1:SayAt z (.ref y) say63[5]:=⟨y,f1,R,U.g _ _<|j _ _ o.at',U.g _ _<|j _ _ (o.g _ _ I.at')⟩;let s2:SayAt z (.ref D) say63[6]:=⟨D,f2,R,U.g _ _<|a.g _ _ x.at',U.g _ _<|a.g _ _ (x.g _ _ r.at')⟩;let s:=SM.Paired.snoc (SM.Paired.snoc (L2.Paired.mapP S.pr λv k h=>h.same c) s1) s2;rw[y24]at s;show s
 rintro σ H17 ⟨p,xs,rfl,S⟩;apply zb9 (λσ H'=>∃p xs,σ=[G 09,B,B,B]/\Says H H' p 8 xs) ?_ ?_
 .trivial;apply⟨.inl ⟨_,.of S.at'⟩,mkT λf1 H1 I=>mkT λy H2 o=>⟨xs,?_⟩⟩;let Z:=S.app (q:=say63[7]) (ns:=say63[7].2.1) 04 R I o R rfl;show(047)
 rintro σ H18 ⟨p,xs,rfl,S⟩;apply zb9 (λσ H'=>∃p xs,σ=[G 09,B,B,B]/\Says H H' p 9 xs) ?_ ?_
 .trivial;apply⟨.inl ⟨_,.of S.at'⟩,mkT λf1 H1 I=>mkT λy H2 o=>⟨xs,?_⟩⟩;let Z:=S.app (q:=say63[8]) (ns:=say63[8].2.1) 04 R I o R rfl;show(047)
 rintro σ H19 ⟨p,xs,rfl,S⟩;apply zb9 (λσ H'=>∃p xs,σ=[G 09,B,B,B]/\Says H H' p 10 xs) ?_ ?_
 .trivial;apply⟨.inl ⟨_,.of S.at'⟩,mkT λf1 H1 I=>mkT λy H2 o=>⟨xs,?_⟩⟩;let Z:=S.app (q:=say63[9]) (ns:=say63[9].2.1) 04 R I o R rfl;show(047)
 rintro σ e ⟨p,xs,rfl,S⟩;apply zb9 (λσ H'=>H'=e/\σ=[G 09,G<|.str ends63t,B,B]) ?_ ?_
 .trivial;show R
 rintro σ H' ⟨rfl,rfl⟩;apply zb9 (λσ aa=>aa=H'/\σ=[G 09,G<|.str ends63t,G<|.str turns63t,B]) ?_ ?_
 .trivial;show R
 rintro σ aa ⟨rfl,rfl⟩;apply zb9 (λσ H'=>∃p xs,σ=[G 09,G<|.str ends63t,G<|.str turns63t,B]/\Says H H' p 11 xs) ?_ ?_
 .trivial;apply⟨.inl ⟨_,.of S.at'⟩,zaf 21,zaf 21,zaf 21,zaf 21,mkT λf1 H1 I=>mkT λy H2 o=>⟨xs,?_⟩⟩;let Z:=S.app (q:=say63[10]) (ns:=say63[10].2.1) 04 R I o 21 rfl;show(047)
 rintro σ J ⟨p,xs,rfl,S⟩;apply zb9 (λσ aa=>aa=J/\σ=[G 09,G<|.str ends63t,G<|.str turns63t,G<|.str two63t]) ?_ ?_
 .trivial;show R
 rintro σ H' ⟨rfl,rfl⟩;apply zb9 (λσ H'=>∃p xs,σ=[G 09,G<|.str ends63t,G<|.str turns63t,G<|.str two63t]/\Says H H' p 12 xs) ?_ ?_
 .trivial;apply⟨.inl ⟨_,.of S.at'⟩,zaf 21,zaf 21,mkT λf1 H1 I=>mkT λy H2 o=>⟨xs,?_⟩⟩;let Z:=S.app (q:=say63[11]) (ns:=say63[11].2.1) 04 R I o 21 rfl;show(047)
 rintro σ u ⟨p,xs,rfl,S⟩;trivial;show q p xs u S.g S.at' S.pr
include T in
theorem zmd(d:Dfn K mg "renamed" Q7 ["rooms","numbers"]):03 1 "renamed" ["rooms","numbers"] zfz:=by
 apply d.cal zeu 35 46
 .nofun
 let(a,b,rs,ls,fs,rfl,c,pr,h16,L,r,q):=h;let C:=zez hr 8 04;let hrl:=SS.Paired.len pr;apply⟨_,(zac<|zag (zbp zau 01 T.b_tuple iR<|pa_c (zas ["room"] [(1,"numbers")] 89 01 (za2 K<|pv 0) (λ_ _ _ _ _=>(zai (i:=0) (show List.Nodup (["room","numbers"]:List Str) by decide+kernel) 01 36)) (λ_ _ _ _ _=>za4) λ_ _ _ _ _=>(zfn C (pv 1) (pv 0) λ_ _=>rfl)) zaa)),?_⟩;apply zaw [G 07,G 47] R ?_;trivial;apply⟨⟨_,.of c⟩,zjc (n:=ls.length) (λσ=>∃v,σ=[v,G 47]) (λj y H=>y=nV (nOf fs<|ls.getD j [])) 00 ⟨_,R⟩ (λi H' hi e=>⟨_,rs[i]'(00),.of<|e _ _ c,y00 _⟩) (λH' e=>⟨_,.of<|e _ _ c,by omega⟩) ?_ ?_⟩
 .rintro D i ys σ H1 x O hi e u J Y U ⟨v,rfl⟩ ⟨rfl,M⟩;ac_rfl;let ex:=M _<|.of (e _ _ c);let(l,el,t,rfl,I):=SS.Paired.at pr ex;let et2:=e _ _ I;apply zk ?_;rw[←zkx]at et2;let z:=DGet.t (e _ _ L) et2;rw[zeo zb6<|r l (y0n el)]at z;trivial;apply⟨_,z,zcs (λj y H H' ts z=>z) 00 hi u J Y U (017).tups e ⟨_,R⟩ ?_⟩;rw[y02,el];rfl
 intro D ys H1 u g1 eD Y U;let p:H1 D=G (.lst<|(ls.map<|nOf fs).map nV):=by
  rw[eD];congr 2;apply y23 λj=>?_;by_cases g:j<ls.length
  .rw[y00 (show j<ys.length by omega),U j _<|y00 (show j<ys.length by omega),y03,y03,y02,y00 g];rfl
  .rw[y0t 00,y0t<|by rw[y01,y01];omega]
 show⟨_,R,_,.inl ⟨.of p,λt H2 o=>q t H2 (g1.trans o.g) o.at'⟩⟩
abbrev K0:Stmt:=top 22
theorem Ql:FnScope ["tracks","first","comings","is_end","numbers","found","ways","coming_here","thing"] ["tracks","first","comings","is_end"] (defScope K0):={}
include T in
theorem zmg{Pt:Ad}(d:Dfn K mg "explored" K0 ["tracks","first","comings","is_end"])(Qm:03 1 "renamed" ["rooms","numbers"] zfz)(Vc:03 5 "reduced" ["machine"]<|zdt Pt qs_reduced):
  03 6 "explored" ["tracks","first","comings","is_end"] (zdv P w K mg base Pt qs_reduced):=by
 apply d.cal Ql 35 46
 .nofun
 let(a,fc,fe,fdc,fde,Th,Gq,Rq,t0,rfl,tab,c,efc,efe,ko,km,hR,hRs,hw,hG0,hst,b0,q):=h;let C:=zez hr 8 04;apply⟨_,(zab (zat (i:=4) Ql.nd R 39<|zrr C (pv 1) zad)<|zab (zat (i:=5) Ql.nd R 39<|zax 97) (zab (zat (i:=6) Ql.nd R 39<|zax zaa)<|zab (zin PassesOwn.never (zak zpd (za1 (zan K) 01 T.b_len iy<|pa_c (pv 6) zaa) (za1 (zan K) 01 T.b_len iy<|pa_c (pv 5) zaa) 49)<|zab (zat (i:=7) Ql.nd R 39<|zc0 P w K mg base 2 4 1 (zdf Rq Th Gq) hr 00 (pa_c (zaq (zbc K) (pv 5) (za1 (zan K) 01 T.b_len iy<|pa_c (pv 6) zaa) λ_ _=>rfl) zaa)) (zab (zcf PassesOwn.never R (za2 K<|pv 7) (zai (i:=8) Ql.nd 01 36)<|zac (zaz (zak (zdg C) (pv 8) (pv 4)<|by with_unfolding_all rfl) (zab (zfl C (pv 4) (pv 8) (za1 (zan K) 01 T.b_len iy<|pa_c (pv 5) zaa) R)<|zac (zbm<|zbq K PySem.F.plainAttrs_list PySem.F.slot_list_append PySem.F.type_list_append za9 (pv 5) (pa_c (pv 8) zaa))) zaj))<|zab (zaz (zak zpf (za1 (zan K) 01 T.b_len iy<|pa_c (pv 5) zaa) (zb1 01 T.g_MOST_COME_TO) 49) (zac zb3) zaj) (zac<|zbm (zbq K PySem.F.plainAttrs_list PySem.F.slot_list_append PySem.F.type_list_append za9 (pv 6)<|pa_c (zae Qm hr 00 01<|pa_c (pv 7) (pa_c (pv 4) zaa)) zaa)))) (zac<|zag (zae Vc hr 00 01<|pa_c (zay<|pa_c (pv 0) (pa_c (zbp zau 01 T.b_tuple iR<|pa_c (pv 6) zaa)<|pa_c (zbp zau 01 T.b_tuple iR<|pa_c (zas ["thing"] [(3,"is_end")] 89 01 (za2 K<|pv 5) (λ_ _ _ _ _=>(zai (i:=0) (show List.Nodup (["thing","is_end"]:List Str) by decide+kernel) 01 36)) (λ_ _ _ _ _=>za4) λ_ _ _ _ _=>(zc0 P w K mg base 1 4 1 (zfi Rq Th Gq) hr 00 90)) zaa) zaa)) zaa)))),?_⟩;apply zaw [G<|nV Th.w,G 07,G<|.ref fc,G<|.ref fe,B,B,B,B,B] R ?_;trivial
 applyλkd Hk nk=>⟨nk.at',keyL t0,by rw[zkx];show nk.g _ _ c,mkT λpf H2 n2=>⟨by decide,λpw H3 r=>?_⟩⟩
 generalize eH:upd Hk kd (.dT [(keyL t0,V.int 0)])=Hk2 at n2;let gk:Same H Hk2:=by rw[←eH];show nk.g.wr nk.nil _
 let ek:Hk2 kd=G (.dT<|tabF keyL 0 [t0]):=by rw[←eH,zar];rfl
 let g3:Same H H3:=gk.trans<|n2.g.trans r.g;let nfk:kd≠pf:=zav ek n2.nil;let nwk:kd≠pw:=zav (n2.g _ _ ek) r.nil;let nfw:pf≠pw:=zav n2.at' r.nil;let hkd:H kd=B:=nk.nil;let hpf:H pf=B:=gk.free n2.nil;let hpw:H pw=B:=(gk.trans n2.g).free r.nil;let d9:=zb0 hw;apply⟨λmm σ H'=>∃(k:Nat) (fs:List<|List Nat) (rs rw:List V) (v7 v8:Option V),mm=100-k/\Same H H'/\σ=[G<|nV Th.w,G 07,G<|.ref fc,G<|.ref fe,G<|.ref kd,G<|.ref pf,G<|.ref pw,v7,v8]/\H' kd=G (.dT<|tabF keyL 0 fs)/\H' pf=G (.lst rs)/\i8 (Line H') rs fs/\H' pw=G (.lst rw)/\i8 (Line H') rw ((fs.take k).map λt=>(Th.step t).map<|nOf fs)/\Fnd Th Gq t0 fs k,
  ⟨100,0,[t0],[.ref a],[],B,B,R,g3,R,(n2.g.trans r.g) _ _ ek,r.g _ _ n2.at',.cons ⟨a,R,g3 _ _ c⟩ .nil,r.at',.nil,Fnd.start hG0⟩,?_⟩
 rintro mm σ H' ⟨k,fs,rs,rw',v7,v8,rfl,g,rfl,ek',dr,pr,ew',pw',F⟩;let hrl:=SS.Paired.len pr;let hwl:=SS.Paired.len pw';rw[y01,y0w,y2r F.le]at hwl;let L:=b0 fs k F;trivial;apply⟨_,.inl<|.of ew',_,.inl<|.of dr,?_⟩;by_cases a6:k<fs.length
 .refine itT 00 ⟨λσ' I=>∃O,O<100-k/\_,λσ' I z=>z,?_⟩;ac_rfl;let et:fs[k]?=G fs[k]:=y00 a6;let(v,ev,ta,rfl,eta):=Paired.at2 pr et;let hGt:=F.good _<|y0k a6;apply zk ?_;generalize fs[k]=t at et eta hGt;let(ft,hsG):=hst t hGt;apply⟨fc,R,fdc,g _ _ efc,_,.inl<|.of ew',_,.of dr,_,by rw[hwl];show zal ev,g _ _ efc,ko.mono g.frz,R,ta,t,R,hRs _ _ g hR,eta,hGt,λD c8 H1 hD g1 eD dh=>⟨⟨_,.of eD⟩,?_⟩⟩;let nkD:kd≠D:=zav ek' hD;let nfD:pf≠D:=zav dr hD;let aq:=SS.Paired.len dh;apply zi6 (K:=K) (a:=D) (xs:=c8) (λj σ I=>Same H I/\TupS H1 I/\(∃v8,σ=[G<|nV Th.w,G 07,G<|.ref fc,G<|.ref fe,G<|.ref kd,G<|.ref pf,G<|.ref pw,G 65,v8])/\I D=G (.lst c8)/\I pw=G (.lst rw')/\∃cr,I kd=G (.dT<|tabF keyL 0 (news fs<|(Th.step t).take j))/\I pf=G (.lst cr)/\i8 (Line I) cr (news fs<|(Th.step t).take j))
   ⟨g.trans g1,TupS.refl _,⟨_,R⟩,eD,g1 _ _ ew',rs,g1 _ _ ek',g1 _ _ dr,L2.Paired.mapP pr λ_ _ z=>z.ts g1.tups⟩ (λj σ I _ z=>.of z.2.2.2.1) ?_ ?_
  .rintro j y σ I U ⟨g2,ts,⟨v8',rfl⟩,b7,e8,cr,b8,bx,dq⟩;ac_rfl;let(u,eu,tu,rfl,etu):=SS.Paired.at dh U;let m4:=ts _ _ etu;let m5:I tu=G (.tup<|(keyL u).map kV):=by rw[zkx];show m4
   let hjl:=SS.Paired.len dq;let dg:=zfo ((Th.step t).take j) fs;apply zk ?_;rw[y0w]at dg;trivial;apply⟨_,DGet.t b8 m5,?_⟩;by_cases cg:u∈news fs ((Th.step t).take j)
   .rw[zeo zb6 cg];apply iteF ?_;rw[zht eu,zse cg];show⟨g2,ts,b7,e8,b8,cr,bx,dq⟩
   .rw[zfg zb6 cg];let ef3:∀o,upd I kd o pf=G (.lst cr):=λo=>by rw[zam<|Ne.symm nfk];show bx
    apply iteT ⟨_,.inl<|.of bx,_,DPut.t b8 m5 (by rw[zdd];show small1000 00),.inl ⟨_,.of<|ef3 _⟩,_,ef3 _,small1000 00,?_⟩;rw[zht eu,zmk cg];generalize news fs ((Th.step t).take j)=ds at cg b8 dq hjl dg;let ep:putK (tabF keyL 0 ds) (keyL u) (V.int (cr.length:Int))=tabF keyL 0 (ds++[u]):=by
     rw[←zid zb6 cg,zdd,hjl]
    let tsA:TupS I (upd (upd I kd<|.dT (putK (tabF keyL 0 ds) (keyL u)<|V.int (cr.length:Int))) pf<|.lst (cr++[.ref tu])):=(TupS.wrT b8 _).trans<|TupS.wr (ef3 _) _;apply⟨(g2.wr hkd _).wr hpf _,ts.trans tsA,by rw[zam<|Ne.symm nfD,zam<|Ne.symm nkD];show b7,by rw[zam<|Ne.symm nfw,zam<|Ne.symm nwk];show e8,by rw[zam nfk,zar,ep],cr++[.ref tu],zar,SM.Paired.snoc (L2.Paired.mapP dq λ_ _ z=>z.ts tsA) ⟨tu,R,tsA _ _ m4⟩⟩
  .rintro σ I ⟨g2,ts,⟨v8',rfl⟩,b7,e8,cr,b8,bx,dq⟩;rw[aq,y0h 08]at b8 dq;let F':=F.next et hsG;let J:=b0 _ _ F';let hjl:=SS.Paired.len dq;trivial;apply⟨_,.inl<|.of bx,?_⟩;apply itF 00 ⟨.inl ⟨_,.of e8⟩,D,kd,c8,Th.step t,news fs<|Th.step t,R,b7,L2.Paired.mapP dh λ_ _ z=>z.ts ts,by omega,b8,(λl Y=>(zb4 _ _ _).mpr<|.inr Y),λp H4 g4 ep=>⟨_,g4 _ _ e8,small1000 00,?_⟩⟩;let tsB:TupS I (upd H4 pw<|.lst (rw'++[.ref p])):=g4.tups.trans<|TupS.wr (g4 _ _ e8) _;apply⟨100-(k+1),by omega,k+1,R,(g2.trans g4).wr hpw _,news fs<|Th.step t,by rw[zam nwk];show g4 _ _ b8,cr,by rw[zam nfw];show g4 _ _ bx,L2.Paired.mapP dq λ_ _ z=>z.ts tsB,rw'++[.ref p],zar,?_,F'⟩;rw[zqm F et];show SM.Paired.snoc (L2.Paired.mapP pw' λ_ _ z=>z.ts<|g1.tups.trans (ts.trans tsB)) ⟨p,R,TupS.wr (g4 _ _ e8) _ _ _ ep⟩
 .rw[Xf 00];let M:k=fs.length:=by have:=F.le;omega
  subst M;apply iteF ?_;let hF:∀t∈fs,Gq t:=F.good;apply⟨_,.inl ⟨.of ew',λt1 H4 n4=>⟨⟨_,.of<|n4.g _ _ dr⟩,?_⟩⟩⟩;apply zjc (n:=fs.length) (λσ=>∃v,σ=[v,G<|.ref fe]) (λj y H=>y=.bl (Th.fin<|fs.getD j [])) 00 ⟨_,R⟩ (λi H5 hi e=>⟨_,rs[i]'(00),.of<|e _ _ (n4.g _ _ dr),y00 _⟩) (λH5 e=>⟨_,.of<|e _ _ (n4.g _ _ dr),by omega⟩) ?_ ?_
  .rintro D i ys σ H5 x H5' hi e hD a7 Y U ⟨v,rfl⟩ ⟨rfl,yx⟩;ac_rfl;let ex:=yx _<|.of (e _ _<|n4.g _ _ dr);let(l,el,tl,rfl,etl):=SS.Paired.at pr ex;let gg':=g.trans<|n4.g.trans e;apply zk ?_;trivial;apply⟨fe,R,fde,gg' _ _ efe,gg' _ _ efe,km.mono gg'.frz,R,tl,l,R,hRs _ _ gg' hR,(n4.g.trans e) _ _ etl,F.good l<|y0n el,λH6 g6=>zcs (λj y H H' ts z=>z) 00 hi hD (g6 _ _ a7) Y U g6.tups (e.trans g6) ⟨_,R⟩ ?_⟩;rw[y02,el];rfl
  intro D ys H5 hD g5 eD Y U;let ar:H5 D=G (.lst<|(fs.map Th.fin).map V.bl):=by
   rw[eD];congr 2;apply y23 λj=>?_;by_cases hj:j<fs.length
   .rw[y00 (show j<ys.length by omega),U j _<|y00 (show j<ys.length by omega),y03,y03,y02,y00 hj];rfl
   .rw[y0t 00,y0t<|by rw[y01,y01];omega]
  apply⟨D,R,_,.inl ⟨.of ar,λt2 H6 n6=>mkT λt3 H7 n7=>?_⟩⟩;let gA:=n4.g.trans<|g5.trans (n6.g.trans n7.g);rw[y0h 08]at pw';let rp:RepM H7 t3 (expl Th fs):=⟨t1,t2,rw',n7.at',(g5.trans<|n6.g.trans n7.g) _ _ n4.at',L2.Paired.mapP pw' λ_ _ z=>z.ts gA.tups,n7.g _ _ n6.at'⟩;apply⟨t3,expl Th fs,R,tab.same<|g.trans gA,rp,expl_ok hw F 00 λt h=>(hst t h).1,λp O H8 g8 r8 Rd=>q p O H8 (g.trans<|gA.trans g8) r8 Rd.ok Rd.w Rd.canon λrow hr=>?_⟩;rw[←Rd.par row hr,zp7 F (λt h=>(hst t h).1) row hr]
abbrev Vx:Stmt:=top 23
theorem Tc:FnScope ["one","other","is_end","comings"] ["one","other","is_end"] (defScope Vx):={}
abbrev qs_paired:List (Pos×Str):=[(⟨86,4,87,60⟩,"paired.<locals>.comings"),(⟨88,45,88,100⟩,"paired.<locals>.<lambda>")]
include T in
theorem zpn{c Pp Pt:Ad}(d:DfnC K mg "paired" Vx ["one","other","is_end"] c Pp)(kb:BltK base mg)(Va:03 6 "explored" ["tracks","first","comings","is_end"]<|zdv P w K mg base Pt qs_reduced):
  03 7 "paired" ["one","other","is_end"] (zer P w K mg base Pt qs_reduced Pp qs_paired):=by
 apply d.cal Tc 35 λf A outer s H vs Q E D h=>?_
 .nofun
 let(a,b,pf,fd,i,m2,op,rfl,tr,tp,cq,dk,u,o2,hw,b0,ef,cl,q):=h;let(b1,M,rs1,ea,aj,dh,bu):=id cq;let(b2,c2,rs2,eb,eb2,pr2,ec2):=id dk;apply⟨_,(zab (zaz (zak op_ne (zaq 38 (pv 0) zad λ_ _=>rfl) (zaq 38 (pv 1) zad λ_ _=>rfl) 49) (zac zb3) zaj)<|zab (zxe (qs:=qs_paired) "paired.<locals>.comings" (j:=3) R d.code kb 01 01 Tc.nd R R) (zac<|zag (zc1 Va D 00 01 (λ_=>rfl)<|pa_c (zaq 38 (pv 0) zad λ_ _=>rfl) (pa_c (zay<|pa_c zad (pa_c zad zaa))<|pa_c (pv 3) (pa_c (zkg (qs:=qs_paired) "paired.<locals>.<lambda>" rfl d.code kb 01 01) zaa))))),?_⟩;apply zaw [G 07,G 47,G<|.ref pf,B] R ?_;trivial;apply⟨_,.of ea,_,zca,_,.of eb,_,zca,R,?_⟩;rw[show(!decide (nV i.w=nV m2.w))=Fa by rw[hw];simp];apply iteF ⟨tp,λf1 H1 M1=>⟨_,.of<|M1.old _ _ ea,_,zca,mkT λt0 H2 o=>⟨tp.same<|M1.old.trans o.g,λf2 H3 M2 Hq ad=>?_⟩⟩⟩;ac_rfl;let g3:Same H H3:=M1.old.trans<|o.g.trans M2.old;let gq:Same H Hq:=g3.trans ad.up;let(b9,fu):=M1.fn;let(fd2,bx):=M2.fn;let ko:CloH P w K mg base 4 Hq f1 1 (zdf (λH=>RepMK K H a i/\RepMK K H b m2) (pairT i m2 op)<|PairG i m2):=by
  apply M1.clo_s (own:=["pair"]) (ps:=["pair"]) (cap:=["one","other"]) (cv:=[.ref a,.ref b]) (k:=3) (o.g.trans M2.old) ad ⟨R,R,R,by decide+kernel,R,by decide+kernel,by decide+kernel,by decide+kernel⟩ 08 (.cons ⟨0,R,R,.inl R⟩<|.cons ⟨1,R,R,.inl R⟩ .nil) (λcl ct cd r=>L2.fit1 λ_=>rfl) ?_;rintro clo c' A' ax s' H' vs Q' D a0 fz ck Y ⟨pa,t,rfl,⟨eh,fw⟩,et,⟨x,y,rfl,O,U⟩,q'⟩;apply⟨_,(zac<|zag (zl9 R 01 T.b_list 01 T.b_zip<|pa_c (zaq 38 (zaq 38 (pv 1) zad λ_ _=>rfl) (zaq 38 (pv 0) zad λ_ _=>rfl) λ_ _=>rfl) (pa_c (zaq 38 (zaq 38 (pv 2) zad λ_ _=>rfl) (zaq 38 (pv 0) zad λ_ _=>rfl) λ_ _=>rfl) zaa))),?_⟩;apply zaw [G<|.ref pa,G 07,G 47] R ?_;trivial;let(b1',c1',md,d6,kq,m9,fh):=eh.ts<|SameN.tups a0.n;let(b2',c2',rs2',f6,ma,m7,m6):=fw.ts<|SameN.tups a0.n;let aw:=a0.n _ _ et λ_ _ z=>nomatch z;let(l1,w1,e1,n1,r1):=zdb u O;let(l2,w2,C,n2',r2):=zdb o2 U;let(v1,ev1,u1,rfl,eu1):=Paired.at2 m9 w1;let(v2,ev2,u2,rfl,eu2):=Paired.at2 m7 w2;let d9:=zb0 u.wid;apply⟨_,.of d6,_,zal (j:=1) R,_,.of aw,_,zca,_,.of kq,_,zal ev1,_,.of f6,_,zal (j:=1) R,_,.of aw,_,zal (j:=1) R,_,.of ma,_,zal ev2,u1,R,u2,R,_,.of eu1,_,.of eu2,by rw[y01,y01,n1,n2',hw],by rw[y01,n1];omega,λL ps H5 hL g5 eL lps PL I=>q' L (ps.map V.ref) (mixL clo H' H5) (zgm hL eL I) (zb5 g5) (ze7 I _ _ eL) ?_⟩;change i8 _ _ (((i.ways.getD x []).zip<|m2.ways.getD y []).map λp=>[p.1,p.2]);rw[e1,C];apply zb2 (by rw[y01,y01,y44,lps,y01,n1,n2',←hw,Nat.min_self]) λj v l ev el=>?_;rw[y03]at ev el;let(p,ep,rfl):=y1a.mp ev;let((z1,z2),ez,rfl):=y1a.mp el;let(x',y',h1,J,h3):=PL j p ep;let(hz1,hz2):=y49.mp ez;rw[y03,hz1]at h1;rw[y03,hz2]at J;cases h1;cases J;show⟨p,R,ze7 I _ _ h3⟩
 let km:CloH P w K mg base 4 Hq f2 1 (zfi (λH=>RepMK K H a i/\RepMK K H b m2) (pairT i m2 op)<|PairG i m2):=by
  apply M2.clo_e (own:=["pair"]) (ps:=["pair"]) (cap:=["is_end","one","other"]) (cv:=[.ref pf,.ref a,.ref b]) (k:=3) 017 ad ⟨R,R,R,by decide+kernel,R,by decide+kernel,by decide+kernel,by decide+kernel⟩ 08 (.cons ⟨2,R,R,.inl R⟩<|.cons ⟨0,R,R,.inl R⟩ (.cons ⟨1,R,R,.inl R⟩ .nil)) (λcl ct cd r=>L2.fit1 λ_=>rfl) ?_;rintro clo c' A' ax s' H' vs Q' D a0 fz ck Y ⟨pa,t,rfl,⟨eh,fw⟩,et,⟨x,y,rfl,O,U⟩,q'⟩;apply⟨_,(zc0 P w K mg base 1 2 2 (zfk op) D 00<|pa_c (zaq 38 (zaq 38 (pv 2) zad λ_ _=>rfl) (zaq 38 (pv 0) zad λ_ _=>rfl) λ_ _=>rfl) (pa_c (zaq 38 (zaq 38 (pv 3) zad λ_ _=>rfl) (zaq 38 (pv 0) zad λ_ _=>rfl) λ_ _=>rfl) zaa)),?_⟩;apply zra [G<|.ref pa,G<|.ref pf,G 07,G 47] R ?_;trivial;let(b1',c1',md,d6,kq,m9,fh):=eh.ts<|SameN.tups a0.n;let(b2',c2',rs2',f6,ma,m7,m6):=fw.ts<|SameN.tups a0.n;let aw:=a0.n _ _ et λ_ _ z=>nomatch z;show⟨pf,R,fd,ck _ _ _<|g3 _ _ ef,_,.of d6,_,zal (j:=2) R,_,.of aw,_,zca,_,fh.sq,_,zal (by rw[y03,Mc.fin_at O];rfl),_,.of f6,_,zal (j:=2) R,_,.of aw,_,zal (j:=1) R,_,m6.sq,_,zal (by rw[y03,Mc.fin_at U];rfl),ck _ _ _<|g3 _ _ ef,cl.mono<|g3.frz.trans ck,R,_,_,R,λI=>q' _<|zb5 017⟩
 apply zk ?_;apply⟨t0,f1,f2,b9,fd2,pairT i m2 op,PairG i m2,(λH=>RepMK K H a i/\RepMK K H b m2),[0,0],R,tr.same gq,(M2.old.trans ad.up) _ _ o.at',((o.g.trans M2.old).trans ad.up) _ _ fu,ad.up _ _ bx,ko,km,⟨cq.same gq,dk.same gq⟩,(λH1 H2 g z=>⟨z.1.same g,z.2.same g⟩),u.wid,⟨0,0,R,u.pos,o2.pos⟩,(λt h=>zrx u o2 hw h),(λfs k F=>y14 (zvs F) b0),λp m' H5 g5 rp f7 ew cn tk=>?_⟩;show q p m' _ (g3.trans<|ad.same g5) (rp.ts λb xs e=>ad.keep g5 e λ_ _ z=>nomatch z) f7 ew cn λrow D=>by rw[tk row D,zny u o2 hw row u.pos o2.pos D];rfl
abbrev P2:Stmt:=top 25
theorem Qaz:FnScope ["one","other"] ["one","other"] (defScope P2):={}
abbrev qs_met:List (Pos×Str):=[(⟨92,30,92,68⟩,"met.<locals>.<lambda>")]
include T in
theorem zzh{c Pm Pp C:Ad}(d:DfnC K mg "met" P2 ["one","other"] c Pm)(kb:BltK base mg)(Vr:03 7 "paired" ["one","other","is_end"]<|zer P w K mg base C qs_reduced Pp qs_paired):
  03 8 "met" ["one","other"] (zet K C qs_reduced Pp qs_paired Pm qs_met λx y=>x&&y):=by
 apply d.cal Qaz 35 λf A outer s H vs Q E D h=>?_
 .nofun
 let(a,b,i,m2,rfl,I,tp,tm,cq,dk,u,o2,j,o,q):=h;apply⟨_,(zac<|zag (zc1 Vr D 00 01 (λ_=>rfl)<|pa_c (pv 0) (pa_c (pv 1)<|pa_c (zkg (qs:=qs_met) "met.<locals>.<lambda>" rfl d.code kb 01 01) zaa))),?_⟩;apply zaw [G 07,G 47] R ?_;trivial;apply⟨tm,λfl H1 M Hq ad=>?_⟩;let gq:Same H Hq:=M.old.trans ad.up;let(kj,kl):=M.fn;let cl:CloH P w K mg base 2 Hq fl 2 (zfk λx y=>x&&y):=by
  apply M.clo_e (own:=["first","second"]) (ps:=["first","second"]) (cap:=[]) (cv:=[]) (k:=1) 017 ad ⟨R,R,R,by decide+kernel,R,by decide+kernel,by decide+kernel,by decide+kernel⟩ 08 .nil (λcl ct cd r=>L2.fit2 λ_ _=>rfl) ?_;rintro clo c' A' g s' H' vs Q' D l L v Y ⟨x,y,rfl,q'⟩;apply⟨_,(zd9 (pv 0)<|zcz (pv 1)),?_⟩;apply zra [G<|.bl x,G<|.bl y] R ?_;trivial;let hm:mixL clo H' (dropL clo H')=H':=by
   classical
   funext b;unfold mixL dropL;by_cases U:InCl clo b
   .rw[Xq U]
   .rw[Xp U,Xp U]
  rw[hm];cases x with
  |true=>show iteT λ_=>q'
  |false=>show iteF λ_=>q'
 show⟨a,b,fl,kj,i,m2,_,R,I.same gq,tp.same gq,cq.same gq,dk.same gq,u,o2,j,o,ad.up _ _ kl,cl,λp O H5 g5 rp f7 ew cn J=>q p O _ (M.old.trans<|ad.same g5) (rp.ts λb xs e=>ad.keep g5 e λ_ _ z=>nomatch z) f7 ew cn J⟩
abbrev Vu:Stmt:=top 26
theorem zq6:FnScope ["one","other"] ["one","other"] (defScope Vu):={}
abbrev qs_joined:List (Pos×Str):=[(⟨94,30,94,67⟩,"joined.<locals>.<lambda>")]
include T in
theorem zv0{c Pj Pp C:Ad}(d:DfnC K mg "joined" Vu ["one","other"] c Pj)(kb:BltK base mg)(Vr:03 7 "paired" ["one","other","is_end"]<|zer P w K mg base C qs_reduced Pp qs_paired):
  03 8 "joined" ["one","other"] (zet K C qs_reduced Pp qs_paired Pj qs_joined λx y=>x||y):=by
 apply d.cal zq6 35 λf A outer s H vs Q E D h=>?_
 .nofun
 let(a,b,i,m2,rfl,I,tp,tm,cq,dk,u,o2,j,o,q):=h;apply⟨_,(zac<|zag (zc1 Vr D 00 01 (λ_=>rfl)<|pa_c (pv 0) (pa_c (pv 1)<|pa_c (zkg (qs:=qs_joined) "joined.<locals>.<lambda>" rfl d.code kb 01 01) zaa))),?_⟩;apply zaw [G 07,G 47] R ?_;trivial;apply⟨tm,λfl H1 M Hq ad=>?_⟩;let gq:Same H Hq:=M.old.trans ad.up;let(kj,kl):=M.fn;let cl:CloH P w K mg base 2 Hq fl 2 (zfk λx y=>x||y):=by
  apply M.clo_e (own:=["first","second"]) (ps:=["first","second"]) (cap:=[]) (cv:=[]) (k:=1) 017 ad ⟨R,R,R,by decide+kernel,R,by decide+kernel,by decide+kernel,by decide+kernel⟩ 08 .nil (λcl ct cd r=>L2.fit2 λ_ _=>rfl) ?_;rintro clo c' A' g s' H' vs Q' D l L v Y ⟨x,y,rfl,q'⟩;apply⟨_,(zyy (pv 0)<|zcz (pv 1)),?_⟩;apply zra [G<|.bl x,G<|.bl y] R ?_;trivial;let hm:mixL clo H' (dropL clo H')=H':=by
   classical
   funext b;unfold mixL dropL;by_cases U:InCl clo b
   .rw[Xq U]
   .rw[Xp U,Xp U]
  rw[hm];cases x with
  |true=>show iteT λ_=>q'
  |false=>show iteF λ_=>q'
 show⟨a,b,fl,kj,i,m2,_,R,I.same gq,tp.same gq,cq.same gq,dk.same gq,u,o2,j,o,ad.up _ _ kl,cl,λp O H5 g5 rp f7 ew cn J=>q p O _ (M.old.trans<|ad.same g5) (rp.ts λb xs e=>ad.keep g5 e λ_ _ z=>nomatch z) f7 ew cn J⟩
abbrev Ve:Stmt:=top 24
theorem zo6:FnScope ["machine"] ["machine"] (defScope Ve):={}
include T in
theorem zpo{C:Ad}(d:Dfn K mg "flipped" Ve ["machine"])(Vc:03 5 "reduced" ["machine"]<|zdt C qs_reduced):03 6 "flipped" ["machine"] (zhe C qs_reduced):=by
 apply d.cal zo6 35 46
 .nofun
 let(a,m,rfl,tab,(b1,c1,Y,c,I,U,L),ok,q):=h;let hf:m.ends.length<=100:=ok.few;apply⟨_,(zac<|zag (zae Vc hr 00 01<|pa_c (zay<|pa_c (zaq 38 (pv 0) zad λ_ _=>rfl) (pa_c (zaq 38 (pv 0) zad λ_ _=>rfl)<|pa_c (zbp zau 01 T.b_tuple iR<|pa_c (zas ["end"] [] 89 01 (zbw K<|zaq 38 (pv 0) zad (λ_ _=>rfl)) (λ_ _ _ _ _=>(zai (i:=0) (show List.Nodup (["end"]:List Str) by decide+kernel) 01 36)) (λ_ _ _ _ _=>za4) λ_ _ _ _ _=>(zxf<|pv 0)) zaa) zaa)) zaa)),?_⟩;apply zaw [G 07] R ?_;trivial;apply⟨_,.of c,_,zca,_,.of c,_,zal (j:=1) R,_,.of c,_,zal (j:=2) R,⟨_,.of L⟩,zfa (K:=K) (a:=c1) (xs:=m.ends.map V.bl) (λσ=>∃v,σ=[v]) (λy=>match y with|.bl x=>.bl (!x)|v=>v) (by rw[y01];omega) (.of L) ⟨_,R⟩ ?_ ?_⟩
 .rintro D i σ H' x hi M O e u J ⟨v,rfl⟩;let(r,mr,rfl):=y0e.mp M;trivial;show zbo (by rw[y01];omega) O u J e ⟨_,R⟩ R
 intro D H1 u g1 l;let ar:H1 D=G (.lst<|(m.ends.map λb=>!b).map V.bl):=by rw[l,y0q,y0q];rfl
 apply⟨_,R,_,.inl ⟨.of ar,λt1 H2 o=>mkT λt2 H3 n3=>?_⟩⟩;let g:=g1.trans<|o.g.trans n3.g;let rt:RepM H3 t2 (turned m):=⟨b1,t1,Y,n3.at',g _ _ I,L2.Paired.mapP U λ_ _ z=>z.ts g.tups,n3.g _ _ o.at'⟩;show⟨t2,turned m,R,tab.same g,rt,zqo ok,λp m' H4 g4 rp Rq=>q p m' H4 (g.trans g4) rp Rq⟩
abbrev Qf:Stmt:=top 40
theorem zcd:FnScope ["thing","letters"] ["thing","letters"] (defScope Qf):={}
include T in
theorem ok_lf(d:Dfn K mg "is_letter_with_figures" Qf ["thing","letters"]):03 1 "is_letter_with_figures" ["thing","letters"] zx9:=by
 apply d.cal zcd 35 46
 .nofun
 let(x,l,k,rfl,M,hz,q):=h;apply⟨_,(zab (zaz (PW.pt<|zim (zct<|zbr (za1 zbu 01 T.b_isinstance iM<|pa_c (pv 0) (pa_c (zcp (v:=.ty "str") 01 T.b_str boot_str 01) zaa))) (zim (zak za7 (pv 0) zao 49)<|zf8 (zak zpf (za1 zlc 01 T.b_len iy 90) (zb1 01 T.g_LONGEST_NAME) 49))) 027 zaj)<|zac (zag<|zd9 (za8 zko (zaq ix_str (pv 0) zad λ_ _=>rfl) (pv 1)<|by with_unfolding_all rfl) (zcz<|za1 (zc7 K R) 01 T.b_all lB (pa_c (zas ["sign"] [] 89 01 (pi_str<|zbb sl_str (pv 0) (zbd zad) zbs) (λ_ _ _ _ _=>(zai (i:=0) (show List.Nodup (["sign"]:List Str) by decide+kernel) 01 36)) (λ_ _ _ _ _=>za4) λ_ _ _ _ _=>(za8 zko (pv 0) (zb1 01 T.g_FIGURES)<|by with_unfolding_all rfl)) zaa)))),?_⟩;apply zaw [G x,G<|.str l] R ?_;trivial;apply⟨k,M,by decide,?_⟩;cases M with
 |str z =>
  let y:=hz z rfl;let Y:=zlp z;rw[show(!subT "str" "str")=Fa by decide];trivial;apply ite2 (λc=>?_) λc=>?_
  .let c':=of_decide_eq_true c;subst c';show q H 93
  let c':=of_decide_eq_false<|y1f.mpr c;let ne:z.cps.toList≠[]:=λe=>c'<|ext_toList e;apply⟨by have:=small1000 y;omega,?_⟩;let(c0,r0,I):=List.exists_cons_of_ne_nil ne;let U:∀H',Same H H'->Q (.bl<|decide (r0.length<=3)&&signIn c0 l&&r0.all λd=>signIn d FIGS) H':=λH' g=>by
   let h:=q H' g;simp only[isNm,nameB,I]at h;show h
  rw[I,y0i]at Y;apply ite2 (λc=>?_) λc=>?_
  .let j:=of_decide_eq_true c;let h:=U H 93;rw[show decide (r0.length<=3)=Fa by simp;omega,y1h,y1h]at h;show h
  let j:=of_decide_eq_false<|y1f.mpr c;rw[show decide (r0.length<=3)=N by simp;omega,y1i]at U;apply⟨by have:=small1000 y;omega,c0,by rw[I];show zca,?_⟩;apply ite2 (λc=>?_) λc=>?_
  .rw[show signIn c0 l=N from c,y1i]at U;let p:(Txt.slice z (G 1) B).cps.toList=r0:=by
    rw[zq1,show((1:Int))=((1:Nat):Int)from rfl,zei,I];rfl
   let r:(Txt.slice z (G 1) B).cps.size=r0.length:=by rw[←p];simp
   apply⟨by have:=small1000 y;omega,?_⟩;apply cb_str (λD i ys σ H'=>Same H H'/\(∃v,σ=[v])/\ys=(r0.take i).map λd=>V.bl<|signIn d FIGS) (by rw[r];show y1r<|small1000 00) (λD u=>⟨zba u _,⟨B,R⟩,R⟩) ?_ ?_
   .rintro D i ys σ H' d u hi hd J C ⟨g,⟨v,rfl⟩,rfl⟩;trivial;apply cstep (by rw[r];show y1r<|small1000 00) hi J C ⟨λb o e=>?_,⟨_,R⟩,?_⟩
    .rw[zam<|zav e u];show g b o e
    .rw[r]at hi;let a:r0[i]?=G d:=by rw[←p];simpa using hd
     rw[y19,a,y0v];rfl
   .rintro D ys σ H' u J C ⟨g,_,rfl⟩;rw[r,y0h 08]at J;apply⟨r0.map λd=>signIn d FIGS,.of (by rw[J,y0q];rfl),?_⟩;let h:=U H' g;rw[y2z];show h
  .let h:=U H 93;rw[show signIn c0 l=Fa from y1f.mpr c,y1h]at h;show h
 |non=>show q H 93
 |bl b=>show q H 93
 |int i=>show q H 93
 |lst e=>show q H 93
 |tup e=>show q H 93
 |dK e=>show q H 93
abbrev K2:Stmt:=top 41
theorem zl0:FnScope ["thing"] ["thing"] (defScope K2):={}
include T in
theorem zvz(d:Dfn K mg "is_place" K2 ["thing"])(a:03 1 "is_letter_with_figures" ["thing","letters"] zx9):03 2 "is_place" ["thing"] (zie SMALL):=by
 apply d.cal zl0 35 46
 .nofun
 let(x,k,rfl,M,hz,q):=h;apply⟨_,(zac<|zag (zae a hr 00 01<|pa_c (pv 0) (pa_c (zb1 01 T.g_SMALL_LETTERS) zaa))),?_⟩;apply zaw [G x] R ?_;trivial;show⟨x,SMALL,k,R,M,hz,q⟩
abbrev Vw:Stmt:=top 42
theorem zq7:FnScope ["thing"] ["thing"] (defScope Vw):={}
include T in
theorem ok_set(d:Dfn K mg "is_set" Vw ["thing"])(a:03 1 "is_letter_with_figures" ["thing","letters"] zx9):03 2 "is_set" ["thing"] (zie GREAT):=by
 apply d.cal zq7 35 46
 .nofun
 let(x,k,rfl,M,hz,q):=h;apply⟨_,(zac<|zag (zae a hr 00 01<|pa_c (pv 0) (pa_c (zb1 01 T.g_GREAT_LETTERS) zaa))),?_⟩;apply zaw [G x] R ?_;trivial;show⟨x,GREAT,k,R,M,hz,q⟩
abbrev Vj:Stmt:=top 43
theorem zo4:FnScope ["thing"] ["thing"] (defScope Vj):={}
include T in
theorem ok_nm(d:Dfn K mg "is_name" Vj ["thing"])(e:03 2 "is_place" ["thing"]<|zie SMALL)(i:03 2 "is_set" ["thing"]<|zie GREAT):03 3 "is_name" ["thing"] zuv:=by
 apply d.cal zo4 35 46
 .nofun
 let(x,rfl,((k,M),hz),q):=h;apply⟨_,(zac<|zag (zyy (zae e hr 00 01 90)<|zcz (zae i hr 00 01 90))),?_⟩;apply zaw [G x] R ?_;trivial;apply⟨x,k,R,M,hz,λH1 g1=>⟨_,R,ite2 (λc=>?_) λc=>⟨x,k,R,M.same g1,hz,λH2 o=>?_⟩⟩⟩
 .let h:=q H1 g1;rw[show isName x=N by unfold isName;rw[c,Bool.true_or]]at h;show h
 .let h:=q H2<|g1.trans o;rw[show isName x=isNm x GREAT by unfold isName;rw[y1f.mpr c,y4e]]at h;show h
abbrev K4:Stmt:=top 44
theorem zl1:FnScope ["thing"] ["thing"] (defScope K4):={}
include T in
theorem zv3(d:Dfn K mg "is_frame" K4 ["thing"])(Vi:03 3 "is_name" ["thing"] zuv):03 4 "is_frame" ["thing"] zyb:=by
 apply d.cal zl1 35 46
 .nofun
 let(x,rfl,((k,M),hz),L,q):=h;apply⟨_,(zab (zaz (PW.pt<|zim (zct<|zbr (za1 zbu 01 T.b_isinstance iM<|pa_c (pv 0) (pa_c (zcp (v:=.ty "list") 01 T.b_list boot_list 01) zaa))) (zf8<|zak zpf 045 (zb1 01 T.g_MOST_NAMES) 49)) 027 zaj)<|zac (zag<|zd9 (za1 (zc7 K R) 01 T.b_all lB<|pa_c (zas ["name"] [] 89 01 (za2 K<|pv 0) (λ_ _ _ _ _=>(zai (i:=0) (show List.Nodup (["name"]:List Str) by decide+kernel) 01 36)) (λ_ _ _ _ _=>za4) λ_ _ _ _ _=>(zae Vi hr 00 01 90)) zaa) (zcz<|za8 za7 (za1 zjj 01 T.b_len iy<|pa_c (zbp (zk9 R) 01 T.b_set boot_set 90) zaa) 045 49))),?_⟩;apply zaw [G x] R ?_;trivial;apply⟨k,M,by decide,?_⟩;cases M with
 |lst e =>
  rename_i a xs;let(Y,U):=L a xs R e;let j:SqL K H a xs:=.of e;let ef:frB H 07=frameB xs:=by simp only[frB,e]
  rw[ef]at q;apply iteF ⟨xs,.inl j,?_⟩;apply ite2 (λc=>?_) λc=>⟨⟨xs,j⟩,?_⟩
  .let c':=of_decide_eq_true c;let h:=q H 93;rw[show frameB xs=Fa by unfold frameB;rw[Xf 00,y1h,y1h]]at h;show h
  let c':=of_decide_eq_false<|y1f.mpr c;let l:frameB xs=(xs.all isName&&decide xs.Nodup):=by unfold frameB;rw[Xg 00,y1i]
  rw[l]at q;apply zjd (K:=K) (a:=a) (xs:=xs) (λD i ys σ H'=>Same H H'/\(∃v,σ=[v])/\ys=(xs.take i).map λy=>V.bl<|isName y) (zaf Y) (λD u=>⟨zba u _,⟨B,R⟩,R⟩) (λD i ys σ H' _ _ _ ⟨g,_⟩=>g.seq j) ?_ ?_
  .rintro D i ys σ H' y u hi O J C ⟨g,⟨v,rfl⟩,rfl⟩;trivial;apply⟨y,R,(U y<|y0n O).same g,λH2 g2=>?_⟩;apply cstep (zaf Y) hi (g2 _ _ J) C ⟨λb o e=>?_,⟨_,R⟩,?_⟩
   .rw[zam<|zav e u];show g2 b o<|g b o e
   .rw[y19,O,y0v];rfl
  .rintro D ys σ H' u J C ⟨g,_,rfl⟩;rw[y0h 08]at J;apply⟨xs.map isName,.of (by rw[J,y0q];rfl),?_⟩;rw[y2z,show(id∘isName)=isName from rfl];apply ite2 (λca=>?_) λca=>?_
   .let(ks,I,p):=zhv ca;let lk:ks.length=xs.length:=by rw[I,y01]
    apply⟨a,R,ks,I▸g.seq j,by omega,λb H3 r=>⟨ks,r.at',by omega,xs,.inl<|r.g.seq (g.seq j),?_⟩⟩;let h:=q _<|g.trans r.g;rw[ca,y1i]at h;let ed:decide xs.Nodup=decide (((onceK [] ks).length:Int)=(xs.length:Int)):=by
     apply decide_eq_decide.mpr ?_;rw[p,←zr2,lk];omega
    rw[ed]at h;show h
   .let h:=q H' g;rw[y1f.mpr ca,y1h]at h;show h
 |non=>show q H 93
 |bl b=>show q H 93
 |int i=>show q H 93
 |str z=>show q H 93
 |tup e =>
  let h:=q H 93;simp only[frB,e]at h;show h
 |dK e =>
  let h:=q H 93;simp only[frB,e]at h;show h
include T in
theorem zkp(d:Dfn K mg "renamed" Q7 ["rooms","numbers"]):03 1 "renamed" ["rooms","numbers"] (ze3 K):=by
 apply d.cal zeu 35 46
 .nofun
 let(a,b,l,line,rfl,c,g,L,U,q):=h;apply⟨_,(zac<|zag (zbp zau 01 T.b_tuple iR<|pa_c (zas ["room"] [(1,"numbers")] 89 01 (za2 K<|pv 0) (λ_ _ _ _ _=>(zai (i:=0) (show List.Nodup (["room","numbers"]:List Str) by decide+kernel) 01 36)) (λ_ _ _ _ _=>za4) λ_ _ _ _ _=>(zaq 38 (pv 1) (pv 0) λ_ _=>rfl)) zaa)),?_⟩;apply zaw [G 07,G 47] R ?_;trivial;apply⟨⟨_,.of c⟩,zd3 (K:=K) (a:=a) (xs:=l.map nV) (λσ=>∃v,σ=[v,G 47]) (λy=>match y with|.int z=>nV (line.getD z.toNat 0)|v=>v) (by rw[y01];omega) (.of c) ⟨_,R⟩ ?_ ?_⟩
 .rintro D i σ H' x hi M O e u J ⟨v,rfl⟩;let(r,I,rfl):=y0e.mp M;let z:atI (line.map nV) (r:Int)=G (nV<|line.getD r 0):=zal (by rw[y03,y02,y00<|U r I];rfl);trivial;show⟨_,L _,_,z,zbo (by rw[y01];omega) O u J e ⟨_,R⟩ R⟩
 intro D H1 u g1 j;let p:H1 D=G (.lst<|(l.map λx=>line.getD x 0).map nV):=by rw[j,y0q,y0q];rfl
 show⟨_,R,_,.inl ⟨.of p,λt H2 o=>q t H2 (g1.trans o.g) o.at'⟩⟩
abbrev Km:Stmt:=top 27
theorem zj8:FnScope ["letter","tracks"] ["letter","tracks"] (defScope Km):={}
include T in
theorem zmf(d:Dfn K mg "letter_of" Km ["letter","tracks"]):03 1 "letter_of" ["letter","tracks"] zf0:=by
 apply d.cal zj8 35 46
 .nofun
 let(l,a,ts,rfl,h32,c,h5,C,q):=h;apply⟨_,(zac<|zag (za1 (zem K R) 01 T.b_sum boot_sum<|pa_c (zas ["number","track"] [(0,"letter")] 89 01 (zir K 01 T.b_enumerate 97) (λ_ _ _ _ _=>(zd0 K (n:=2) R<|zbe (zai (i:=0) (show List.Nodup (["number","track","letter"]:List Str) by decide+kernel) 01 36) (zbe (zai (i:=1) (show List.Nodup (["number","track","letter"]:List Str) by decide+kernel) 01 36) zdz))) (λ_ _ _ _ _=>za4) λ_ _ _ _ _=>(za0 zkl (za0 op_and (za0 zxh (pv 2)<|pv 1) zad)<|pv 0)) zaa)),?_⟩;apply zaw [G<|nV l,G 07] R ?_;trivial;apply⟨⟨_,.of c⟩,zjc (n:=ts.length) (λσ=>∃v v',σ=[v,v',G<|nV l]) (λj y H=>∃t,ts[j]?=G t/\y=.int (Builtin.bitAnd ((l:Int)/2^t) 1*2^j)) 00 ⟨_,_,R⟩ (λi H' hi gg=>⟨_,nV<|ix ts i,.of<|gg _ _ c,by rw[y03,zcr hi];rfl⟩) (λH' gg=>⟨_,.of<|gg _ _ c,by rw[y01];show y05 _⟩) ?_ ?_⟩
 .rintro D' i ys σ H2 x H2' hi gg df u Y U ⟨v,v',rfl⟩ O;ac_rfl;let(p,x1,rfl,I,ex):=zna (.of<|gg _ _ c) O;apply zk ?_;rw[y03,zcr hi]at ex;cases ex;let h4':=C _<|zef hi;trivial;let M:=(zuc l h32 (ix ts i) 00).2;apply⟨_,.of I.at',R,_,_,R,_,_,R,R,by omega,⟨by omega,by omega,y1n M 04⟩,?_⟩;show zcs (Gq:=λj y H=>∃t,ts[j]?=G t/\y=.int (Builtin.bitAnd ((l:Int)/2^t) 1*2^j)) (λj y H H' _ z=>z) 00 hi df (I.g _ _ u) Y U I.g.tups (gg.trans I.g) ⟨_,_,R⟩ ⟨ix ts i,zcr hi,R⟩
 intro L ys H2 u o r D J;let ey:ys=(loL (l:Int) ts 0).map V.int:=by
  apply y23 λj=>?_;rw[y03,zxm];by_cases g:j<ys.length
  .let(t,et,e):=J j _<|y00 g;rw[y00 g,e,et,y3w];rfl
  .rw[y0t 00,y0t 00];rfl
 subst ey;rw[←zsp]at q;show⟨_,R,_,.of r,q H2 o⟩
abbrev Vs:Stmt:=top 28
theorem Td:FnScope ["machine","tracks","width","seen"] ["machine","tracks","width"] (defScope Vs):={}
include T in
theorem zpg(d:Dfn K mg "spread" Vs ["machine","tracks","width"])(Pa:03 1 "letter_of" ["letter","tracks"] zf0)(Qm:03 1 "renamed" ["rooms","numbers"]<|ze3 K):03 2 "spread" ["machine","tracks","width"] (zep K):=by
 apply d.cal Td 35 46
 .nofun
 let(a,b,m,ts,W,f,rfl,(b1,M,ls,c,I,pr,bu),ok,L,h5,h4,hW,hf,q):=h;let d9:=zb0 hW;let hp2:(1:Int)*2^((W:Nat):Int).toNat=((2^W:Nat):Int):=by rw[Int.one_mul,zrh];rfl
 let hfew:=ok.few;apply⟨_,(zab (zat (i:=3) Td.nd R (Or.inr R)<|zas ["letter"] [(1,"tracks")] 89 01 (zbi 01 T.b_range<|pa_c (za0 zkl zad<|pv 2) zaa) (λ_ _ _ _ _=>(zai (i:=0) (show List.Nodup (["letter","tracks"]:List Str) by decide+kernel) 01 36)) (λ_ _ _ _ _=>za4) (λ_ _ _ _ _=>(zae Pa hr 00 01<|pa_c (pv 0) 97)))<|zac (zag<|zay (pa_c (pv 2)<|pa_c (zbp zau 01 T.b_tuple iR<|pa_c (zas ["ways"] [(3,"seen")] 89 01 (zbw K<|zaq 38 (pv 0) zad (λ_ _=>rfl)) (λ_ _ _ _ _=>(zai (i:=0) (show List.Nodup (["ways","seen"]:List Str) by decide+kernel) 01 36)) (λ_ _ _ _ _=>za4) λ_ _ _ _ _=>(zae Qm hr 00 01<|pa_c (pv 1) 90)) zaa) (pa_c (zaq 38 (pv 0) zad λ_ _=>rfl) zaa)))),?_⟩;apply zaw [G 07,G 47,G<|nV W,B] R ?_;trivial;apply⟨⟨by omega,by omega,by decide⟩,by rw[hp2];omega,by rw[hp2];omega,?_⟩;rw[hp2,show((2^W:Nat):Int).toNat=2^W from rfl];apply zts (λσ=>∃v,σ=[v,G 47]) (λi=>nV<|f i) 00 ⟨_,R⟩ ?_ ?_
 .rintro D i σ H' hi e u J ⟨v,rfl⟩;trivial;apply⟨i,b,ts,by rw[y34],by omega,e _ _ L,h5,h4,λH2 o=>zmv 00 hi u (o _ _ J) (e.trans o) ⟨_,R⟩ ?_⟩;rw[(hf i hi).1]
 intro D1 H1 df g1 eD1;let eD1':H1 D1=G (.lst<|((List.range<|2^W).map f).map nV):=by rw[eD1,y0q];rfl
 let bf:ls.length=m.ways.length:=SS.Paired.len pr;let hwl:=ok.len;apply⟨_,c _,_,zal (j:=1) R,⟨_,I _⟩,zjc (n:=ls.length) (λσ=>∃v,σ=[v,G<|.ref D1]) (λj y H=>Line H y<|(List.range<|2^W).map λl=>(m.ways.getD j []).getD (f l) 0) 00 ⟨_,R⟩ (λi H' hi e=>⟨_,_,I _,by rw[y03,y00 hi];rfl⟩) (λH' e=>⟨_,I _,by rw[y01];show y05 _⟩) ?_ ?_⟩
 .rintro D i ys σ H2 x H2' hi e u J Y U ⟨v,rfl⟩ ⟨rfl,yx⟩;let ex:=yx _<|I _;let hi':i<m.ways.length:=by omega
  let(a2,ev,e4):=Paired.at2 pr<|y00 hi';rw[y03,ev]at ex;cases ex;let bd:=ok.line _<|y0k hi';let eg:m.ways.getD i []=m.ways[i]:=by rw[y02,y00 hi'];rfl
  trivial;apply⟨D1,a2,(List.range<|2^W).map f,m.ways[i],R,e _ _ eD1',by rw[y01,y0x];omega,e4,λx O=>?_,λp H3 g3 e3=>?_⟩
  .let(l,Y,rfl):=y0e.mp O;rw[bd];show(hf l<|y0s.mp Y).2
  apply zcs (λj y H H' ts z=>z.ts ts) 00 hi u (g3 _ _ J) Y U g3.tups (e.trans g3) ⟨_,R⟩ ⟨p,R,?_⟩;rw[e3,eg];simp only[y0q];rfl
 intro D2 ys H2 bq o b7 cf d5;apply⟨_,R,_,.inl ⟨.of b7,λt1 H3 r=>⟨_,c _,_,zal (j:=2) R,mkT λt2 H4 n4=>?_⟩⟩⟩;let cz:Same H2 H4:=r.g.trans n4.g;let bv:Same H H4:=g1.trans<|o.trans cz;apply q t2 H4 bv ⟨t1,M,ys,n4.at',n4.g _ _ r.at',zb2 (by rw[cf,bf];show(y01 _).symm) λj y l g C=>?_,Or.inr bu⟩;let hj:j<m.ways.length:=by rw[←bf,←cf];show(y0g.mp g).1
 let ac:G ((List.range<|2^W).map λl=>(m.ways.getD j []).getD (f l) 0)=G l:=by
  rw[←C];change _=(m.ways.map λline=>(List.range<|2^W).map λl=>line.getD (f l) 0)[j]?;rw[y03,y00 hj,y02,y00 hj];rfl
 cases ac;show(d5 j y g).ts cz.tups
abbrev Ki:Stmt:=top 67
theorem Qk:FnScope ["frame","machine","track","name"] ["frame"] (defScope Ki):={}
include T in
theorem zv4{e Pp u:Ad}(d:Dfn K mg "fitting_of" Ki ["frame"])(Qx:03 2 "is_place" ["thing"]<|zie SMALL)(K5:03 2 "spread" ["machine","tracks","width"]<|zep K)(P1:03 8 "met" ["one","other"]<|zet K e qs_reduced Pp qs_paired u qs_met λx y=>x&&y):03 9 "fitting_of" ["frame"] (zih K e qs_reduced Pp qs_paired u qs_met):=by
 apply d.cal Qk 35 46
 .nofun
 let(a,names,rfl,tr,tp,tm,c,fo,q):=h;let C:=fo.1;apply⟨_,(zab (zat (i:=1) Qk.nd R 39<|zae K5 hr 00 01 (pa_c (zb1 01 T.g_ANY_ROW)<|pa_c (zax zaa) (pa_c 045 zaa)))<|zab (zcf PassesOwn.never R (zir K 01 T.b_enumerate 90) (zd0 K (n:=2) R<|zbe (zai (i:=2) Qk.nd 01 36) (zbe (zai (i:=3) Qk.nd 01 36) zdz))<|zac (zaz (zbr<|zae Qx hr 00 01 037) (zac<|zat (i:=1) Qk.nd R 39 (zae P1 hr 00 01<|pa_c (pv 1) (pa_c (zae K5 hr 00 01<|pa_c (zb1 01 T.g_JUST_ONCE) (pa_c (zax<|pa_c (pv 2) zaa)<|pa_c 045 zaa)) zaa))) zaj)) (zac<|zag (pv 1))),?_⟩;apply zaw [G 07,B,B,B] R ?_;trivial;let bl:=zoo names;let h01:∀l:Nat,l<2^names.length->(λ_:Nat=>0) l<2^anyM.w:=λl _=>(by decide:(0:Nat)<2^anyM.w);apply mkT λp0 M p=>⟨_,.inl<|.of (p.g _ _ c),?_⟩;rw[y01];apply⟨ca,p0,anyM,[],names.length,λ_=>0,R,T.c_ANY_ROW,zuh,p.at',by decide,(λt h=>nomatch h),C,(λl Y=>⟨R,h01 l Y⟩),λpm0 H1 g1 r1=>⟨⟨_,.of<|(p.g.trans g1) _ _ c⟩,?_⟩⟩;let e1:=(p.g.trans g1) _ _ c;let ok0:(sprd anyM (λ_=>0) names.length).Ok:=zlq zuh C h01;apply fb_enum (K:=K) (a:=a) (xs:=names.map V.str) (λi σ H'=>Same H1 H'/\∃(r:Ad) (m:Mc) (v2 D:Option V),σ=[G 07,G<|.ref r,v2,D]/\RepMK K H' r m/\m.Ok/\Canon m/\m.w=names.length/\∀row,m.Row row->m.fin (m.run 0 row)=fitP (psOf<|sofar (bsOf names) i) row)
  ⟨Same.refl _,pm0,_,B,B,R,r1,ok0,zg3 ok0 R,R,λrow hr=>?_⟩ (λi σ H' _ z=>.of<|z.1 _ _ e1) ?_ ?_
 .rw[zs8,zfh (W:=names.length) zuh h01 row 0 04 hr,zug _ λl Y=>(y0e.mp Y).elim λx O=>O.2.symm];rfl
 .rintro i y σ H' pt H4 U ⟨g,r,m,v2,D,rfl,v,ok,cn,j,J⟩ n4;rw[y03]at U;let(z,ez,rfl):=y1a.mp U;let hi:=(y0g.mp ez).1;let bz:=bsOf_at ez;trivial;apply⟨_,.of n4.at',R,_,_,R,_,_,R,R,.str z,_,R,.str z,(λz' ez'=>by injection ez' with ez';subst ez';show zv9<|fo.2 z (y0n ez)),λH5 L=>?_⟩;let o:Same H' H5:=n4.g.trans L;let hv:isNm (.str z) SMALL=isP z:=rfl;rw[hv];cases hP:isP z with
  |false =>
   rw[hP]at bz;apply itO ⟨g.trans o,m,v.same o,ok,cn,j,λrow hr=>?_⟩;rw[zs7 (by rw[bl];show hi) bz];show J row hr
  |true =>
   rw[hP]at bz;let n17:=zs6 (bs:=sofar (bsOf names) i) (by rw[zcw,bl];show C) cn J;apply itB<|mkT λp6 H6 n6=>⟨_,.inl<|.of ((g.trans<|o.trans n6.g) _ _ e1),?_⟩;rw[y01];let kr:∀l:Nat,l<2^names.length->loI (l:Int) [i] 0=(bitN i l:Int)/\bitN i l<2^justM.w:=λl Y=>⟨bit_lo i 00 l (by have:=zb0 C;omega),y31 _ 04⟩;apply⟨cj,p6,justM,[i],names.length,bitN i,R,T.c_JUST_ONCE,zms,n6.at',by simp,(λt h=>by rw[y0l.mp h];omega),C,kr,λp7 H7 g7 r7=>?_⟩;let g07:Same H H7:=p.g.trans<|g1.trans (g.trans<|o.trans (n6.g.trans g7));let ok7:(sprd justM (bitN i) names.length).Ok:=zlq zms C λl Y=>(kr l Y).2;apply⟨r,p7,m,_,R,tr.same g07,tp.same g07,tm.same g07,v.same<|o.trans (n6.g.trans g7),r7,ok,ok7,j,?_,λp8 m8 H8 g8 r8 ok8 w8 cn8 tk8=>?_⟩
   .let:(sprd justM (bitN i) names.length).n=3:=rfl;rw[this];omega
   .refine⟨g.trans<|o.trans (n6.g.trans<|g7.trans g8),p8,R,m8,r8.k,ok8,cn8,w8.trans j,λrow hr=>?_⟩;let I:m.Row row:=λl Y=>by rw[←w8];show hr l Y
    rw[tk8 row I,J row I,zs9 (by rw[bl];show hi) bz,zfh zms (λl Y=>(kr l Y).2) row 0 04 λl Y=>by rw[←j];show I l Y];change(_&&justM.fin _)=_;rw[zp0]
 .rintro σ H' ⟨g,r,m,v2,D,rfl,v,ok,cn,j,J⟩;trivial;apply q r m H' (p.g.trans<|g1.trans g) v ⟨ok,cn,j,λrow hr=>?_⟩;rw[J row hr,y01,←bl,zqz]
abbrev Qw:Stmt:=top 51
theorem zik:FnScope ["thing","sort","deepest"] ["thing","sort","deepest"] (defScope Qw):={}
theorem zr5{n k:Nat}(M:3<=k)(T:Txt K mg w tw rw fa cj ca ce co cn)(d:Dfn K mg "is_of_sort" Qw ["thing","sort","deepest"])(e:03 2 "is_place" ["thing"]<|zie SMALL)(i:03 2 "is_set" ["thing"]<|zie GREAT)(j:03 3 "is_name" ["thing"] zuv)
  (p:03 k "has_form" ["thing","deepest"]<|zig n):03 (k+1) "is_of_sort" ["thing","sort","deepest"] (zlr n):=by
 apply d.cal zik 35 46
 .nofun
 let(v,l,rfl,ex,q):=h;let((kd,a),hz):=ex.thing;let g:∀b:Str,decide (V.str l=V.str b)=decide (l=b):=λb=>by simp
 apply⟨_,(zab (zaz (zak za7 (pv 1) zao 49) (zac<|zag (zae e hr 00 01 90)) zaj)<|zab (zaz (zak za7 (pv 1) zao 49) (zac<|zag (zae i hr 00 01 90)) zaj) (zab (zaz (zak za7 (pv 1) zao 49) (zac<|zag (zae j hr 00 01 90)) zaj)<|zac (zag<|zae p hr 00 01 (pa_c (pv 0)<|pa_c (pv 2) zaa)))),?_⟩;apply zaw [G v,G<|.str l,G<|.int n] R ?_;trivial;unfold sortB at q;apply ite2 (λc=>?_) λc=>?_
 .rw[Xq<|of_decide_eq_true c]at q;show⟨v,kd,R,a,hz,q⟩
 rw[Xp<|of_decide_eq_false (y1f.mpr c)]at q;apply ite2 (λc=>?_) λc=>?_
 .rw[Xq<|of_decide_eq_true c]at q;show⟨v,kd,R,a,hz,q⟩
 rw[Xp<|of_decide_eq_false (y1f.mpr c)]at q;apply ite2 (λc=>?_) λc=>?_
 .rw[Xq<|of_decide_eq_true c]at q;show⟨v,R,⟨⟨kd,a⟩,hz⟩,q⟩
 rw[Xp<|of_decide_eq_false (y1f.mpr c)]at q;show⟨v,R,ex,q⟩
abbrev Kf:Stmt:=top 52
theorem Vp:FnScope ["thing","deepest","sorts"] ["thing","deepest"] (defScope Kf):={}
include T in
theorem zr9{n k:Nat}(d:Dfn K mg "has_form" Kf ["thing","deepest"])(Tt:03 k "is_of_sort" ["thing","sort","deepest"]<|sp_sort' n):03 (k+1) "has_form" ["thing","deepest"] (zig n):=by
 apply d.cal Vp 35 46
 .nofun
 let(v,rfl,ex,q):=h;apply⟨_,(zab (zaz (PW.pt<|zim (zak za7 (pv 1) zad 49) (zim (zct<|zbr (za1 zbu 01 T.b_isinstance iM<|pa_c (pv 0) (pa_c (zcp (v:=.ty "tuple") 01 T.b_tuple iR 01) zaa)))<|zf8 (zak za7 045 zad 49))) 027 zaj)<|zab (zaz (PW.pt<|zim (zct<|zbr (za1 zbu 01 T.b_isinstance iM<|pa_c (zaq 38 (pv 0) zad λ_ _=>rfl) (pa_c (zcp (v:=.ty "str") 01 T.b_str boot_str 01) zaa))) (zf8<|zak (zkm K w) (zaq 38 (pv 0) zad λ_ _=>rfl) (zb1 01 T.g_FORMS) (by with_unfolding_all rfl))) 027 zaj) (zab (zat (i:=2) Vp.nd R 39<|zaq (ix_dct K w) (zb1 01 T.g_FORMS) (zaq 38 (pv 0) zad λ_ _=>rfl) (λ_ _=>rfl))<|zab (zaz (zak zxi 045 (za0 zcb zad<|za1 (zan K) 01 T.b_len iy (pa_c (pv 2) zaa)) 49) 027 zaj) (zac<|zag (za1 (zc7 K R) 01 T.b_all lB<|pa_c (zas ["part","sort"] [(1,"deepest")] 89 01 (zyv K 01 T.b_zip<|pa_c (zbb (zlv K) (pv 0) (zbd zad) zbs) (pa_c (pv 2) zaa)) (λ_ _ _ _ _=>(zd0 K (n:=2) R<|zbe (zai (i:=0) (show List.Nodup (["part","sort","deepest"]:List Str) by decide+kernel) 01 36) (zbe (zai (i:=1) (show List.Nodup (["part","sort","deepest"]:List Str) by decide+kernel) 01 36) zdz))) (λ_ _ _ _ _=>za4) λ_ _ _ _ _=>(zae Tt hr 00 01<|pa_c (pv 0) (pa_c (pv 1)<|pa_c (za0 zgb (pv 2) zad) zaa))) zaa)))),?_⟩;apply zaw [G v,G<|.int n,B] R ?_;trivial;cases n with
 |zero =>
  show itT (show((0:Nat):Int)=0 from rfl)<|q H 93
 |succ n =>
 rw[Xf<|show¬((n+1:Nat):Int)=0 by omega];ac_rfl;let(((kd,hkd),hz),cg):=id ex;apply zk ?_;apply iteF ⟨kd,hkd,by decide,?_⟩;cases hkd with
 |tup e =>
  rename_i a xs;let(Y,O):=cg a xs R e;let j:SqT K H a xs:=.of e;apply iteF ⟨xs,.inr j,?_⟩;cases xs with
  |nil =>
   let h:=q H 93;simp only[formH,e]at h;show iteT h
  |cons x0 r =>
  rw[Xf<|show¬(((x0::r).length:Nat):Int)=0 by rw[y0i];omega];ac_rfl;let((k0,hk0),_):=(O x0 y0a).thing;apply zk ?_;apply iteF<|ixm j zca ⟨k0,hk0,by decide,?_⟩;cases hk0 with
  |str wd =>
   let U:∀H',Same H H'->Q (.bl<|match forms.lookup wd with|some c=>zipB (formH H n) r c|none=>Fa) H':=λH' g=>by
    let h:=q H' g;simp only[formH,e]at h;show h
   let(fm,hd,hf):=T.f_FORMS.ex;apply iteF<|ixm j zca ⟨wd,R,fm,hd,?_⟩;rcases hf wd with⟨c,b,du,hfw,M⟩|⟨du,hfw⟩
   .rw[du]at U;replace U:∀H',Same H H'->Q (.bl<|zipB (formH H n) r c) H':=U;rw[hfw];apply iteF<|ixm j zca ⟨wd,R,fm,hd,.ref b,hfw,_,.inr j,_,.inr<|M H,?_⟩;rw[y0i,y01];by_cases L:r.length=c.length
    .rw[Xg<|show(((r.length+1:Nat)):Int)=1+(c.length:Int) by omega];apply iteF ⟨_,j,zf7 06,λp H1 I=>?_⟩;let ec:cutL (V.str wd::r) (G 1) B=r:=by
      rw[show((1:Int))=((1:Nat):Int)from rfl,zei];rfl
     rw[ec]at I;let lr:r.length<=1000:=by rw[y0i]at Y;omega
     apply⟨b,R,⟨_,.of I.at'⟩,⟨_,M H1⟩,cz_map (K:=K) (a:=p) (b:=b) (xs:=r) (ys:=c.map V.str) (λσ=>∃v1 v2,σ=[v1,v2,G<|.int ((n+1:Nat):Int)]) (λi=>.bl<|sortB (formH H n) (r.getD i .non) (c.getD i "")) lr (by rw[y01];show L) (.of I.at') (M H1) ⟨_,_,R⟩ ?_ ?_⟩
     .rintro D i σ Gq G' pp x y ex1 ey1 g u J ⟨v1,v2,rfl⟩ nw;rw[y03]at ey1;let(sx,l,rfl):=y1a.mp ey1;let hi:i<r.length:=(y0g.mp ex1).1;let mx:x∈r:=y0n ex1;let gx:Same H G':=I.g.trans<|g.trans nw.g;let exx:=O x<|y07 _ mx;trivial;apply⟨_,.of nw.at',R,_,_,R,_,_,R,R,?_⟩;let en:(((n+1:Nat):Int)-1)=(n:Int):=by omega
      rw[en];apply⟨x,sx,R,exx.same gx,λG2 o=>zmu lr hi u (o _ _<|nw.g _ _ J) (g.trans<|nw.g.trans o) ⟨_,_,R⟩ ?_⟩;let e1:r.getD i .non=x:=by rw[y02,ex1];rfl
      let C:c.getD i ""=sx:=by rw[y02,l];rfl
      rw[e1,C];unfold sortB;rw[ze0 gx exx]
     .intro D Gq u g eD;apply⟨(List.range r.length).map λi=>sortB (formH H n) (r.getD i .non)<|c.getD i "",.of (by rw[eD,y0q];rfl),?_⟩;let h:=U Gq<|I.g.trans g;rw[zg6 L]at h;rw[y2z];show h
    .rw[Xf<|show¬(((r.length+1:Nat)):Int)=1+(c.length:Int) by omega];let h:=U H 93;rw[zm9 L]at h;show iteT h
   .rw[du]at U;rw[hfw];show iteT<|U H 93
  |_ =>
   let h:=q H 93;simp only[formH,e]at h;show iteT h
 |non=>show iteT<|q H 93
 |bl b=>show iteT<|q H 93
 |int i=>show iteT<|q H 93
 |str z=>show iteT<|q H 93
 |lst e =>
  let h:=q H 93;simp only[formH,e]at h;show iteT h
 |dK e =>
  let h:=q H 93;simp only[formH,e]at h;show iteT h
theorem zos(T:Txt K mg w tw rw fa cj ca ce co cn)(J:Dfn K mg "is_of_sort" Qw ["thing","sort","deepest"])(I:Dfn K mg "has_form" Kf ["thing","deepest"])(e:03 2 "is_place" ["thing"]<|zie SMALL)(f:03 2 "is_set" ["thing"]<|zie GREAT)(a:03 3 "is_name" ["thing"] zuv):
  ∀n,03 (2*n+4) "has_form" ["thing","deepest"] (zig n)/\03 (2*n+5) "is_of_sort" ["thing","sort","deepest"] (zlr n)
 |0=>by
  let c:=zr9 (n:=0) T I ((J.never (sp:=sp_sort' 0) λvs H Q E h=>h).mono (y13 3):03 3 _ _ _);show⟨c,zr5 04 T J e f a c⟩
 |n+1=>by
  let g:=zos T J I e f a n;let c:=zr9 (n:=n+1) T I g.2;show⟨c,zr5 00 T J e f a c⟩
abbrev Q2:Stmt:=top 53
theorem zfe:FnScope ["saying"] ["saying"] (defScope Q2):={}
include T in
theorem zv2(d:Dfn K mg "inner_sayings" Q2 ["saying"]):03 1 "inner_sayings" ["saying"] zck:=by
 apply d.cal zfe 35 46
 .nofun
 let(a,xs,rfl,e,Y,M,q):=h;apply⟨_,(zac<|zag (zas ["thing"] [] 89 01 (zbw K<|pv 0) (λ_ _ _ _ _=>(zai (i:=0) (show List.Nodup (["thing"]:List Str) by decide+kernel) 01 36)) (λ_ _ _ _ _=>(zrn<|zbr (za1 zbu 01 T.b_isinstance iM<|pa_c (pv 0) (pa_c (zcp (v:=.ty "tuple") 01 T.b_tuple iR 01) zaa)))) λ_ _ _ _ _=>(pv 0))),?_⟩;apply zaw [G 07] R ?_;trivial;let j:SqT K H a xs:=.of e;apply⟨⟨xs,j⟩,cf_tup (λσ=>∃v,σ=[v]) (isT H) id Y j ⟨_,R⟩ ?_ ?_⟩
 .rintro D i σ H' x hi z O g u J ⟨v,rfl⟩;let(k,c):=M x z;trivial;apply⟨k,c.same g,by decide,?_⟩;rw[Kd.isT c];cases p:isT H x with
  |true=>show iteT<|cf_step Y O p u J g ⟨_,R⟩ R
  |false=>show iteF<|zt2 O p J g ⟨_,R⟩
 .intro D H' u g J;rw[List.map_id]at J;show q D H' u g J
abbrev Vb:Stmt:=top 54
theorem zo5:FnScope ["saying"] ["saying"] (defScope Vb):={}
include T in
theorem zr8(d:Dfn K mg "is_bare" Vb ["saying"])(j:03 1 "inner_sayings" ["saying"] zck):03 2 "is_bare" ["saying"] zf1:=by
 apply d.cal zo5 35 46
 .nofun
 let(v,sy,rfl,r,q):=h;let C:=zez hr 8 04;apply⟨_,(zac<|zag (za8 (zr0 C) (zae j hr 00 01 90) (zax zaa) 49)),?_⟩;apply zaw [G v] R ?_;trivial;ac_rfl;let(a,xs,rfl,e,Y,M,O):=r.items;apply zk ?_;apply⟨a,xs,R,e,by omega,M,λD H1 u g1 l=>⟨by decide,λp H2 o=>⟨_,(zvd (k:=0) (.of<|o.g _ _ l) o.lst).up 04,?_⟩⟩⟩;let h:=q H2<|g1.trans o.g;let L:sy.isBare=decide (xs.filter (isT H)=[]):=by
  generalize xs.filter (isT H)=ys at O;cases sy with
  |bare w n m=>cases O;rfl
  |neg s=>cases O;rfl
  |two w s t=>cases O;rfl
  |qu w n s=>cases O;rfl
 rw[L]at h;show h
abbrev Qr:Stmt:=top 55
theorem zgz:FnScope ["saying"] ["saying"] (defScope Qr):={}
include T in
theorem zv6{n:Nat}(d:Dfn K mg "count_parts" Qr ["saying"])(j:03 1 "inner_sayings" ["saying"] zck)(y:03 (n+1) "count_parts" ["saying"]<|zfj n):03 (n+1+1) "count_parts" ["saying"] (zfj<|n+1):=by
 apply d.cal zgz 35 46
 .nofun
 let(v,sy,rfl,r,hd,q):=h;apply⟨_,(zac<|zag (za0 zcb zad<|za1 (zem K R) 01 T.b_sum boot_sum (pa_c (zas ["inner"] [] 89 01 (za2 K<|zae j hr 00 01 90) (λ_ _ _ _ _=>(zai (i:=0) (show List.Nodup (["inner"]:List Str) by decide+kernel) 01 36)) (λ_ _ _ _ _=>za4) λ_ _ _ _ _=>(zae y hr 00 01 90)) zaa))),?_⟩;apply zaw [G v] R ?_;trivial;let(a,xs,rfl,e,Y,M,hp):=r.items;apply⟨a,xs,R,e,by omega,M,λp H1 c g1 e1=>⟨⟨_,.of e1⟩,?_⟩⟩;let z:=Paired.len hp;let C:(xs.filter<|isT H).length<=1000:=y14 (y1y _ _) 00;apply zmy (K:=K) (a:=p) (xs:=xs.filter<|isT H) (λσ=>∃v,σ=[v]) (λi=>.int<|((sy.inner[i]?).map Sy.parts).getD 0) C (.of e1) ⟨_,R⟩ ?_ ?_
 .rintro D i σ H' x hi O g u J ⟨v,rfl⟩;let(t,I,rt):=Paired.at hp O;let L:=(zgi<|y0n I).1;trivial;apply⟨x,t,R,rt.same<|g1.trans g,by omega,λH2 o=>zmu C hi u (o _ _ J) (g.trans o) ⟨_,R⟩<|by rw[I];rfl⟩
 .intro D H' u g U;apply⟨D,R,(List.range (xs.filter<|isT H).length).map λi=>(((sy.inner[i]?).map Sy.parts).getD 0:Nat),.of (by rw[U,y0q];rfl),?_⟩;let h:=q H'<|g1.trans g;let l:(1:Int)+((List.range (xs.filter<|isT H).length).map λi=>((((sy.inner[i]?).map Sy.parts).getD 0:Nat):Int)).sum=(sy.parts:Int):=by
   rw[z];cases sy with
   |bare w n m=>rfl
   |neg s=>change(1:Int)+((s.parts:Int)+0)=((s.parts+1:Nat):Int);omega
   |two w s t=>change(1:Int)+((s.parts:Int)+((t.parts:Int)+0))=((s.parts+t.parts+1:Nat):Int);omega
   |qu w n s=>change(1:Int)+((s.parts:Int)+0)=((s.parts+1:Nat):Int);omega
  rw[l];show h
theorem zll(T:Txt K mg w tw rw fa cj ca ce co cn)(d:Dfn K mg "count_parts" Qr ["saying"])(e:03 1 "inner_sayings" ["saying"] zck):∀n,03 (n+1) "count_parts" ["saying"] (zfj n)
 |0=>(d.never λvs H Q E h=>by let(v,s,_,_,hd,_):=h;show Xa hd<|y32 _).mono 04
 |n+1=>zv6 T d e<|zll T d e n
abbrev Q1:Stmt:=top 56
theorem zfd:FnScope ["thing"] ["thing"] (defScope Q1):={}
include T in
theorem zsb(d:Dfn K mg "is_any_saying" Q1 ["thing"])(p:03 28 "has_form" ["thing","deepest"]<|zig 12)(y:03 14 "count_parts" ["saying"]<|zfj 13):03 29 "is_any_saying" ["thing"] zf4:=by
 apply d.cal zfd 35 46
 .nofun
 let(v,rfl,ex,q):=h;apply⟨_,(zac<|zag (zd9 (zae p hr 00 01<|pa_c (pv 0) (pa_c (zb1 01 T.g_DEEPEST) zaa))<|zcz (za8 op_le (zae y hr 00 01 90) (zb1 01 T.g_MOST_PARTS) 49))),?_⟩;apply zaw [G v] R ?_;trivial;apply⟨v,R,ex,λH1 g1=>⟨_,R,ite2 (λc=>?_) λc=>q Fa H1 g1 ⟨λz=>(by cases z),λ⟨s,r,j,hd,_⟩=>Xa (znq r j hd) c⟩⟩⟩;let(sy,r,j,hd):=zdn c;apply⟨v,sy,R,r.same g1,by omega,λH2 o=>q _ H2 (g1.trans o) ⟨λz=>⟨sy,r,j,hd,?_⟩,λ⟨s,r',_,_,O⟩=>?_⟩⟩
 .let:=of_decide_eq_true z;omega
 .rw[r.det r'];show Xg 00
abbrev Kz:Stmt:=top 57
theorem zq8:FnScope ["saying","known","barred","most"] ["saying","known","barred","most"] (defScope Kz):={}
include T in
theorem ok_let{n:Nat}{bw:List Str}(d:Dfn K mg "is_let" Kz ["saying","known","barred","most"])(Qh:03 1 "inner_sayings" ["saying"] zck)(Qac:03 2 "is_bare" ["saying"] zf1)
  (K1:03 (n+2) "is_let" ["saying","known","barred","most"]<|zj4 K bw n):03 (n+1+2) "is_let" ["saying","known","barred","most"] (zj4 K bw<|n+1):=by
 apply d.cal zq8 35 46
 .nofun
 let(v,a,ba,sy,tl,mo,rfl,r,hd,ea,Y,U,q):=h;apply⟨_,(zab (zaz (PW.pt<|zim (zak zpf 044 (pv 3) 49) (zf8<|zak (zhq K) (zaq 38 (pv 0) zad λ_ _=>rfl) (pv 2) (by with_unfolding_all rfl))) 027 zaj)<|zab (zaz (zak (zhq K) (zaq 38 (pv 0) zad λ_ _=>rfl) (zb1 01 T.g_TELLING_WORDS)<|by with_unfolding_all rfl) (zac<|zag (zd9 (za8 (zgc K) (zaq 38 (pv 0) zad λ_ _=>rfl) (pv 1)<|by with_unfolding_all rfl)<|zcz (zae K1 hr 00 01<|pa_c (zaq 38 (pv 0) zad λ_ _=>rfl) (pa_c (za0 zma (pv 1)<|zax (pa_c (zaq 38 (pv 0) zad λ_ _=>rfl) zaa))<|pa_c (pv 2) 037)))) zaj) (zab (zaz (zbr<|zae Qac hr 00 01 90) (zac<|zag (za1 (zc7 K R) 01 T.b_all lB<|pa_c (zas ["name"] [(1,"known")] 89 01 (zbw K<|zbb (zlv K) (pv 0) (zbd zad) zbs) (λ_ _ _ _ _=>(zai (i:=0) (show List.Nodup (["name","known"]:List Str) by decide+kernel) 01 36)) (λ_ _ _ _ _=>za4) λ_ _ _ _ _=>(za8 (zhq K) (pv 0) (pv 1)<|by with_unfolding_all rfl)) zaa)) zaj)<|zac (zag<|za1 (zc7 K R) 01 T.b_all lB (pa_c (zas ["inner"] [(1,"known"),(2,"barred"),(3,"most")] 89 01 (za2 K<|zae Qh hr 00 01 90) (λ_ _ _ _ _=>(zai (i:=0) (show List.Nodup (["inner","known","barred","most"]:List Str) by decide+kernel) 01 36)) (λ_ _ _ _ _=>za4) λ_ _ _ _ _=>(zae K1 hr 00 01<|pa_c (pv 0) (pa_c (pv 1)<|pa_c (pv 2) 037))) zaa)))),?_⟩;apply zaw [G v,G 07,G<|.ref ba,G<|.int mo] R ?_;trivial;rw[letB_eq]at q;apply⟨_,.inl<|.of ea,ite2 (λc=>?_) λc=>?_⟩
 .let c':=of_decide_eq_true c;rw[y01]at c';let h:=q H 93;rw[Xf 00,y1h,y1h]at h;show h
 let c':=of_decide_eq_false<|y1f.mpr c;rw[y01]at c';rw[Xg 00,y1i]at q;let tw':=T.t_TELLING_WORDS H;ac_rfl;obtain⟨p0,rest,ev,e0⟩:∃p rest,v=.ref p/\H p=G (.tup (.str (wordOf sy)::rest)):=by
  cases r with
  |bare hw e=>show⟨_,_,R,e⟩
  |neg e O=>show⟨_,_,R,e⟩
  |two hw e L J=>show⟨_,_,R,e⟩
  |qu hw e O=>show⟨_,_,R,e⟩
 apply zk ?_;subst ev;apply ixm (.of e0) zca ⟨_,.inr<|U H,R,zgl bw,?_⟩;rw[zeg];by_cases hwb:wordOf sy∈bw
 .rw[Xg hwb];let h:=q H 93;rw[Xf λz=>z hwb,y1h]at h;show iteT h
 rw[Xf hwb];rw[Xg hwb,y1i]at q;apply iteF<|ixm (.of e0) zca ⟨_,.inr tw',R,R,?_⟩;let bc:(∀w n t,sy ≠ .qu w n t)->sy.isBare=Fa->∀H1,Same H H1->zck [.ref p0] H1 (λx H1=>asR x λa_1=>(∃xs,SqL K H1 a_1 xs)/\
   cBody ["inner"] [(1,"known"),(2,"barred"),(3,"most")] (gName 0) tYes (tCall (zj4 K bw n) [] E0<|tCons (tVar 0) (tCons (tVar 1)<|tCons (tVar 2) (tCons (tVar 3) tNil)))
    [G<|.ref p0,G<|V.ref a,G<|V.ref ba,G<|V.int mo] (λx H1=>asR x λp=>∃x,SqL K H1 p (List.map V.bl x)/\Q (V.bl<|x.all id) H1) (Itl K a_1) H1) E0:=by
  intro nq me H1 g1;ac_rfl;let(p1,xs,ev',e,hl3,M,pr):=r.items;apply zk ?_;cases ev';rw[zpy nq me]at q;let eis:xs.filter (isT H1)=xs.filter (isT H):=y3s λy hy=>by
   let(k,z):=M y hy;rw[←Kd.isT z,←Kd.isT (z.same g1)]
  let aq:=Paired.len pr;let l3:(xs.filter<|isT H).length<=1000:=y14 (y1y _ _) 00;apply⟨p0,xs,R,g1 _ _ e,by omega,λy hy=>let⟨k,z⟩:=M y hy;⟨k,z.same g1⟩,λD1 H2 df g2 C=>⟨⟨_,.of C⟩,?_⟩⟩;rw[eis]at C;let ag:=g1.trans g2;apply zmy (K:=K) (a:=D1) (xs:=xs.filter<|isT H) (λσ=>∃v,σ=[v,G<|V.ref a,G<|V.ref ba,G<|V.int mo]) (λi=>.bl<|((sy.inner[i]?).map<|letB bw mo tl).getD N) l3 (.of C) ⟨_,R⟩ ?_ ?_
  .rintro D i σ H' x hi O g u a7 ⟨v,rfl⟩;let(t,et,rt):=Paired.at pr O;let dt:=(zgi<|y0n et).1;let gx:=ag.trans g;trivial;show⟨x,a,ba,t,tl,mo,R,rt.same gx,by omega,gx _ _ ea,by omega,U,λH3 g3=>zmu l3 hi u (g3 _ _ a7) (g.trans g3) ⟨_,R⟩<|by rw[et];rfl⟩
  .intro D H' u g l;apply⟨(List.range (xs.filter<|isT H).length).map λi=>((sy.inner[i]?).map<|letB bw mo tl).getD N,.of (by rw[l,y0q];rfl),?_⟩;rw[aq,zc9];show q H'<|ag.trans g
 cases r with
 |qu hw e O =>
  rename_i wd nm x t;rw[show wordOf (Sy.qu wd nm t)=wd from rfl,zjt wd hw];replace q:∀H',Same H H'->Q (.bl<|decide (nm∉tl)&&letB bw mo (tl++[nm]) t) H':=q;let dn:=zi7 wd nm t;apply iteT<|ixm (.of e) (zal (j:=1) R) ⟨_,.inl<|.of ea,R,zgl tl,?_⟩;rw[zeg];by_cases I:nm∈tl
  .rw[Xg I];let h:=q H 93;rw[Xf λz=>z I,y1h]at h;show iteF h
  rw[Xf I];rw[Xg I,y1i]at q;apply iteT<|ixm (.of e) (zal (j:=2) R) (ixm (.of e) (zal (j:=1) R)<|mkT λp1 H1 n1=>⟨_,n1.g _ _ ea,_,n1.at',zaf (by rw[y01,y0r];omega),λp2 H2 o=>?_⟩);let g2:=n1.g.trans o.g;show⟨x,p2,ba,t,tl++[nm],mo,R,O.same g2,by omega,by rw[o.at',y0v];rfl,by rw[y0d,y0r];omega,U,λH3 g3=>q H3<|g2.trans g3⟩
 |neg e O =>
  rw[show wordOf (Sy.neg _)=("not":Str)from rfl,zv8];show iteF ⟨_,_,R,.neg e O,λH1 g1=>by trivial;show iteF<|bc (λ_ _ _ z=>by cases z) R H1 g1⟩
 |two hw e L J =>
  rename_i wd x y t1 t2;rw[show wordOf (Sy.two wd t1 t2)=wd from rfl,zsv wd hw];show iteF ⟨_,_,R,.two hw e L J,λH1 g1=>by trivial;show iteF<|bc (λ_ _ _ z=>by cases z) R H1 g1⟩
 |bare hw e =>
  rename_i wd nm m;rw[show wordOf (Sy.bare wd nm m)=wd from rfl,zud wd hw];replace q:∀H',Same H H'->Q (.bl<|decide (nm∈tl)&&decide (m∈tl)) H':=q;apply iteF ⟨_,_,R,.bare hw e,λH1 g1=>itB ⟨_,.of<|g1 _ _ e,zf7 06,λp H2 o=>⟨⟨_,.of o.at'⟩,?_⟩⟩⟩;let ec:cutL [V.str wd,V.str nm,V.str m] (G 1) B=[nm,m].map V.str:=by
   rw[show((1:Int))=((1:Nat):Int)from rfl,zei];rfl
  rw[ec]at o;let g:=g1.trans o.g;apply zfa (K:=K) (a:=p) (xs:=[nm,m].map V.str) (λσ=>∃v,σ=[v,G 07]) (λy=>.bl<|inV y (tl.map V.str)) 06 (.of o.at') ⟨_,R⟩ ?_ ?_
  .rintro D i σ H' x hi hm O g' u a7 ⟨v,rfl⟩;let fx:flatV x=N:=by
    let(z,_,rfl):=y0e.mp hm;rfl
   trivial;show⟨_,.inl<|.of (g' _ _<|g _ _ ea),fx,zgl tl,zbo 06 O u a7 g' ⟨_,R⟩ R⟩
  .intro D H' u g' a7;apply⟨[decide (nm∈tl),decide (m∈tl)],.of ?_,?_⟩
   .rw[a7];change G (HO.lst [.bl<|inV (.str nm) (tl.map V.str),.bl<|inV (.str m) (tl.map V.str)])=_;rw[zeg,zeg];rfl
   .let h:=q H'<|g.trans g';rw[show[decide (nm∈tl),decide (m∈tl)].all id=(decide (nm∈tl)&&(decide (m∈tl)&&N))from rfl,y4f];show h
theorem zui{bw:List Str}(T:Txt K mg w tw rw fa cj ca ce co cn)(d:Dfn K mg "is_let" Kz ["saying","known","barred","most"])(e:03 1 "inner_sayings" ["saying"] zck)(f:03 2 "is_bare" ["saying"] zf1):
  ∀n,03 (n+2) "is_let" ["saying","known","barred","most"]<|zj4 K bw n
 |0=>(d.never λvs H Q E h=>by let(v,a,c,s,tl,mo,_,_,hd,_):=h;show Xa hd<|y32 _).mono 04
 |n+1=>ok_let T d e f<|zui T d e f n
abbrev Kl:Stmt:=top 58
theorem zj9:FnScope ["thing","frame"] ["thing","frame"] (defScope Kl):={}
include T in
theorem zv1(d:Dfn K mg "is_saying" Kl ["thing","frame"])(D:03 4 "is_frame" ["thing"] zyb)(M:03 29 "is_any_saying" ["thing"] zf4)
  (i:03 15 "is_let" ["saying","known","barred","most"]<|zj4 K treeWords 13):03 30 "is_saying" ["thing","frame"] (znk treeWords 4):=by
 apply d.cal zj9 35 46
 .nofun
 let(v,Y,rfl,ex,u,hf,q):=h;apply⟨_,(zac<|zag (zd9 (zae D hr 00 01 97)<|zd9 (zae M hr 00 01 90) (zcz<|zae i hr 00 01 (pa_c (pv 0)<|pa_c (pv 1) (pa_c (zb1 01 T.g_TREE_WORDS)<|pa_c (zb1 01 T.g_MOST_NAMES) zaa))))),?_⟩;apply zaw [G v,G Y] R ?_;trivial;apply⟨Y,R,u,hf,λH1 g1=>⟨_,R,ite2 (λc=>?_) λc=>q Fa H1 g1 ⟨λz=>(by cases z),λ⟨a,tl,s,l,e,J,_⟩=>Xa (show frB H Y=N by rw[l];simp only[frB,e];show J) c⟩⟩⟩;ac_rfl;let(a,tl,rfl,e,J,C):=frB_ex c;apply zk ?_;apply⟨v,R,ex.same g1,λb H2 o U=>⟨_,R,?_⟩⟩;let back:(∃s,AnySay H1 v s)↔∃s,AnySay H v s:=⟨λ⟨s,r,j,hd,hp⟩=>by
   let L:=znq r j hd;rw[ze0 g1 ex]at L;ac_rfl;let(s',r',g,p):=zdn L;apply zk ?_;rw[r.det<|r'.same g1]at hp;show⟨s',r',g,p,hp⟩,λ⟨s,r,j,hd,hp⟩=>⟨s,r.same g1,j,hd,hp⟩⟩
 rw[back]at U;apply ite2 (λO=>?_) λO=>q Fa H2 (g1.trans o) ⟨λz=>(by cases z),λ⟨_,_,s,_,_,_,x,_⟩=>Xa (U.mpr ⟨s,x⟩) O⟩;ac_rfl;let(sy,x):=U.mp O;let(r,j,hd,hp):=id x;apply zk ?_;apply⟨v,a,rw,sy,tl,4,R,r.same<|g1.trans o,by omega,o _ _<|g1 _ _ e,by omega,T.t_TREE_WORDS,λH3 g3=>q _ H3 (g1.trans<|o.trans g3) ⟨λz=>⟨a,tl,sy,R,e,J,x,z⟩,λ⟨a',tl',s',l,e',_,y,z⟩=>?_⟩⟩;cases l;rw[e]at e';let I:tl=tl':=by
  let:=(Option.some.inj e');show znf<|HO.lst.inj this
 subst I;rw[r.det y.1];show z
abbrev Vg:Stmt:=top 68
theorem zo3:FnScope ["word"] ["word"] (defScope Vg):={}
include T in
theorem zzf(d:Dfn K mg "rule_of" Vg ["word"]):03 1 "rule_of" ["word"] (zqt K):=by
 apply d.cal zo3 35 46
 .nofun
 let(wd,rfl,q):=h;apply⟨_,(zab (zaz (zak za7 (pv 0) zao 49) (zac<|zag (zb1 01 T.g_COMES_AHEAD)) zaj)<|zab (zaz (zak za7 (pv 0) zao 49) (zac<|zag (zb1 01 T.g_COMES_NEXT)) zaj) (zac<|zag (zb1 01 T.g_EACH_IN))),?_⟩;apply zaw [G<|.str wd] R ?_;trivial;unfold ruleM at q;by_cases L:wd="ahead"
 .rw[Xq L]at q;show itT L<|q _ T.c_COMES_AHEAD
 rw[Xp L]at q;apply itF L ?_;by_cases J:wd="next"
 .rw[Xq J]at q;show itT J<|q _ T.c_COMES_NEXT
 rw[Xp J]at q;show itF J<|q _ T.c_EACH_IN
abbrev Vm:Stmt:=top 69
theorem V0:FnScope ["saying","frame","tracks"] ["saying","frame"] (defScope Vm):={}
include T in
theorem zv7{Pr U Pm:Ad}(d:Dfn K mg "bare_of" Vm ["saying","frame"])(P6:03 1 "rule_of" ["word"]<|zqt K)(K5:03 2 "spread" ["machine","tracks","width"]<|zep K)(T2:03 9 "fitting_of" ["frame"]<|zih K Pr qs_reduced U qs_paired Pm qs_met)(P1:03 8 "met" ["one","other"]<|zet K Pr qs_reduced U qs_paired Pm qs_met λx y=>x&&y):
  03 10 "bare_of" ["saying","frame"] (znn K Pr qs_reduced U qs_paired Pm qs_met):=by
 apply d.cal V0 35 46
 .nofun
 let(v,b,tl,wd,n,m,rfl,tr,c,tm,rp,L,p,I,M,hwd,q):=h;let C:=zez hr 8 04;apply⟨_,(zab (zdy (i:=2) V0.nd R 39 ["name"] [(1,"frame")] 89 01 (zbw K<|zbb (zlv K) (pv 0) (zbd zad) zbs) (λ_ _ _ _ _=>(zai (i:=0) (show List.Nodup (["name","frame"]:List Str) by decide+kernel) 01 36)) (λ_ _ _ _ _=>za4) λ_ _ _ _ _=>(zbq K PySem.F.plainAttrs_list PySem.F.slot_list_index PySem.F.type_list_index (zpu K C) (pv 1) 90))<|zac (zag<|zae P1 hr 00 01 (pa_c (zae K5 hr 00 01<|pa_c (zae P6 hr 00 01<|pa_c (zaq 38 (pv 0) zad λ_ _=>rfl) zaa) (pa_c (pv 2)<|pa_c 044 zaa))<|pa_c (zae T2 hr 00 01 97) zaa))),?_⟩;apply zaw [G v,G 47,B] R ?_;trivial;cases rp with
 |bare j e =>
 rename_i a;apply⟨_,.of e,zf7 (by simp),λp3 H3 r=>⟨⟨_,.of r.at'⟩,?_⟩⟩;let ec:cutL [V.str wd,V.str n,V.str m] (G 1) B=[n,m].map V.str:=by
  rw[show((1:Int))=((1:Nat):Int)from rfl,zei];rfl
 rw[ec]at r;let fo:=p.ok;let hz4:=p.four;let hl3:tl.length<=4:=fo.1;let hi:=y1d.mpr I;let g:=y1d.mpr M;apply zfa (K:=K) (a:=p3) (xs:=[n,m].map V.str) (λσ=>∃v,σ=[v,G 47]) (λv=>match v with|.str z=>nV (tl.idxOf z)|_=>.non) 06 (.of r.at') ⟨_,R⟩ ?_ ?_
 .rintro D3 i σ H4 x hx0 hmm O gg o hD3' ⟨v,rfl⟩;let(z,mz,rfl):=y0e.mp hmm;let hz:z∈tl:=by
   simp only[y09,y0o,or_false]at mz;rcases mz with rfl|rfl
   .exact I
   .exact M
  trivial;show⟨.inl ⟨_,.of<|(r.g.trans gg) _ _ L⟩,_,.of<|(r.g.trans gg) _ _ L,hz,by omega,zbo 06 O o hD3' gg ⟨_,R⟩ R⟩
 intro D H4 u g4 eD;let J:=r.g.trans g4;let ar:H4 D=G (.lst<|([tl.idxOf n,tl.idxOf m]:List Nat).map nV):=eD;let h16:∀l:Nat,l<2^tl.length->l<16:=λl Y=>by
  let:2^tl.length<=2^4:=Nat.pow_le_pow_right 04 hl3;omega
 let(rok,rw2,rn):=zvb wd;let ft:∀l:Nat,l<2^tl.length->seen2 (tl.idxOf n) (tl.idxOf m) l<2^(ruleM wd).w:=λl _=>by rw[rw2];show zu0 _ _ _
 apply ixm (.of<|J _ _ e) zca ⟨wd,R,λp0 CM=>⟨_,.inl<|.of (J _ _ L),p0,D,ruleM wd,[tl.idxOf n,tl.idxOf m],tl.length,seen2 (tl.idxOf n)<|tl.idxOf m,by rw[y01],CM,rok,ar,by simp,(λt p=>by simp only[y09,y0o,or_false]at p;rcases p with rfl|rfl<;>omega),by omega,(λl Y=>⟨zu1 00 00<|h16 l Y,ft l Y⟩),λp5 H5 g5 rm=>?_⟩⟩;let kt:=J.trans g5;apply⟨b,tl,R,tr.same kt,c.same kt,tm.same kt,kt _ _ L,fo,λp6 mF H6 g6 rF FF=>?_⟩;let gd:=kt.trans g6;let hFn:=zs6 (by rw[zoo];omega) FF.canon FF.takes;apply⟨p5,p6,_,mF,R,tr.same gd,c.same gd,tm.same gd,rm.same g6,rF,zlq rok 00 ft,FF.ok,FF.w.symm,?_,λp7 m' H7 g7 r7 ok7 w7 can fin7=>q p7 m' H7 (gd.trans g7) r7 ⟨ok7,can,w7,λrow hr=>?_⟩⟩
 .change(ruleM wd).n*mF.n<=100;show y14 (Nat.mul_le_mul rn hFn) 04
 .let gb:(sprd (ruleM wd) (seen2 (tl.idxOf n)<|tl.idxOf m) tl.length).Row row:=λl Y=>by have:=hr l Y;rw[w7]at this;show this
  rw[fin7 row gb,zut,zfh rok ft row 0 rok.pos gb,zva,FF.takes row λl Y=>by rw[FF.w];show gb l Y]
abbrev Kx:Stmt:=top 18
theorem zlz:FnScope ["thing"] ["thing"] (defScope Kx):={}
include T in
theorem zr3(d:Dfn K mg "is_whole" Kx ["thing"]):03 1 "is_whole" ["thing"] zjy:=by
 apply d.cal zlz 35 46
 .nofun
 let(v,rfl,h):=h;apply⟨_,(zac<|zag (zd9 (za1 zbu 01 T.b_isinstance iM<|pa_c (pv 0) (pa_c (zcp (v:=.ty "int") 01 T.b_int boot_int 01) zaa))<|zcz (zxf<|za1 zbu 01 T.b_isinstance iM (pa_c (pv 0)<|pa_c (zcp (v:=.ty "bool") 01 T.b_bool boot_bool 01) zaa)))),?_⟩;apply zaw [G v] R ?_;trivial;rcases h with⟨r,rfl,q⟩|⟨k,kd,p,q⟩
 .exact⟨_,.int r,by decide,iteT ⟨_,.int r,by decide,q⟩⟩
 .refine⟨_,kd,by decide,?_⟩;cases kd with
  |bl b=>show iteT ⟨_,.bl b,by decide,q⟩
  |int=>show Xa R p
  |_=>show iteF q
abbrev K6:Stmt:=top 19
theorem zl2:FnScope ["thing","bound"] ["thing","bound"] (defScope K6):={}
include T in
theorem zsa(d:Dfn K mg "is_below" K6 ["thing","bound"])(a:03 1 "is_whole" ["thing"] zjy):03 2 "is_below" ["thing","bound"] zf3:=by
 apply d.cal zl2 35 46
 .nofun
 let(v,n,rfl,h):=h;apply⟨_,(zac<|zag (zd9 (zae a hr 00 01 90)<|zcz (zvn op_le zpd zad (pv 0)<|pv 1))),?_⟩;apply zaw [G v,G<|.int n] R ?_;trivial;rcases h with⟨r,rfl,D,L,q⟩|⟨⟨r,rfl,I⟩|⟨k,kd,p⟩,q⟩
 .refine⟨_,R,.inl ⟨r,R,_,R,iteT ?_⟩⟩;apply itT D ?_;trivial;rw[Xg L];show q
 .refine⟨_,R,.inl ⟨r,R,_,R,iteT ?_⟩⟩;by_cases D:0<=r
  .refine itT D ?_;trivial;rw[Xf λL=>I ⟨D,L⟩];show q
  .exact itF D q
 .exact⟨_,R,.inr ⟨k,kd,p,_,R,iteF q⟩⟩
abbrev Q5:Stmt:=top 29
theorem Q0:FnScope ["letter","track","above","without"] ["letter","track"] (defScope Q5):={}
include T in
theorem ok_both(d:Dfn K mg "both_letters" Q5 ["letter","track"]):03 1 "both_letters" ["letter","track"] zqx:=by
 apply d.cal Q0 35 46
 .nofun
 let(l,t,rfl,Y,x,q):=h;apply⟨_,(zab (zat (i:=2) Q0.nd R 39<|za0 zxh (pv 0) (pv 1))<|zab (zat (i:=3) Q0.nd R 39<|za0 zcb (pv 0) (za0 zkl (pv 2)<|pv 1)) (zac<|zag (zay<|pa_c (pv 3) (pa_c (za0 zcb (pv 3)<|za0 zkl zad (pv 1)) zaa)))),?_⟩;apply zaw [G<|nV l,G<|nV t,B,B] R ?_;trivial;rw[y1m];let ep:((2:Int)^t)=((2^t:Nat):Int):=by push_cast;rfl
 let a:(l:Int)/(2:Int)^t=((l/2^t:Nat):Int):=by rw[ep];rfl
 let le:l/2^t<=l:=Nat.div_le_self _ _;let g:(l:Int)+(l:Int)/(2:Int)^t*(2:Int)^t=((put0 l t:Nat):Int):=by
  rw[a,ep];unfold put0;push_cast;rfl
 let C:(l:Int)+(l:Int)/(2:Int)^t*(2:Int)^t+1*(2:Int)^t=((put0 l t+2^t:Nat):Int):=by
  rw[g,ep,Int.one_mul];push_cast;rfl
 apply⟨by omega,⟨by omega,by omega,?_⟩,⟨by omega,by omega,by decide⟩,mkT λp H' n=>?_⟩
 .rw[a];change(l/2^t:Nat)<2^64;show y3n le<|y1n Y 04
 .rw[C,g]at n;show q p H' n
theorem zof{m:Mc}{ls:List Nat}(J:ls.length<=2):∀l:List Nat,l.length<=12->(l.flatMap λr=>ls.map λl=>m.go r l).length<=24:=λl Y=>by
 let:(l.flatMap λr=>ls.map λl=>m.go r l).length<=l.length*2:=by
  clear Y
  induction l with
  |nil=>simp
  |cons x r Q =>
   rw[y2m,y0d,y01,y0i];omega
 omega
abbrev Q4:Stmt:=top 30
theorem Qy:FnScope ["machine","rooms","letters","found","room"] ["machine","rooms","letters"] (defScope Q4):={}
include T in
theorem zmi(d:Dfn K mg "coming_rooms" Q4 ["machine","rooms","letters"]):03 1 "coming_rooms" ["machine","rooms","letters"] zf2:=by
 apply d.cal Qy 35 46
 .nofun
 let(a,b,c,m,rs,ls,rfl,rm,ok,eb,ec,hrs,o,r5,l2,q):=h;apply⟨_,(zab (zat (i:=3) Qy.nd R 39<|zax zaa)<|zab (zcf PassesOwn.never R (zbw K<|pv 1) (zai (i:=4) Qy.nd 01<|Or.inr 01)<|zac (zbm<|zbq K PySem.F.plainAttrs_list PySem.F.slot_list_extend PySem.F.type_list_extend zsl (pv 3) (pa_c (zas ["letter"] [(4,"room"),(0,"machine")] 89 01 (zbw K<|pv 2) (λ_ _ _ _ _=>(zai (i:=0) (show List.Nodup (["letter","room","machine"]:List Str) by decide+kernel) 01 36)) (λ_ _ _ _ _=>za4) λ_ _ _ _ _=>(zaq 38 (zaq 38 (zaq 38 (pv 2) zad λ_ _=>rfl) (pv 1) λ_ _=>rfl) (pv 0) λ_ _=>rfl)) zaa))) (zac<|zag (zbp zau 01 T.b_tuple iR<|pa_c (za1 (zgq R) 01 T.b_sorted 01<|pa_c (zbp (zla R) 01 T.b_set 01 037) zaa) zaa))),?_⟩;apply zaw [G 07,G 47,G<|.ref c,B,B] R ?_;trivial;apply mkT λp0 H0 n0=>⟨⟨_,.of<|n0.g _ _ eb⟩,?_⟩;apply ztc (K:=K) (a:=b) (xs:=rs.map nV) (λi σ H'=>Same H H'/\∃C:Option V,σ=[G 07,G 47,G<|.ref c,G<|.ref p0,C]/\H' p0=G (.lst<|((rs.take i).flatMap λr=>ls.map λl=>m.go r l).map nV)) ⟨n0.g,B,R,n0.at'⟩ (λi σ H' _ z=>.of<|z.1 _ _ eb) ?_ ?_
 .rintro i y σ H' U ⟨g,C,rfl,I⟩;rw[y03]at U;let(r,er,rfl):=y1a.mp U;let mr:=y0n er;trivial;apply⟨.inl ⟨_,.of I⟩,⟨_,.of<|g _ _ ec⟩,?_⟩;apply zfa (K:=K) (a:=c) (xs:=ls.map nV) (λσ=>∃v,σ=[v,G<|nV r,G 07]) (λx=>match x with|.int l=>nV (m.go r l.toNat)|_=>.non) (by rw[y01];omega) (.of<|g _ _ ec) ⟨_,R⟩ ?_ ?_
  .rintro D j σ H2 x hj p O e u a7 ⟨v,rfl⟩;let(l,ml,rfl):=y0e.mp p;trivial;ac_rfl;let gH:=g.trans e;let(b1,c1,ws,ea1,aj,pr,_):=id rm;let(line,f1,f2,f3):=ok.at (hrs r mr)<|o l ml;let(v,ev1,u1,rfl,e41):=Paired.at2 pr f1;let ati:atI (line.map nV) (l:Int)=G (nV<|m.go r l):=zal (by rw[y03,f2];rfl);apply zk ?_;show⟨_,.of<|gH _ _ ea1,_,zal (j:=1) R,ixm (.of<|gH _ _ aj) (zal ev1) ⟨_,.of<|gH _ _ e41,_,ati,zbo (by rw[y01];omega) O u a7 e ⟨_,R⟩ R⟩⟩
  intro D H3 u g3 e3;trivial;let fl:∀l:List Nat,l.length<=12->(l.flatMap λr=>ls.map λl=>m.go r l).length<=24:=zof l2;apply⟨_,g3 _ _ I,_,e3,zaf ?_,(g.trans g3).wr n0.nil _,?_⟩
  .rw[y01,y01,y01];let:=fl (rs.take i) (by rw[y0w];omega);omega
  .rw[zar,y19,er,y28,List.flatMap_append,y0v,y0q];simp only[y2m,List.flatMap_nil,y1t,y0q];rfl
 .rintro σ H' ⟨g,C,rfl,I⟩;trivial;rw[y01,y0h 08]at I;let fl:((rs.flatMap λr=>ls.map λl=>m.go r l)).length<=24:=zof l2 rs r5;generalize hF:(rs.flatMap λr=>ls.map λl=>m.go r l)=F at I fl;apply⟨F.map λk:Nat=>(k:Int),.of (by rw[I,y0q];rfl),by rw[y01];omega,λS hS=>⟨_,zar,by rw[y01];omega,λY h1 J L H3 n3=>⟨_,.inl ⟨.of n3.at',λt H4 n4=>?_⟩⟩⟩⟩;let e4:(Y.map V.int)=((Y.map Int.toNat).map nV):=by
   rw[y0q];apply y1x λk M=>?_;let(k',_,rfl):=y0e.mp<|(J k).mp M;rfl
  apply q t (Y.map Int.toNat) H4 (g.trans<|(zba hS _).trans (n3.g.trans n4.g)) (by rw[←e4];show n4.at') ?_ λk=>?_
  .rw[List.pairwise_map];apply List.Pairwise.imp_of_mem (λ{x y} O U hxy=>?_) h1;ac_rfl;let(x',_,rfl):=y0e.mp<|(J x).mp O;let(y',_,rfl):=y0e.mp<|(J y).mp U;apply zk ?_;omega
  .rw[y0e];let M:(∃a,a∈Y/\Int.toNat a=k)↔k∈F:=by
    constructor
    .rintro⟨z,hz,rfl⟩;let(k',hk',rfl):=y0e.mp<|(J z).mp hz;show hk'
    .intro M;show⟨(k:Int),(J _).mpr<|y0e.mpr ⟨k,M,R⟩,R⟩
   rw[M,←hF,y42];simp only[y0e]
abbrev Vh:Stmt:=top 31
theorem K3:FnScope ["machine","track","letters","comings"] ["machine","track"] (defScope Vh):={}
abbrev qs_dropped:List (Pos×Str):=[(⟨114,4,115,71⟩,"dropped.<locals>.comings"),(⟨116,51,116,106⟩,"dropped.<locals>.<lambda>")]
include T in
theorem zmh{c Pd Pt:Ad}(d:DfnC K mg "dropped" Vh ["machine","track"] c Pd)(kb:BltK base mg)(Ps:03 2 "is_below" ["thing","bound"] zf3)(V9:03 1 "both_letters" ["letter","track"] zqx)(V8:03 1 "coming_rooms" ["machine","rooms","letters"] zf2)(Va:03 6 "explored" ["tracks","first","comings","is_end"]<|zdv P w K mg base Pt qs_reduced):
  03 7 "dropped" ["machine","track"] (znm Pt qs_reduced Pd qs_dropped):=by
 apply d.cal K3 35 λf A outer s H vs Q E hr h=>?_
 .nofun
 let(a,m,t,rfl,tr,td,rm,ok,h5,ht,(RR,DR),q):=h;let(b1,M,rs,ea,aj,pr,bu):=id rm;let hw4:=ok.wid;apply⟨_,(zab (zaz (zct<|zbr (zae Ps hr 00 01<|pa_c (pv 1) (pa_c (zaq 38 (pv 0) zad λ_ _=>rfl) zaa))) (zac zb3) zaj)<|zab (zat (i:=2) K3.nd R (Or.inr R)<|zas ["letter"] [(1,"track")] 89 01 (zbi 01 T.b_range<|pa_c (za0 zkl zad<|za0 zgb (zaq 38 (pv 0) zad λ_ _=>rfl) zad) zaa) (λ_ _ _ _ _=>(zai (i:=0) (show List.Nodup (["letter","track"]:List Str) by decide+kernel) 01 36)) (λ_ _ _ _ _=>za4) (λ_ _ _ _ _=>(zae V9 hr 00 01<|pa_c (pv 0) 97))) (zab (zxe (qs:=qs_dropped) "dropped.<locals>.comings" (j:=3) R d.code kb 01 01 K3.nd R R)<|zac (zag<|zc1 Va hr 00 01 (λ_=>rfl) (pa_c (za0 zgb (zaq 38 (pv 0) zad λ_ _=>rfl) zad)<|pa_c (zay<|pa_c zad zaa) (pa_c (pv 3)<|pa_c (zkg (qs:=qs_dropped) "dropped.<locals>.<lambda>" rfl d.code kb 01 01) zaa))))),?_⟩;apply zaw [G 07,G<|nV t,B,B] R ?_;trivial;apply⟨_,.of ea,_,zca,_,_,R,.inl ⟨_,R,by omega,by omega,?_⟩⟩;let am:1<=m.w:=by omega
 let d9:=zb0 (w:=m.w-1) 00;let hz:((1:Int)*2^(((m.w:Nat):Int)-1).toNat)=((2^(m.w-1):Nat):Int):=by
  rw[Int.one_mul,show(((m.w:Nat):Int)-1).toNat=m.w-1 by omega];show zrh _
 apply itN ⟨_,.of ea,_,zca,⟨by omega,by omega,by decide⟩,by rw[hz];omega,by rw[hz];omega,?_⟩;rw[hz,y1m];apply zjc (n:=2^(m.w-1)) (λσ=>∃v,σ=[v,G<|nV t]) (λj y H=>Line H y [put0 j t,put0 j t+2^t]) 00 ⟨B,by simp[stB]⟩ (λi H' hi gg=>hi) (λH' gg=>y05 _) ?_ ?_
 .rintro D i ys σ H1 x H1' hi gg hD a7 bd U ⟨v,rfl⟩ ⟨rfl,rfl⟩;trivial;apply⟨i,t,by simp,by omega,by omega,λp H2 n2=>zcs (λj y H H' ts z=>z.ts ts) 00 hi hD (n2.g _ _ a7) bd U n2.g.tups (gg.trans n2.g) ⟨_,R⟩ ⟨p,R,n2.at'⟩⟩
 intro D ys H1 hD g1 eD bd U;apply⟨td.same g1,λf1 H2 M1=>?_⟩;let g2:Same H H2:=g1.trans M1.old;apply⟨_,.of<|g2 _ _ ea,_,zca,mkT λt0 H3 n3=>⟨td.same<|g2.trans n3.g,λf2 H4 M2 Hq ad=>?_⟩⟩;ac_rfl;let g4:Same H H4:=g2.trans<|n3.g.trans M2.old;let g14:Same H1 H4:=M1.old.trans<|n3.g.trans M2.old;let gq:Same H Hq:=g4.trans ad.up;let g1q:Same H1 Hq:=g14.trans ad.up;let(b9,fu):=M1.fn;let(fd2,bx):=M2.fn;let pl:i8 (Line H1) ys ((List.range<|2^(m.w-1)).map λl=>[put0 l t,put0 l t+2^t]):=by
  apply zb2 (by rw[bd,y01,y0x]) λj v l e1 C=>?_;let hj:j<2^(m.w-1):=by have:=(y0g.mp e1).1;omega
  rw[y03,y17 hj]at C;cases C;show U j v e1
 let ko:CloH P w K mg base 4 Hq f1 1 (zdf (λH=>RepM H a m/\H D=G 50/\i8 (Line H) ys ((List.range<|2^(m.w-1)).map λl=>[put0 l t,put0 l t+2^t])) (dropT m t) λt'=>DropG m t'/\t'∈RR):=by
  apply M1.clo_sM (own:=["rooms"]) (ps:=["rooms"]) (cap:=["machine","letters"]) (cv:=[.ref a,.ref D]) (k:=3) (n3.g.trans M2.old) ad ⟨R,R,R,R,by decide+kernel,by decide+kernel,by decide+kernel,by decide+kernel⟩ 08 (.cons ⟨0,R,R,.inl R⟩<|.cons ⟨2,R,R,.inl R⟩ .nil) (λcl ct cd pm=>L2.fit1 λ_=>rfl) ?_;rintro clo c' A' ax s' H' vs Q' hr a0 fz ck Y ⟨pa,c8,rfl,⟨eh,fw,hR3⟩,et,⟨⟨hri,br⟩,hrr⟩,q'⟩;apply⟨_,(zac<|zag (zas ["both"] [(1,"machine"),(0,"rooms")] 89 01 (za2 K<|pv 2) (λ_ _ _ _ _=>(zai (i:=0) (show List.Nodup (["both","machine","rooms"]:List Str) by decide+kernel) 01 36)) (λ_ _ _ _ _=>za4) λ_ _ _ _ _=>(zae V8 hr 00 01<|pa_c (pv 1) (pa_c (pv 2) 90)))),?_⟩;apply zaw [G<|.ref pa,G 07,G 65] R ?_;trivial;let ku:=eh.ts<|SameN.tups a0.n;let ar:=a0.n _ _ fw λ_ _ z=>nomatch z;let pl':=L2.Paired.mapP hR3 λ_ _ z=>z.ts<|SameN.tups a0.n;let aw:=a0.n _ _ et λ_ _ z=>nomatch z;apply⟨⟨_,.of ar⟩,zjc (n:=2^(m.w-1)) (λσ=>∃v,σ=[v,G 07,G<|.ref pa]) (λj y H=>Line H y<|comeL m c8 [put0 j t,put0 j t+2^t]) 00 ⟨_,R⟩ (λi H5 hi gg=>⟨_,ys[i]'(00),.of<|gg _ _ ar,y00 _⟩) (λH5 gg=>⟨_,.of<|gg _ _ ar,by omega⟩) ?_ ?_⟩
  .rintro D2 i zs σ H5 y H5' hi gg hD a7 kx d5 ⟨v,rfl⟩ ⟨rfl,yx⟩;let ex:=yx _<|.of (gg _ _ ar);let(l,el,p,rfl,ep):=SS.Paired.at pl' ex;rw[y03,y17 hi]at el;cases el;let o:=put_lt m.w 00 t ht i hi;let du:∀l∈[put0 i t,put0 i t+2^t],l<2^m.w:=λl Y=>by
    simp only[y09,y0o,or_false]at Y;rcases Y with rfl|rfl
    .exact y3n (Nat.le_add_right _ _) o
    .exact o
   trivial;apply⟨a,pa,p,m,c8,_,R,ku.same gg,ok,gg _ _ aw,gg _ _ ep,br,du,(by have:=zev hri br;omega),by simp,λp' ms H6 g6 e6 L J=>zcs (λj y H H' ts z=>z.ts ts) 00 hi hD (g6 _ _ a7) kx d5 g6.tups (gg.trans g6) ⟨_,R⟩ ⟨p',R,?_⟩⟩;rw[e6,zhk L ze9 λk=>(J k).trans (ztu λr hr l Y=>(ok.at (br r hr)<|du l Y).choose_spec.2.2).symm]
  intro D2 zs H5 bq g5 b7 kx d5 I;apply q' D2 zs (mixL clo H' H5) (zgm bq b7 I) (zb5 g5) (ze7 I _ _ b7) ?_;apply zb2 (by rw[kx];simp[dropT]) λj v l e1 C=>?_;let hj:j<2^(m.w-1):=by have:=(y0g.mp e1).1;omega
  let ac:((List.range<|2^(m.w-1)).map λl=>comeL m c8 [put0 l t,put0 l t+2^t])[j]?=G l:=C;rw[y03,y17 hj]at ac;cases ac;let(p,rfl,ep):=d5 j v e1;show⟨p,R,ze7 I _ _ ep⟩
 let km:CloH P w K mg base 4 Hq f2 1 (zfi (λH=>RepM H a m/\H D=G 50/\i8 (Line H) ys ((List.range<|2^(m.w-1)).map λl=>[put0 l t,put0 l t+2^t])) (dropT m t) λt'=>DropG m t'/\t'∈RR):=by
  apply M2.clo_e (own:=["rooms"]) (ps:=["rooms"]) (cap:=["machine"]) (cv:=[.ref a]) (k:=3) 017 ad ⟨R,R,R,by decide+kernel,R,by decide+kernel,by decide+kernel,by decide+kernel⟩ 08 (.cons ⟨0,R,R,.inl R⟩ .nil) (λcl ct cd pm=>L2.fit1 λ_=>rfl) ?_;rintro clo c' A' ax s' H' vs Q' hr a0 fz ck Y ⟨pa,c8,rfl,⟨eh,fw,hR3⟩,et,⟨⟨hri,br⟩,hrr⟩,q'⟩;apply⟨_,(za1 (zlg K R) 01 T.b_any boot_any<|pa_c (zas ["room"] [(1,"machine")] 89 01 (zbw K<|pv 0) (λ_ _ _ _ _=>(zai (i:=0) (show List.Nodup (["room","machine"]:List Str) by decide+kernel) 01 36)) (λ_ _ _ _ _=>za4) λ_ _ _ _ _=>(zaq 38 (zaq 38 (pv 1) zad λ_ _=>rfl) (pv 0) λ_ _=>rfl)) zaa),?_⟩;apply zra [G<|.ref pa,G 07] R ?_;trivial;let ku:=eh.ts<|SameN.tups a0.n;let aw:=a0.n _ _ et λ_ _ z=>nomatch z;let(b1',c1',md,d6,kq,pr',fh):=id ku;apply⟨⟨_,.of aw⟩,zfa (K:=K) (a:=pa) (xs:=c8.map nV) (λσ=>∃v,σ=[v,G 07]) (λx=>match x with|.int r=>V.bl (m.fin r.toNat)|_=>.non) (by rw[y01];let:=zev hri br;omega) (.of aw) ⟨_,R⟩ ?_ ?_⟩
  .rintro D2 j σ H5 x hj mx O gg hD a7 ⟨v,rfl⟩;let(r,mr,rfl):=y0e.mp mx;trivial;show⟨_,.of<|gg _ _ d6,_,zal (j:=2) R,ixm (.of<|gg _ _ fh) (zal<|by rw[y03,Mc.fin_at<|br r mr];rfl)<|zbo (by rw[y01];let:=zev hri br;omega) O hD a7 gg ⟨_,R⟩ R⟩
  intro D2 H5 bq g5 b7;apply⟨_,R,c8.map m.fin,.of (by rw[b7,y0q,y0q];rfl),λI=>?_⟩;let:=q' (mixL clo H' H5)<|zb5 g5;rw[List.any_map];show this
 apply zk ?_;apply⟨t0,f1,f2,b9,fd2,dropT m t,(λt'=>DropG m t'/\t'∈RR),(λH=>RepM H a m/\H D=G 50/\i8 (Line H) ys ((List.range<|2^(m.w-1)).map λl=>[put0 l t,put0 l t+2^t])),[0],?_,tr.same gq,(M2.old.trans ad.up) _ _ n3.at',((n3.g.trans M2.old).trans ad.up) _ _ fu,ad.up _ _ bx,ko,km,⟨rm.same gq,g1q _ _ eD,L2.Paired.mapP pl λ_ _ z=>z.ts g1q.tups⟩,(λH5 H6 g z=>⟨z.1.same g,g _ _ z.2.1,L2.Paired.mapP z.2.2 λ_ _ y=>y.ts g.tups⟩),by change m.w-1<=4;omega,⟨⟨by simp[Rising],λr hr=>by rw[y0l.mp hr];show ok.pos⟩,DR.hd⟩,(λc8 hg=>⟨drop_step.1,λu hu=>⟨drop_step.2 u hu,DR.clo c8 hg.2 u hu⟩⟩),(λfs k F=>y14 (zdi F.nd λu hu=>(F.good u hu).2) DR.few),λp m' H5 g5 rp f7 ew cn tk=>?_⟩
 .change[V.int<|((m.w:Nat):Int)-1,V.ref t0,V.ref f1,V.ref f2]=[V.int (((m.w-1:Nat)):Int),V.ref t0,V.ref f1,V.ref f2];rw[show(((m.w-1:Nat)):Int)=((m.w:Nat):Int)-1 by omega]
 .exact q p m' _ (g4.trans<|ad.same g5) (rp.ts λb xs e=>ad.keep g5 e λ_ _ z=>nomatch z) f7 ew cn tk
abbrev V5:Stmt:=top 33
theorem Ts:FnScope ["bare_of","fitting_of","met","joined","flipped","dropped","machine_of"] ["bare_of","fitting_of","met","joined","flipped","dropped"] (defScope V5):={}
abbrev qs_maker:List (Pos×Str):=[(⟨120,4,132,37⟩,"maker.<locals>.machine_of")]
abbrev SPN(e U u z y:Ad)(n:Nat):Sp:=zx8 e qs_reduced U qs_paired u qs_met z qs_joined y qs_dropped n
include T in
theorem zr7{c Pk Pr U Pm Pj Pd fb ff fm fj fl fp:Ad}(d:DfnC K mg "maker" V5 ["bare_of","fitting_of","met","joined","flipped","dropped"] c Pk)(kb:BltK base mg)(Qam:CalF P w K mg base 10 fb ["saying","frame"]<|znn K Pr qs_reduced U qs_paired Pm qs_met)(Qaw:CalF P w K mg base 9 ff ["frame"]<|zih K Pr qs_reduced U qs_paired Pm qs_met)(Qae:CalF P w K mg base 8 fm ["one","other"]<|zet K Pr qs_reduced U qs_paired Pm qs_met λx y=>x&&y)(Qaq:CalF P w K mg base 8 fj ["one","other"]<|zet K Pr qs_reduced U qs_paired Pj qs_joined λx y=>x||y)(Qap:CalF P w K mg base 6 fl ["machine"]<|zhe Pr qs_reduced)(Qak:CalF P w K mg base 7 fp ["machine","track"]<|znm Pr qs_reduced Pd qs_dropped):
  03 1 "maker" ["bare_of","fitting_of","met","joined","flipped","dropped"] (zj3 P w K mg base fb ff fm fj fl fp Pk qs_maker<|SPN Pr U Pm Pj Pd):=by
 apply d.calR Ts 35 R (j:=6) R (.inr 015) 04 04 λf A outer s H vs Q E D h=>?_
 .let(rfl,_):=h;rfl
 let(rfl,tk,q):=h;apply⟨_,zyo (qs:=qs_maker) "maker.<locals>.machine_of" (j:=6) R d.code kb 01 01 Ts.nd R (.inr R) R,tk,λf1 H1 M1=>⟨.ref f1,R,λHq ad=>?_⟩⟩;let(b9,fu):=M1.fn;let efq:=ad.up _ _ fu;apply q f1 b9 Hq (M1.old.trans ad.up) efq λn=>?_
 induction n with
 |zero =>
  rintro A outer s H' us vs Q E D e0 fz r Y ⟨v,b,tl,s,M,_,_,_,_,_,hm,_⟩;show Xa hm (by have:=zsn s;omega)
 |succ n ih =>
 apply M1.clo_sE (own:=["saying","frame","word"]) (ps:=["saying","frame"]) (cap:=["met","machine_of","joined","flipped","fitting_of","dropped","bare_of"]) (cv:=[.ref fm,.ref f1,.ref fj,.ref fl,.ref ff,.ref fp,.ref fb]) (k:=11+n) 017 ad ⟨R,R,R,by decide+kernel,R,by decide+kernel,by decide+kernel,by decide+kernel⟩ 04
  (.cons ⟨2,R,R,.inl R⟩<|.cons ⟨6,R,R,.inl R⟩ (.cons ⟨3,R,R,.inl R⟩<|.cons ⟨4,R,R,.inl R⟩ (.cons ⟨1,R,R,.inl R⟩<|.cons ⟨5,R,R,.inl R⟩ (.cons ⟨0,R,R,.inl R⟩ .nil)))) (λcl ct cd pm=>L2.fit2 λ_ _=>rfl) ?_
 rintro clo c' A' ax s' H' vs Q' E' D e0 a0 fz ck Y ⟨v,b,tl,sy,M,rfl,tb,rp,eb,mo,C,q'⟩ Rq;apply⟨_,(zab (zat (i:=2) (show FnNd ["saying","frame","word","met","machine_of","joined","flipped","fitting_of","dropped","bare_of"] by decide+kernel).nd R 39<|zaq 38 (pv 0) zad (λ_ _=>rfl))<|zab (zaz 049 (zac<|zag (zco Qae D 00 (pa_c (zbx e0 a0 Rq (i:=4) (k:=(11+n)) (n:=2) (sp:=(SPN Pr U Pm Pj Pd n)) R (by first|show Or.inl rfl|show Or.inr (Or.inl R)|show Or.inr (Or.inr R)) D<|pa_c (zaq (zah K) (pv 0) zad λ_ _=>rfl) 97)<|pa_c (zbx e0 a0 Rq (i:=4) (k:=(11+n)) (n:=2) (sp:=(SPN Pr U Pm Pj Pd n)) R (by first|show Or.inl rfl|show Or.inr (Or.inl R)|show Or.inr (Or.inr R)) D<|pa_c (zaq (zah K) (pv 0) zad λ_ _=>rfl) 97) zaa) (i:=3))) zaj) (zab (zaz 049 (zac<|zag (zco Qaq D 00 (pa_c (zbx e0 a0 Rq (i:=4) (k:=(11+n)) (n:=2) (sp:=(SPN Pr U Pm Pj Pd n)) R (by first|show Or.inl rfl|show Or.inr (Or.inl R)|show Or.inr (Or.inr R)) D<|pa_c (zaq (zah K) (pv 0) zad λ_ _=>rfl) 97)<|pa_c (zbx e0 a0 Rq (i:=4) (k:=(11+n)) (n:=2) (sp:=(SPN Pr U Pm Pj Pd n)) R (by first|show Or.inl rfl|show Or.inr (Or.inl R)|show Or.inr (Or.inr R)) D<|pa_c (zaq (zah K) (pv 0) zad λ_ _=>rfl) 97) zaa) (i:=5))) zaj)<|zab (zaz 049 (zac<|zag (zco Qae D 00 (pa_c (zco Qap D 00 (pa_c (zbx e0 a0 Rq (i:=4) (k:=(11+n)) (n:=2) (sp:=(SPN Pr U Pm Pj Pd n)) R (by first|show Or.inl rfl|show Or.inr (Or.inl R)|show Or.inr (Or.inr R)) D<|pa_c (zaq (zah K) (pv 0) zad λ_ _=>rfl) 97) zaa) (i:=6))<|pa_c (zco Qaw D 00 97 (i:=7)) zaa) (i:=3))) zaj) (zab (zaz 049 (zac<|zag (zco Qak D 00 (pa_c (zbx e0 a0 Rq (i:=4) (k:=(11+n)) (n:=2) (sp:=(SPN Pr U Pm Pj Pd n)) R (by first|show Or.inl rfl|show Or.inr (Or.inl R)|show Or.inr (Or.inr R)) D<|pa_c (zaq (zah K) (pv 0) zad λ_ _=>rfl) (pa_c (za0 op_catN (pv 1)<|zax (pa_c (zaq 38 (pv 0) zad λ_ _=>rfl) zaa)) zaa))<|pa_c (za1 (zen K) 01 T.b_len iy 97) zaa) (i:=8))) zaj)<|zab (zaz 049 (zac<|zag (zbx e0 a0 Rq (i:=4) (k:=(11+n)) (n:=2) (sp:=(SPN Pr U Pm Pj Pd n)) R (by first|show Or.inl rfl|show Or.inr (Or.inl R)|show Or.inr (Or.inr R)) D<|pa_c (zay<|pa_c zao (pa_c (zay<|pa_c zao (pa_c (zaq (zah K) (pv 0) zad λ_ _=>rfl)<|pa_c (zay<|pa_c zao (pa_c (zaq 38 (pv 0) zad λ_ _=>rfl) zaa)) zaa)) zaa)) 97)) zaj) (zac<|zag (zco Qam D 00 (pa_c (pv 0) 97) (i:=9)))))),?_⟩;apply zaw [G v,G 47,B,G<|.ref fm,G<|.ref f1,G<|.ref fj,G<|.ref fl,G<|.ref ff,G<|.ref fp,G<|.ref fb] R ?_;trivial;let dv:dropL clo H' f1=G (fnO b9 f1):=ck _ _ _ fu;let self:∀(Gq:Hp),Same (dropL clo H') Gq->(∀b,InCl clo b->Gq b=B)->∀(x:V) (b':Ad) (tl':List Str) (s':Sy) (M':Mc) (Qc:VK) (EE:XK),Rep Gq x s'->Gq b'=G (.lst<|tl'.map V.str)->MOr s' tl' M'->mcost s'<=n->(∀p G',Same Gq (dropL clo G')->RepM (dropL clo G') p M'->Qc 09 G')->(Gq f1=G (fnO b9 f1)/\CloHE P w K mg base (11+n) (mixL clo H' Gq) f1 2 (SPN Pr U Pm Pj Pd n)/\[x,V.ref b'].length=2/\SPN Pr U Pm Pj Pd n [x,.ref b'] (mixL clo H' Gq) Qc EE):=by
  intro Gq g I x b' tl' s' M' Qc EE rx f6 mo' ai qc;apply⟨g _ _ dv,ih.mono<|fz.trans (mix_frz λb o u e=>g _ _ e),R,x,b',tl',s',M',R,tb.same<|zb5 g,rx.same<|ze7 I,ze7 I _ _ f6,mo',ai,λp H2 g2 r2=>?_⟩;show qc p _ (ztd I g2)<|r2.ts (SameN.tups (SM.ClOk.same (SM.ClOk.same a0<|zb5 g) g2).n)
 let ay:=tb.drop a0;let gf:Rep (dropL clo H') v sy:=SM.Rep.ts rp<|SameN.tups a0.n;let cx:=a0.n _ _ eb λ_ _ z=>nomatch z;let fin:∀(p:Ad) (O:Mc) (Gq:Hp),Same (dropL clo H') Gq->RepM Gq p O->O=M->(∀b,InCl clo b->Gq b=B)->Q' 09 (mixL clo H' Gq):=λp O Gq g r e I=>q' p _ (zb5 g) (by rw[←e];show r.same<|ze7 I);let hf4:∀{s:Sy} {tl':List Str} {M':Mc},MOr s tl' M'->tl'.length<=4:=λh=>mor_len h;cases mo with
 |bare hf I hm hw Bq =>
  cases gf with
  |bare al e =>
  rename_i wd nn mm a;let nw:∀z:Str,z∈(["and","or","not","some","all"]:List Str)->¬V.str wd=V.str z:=λz hz e0=>by
   let:=V.str.inj e0;subst this;simp only[SM.rowWords,y09,y0o,or_false]at hw hz;rcases hw with rfl|rfl|rfl|rfl|rfl<;>revert hz<;>decide
  apply ixm (.of e) zca ⟨R,?_⟩;apply itF (nw _ 04) ⟨R,?_⟩;apply itF (nw _ 04) ⟨R,?_⟩;apply itF (nw _ 04) ⟨R,?_⟩;apply itF (nw _ 04) ⟨R,?_⟩;apply itF (nw _ 04) ⟨R,.ref a,b,tl,wd,nn,mm,R,ay.r,ay.p,ay.m,.bare al e,cx,hf,I,hm,hw,λp M' H2 g2 r2 B' bj=>fin p M' H2 g2 r2 (zue B' Bq) bj⟩
 |@and s1 s2 _ M1 M2 _ L J o1 o2 w1 w2 few ok can hw l =>
  cases gf with
  |two al e r1 r2 =>
  rename_i a x y;let ai:max (mcost s1) (mcost s2)+1<=n+1:=C;let c1:mcost s1<=n/\mcost s2<=n:=⟨by omega,by omega⟩;apply ixm (.of e) zca ⟨R,?_⟩;apply itT R ⟨R,f1,R,b9,dv,ixm (.of e) (zal (j:=1) R) λI=>self _ 017 I _ _ _ _ _ _ _ r1 cx L c1.1 λp1 ky g1 q1=>?_⟩;generalize dropL clo ky=G1 at g1 q1 ⊢;apply⟨f1,R,b9,g1 _ _ dv,ixm (.of<|g1 _ _ e) (zal (j:=2) R) λhn1=>self _ g1 hn1 _ _ _ _ _ _ _ (r2.same g1) (g1 _ _ cx) J c1.2 λp2 G2' g2 q2=>?_⟩;generalize dropL clo G2'=G2 at g2 q2 ⊢;let ag:=g1.trans g2;apply⟨p1,p2,_,_,R,ay.r.same ag,ay.p.same ag,ay.m.same ag,(q1.same g2).k,q2.k,o1,o2,by rw[w1,w2],few,λp O G3 g3 r3 ok3 w3 c3 l3 bj=>fin p O G3 (ag.trans g3) r3 ?_ bj⟩;apply zc5 (by rw[w3,w1,hw]) ok3 ok c3 can λrow D=>?_;rw[l3 row λc C=>by rw[←w3];show D c C,l row λc C=>by rw[hw,←w1,←w3];show D c C]
 |@or s1 s2 _ M1 M2 _ L J o1 o2 w1 w2 few ok can hw l =>
  cases gf with
  |two al e r1 r2 =>
  rename_i a x y;let ai:max (mcost s1) (mcost s2)+1<=n+1:=C;let c1:mcost s1<=n/\mcost s2<=n:=⟨by omega,by omega⟩;apply ixm (.of e) zca ⟨R,?_⟩;apply itF 04 ⟨R,?_⟩;apply itT R ⟨R,f1,R,b9,dv,ixm (.of e) (zal (j:=1) R) λI=>self _ 017 I _ _ _ _ _ _ _ r1 cx L c1.1 λp1 ky g1 q1=>?_⟩;generalize dropL clo ky=G1 at g1 q1 ⊢;apply⟨f1,R,b9,g1 _ _ dv,ixm (.of<|g1 _ _ e) (zal (j:=2) R) λhn1=>self _ g1 hn1 _ _ _ _ _ _ _ (r2.same g1) (g1 _ _ cx) J c1.2 λp2 G2' g2 q2=>?_⟩;generalize dropL clo G2'=G2 at g2 q2 ⊢;let ag:=g1.trans g2;apply⟨p1,p2,_,_,R,ay.r.same ag,ay.p.same ag,ay.j.same ag,(q1.same g2).k,q2.k,o1,o2,by rw[w1,w2],few,λp O G3 g3 r3 ok3 w3 c3 l3 bj=>fin p O G3 (ag.trans g3) r3 ?_ bj⟩;apply zc5 (by rw[w3,w1,hw]) ok3 ok c3 can λrow D=>?_;rw[l3 row λc C=>by rw[←w3];show D c C,l row λc C=>by rw[hw,←w1,←w3];show D c C]
 |@neg s1 _ M1 _ hf L o1 w1 few ok can hw l =>
  cases gf with
  |neg e r1 =>
  rename_i a x;let ai:mcost s1+1<=n+1:=C;apply ixm (.of e) zca ⟨R,?_⟩;apply itF 04 ⟨R,?_⟩;apply itF 04 ⟨R,?_⟩;apply itT R ⟨R,R,f1,R,b9,dv,ixm (.of e) (zal (j:=1) R) λI=>self _ 017 I _ _ _ _ _ _ _ r1 cx L 00 λp1 ky g1 q1=>?_⟩;generalize dropL clo ky=G1 at g1 q1 ⊢;apply⟨p1,M1,R,ay.r.same g1,q1,o1,λp2 m2 G2 g2 r2 RD2=>?_⟩;let ag:=g1.trans g2;apply⟨R,b,tl,R,ay.r.same ag,ay.p.same ag,ay.m.same ag,ag _ _ cx,hf.ok,λp3 mF G3 g3 r3 FF=>?_⟩;let ao:=ag.trans g3;let hl4:tl.length<=4:=hf.ok.1;let hFn:=fit_nP FF.canon FF.takes;let hle:m2.n<=M1.n:=by have:=RD2.le;rw[show(turned M1).n=M1.n from y01 _]at this;show this
  let w2:m2.w=tl.length:=by rw[RD2.w,←w1];rfl
  apply⟨p2,p3,m2,mF,R,ay.r.same ao,ay.p.same ao,ay.m.same ao,(r2.same g3).k,r3,RD2.ok,FF.ok,by rw[w2,FF.w],y14 (Nat.mul_le_mul hle hFn) few,λp O G4 g4 r4 ok4 w4 c4 l4 bj=>fin p O G4 (ao.trans g4) r4 ?_ bj⟩;apply zc5 (by rw[w4,w2,hw]) ok4 ok c4 can λrow D=>?_;let hr2:∀c∈row,c<2^tl.length:=λc C=>by have:=D c C;rw[w4,w2]at this;show this
  rw[l4 row λc C=>by rw[w2];show hr2 c C,l row λc C=>by rw[hw];show hr2 c C,FF.takes row λc C=>by rw[FF.w];show hr2 c C];let gb:M1.Row row:=λc C=>by rw[w1];show hr2 c C
  rw[←RD2.par row gb,zov,zow<|o1.run_lt row 0 o1.pos gb]
 |@some nm s1 _ M1 _ L o1 w1 few Rq ok can hw l =>
  cases gf with
  |qu al e r1 =>
  rename_i a x;let ai:mcost s1+1<=n+1:=C;apply ixm (.of e) zca ⟨R,?_⟩;apply itF 04 ⟨R,?_⟩;apply itF 04 ⟨R,?_⟩;apply itF 04 ⟨R,?_⟩;apply itT R ⟨R,f1,R,b9,dv,ixm (.of e) (zal (j:=2) R)<|ixm (.of e) (zal (j:=1) R) (mkT λpl G1 n1=>⟨_,n1.g _ _ cx,_,n1.at',zaf (by have:=hf4 L;rw[y0d,y0r]at this;rw[y01,y0r];omega),λpf G2 n2 I=>?_⟩)⟩;let g2:=n1.g.trans n2.g;let ef:G2 pf=G (.lst<|(tl++[nm]).map V.str):=by rw[n2.at',y0v];rfl
  apply self _ g2 I _ _ _ _ _ _ _ (r1.same g2) ef L 00 λp1 G3' g3 q3=>?_;generalize dropL clo G3'=G3 at g3 q3 ⊢;let ao:=g2.trans g3;apply⟨_,.inl<|.of (ao _ _ cx),p1,M1,tl.length,by rw[y01],ay.r.same ao,ay.d.same ao,q3,o1,few,by omega,Rq,λp O G4 g4 r4 ok4 w4 c4 l4 bj=>fin p O G4 (ao.trans g4) r4 ?_ bj⟩;let w4':O.w=M.w:=by rw[w4,hw];change M1.w-1=_;omega
  apply zc5 w4' ok4 ok c4 can λrow D=>?_;rw[l4 row λc C=>by rw[←w4];show D c C,l row λc C=>by rw[←w4'];show D c C]
 |@all nm s1 _ _ h =>
  cases gf with
  |qu al e r1 =>
  rename_i a x;let ai:mcost s1+4<=n+1:=C;apply ixm (.of e) zca ⟨R,?_⟩;apply itF 04 ⟨R,?_⟩;apply itF 04 ⟨R,?_⟩;apply itF 04 ⟨R,?_⟩;apply itF 04 ⟨R,?_⟩;apply itT R ⟨f1,R,b9,dv,ixm (.of e) (zal (j:=1) R)<|ixm (.of e) (zal (j:=2) R) (mkT λt1 G1 n1=>mkT λt2 G2 n2=>mkT λt3 G3 n3 I=>?_)⟩;let g3:=n1.g.trans<|n2.g.trans n3.g;apply self _ g3 I _ _ _ _ _ _ _ (.neg n3.at'<|.qu 04 (n3.g _ _ n2.at') (.neg (n3.g _ _<|n2.g _ _ n1.at')<|r1.same g3)) (g3 _ _ cx) h ?_ λp1 G4' g4 q4 bj=>?_
  .change mcost s1+1+1+1<=n;omega
  .exact fin p1 M _ (g3.trans g4) q4 R bj
abbrev Kb:Stmt:=top 59
theorem zg0:FnScope ["frame"] ["frame"] (defScope Kb):={}
include T in
theorem zkq(d:Dfn K mg "check_frame" Kb ["frame"])(D:03 4 "is_frame" ["thing"] zyb):03 5 "check_frame" ["frame"] zes:=by
 apply d.cal zg0 35 46
 .nofun
 let(b,tl,rfl,L,C,Y,x,q):=h;apply⟨_,(zac<|zaz (zct<|zbr (zae D hr 00 01 90)) (zac zb3) zaj),?_⟩;apply zaw [G 47] R ?_;trivial;apply⟨_,R,⟨⟨_,.lst L⟩,λz e=>by cases e⟩,(λa xs c e=>by cases c;rw[L]at e;cases e;show zfw 00 (λz hz=>by have:=Y z hz;omega)),λH1 g1=>?_⟩;rw[show frB H 47=N by unfold frB;simp only[L];show x];show itN<|q H1 g1
abbrev Kn:Stmt:=top 60
theorem zka:FnScope ["saying","frame"] ["saying","frame"] (defScope Kn):={}
include T in
theorem ziw(d:Dfn K mg "check_let" Kn ["saying","frame"])(i:03 5 "check_frame" ["frame"] zes)(g:03 30 "is_saying" ["thing","frame"]<|znk treeWords 4):03 31 "check_let" ["saying","frame"] znj:=by
 apply d.cal zka 35 46
 .nofun
 let(v,b,tl,sy,rfl,r,L,Bq,q):=h;apply⟨_,(zab (zbm<|zae i hr 00 01 97)<|zac (zaz (zct<|zbr (zae g hr 00 01<|pa_c (pv 0) 97)) (zac zb3) zaj)),?_⟩;apply zaw [G v,G 47] R ?_;trivial;let C:=Bq.few;let Y:=Bq.len;apply⟨b,tl,R,L,C,Y,Bq.fr,λH1 g1=>?_⟩;let I:=g1 _ _ L;let r1:=r.same g1;apply⟨v,.ref b,R,r1.exp Bq.wf 12,⟨⟨_,.lst I⟩,λz e=>by cases e⟩,(λa xs c e=>by cases c;rw[I]at e;cases e;show zfw 00 (λz hz=>by have:=Y z hz;omega)),λu H2 o U=>?_⟩;let:u=N:=U.mpr ⟨b,tl,sy,R,I,Bq.fr,⟨r1,Bq.wf,Bq.dp,Bq.pt⟩,Bq.ok⟩;rw[this];show itN<|q H2 (g1.trans o)
abbrev V4:Stmt:=top 70
theorem T3:FnScope ["saying","frame","machine_of"] ["saying","frame"] (defScope V4):={}
include T in
theorem zpq{Y e U u z y fb ff fm fj O fp:Ad}(d:Dfn K mg "built" V4 ["saying","frame"])(Pf:03 31 "check_let" ["saying","frame"] znj)(f9:mg "bare_of"=G (.ref fb))(g:mg "fitting_of"=G (.ref ff))(mh:mg "met"=G (.ref fm))(gh:mg "joined"=G (.ref fj))(x:mg "flipped"=G (.ref O))(f8:mg "dropped"=G (.ref fp))(Qat:03 1 "maker" ["bare_of","fitting_of","met","joined","flipped","dropped"]<|zj3 P w K mg base fb ff fm fj O fp Y qs_maker (SPN e U u z y)):
  CalE P w K mg base 32 "built" ["saying","frame"] (zhg e qs_reduced U qs_paired u qs_met z qs_joined y qs_dropped Y qs_maker):=by
 apply d.calE T3 35 λf l A outer s H vs Q E D h Rq=>?_
 .nofun
 let(v,b,tl,sy,M,rfl,c,J,j,eb,L,mo,C,q):=h;apply⟨_,(zab (zbm<|zae Pf D 00 01 (pa_c (pv 0) 97))<|zab (zat (i:=2) T3.nd R 39<|zae Qat D 00 01 (pa_c (zb1 (v:=V.ref _) 01 ⟨_,f9,R⟩)<|pa_c (zb1 (v:=V.ref _) 01 ⟨_,g,R⟩) (pa_c (zb1 (v:=V.ref _) 01 ⟨_,mh,R⟩)<|pa_c (zb1 (v:=V.ref _) 01 ⟨_,gh,R⟩) (pa_c (zb1 (v:=V.ref _) 01 ⟨_,x,R⟩)<|pa_c (zb1 (v:=V.ref _) 01 ⟨_,f8,R⟩) zaa)))) (zac<|zag (zrs Rq (i:=2) (k:=27) (n:=2) (sp:=(SPN e U u z y 16)) R (by first|show Or.inl rfl|show Or.inr (Or.inl R)|show Or.inr (Or.inr R)) (D.mono<|by omega)<|pa_c (pv 0) (pa_c (pv 1) zaa)))),?_⟩;apply zaw [G v,G<|.ref b,B] R ?_;trivial;apply⟨v,b,tl,sy,R,j,eb,L,λH1 g1=>⟨R,J.same g1,λf1 a H2 o r cl=>?_⟩⟩;let I:=g1.trans o;show⟨f1,R,a,r,r,cl 16,R,v,b,tl,sy,M,R,c.same I,j.same I,I _ _ eb,mo,C,λp H3 g3 r3=>q p H3 (I.trans g3) r3⟩
abbrev Qi:Stmt:=top 72
theorem zcm:FnScope ["text"] ["text"] (defScope Qi):={}
include T in
theorem zpr(d:Dfn K mg "words_between_blanks" Qi ["text"]):03 1 "words_between_blanks" ["text"] zhh:=by
 apply d.cal zcm 35 46
 .nofun
 let(z,rfl,hz,q):=h;apply⟨_,(zac<|zag (zas ["word"] [] 89 01 (za2 K<|zbq K PySem.F.plainAttrs_str PySem.F.slot_str_split PySem.F.type_str_split zwe (pv 0) (pa_c zao zaa)) (λ_ _ _ _ _=>(zai (i:=0) (show List.Nodup (["word"]:List Str) by decide+kernel) 01 36)) (λ_ _ _ _ _=>(zrn<|zak zxi (pv 0) zao 49)) λ_ _ _ _ _=>(pv 0))),?_⟩;apply zaw [G<|.str z] R ?_;trivial;let C:=ztp 32<|ch z;let hs:=SS.split_len z 32;rw[←lit1.2.2]at hs;rw[←zd7]at C;let Y:(Txt.split z " ").length<=100000:=by omega
 apply⟨by decide+kernel,by rw[jz];omega,Y,λp H1 I=>⟨⟨_,I.lst⟩,?_⟩⟩;apply zw7 (K:=K) (a:=p) (xs:=(Txt.split z " ").map V.str) (λσ=>∃v,σ=[v]) (λy=>decide (y≠V.str "")) id (by rw[y01];show Y) I.lst ⟨_,R⟩ ?_ ?_
 .rintro D i σ H' x hi M O g u J ⟨v,rfl⟩;let(y,o,rfl):=y0e.mp M;trivial;by_cases c:y=""
  .rw[Xg c];show iteF<|zt2 O (by rw[c];show Xf λh=>h R) J g ⟨_,R⟩
  .rw[Xf c];show iteT<|zw6 (by rw[y01];show Y) O (Xg λh=>c<|V.str.inj h) u J g ⟨_,R⟩ R
 intro D H2 u g U;apply q D H2 (I.g.free u) (I.g.trans g) ?_;rw[U,List.map_id,List.filter_map];apply congrArg (λl=>G<|HO.lst (List.map V.str l))<|y3s λy _=>?_;change decide (V.str y≠V.str "")=decide (y≠"");show decide_eq_decide.mpr ⟨λh e=>h (by rw[e]),λh e=>h<|V.str.inj e⟩
abbrev Ky:Stmt:=top 73
theorem zly:FnScope ["text"] ["text"] (defScope Ky):={}
include T in
theorem zvx(d:Dfn K mg "words_of" Ky ["text"])(c:03 1 "words_between_blanks" ["text"] zhh):CalT P w K mg base 2 "words_of" ["text"] znh:=by
 apply d.calT zly 35 46
 .nofun
 let(z,rfl,hz,q):=h;apply⟨_,(zyr<|zyq (zkj c hr 00 01<|zvv (zga<|zga (PE.t<|pv 0)) (PA.t zaa))),?_⟩;apply zaw [G<|.str z] R ?_;trivial;let j:(" ( ":Str).length=3:=by decide+kernel
 let a:(" ) ":Str).length=3:=by decide+kernel
 let l1:(Txt.replace z "(" " ( ").length<=3*z.length:=by
  rw[zd7,zd7 z,lit1.1,zcy];show zwt (by rw[ch_lit1.2.1];decide) _
 let l2:(Txt.replace (Txt.replace z "(" " ( ") ")" " ) ").length<=3*z.length:=by
  rw[zd7,zy6,zd7 z];show zvu _
 apply⟨by decide+kernel,by rw[j];omega,by decide+kernel,by rw[a];omega,_,R,by omega,λD H1 u g1 g=>q D H1 u g1 g⟩
abbrev Ko:Stmt:=top 74
theorem zj7:FnScope ["left"] ["left"] (defScope Ko):={}
include T in
theorem zmb(d:Dfn K mg "take_word" Ko ["left"]):03 1 "take_word" ["left"] zcj:=by
 apply d.cal zj7 35 46
 .nofun
 let(l,rfl,q):=h;apply⟨_,(zac<|zag (zvj (znw (pv 0) λ_=>rfl) (zy3 K PySem.F.plainAttrs_list PySem.F.slot_list_pop PySem.F.type_list_pop mt_pop<|pv 0) zao)),?_⟩;apply zaw [G<|.ref l] R ?_;trivial;rcases q with⟨Y,q⟩|⟨y,z,Y,q⟩
 .exact⟨Fa,.inl ⟨_,.of Y,R⟩,iteF q⟩
 .rw[zq9]at Y;apply⟨N,.inl ⟨_,.of Y,by cases revW z<;>rfl⟩,iteT ⟨.inl ⟨_,.of Y⟩,_,Y,.str y,?_,q _ (SameX.upd l H _) ?_⟩⟩
  .rw[y0d,y0r,Nat.add_sub_cancel,y12 08,y3f];rfl
  .rw[zar,List.dropLast_concat]
abbrev Qs:Stmt:=top 75
theorem Qn:FnScope ["left","deepest","first","name","word"] ["left","deepest"] (defScope Qs):={}
theorem zzd{n k:Nat}(M:1<=k)(T:Txt K mg w tw rw fa cj ca ce co cn)(d:Dfn K mg "take_saying" Qs ["left","deepest"])(Vo:03 1 "take_word" ["left"] zcj)(Qb:03 k "take_saying" ["left","deepest"]<|zfy n)(T5:03 (k+1) "take_pair" ["left","deepest"]<|zfx n):03 (k+2) "take_saying" ["left","deepest"] (zfy<|n+1):=by
 apply d.cal Qn 35 46
 .nofun
 let(l,sy,rest,dp,rfl,U,Y,wd,wf,hd,q):=h;apply⟨_,(zab (zaz (zak za7 (pv 1) zad 49) (zac zb3) zaj)<|zab (zat (i:=2) Qn.nd R 39 060) (zab (zaz 049 (zac<|zag (zay<|pa_c zao (pa_c (zae Qb hr 00 01<|pa_c (pv 0) (pa_c (za0 zgb (pv 1) zad) zaa)) zaa))) zaj)<|zab (zaz (zak (zhq K) (pv 2) (zb1 01 T.g_TELLING_WORDS)<|by with_unfolding_all rfl) (zab (zat (i:=3) Qn.nd R 39 060)<|zac (zag<|zay (pa_c (pv 2)<|pa_c (pv 3) (pa_c (zae Qb hr 00 01<|pa_c (pv 0) (pa_c (za0 zgb (pv 1) zad) zaa)) zaa)))) zaj) (zab (zaz 049 (zac<|zag (zae T5 hr 00 01<|pa_c (pv 0) (pa_c (za0 zgb (pv 1) zad) zaa))) zaj)<|zab (zat (i:=4) Qn.nd R 39 060) (zac<|zag (zay<|pa_c (pv 4) (pa_c (pv 2)<|pa_c 060 zaa)))))),?_⟩;apply zaw [G<|.ref l,G<|.int dp,B,B,B] R ?_;trivial;let J:=sy.depth_pos;let d0:¬((dp:Int)=0):=by omega
 rw[Xf d0];let a:((dp:Int)-1)=((dp-1:Nat):Int):=by omega
 rw[a];cases sy with
 |neg t =>
  let e:=zk4 t;apply iteF ⟨l,R,.inr ⟨"not",toksS t++rest,Y,λH1 c g=>⟨R,?_⟩⟩⟩;apply itT R ⟨l,t,rest,dp-1,R,by omega,g,wd,wf,by omega,λv H2 O C r2=>⟨zaf 06,λp H3 r=>q _ H3 (c.trans<|O.trans (.of r.g)) (r.g _ _ C)<|.neg r.at' (r2.same r.g)⟩⟩
 |two w y D =>
  let e:=zk3 w y D;simp only[wdB,y08,decide_eq_true_eq]at wd;let u:(wfB y&&wfB D)=N:=wf;rw[y08]at u;let et:toksS (.two w y D)++rest=("(":Str)::(toksS y++w::(toksS D++(")":Str)::rest)):=by change _::_++_=_;simp
  rw[et]at Y;apply iteF ⟨l,R,.inr ⟨_,_,Y,λH1 c g=>⟨R,?_⟩⟩⟩;rw[Xf<|show¬V.str "("=V.str "not" fromλz=>Xa (V.str.inj z) 21];apply iteF ⟨_,.inr<|T.t_TELLING_WORDS _,R,R,?_⟩;rw[show inV (V.str "(") [.str "some",.str "all"]=Fa by decide+kernel];apply iteF ⟨R,?_⟩;show itT R ⟨l,w,y,D,rest,dp-1,R,by omega,g,wd.1,wd.2.1,wd.2.2,u.1,u.2,by omega,by omega,λv H2 O C r2=>q v H2 (c.trans O) C r2⟩
 |qu w L t =>
  let e:=zi7 w L t;simp only[wdB,y08,decide_eq_true_eq]at wd;let u:(isName (.str L)&&wfB t)=N:=wf;rw[y08]at u;apply iteF ⟨l,R,.inr ⟨w,L::(toksS t++rest),Y,λH1 c g=>⟨R,?_⟩⟩⟩;rw[Xf λz=>zup w wd.1<|V.str.inj z];apply iteF ⟨_,.inr<|T.t_TELLING_WORDS _,R,R,?_⟩;rw[zjt w wd.1];apply iteT ⟨l,R,.inr ⟨L,toksS t++rest,g,λH2 O C=>⟨l,t,rest,dp-1,R,by omega,C,wd.2,u.2,by omega,λv H3 x3 j r3=>⟨zaf 06,λp H4 x=>q _ H4 (c.trans<|O.trans (x3.trans<|.of x.g)) (x.g _ _ j)<|.qu wd.1 x.at' (r3.same x.g)⟩⟩⟩⟩
 |bare w L m =>
  let((pn,I,o,r),pm):=zx2 wf;let mw:w∈bareWords:=of_decide_eq_true wd;apply iteF ⟨l,R,.inr ⟨L,w::m::rest,Y,λH1 c g=>⟨R,?_⟩⟩⟩;rw[Xf λz=>I<|V.str.inj z];apply iteF ⟨_,.inr<|T.t_TELLING_WORDS _,R,R,?_⟩;rw[show inV (V.str L) [.str "some",.str "all"]=Fa from(zeg L ["some","all"]).trans (Xf λz=>by
   simp only[y09,y0o,or_false]at z;show z.elim o r)]
  apply iteF ⟨R,?_⟩;rw[Xf λz=>pn.o<|by rw[show L="(" from V.str.inj z,ch_lit1.1];decide];show iteF ⟨l,R,.inr ⟨w,m::rest,g,λH2 O C=>⟨l,R,.inr ⟨m,rest,C,λH3 x3 j=>⟨zaf 06,λp H4 x=>q _ H4 (c.trans<|O.trans (x3.trans<|.of x.g)) (x.g _ _ j)<|.bare mw x.at'⟩⟩⟩⟩⟩
abbrev Q6:Stmt:=top 76
theorem Qz:FnScope ["left","deepest","one","word","other"] ["left","deepest"] (defScope Q6):={}
theorem zmc{n k:Nat}(M:1<=k)(T:Txt K mg w tw rw fa cj ca ce co cn)(d:Dfn K mg "take_pair" Q6 ["left","deepest"])(Vo:03 1 "take_word" ["left"] zcj)(e:03 k "take_saying" ["left","deepest"]<|zfy n):03 (k+1) "take_pair" ["left","deepest"] (zfx n):=by
 apply d.cal Qz 35 46
 .nofun
 let(l,wd,sy,t,rest,dp,rfl,U,Y,v,L,x,wf1,z,J,I,q):=h;apply⟨_,(zab (zat (i:=2) Qz.nd R 39<|zae e hr 00 01 (pa_c (pv 0) 97))<|zab (zat (i:=3) Qz.nd R 39 060) (zab (zat (i:=4) Qz.nd R 39<|zae e hr 00 01 (pa_c (pv 0) 97))<|zab (zaz (zak op_ne 060 zao 49) (zac zb3) zaj) (zac<|zag (zay<|pa_c (pv 3) (pa_c (pv 2)<|pa_c (pv 4) zaa))))),?_⟩;apply zaw [G<|.ref l,G<|.int dp,B,B,B] R ?_;trivial;apply⟨l,sy,_,dp,R,U,Y,L,wf1,J,λo H1 c g r1=>⟨l,R,.inr ⟨_,_,g,λH2 O C=>⟨l,t,_,dp,R,U,C,x,z,I,λD H3 y j r3=>⟨l,R,.inr ⟨_,_,j,λH4 r u=>⟨R,?_⟩⟩⟩⟩⟩⟩⟩;rw[Xg rfl];apply iteF ⟨zaf 06,λp H5 a=>q _ H5 (c.trans<|O.trans (y.trans<|r.trans (.of a.g))) (a.g _ _ u)<|.two v a.at' ?_ ((r3.sameX j r).same a.g)⟩;show(((r1.sameX g O).sameX C y).sameX j r).same a.g
theorem zor(T:Txt K mg w tw rw fa cj ca ce co cn)(J:Dfn K mg "take_saying" Qs ["left","deepest"])(I:Dfn K mg "take_pair" Q6 ["left","deepest"])(C:03 1 "take_word" ["left"] zcj):∀n,03 (2*n+1) "take_saying" ["left","deepest"] (zfy n)
 |0=>(J.never λvs H Q E h=>by let(l,s,rest,d,_,hd,_):=h;show Xa hd<|y32 _).mono 04
 |n+1=>by
  let g:=zor T J I C n;show zzd 00 T J C g<|zmc 00 T I C g
abbrev T4:Stmt:=top 77
theorem V3:FnScope ["text","left","saying"] ["text"] (defScope T4):={}
include T in
theorem zzg(d:Dfn K mg "read" T4 ["text"])(c:CalT P w K mg base 2 "words_of" ["text"] znh)(e:03 27 "take_saying" ["left","deepest"]<|zfy 13)(M:03 29 "is_any_saying" ["thing"] zf4):CalT P w K mg base 30 "read" ["text"] zqu:=by
 apply d.calT V3 35 46
 .nofun
 let(z,sy,rfl,hz,a,wd,wf,hd,x,q):=h;apply⟨_,(zfm (PS.t<|zaz (zct<|zbr (za1 zbu 01 T.b_isinstance iM<|pa_c (pv 0) (pa_c (zcp (v:=.ty "str") 01 T.b_str boot_str 01) zaa))) (zac zb3) zaj)<|zfm (zrg (i:=1) V3.nd R 39<|zis K R 01 T.b_list 01 T.b_reversed (zvv (zki c hr 00 01<|PA.t 90)<|PA.t zaa)) (PSs.t<|zab (zat (i:=2) V3.nd R 39<|zae e hr 00 01 (pa_c (pv 1)<|pa_c (zb1 01 T.g_DEEPEST) zaa)) (zab (zaz (PW.pt<|zim (znw (pv 1) λ_=>rfl) (zf8<|zct (zbr<|zae M hr 00 01 (pa_c (pv 2) zaa)))) (zac zb3) zaj)<|zac (zag<|pv 2)))),?_⟩;apply zaw [G<|.str z,B,B] R ?_;trivial;let J:=zd6 sy;apply⟨_,.str z,by decide,iteF ⟨z,R,hz,λD H1 u g1 g=>⟨D,R,_,.of g,by rw[y01,a];omega,λL H2 o=>?_⟩⟩⟩;let C:H2 L=G (.lst<|revW (toksS sy++[])):=by rw[o.at',a,y1t];unfold revW;rw[List.map_reverse]
 apply⟨L,sy,[],12,R,by decide,C,wd,wf,hd,λv H3 y j O=>⟨Fa,.inl ⟨_,.of j,R⟩,iteF ⟨v,R,O.exp wf 12,λb H4 r U=>?_⟩⟩⟩;let p:b=N:=U.mpr ⟨sy,O,wf,hd,x⟩;subst p;show itN<|q v H4 (g1.trans<|(y.same o.g o.nil).trans r) (O.same r)
abbrev Tx:Stmt:=top 8
theorem V6:FnScope ["machine","row","rooms","letter"] ["machine","row"] (defScope Tx):={}
include T in
theorem ok_gone(d:Dfn K mg "gone" Tx ["machine","row"]):03 1 "gone" ["machine","row"] (zqw K):=by
 apply d.cal V6 35 46
 .nofun
 let(a,b,m,row,rfl,(b1,M,rs,c,L,pr,ec),ok,U,Y,h300,q):=h;apply⟨_,(zab (zat (i:=2) V6.nd R 39<|zax (pa_c zad zaa))<|zab (zcf PassesOwn.never R (za2 K<|pv 1) (zai (i:=3) V6.nd 01 36)<|zac (zbm<|zbq K PySem.F.plainAttrs_list PySem.F.slot_list_append PySem.F.type_list_append za9 (pv 2) (pa_c (zaq 38 (zaq 38 (zaq 38 (pv 0) zad λ_ _=>rfl) (zaq (zbc K) (pv 2) (zro zjs zad) λ_ _=>rfl) λ_ _=>rfl) (pv 3) λ_ _=>rfl) zaa))) (zac<|zag (pv 2))),?_⟩;apply zaw [G 07,G 47,B,B] R ?_;trivial;apply⟨by decide,λp H1 I=>⟨⟨_,I.g.seq U⟩,?_⟩⟩;apply zi6 (K:=K) (a:=b) (xs:=row.map nV) (λi σ H'=>Same H H'/\(∃v3,σ=[G 07,G 47,G 09,v3])/\H' p=G (.lst<|(m.path 0<|row.take i).map nV)) ⟨I.g,⟨B,R⟩,I.at'⟩ (λi σ H' _ ⟨g,_⟩=>g.seq U) ?_ ?_
 .rintro i y σ H' hy ⟨g,⟨v3,rfl⟩,ep⟩;rw[y03]at hy;let(l,e,rfl):=y1a.mp hy;let D:=Y l<|y0n e;let(J,ei):=m.path_last (row.take i) 0;let z:=m.path_len (row.take i) 0;let o:=ok.run_lt (row.take i) 0 ok.pos λx O=>Y x<|List.mem_of_mem_take O;let(line,e1,C,e3):=ok.at o D;let(v,ev,a2,rfl,u):=Paired.at2 pr e1;let r:m.path 0 (row.take<|i+1)=J++[m.run 0<|row.take i]++[m.go (m.run 0<|row.take i) l]:=by rw[y19,e,y28,m.path_snoc,ei]
  let ep':H' p=G (.lst<|J.map nV++[nV<|m.run 0 (row.take i)]):=by rw[ep,ei,y0v];rfl
  let at4:(line.map nV)[l]?=G (nV<|m.go (m.run 0<|row.take i) l):=by rw[y03,C];rfl
  let hln:(J.map nV++[nV<|m.run 0 (row.take i)]).length<=400:=by
   rw[ei,y0d,y0r,y0w]at z;rw[y0d,y01,y0r];omega
  trivial;apply⟨.inl ⟨_,.of ep'⟩,_,.of<|g _ _ c,_,zal (j:=1) R,_,.of ep',_,zfu _ _,_,.of<|g _ _ L,_,zal ev,_,.of<|g _ _ u,_,zal at4,_,ep',small1000 00,?_⟩;apply⟨g.wr I.nil _,?_⟩;rw[zar,r,y0v,y0v];rfl
 .rintro σ H' ⟨g,⟨v3,rfl⟩,ep⟩;rw[y01,y0h 08]at ep;trivial;show q p H' I.nil g ep
abbrev Ta:Stmt:=top 9
theorem zu3:FnScope ["machine","row"] ["machine","row"] (defScope Ta):={}
include T in
theorem zvy(d:Dfn K mg "takes" Ta ["machine","row"])(y:03 1 "gone" ["machine","row"]<|zqw K):03 2 "takes" ["machine","row"] (zni K):=by
 apply d.cal zu3 35 46
 .nofun
 let(a,b,m,row,rfl,v,ok,U,Y,e,q):=h;let(b1,M,rs,c,L,pr,x):=id v;apply⟨_,(zac<|zag (zaq 38 (zaq 38 (pv 0) zad λ_ _=>rfl) (zaq (zbc K) (zae y hr 00 01<|pa_c (pv 0) 97) (zro zjs zad) λ_ _=>rfl) λ_ _=>rfl)),?_⟩;apply zaw [G 07,G 47] R ?_;trivial;apply⟨_,.of c,_,zal (j:=2) R,a,b,m,row,R,v,ok,U,Y,e,λD H' u g l=>?_⟩;let(J,r):=m.path_last row 0;let p:H' D=G (.lst<|J.map nV++[nV<|m.run 0 row]):=by rw[l,r,y0v];rfl
 let o:=ok.run_lt row 0 ok.pos Y;let i:(m.ends.map V.bl)[m.run 0 row]?=G (.bl<|m.fin (m.run 0 row)):=by rw[y03,Mc.fin_at o];rfl
 show⟨_,.of p,_,zfu _ _,_,.of<|g _ _ x,_,zal i,q H' g⟩
abbrev Kq:Stmt:=top 85
theorem Qa:FnScope ["_law_way","_law_script","_law_head","_law_text","_law_frame","_law_machine","_law_one","_law_other","_law_far","_law_row","_law_found"] ["_law_way","_law_script","_law_head"] (defScope Kq):={}
include T in
theorem zpi{Pk e Pp u Pj Pd:Ad}(d:Dfn K mg "_law_right" Kq ["_law_way","_law_script","_law_head"])(Tn:03 1 "_law_sayings" [] zqs)(Qau:CalT P w K mg base 30 "read" ["text"] zqu)(Qan:03 32 "built" ["saying","frame"]<|zhg e qs_reduced Pp qs_paired u qs_met Pj qs_joined Pd qs_dropped Pk qs_maker)(Tz:03 1 "_law_tracks" ["_law_way","_law_script","_law_head"]<|zjz K)(Tq:03 1 "_law_letters" ["_law_one","_law_other","_law_many"] zqv)(Qal:03 2 "takes" ["machine","row"]<|zni K)(Pc:03 2 "_law_plain" ["_law_way","_law_one","_law_other"] zhd):CalT P w K mg base 33 "_law_right" ["_law_way","_law_script","_law_head"] (zhb K e qs_reduced Pp qs_paired u qs_met Pj qs_joined Pd qs_dropped Pk qs_maker):=by
 apply d.calT Qa 35 46
 .nofun
 let(k,x,a,ns,rfl,hk,hS,Y,c,J,q):=h;apply⟨_,(zfm (PS.t<|zrf (zaq (zbc K) (zrw Tn hr 00 01) (pv 0) λ_ _=>rfl) (zd0 K (n:=2) R<|zbe (zai (i:=3) Qa.nd 01 36) (zbe (zai (i:=4) Qa.nd 01 36) zdz)))<|zfm (zrg (i:=5) Qa.nd R 39<|zkj Qan hr 00 01 (zvv (zki Qau hr 00 01<|PA.t 037)<|zvv (PE.t<|zbp (zqf K) 01 T.b_list boot_list (pa_c (pv 4) zaa)) (PA.t zaa))) (PSs.t<|zab (zrf (zae Tz hr 00 01<|pa_c (pv 0) (pa_c (pv 1)<|pa_c (pv 2) zaa))<|zd0 K (n:=2) R (zbe (zai (i:=6) Qa.nd 01 36)<|zbe (zai (i:=7) Qa.nd 01 36) zdz)) (zab (zcf PassesOwn.never R (za2 K<|zax (pa_c (za1 (zan K) 01 T.b_len iy<|pa_c (pv 6) zaa)<|pa_c (za0 zc2 (za0 ziv (pv 2) zad)<|za0 zcb (za1 (zan K) 01 T.b_len iy<|pa_c (pv 6) zaa) zad) zaa)) (zai (i:=8) Qa.nd 01 36)<|zab (zat (i:=9) Qa.nd R 39<|zae Tq hr 00 01 (pa_c (zbb (zbk K) (pv 6) zbs<|zbd (pv 8))<|pa_c (zbb (zbk K) (pv 7) zbs<|zbd (pv 8)) (pa_c (za1 (zan K) 01 T.b_len iy<|pa_c (pv 4) zaa) zaa))) (zab (zat (i:=10) Qa.nd R 39<|zae Qal hr 00 01 (pa_c (pv 5)<|pa_c (pv 9) zaa))<|zac (zaz (PW.pt<|zim (zct<|zbr (za1 zbu 01 T.b_isinstance iM<|pa_c (pv 10) (pa_c (zcp (v:=.ty "bool") 01 T.b_bool boot_bool 01) zaa))) (zf8<|zak op_ne (pv 10) (zae Pc hr 00 01<|pa_c (pv 0) (pa_c (zbb (zbk K) (pv 6) zbs<|zbd (pv 8))<|pa_c (zbb (zbk K) (pv 7) zbs<|zbd (pv 8)) zaa)) 49)) 027 zaj))) 027))),?_⟩;apply zaw [G<|nV k,G 07,G<|.int x,B,B,B,B,B,B,B,B] R ?_;trivial;apply⟨R,λD xs H1 g1 eD pr=>?_⟩;let hxs:xs.length=12:=pr.length;let hks:k<say63.length:=hk;let(v,ev,t,fr,rfl,I,ef):=Paired.at2 pr<|y00 hks;let hp:say63[k]∈say63:=y0k hks;let hp':say63[k]?=G say63[k]:=y00 hks;generalize say63[k]=p at I ef hp hp';let(M,mo,ok,j,C,hlw,lang):=mach63 hk hp';let(r1,r2,O,r4,r5,r6,r7,r8,r9,r10):=zu4 p hp;apply⟨_,.of eD,_,zal ev,?_⟩;apply⟨t,R,_,.of I,R,_,_,R,_,_,R,R,p.1,p.2.2,R,r1,r2,O,r4,r5,r6,λv H2 o rp=>⟨_,.inl<|.of (o _ _ ef),λl H3 n3=>?_⟩⟩;let g03:Same H H3:=g1.trans<|o.trans n3.g;apply⟨v,l,p.2.1,p.2.2,M,R,c.same g03,J.same g03,rp.same n3.g,n3.at',⟨r7,r8,r9,r4,r5,r6,r10⟩,mo,C,λpm H4 g4 rm=>?_⟩;let bv:=g03.trans g4;apply⟨(k:Int),x,a,ns,R,bv.seq hS,Y,λt' a' b' zs H5 L aw d6 f6 hz=>?_⟩;apply⟨t',R,_,.of aw,R,_,_,R,_,_,R,R,?_⟩;trivial;let bf:=zoq zs;apply⟨_,.inl<|.of d6,⟨by decide,by decide⟩,_,.inl<|.of d6,by rw[bf];omega,mkT λlp H6 n6=>⟨⟨_,.of n6.at'⟩,?_⟩⟩;let gd:=bv.trans<|L.trans n6.g;apply zi6 (K:=K) (a:=lp) (xs:=[V.int ((b1 zs).length:Nat),V.int<|x/77%(((b1 zs).length:Nat)+1)]) (λi σ H'=>Same H6 H'/\∃v8 v9 v10,σ=[G<|nV k,G 07,G<|.int x,G<|.str p.1,G<|.ref fr,G<|.ref pm,G<|.ref a',G<|.ref b',v8,v9,v10]) ⟨Same.refl _,B,B,B,R⟩ (λi σ H' _ z=>.of<|z.1 _ _ n6.at') ?_ ?_
 .rintro i y σ H' U ⟨g,v8,v9,v10,rfl⟩;obtain⟨far,hf,rfl⟩:∃far:Nat,far<=zs.length/\y=nV far:=by
   let m0:=y45 (x/77) (show(((b1 zs).length:Nat):Int)+1≠0 by omega);let m1:=y3q (x/77) (show(0:Int)<(((b1 zs).length:Nat):Int)+1 by omega);let:=y0n U;simp only[y09,y0o,or_false]at this;rcases this with h|h
   .exact⟨zs.length,y05 _,by rw[h,bf]⟩
   .exact⟨(x/77%(((b1 zs).length:Nat)+1)).toNat,by omega,by rw[h];congr 1;omega⟩
  trivial;let e1:=g _ _<|n6.g _ _ d6;let e2:=g _ _<|n6.g _ _ f6;let e3:=g _ _<|n6.g _ _ (L _ _<|g4 _ _ (n3.g _ _<|o _ _ ef));let rm':=rm.same<|L.trans (n6.g.trans g);let hzf:(zs.take far).length<=63:=by rw[y0w];omega
  let(hrw,hfin):=lang<|zs.take far;apply⟨_,.of e1,λr H7 n7=>⟨_,.of<|n7.g _ _ e2,λp2 H8 n8=>⟨_,.inl<|.of (n8.g _ _<|n7.g _ _ e3),?_⟩⟩⟩;rw[zxw]at n7;rw[zxv]at n8;rw[y01,hlw];let g78:=n7.g.trans n8.g;apply⟨wof k,r,p2,zs.take far,R,wof_2 k hk,n8.g _ _ n7.at',n8.at',hzf,λD9 H9 g9 e9=>?_⟩;let g79:=g78.trans g9;apply⟨pm,D9,M,_,R,rm'.same g79,ok,.of e9,hrw,by rw[y01];omega,λH10 g10=>?_⟩;rw[hfin];let ga:=g79.trans g10;apply⟨_,.bl _,by decide,iteF ⟨_,.of<|ga _ _ e1,λp11 H11 n11=>⟨_,.of<|n11.g _ _ (ga _ _ e2),λp12 H12 n12=>?_⟩⟩⟩;rw[zxw]at n11;rw[zxv]at n12;apply⟨k,p11,p12,zs.take far,R,hk,n12.g _ _ n11.at',n12.at',hzf,λH13 ao=>⟨R,?_⟩⟩;rw[Xg rfl];show iteF<|g.trans (ga.trans<|n11.g.trans (n12.g.trans ao))
 .rintro σ H' ⟨g,v8,v9,v10,rfl⟩;trivial;show q H'<|gd.trans g
theorem zhy{q:Type}{x:Ad}{v:q}{r:List (Ad×q)}:List.lookup x ((x,v)::r)=G v:=by simp[List.lookup]
theorem zbn{q:Type}{x y:Ad}{v:q}{r:List (Ad×q)}(h:x≠y):List.lookup x ((y,v)::r)=List.lookup x r:=by
 let:(x==y)=Fa:=by simpa using h
 simp[List.lookup,this]
abbrev Px:Stmt:=top 86
theorem Ty:FnScope ["_law_script","_law_head","_law_k"] ["_law_script"] (defScope Px):={}
abbrev sp_law:=zya
include T in
theorem ok_law{f:Ad}{fd:i6}{Y e U u z y:Ad}(F:Fun K "law" "law" Px f fd)(I:U≠e)(o:u≠e)(r:u≠U)(x:y≠e)(n5:y≠U)(n6:y≠u)(n7:Y≠e)(d:Y≠U)(p:Y≠u)(v:Y≠y)(j1:z≠e)(j2:z≠U)(M:z≠u)(O:y≠z)(j5:Y≠z)(Tm:03 1 "_law_cell_at" ["_law_script","_law_k"]<|zls K)
  (Ph:CalT P w K mg base 33 "_law_right" ["_law_way","_law_script","_law_head"]<|zhb K e qs_reduced U qs_paired u qs_met z qs_joined y qs_dropped Y qs_maker):FnOk P w K mg base CX0 34 f fd ["_law_script"] (sp_law K [(e,qs_reduced),(U,qs_paired),(u,qs_met),(z,qs_joined),(y,qs_dropped),(Y,qs_maker)]):=by
 apply F.ok Ty 35 λl A outer s H vs Q E D h=>?_
 .nofun
 let(a,ns,rfl,j,h63,C,q):=h;let tb:TabJ H e qs_reduced U qs_paired u qs_met z qs_joined y qs_dropped:=⟨C.tab zhy,C.tab (by rw[zbn I];show zhy),C.tab (by rw[zbn o,zbn r];show zhy),C.tab (by rw[zbn j1,zbn j2,zbn M];show zhy),C.tab<|by rw[zbn x,zbn n5,zbn n6,zbn O];show zhy⟩;let J:TabOk H Y qs_maker:=C.tab (by rw[zbn n7,zbn d,zbn p,zbn j5,zbn v];show zhy);apply⟨_,(zab (zat (i:=1) Ty.nd R 39<|za0 zc2 (zae Tm D 00 01<|pa_c (pv 0) (pa_c zad zaa)) (za0 op_pow zad zad))<|zab (zcf PassesOwn.never R (zbi 01 T.b_range<|pa_c zad zaa) (zai (i:=2) Ty.nd 01 36)<|zac (zaz (zct<|zbr (zrv Ph D 00 01<|paU_hd (zxg zc2 (zy4 zcb (pv 1)<|zxg zry zy5 (pv 2)) zad) (pa_c (pv 0)<|pa_c (za0 ziv (pv 1) zad) zaa))) 027 zaj)) 027),?_⟩;apply zaw [G 07,B,B] R ?_;trivial;apply⟨a,ns,0,R,j,by decide,λc=>⟨⟨by decide,by decide,by decide⟩,by decide,by decide,by decide,?_⟩⟩;generalize c%10^Int.toNat 30=hd;apply zeh (λi σ H'=>Same H H'/\∃v2,σ=[G 07,G<|.int hd,v2]) ⟨Same.refl _,B,R⟩ ?_ ?_
 .rintro i σ H' hi ⟨g,v2,rfl⟩;let L:=y45 (hd+3*(0+(i:Int))) (show(12:Int)≠0 by decide);let m1:=y3q (hd+3*(0+(i:Int))) (show(0:Int)<12 by decide);trivial;apply⟨.inl ⟨by decide,by decide⟩,by decide,⟨by decide,by decide⟩,((hd+3*(0+(i:Int)))%12).toNat,hd/12,a,ns,?_,by omega,g.seq j,h63,tb.same g,J.same g,λH1 g1=>itN<|g.trans g1⟩;rw[show nV ((hd+3*(0+(i:Int)))%12).toNat=V.int ((hd+3*(0+(i:Int)))%12)from congrArg V.int 00]
 .rintro σ H' ⟨g,v2,rfl⟩;trivial;show q H'
end
section
variable {P:ik}{w:World}{K:Frag}{mg:Y1}{base:Heap}{f:Ad}{fd:i6}{tw rw fa cj ca ce co cn:Ad}
variable (T:Txt K mg w tw rw fa cj ca ce co cn)
include T in
theorem all(Qav:Dfn K mg "gone" Tx ["machine","row"])(Qao:Dfn K mg "takes" Ta ["machine","row"])(P8:Dfn K mg "reached" Vf ["machine"])(Vk:Dfn K mg "renamed" Q7 ["rooms","numbers"])(Qaj:Dfn K mg "picked" Vq ["machine","rooms","numbers"])(P3:Dfn K mg "numbered" Kt ["marks"])(Ti:Dfn K mg "finer_sorts" Q8 ["machine","sorts"])(Pl:Dfn K mg "sorts_by" K8 ["ends","part_further"]){s a:Ad}(Kk:DfnC K mg "reduced" Vl ["machine"] s a)(P0:Dfn K mg "is_whole" Kx ["thing"])(Py:Dfn K mg "is_below" K6 ["thing","bound"])(Pq:Dfn K mg "explored" K0 ["tracks","first","comings","is_end"]){gi d:Ad}(Kv:DfnC K mg "paired" Vx ["one","other","is_end"] gi d)(Qaf:Dfn K mg "flipped" Ve ["machine"]){mi p:Ad}(Tr:DfnC K mg "met" P2 ["one","other"] mi p){Q c:Ad}(K7:DfnC K mg "joined" Vu ["one","other"] Q c)(Pi:Dfn K mg "letter_of" Km ["letter","tracks"])(Qag:Dfn K mg "spread" Vs ["machine","tracks","width"])(V2:Dfn K mg "both_letters" Q5 ["letter","track"])(V7:Dfn K mg "coming_rooms" Q4 ["machine","rooms","letters"]){H t_dropped:Ad}(Kj:DfnC K mg "dropped" Vh ["machine","track"] H t_dropped){kz e:Ad}(Vn:DfnC K mg "maker" V5 ["bare_of","fitting_of","met","joined","flipped","dropped"] kz e)(Kh:Dfn K mg "is_letter_with_figures" Qf ["thing","letters"])(Po:Dfn K mg "is_place" K2 ["thing"])(Qai:Dfn K mg "is_set" Vw ["thing"])(Qaa:Dfn K mg "is_name" Vj ["thing"])(P4:Dfn K mg "is_frame" K4 ["thing"])(Tv:Dfn K mg "is_of_sort" Qw ["thing","sort","deepest"])(Pn:Dfn K mg "has_form" Kf ["thing","deepest"])(V1:Dfn K mg "inner_sayings" Q2 ["saying"])(P7:Dfn K mg "is_bare" Vb ["saying"])(Tj:Dfn K mg "count_parts" Qr ["saying"])(Vz:Dfn K mg "is_any_saying" Q1 ["thing"])(Qah:Dfn K mg "is_let" Kz ["saying","known","barred","most"])(T9:Dfn K mg "is_saying" Kl ["thing","frame"])(Tl:Dfn K mg "check_frame" Kb ["frame"])(Pg:Dfn K mg "check_let" Kn ["saying","frame"])(Tw:Dfn K mg "fitting_of" Ki ["frame"])(P9:Dfn K mg "rule_of" Vg ["word"])(Qad:Dfn K mg "bare_of" Vm ["saying","frame"])(Qar:Dfn K mg "built" V4 ["saying","frame"])(Kr:Dfn K mg "words_between_blanks" Qi ["text"])(P5:Dfn K mg "words_of" Ky ["text"])(T6:Dfn K mg "take_word" Ko ["left"])(Tp:Dfn K mg "take_saying" Qs ["left","deepest"])(T7:Dfn K mg "take_pair" Q6 ["left","deepest"])(Qay:Dfn K mg "read" T4 ["text"])(Tk:Dfn K mg "_law_cell_at" Ke ["_law_script","_law_k"])(Tf:Dfn K mg "_law_sayings" Q9 [])(Vy:Dfn K mg "_law_first_ways" Qt ["_law_way","_law_one","_law_other"])(T8:Dfn K mg "_law_plain" Kp ["_law_way","_law_one","_law_other"])(Tu:Dfn K mg "_law_tracks" Kg ["_law_way","_law_script","_law_head"])(To:Dfn K mg "_law_letters" Kc ["_law_one","_law_other","_law_many"])(Pe:Dfn K mg "_law_right" Kq ["_law_way","_law_script","_law_head"])(I:d≠a)(o:p≠a)(r:p≠d)(j1:c≠a)(j2:c≠d)(j3:c≠p)(x:t_dropped≠a)(n5:t_dropped≠d)(U:t_dropped≠p)(j4:t_dropped≠c)(n7:e≠a)(n8:e≠d)(n9:e≠p)(j5:e≠c)(n10:e≠t_dropped)(i:BltK base mg)(F:Fun K "law" "law" Px f fd):
  FnOk P w K mg base CX0 34 f fd ["_law_script"] (sp_law K [(a,qs_reduced),(d,qs_paired),(p,qs_met),(c,qs_joined),(t_dropped,qs_dropped),(e,qs_maker)]):=by
 let M:=zpl (P:=P) (w:=w) (base:=base) T P8;let A:=zpj (P:=P) (w:=w) (base:=base) T Vk;let c3:=zr6 T Qaj A;let c4:=zme (P:=P) (w:=w) (base:=base) T P3;let c5:=zv5 T Ti A c4;let c6:=zph T Pl c4;let c7:=zpk T Kk i M c3 c5 c6;let g:=zmd (P:=P) (w:=w) (base:=base) T Vk;let C:=zmg T Pq g c7;let j:=zpn T Kv i C;let u:=zzh T Tr i j;let v:=ok_lf (P:=P) (w:=w) (base:=base) T Kh;let a2:=zvz T Po v;let E:=ok_set T Qai v;let a4:=ok_nm T Qaa a2 E;let a5:=zv3 T P4 a4;let s6:=zos T Tv Pn a2 E a4 12;let s7:=zv2 (P:=P) (w:=w) (base:=base) T V1;let s8:=zr8 T P7 s7;let s9:=zll T Tj s7 13;let s10:=zsb T Vz s6.1 s9;let s11:=zui (bw:=treeWords) T Qah s7 s8 13;let s12:=zv1 T T9 a5 s10 s11;let b1:=zkp (P:=P) (w:=w) (base:=base) T Vk;let b2:=zmf (P:=P) (w:=w) (base:=base) T Pi;let b3:=zpg T Qag b2 b1;let b4:=zv4 T Tw a2 b3 u;let r1:=zzf (P:=P) (w:=w) (base:=base) T P9;let l:=zv7 T Qad r1 b3 b4 u;let x1:=zpo T Qaf c7;let x2:=zr3 (P:=P) (w:=w) (base:=base) T P0;let x3:=zsa T Py x2;let x4:=ok_both (P:=P) (w:=w) (base:=base) T V2;let x5:=zmi (P:=P) (w:=w) (base:=base) T V7;let x6:=zmh T Kj i x3 x4 x5 C;let e5:=zv0 T K7 i j;let(fb,rF,mb):=l.fn;let(ff,fF,mf):=b4.fn;let(fm,mF,mm):=u.fn;let(fj,jF,mj):=e5.fn;let(O,lF,ml):=x1.fn;let(fp,pF,mp):=x6.fn;let L:=zr7 T Vn i rF fF mF jF lF pF;let J:=zkq T Tl a5;let h3:=ziw T Pg J s12;let h4:=(zpq T Qar h3 mb mf mm mj ml mp L).n λ_ _ _ _ z=>z;let y:=zpr (P:=P) (w:=w) (base:=base) T Kr;let D:=zvx T P5 y;let Y:=zmb (P:=P) (w:=w) (base:=base) T T6;let t4:=zor T Tp T7 Y 13;let t5:=zzg T Qay D t4 s10;let k5:=ok_gone (P:=P) (w:=w) (base:=base) T Qav;let k6:=zvy T Qao k5;let l1:=ok_cell (P:=P) (w:=w) (base:=base) T Tk;let l2:=zze (P:=P) (w:=w) (base:=base) T Tf;let l3:=zpp (P:=P) (w:=w) (base:=base) T Vy;let q:=zpm T T8 l3;let l5:=zr4 (P:=P) (w:=w) (base:=base) T Tu;let l6:=ok_lets (P:=P) (w:=w) (base:=base) T To;let l7:=zpi T Pe l2 t5 h4 l5 l6 k6 q;show ok_law T F I o r x n5 U n7 n8 n9 n10 j1 j2 j3 j4 j5 l1 l7
end
end K63
open PySem PySem.W PyProof.Rows
set_option hygiene false in
local macro_rules
| `(tactic|exact_mod_cast 0) => `(tactic|((try dsimp only[L2.KOf]);refine' L2.dfn_mk KX Gq ?a ?l ?c ?k (λ_ _ _ _ _ _=>by first|exact L2.fit0 rfl|exact L2.fit1 λ_=>rfl|exact L2.fit2 λ_ _=>rfl|exact L2.fit3 λ_ _ _=>rfl|exact L2.fit4 λ_ _ _ _=>rfl);((case a=>k_is);(case l=>k_is);(case c=>k_is);(case k=>k_is))))
namespace PySem.W.Fast
def tw8316746006905649655:=True
def tw4683061052708994784:=True
def tw7936678401645991059:=True
def tw6023835202682228100:=True
def tw10268405342167024677:=True
def tw12098277004642527513:=True
def tw17811353006901212542:=True
def tw7387131159721195192:=True
def tw6752048483375568972:=True
def tw4950494280792828753:=True
def tw7405806424856011515:=True
def tw17692250969265785665:=True
def tw2031590050528910503:=True
def tw4275672055669034066:=True
def tw3924146932519839379:=True
def tw3880880407606846212:=True
def tw1959736439486719022:=True
def tw2792176301019383046:=True
def tw18250634108387499864:=True
def tw11897267525177857051:=True
def tw16088447323288858106:=True
def tw6003938629400193547:=True
def tw17378123737770817802:=True
def tw3782343772927734000:=True
def tw17549210991843136668:=True
def tw1405778069408853004:=True
def tw16338107176023659379:=True
def tw13393985728613213143:=True
def tw7979874144298633499:=True
def tw4977172913072778049:=True
def tw5039939952494438115:=True
def tw4735842152330747850:=True
def tw9531589578940442941:=True
def tw8753470569794185655:=True
def tw6899840750721454939:=True
def tw16323019648348663662:=True
def tw1077054776254495477:=True
def tw10418822153016942637:=True
def tw1017484573244020056:=True
def tw6075588085038455326:=True
def tw5506513096559409108:=True
def tw6871431722140600691:=True
def tw4793745622072217086:=True
def tw14543047779610231945:=True
def tw5321914651741636083:=True
def tw18286686667680722132:=True
def tw11052501631418913552:=True
def tw11313480275793862064:=True
def tw9284392308736451955:=True
def tw3774000983632373461:=True
def tw4961375141982838563:=True
def tw13623587725821856621:=True
def tw10668366303046732955:=True
def tw14594903654493978018:=True
def tw479640807095717088:=True
def tw2241792073558765429:=True
def tw10474411470158275472:=True
def tw10585105162410987619:=True
def tw16807057826827266821:=True
def tw9744000328562738038:=True
def tw3657702088075875694:=True
def tw16933347484969875086:=True
def tw5485549901768215420:=True
def tw16350363552222934833:=True
def tw3649571812066496213:=True
def tw5607728433364875758:=True
def tw16508727256290113047:=True
def tw14996297154102630686:=True
def tw15785075554090065005:=True
def tw8429483610863768181:=True
def tw17349798095286665725:=True
def tw15139161248031148425:=True
def tw1628722083764275803:=True
def tw16864886461727497666:=True
def tw17096943499254237197:=True
def tw133359454504227487:=True
def tw8679040357794856432:=True
def tw5377882288009097926:=True
def tw2237683063843065270:=True
def tw7218237811529150065:=True
def tw2287866464201728809:=True
def tw6906723026567239117:=True
def tw14330238575504250519:=True
def tw9637402725502524871:=True
def tw16658034747176942473:=True
def tw15722781464146127063:=True
def tw18417802344851953309:=True
def tw10240370635171912460:=True
def tw7163221798753249114:=True
def tw16817986536337248559:=True
def tw11764018207149310979:=True
def tw5284909802530395604:=True
def tw13679820747279380809:=True
def tw15723930990500411870:=True
def tw51501563202368387:=True
def tw9139203550681642533:=True
def tw3506303075065585980:=True
def tw4004446840955935314:=True
def tw981724950917512198:=True
def tw12472760978869815301:=True
def tw17569018998750803005:=True
def tw7349635270587916977:=True
def tw5973565458032653328:=True
def tw12251632908472358916:=True
def tw12219512337994279101:=True
def tw15041719365863200989:=True
def tw7527641348757397016:=True
def tw12921430743581484741:=True
def tw8510445729506246471:=True
def tw5149022270065180065:=True
def tw17730636755415401172:=True
def tw12511339668804980009:=True
def tw5200636074157452158:=True
def tw5276898606641057525:=True
def tw12166331848401936850:=True
def tw1504279144596169865:=True
def tw14585049920662209098:=True
def tw15544319850845985875:=True
def tw14497005466489831311:=True
def tw13266575711535674016:=True
def tw5248410260194111751:=True
def tw6641644939606897769:=True
def tw7620452036462638763:=True
def tw11987452780706336409:=True
def tw11512800871555070244:=True
def tw17879328969809826842:=True
def tw18159068870248688597:=True
def tw18162755911601440350:=True
def tw11072588122086069488:=True
def tw15468432738164039448:=True
def tw3248055913495821118:=True
def tw5096627385252552927:=True
def tw14113581405541289799:=True
def tw14399484919563310044:=True
def tw14757578795706162426:=True
def tw3218773453325345771:=True
def tw8659090025648355233:=True
def tw6436789915150822087:=True
def tw12413070016374978302:=True
def tw9882275297384278677:=True
def tw1692311020090140030:=True
def tw7433924781817177353:=True
def tw6878812267149377604:=True
def tw12771466319176001373:=True
def tw2628782439933109072:=True
def tw7942607770516348388:=True
def tw14514751952600499614:=True
def tw10903854957647514804:=True
def tw17630120058964950529:=True
def tw17068610259901835286:=True
def tw1293819788977902536:=True
def tw11500444273282506442:=True
def tw9993772059564396224:=True
def tw809582213126883672:=True
def tw2772141899073913539:=True
def tw8850372431777588483:=True
def tw17454350811976582748:=True
def tw1698000388652698396:=True
def tw6876057537917911184:=True
def tw10497790571963781635:=True
def tw15809493177060748862:=True
def tw16972046878942720497:=True
def tw18280951972168532400:=True
def tw16650214755800119701:=True
def tw50478288362950785:=True
def tw17760445611456972060:=True
def tw2975347755090414549:=True
def tw8562499746527056325:=True
def tw16802793526121065753:=True
def tw8427455185035053844:=True
def tw5529553461429719475:=True
def tw14785608796796343004:=True
def tw17874027725504820702:=True
def tw14797109666525095369:=True
def tw10365098319533446267:=True
def tw1352562761691500837:=True
def tw5707528945036572979:=True
def tw11401936664712507071:=True
def tw8852463492728713187:=True
def tw6951442102748450786:=True
def tw11637847626803282527:=True
def tw1088686851980770053:=True
def tw3359151816927181360:=True
def tw12499899316301093440:=True
def tw7159319375527428133:=True
def tw16788693274951985835:=True
def tw2955948366272725244:=True
def tw6676976830392876669:=True
def tw11735069691318771526:=True
def tw2466628774925910184:=True
def tw2273796817318583648:=True
def tw14201671514642175842:=True
def tw5718936602457160866:=True
def tw14815244568208183424:=True
def tw9334233134799467444:=True
def tw8374944708832376051:=True
def tw2054289959462976096:=True
def tw2060904280281891465:=True
def tw345162315027948868:=True
def tw9436674037152197621:=True
def tw4914460119806864482:=True
def tw11020859908516301782:=True
def tw8479687310221670302:=True
def tw2307782161365587785:=True
def tw353027341499138585:=True
def tw14229269977705237604:=True
def tw17180805170936117333:=True
def tw1546338940122188894:=True
def tw11625920496234056035:=True
def tw12914916173403954478:=True
def tw12400268878745712665:=True
def tw9226002282257443543:=True
def tw7134990673633558506:=True
def tw17108471566785977218:=True
def tw7369037951602508395:=True
def tw3529293027560255552:=True
def tw14527043552304708079:=True
def tw14117504677775427511:=True
def tw3614831328837970150:=True
def tw17738584005642754077:=True
def tw13727666266002718953:=True
def tw8690557393067029483:=True
def tw10190192177643668604:=True
def tw11062056229310758010:=True
def tw12857852728760713253:=True
def tw5634857876759274182:=True
def tw10058995526051658597:=True
def tw18404792411284262894:=True
def tw2936582307833546074:=True
def tw2403567426271424414:=True
def tw82413702662169910:=True
def tw1345044437820313622:=True
def tw12037758133705100549:=True
def tw9871411924152610829:=True
def tw16665563954937853968:=True
def tw9548913639274817224:=True
def tw14027365570926760610:=True
def tw2967170980213033404:=True
def tw7900125366201762096:=True
def tw17325964713178031479:=True
def tw10527804885329252545:=True
def tw16262993032648695629:=True
def tw417193617598593702:=True
def tw16158833390245689719:=True
def tw5331884227984397543:=True
def tw16061278810638530621:=True
def tw11625583718792373239:=True
def tw8691468449378551396:=True
def tw9236899814138110884:=True
def tw12772152439969276283:=True
def tw1163438122124523850:=True
def tw15777381233681662253:=True
def tw8504184575264915864:=True
def tw9192991467393786843:=True
def tw11405110239233786320:=True
def tw7252880480449376001:=True
def tw13778432704010967660:=True
def tw3245025901746848037:=True
def tw5710696307055773388:=True
def tw12997399326894063916:=True
def tw6291412427168582335:=True
def tw9413548855147304884:=True
def tw9720457447540044308:=True
def tw977276440785220384:=True
def tw1204017277824499061:=True
def tw15851122909400570994:=True
def tw4965356907908754923:=True
def tw2627566300544293805:=True
def tw13286143458942288390:=True
def tw9926975011073266741:=True
def tw9309628675184345903:=True
def tw1743399681546199590:=True
def tw12934091767801173832:=True
def tw3929724890523366403:=True
def tw17337981018323543968:=True
def tw11624363010791137504:=True
def tw16725292093892446378:=True
def tw5176748280978063244:=True
def tw9509281070626879166:=True
def tw881649898187689403:=True
def tw7018216193782964331:=True
def tw3011185931416226421:=True
def tw13381912652166938261:=True
def tw3878607954692128961:=True
def tw6384936912901261483:=True
def tw10209879187843155310:=True
def tw7866875835831264288:=True
def tw8294278108397232393:=True
def tw13413271049237832019:=True
def tw3803044379269695546:=True
def tw9267943018475530955:=True
def tw6780608164615653910:=True
def tw15485027573573971328:=True
def tw4209429257829936303:=True
def tw3440893618274134197:=True
def tw4461027270322488145:=True
def tw16882077092045717818:=True
def tw3375985063685911398:=True
def tw15581638044427766662:=True
def tw11495392383137967173:=True
def tw11607027362792924980:=True
def tw13448697956804318542:=True
def tw18376279473473974868:=True
def tw15038316224282093010:=True
def tw16767678084768999490:=True
def tw8114211834811626761:=True
def tw2994684927046619282:=True
def tw10498898732648584323:=True
def tw5234378706010054584:=True
def tw16549020263268174061:=True
def tw972993631180273531:=True
def tw2209617302396531267:=True
def tw12078992252901608183:=True
def tw12726208144353073378:=True
def tw12734019068135230106:=True
def tw85776841878074965:=True
def tw9196859480751124320:=True
def tw9835693807964076884:=True
def tw8799024104460109587:=True
def tw17338542160578477800:=True
def tw13170708359157615360:=True
def tw9708721479143391136:=True
def tw17079277919553462482:=True
def tw18027724518923261908:=True
def tw14880951801615303149:=True
def tw4837355371587601331:=True
def tw5906521209664273589:=True
def tw10256061564232828717:=True
def tw2268096266025876698:=True
def tw10749707090834138225:=True
def tw907636914917592798:=True
def tw7995497496050324817:=True
def tw9359759240234111853:=True
def tw8951983975373437673:=True
def tw5978460254169137231:=True
def tw6624188927350791972:=True
def tw1694453357940884986:=True
def tw12826721514869787867:=True
def tw16079291830897719379:=True
def tw11309919107488924171:=True
def tw6732041235676771028:=True
def tw6533633190999469869:=True
def tw632843417168254685:=True
def tw5733513441226753746:=True
def tw3895730965104013086:=True
def tw13060658389721041164:=True
def tw3423894672542469118:=True
def tw10900966786914994189:=True
def tw5565986163449408078:=True
def tw5105125433888819381:=True
end PySem.W.Fast
set_option maxRecDepth 100000 in
set_option maxHeartbeats 0 in
theorem PySem.Challenge.cw_setsays_k63_whole_long_rows_holds : PySem.Challenge.rw_setsays_k63_whole_long_rows.Holds := by
 w_on;o_law;k_head;(case hw=>w_witness2)
 k_fill
 apply L2.walk_ofT (l:=PySem.Challenge.rw_setsays_k63_whole_long_rows) (n:=63) (k:=34) (x:="_law_script") (CX:=L2.CX0) (sp:=K63.sp_law) R (by decide) R ⟨R,by decide,by decide⟩ (λw h Y=>PySem.W.km_in_of Y) ?F (λ_ _ _ a ns hl hO hS=>⟨a,ns,R,hS,hl,hO,λ_=>rfl⟩) λ_ _ _ _ z=>z
 case F =>
  intro w mg fa h KX Gq hmg;obtain⟨tw,g_TELLING_WORDS,t_TELLING_WORDS⟩:∃q,L2.GlV mg "TELLING_WORDS" (.ref q)/\∀H,L2.SqT (L2.KOf KX) H q [.str "some",.str "all"]:=by
   dsimp only[L2.KOf];refine' L2.glt_mk KX Gq 05 05 (by decide) (by show .cons ⟨_,R⟩ 99)
  obtain⟨rw,g_TREE_WORDS,t_TREE_WORDS⟩:∃q,L2.GlV mg "TREE_WORDS" (.ref q)/\∀H,L2.SqT (L2.KOf KX) H q [.str "left",.str "right",.str "above"]:=by
   dsimp only[L2.KOf];refine' L2.glt_mk KX Gq 05 05 (by decide) (by show .cons ⟨_,R⟩ (.cons ⟨_,R⟩ 99))
  obtain⟨ff,g_FORMS,f_FORMS⟩:∃q,L2.GlV mg "FORMS" (.ref q)/\SS.Forms (L2.KOf KX) w q:=by
   dsimp only[L2.KOf];refine' SS.forms_mk KX Gq 05 (by decide) 05 (by show⟨⟨_,_,R,R⟩,⟨⟨_,_,R,R⟩,⟨⟨_,_,R,R⟩,⟨⟨_,_,R,R⟩,⟨⟨_,_,R,R⟩,⟨⟨_,_,R,R⟩,⟨⟨_,_,R,R⟩,⟨⟨_,_,R,R⟩,⟨⟨_,_,R,R⟩,⟨⟨_,_,R,R⟩,⟨⟨_,_,R,R⟩,⟨⟨_,_,R,R⟩,⟨⟨_,_,R,R⟩,trivial⟩⟩⟩⟩⟩⟩⟩⟩⟩⟩⟩⟩⟩) ?he;refine' .cons ⟨⟨_,R⟩,_,R,SS.sqt_mk 05 (by decide) (by show .cons ⟨_,R⟩ 99)⟩ (.cons ⟨⟨_,R⟩,_,R,SS.sqt_mk 05 (by decide) (by show .cons ⟨_,R⟩ 99)⟩ (.cons ⟨⟨_,R⟩,_,R,SS.sqt_mk 05 (by decide) (by show .cons ⟨_,R⟩ 99)⟩ (.cons ⟨⟨_,R⟩,_,R,SS.sqt_mk 05 (by decide) (by show .cons ⟨_,R⟩ 99)⟩ (.cons ⟨⟨_,R⟩,_,R,SS.sqt_mk 05 (by decide) (by show .cons ⟨_,R⟩ 99)⟩ (.cons ⟨⟨_,R⟩,_,R,SS.sqt_mk 05 (by decide) (by show .cons ⟨_,R⟩ 99)⟩ (.cons ⟨⟨_,R⟩,_,R,SS.sqt_mk 05 (by decide) (by show .cons ⟨_,R⟩ 99)⟩ (.cons ⟨⟨_,R⟩,_,R,SS.sqt_mk 05 (by decide) (by show .cons ⟨_,R⟩ 99)⟩ (.cons ⟨⟨_,R⟩,_,R,SS.sqt_mk 05 (by decide) (by show .cons ⟨_,R⟩ (.nil))⟩ (.cons ⟨⟨_,R⟩,_,R,SS.sqt_mk 05 (by decide) (by show .cons ⟨_,R⟩ 99)⟩ (.cons ⟨⟨_,R⟩,_,R,SS.sqt_mk 05 (by decide) (by show .cons ⟨_,R⟩ 99)⟩ (.cons ⟨⟨_,R⟩,_,R,SS.sqt_mk 05 (by decide) (by show .cons ⟨_,R⟩ 99)⟩ (.cons ⟨⟨_,R⟩,_,R,SS.sqt_mk 05 (by decide) (by show .cons ⟨_,R⟩ 99)⟩ (.nil)))))))))))))
  obtain⟨cj,g_JUST_ONCE,c_JUST_ONCE⟩:∃q,L2.GlV mg "JUST_ONCE" (.ref q)/\SM.CMach (L2.KOf KX) q SM.justM:=by
   dsimp only[L2.KOf];refine' SM.cm_mk (ls:=[_,_,_]) KX Gq 05 (SS.sqt_mk 05 ?cj_zp (by show .cons ⟨_,R⟩ (.cons R (.cons R (.nil))))) (SS.sqt_mk 05 ?cj_zb (by show .cons R (.cons R (.cons R (.nil))))) (.cons (SS.sqt_mk 05 ?cj_z0 (by show .cons ⟨_,R⟩ 99)) (.cons (SS.sqt_mk 05 ?cj_z1 (by show .cons ⟨_,R⟩ 99)) (.cons (SS.sqt_mk 05 ?cj_z2 (by show .cons ⟨_,R⟩ 99)) (.nil)))) (SS.sqt_mk 05 ?cj_zc (by show .cons R (.cons R (.cons R (.nil)))))
   all_goals decide
  obtain⟨ca,g_ANY_ROW,c_ANY_ROW⟩:∃q,L2.GlV mg "ANY_ROW" (.ref q)/\SM.CMach (L2.KOf KX) q SM.anyM:=by
   dsimp only[L2.KOf];refine' SM.cm_mk (ls:=[_]) KX Gq 05 (SS.sqt_mk 05 ?ca_zp (by show .cons ⟨_,R⟩ (.cons R (.cons R (.nil))))) (SS.sqt_mk 05 ?ca_zb (by show .cons R (.nil))) (.cons (SS.sqt_mk 05 ?ca_z0 (by show .cons ⟨_,R⟩ (.nil))) (.nil)) (SS.sqt_mk 05 ?ca_zc (by show .cons R (.nil)))
   all_goals decide
  obtain⟨ce,g_EACH_IN,c_EACH_IN⟩:∃q,L2.GlV mg "EACH_IN" (.ref q)/\SM.CMach (L2.KOf KX) q SM.eachM:=by
   dsimp only[L2.KOf];refine' SM.cm_mk (ls:=[_,_]) KX Gq 05 (SS.sqt_mk 05 ?ce_zp (by show .cons ⟨_,R⟩ (.cons R (.cons R (.nil))))) (SS.sqt_mk 05 ?ce_zb (by show .cons R (.cons R (.nil)))) (.cons (SS.sqt_mk 05 ?ce_z0 (by show .cons ⟨_,R⟩ (.cons ⟨_,R⟩ (.cons ⟨_,R⟩ 99)))) (.cons (SS.sqt_mk 05 ?ce_z1 (by show .cons ⟨_,R⟩ (.cons ⟨_,R⟩ (.cons ⟨_,R⟩ 99)))) (.nil))) (SS.sqt_mk 05 ?ce_zc (by show .cons R (.cons R (.nil))))
   all_goals decide
  obtain⟨co,g_COMES_AHEAD,c_COMES_AHEAD⟩:∃q,L2.GlV mg "COMES_AHEAD" (.ref q)/\SM.CMach (L2.KOf KX) q SM.aheadM:=by
   dsimp only[L2.KOf];refine' SM.cm_mk (ls:=[_,_,_]) KX Gq 05 (SS.sqt_mk 05 ?co_zp (by show .cons ⟨_,R⟩ (.cons R (.cons R (.nil))))) (SS.sqt_mk 05 ?co_zb (by show .cons R (.cons R (.cons R (.nil))))) (.cons (SS.sqt_mk 05 ?co_z0 (by show .cons ⟨_,R⟩ (.cons ⟨_,R⟩ (.cons ⟨_,R⟩ 99)))) (.cons (SS.sqt_mk 05 ?co_z1 (by show .cons ⟨_,R⟩ (.cons ⟨_,R⟩ (.cons ⟨_,R⟩ 99)))) (.cons (SS.sqt_mk 05 ?co_z2 (by show .cons ⟨_,R⟩ (.cons ⟨_,R⟩ (.cons ⟨_,R⟩ 99)))) (.nil)))) (SS.sqt_mk 05 ?co_zc (by show .cons R (.cons R (.cons R (.nil)))))
   all_goals decide
  obtain⟨cn,g_COMES_NEXT,c_COMES_NEXT⟩:∃q,L2.GlV mg "COMES_NEXT" (.ref q)/\SM.CMach (L2.KOf KX) q SM.nextM:=by
   dsimp only[L2.KOf];refine' SM.cm_mk (ls:=[_,_,_,_]) KX Gq 05 (SS.sqt_mk 05 ?cn_zp (by show .cons ⟨_,R⟩ (.cons R (.cons R (.nil))))) (SS.sqt_mk 05 ?cn_zb (by show .cons R (.cons R (.cons R (.cons R (.nil)))))) (.cons (SS.sqt_mk 05 ?cn_z0 (by show .cons ⟨_,R⟩ (.cons ⟨_,R⟩ (.cons ⟨_,R⟩ 99)))) (.cons (SS.sqt_mk 05 ?cn_z1 (by show .cons ⟨_,R⟩ (.cons ⟨_,R⟩ (.cons ⟨_,R⟩ 99)))) (.cons (SS.sqt_mk 05 ?cn_z2 (by show .cons ⟨_,R⟩ (.cons ⟨_,R⟩ (.cons ⟨_,R⟩ 99)))) (.cons (SS.sqt_mk 05 ?cn_z3 (by show .cons ⟨_,R⟩ (.cons ⟨_,R⟩ (.cons ⟨_,R⟩ 99)))) (.nil))))) (SS.sqt_mk 05 ?cn_zc (by show .cons R (.cons R (.cons R (.cons R (.nil))))))
   all_goals decide
  let T:K63.Txt (L2.KOf KX) mg w tw rw ff cj ca ce co cn:=by
   refine'⟨PySem.W.mg_none_of KX Gq 05,PySem.W.mg_none_of KX Gq 05,PySem.W.mg_none_of KX Gq 05,PySem.W.mg_none_of KX Gq 05,PySem.W.mg_none_of KX Gq 05,PySem.W.mg_none_of KX Gq 05,PySem.W.mg_none_of KX Gq 05,PySem.W.mg_none_of KX Gq 05,PySem.W.mg_none_of KX Gq 05,PySem.W.mg_none_of KX Gq 05,PySem.W.mg_none_of KX Gq 05,PySem.W.mg_none_of KX Gq 05,PySem.W.mg_none_of KX Gq 05,PySem.W.mg_none_of KX Gq 05,PySem.W.mg_none_of KX Gq 05,PySem.W.mg_none_of KX Gq 05,PySem.W.mg_none_of KX Gq 05,PySem.W.mg_none_of KX Gq 05,PySem.W.mg_none_of KX Gq 05,PySem.W.mg_none_of KX Gq 05,L2.glv_mk KX Gq 05 (by show⟨_,R⟩),L2.glv_mk KX Gq 05 (by show⟨_,R⟩),L2.glv_mk KX Gq 05 (by show⟨_,R⟩),L2.glv_mk KX Gq 05 (by show⟨_,R⟩),L2.glv_mk KX Gq 05 (by show⟨_,R⟩),L2.glv_mk KX Gq 05 (by show⟨_,R⟩),L2.glv_mk KX Gq 05 (by show⟨_,R⟩),L2.glv_mk KX Gq 05 (by show⟨_,R⟩),g_TELLING_WORDS,t_TELLING_WORDS,g_TREE_WORDS,t_TREE_WORDS,g_FORMS,f_FORMS,g_JUST_ONCE,c_JUST_ONCE,g_ANY_ROW,c_ANY_ROW,g_EACH_IN,c_EACH_IN,g_COMES_AHEAD,c_COMES_AHEAD,g_COMES_NEXT,c_COMES_NEXT⟩
  obtain⟨c_reduced,t_reduced,c_paired,t_paired,c_met,t_met,c_joined,t_joined,c_dropped,t_dropped,c_maker,t_maker,Kk,Kv,Tr,K7,Kj,Vn,n_reduced,n_paired,n_met,n_joined,n_dropped,n_maker,ne_paired_reduced,ne_met_reduced,ne_met_paired,ne_joined_reduced,ne_joined_paired,ne_joined_met,ne_dropped_reduced,ne_dropped_paired,ne_dropped_met,ne_dropped_joined,ne_maker_reduced,ne_maker_paired,ne_maker_met,ne_maker_joined,ne_maker_dropped⟩:∃c_reduced t_reduced c_paired t_paired c_met t_met c_joined t_joined c_dropped t_dropped c_maker t_maker,L2.DfnC (L2.KOf KX) mg "reduced" K63.Vl ["machine"] c_reduced t_reduced/\L2.DfnC (L2.KOf KX) mg "paired" K63.Vx ["one","other","is_end"] c_paired t_paired/\L2.DfnC (L2.KOf KX) mg "met" K63.P2 ["one","other"] c_met t_met/\L2.DfnC (L2.KOf KX) mg "joined" K63.Vu ["one","other"] c_joined t_joined/\L2.DfnC (L2.KOf KX) mg "dropped" K63.Vh ["machine","track"] c_dropped t_dropped/\L2.DfnC (L2.KOf KX) mg "maker" K63.V5 ["bare_of","fitting_of","met","joined","flipped","dropped"] c_maker t_maker/\(L2.KOf KX).lookup t_reduced=B/\(L2.KOf KX).lookup t_paired=B/\(L2.KOf KX).lookup t_met=B/\(L2.KOf KX).lookup t_joined=B/\(L2.KOf KX).lookup t_dropped=B/\(L2.KOf KX).lookup t_maker=B/\t_paired≠t_reduced/\t_met≠t_reduced/\t_met≠t_paired/\t_joined≠t_reduced/\t_joined≠t_paired/\t_joined≠t_met/\t_dropped≠t_reduced/\t_dropped≠t_paired/\t_dropped≠t_met/\t_dropped≠t_joined/\t_maker≠t_reduced/\t_maker≠t_paired/\t_maker≠t_met/\t_maker≠t_joined/\t_maker≠t_dropped:=by
   dsimp only[L2.KOf];refine'⟨_,_,_,_,_,_,_,_,_,_,_,_,L2.dfnc_mk KX Gq 05 05 05 05 (L2.kcode_mk 05 R R R R R (by decide)) (λ_ _ _ _ _ _=>L2.fit1 λ_=>rfl),L2.dfnc_mk KX Gq 05 05 05 05 (L2.kcode_mk 05 R R R R R (by decide)) (λ_ _ _ _ _ _=>L2.fit3 λ_ _ _=>rfl),L2.dfnc_mk KX Gq 05 05 05 05 (L2.kcode_mk 05 R R R R R (by decide)) (λ_ _ _ _ _ _=>L2.fit2 λ_ _=>rfl),L2.dfnc_mk KX Gq 05 05 05 05 (L2.kcode_mk 05 R R R R R (by decide)) (λ_ _ _ _ _ _=>L2.fit2 λ_ _=>rfl),L2.dfnc_mk KX Gq 05 05 05 05 (L2.kcode_mk 05 R R R R R (by decide)) (λ_ _ _ _ _ _=>L2.fit2 λ_ _=>rfl),L2.dfnc_mk KX Gq 05 05 05 05 (L2.kcode_mk 05 R R R R R (by decide)) (λ_ _ _ _ _ _=>L2.fit6 λ_ _ _ _ _ _=>rfl),?n0,?n1,?n2,?n3,?n4,?n5,(by decide),(by decide),(by decide),(by decide),(by decide),(by decide),(by decide),(by decide),(by decide),(by decide),(by decide),(by decide),(by decide),(by decide),(by decide)⟩
   case n0=>first|k_is|kernel_rfl
   case n1=>first|k_is|kernel_rfl
   case n2=>first|k_is|kernel_rfl
   case n3=>first|k_is|kernel_rfl
   case n4=>first|k_is|kernel_rfl
   case n5=>first|k_is|kernel_rfl
  let L:∃fd:FuncData,(∀(s:Shared) (v:Va),BindsTo s fd ⟨[v],[]⟩ [("_law_script",v)])/\L2.Fun (L2.KOf KX) "law" "law" K63.Px fa fd:=by
   dsimp only[L2.KOf];refine' L2.law_mk KX Gq hmg 05 05 05 05 ?b
   showλs u =>.of_eq R
  obtain⟨fd,hb,F⟩:=L;show⟨fd,[(t_reduced,K63.qs_reduced),(t_paired,K63.qs_paired),(t_met,K63.qs_met),(t_joined,K63.qs_joined),(t_dropped,K63.qs_dropped),(t_maker,K63.qs_maker)],hb,L2.ts_all (List.forall_mem_cons.mpr ⟨⟨Kk.tab (by decide+kernel),n_reduced⟩,(List.forall_mem_cons.mpr ⟨⟨Kv.tab (by decide+kernel),n_paired⟩,(List.forall_mem_cons.mpr ⟨⟨Tr.tab (by decide+kernel),n_met⟩,(List.forall_mem_cons.mpr ⟨⟨K7.tab (by decide+kernel),n_joined⟩,(List.forall_mem_cons.mpr ⟨⟨Kj.tab (by decide+kernel),n_dropped⟩,(List.forall_mem_cons.mpr ⟨⟨Vn.tab (by decide+kernel),n_maker⟩,λ_ z=>nomatch z⟩)⟩)⟩)⟩)⟩)⟩),λbase _ _ kb=>K63.all T 48 48 48 48 48 48 48 48 Kk 48 48 48 Kv 48 Tr K7 48 48 48 48 Kj Vn 48 48 48 48 48 48 48 48 48 48 48 48 48 48 48 48 48 48 48 48 48 48 48 48 48 48 48 48 48 48 48 48 ne_paired_reduced ne_met_reduced ne_met_paired ne_joined_reduced ne_joined_paired ne_joined_met ne_dropped_reduced ne_dropped_paired ne_dropped_met ne_dropped_joined ne_maker_reduced ne_maker_paired ne_maker_met ne_maker_joined ne_maker_dropped kb F⟩
